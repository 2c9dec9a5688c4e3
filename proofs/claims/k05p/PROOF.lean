import PyProof.Rows.All
import Wide.All
import OpenK.AllK
import Wide.FinOn
import HandS.ForMost
import HandS.Evl
import HandS.Lambda
import HandS.Codes
import HandS.IsInst
import HandS.Gcd
import HandS.Wide
import HandS.Deep
import HandS.Zip
import HandS.Ends
import HandS.NoneIn
import HandS.TupSets
import PySem.PyData
import PyProof.Lay0
import HandS.TupAny
import HandS.Style
import HandS.Exc
import HandS.TryMany
import HandS.ExcField
import HandS.ExcOwn
import HandS.WordsExc
import KE.KExcInit
import HandS.EndTab
import HandS.Conv
import HandS.TupMul
import KE.KSortedM
import HandS.Dict
import HandS.Property
import HandS.Words
import HandS.More
import HandS.SortKw
import HandS.Iter
import HandS.Walk
import KE.GoesMore
import HandS.DictComp
import HandS.SetFor
import PyProof.WalksMore
import KE.KOpsOwn
import HandS.Star
import HandS.GenBody
import HandS.GenYield
import HandS.GenList
import PyProof.ForAny
import PyProof.GenComp
import HandS.OwnEq
import KE.KCallOwn
import HandS.OwnIter
import PyProof.Rows.TupIter
import PyProof.DictValues
import KE.KDictWalk
import HandS.FStr
import KE.KDictPairs
import PyProof.DictFindH
import KE.KDictDisplayH
import HandS.TupLen
import KE.KEqDict
import HandS.Records
import PyProof.DictTruth
import HandS.Defaults
import HandS.DictTup
import HandS.CallLocal
import PyProof.Rows.SumAny
import HandS.Flow
import KE.DatumOrd
import KE.KDictItemsList
import PyProof.SumAny
import HandS.DictSubView
import PyProof.TupleOfGen
import KE.KDictSum
import PySem.Challenge.RW_tangentrows_k05_whole_sums_and_products
import HandS.Steps
import HandS.ClsMeth
import HandS.Text
import KE.GoesZip
import KE.KEqNest
import PyProof.NeKinds
import HandS.Head0
import HandS.Head1
import HandS.Head2
import HandS.Head3
import HandS.HeadHook1
import HandS.HeadHook2
import HandS.HeadNt
set_option Elab.async false
set_option linter.all false
set_option maxRecDepth 100000
set_option maxHeartbeats 3000000
namespace TD
open PySem L2
open Evl (Ex ex_l ex_t fresh_back sq_of st_of sz_of sz_lt)
abbrev Dt := PyData
/-- the builtin types that isinstance is asked about -/
abbrev tyNames : List String := ["int", "bool", "tuple", "str", "list", "dict"]
/-- a class of one's own whose objects are told -/
structure InsK (K : PySem.W.Frag) (C : Addr) : Prop where
  ic : C8.InsC K C
  no : ∀ T ∈ tyNames, PySem.W.kitOne K (.ref C) (.type T) = some false
mutual
inductive Den (K : PySem.W.Frag) (G : Hp) : V → Dt → Prop
  | non : Den K G .non .none
  | bl (b : Bool) : Den K G (.bl b) (.bool b)
  | int (i : Int) : Den K G (.int i) (.int i)
  | str (x : Str) : Den K G (.str x) (.str x)
  | lst {a : Addr} {xs : List V} {ds : List Dt} : G a = some (.lst xs) → DenL K G xs ds → Den K G (.ref a) (.list ds)
  | tup {a : Addr} {xs : List V} {ds : List Dt} : G a = some (.tup xs) → DenL K G xs ds → Den K G (.ref a) (.tuple ds)
  | dct {a : Addr} {kvs : List (Key × V)} : Rd G a (.dK kvs) → Den K G (.ref a) (.dict [])
  | dcE {a t : Addr} {k : Str} {i j : Int} : G a = some (.dK [(.inr k, .ref t)]) → SqT K G t [.int i, .int j] → Den K G (.ref a) (.dict [(.str k, .tuple [.int i, .int j])])
  | dcI {a : Addr} {kvs : List (Int × V)} {ps : List (Dt × Dt)} : Rd G a (.dK (kvs.map fun q => (Sum.inl q.1, q.2))) → DenP K G kvs ps → Den K G (.ref a) (.dict ((.none, .none) :: ps))
  | dcT {a : Addr} {kvs : List (List Key × V)} {ps : List (Dt × Dt)} : Rd G a (.dT kvs) → DenT K G kvs ps → Den K G (.ref a) (.dict ((.none, .bool true) :: ps))
  | ins {a C dx : Addr} {fs : List (Str × V)} {ps : List (Dt × Dt)} : InsK K C → G a = some (.ins C dx fs) → DenF K G fs ps → Den K G (.ref a) (.dict ((.none, .int ((C : Nat) : Int)) :: ps))
/-- a dict whose keys are tuples of ints -/
inductive DenT (K : PySem.W.Frag) (G : Hp) : List (List Key × V) → List (Dt × Dt) → Prop
  | nil : DenT K G [] []
  | cons {ns : List Int} {v : V} {kvs : List (List Key × V)} {d : Dt} {ps : List (Dt × Dt)} : Den K G v d → DenT K G kvs ps → DenT K G ((ns.map Sum.inl, v) :: kvs) ((.tuple (ns.map PyData.int), d) :: ps)
/-- the attributes of an object -/
inductive DenF (K : PySem.W.Frag) (G : Hp) : List (Str × V) → List (Dt × Dt) → Prop
  | nil : DenF K G [] []
  | cons {f : Str} {v : V} {fs : List (Str × V)} {d : Dt} {ps : List (Dt × Dt)} : Den K G v d → DenF K G fs ps → DenF K G ((f, v) :: fs) ((.str f, d) :: ps)
inductive DenP (K : PySem.W.Frag) (G : Hp) : List (Int × V) → List (Dt × Dt) → Prop
  | nil : DenP K G [] []
  | cons {i : Int} {v : V} {kvs : List (Int × V)} {d : Dt} {ps : List (Dt × Dt)} : Den K G v d → DenP K G kvs ps → DenP K G ((i, v) :: kvs) ((.int i, d) :: ps)
inductive DenL (K : PySem.W.Frag) (G : Hp) : List V → List Dt → Prop
  | nil : DenL K G [] []
  | cons {v : V} {vs : List V} {d : Dt} {ds : List Dt} : Den K G v d → DenL K G vs ds → DenL K G (v :: vs) (d :: ds)
end
theorem rd_ex {G G' : Hp} {a : Addr} {u : HO} (e : Ex G G') (h : Rd G a u) : Rd G' a u := h.elim (fun h => .inl (e _ _ h)) fun ⟨o, h⟩ => .inr ⟨o, e _ _ h⟩
section
variable {K : PySem.W.Frag} {G G' : Hp}
mutual
theorem Den.mono (e : Ex G G') : ∀ {d : Dt} {v : V}, Den K G v d → Den K G' v d
  | .none, _, h => by cases h; exact .non
  | .bool b, _, h => by cases h; exact .bl b
  | .int i, _, h => by cases h; exact .int i
  | .str x, _, h => by cases h; exact .str x
  | .list ds, _, h => by
    cases h with
    | lst hs hd => exact .lst (e _ _ hs) (DenL.mono e hd)
  | .tuple ds, _, h => by
    cases h with
    | tup hs hd => exact .tup (e _ _ hs) (DenL.mono e hd)
  | .dict kvs, _, h => by
    cases h with
    | dct hs => exact .dct (rd_ex e hs)
    | dcE hs ht => exact .dcE (e _ _ hs) (ex_t e ht)
    | dcI hs hp => exact .dcI (rd_ex e hs) (DenP.mono e hp)
    | dcT hs hp => exact .dcT (rd_ex e hs) (DenT.mono e hp)
    | ins hc hs hp => exact .ins hc (e _ _ hs) (DenF.mono e hp)
theorem DenT.mono (e : Ex G G') : ∀ {ps : List (Dt × Dt)} {kvs : List (List Key × V)}, DenT K G kvs ps → DenT K G' kvs ps
  | [], _, h => by cases h; exact .nil
  | q :: ps, _, h => by
    cases h with
    | cons h1 h2 => exact .cons (Den.mono e h1) (DenT.mono e h2)
theorem DenF.mono (e : Ex G G') : ∀ {ps : List (Dt × Dt)} {fs : List (Str × V)}, DenF K G fs ps → DenF K G' fs ps
  | [], _, h => by cases h; exact .nil
  | q :: ps, _, h => by
    cases h with
    | cons h1 h2 => exact .cons (Den.mono e h1) (DenF.mono e h2)
theorem DenP.mono (e : Ex G G') : ∀ {ps : List (Dt × Dt)} {kvs : List (Int × V)}, DenP K G kvs ps → DenP K G' kvs ps
  | [], _, h => by cases h; exact .nil
  | q :: ps, _, h => by
    cases h with
    | cons h1 h2 => exact .cons (Den.mono e h1) (DenP.mono e h2)
theorem DenL.mono (e : Ex G G') : ∀ {ds : List Dt} {vs : List V}, DenL K G vs ds → DenL K G' vs ds
  | [], _, h => by cases h; exact .nil
  | d :: ds, _, h => by
    cases h with
    | cons h1 h2 => exact .cons (Den.mono e h1) (DenL.mono e h2)
end
theorem DenL.length : ∀ {vs : List V} {ds : List Dt}, DenL K G vs ds → vs.length = ds.length
  | [], [], _ => rfl
  | [], _ :: _, h => nomatch h
  | _ :: _, [], h => nomatch h
  | _ :: _, _ :: _, .cons _ h => congrArg (· + 1) h.length
theorem DenL.get : ∀ {vs : List V} {ds : List Dt} {i : Nat} {v : V}, DenL K G vs ds → vs[i]? = some v → ∃ d, ds[i]? = some d ∧ Den K G v d
  | [], [], _, _, _, h => by simp at h
  | [], _ :: _, _, _, h, _ => nomatch h
  | _ :: _, [], _, _, h, _ => nomatch h
  | _ :: _, d :: _, 0, _, .cons h1 _, h => by simp at h; subst h; exact ⟨d, rfl, h1⟩
  | _ :: _, _ :: _, i + 1, v, .cons _ h2, h => by
    obtain ⟨d, h3, h4⟩ := DenL.get (i := i) (v := v) h2 (by simpa using h)
    exact ⟨d, by simpa using h3, h4⟩
theorem DenL.get' : ∀ {vs : List V} {ds : List Dt} {i : Nat} {d : Dt}, DenL K G vs ds → ds[i]? = some d → ∃ v, vs[i]? = some v ∧ Den K G v d
  | [], [], _, _, _, h => by simp at h
  | [], _ :: _, _, _, h, _ => nomatch h
  | _ :: _, [], _, _, h, _ => nomatch h
  | v :: _, d :: _, 0, _, .cons h1 _, h => by simp at h; subst h; exact ⟨v, rfl, h1⟩
  | _ :: _, _ :: _, i + 1, d, .cons _ h2, h => by
    obtain ⟨v, h3, h4⟩ := DenL.get' (i := i) (d := d) h2 (by simpa using h)
    exact ⟨v, by simpa using h3, h4⟩
theorem DenL.append : ∀ {vs ws : List V} {ds es : List Dt}, DenL K G vs ds → DenL K G ws es → DenL K G (vs ++ ws) (ds ++ es)
  | [], _, [], _, _, h => h
  | [], _, _ :: _, _, h, _ => nomatch h
  | _ :: _, _, [], _, h, _ => nomatch h
  | _ :: _, _, _ :: _, _, .cons h1 h2, h => .cons h1 (DenL.append h2 h)
theorem DenL.drop : ∀ (n : Nat) {vs : List V} {ds : List Dt}, DenL K G vs ds → DenL K G (vs.drop n) (ds.drop n)
  | 0, _, _, h => h
  | _ + 1, [], [], _ => .nil
  | _ + 1, [], _ :: _, h => nomatch h
  | _ + 1, _ :: _, [], h => nomatch h
  | n + 1, _ :: _, _ :: _, .cons _ h => DenL.drop n h
theorem DenL.take : ∀ (n : Nat) {vs : List V} {ds : List Dt}, DenL K G vs ds → DenL K G (vs.take n) (ds.take n)
  | 0, _, _, _ => .nil
  | _ + 1, [], [], _ => .nil
  | _ + 1, [], _ :: _, h => nomatch h
  | _ + 1, _ :: _, [], h => nomatch h
  | n + 1, _ :: _, _ :: _, .cons h1 h => .cons h1 (DenL.take n h)
theorem DenL.ints : ∀ {vs : List V} {ns : List Int}, DenL K G vs (ns.map PyData.int) → vs = ns.map V.int
  | [], [], _ => rfl
  | [], _ :: _, h => nomatch h
  | _ :: _, [], h => nomatch h
  | _ :: _, n :: ns, .cons h1 h2 => by
    cases h1
    rw [DenL.ints h2]
    rfl
theorem DenL.of_ints : ∀ (ns : List Int), DenL K G (ns.map V.int) (ns.map PyData.int)
  | [] => .nil
  | n :: ns => .cons (.int n) (DenL.of_ints ns)
theorem DenL.bls : ∀ {vs : List V} {ns : List Bool}, DenL K G vs (ns.map PyData.bool) → vs = ns.map V.bl
  | [], [], _ => rfl
  | [], _ :: _, h => nomatch h
  | _ :: _, [], h => nomatch h
  | _ :: _, n :: ns, .cons h1 h2 => by
    cases h1
    rw [DenL.bls h2]
    rfl
end
/-- the tables of code objects that the text's lambdas write: where they stand, the name of their code objects -/
class TabW where
  w : Addr → Str → Prop
def NoTabs (G : Hp) : Prop := ∀ x ps, G x ≠ some (.tbl ps)
structure TabsOk [TabW] (G H : Hp) : Prop where
  tab : ∀ P q, TabW.w P q → LamX.TabS H P q
  free : NoTabs G
def NoTb (o : HO) : Prop := ∀ ps, o ≠ .tbl ps
/-- a thing that may change: neither a table nor a tuple -/
def NoT (o : HO) : Prop := NoTb o ∧ ∀ xs, o ≠ .tup xs
theorem NoT.lst {xs : List V} : NoT (.lst xs) := ⟨fun _ z => (by cases z), fun _ z => (by cases z)⟩
inductive Slot where
  | imm (d : Dt)
  | bag
  | fn (a : Addr)
abbrev Rho := List (Option Slot)
/-- the bag's numbers, where there is a bag -/
abbrev Bag := Option (List Int)
def BagOk (b : Addr) (β : Bag) (G H : Hp) : Prop := ∀ ns, β = some ns → H b = some (.lst (ns.map V.int)) ∧ G b = none
structure EnvD [TabW] (K : PySem.W.Frag) (b : Addr) (β : Bag) (G H : Hp) (σ : L2.St) (ρ : Rho) : Prop where
  sub : Ex G H
  bagk : BagOk b β G H
  len : σ.length = ρ.length
  imm : ∀ (i : Nat) (d : Dt), ρ[i]? = some (some (Slot.imm d)) → ∃ v, σ[i]? = some (some v) ∧ Den K G v d
  bagv : ∀ (i : Nat), ρ[i]? = some (some Slot.bag) → σ[i]? = some (some (V.ref b))
  tabs : TabsOk G H
  fnv : ∀ (i : Nat) (a : Addr), ρ[i]? = some (some (Slot.fn a)) → σ[i]? = some (some (V.ref a))
/-- m: there is a bag, which may change -/
structure Step [TabW] (b : Addr) (m : Bool) (G H G' H' : Hp) : Prop where
  g : Ex G G'
  s : Ex G' H'
  fresh : ∀ x o, G x = none → NoT o → H x = some o → G' x = none
  keep : ∀ x o, (m = true → x ≠ b) → NoT o → H x = some o → H' x = some o
  stay : ∀ x o, NoT o → H x = some o → ∃ o', NoT o' ∧ H' x = some o'
  tabs : TabsOk G H → TabsOk G' H'
section
variable [TabW] {K : PySem.W.Frag} {b : Addr} {m : Bool} {β β' : Bag} {G H G1 H1 G2 H2 : Hp} {σ : L2.St} {ρ : Rho}
theorem Step.refl (e : Ex G H) : Step b m G H G H := ⟨Ex.refl G, e, fun _ _ h _ _ => h, fun _ _ _ _ h => h, fun _ o t h => ⟨o, t, h⟩, fun h => h⟩
theorem Step.trans (x : Step b m G H G1 H1) (y : Step b m G1 H1 G2 H2) : Step b m G H G2 H2 :=
  ⟨x.g.trans y.g, y.s, fun a o h1 t h2 => let ⟨o', t', h'⟩ := x.stay a o t h2; y.fresh a o' (x.fresh a o h1 t h2) t' h', fun a o n t h => y.keep a o n t (x.keep a o n t h), fun a o t h => let ⟨o', t', h'⟩ := x.stay a o t h; y.stay a o' t' h', fun h => y.tabs (x.tabs h)⟩
theorem Step.up (x : Step b false G H G1 H1) : Step b m G H G1 H1 := ⟨x.g, x.s, x.fresh, fun a o _ t h => x.keep a o (fun z => by cases z) t h, x.stay, x.tabs⟩
/-- a new object -/
theorem Step.new {p : Addr} {o : HO} (e : Ex G H) (hp : H p = none) (nt : NoTb o := by intro _ z; cases z) : Step b m G H (upd G p o) (upd H p o) := by
  have gp : G p = none := fresh_back e hp
  refine ⟨Ex.new gp, fun a u h => ?_, fun a u h1 t h2 => ?_, fun a u _ _ h => ?_, fun a u t h => ?_, fun h => ⟨fun P q w => (h.tab P q w).ext fun a u z => ?_, fun x ps z => ?_⟩⟩
  · by_cases z : a = p
    · subst z; rw [upd_same] at h ⊢; exact h
    · rw [upd_ne z] at h ⊢; exact e a u h
  · rw [upd_ne (ne_of_none h2 hp)]; exact h1
  · rw [upd_ne (ne_of_none h hp)]; exact h
  · exact ⟨u, t, by rw [upd_ne (ne_of_none h hp)]; exact h⟩
  · rw [upd_ne (ne_of_none z hp)]; exact z
  · by_cases q : x = p
    · rw [q, upd_same] at z; exact nt ps (Option.some.inj z)
    · rw [upd_ne q] at z; exact h.free x ps z
theorem BagOk.step {m} (x : Step b m G H G1 H1) (h : BagOk b β G H) (hm : β.isSome = true → m = true → False ∨ H1 b = H b) : BagOk b β G1 H1 := fun ns e => by
  obtain ⟨h1, h2⟩ := h ns e
  refine ⟨?_, x.fresh b _ h2 NoT.lst h1⟩
  cases m with
  | false => exact x.keep b _ (fun z => by cases z) NoT.lst h1
  | true =>
    rcases hm (by rw [e]; rfl) rfl with z | z
    · exact z.elim
    · rw [z]; exact h1
theorem BagOk.same (x : Step b false G H G1 H1) (h : BagOk b β G H) : BagOk b β G1 H1 := BagOk.step x h fun _ z => by cases z
theorem BagOk.gone (x : Step b m G H G1 H1) (h : BagOk b β G H) : β.isSome = true → G1 b = none := fun z => by
  obtain ⟨ns, e⟩ := Option.isSome_iff_exists.mp z
  obtain ⟨h1, h2⟩ := h ns e
  exact x.fresh b _ h2 NoT.lst h1
theorem EnvD.step (E : EnvD K b β G H σ ρ) (x : Step b m G H G1 H1) (hb : BagOk b β' G1 H1) : EnvD K b β' G1 H1 σ ρ :=
  ⟨x.s, hb, E.len, fun i d h => let ⟨v, h1, h2⟩ := E.imm i d h; ⟨v, h1, h2.mono x.g⟩, E.bagv, x.tabs E.tabs, E.fnv⟩
theorem EnvD.same (E : EnvD K b β G H σ ρ) (x : Step b false G H G1 H1) : EnvD K b β G1 H1 σ ρ := E.step x (E.bagk.same x)
theorem EnvD.set {i : Nat} {v : V} {d : Dt} (E : EnvD K b β G H σ ρ) (h : Den K G v d) : EnvD K b β G H (σ.set i (some v)) (ρ.set i (some (.imm d))) := by
  refine ⟨E.sub, E.bagk, by rw [List.length_set, List.length_set]; exact E.len, fun j e hj => ?_, fun j hj => ?_, E.tabs, fun j a hj => ?_⟩
  · by_cases z : i = j
    · subst z
      have hl : i < ρ.length := by
        have := (List.getElem?_eq_some_iff.mp hj).1
        rw [List.length_set] at this
        exact this
      rw [List.getElem?_set_self hl] at hj
      cases hj
      exact ⟨v, List.getElem?_set_self (by rw [E.len]; exact hl), h⟩
    · rw [List.getElem?_set_ne z] at hj
      rw [List.getElem?_set_ne z]
      exact E.imm j e hj
  · by_cases z : i = j
    · subst z
      have hl : i < ρ.length := by
        have := (List.getElem?_eq_some_iff.mp hj).1
        rw [List.length_set] at this
        exact this
      rw [List.getElem?_set_self hl] at hj
      cases hj
    · rw [List.getElem?_set_ne z] at hj
      rw [List.getElem?_set_ne z]
      exact E.bagv j hj
  · by_cases z : i = j
    · subst z
      have hl : i < ρ.length := by
        have := (List.getElem?_eq_some_iff.mp hj).1
        rw [List.length_set] at this
        exact this
      rw [List.getElem?_set_self hl] at hj
      cases hj
    · rw [List.getElem?_set_ne z] at hj
      rw [List.getElem?_set_ne z]
      exact E.fnv j a hj
theorem EnvD.setFn {i : Nat} {f : Addr} (E : EnvD K b β G H σ ρ) : EnvD K b β G H (σ.set i (some (.ref f))) (ρ.set i (some (.fn f))) := by
  refine ⟨E.sub, E.bagk, by rw [List.length_set, List.length_set]; exact E.len, fun j e hj => ?_, fun j hj => ?_, E.tabs, fun j a hj => ?_⟩
  · by_cases z : i = j
    · subst z
      have hl : i < ρ.length := by
        have := (List.getElem?_eq_some_iff.mp hj).1
        rw [List.length_set] at this
        exact this
      rw [List.getElem?_set_self hl] at hj
      cases hj
    · rw [List.getElem?_set_ne z] at hj
      rw [List.getElem?_set_ne z]
      exact E.imm j e hj
  · by_cases z : i = j
    · subst z
      have hl : i < ρ.length := by
        have := (List.getElem?_eq_some_iff.mp hj).1
        rw [List.length_set] at this
        exact this
      rw [List.getElem?_set_self hl] at hj
      cases hj
    · rw [List.getElem?_set_ne z] at hj
      rw [List.getElem?_set_ne z]
      exact E.bagv j hj
  · by_cases z : i = j
    · subst z
      have hl : i < ρ.length := by
        have := (List.getElem?_eq_some_iff.mp hj).1
        rw [List.length_set] at this
        exact this
      rw [List.getElem?_set_self hl] at hj
      cases hj
      exact List.getElem?_set_self (by rw [E.len]; exact hl)
    · rw [List.getElem?_set_ne z] at hj
      rw [List.getElem?_set_ne z]
      exact E.fnv j a hj
theorem EnvD.unset {i : Nat} (E : EnvD K b β G H σ ρ) : EnvD K b β G H (σ.set i none) (ρ.set i none) := by
  refine ⟨E.sub, E.bagk, by rw [List.length_set, List.length_set]; exact E.len, fun j e hj => ?_, fun j hj => ?_, E.tabs, fun j a hj => ?_⟩
  · by_cases z : i = j
    · subst z
      have hl : i < ρ.length := by
        have := (List.getElem?_eq_some_iff.mp hj).1
        rw [List.length_set] at this
        exact this
      rw [List.getElem?_set_self hl] at hj
      cases hj
    · rw [List.getElem?_set_ne z] at hj
      rw [List.getElem?_set_ne z]
      exact E.imm j e hj
  · by_cases z : i = j
    · subst z
      have hl : i < ρ.length := by
        have := (List.getElem?_eq_some_iff.mp hj).1
        rw [List.length_set] at this
        exact this
      rw [List.getElem?_set_self hl] at hj
      cases hj
    · rw [List.getElem?_set_ne z] at hj
      rw [List.getElem?_set_ne z]
      exact E.bagv j hj
  · by_cases z : i = j
    · subst z
      have hl : i < ρ.length := by
        have := (List.getElem?_eq_some_iff.mp hj).1
        rw [List.length_set] at this
        exact this
      rw [List.getElem?_set_self hl] at hj
      cases hj
    · rw [List.getElem?_set_ne z] at hj
      rw [List.getElem?_set_ne z]
      exact E.fnv j a hj
def wipeR (ρ : Rho) : List Nat → Rho
  | [] => ρ
  | v :: vs => (wipeR ρ vs).set v none
theorem EnvD.wipe (E : EnvD K b β G H σ ρ) : ∀ vs : List Nat, EnvD K b β G H (L2.wipe σ vs) (wipeR ρ vs)
  | [] => E
  | v :: vs => (EnvD.wipe E vs).unset
end
/-- an expression: the datum d, the bag behind it β' -/
structure EvB [TabW] (K : PySem.W.Frag) (te : TE) (ρ : Rho) (β : Bag) (d : Dt) (β' : Bag) : Prop where
  som : β'.isSome = β.isSome
  run : ∀ (b : Addr) (G H : Hp) (σ : L2.St) (Q : VK), EnvD K b β G H σ ρ → (∀ v G' H', Step b β.isSome G H G' H' → BagOk b β' G' H' → Den K G' v d → Q v H') → te σ H Q
structure TtB [TabW] (K : PySem.W.Frag) (tt : TT) (ρ : Rho) (β : Bag) (c : Bool) (β' : Bag) : Prop where
  som : β'.isSome = β.isSome
  run : ∀ (b : Addr) (G H : Hp) (σ : L2.St) (Q : Bool → Hp → Prop), EnvD K b β G H σ ρ → (∀ G' H', Step b β.isSome G H G' H' → BagOk b β' G' H' → Q c H') → tt σ H Q
/-- arguments: data, or the bag itself -/
def DenS (K : PySem.W.Frag) (b : Addr) (G : Hp) (v : V) : Slot → Prop
  | .imm d => Den K G v d
  | .bag => v = .ref b
  | .fn a => v = .ref a
inductive DenSs (K : PySem.W.Frag) (b : Addr) (G : Hp) : List V → List Slot → Prop
  | nil : DenSs K b G [] []
  | cons {v : V} {vs : List V} {a : Slot} {as : List Slot} : DenS K b G v a → DenSs K b G vs as → DenSs K b G (v :: vs) (a :: as)
structure EvS [TabW] (K : PySem.W.Frag) (te : TE) (ρ : Rho) (β : Bag) (a : Slot) (β' : Bag) : Prop where
  som : β'.isSome = β.isSome
  run : ∀ (b : Addr) (G H : Hp) (σ : L2.St) (Q : VK), EnvD K b β G H σ ρ → (∀ v G' H', Step b β.isSome G H G' H' → BagOk b β' G' H' → DenS K b G' v a → Q v H') → te σ H Q
structure EvA [TabW] (K : PySem.W.Frag) (ta : TA) (ρ : Rho) (β : Bag) (as : List Slot) (β' : Bag) : Prop where
  som : β'.isSome = β.isSome
  run : ∀ (b : Addr) (G H : Hp) (σ : L2.St) (Q : List V → Hp → Prop), EnvD K b β G H σ ρ → (∀ vs G' H', Step b β.isSome G H G' H' → BagOk b β' G' H' → DenSs K b G' vs as → Q vs H') → ta σ H Q
inductive Out where
  | nx (ρ : Rho)
  | ret (d : Dt)
  | brk (ρ : Rho)
  | ct (ρ : Rho)
def OutOk [TabW] (K : PySem.W.Frag) (b : Addr) (m : Bool) (β' : Bag) (G H : Hp) (D : Ends) : Out → Prop
  | .nx ρ' => ∀ σ' G' H', Step b m G H G' H' → EnvD K b β' G' H' σ' ρ' → D.nx σ' H'
  | .brk ρ' => ∀ σ' G' H', Step b m G H G' H' → EnvD K b β' G' H' σ' ρ' → D.bk σ' H'
  | .ct ρ' => ∀ σ' G' H', Step b m G H G' H' → EnvD K b β' G' H' σ' ρ' → D.ct σ' H'
  | .ret d => ∀ v G' H', Step b m G H G' H' → BagOk b β' G' H' → Den K G' v d → D.rt v H'
structure StB [TabW] (K : PySem.W.Frag) (ts : TS) (ρ : Rho) (β : Bag) (o : Out) (β' : Bag) : Prop where
  som : β'.isSome = β.isSome
  run : ∀ (b : Addr) (G H : Hp) (σ : L2.St) (D : Ends), EnvD K b β G H σ ρ → OutOk K b β.isSome β' G H D o → ts D σ H
end TD
set_option Elab.async false
set_option linter.all false
set_option maxRecDepth 100000
set_option maxHeartbeats 3000000
namespace TD
open PySem L2
open Evl (Ex ex_l ex_t fresh_back sq_of st_of sz_of sz_lt rMax2)
section
variable [TabW] {K : PySem.W.Frag} {b : Addr} {ρ : Rho} {β β1 β2 β3 : Bag} {ta tb te tc : TE} {tt tu : TT} {x y z d : Dt} {G H G1 H1 G2 H2 : Hp} {σ : L2.St}
/-- the leaf: the state as it stands -/
theorem ev_now (h : ∀ b G H σ, EnvD K b β G H σ ρ → ∀ Q : VK, (∀ v, Den K G v d → Q v H) → te σ H Q) : EvB K te ρ β d β :=
  ⟨rfl, fun b G H σ Q E k => h b G H σ E Q fun v hv => k v G H (Step.refl E.sub) E.bagk hv⟩
theorem d_var {i : Nat} (h : ρ[i]? = some (some (Slot.imm d))) : EvB K (tVar i) ρ β d β := ev_now fun b G H σ E Q k => by
  obtain ⟨v, h1, h2⟩ := E.imm i d h
  exact ⟨v, h1, k v h2⟩
theorem d_int {i : Int} : EvB K (tC (.int i)) ρ β (.int i) β := ev_now fun _ _ _ _ _ _ k => k _ (.int i)
theorem d_bl {c : Bool} : EvB K (tC (.bl c)) ρ β (.bool c) β := ev_now fun _ _ _ _ _ _ k => k _ (.bl c)
theorem d_non : EvB K (tC .non) ρ β .none β := ev_now fun _ _ _ _ _ _ k => k _ .non
theorem d_str {s : Str} : EvB K (tC (.str s)) ρ β (.str s) β := ev_now fun _ _ _ _ _ _ k => k _ (.str s)
/-- a constant of the module, a tuple or list of the written part -/
theorem d_ref {a : Addr} (h : ∀ G, Den K G (.ref a) d) : EvB K (tC (.ref a)) ρ β d β := ev_now fun _ G _ _ _ _ k => k _ (h G)
theorem EvB.to {d' : Dt} (h : EvB K te ρ β d β1) (e : d = d') : EvB K te ρ β d' β1 := e ▸ h
theorem TtB.to {c c' : Bool} (h : TtB K tt ρ β c β1) (e : c = c') : TtB K tt ρ β c' β1 := e ▸ h
theorem d_op {r : R2} (ha : EvB K ta ρ β x β1) (hb : EvB K tb ρ β1 y β2)
    (hr : ∀ (b : Addr) (G H : Hp) (v w : V) (Q : VK), Ex G H → Den K G v x → Den K G w y → (∀ u G' H', Step b false G H G' H' → Den K G' u z → Q u H') → r v w H Q) : EvB K (tOp r ta tb) ρ β z β2 := by
  refine ⟨hb.som.trans ha.som, fun b G H σ Q E k => ?_⟩
  refine ha.run b G H σ _ E fun v G1 H1 s1 k1 d1 => ?_
  refine hb.run b G1 H1 σ _ (E.step s1 k1) fun w G2 H2 s2 k2 d2 => ?_
  rw [ha.som] at s2
  exact hr b G2 H2 v w Q s2.s (d1.mono s2.g) d2 fun u G3 H3 s3 d3 => k u G3 H3 ((s1.trans s2).trans s3.up) (k2.same s3) d3
theorem d_un {r : V → Hp → VK → Prop} (ha : EvB K ta ρ β x β1) (hr : ∀ (b : Addr) (G H : Hp) (v : V) (Q : VK), Ex G H → Den K G v x → (∀ u G' H', Step b false G H G' H' → Den K G' u z → Q u H') → r v H Q) : EvB K (tUn r ta) ρ β z β1 := by
  refine ⟨ha.som, fun b G H σ Q E k => ?_⟩
  refine ha.run b G H σ _ E fun v G1 H1 s1 k1 d1 => ?_
  exact hr b G1 H1 v Q s1.s d1 fun u G3 H3 s3 d3 => k u G3 H3 (s1.trans s3.up) (k1.same s3) d3
theorem d_rI0 {g : Int → Int → V} {i j : Int} (ha : EvB K ta ρ β (.int i) β1) (hb : EvB K tb ρ β1 (.int j) β2) (hz : ∀ G, Den K G (g i j) z) : EvB K (tOp (rI0 g) ta tb) ρ β z β2 :=
  d_op ha hb fun b G H v w Q e h1 h2 k => by
    cases h1
    cases h2
    exact ⟨i, j, rfl, rfl, k _ G H (Step.refl e) (hz G)⟩
theorem d_rI {C : Int → Int → Prop} {g : Int → Int → V} {i j : Int} (ha : EvB K ta ρ β (.int i) β1) (hb : EvB K tb ρ β1 (.int j) β2) (hc : C i j) (hz : ∀ G, Den K G (g i j) z) : EvB K (tOp (rI C g) ta tb) ρ β z β2 :=
  d_op ha hb fun b G H v w Q e h1 h2 k => by
    cases h1
    cases h2
    exact ⟨i, j, rfl, rfl, hc, k _ G H (Step.refl e) (hz G)⟩
theorem d_add {i j : Int} (ha : EvB K ta ρ β (.int i) β1) (hb : EvB K tb ρ β1 (.int j) β2) : EvB K (tOp (rI0 fun i j => .int (i + j)) ta tb) ρ β (.int (i + j)) β2 := d_rI0 ha hb fun _ => .int _
theorem d_sub {i j : Int} (ha : EvB K ta ρ β (.int i) β1) (hb : EvB K tb ρ β1 (.int j) β2) : EvB K (tOp (rI0 fun i j => .int (i - j)) ta tb) ρ β (.int (i - j)) β2 := d_rI0 ha hb fun _ => .int _
theorem d_lt {i j : Int} (ha : EvB K ta ρ β (.int i) β1) (hb : EvB K tb ρ β1 (.int j) β2) : EvB K (tOp (rI0 fun i j => .bl (decide (i < j))) ta tb) ρ β (.bool (decide (i < j))) β2 := d_rI0 ha hb fun _ => .bl _
theorem d_le {i j : Int} (ha : EvB K ta ρ β (.int i) β1) (hb : EvB K tb ρ β1 (.int j) β2) : EvB K (tOp (rI0 fun i j => .bl (decide (i ≤ j))) ta tb) ρ β (.bool (decide (i ≤ j))) β2 := d_rI0 ha hb fun _ => .bl _
theorem d_gt {i j : Int} (ha : EvB K ta ρ β (.int i) β1) (hb : EvB K tb ρ β1 (.int j) β2) : EvB K (tOp (rI0 fun i j => .bl (decide (j < i))) ta tb) ρ β (.bool (decide (j < i))) β2 := d_rI0 ha hb fun _ => .bl _
theorem d_ge {i j : Int} (ha : EvB K ta ρ β (.int i) β1) (hb : EvB K tb ρ β1 (.int j) β2) : EvB K (tOp (rI0 fun i j => .bl (decide (j ≤ i))) ta tb) ρ β (.bool (decide (j ≤ i))) β2 := d_rI0 ha hb fun _ => .bl _
theorem d_mul {i j : Int} {C : Int → Int → Prop} (ha : EvB K ta ρ β (.int i) β1) (hb : EvB K tb ρ β1 (.int j) β2) (hc : C i j) : EvB K (tOp (rI C fun i j => .int (i * j)) ta tb) ρ β (.int (i * j)) β2 := d_rI ha hb hc fun _ => .int _
theorem d_mod {i j : Int} {C : Int → Int → Prop} (ha : EvB K ta ρ β (.int i) β1) (hb : EvB K tb ρ β1 (.int j) β2) (hc : C i j) : EvB K (tOp (rI C fun i j => .int (i % j)) ta tb) ρ β (.int (i % j)) β2 := d_rI ha hb hc fun _ => .int _
theorem d_div {i j : Int} {C : Int → Int → Prop} (ha : EvB K ta ρ β (.int i) β1) (hb : EvB K tb ρ β1 (.int j) β2) (hc : C i j) : EvB K (tOp (rI C fun i j => .int (i / j)) ta tb) ρ β (.int (i / j)) β2 := d_rI ha hb hc fun _ => .int _
theorem d_pow {i j : Int} {C : Int → Int → Prop} (ha : EvB K ta ρ β (.int i) β1) (hb : EvB K tb ρ β1 (.int j) β2) (hc : C i j) : EvB K (tOp (rI C fun i j => .int (i ^ j.toNat)) ta tb) ρ β (.int (i ^ j.toNat)) β2 := d_rI ha hb hc fun _ => .int _
theorem d_neg {i : Int} (ha : EvB K ta ρ β (.int i) β1) : EvB K (tUn (rU fun i => .int (-i)) ta) ρ β (.int (-i)) β1 := d_un ha fun b G H v Q e h1 k => by
  cases h1
  exact ⟨i, rfl, k _ G H (Step.refl e) (.int _)⟩
theorem d_eqI {i j : Int} (ha : EvB K ta ρ β (.int i) β1) (hb : EvB K tb ρ β1 (.int j) β2) : EvB K (tOp rEq ta tb) ρ β (.bool (decide (i = j))) β2 := d_op ha hb fun b G H v w Q e h1 h2 k => by
  cases h1
  cases h2
  have q : decide (V.int i = V.int j) = decide (i = j) := by
    by_cases z : i = j
    · subst z; simp
    · rw [decide_eq_false z]; exact decide_eq_false fun q => z (V.int.inj q)
  exact ⟨rfl, by rw [q]; exact k _ G H (Step.refl e) (.bl _)⟩
theorem d_neI {i j : Int} (ha : EvB K ta ρ β (.int i) β1) (hb : EvB K tb ρ β1 (.int j) β2) : EvB K (tOp rNe ta tb) ρ β (.bool (!decide (i = j))) β2 := d_op ha hb fun b G H v w Q e h1 h2 k => by
  cases h1
  cases h2
  have q : decide (V.int i = V.int j) = decide (i = j) := by
    by_cases z : i = j
    · subst z; simp
    · rw [decide_eq_false z]; exact decide_eq_false fun q => z (V.int.inj q)
  exact ⟨rfl, by rw [q]; exact k _ G H (Step.refl e) (.bl _)⟩
theorem str_dec (i j : Str) : decide (V.str i = V.str j) = decide (i = j) := by
  by_cases z : i = j
  · subst z; simp
  · rw [decide_eq_false z]; exact decide_eq_false fun q => z (V.str.inj q)
theorem d_eqS {i j : Str} (ha : EvB K ta ρ β (.str i) β1) (hb : EvB K tb ρ β1 (.str j) β2) : EvB K (tOp rEq ta tb) ρ β (.bool (decide (i = j))) β2 := d_op ha hb fun b G H v w Q e h1 h2 k => by
  cases h1
  cases h2
  exact ⟨rfl, by rw [str_dec]; exact k _ G H (Step.refl e) (.bl _)⟩
theorem d_neS {i j : Str} (ha : EvB K ta ρ β (.str i) β1) (hb : EvB K tb ρ β1 (.str j) β2) : EvB K (tOp rNe ta tb) ρ β (.bool (!decide (i = j))) β2 := d_op ha hb fun b G H v w Q e h1 h2 k => by
  cases h1
  cases h2
  exact ⟨rfl, by rw [str_dec]; exact k _ G H (Step.refl e) (.bl _)⟩
mutual
def flatD : Dt → Bool
  | .dict _ => false
  | .list xs => flatL xs
  | .tuple xs => flatL xs
  | _ => true
def flatL : List Dt → Bool
  | [] => true
  | d :: ds => flatD d && flatL ds
end
mutual
theorem Den.dp : ∀ {d : Dt} {v : V}, Ex G H → Den K G v d → flatD d = true → Dp K H v d
  | .none, _, _, h, _ => by cases h; exact .non
  | .bool c, _, _, h, _ => by cases h; exact .bl c
  | .int i, _, _, h, _ => by cases h; exact .int i
  | .str s, _, _, h, _ => by cases h; exact .str s
  | .list ds, _, e, h, f => by
    cases h with
    | lst hs hd => exact .lst (sq_of (e _ _ hs)) (DenL.dp e hd (by unfold flatD at f; exact f))
  | .tuple ds, _, e, h, f => by
    cases h with
    | tup hs hd => exact .tup (st_of (e _ _ hs)) (DenL.dp e hd (by unfold flatD at f; exact f))
  | .dict _, _, _, _, f => by unfold flatD at f; cases f
theorem DenL.dp : ∀ {ds : List Dt} {vs : List V}, Ex G H → DenL K G vs ds → flatL ds = true → DpAll K H vs ds
  | [], _, _, h, _ => by cases h; exact .nil
  | d :: ds, _, e, h, f => by
    unfold flatL at f
    rw [Bool.and_eq_true] at f
    cases h with
    | cons h1 h2 => exact .cons (Den.dp e h1 f.1) (DenL.dp e h2 f.2)
end
theorem d_eqD (ha : EvB K ta ρ β x β1) (hb : EvB K tb ρ β1 y β2) (fx : flatD x = true) (fy : flatD y = true) (sx : SeqAt.shaped x = true) (sy : SeqAt.shaped y = true) : EvB K (tOp (rEqD K) ta tb) ρ β (.bool (PyData.eqv x y)) β2 :=
  d_op ha hb fun b G H v w Q e h1 h2 k => ⟨x, y, h1.dp e fx, h2.dp e fy, sx, sy, k _ G H (Step.refl e) (.bl _)⟩
theorem d_neD (ha : EvB K ta ρ β x β1) (hb : EvB K tb ρ β1 y β2) (fx : flatD x = true) (fy : flatD y = true) (sx : SeqAt.shaped x = true) (sy : SeqAt.shaped y = true) : EvB K (tOp (rNeD K) ta tb) ρ β (.bool (!PyData.eqv x y)) β2 :=
  d_op ha hb fun b G H v w Q e h1 h2 k => ⟨x, y, h1.dp e fx, h2.dp e fy, sx, sy, k _ G H (Step.refl e) (.bl _)⟩
theorem den_at {xs : List V} {ds : List Dt} {i : Int} {d : Dt} (h : DenL K G xs ds) (ha : atI ds i = some d) : ∃ v, atI xs i = some v ∧ Den K G v d := by
  unfold atI at ha ⊢
  obtain ⟨n, h1, h2⟩ := Option.bind_eq_some_iff.mp ha
  obtain ⟨v, h3, h4⟩ := h.get' h2
  exact ⟨v, by rw [h.length, h1]; exact h3, h4⟩
theorem d_ixL {ds : List Dt} {i : Int} (ha : EvB K ta ρ β (.list ds) β1) (hb : EvB K tb ρ β1 (.int i) β2) (hi : atI ds i = some d) : EvB K (tOp (rIxL K) ta tb) ρ β d β2 := d_op ha hb fun b G H v w Q e h1 h2 k => by
  cases h2
  cases h1 with
  | lst hs hd =>
    obtain ⟨u, h3, h4⟩ := den_at hd hi
    exact ⟨_, _, i, u, rfl, rfl, sq_of (e _ _ hs), h3, k u G H (Step.refl e) h4⟩
theorem s_imm (h : EvB K te ρ β d β1) : EvS K te ρ β (.imm d) β1 := ⟨h.som, fun b G H σ Q E k => h.run b G H σ Q E k⟩
theorem DenS.mono {a : Slot} {v : V} (e : Ex G G1) (h : DenS K b G v a) : DenS K b G1 v a := by
  cases a with
  | imm d => exact Den.mono e h
  | bag => exact h
  | fn a => exact h
theorem DenSs.mono {as : List Slot} {vs : List V} (e : Ex G G1) (h : DenSs K b G vs as) : DenSs K b G1 vs as := by
  induction h with
  | nil => exact .nil
  | cons h _ ih => exact .cons (h.mono e) ih
theorem a_nil : EvA K tNil ρ β [] β := ⟨rfl, fun b G H σ Q E k => k [] G H (Step.refl E.sub) E.bagk .nil⟩
theorem a_cons {tr : TA} {a : Slot} {as : List Slot} (h : EvS K te ρ β a β1) (hr : EvA K tr ρ β1 as β2) : EvA K (tCons te tr) ρ β (a :: as) β2 := by
  refine ⟨hr.som.trans h.som, fun b G H σ Q E k => ?_⟩
  refine h.run b G H σ _ E fun v G1 H1 s1 k1 d1 => ?_
  refine hr.run b G1 H1 σ _ (E.step s1 k1) fun vs G2 H2 s2 k2 d2 => ?_
  rw [h.som] at s2
  exact k _ G2 H2 (s1.trans s2) k2 (.cons (d1.mono s2.g) d2)
theorem a_con {tr : TA} {as : List Slot} (h : EvB K te ρ β d β1) (hr : EvA K tr ρ β1 as β2) : EvA K (tCons te tr) ρ β (.imm d :: as) β2 := a_cons (s_imm h) hr
def imms (ds : List Dt) : List Slot := ds.map Slot.imm
theorem DenSs.imm : ∀ {vs : List V} {ds : List Dt}, DenSs K b G vs (imms ds) → DenL K G vs ds
  | _, [], h => by cases h; exact .nil
  | _, d :: ds, h => by
    cases h with
    | cons h1 h2 => exact .cons h1 (DenSs.imm h2)
theorem DenSs.length {as : List Slot} {vs : List V} (h : DenSs K b G vs as) : vs.length = as.length := by
  induction h with
  | nil => rfl
  | cons _ _ ih => exact congrArg (· + 1) ih
theorem d_tup {t : TA} {as : List Slot} {ds : List Dt} (h : EvA K t ρ β as β1) (ha : as = imms ds) (hl : ds.length ≤ 100000) : EvB K (tTup t) ρ β (.tuple ds) β1 := by
  refine ⟨h.som, fun b G H σ Q E k => ?_⟩
  refine h.run b G H σ _ E fun vs G1 H1 s1 k1 d1 => ?_
  subst ha
  have dl := d1.imm
  refine ⟨sz_of (by rw [dl.length]; exact hl), fun p hp => ?_⟩
  have n := Step.new (b := b) (m := false) (o := .tup vs) s1.s hp
  exact k (.ref p) _ _ (s1.trans n.up) (k1.same n) (.tup upd_same (dl.mono n.g))
theorem d_lst {t : TA} {as : List Slot} {ds : List Dt} (h : EvA K t ρ β as β1) (ha : as = imms ds) (hl : ds.length ≤ 100000) : EvB K (tLst t) ρ β (.list ds) β1 := by
  refine ⟨h.som, fun b G H σ Q E k => ?_⟩
  refine h.run b G H σ _ E fun vs G1 H1 s1 k1 d1 => ?_
  subst ha
  have dl := d1.imm
  refine ⟨sz_of (by rw [dl.length]; exact hl), fun p hp => ?_⟩
  have n := Step.new (b := b) (m := false) (o := .lst vs) s1.s hp
  exact k (.ref p) _ _ (s1.trans n.up) (k1.same n) (.lst upd_same (dl.mono n.g))
theorem d_cb {r : List V → Hp → VK → Prop} {t : TA} {as : List Slot} {ds : List Dt} (h : EvA K t ρ β as β1) (ha : as = imms ds)
    (hr : ∀ (b : Addr) (G H : Hp) (vs : List V) (Q : VK), Ex G H → DenL K G vs ds → (∀ u G' H', Step b false G H G' H' → Den K G' u z → Q u H') → r vs H Q) : EvB K (tCB r t) ρ β z β1 := by
  refine ⟨h.som, fun b G H σ Q E k => ?_⟩
  refine h.run b G H σ _ E fun vs G1 H1 s1 k1 d1 => ?_
  subst ha
  exact hr b G1 H1 vs Q s1.s d1.imm fun u G3 H3 s3 d3 => k u G3 H3 (s1.trans s3.up) (k1.same s3) d3
theorem den1 {vs : List V} (h : DenL K G vs [d]) : ∃ v, vs = [v] ∧ Den K G v d := by
  cases h with
  | cons h1 h2 => cases h2; exact ⟨_, rfl, h1⟩
theorem den2 {vs : List V} (h : DenL K G vs [x, y]) : ∃ v w, vs = [v, w] ∧ Den K G v x ∧ Den K G w y := by
  cases h with
  | cons h1 h2 =>
    obtain ⟨w, rfl, h3⟩ := den1 h2
    exact ⟨_, w, rfl, h1, h3⟩
/-- what a call of one datum asks -/
theorem d_c1 {r : List V → Hp → VK → Prop} (h : EvB K te ρ β x β1) (hr : ∀ (b : Addr) (G H : Hp) (v : V) (Q : VK), Ex G H → Den K G v x → (∀ u G' H', Step b false G H G' H' → Den K G' u z → Q u H') → r [v] H Q) : EvB K (tCB r (tCons te tNil)) ρ β z β1 :=
  d_cb (ds := [x]) (a_con h a_nil) rfl fun b G H vs Q e dl k => by
    obtain ⟨v, rfl, dv⟩ := den1 dl
    exact hr b G H v Q e dv k
theorem d_c2 {r : List V → Hp → VK → Prop} (h : EvB K ta ρ β x β1) (h' : EvB K tb ρ β1 y β2) (hr : ∀ (b : Addr) (G H : Hp) (v w : V) (Q : VK), Ex G H → Den K G v x → Den K G w y → (∀ u G' H', Step b false G H G' H' → Den K G' u z → Q u H') → r [v, w] H Q) : EvB K (tCB r (tCons ta (tCons tb tNil))) ρ β z β2 :=
  d_cb (ds := [x, y]) (a_con h (a_con h' a_nil)) rfl fun b G H vs Q e dl k => by
    obtain ⟨v, w, rfl, dv, dw⟩ := den2 dl
    exact hr b G H v w Q e dv dw k
def rAbs : List V → Hp → VK → Prop := fun xs H Q => ∃ i, xs = [.int i] ∧ Q (.int (if i < 0 then -i else i)) H
def rMin2 : List V → Hp → VK → Prop := fun xs H Q => ∃ i j, xs = [.int i, .int j] ∧ Q (.int (if j < i then j else i)) H
def rInt1 : List V → Hp → VK → Prop := fun xs H Q => (∃ i, xs = [.int i] ∧ Q (.int i) H) ∨ ∃ k, xs = [.bl k] ∧ Q (.int (if k then 1 else 0)) H
def rLen (K : PySem.W.Frag) : List V → Hp → VK → Prop := fun xs H Q => ∃ p ys, xs = [.ref p] ∧ (SqL K H p ys ∨ SqT K H p ys) ∧ Q (.int ys.length) H
def rListOf (K : PySem.W.Frag) : List V → Hp → VK → Prop := fun xs H Q => ∃ p ys, xs = [.ref p] ∧ (SqL K H p ys ∨ SqT K H p ys) ∧ ∀ l, H l = none → Q (.ref l) (upd H l (.lst ys))
def rTupleOf (K : PySem.W.Frag) : List V → Hp → VK → Prop := fun xs H Q => ∃ p ys, xs = [.ref p] ∧ ((SqL K H p ys ∧ ∀ l, H l = none → Q (.ref l) (upd H l (.tup ys))) ∨ (SqT K H p ys ∧ Q (.ref p) H))
omit [TabW] in
theorem c_abs {X : Cx} : CallR X (.builtin "abs") rAbs := call_abs
omit [TabW] in
theorem c_max2 {X : Cx} (hc : X.calm = true) : CallR X (.builtin "max") rMax2 := call_max2 hc
omit [TabW] in
theorem c_min2 {X : Cx} (hc : X.calm = true) : CallR X (.builtin "min") rMin2 := call_min2 hc
omit [TabW] in
theorem c_int {X : Cx} : CallR X (.type "int") rInt1 := call_int1
omit [TabW] in
theorem c_len {X : Cx} : CallR X (.builtin "len") (rLen X.K) := call_len_seq
omit [TabW] in
theorem c_tuple {X : Cx} : CallR X (.type "tuple") (rTupleOf X.K) := call_tuple_of
def absI (i : Int) : Int := if i < 0 then -i else i
theorem d_abs {i : Int} (h : EvB K te ρ β (.int i) β1) : EvB K (tCB rAbs (tCons te tNil)) ρ β (.int (absI i)) β1 := d_c1 h fun b G H v Q e dv k => by
  cases dv
  exact ⟨i, rfl, k _ G H (Step.refl e) (.int _)⟩
theorem d_max2 {i j : Int} (h : EvB K ta ρ β (.int i) β1) (h' : EvB K tb ρ β1 (.int j) β2) : EvB K (tCB rMax2 (tCons ta (tCons tb tNil))) ρ β (.int (if j > i then j else i)) β2 := d_c2 h h' fun b G H v w Q e dv dw k => by
  cases dv
  cases dw
  exact ⟨i, j, rfl, k _ G H (Step.refl e) (.int _)⟩
theorem d_min2 {i j : Int} (h : EvB K ta ρ β (.int i) β1) (h' : EvB K tb ρ β1 (.int j) β2) : EvB K (tCB rMin2 (tCons ta (tCons tb tNil))) ρ β (.int (if j < i then j else i)) β2 := d_c2 h h' fun b G H v w Q e dv dw k => by
  cases dv
  cases dw
  exact ⟨i, j, rfl, k _ G H (Step.refl e) (.int _)⟩
theorem d_intI {i : Int} (h : EvB K te ρ β (.int i) β1) : EvB K (tCB rInt1 (tCons te tNil)) ρ β (.int i) β1 := d_c1 h fun b G H v Q e dv k => by
  cases dv
  exact .inl ⟨i, rfl, k _ G H (Step.refl e) (.int _)⟩
theorem d_intB {c : Bool} (h : EvB K te ρ β (.bool c) β1) : EvB K (tCB rInt1 (tCons te tNil)) ρ β (.int (if c then 1 else 0)) β1 := d_c1 h fun b G H v Q e dv k => by
  cases dv
  exact .inr ⟨c, rfl, k _ G H (Step.refl e) (.int _)⟩
/-- a list or a tuple of ds -/
def SeqD (x : Dt) (ds : List Dt) : Prop := x = .list ds ∨ x = .tuple ds
theorem Den.seq {v : V} {ds : List Dt} (h : Den K G v x) (hx : SeqD x ds) (e : Ex G H) : ∃ p ys, v = .ref p ∧ (SqL K H p ys ∨ SqT K H p ys) ∧ DenL K G ys ds := by
  rcases hx with rfl | rfl
  · cases h with
    | lst hs hd => exact ⟨_, _, rfl, .inl (sq_of (e _ _ hs)), hd⟩
  · cases h with
    | tup hs hd => exact ⟨_, _, rfl, .inr (st_of (e _ _ hs)), hd⟩
theorem d_len {ds : List Dt} (h : EvB K te ρ β x β1) (hx : SeqD x ds) : EvB K (tCB (rLen K) (tCons te tNil)) ρ β (.int (ds.length : Int)) β1 := d_c1 h fun b G H v Q e dv k => by
  obtain ⟨p, ys, rfl, hq, hd⟩ := dv.seq hx e
  exact ⟨p, ys, rfl, hq, by rw [hd.length]; exact k _ G H (Step.refl e) (.int _)⟩
theorem d_listOf {ds : List Dt} (h : EvB K te ρ β x β1) (hx : SeqD x ds) : EvB K (tCB (rListOf K) (tCons te tNil)) ρ β (.list ds) β1 := d_c1 h fun b G H v Q e dv k => by
  obtain ⟨p, ys, rfl, hq, hd⟩ := dv.seq hx e
  refine ⟨p, ys, rfl, hq, fun l hl => ?_⟩
  have n := Step.new (b := b) (m := false) (o := .lst ys) e hl
  exact k _ _ _ n (.lst upd_same (hd.mono n.g))
theorem d_tupleOf {ds : List Dt} (h : EvB K te ρ β (.list ds) β1) : EvB K (tCB (rTupleOf K) (tCons te tNil)) ρ β (.tuple ds) β1 := d_c1 h fun b G H v Q e dv k => by
  cases dv with
  | @lst a ys _ hs hd =>
    refine ⟨_, ys, rfl, .inl ⟨sq_of (e _ _ hs), fun l hl => ?_⟩⟩
    have n := Step.new (b := b) (m := false) (o := .tup ys) e hl
    exact k _ _ _ n (.tup upd_same (hd.mono n.g))
theorem d_cat {ds es : List Dt} (ha : EvB K ta ρ β (.list ds) β1) (hb : EvB K tb ρ β1 (.list es) β2) (hz : ds.length + es.length ≤ 100000) : EvB K (tOp rCat ta tb) ρ β (.list (ds ++ es)) β2 := d_op ha hb fun b G H v w Q e h1 h2 k => by
  cases h1 with
  | @lst a xs _ hs hd =>
    cases h2 with
    | @lst c ys _ hs' hd' =>
      refine ⟨a, c, xs, ys, rfl, rfl, e _ _ hs, e _ _ hs', sz_of (by rw [hd.length, hd'.length]; exact hz), fun p hp => ?_⟩
      have n := Step.new (b := b) (m := false) (o := .lst (xs ++ ys)) e hp
      exact k _ _ _ n (.lst upd_same ((hd.append hd').mono n.g))
theorem d_sum {ns : List Int} (h : EvB K te ρ β (.list (ns.map .int)) β1) : EvB K (tCB (rSum K) (tCons te tNil)) ρ β (.int ns.sum) β1 := d_c1 h fun b G H v Q e dv k => by
  cases dv with
  | @lst a xs _ hs hd =>
    have := hd.ints
    subst this
    exact ⟨a, ns, rfl, sq_of (e _ _ hs), k _ G H (Step.refl e) (.int _)⟩
theorem d_all {bs : List Bool} (h : EvB K te ρ β (.list (bs.map .bool)) β1) : EvB K (tCB (rAll K) (tCons te tNil)) ρ β (.bool (bs.all id)) β1 := d_c1 h fun b G H v Q e dv k => by
  cases dv with
  | @lst a xs _ hs hd =>
    have := hd.bls
    subst this
    exact ⟨a, bs, rfl, sq_of (e _ _ hs), k _ G H (Step.refl e) (.bl _)⟩
/-- the greatest of some ints: M is it -/
theorem d_max {ns : List Int} {M : Int} (h : EvB K te ρ β (.list (ns.map .int)) β1) (hM : M ∈ ns) (hg : ∀ y ∈ ns, y ≤ M) : EvB K (tCB (rMax K) (tCons te tNil)) ρ β (.int M) β1 := d_c1 h fun b G H v Q e dv k => by
  cases dv with
  | @lst a xs _ hs hd =>
    have := hd.ints
    subst this
    refine ⟨a, ns, rfl, sq_of (e _ _ hs), List.length_pos_of_mem hM, fun m hm hle => ?_⟩
    have e1 : m = M := Int.le_antisymm (hg m hm) (hle M hM)
    rw [e1]
    exact k _ G H (Step.refl e) (.int _)
theorem d_gcd {i j : Int} (h : EvB K ta ρ β (.int i) β1) (h' : EvB K tb ρ β1 (.int j) β2) : EvB K (tCB rGcd (tCons ta (tCons tb tNil))) ρ β (.int ((Nat.gcd i.natAbs j.natAbs : Nat) : Int)) β2 := d_c2 h h' fun b G H v w Q e dv dw k => by
  cases dv
  cases dw
  exact ⟨i, j, rfl, k _ G H (Step.refl e) (.int _)⟩
def tyD : Dt → String
  | .none => "NoneType"
  | .bool _ => "bool"
  | .int _ => "int"
  | .str _ => "str"
  | .list _ => "list"
  | .tuple _ => "tuple"
  | .dict ((.none, .int _) :: _) => "object"
  | .dict _ => "dict"
theorem ty_dict : ∀ kvs : List (Dt × Dt), tyD (.dict kvs) = "object" ∨ tyD (.dict kvs) = "dict"
  | [] => .inr rfl
  | (.none, .int _) :: _ => .inl rfl
  | (.none, .none) :: _ => .inr rfl
  | (.none, .bool _) :: _ => .inr rfl
  | (.none, .str _) :: _ => .inr rfl
  | (.none, .list _) :: _ => .inr rfl
  | (.none, .tuple _) :: _ => .inr rfl
  | (.none, .dict _) :: _ => .inr rfl
  | (.bool _, _) :: _ => .inr rfl
  | (.int _, _) :: _ => .inr rfl
  | (.str _, _) :: _ => .inr rfl
  | (.list _, _) :: _ => .inr rfl
  | (.tuple _, _) :: _ => .inr rfl
  | (.dict _, _) :: _ => .inr rfl
/-- what isinstance is asked about; a locked dict with tuple keys too -/
inductive TyR (K : PySem.W.Frag) (H : Hp) : V → Value → Prop where
  | ty {x : V} {t : Value} (h : TyX K H x t) : TyR K H x t
  | fT {a : Addr} {o : Obj} {kvs : List (List Key × V)} (e : H a = some (.frz o (.dT kvs))) : TyR K H (.ref a) (.type "dict")
omit [TabW] in
theorem kit_ofR {X : Cx} {pins : List (Addr × Obj)} {σ : St} {H : Hp} {s : Shared} {x : V} {u t : Value} (I : Inv X pins σ H s) (rx : RelV x u) (ty : TyR X.K H x t) : ∃ P : Heap → Prop, PySem.W.KitX X.K u t P ∧ P s.heap ∧ u ≠ .builtin "__main__.__loader__#opaque" := by
  cases ty with
  | ty h => exact kit_of I rx h
  | fT ea =>
    have held := I.hok _ _ ea
    rcases held with ⟨_, _, _, _, _, o, _, _, there, kind, _⟩
    obtain rfl : u = .ref _ := rx
    refine ⟨fun h => _, PySem.W.kitx_dict, ⟨o, there, kind.1⟩, ?_⟩
    simp
def rIsiR (K : PySem.W.Frag) : List V → Hp → VK → Prop := fun xs H Q => ∃ (x c : V) (t u : Value) (b : Bool), xs = [x, c] ∧ ClsV c u ∧ TyR K H x t ∧ PySem.W.kitOne K t u = some b ∧ Q (.bl b) H
omit [TabW] in
theorem call_isiR {X : Cx} : CallR X (.builtin "isinstance") (rIsiR X.K) := by
  rintro pins s σ H _ _ Q I two ⟨x, c, t, u, b, rfl, kc, ty, ans, q⟩
  match two with
  | .cons rx (.cons rc .nil) =>
    cases kc.eq rc
    have ⟨_, look, there, plain⟩ := kit_ofR I rx ty
    exact PySem.W.kia_one look I.kIn there ans plain fun n => ⟨.bl b, _, I.tok n, rfl, q⟩
/-- what isinstance answers of what is told -/
theorem Den.isi {v : V} {T : String} {c : Bool} (h : Den K G v x) (e : Ex G H) (hk : kitB (tyD x) T = some c) (hT : T ∈ tyNames) : ∃ D, TyR K H v D ∧ PySem.W.kitOne K D (.type T) = some c := by
  cases x with
  | none => cases h; exact ⟨_, .ty (.base .non), kit_ty hk⟩
  | bool b => cases h; exact ⟨_, .ty (.base (.bl b)), kit_ty hk⟩
  | int i => cases h; exact ⟨_, .ty (.base (.int i)), kit_ty hk⟩
  | str s => cases h; exact ⟨_, .ty (.base (.str s)), kit_ty hk⟩
  | list ds =>
    cases h with
    | lst hs hd => exact ⟨_, .ty (.base (.lst (e _ _ hs))), kit_ty hk⟩
  | tuple ds =>
    cases h with
    | tup hs hd => exact ⟨_, .ty (.base (.tup (e _ _ hs))), kit_ty hk⟩
  | dict kvs =>
    cases h with
    | dct hs =>
      rcases rd_ex e hs with hs | ⟨o, hs⟩
      · exact ⟨_, .ty (.base (.dK hs)), kit_ty hk⟩
      · exact ⟨_, .ty (.fDict hs), kit_ty hk⟩
    | dcE hs _ => exact ⟨_, .ty (.base (.dK (e _ _ hs))), kit_ty hk⟩
    | dcI hs _ =>
      rcases rd_ex e hs with hs | ⟨o, hs⟩
      · exact ⟨_, .ty (.base (.dK hs)), kit_ty hk⟩
      · exact ⟨_, .ty (.fDict hs), kit_ty hk⟩
    | dcT hs _ =>
      rcases rd_ex e hs with hs | ⟨o, hs⟩
      · exact ⟨_, .ty (.base (.dT hs)), kit_ty hk⟩
      · exact ⟨_, .fT hs, kit_ty hk⟩
    | ins hc hs _ =>
      refine ⟨_, .ty (.base (.ins (e _ _ hs) hc.ic.cl hc.ic.ha hc.ic.hn hc.ic.htk hc.ic.hm)), ?_⟩
      rw [hc.no T hT]
      have q : kitB "object" T = some c := hk
      simp only [tyNames, List.mem_cons, List.not_mem_nil, or_false] at hT
      rcases hT with rfl | rfl | rfl | rfl | rfl | rfl <;> exact (show _ = some false by decide +kernel).symm.trans q
theorem d_isi {T : String} {c : Bool} (h : EvB K te ρ β x β1) (hk : kitB (tyD x) T = some c) (hT : T ∈ tyNames := by decide) : EvB K (tCB (rIsiR K) (tCons te (tCons (tC (.ty T)) tNil))) ρ β (.bool c) β1 := by
  refine ⟨h.som, fun b G H σ Q E k => ?_⟩
  refine h.run b G H σ _ E fun v G1 H1 s1 k1 d1 => ?_
  obtain ⟨D, hD, hc⟩ := d1.isi s1.s hk hT
  exact ⟨v, .ty T, D, _, c, rfl, .ty T, hD, hc, k _ G1 H1 s1 k1 (.bl c)⟩
def isIntD : Dt → Bool
  | .int _ => true
  | .bool _ => true
  | _ => false
def isBoolD : Dt → Bool
  | .bool _ => true
  | _ => false
def isTupD : Dt → Bool
  | .tuple _ => true
  | _ => false
def isStrD : Dt → Bool
  | .str _ => true
  | _ => false
theorem kit_int : ∀ x : Dt, kitB (tyD x) "int" = some (isIntD x)
  | .none => by decide +kernel
  | .bool _ => by show kitB "bool" "int" = some true; decide +kernel
  | .int _ => by show kitB "int" "int" = some true; decide +kernel
  | .str _ => by show kitB "str" "int" = some false; decide +kernel
  | .list _ => by show kitB "list" "int" = some false; decide +kernel
  | .tuple _ => by show kitB "tuple" "int" = some false; decide +kernel
  | .dict kvs => by rcases ty_dict kvs with h | h <;> rw [h] <;> (show _ = some false; decide +kernel)
theorem kit_bool : ∀ x : Dt, kitB (tyD x) "bool" = some (isBoolD x)
  | .none => by decide +kernel
  | .bool _ => by show kitB "bool" "bool" = some true; decide +kernel
  | .int _ => by show kitB "int" "bool" = some false; decide +kernel
  | .str _ => by show kitB "str" "bool" = some false; decide +kernel
  | .list _ => by show kitB "list" "bool" = some false; decide +kernel
  | .tuple _ => by show kitB "tuple" "bool" = some false; decide +kernel
  | .dict kvs => by rcases ty_dict kvs with h | h <;> rw [h] <;> (show _ = some false; decide +kernel)
theorem kit_tup : ∀ x : Dt, kitB (tyD x) "tuple" = some (isTupD x)
  | .none => by decide +kernel
  | .bool _ => by show kitB "bool" "tuple" = some false; decide +kernel
  | .int _ => by show kitB "int" "tuple" = some false; decide +kernel
  | .str _ => by show kitB "str" "tuple" = some false; decide +kernel
  | .list _ => by show kitB "list" "tuple" = some false; decide +kernel
  | .tuple _ => by show kitB "tuple" "tuple" = some true; decide +kernel
  | .dict kvs => by rcases ty_dict kvs with h | h <;> rw [h] <;> (show _ = some false; decide +kernel)
theorem kit_str : ∀ x : Dt, kitB (tyD x) "str" = some (isStrD x)
  | .none => by decide +kernel
  | .bool _ => by show kitB "bool" "str" = some false; decide +kernel
  | .int _ => by show kitB "int" "str" = some false; decide +kernel
  | .str _ => by show kitB "str" "str" = some true; decide +kernel
  | .list _ => by show kitB "list" "str" = some false; decide +kernel
  | .tuple _ => by show kitB "tuple" "str" = some false; decide +kernel
  | .dict kvs => by rcases ty_dict kvs with h | h <;> rw [h] <;> (show _ = some false; decide +kernel)
theorem d_isInt (h : EvB K te ρ β x β1) : EvB K (tCB (rIsiR K) (tCons te (tCons (tC (.ty "int")) tNil))) ρ β (.bool (isIntD x)) β1 := d_isi h (kit_int x)
theorem d_isBool (h : EvB K te ρ β x β1) : EvB K (tCB (rIsiR K) (tCons te (tCons (tC (.ty "bool")) tNil))) ρ β (.bool (isBoolD x)) β1 := d_isi h (kit_bool x)
theorem d_isTup (h : EvB K te ρ β x β1) : EvB K (tCB (rIsiR K) (tCons te (tCons (tC (.ty "tuple")) tNil))) ρ β (.bool (isTupD x)) β1 := d_isi h (kit_tup x)
theorem d_isStr (h : EvB K te ρ β x β1) : EvB K (tCB (rIsiR K) (tCons te (tCons (tC (.ty "str")) tNil))) ρ β (.bool (isStrD x)) β1 := d_isi h (kit_str x)
theorem d_andF (h : EvB K ta ρ β (.bool false) β1) : EvB K (tAndV ta tb) ρ β (.bool false) β1 := ⟨h.som, fun b G H σ Q E k => h.run b G H σ _ E fun v G1 H1 s1 k1 d1 => by
  cases d1
  exact ⟨false, rfl, by rw [if_neg (Bool.false_ne_true)]; exact k _ G1 H1 s1 k1 (.bl _)⟩⟩
theorem d_andT (h : EvB K ta ρ β (.bool true) β1) (h' : EvB K tb ρ β1 d β2) : EvB K (tAndV ta tb) ρ β d β2 := ⟨h'.som.trans h.som, fun b G H σ Q E k => h.run b G H σ _ E fun v G1 H1 s1 k1 d1 => by
  cases d1
  refine ⟨true, rfl, ?_⟩
  rw [if_pos rfl]
  refine h'.run b G1 H1 σ _ (E.step s1 k1) fun w G2 H2 s2 k2 d2 => ?_
  rw [h.som] at s2
  exact k w G2 H2 (s1.trans s2) k2 d2⟩
/-- both bools, the bag as it was -/
theorem d_and {p q : Bool} (h : EvB K ta ρ β (.bool p) β) (h' : p = true → EvB K tb ρ β (.bool q) β) : EvB K (tAndV ta tb) ρ β (.bool (p && q)) β := by
  cases p with
  | false => exact d_andF h
  | true => exact d_andT h (h' rfl)
theorem d_orT (h : EvB K ta ρ β (.bool true) β1) : EvB K (tOrV ta tb) ρ β (.bool true) β1 := ⟨h.som, fun b G H σ Q E k => h.run b G H σ _ E fun v G1 H1 s1 k1 d1 => by
  cases d1
  exact ⟨true, rfl, by rw [if_pos rfl]; exact k _ G1 H1 s1 k1 (.bl _)⟩⟩
theorem d_orF (h : EvB K ta ρ β (.bool false) β1) (h' : EvB K tb ρ β1 d β2) : EvB K (tOrV ta tb) ρ β d β2 := ⟨h'.som.trans h.som, fun b G H σ Q E k => h.run b G H σ _ E fun v G1 H1 s1 k1 d1 => by
  cases d1
  refine ⟨false, rfl, ?_⟩
  rw [if_neg (Bool.false_ne_true)]
  refine h'.run b G1 H1 σ _ (E.step s1 k1) fun w G2 H2 s2 k2 d2 => ?_
  rw [h.som] at s2
  exact k w G2 H2 (s1.trans s2) k2 d2⟩
theorem d_or {p q : Bool} (h : EvB K ta ρ β (.bool p) β) (h' : p = false → EvB K tb ρ β (.bool q) β) : EvB K (tOrV ta tb) ρ β (.bool (p || q)) β := by
  cases p with
  | true => exact d_orT h
  | false => exact d_orF h (h' rfl)
theorem d_not {p : Bool} (h : EvB K ta ρ β (.bool p) β1) : EvB K (tNotV ta) ρ β (.bool (!p)) β1 := ⟨h.som, fun b G H σ Q E k => h.run b G H σ _ E fun v G1 H1 s1 k1 d1 => by
  cases d1
  exact ⟨p, rfl, k _ G1 H1 s1 k1 (.bl _)⟩⟩
theorem t_test {p : Bool} (h : EvB K te ρ β (.bool p) β1) : TtB K (tTest te) ρ β p β1 := ⟨h.som, fun b G H σ Q E k => h.run b G H σ _ E fun v G1 H1 s1 k1 d1 => by
  cases d1
  exact ⟨p, rfl, k G1 H1 s1 k1⟩⟩
theorem t_B {p : Bool} (h : EvB K te ρ β (.bool p) β1) : TtB K (tB te) ρ β p β1 := ⟨h.som, fun b G H σ Q E k => h.run b G H σ _ E fun v G1 H1 s1 k1 d1 => by
  cases d1
  exact ⟨p, rfl, k G1 H1 s1 k1⟩⟩
theorem t_not {p : Bool} (h : TtB K tt ρ β p β1) : TtB K (tNot tt) ρ β (!p) β1 := ⟨h.som, fun b G H σ Q E k => h.run b G H σ _ E fun G1 H1 s1 k1 => k G1 H1 s1 k1⟩
theorem t_andF (h : TtB K tt ρ β false β1) : TtB K (tAnd tt tu) ρ β false β1 := ⟨h.som, fun b G H σ Q E k => h.run b G H σ _ E fun G1 H1 s1 k1 => by
  rw [if_neg (Bool.false_ne_true)]
  exact k G1 H1 s1 k1⟩
theorem t_andT {q : Bool} (h : TtB K tt ρ β true β1) (h' : TtB K tu ρ β1 q β2) : TtB K (tAnd tt tu) ρ β q β2 := ⟨h'.som.trans h.som, fun b G H σ Q E k => h.run b G H σ _ E fun G1 H1 s1 k1 => by
  rw [if_pos rfl]
  refine h'.run b G1 H1 σ _ (E.step s1 k1) fun G2 H2 s2 k2 => ?_
  rw [h.som] at s2
  exact k G2 H2 (s1.trans s2) k2⟩
theorem t_and {p q : Bool} (h : TtB K tt ρ β p β) (h' : p = true → TtB K tu ρ β q β) : TtB K (tAnd tt tu) ρ β (p && q) β := by
  cases p with
  | false => exact t_andF h
  | true => exact t_andT h (h' rfl)
theorem t_orT (h : TtB K tt ρ β true β1) : TtB K (tOr tt tu) ρ β true β1 := ⟨h.som, fun b G H σ Q E k => h.run b G H σ _ E fun G1 H1 s1 k1 => by
  rw [if_pos rfl]
  exact k G1 H1 s1 k1⟩
theorem t_orF {q : Bool} (h : TtB K tt ρ β false β1) (h' : TtB K tu ρ β1 q β2) : TtB K (tOr tt tu) ρ β q β2 := ⟨h'.som.trans h.som, fun b G H σ Q E k => h.run b G H σ _ E fun G1 H1 s1 k1 => by
  rw [if_neg (Bool.false_ne_true)]
  refine h'.run b G1 H1 σ _ (E.step s1 k1) fun G2 H2 s2 k2 => ?_
  rw [h.som] at s2
  exact k G2 H2 (s1.trans s2) k2⟩
theorem t_or {p q : Bool} (h : TtB K tt ρ β p β) (h' : p = false → TtB K tu ρ β q β) : TtB K (tOr tt tu) ρ β (p || q) β := by
  cases p with
  | true => exact t_orT h
  | false => exact t_orF h (h' rfl)
theorem d_if {p : Bool} (h : TtB K tt ρ β p β1) (h1 : p = true → EvB K ta ρ β1 d β2) (h2 : p = false → EvB K tb ρ β1 d β2) : EvB K (tIf tt ta tb) ρ β d β2 := by
  cases p with
  | true =>
    refine ⟨(h1 rfl).som.trans h.som, fun b G H σ Q E k => h.run b G H σ _ E fun G1 H1 s1 k1 => ?_⟩
    rw [if_pos rfl]
    refine (h1 rfl).run b G1 H1 σ _ (E.step s1 k1) fun w G2 H2 s2 k2 d2 => ?_
    rw [h.som] at s2
    exact k w G2 H2 (s1.trans s2) k2 d2
  | false =>
    refine ⟨(h2 rfl).som.trans h.som, fun b G H σ Q E k => h.run b G H σ _ E fun G1 H1 s1 k1 => ?_⟩
    rw [if_neg (Bool.false_ne_true)]
    refine (h2 rfl).run b G1 H1 σ _ (E.step s1 k1) fun w G2 H2 s2 k2 d2 => ?_
    rw [h.som] at s2
    exact k w G2 H2 (s1.trans s2) k2 d2
theorem d_ifT (h : TtB K tt ρ β true β1) (h1 : EvB K ta ρ β1 d β2) : EvB K (tIf tt ta tb) ρ β d β2 := d_if h (fun _ => h1) fun z => by cases z
theorem d_ifF (h : TtB K tt ρ β false β1) (h1 : EvB K tb ρ β1 d β2) : EvB K (tIf tt ta tb) ρ β d β2 := d_if h (fun z => by cases z) fun _ => h1
/-- a < b < c of ints and the like -/
theorem d_chain {r r' : R2} {p q : Bool} (ha : EvB K ta ρ β x β1) (hb : EvB K tb ρ β1 y β2) (hc : p = true → EvB K tc ρ β2 z β2)
    (h1 : ∀ (G H : Hp) (v w : V) (Q : VK), Ex G H → Den K G v x → Den K G w y → Q (.bl p) H → r v w H Q) (h2 : p = true → ∀ (G H : Hp) (v w : V) (Q : VK), Ex G H → Den K G v y → Den K G w z → Q (.bl q) H → r' v w H Q) :
    EvB K (tChain r r' ta tb tc) ρ β (.bool (p && q)) β2 := by
  refine ⟨hb.som.trans ha.som, fun b G H σ Q E k => ?_⟩
  refine ha.run b G H σ _ E fun v G1 H1 s1 k1 d1 => ?_
  have E1 := E.step s1 k1
  refine hb.run b G1 H1 σ _ E1 fun w G2 H2 s2 k2 d2 => ?_
  have E2 := E1.step s2 k2
  rw [ha.som] at s2
  refine h1 G2 H2 v w _ s2.s (d1.mono s2.g) d2 ⟨p, rfl, ?_⟩
  cases p with
  | false =>
    rw [if_neg (Bool.false_ne_true)]
    exact k _ G2 H2 (s1.trans s2) k2 (.bl _)
  | true =>
    rw [if_pos rfl]
    refine (hc rfl).run b G2 H2 σ _ E2 fun u G3 H3 s3 k3 d3 => ?_
    rw [hb.som, ha.som] at s3
    exact h2 rfl G3 H3 w u _ s3.s (d2.mono s3.g) d3 (k _ G3 H3 ((s1.trans s2).trans s3) k3 (.bl _))
theorem d_chLtLt {i j l : Int} (ha : EvB K ta ρ β (.int i) β1) (hb : EvB K tb ρ β1 (.int j) β2) (hc : EvB K tc ρ β2 (.int l) β2) : EvB K (tChain (rI0 fun i j => .bl (decide (i < j))) (rI0 fun i j => .bl (decide (i < j))) ta tb tc) ρ β (.bool (decide (i < j) && decide (j < l))) β2 :=
  d_chain ha hb (fun _ => hc) (fun G H v w Q e h1 h2 q => by cases h1; cases h2; exact ⟨i, j, rfl, rfl, q⟩) fun _ G H v w Q e h1 h2 q => by cases h1; cases h2; exact ⟨j, l, rfl, rfl, q⟩
theorem d_chLeLt {i j l : Int} (ha : EvB K ta ρ β (.int i) β1) (hb : EvB K tb ρ β1 (.int j) β2) (hc : EvB K tc ρ β2 (.int l) β2) : EvB K (tChain (rI0 fun i j => .bl (decide (i ≤ j))) (rI0 fun i j => .bl (decide (i < j))) ta tb tc) ρ β (.bool (decide (i ≤ j) && decide (j < l))) β2 :=
  d_chain ha hb (fun _ => hc) (fun G H v w Q e h1 h2 q => by cases h1; cases h2; exact ⟨i, j, rfl, rfl, q⟩) fun _ G H v w Q e h1 h2 q => by cases h1; cases h2; exact ⟨j, l, rfl, rfl, q⟩
theorem d_chLeLe {i j l : Int} (ha : EvB K ta ρ β (.int i) β1) (hb : EvB K tb ρ β1 (.int j) β2) (hc : EvB K tc ρ β2 (.int l) β2) : EvB K (tChain (rI0 fun i j => .bl (decide (i ≤ j))) (rI0 fun i j => .bl (decide (i ≤ j))) ta tb tc) ρ β (.bool (decide (i ≤ j) && decide (j ≤ l))) β2 :=
  d_chain ha hb (fun _ => hc) (fun G H v w Q e h1 h2 q => by cases h1; cases h2; exact ⟨i, j, rfl, rfl, q⟩) fun _ G H v w Q e h1 h2 q => by cases h1; cases h2; exact ⟨j, l, rfl, rfl, q⟩
theorem d_inT {xs : List V} {ds : List Dt} (hx : EvB K ta ρ β x β1) (hy : EvB K tb ρ β1 y β2) (hs : SeqD y ds) {c : Bool} (hc : ∀ (G : Hp) (v : V) (ws : List V), Den K G v x → DenL K G ws ds → flatV v = true ∧ ws.all flatV = true ∧ inV v ws = c) : EvB K (tOp (rIn K false) ta tb) ρ β (.bool c) β2 :=
  d_op hx hy fun b G H v w Q e h1 h2 k => by
    obtain ⟨p, ys, rfl, hq, hd⟩ := h2.seq hs e
    obtain ⟨f1, f2, f3⟩ := hc G v ys h1 hd
    exact ⟨p, ys, rfl, hq, f1, f2, by rw [if_neg Bool.false_ne_true, f3]; exact k _ G H (Step.refl e) (.bl _)⟩
theorem ints_flat : ∀ ns : List Int, (ns.map V.int).all flatV = true
  | [] => rfl
  | n :: ns => by
    show (flatV (.int n) && (ns.map V.int).all flatV) = true
    rw [ints_flat ns]
    rfl
theorem inV_ints (i : Int) : ∀ ns : List Int, inV (.int i) (ns.map V.int) = decide (i ∈ ns)
  | [] => rfl
  | n :: ns => by
    have ih := inV_ints i ns
    unfold inV at ih ⊢
    rw [List.map_cons, List.any_cons, ih]
    have e : eqV (V.int n) (V.int i) = decide (n = i) := rfl
    rw [e]
    by_cases h : n = i
    · subst h; simp
    · by_cases h2 : i ∈ ns
      · simp [h2]
      · have h3 : ¬ i = n := fun z => h z.symm
        simp [h, h2, h3]
/-- an int in a tuple or list of ints -/
theorem d_inI {i : Int} {ns : List Int} (hx : EvB K ta ρ β (.int i) β1) (hy : EvB K tb ρ β1 y β2) (hs : SeqD y (ns.map .int)) : EvB K (tOp (rIn K false) ta tb) ρ β (.bool (decide (i ∈ ns))) β2 :=
  d_inT (xs := []) hx hy hs fun G v ws h1 h2 => by
    cases h1
    have := h2.ints
    subst this
    exact ⟨rfl, ints_flat ns, inV_ints i ns⟩
end
end TD
set_option Elab.async false
set_option linter.all false
set_option maxRecDepth 100000
set_option maxHeartbeats 3000000
namespace TD
open PySem L2
open Evl (Ex ex_l ex_t fresh_back sq_of st_of sz_of sz_lt)
section
variable [TabW] {K : PySem.W.Frag} {b : Addr} {ρ ρ' ρ1 : Rho} {β β1 β2 β3 : Bag} {ta tb te tc : TE} {tt : TT} {tu tw ts : TS} {x y z d : Dt} {o : Out} {G H G1 H1 G2 H2 : Hp} {σ : L2.St}
theorem OutOk.of {D D' : Ends} {m : Bool} (s : Step b m G H G1 H1) (h : OutOk K b m β G H D o) : OutOk K b m β G1 H1 D o := by
  cases o with
  | nx r => exact fun σ' G' H' s' e => h σ' G' H' (s.trans s') e
  | brk r => exact fun σ' G' H' s' e => h σ' G' H' (s.trans s') e
  | ct r => exact fun σ' G' H' s' e => h σ' G' H' (s.trans s') e
  | ret d => exact fun v G' H' s' e dv => h v G' H' (s.trans s') e dv
theorem st_asg {i : Nat} (h : EvB K te ρ β d β1) : StB K (tAsg te (gName i)) ρ β (.nx (ρ.set i (some (Slot.imm d)))) β1 := ⟨h.som, fun b G H σ D E k => h.run b G H σ _ E fun v G1 H1 s1 k1 d1 =>
  k (σ.set i (some v)) G1 H1 s1 ((E.step s1 k1).set d1)⟩
theorem st_ret (h : EvB K te ρ β d β1) : StB K (tRet te) ρ β (.ret d) β1 := ⟨h.som, fun b G H σ D E k => h.run b G H σ _ E fun v G1 H1 s1 k1 d1 => k v G1 H1 s1 k1 d1⟩
theorem st_drop (h : EvB K te ρ β d β1) : StB K (tDrop te) ρ β (.nx ρ) β1 := ⟨h.som, fun b G H σ D E k => h.run b G H σ _ E fun v G1 H1 s1 k1 d1 => k σ G1 H1 s1 (E.step s1 k1)⟩
theorem st_next : StB K tNext ρ β (.nx ρ) β := ⟨rfl, fun b G H σ D E k => k σ G H (Step.refl E.sub) E⟩
theorem st_seq (h : StB K tu ρ β (.nx ρ1) β1) (h' : StB K tw ρ1 β1 o β2) : StB K (tSeq tu tw) ρ β o β2 := ⟨h'.som.trans h.som, fun b G H σ D E k => h.run b G H σ { D with nx := tw D } E fun σ1 G1 H1 s1 E1 =>
  h'.run b G1 H1 σ1 D E1 (by rw [h.som]; exact k.of (D' := D) s1)⟩
theorem st_seqR (h : StB K tu ρ β (.ret d) β1) : StB K (tSeq tu tw) ρ β (.ret d) β1 := ⟨h.som, fun b G H σ D E k => h.run b G H σ { D with nx := tw D } E k⟩
theorem st_if {p : Bool} (h : TtB K tt ρ β p β1) (h1 : p = true → StB K tu ρ β1 o β2) (h2 : p = false → StB K tw ρ β1 o β2) : StB K (tIfS tt tu tw) ρ β o β2 := by
  cases p with
  | true =>
    refine ⟨(h1 rfl).som.trans h.som, fun b G H σ D E k => h.run b G H σ _ E fun G1 H1 s1 k1 => ?_⟩
    rw [if_pos rfl]
    exact (h1 rfl).run b G1 H1 σ D (E.step s1 k1) (by rw [h.som]; exact k.of (D' := D) s1)
  | false =>
    refine ⟨(h2 rfl).som.trans h.som, fun b G H σ D E k => h.run b G H σ _ E fun G1 H1 s1 k1 => ?_⟩
    rw [if_neg (Bool.false_ne_true)]
    exact (h2 rfl).run b G1 H1 σ D (E.step s1 k1) (by rw [h.som]; exact k.of (D' := D) s1)
theorem st_ifT (h : TtB K tt ρ β true β1) (h1 : StB K tu ρ β1 o β2) : StB K (tIfS tt tu tw) ρ β o β2 := st_if h (fun _ => h1) fun z => by cases z
theorem st_ifF (h : TtB K tt ρ β false β1) (h1 : StB K tw ρ β1 o β2) : StB K (tIfS tt tu tw) ρ β o β2 := st_if h (fun z => by cases z) fun _ => h1
/-- a, b = e1, e2, plain local names -/
theorem st_par {i j : Nat} (h : EvB K ta ρ β x β1) (h' : EvB K tb ρ β1 y β2) : StB K (tPar i j (tCons ta (tCons tb tNil))) ρ β (.nx ((ρ.set i (some (Slot.imm x))).set j (some (Slot.imm y)))) β2 := by
  refine ⟨h'.som.trans h.som, fun b G H σ D E k => ?_⟩
  refine h.run b G H σ _ E fun v G1 H1 s1 k1 d1 => ?_
  refine h'.run b G1 H1 σ _ (E.step s1 k1) fun w G2 H2 s2 k2 d2 => ?_
  refine ⟨v, w, rfl, ?_⟩
  rw [h.som] at s2
  exact k _ G2 H2 (s1.trans s2) ((((E.step s1 k1).step s2 k2).set (d1.mono s2.g)).set d2)
def gNames : List Nat → TGs
  | [] => gNil
  | i :: is => gCons (gName i) (gNames is)
def setR (ρ : Rho) : List Nat → List Dt → Rho
  | i :: is, d :: ds => setR (ρ.set i (some (Slot.imm d))) is ds
  | _, _ => ρ
theorem gNames_run {Q : L2.St → Hp → Prop} : ∀ {is : List Nat} {vs : List V} {ds : List Dt} {σ : L2.St} {ρ : Rho}, DenL K G vs ds → vs.length = is.length → EnvD K b β G H σ ρ → (∀ σ', EnvD K b β G H σ' (setR ρ is ds) → Q σ' H) → gNames is vs σ H Q
  | [], [], [], σ, ρ, _, _, E, k => ⟨rfl, k σ E⟩
  | [], _ :: _, _, _, _, _, h, _, _ => by cases h
  | [], [], _ :: _, _, _, h, _, _, _ => nomatch h
  | _ :: _, [], _, _, _, _, h, _, _ => by cases h
  | _ :: _, _ :: _, [], _, _, h, _, _, _ => nomatch h
  | i :: is, v :: vs, d :: ds, σ, ρ, .cons h1 h2, hl, E, k => ⟨v, vs, rfl, gNames_run h2 (Nat.succ.inj hl) (E.set h1) k⟩
theorem st_unpack {is : List Nat} {n : Nat} {ds : List Dt} (h : EvB K te ρ β (.tuple ds) β1) (hn : ds.length = n) (hi : is.length = n) : StB K (tAsg te (gTup K n (gNames is))) ρ β (.nx (setR ρ is ds)) β1 := ⟨h.som, fun b G H σ D E k => h.run b G H σ _ E fun v G1 H1 s1 k1 d1 => by
  cases d1 with
  | @tup a xs _ hs hd =>
    have hs := st_of (K := K) hs
    refine ⟨a, xs, rfl, ex_t s1.s hs, by rw [hd.length]; exact hn, ?_⟩
    exact gNames_run hd (by rw [hd.length, hn, hi]) (E.step s1 k1) fun σ' E' => k σ' G1 H1 s1 E'⟩
end
inductive ForR [TabW] (K : PySem.W.Frag) (j : Nat) (tu : TS) : List Dt → Rho → Bag → Out → Bag → Prop
  | nil (ρ : Rho) (β : Bag) : ForR K j tu [] ρ β (.nx ρ) β
  | nx {d : Dt} {ds : List Dt} {ρ ρ1 : Rho} {β β1 β2 : Bag} {o : Out} : StB K tu (ρ.set j (some (Slot.imm d))) β (.nx ρ1) β1 → ForR K j tu ds ρ1 β1 o β2 → ForR K j tu (d :: ds) ρ β o β2
  | ct {d : Dt} {ds : List Dt} {ρ ρ1 : Rho} {β β1 β2 : Bag} {o : Out} : StB K tu (ρ.set j (some (Slot.imm d))) β (.ct ρ1) β1 → ForR K j tu ds ρ1 β1 o β2 → ForR K j tu (d :: ds) ρ β o β2
  | brk {d : Dt} {ds : List Dt} {ρ ρ1 : Rho} {β β1 : Bag} : StB K tu (ρ.set j (some (Slot.imm d))) β (.brk ρ1) β1 → ForR K j tu (d :: ds) ρ β (.nx ρ1) β1
  | ret {d : Dt} {ds : List Dt} {ρ : Rho} {β β1 : Bag} {r : Dt} : StB K tu (ρ.set j (some (Slot.imm d))) β (.ret r) β1 → ForR K j tu (d :: ds) ρ β (.ret r) β1
section
variable [TabW] {K : PySem.W.Frag} {b : Addr} {ρ ρ' ρ1 : Rho} {β β1 β2 β3 : Bag} {ta tb te tc : TE} {tt : TT} {tu tw ts : TS} {x y z d : Dt} {o : Out} {G H G1 H1 G2 H2 : Hp} {σ : L2.St}
theorem ForR.som {j : Nat} {ds : List Dt} (h : ForR K j tu ds ρ β o β2) : β2.isSome = β.isSome := by
  induction h with
  | nil => rfl
  | nx h _ ih => exact ih.trans h.som
  | ct h _ ih => exact ih.trans h.som
  | brk h => exact h.som
  | ret h => exact h.som
/-- one turn of a for, at any next -/
theorem for_turn {j : Nat} {ds : List Dt} {D : Ends} {m : Bool} {v : V} {N : L2.St → Hp → Prop} (hm : m = β.isSome) (h : ForR K j tu (d :: ds) ρ β o β2) (E : EnvD K b β G H σ ρ) (dv : Den K G v d)
    (s : Step b m G1 H1 G H) (k : OutOk K b m β2 G1 H1 D o) (hN : ∀ σ' G' H' ρ' β', Step b m G1 H1 G' H' → β'.isSome = m → EnvD K b β' G' H' σ' ρ' → ForR K j tu ds ρ' β' o β2 → N σ' H') :
    tu { D with nx := N, ct := N, bk := D.nx } (σ.set j (some v)) H := by
  have E' := E.set (i := j) dv
  subst hm
  cases h with
  | nx h hr => exact h.run b G H _ _ E' fun σ' G' H' s' e => hN σ' G' H' _ _ (s.trans s') h.som e hr
  | ct h hr => exact h.run b G H _ _ E' fun σ' G' H' s' e => hN σ' G' H' _ _ (s.trans s') h.som e hr
  | brk h => exact h.run b G H _ _ E' fun σ' G' H' s' e => k σ' G' H' (s.trans s') e
  | ret h => exact h.run b G H _ _ E' fun w G' H' s' e dw => k w G' H' (s.trans s') e dw
theorem st_forT {j : Nat} {tl : TE} {ds : List Dt} (hl : EvB K tl ρ β (.tuple ds) β1) (h : ForR K j tu ds ρ β1 o β2) : StB K (tFor (iTup K tl) (gName j) tu) ρ β o β2 := by
  refine ⟨h.som.trans hl.som, fun b G H σ D E k => ?_⟩
  refine hl.run b G H σ _ E fun v G1 H1 s1 k1 d1 => ?_
  cases d1 with
  | @tup a xs _ hs hd =>
    have hs := st_of (K := K) hs
    refine ⟨a, rfl, ⟨xs, ex_t s1.s hs⟩, for_tup (K := K) (a := a) (xs := xs) (fun i σ' H' => ∃ G' ρ' β', Step b β.isSome G1 H1 G' H' ∧ β'.isSome = β.isSome ∧ EnvD K b β' G' H' σ' ρ' ∧ ForR K j tu (ds.drop i) ρ' β' o β2) ?_ ?_ ?_ ?_⟩
    · exact ⟨G1, ρ, β1, Step.refl s1.s, hl.som, E.step s1 k1, h⟩
    · rintro i σ' H' _ ⟨G', ρ', β', s', _⟩
      exact ex_t s'.s (ex_t s'.g hs)
    · rintro i v σ' H' hi ⟨G', ρ', β', s', m', E', r'⟩
      obtain ⟨d, hd1, hd2⟩ := hd.get hi
      have e : ds.drop i = d :: ds.drop (i + 1) := by
        obtain ⟨hlt, he⟩ := List.getElem?_eq_some_iff.mp hd1
        rw [← he]
        exact List.drop_eq_getElem_cons hlt
      rw [e] at r'
      exact for_turn (m := β.isSome) m'.symm r' E' (hd2.mono s'.g) s' (k.of (D' := D) s1) fun σ2 G2 H2 ρ2 β2' s2 m2 E2 r2 => ⟨G2, ρ2, β2', s2, m2, E2, r2⟩
    · rintro σ' H' ⟨G', ρ', β', s', m', E', r'⟩
      rw [hd.length, List.drop_length] at r'
      cases r'
      exact k σ' G' H' (s1.trans s') E'
def rng (lo : Int) (n : Nat) : List Dt := (List.range n).map fun (i : Nat) => PyData.int (lo + (i : Int))
theorem rng_length (lo : Int) (n : Nat) : (rng lo n).length = n := by unfold rng; rw [List.length_map, List.length_range]
theorem rng_drop {lo : Int} {n i : Nat} (h : i < n) : (rng lo n).drop i = .int (lo + (i : Int)) :: (rng lo n).drop (i + 1) := by
  have hl : i < (rng lo n).length := by rw [rng_length]; exact h
  have e : (rng lo n)[i]'hl = .int (lo + (i : Int)) := by simp [rng]
  rw [List.drop_eq_getElem_cons (hl), e]
theorem a_int1 {te : TE} {i : Int} (h : EvB K te ρ β (.int i) β1) (R : It → Hp → Prop) {m : Bool} (hm : m = β.isSome) (E : EnvD K b β G H σ ρ) (k : ∀ G1 H1, Step b m G H G1 H1 → BagOk b β1 G1 H1 → -(2 ^ 62) ≤ i ∧ i < 2 ^ 62 ∧ R (Itr 0 i.toNat) H1) : iRng1 (tCons te tNil) σ H R := by
  subst hm
  refine h.run b G H σ _ E fun v G1 H1 s1 k1 d1 => ?_
  cases d1
  obtain ⟨q1, q2, q3⟩ := k G1 H1 s1 k1
  exact ⟨i, rfl, q1, q2, q3⟩
theorem st_forR1 {j : Nat} {i : Int} (hl : EvB K te ρ β (.int i) β1) (hb : -(2 ^ 62) ≤ i ∧ i < 2 ^ 62) (h : ForR K j tu (rng 0 i.toNat) ρ β1 o β2) : StB K (tFor (iRng1 (tCons te tNil)) (gName j) tu) ρ β o β2 := by
  refine ⟨h.som.trans hl.som, fun b G H σ D E k => ?_⟩
  refine a_int1 hl _ rfl E fun G1 H1 s1 k1 => ⟨hb.1, hb.2, ?_⟩
  refine for_range (lo := 0) (n := i.toNat) (fun i' σ' H' => ∃ G' ρ' β', Step b β.isSome G1 H1 G' H' ∧ β'.isSome = β.isSome ∧ EnvD K b β' G' H' σ' ρ' ∧ ForR K j tu ((rng 0 i.toNat).drop i') ρ' β' o β2) ?_ ?_ ?_
  · exact ⟨G1, ρ, β1, Step.refl s1.s, hl.som, E.step s1 k1, h⟩
  · rintro i' σ' H' hi ⟨G', ρ', β', s', m', E', r'⟩
    rw [rng_drop hi] at r'
    exact for_turn (m := β.isSome) m'.symm r' E' (.int _) s' (k.of (D' := D) s1) fun σ2 G2 H2 ρ2 β2' s2 m2 E2 r2 => ⟨G2, ρ2, β2', s2, m2, E2, r2⟩
  · rintro σ' H' ⟨G', ρ', β', s', m', E', r'⟩
    have e : (rng 0 i.toNat).drop i.toNat = [] := by rw [List.drop_eq_nil_iff, rng_length]; exact Nat.le_refl _
    rw [e] at r'
    cases r'
    exact k σ' G' H' (s1.trans s') E'
end
inductive WhR [TabW] (K : PySem.W.Frag) (tt : TT) (tu : TS) : Nat → Rho → Bag → Out → Bag → Prop
  | done {n : Nat} {ρ : Rho} {β β1 : Bag} : TtB K tt ρ β false β1 → WhR K tt tu n ρ β (.nx ρ) β1
  | nx {n : Nat} {ρ ρ1 : Rho} {β β1 β2 β3 : Bag} {o : Out} : TtB K tt ρ β true β1 → StB K tu ρ β1 (.nx ρ1) β2 → WhR K tt tu n ρ1 β2 o β3 → WhR K tt tu (n + 1) ρ β o β3
  | ret {n : Nat} {ρ : Rho} {β β1 β2 : Bag} {r : Dt} : TtB K tt ρ β true β1 → StB K tu ρ β1 (.ret r) β2 → WhR K tt tu n ρ β (.ret r) β2
section
variable [TabW] {K : PySem.W.Frag} {b : Addr} {ρ ρ' ρ1 : Rho} {β β1 β2 β3 : Bag} {ta tb te tc : TE} {tt : TT} {tu tw ts : TS} {x y z d : Dt} {o : Out} {G H G1 H1 G2 H2 : Hp} {σ : L2.St}
theorem WhR.som {n : Nat} (h : WhR K tt tu n ρ β o β2) : β2.isSome = β.isSome := by
  induction h with
  | done h => exact h.som
  | nx h1 h2 _ ih => exact ih.trans (h2.som.trans h1.som)
  | ret h1 h2 => exact h2.som.trans h1.som
end
inductive LcR [TabW] (K : PySem.W.Frag) (j : Nat) (tt : TT) (te : TE) : List Dt → Rho → Bag → List Dt → Bag → Prop
  | nil (ρ : Rho) (β : Bag) : LcR K j tt te [] ρ β [] β
  | yes {d r : Dt} {ds rs : List Dt} {ρ : Rho} {β β1 β2 β3 : Bag} : TtB K tt (ρ.set j (some (Slot.imm d))) β true β1 → EvB K te (ρ.set j (some (Slot.imm d))) β1 r β2 → LcR K j tt te ds ρ β2 rs β3 → LcR K j tt te (d :: ds) ρ β (r :: rs) β3
  | no {d : Dt} {ds rs : List Dt} {ρ : Rho} {β β1 β3 : Bag} : TtB K tt (ρ.set j (some (Slot.imm d))) β false β1 → LcR K j tt te ds ρ β1 rs β3 → LcR K j tt te (d :: ds) ρ β rs β3
section
variable [TabW] {K : PySem.W.Frag} {b : Addr} {ρ ρ' ρ1 : Rho} {β β1 β2 β3 : Bag} {ta tb te tc : TE} {tt : TT} {tu tw ts : TS} {x y z d : Dt} {o : Out} {G H G1 H1 G2 H2 : Hp} {σ : L2.St}
theorem LcR.som {j : Nat} {ds rs : List Dt} (h : LcR K j tt te ds ρ β rs β2) : β2.isSome = β.isSome := by
  induction h with
  | nil => rfl
  | yes h1 h2 _ ih => exact ih.trans (h2.som.trans h1.som)
  | no h1 _ ih => exact ih.trans h1.som
theorem LcR.len {j : Nat} {ds rs : List Dt} (h : LcR K j tt te ds ρ β rs β2) : rs.length ≤ ds.length := by
  induction h with
  | nil => exact Nat.le_refl _
  | yes h1 h2 _ ih => exact Nat.succ_le_succ ih
  | no h1 _ ih => exact Nat.le_succ_of_le ih
/-- the tests hold or not, by f; the items are g's: nothing is drawn -/
theorem LcR.pure {j : Nat} (f : Dt → Bool) (g : Dt → Dt) : ∀ {ds : List Dt}, (∀ d ∈ ds, TtB K tt (ρ.set j (some (Slot.imm d))) β (f d) β) → (∀ d ∈ ds, f d = true → EvB K te (ρ.set j (some (Slot.imm d))) β (g d) β) → LcR K j tt te ds ρ β ((ds.filter f).map g) β
  | [], _, _ => .nil ρ β
  | d :: ds, h1, h2 => by
    have ih := LcR.pure f g (ds := ds) (fun e he => h1 e (List.mem_cons_of_mem _ he)) (fun e he => h2 e (List.mem_cons_of_mem _ he))
    have t := h1 d List.mem_cons_self
    cases hf : f d with
    | true =>
      rw [List.filter_cons, if_pos hf, List.map_cons]
      rw [hf] at t
      exact .yes t (h2 d List.mem_cons_self hf) ih
    | false =>
      rw [List.filter_cons, if_neg (by rw [hf]; decide)]
      rw [hf] at t
      exact .no t ih
theorem t_yes0 : TtB K tYes ρ β true β := ⟨rfl, fun b G H σ Q E k => k G H (Step.refl E.sub) E.bagk⟩
theorem LcR.map {j : Nat} (g : Dt → Dt) {ds : List Dt} (h2 : ∀ d ∈ ds, EvB K te (ρ.set j (some (Slot.imm d))) β (g d) β) : LcR K j tYes te ds ρ β (ds.map g) β := by
  have h := LcR.pure (K := K) (tt := tYes) (te := te) (ρ := ρ) (β := β) (j := j) (fun _ => true) g (ds := ds) (fun _ _ => t_yes0) fun d hd _ => h2 d hd
  rw [List.filter_eq_self.mpr fun _ _ => rfl] at h
  exact h
/-- the state between the turns -/
structure LcW [TabW] (K : PySem.W.Frag) (b : Addr) (m : Bool) (G1 H1 : Hp) (Dl : Addr) (rs : List Dt) (β3 : Bag) (P : List Dt → Bag → Prop) (H : Hp) : Prop where
  ex : ∃ (G : Hp) (β : Bag) (done rest : List Dt) (acc : List V), Step b m G1 H1 G H ∧ BagOk b β G H ∧ β.isSome = m ∧ G Dl = none ∧ H Dl = some (.lst acc) ∧ DenL K G acc done ∧ done ++ rest = rs ∧ P rest β
theorem LstAt.none {H : Hp} {Dl : Addr} (h : H Dl = none) : ∀ o, H Dl = some o → ∃ xs, o = HO.lst xs := fun o e => by rw [h] at e; cases e
theorem LstAt.of {H : Hp} {Dl : Addr} {xs : List V} (h : H Dl = some (.lst xs)) : ∀ o, H Dl = some o → ∃ xs, o = HO.lst xs := fun o e => by rw [h] at e; cases e; exact ⟨xs, rfl⟩
/-- nothing but a table -/
def Gone (H : Hp) (p : Addr) : Prop := ∀ o, NoT o → H p ≠ some o
theorem Gone.none {H : Hp} {p : Addr} (h : H p = none) : Gone H p := fun o _ z => by rw [h] at z; cases z
theorem Gone.ne {H : Hp} {p a : Addr} {o : HO} (g : Gone H p) (t : NoT o) (h : H a = some o) : a ≠ p := fun z => g o t (by rw [← z]; exact h)
/-- a table stays one if a list is written -/
theorem tab_upd {Dl P : Addr} {q : Str} {ob : HO} {H : Hp} (h : LamX.TabS H P q) (hl : ∀ o, H Dl = some o → ∃ xs, o = HO.lst xs) : LamX.TabS (upd H Dl ob) P q := by
  obtain ⟨ps, h1, h2, h3⟩ := h
  refine ⟨ps, ?_, h2, fun pos cv hc => ?_⟩
  · rw [upd_ne fun z => ?_]
    · exact h1
    · rw [← z] at hl
      obtain ⟨_, e⟩ := hl _ h1
      cases e
  · obtain ⟨c, e1, e2⟩ := h3 pos cv hc
    refine ⟨c, e1, ?_⟩
    rw [upd_ne fun z => ?_]
    · exact e2
    · rw [← z] at hl
      obtain ⟨_, e⟩ := hl _ e2
      unfold LamX.CodeO at e
      cases e
theorem Step.mut {m : Bool} {Dl : Addr} {ob : HO} (s : Step b m G1 H1 G H) (h1 : Gone H1 Dl) (h2 : G Dl = none) (hl : ∀ o, H Dl = some o → ∃ xs, o = HO.lst xs) : Step b m G1 H1 G (upd H Dl ob) := by
  refine ⟨s.g, s.s.mut h2, s.fresh, fun a u n t h => ?_, fun a u t h => ?_, fun h => ⟨fun P q w => tab_upd ((s.tabs h).tab P q w) hl, (s.tabs h).free⟩⟩
  · rw [upd_ne (h1.ne t h)]
    exact s.keep a u n t h
  · rw [upd_ne (h1.ne t h)]
    exact s.stay a u t h
theorem BagOk.mut {Dl : Addr} {ob : HO} (k : BagOk b β G H) (n : β.isSome = true → Dl ≠ b) : BagOk b β G (upd H Dl ob) := fun ns e => by
  obtain ⟨h1, h2⟩ := k ns e
  exact ⟨by rw [upd_ne (Ne.symm (n (by rw [e]; rfl)))]; exact h1, h2⟩
/-- one turn, with the element at hand -/
theorem lc_turn {j : Nat} {m : Bool} {Dl : Addr} {ds rs : List Dt} {σ0 : L2.St} {v : V} (hD : H1 Dl = none) (nb : m = true → Dl ≠ b) (hz : rs.length ≤ 100000) (E1 : ∀ G H β, Step b m G1 H1 G H → BagOk b β G H → EnvD K b β G H σ0 ρ)
    (hv : Den K G1 v d) (hw : LcW K b m G1 H1 Dl rs β3 (fun rest β => LcR K j tt te (d :: ds) ρ β rest β3) H) :
    tt (σ0.set j (some v)) H fun c H3 => if c = true then te (σ0.set j (some v)) H3 fun y H4 => ∃ acc, H4 Dl = some (.lst acc) ∧ acc.length < sizeLine ∧ LcW K b m G1 H1 Dl rs β3 (fun rest β => LcR K j tt te ds ρ β rest β3) (upd H4 Dl (.lst (acc ++ [y])))
      else LcW K b m G1 H1 Dl rs β3 (fun rest β => LcR K j tt te ds ρ β rest β3) H3 := by
  obtain ⟨G, β, done, rest, acc, s, kb, hm, gD, hH, ha, hr, r⟩ := hw
  have E := (E1 G H β s kb).set (i := j) (hv.mono s.g)
  cases r with
  | @yes _ r' _ rs' _ _ β1 β2 _ ht he hr' =>
    refine ht.run b G H _ _ E fun G3 H3 s3 k3 => ?_
    rw [if_pos rfl]
    rw [hm] at s3
    refine he.run b G3 H3 _ _ (E.step s3 k3) fun y G4 H4 s4 k4 d4 => ?_
    rw [ht.som, hm] at s4
    have hH3 := s3.keep Dl _ nb NoT.lst hH
    have hH4 := s4.keep Dl _ nb NoT.lst hH3
    have gD3 := s3.fresh Dl _ gD NoT.lst hH
    have gD4 := s4.fresh Dl _ gD3 NoT.lst hH3
    have m2 : β2.isSome = m := he.som.trans (ht.som.trans hm)
    have hlen : acc.length = done.length := ha.length
    have hrl : rs.length = done.length + (rs'.length + 1) := by rw [← hr, List.length_append, List.length_cons]
    refine ⟨acc, hH4, sz_lt (by omega), ⟨G4, β2, done ++ [r'], rs', acc ++ [y], ((s.trans s3).trans s4).mut (Gone.none hD) gD4 (LstAt.of hH4), k4.mut (by rw [m2]; exact nb), m2, gD4, upd_same, ?_, ?_, hr'⟩⟩
    · exact (ha.mono (s3.g.trans s4.g)).append (.cons d4 .nil)
    · rw [← hr, List.append_assoc]
      rfl
  | @no _ _ _ _ _ β1 _ ht hr' =>
    refine ht.run b G H _ _ E fun G3 H3 s3 k3 => ?_
    rw [if_neg (Bool.false_ne_true)]
    rw [hm] at s3
    exact ⟨G3, β1, done, rest, acc, s.trans s3, k3, ht.som.trans hm, s3.fresh Dl _ gD NoT.lst hH, s3.keep Dl _ nb NoT.lst hH, ha.mono s3.g, hr, hr'⟩
theorem lc_start {m : Bool} {Dl : Addr} {rs : List Dt} {P : List Dt → Bag → Prop} (e : Ex G1 H1) (hD : H1 Dl = none) (kb : BagOk b β G1 H1) (hm : β.isSome = m) (nb : m = true → Dl ≠ b) (h : P rs β) : LcW K b m G1 H1 Dl rs β3 P (upd H1 Dl (.lst [])) :=
  ⟨G1, β, [], rs, [], (Step.refl e).mut (Gone.none hD) (fresh_back e hD) (LstAt.none hD), kb.mut (by rw [hm]; exact nb), hm, fresh_back e hD, upd_same, .nil, rfl, h⟩
theorem lc_end {j : Nat} {m : Bool} {Dl : Addr} {rs : List Dt} {Q : VK} (e : Ex G1 H1) (hD : H1 Dl = none) (nb : m = true → Dl ≠ b) (hw : LcW K b m G1 H1 Dl rs β3 (fun rest β => LcR K j tt te [] ρ β rest β3) H)
    (k : ∀ v G' H', Step b m G1 H1 G' H' → BagOk b β3 G' H' → Den K G' v (.list rs) → Q v H') : Q (.ref Dl) H := by
  obtain ⟨G, β, done, rest, acc, s, kb, hm, gD, hH, ha, hr, r⟩ := hw
  cases r
  rw [List.append_nil] at hr
  subst hr
  have ex : Ex G (upd G Dl (.lst acc)) := Ex.new gD
  refine k (.ref Dl) (upd G Dl (.lst acc)) H ⟨s.g.trans ex, fun a u h => ?_, fun a u h1 t h2 => ?_, s.keep, s.stay, fun h => ⟨(s.tabs h).tab, fun x ps z => ?_⟩⟩ (fun ns q => ?_) (.lst upd_same (ha.mono ex))
  · by_cases z : a = Dl
    · subst z; rw [upd_same] at h; cases h; exact hH
    · rw [upd_ne z] at h; exact s.s a u h
  · rw [upd_ne (ne_of_none h2 hD)]
    exact s.fresh a u h1 t h2
  · by_cases q : x = Dl
    · rw [q, upd_same] at z; cases z
    · rw [upd_ne q] at z; exact (s.tabs h).free x ps z
  · obtain ⟨q1, q2⟩ := kb ns q
    exact ⟨q1, by rw [upd_ne (Ne.symm (nb (by rw [← hm, q]; rfl)))]; exact q2⟩
theorem bag_ne {m : Bool} {Dl : Addr} (kb : BagOk b β G H) (hm : β.isSome = m) (hD : H Dl = none) : m = true → Dl ≠ b := fun z q => by
  rw [← hm] at z
  obtain ⟨ns, e⟩ := Option.isSome_iff_exists.mp z
  have := (kb ns e).1
  rw [← q, hD] at this
  cases this
/-- a comprehension over a list -/
theorem d_lcL {j : Nat} {vs : List Nat} {tl : TE} {ds rs : List Dt} (hl : EvB K tl ρ β (.list ds) β1) (h : LcR K j tt te ds (wipeR ρ vs) β1 rs β2) (hz : rs.length ≤ 100000)
    (hw : ∀ (σ : L2.St) x, wipe ((wipe σ vs).set j (some x)) vs = wipe σ vs) : EvB K (tLc (iList K tl) (gName j) tt te vs) ρ β (.list rs) β2 := by
  refine ⟨h.som.trans hl.som, fun b G H σ Q E k => ?_⟩
  refine hl.run b G H σ _ E fun v G1 H1 s1 k1 d1 => ?_
  have E1 := E.step s1 k1
  cases d1 with
  | @lst a xs _ hs hd =>
    refine ⟨a, rfl, ⟨xs, sq_of (s1.s _ _ hs)⟩, fun Dl hD => ?_⟩
    have nb := bag_ne k1 hl.som hD
    refine lc_list (K := K) (a := a) (xs := xs) (fun i H' => LcW K b β.isSome G1 H1 Dl rs β2 (fun rest β' => LcR K j tt te (ds.drop i) (wipeR ρ vs) β' rest β2) H') ?_ ?_ ?_ ?_
    · exact lc_start s1.s hD k1 hl.som nb h
    · rintro i H' _ ⟨G', β', done, rest, acc, s', _⟩
      exact sq_of (s'.s _ _ (s'.g _ _ hs))
    · rintro i x H' hi w'
      obtain ⟨d, hd1, hd2⟩ := hd.get hi
      have e : ds.drop i = d :: ds.drop (i + 1) := by
        obtain ⟨hlt, he⟩ := List.getElem?_eq_some_iff.mp hd1
        rw [← he]
        exact List.drop_eq_getElem_cons hlt
      rw [e] at w'
      exact ⟨hw σ x, lc_turn hD nb hz (fun G' H' β' s' kb' => (E1.wipe vs).step s' kb') hd2 w'⟩
    · rintro H' w'
      rw [hd.length, List.drop_length] at w'
      exact lc_end s1.s hD nb w' fun v G' H'' s' kb' dv => k v G' H'' (s1.trans s') kb' dv
theorem d_lcT {j : Nat} {vs : List Nat} {tl : TE} {ds rs : List Dt} (hl : EvB K tl ρ β (.tuple ds) β1) (h : LcR K j tt te ds (wipeR ρ vs) β1 rs β2) (hz : rs.length ≤ 100000)
    (hw : ∀ (σ : L2.St) x, wipe ((wipe σ vs).set j (some x)) vs = wipe σ vs) : EvB K (tLc (iTup K tl) (gName j) tt te vs) ρ β (.list rs) β2 := by
  refine ⟨h.som.trans hl.som, fun b G H σ Q E k => ?_⟩
  refine hl.run b G H σ _ E fun v G1 H1 s1 k1 d1 => ?_
  have E1 := E.step s1 k1
  cases d1 with
  | @tup a xs _ hs hd =>
    have hs := st_of (K := K) hs
    refine ⟨a, rfl, ⟨xs, ex_t s1.s hs⟩, fun Dl hD => ?_⟩
    have nb := bag_ne k1 hl.som hD
    refine lc_tup (K := K) (a := a) (xs := xs) (fun i H' => LcW K b β.isSome G1 H1 Dl rs β2 (fun rest β' => LcR K j tt te (ds.drop i) (wipeR ρ vs) β' rest β2) H') ?_ ?_ ?_ ?_
    · exact lc_start s1.s hD k1 hl.som nb h
    · rintro i H' _ ⟨G', β', done, rest, acc, s', _⟩
      exact ex_t s'.s (ex_t s'.g hs)
    · rintro i x H' hi w'
      obtain ⟨d, hd1, hd2⟩ := hd.get hi
      have e : ds.drop i = d :: ds.drop (i + 1) := by
        obtain ⟨hlt, he⟩ := List.getElem?_eq_some_iff.mp hd1
        rw [← he]
        exact List.drop_eq_getElem_cons hlt
      rw [e] at w'
      exact ⟨hw σ x, lc_turn hD nb hz (fun G' H' β' s' kb' => (E1.wipe vs).step s' kb') hd2 w'⟩
    · rintro H' w'
      rw [hd.length, List.drop_length] at w'
      exact lc_end s1.s hD nb w' fun v G' H'' s' kb' dv => k v G' H'' (s1.trans s') kb' dv
theorem d_lcR1 {j : Nat} {vs : List Nat} {i : Int} {rs : List Dt} (hl : EvB K ta ρ β (.int i) β1) (hb : -(2 ^ 62) ≤ i ∧ i < 2 ^ 62) (h : LcR K j tt te (rng 0 i.toNat) (wipeR ρ vs) β1 rs β2) (hz : rs.length ≤ 100000)
    (hw : ∀ (σ : L2.St) x, wipe ((wipe σ vs).set j (some x)) vs = wipe σ vs) : EvB K (tLc (iRng1 (tCons ta tNil)) (gName j) tt te vs) ρ β (.list rs) β2 := by
  refine ⟨h.som.trans hl.som, fun b G H σ Q E k => ?_⟩
  refine a_int1 hl _ rfl E fun G1 H1 s1 k1 => ⟨hb.1, hb.2, fun Dl hD => ?_⟩
  have E1 := E.step s1 k1
  have nb := bag_ne k1 hl.som hD
  refine lc_range (lo := 0) (n := i.toNat) (fun i' H' => LcW K b β.isSome G1 H1 Dl rs β2 (fun rest β' => LcR K j tt te ((rng 0 i.toNat).drop i') (wipeR ρ vs) β' rest β2) H') ?_ ?_ ?_
  · exact lc_start s1.s hD k1 hl.som nb h
  · rintro i' H' hi w'
    rw [rng_drop hi] at w'
    exact ⟨hw σ _, lc_turn hD nb hz (fun G' H' β' s' kb' => (E1.wipe vs).step s' kb') (.int _) w'⟩
  · rintro H' w'
    have e : (rng 0 i.toNat).drop i.toNat = [] := by rw [List.drop_eq_nil_iff, rng_length]; exact Nat.le_refl _
    rw [e] at w'
    exact lc_end s1.s hD nb w' fun v G' H'' s' kb' dv => k v G' H'' (s1.trans s') kb' dv
end
end TD
set_option Elab.async false
set_option linter.all false
set_option maxRecDepth 100000
set_option maxHeartbeats 3000000
namespace TD
open PySem L2 PySem.Spec PyProof.Rows
open Evl (Ex ex_l ex_t fresh_back sq_of st_of sz_of sz_lt)
theorem wipe_set {j : Nat} {y : Option V} : ∀ {vs : List Nat} {σ : L2.St}, j ∈ vs → wipe (σ.set j y) vs = wipe σ vs
  | [], _, h => by cases h
  | v :: vs, σ, h => by
    unfold wipe
    by_cases z : j ∈ vs
    · rw [wipe_set z]
    · have e : j = v := by
        rcases List.mem_cons.mp h with h | h
        · exact h
        · exact absurd h z
      subst e
      have q : ∀ {ws : List Nat} {τ : L2.St}, j ∉ ws → wipe (τ.set j y) ws = (wipe τ ws).set j y := by
        intro ws
        induction ws with
        | nil => intro τ _; rfl
        | cons w ws ih =>
          intro τ hn
          unfold wipe
          rw [ih (fun m => hn (List.mem_cons_of_mem _ m)), List.set_comm _ _ (fun e => hn (by rw [e]; exact List.mem_cons_self))]
      rw [q z, List.set_set]
theorem wipe_wipe : ∀ {vs : List Nat} {σ : L2.St}, wipe (wipe σ vs) vs = wipe σ vs
  | vs, σ => by
    have q : ∀ {ws : List Nat} {τ : L2.St}, (∀ w ∈ ws, w ∈ vs) → wipe (wipe τ ws) vs = wipe τ vs := by
      intro ws
      induction ws with
      | nil => intro τ _; rfl
      | cons w ws ih =>
        intro τ hs
        show wipe ((wipe τ ws).set w none) vs = _
        rw [wipe_set (hs w List.mem_cons_self)]
        exact ih fun u hu => hs u (List.mem_cons_of_mem _ hu)
    exact q fun w h => h
theorem wipe_ok {j : Nat} {vs : List Nat} (h : j ∈ vs) (σ : L2.St) (x : V) : wipe ((wipe σ vs).set j (some x)) vs = wipe σ vs := by rw [wipe_set h, wipe_wipe]
/-- what a def makes of its arguments: the arguments, the bag ahead, the answer, the bag behind -/
abbrev FR := List Slot → Bag → Dt → Bag → Prop
def spR [TabW] (K : PySem.W.Frag) (R : FR) : Sp := fun vs H Q _ => ∃ (b : Addr) (G : Hp) (β : Bag) (as : List Slot) (r : Dt) (β' : Bag), Ex G H ∧ TabsOk G H ∧ BagOk b β G H ∧ DenSs K b G vs as ∧ R as β r β' ∧ β'.isSome = β.isSome ∧
  ∀ v G' H', Step b β.isSome G H G' H' → BagOk b β' G' H' → Den K G' v r → Q v H'
def startR (N : List Str) (as : List Slot) : Rho := as.map some ++ List.replicate (N.length - as.length) none
section
variable [TabW] {K : PySem.W.Frag} {b : Addr} {β β' β1 β2 : Bag} {G H : Hp} {ρ : Rho}
theorem start_env {N : List Str} {vs : List V} {as : List Slot} (e : Ex G H) (tb : TabsOk G H) (kb : BagOk b β G H) (h : DenSs K b G vs as) : EnvD K b β G H (L2.start N vs) (startR N as) := by
  have hl := h.length
  have get : ∀ (i : Nat) (a : Slot), (startR N as)[i]? = some (some a) → ∃ v, (L2.start N vs)[i]? = some (some v) ∧ DenS K b G v a := by
    intro i a hi
    have hia : i < as.length := by
      by_cases z : i < as.length
      · exact z
      · unfold startR at hi
        rw [List.getElem?_append_right (by simpa using z), List.getElem?_replicate] at hi
        split at hi <;> cases hi
    unfold startR at hi
    rw [List.getElem?_append_left (by simpa using hia), List.getElem?_map] at hi
    have ha : as[i]? = some a := by
      cases q : as[i]? with
      | none => rw [q] at hi; cases hi
      | some a' => rw [q] at hi; cases hi; rfl
    have q : ∀ {vs : List V} {as : List Slot} {i : Nat}, DenSs K b G vs as → as[i]? = some a → ∃ v, vs[i]? = some v ∧ DenS K b G v a := by
      intro vs as i hd
      induction hd generalizing i with
      | nil => intro z; simp at z
      | cons h1 _ ih =>
        intro z
        cases i with
        | zero => simp at z; subst z; exact ⟨_, rfl, h1⟩
        | succ i =>
          obtain ⟨v, z1, z2⟩ := ih (i := i) (by simpa using z)
          exact ⟨v, by simpa using z1, z2⟩
    obtain ⟨v, h1, h2⟩ := q h ha
    refine ⟨v, ?_, h2⟩
    unfold L2.start
    rw [List.getElem?_append_left (by rw [List.length_map, hl]; exact hia), List.getElem?_map, h1]
    rfl
  refine ⟨e, kb, ?_, fun i d hi => get i (.imm d) hi, fun i hi => ?_, tb, fun i a hi => get i (.fn a) hi |>.elim fun v h => by have h2 : v = .ref a := h.2; rw [← h2]; exact h.1⟩
  · unfold L2.start startR
    rw [List.length_append, List.length_append, List.length_map, List.length_map, List.length_replicate, List.length_replicate, hl]
  · obtain ⟨v, h1, h2⟩ := get i .bag hi
    have : v = .ref b := h2
    subst this
    exact h1
/-- a body that returns, or comes to its end -/
inductive BodyR [TabW] (K : PySem.W.Frag) (t : TS) (ρ : Rho) (β : Bag) (r : Dt) (β' : Bag) : Prop
  | ret : StB K t ρ β (.ret r) β' → BodyR K t ρ β r β'
  | fall (ρ' : Rho) : StB K t ρ β (.nx ρ') β' → r = .none → BodyR K t ρ β r β'
theorem fn_read {R : FR} {N : List Str} {t : TS} (h : ∀ as β r β', R as β r β' → BodyR K t (startR N as) β r β') {vs : List V} {H : Hp} {Q : VK} {E : XK} (hsp : spR K R vs H Q E) : t { nx := fun _ H' => Q .non H', rt := Q } (L2.start N vs) H := by
  obtain ⟨b, G, β, as, r, β', e, tb, kb, ha, hR, hm, k⟩ := hsp
  have E0 := start_env (N := N) e tb kb ha
  cases h _ _ _ _ hR with
  | ret hb => exact hb.run b G H _ _ E0 fun v G' H' s' k' d' => k v G' H' s' k' d'
  | fall ρ' hb hr =>
    subst hr
    exact hb.run b G H _ _ E0 fun σ' G' H' s' e' => k .non G' H' s' e'.bagk .non
/-- a call of it, with the bag or without -/
theorem d_call {R : FR} {E : XK} {t : TA} {as : List Slot} {r : Dt} (ha : EvA K t ρ β as β1) (hR : R as β1 r β2) (hm : β2.isSome = β1.isSome) : EvB K (tCall (spR K R) [] E t) ρ β r β2 := by
  refine ⟨hm.trans ha.som, fun b G H σ Q E' k => ?_⟩
  refine ha.run b G H σ _ E' fun vs G1 H1 s1 k1 d1 => ?_
  rw [List.append_nil]
  refine ⟨b, G1, β1, as, r, β2, s1.s, (E'.step s1 k1).tabs, k1, d1, hR, hm, fun v G2 H2 s2 k2 d2 => ?_⟩
  rw [ha.som] at s2
  exact k v G2 H2 (s1.trans s2) k2 d2
theorem d_call0 {R : FR} {E : XK} {t : TA} {as : List Slot} {r : Dt} (ha : EvA K t ρ β as β1) (hR : R as none r none) : EvB K (tCall (spR K R) [] E t) ρ β r β1 := by
  refine ⟨ha.som, fun b G H σ Q E' k => ?_⟩
  refine ha.run b G H σ _ E' fun vs G1 H1 s1 k1 d1 => ?_
  rw [List.append_nil]
  exact ⟨b, G1, none, as, r, none, s1.s, (E'.step s1 k1).tabs, (fun _ z => nomatch z), d1, hR, rfl, fun v G2 H2 s2 k2 d2 => k v G2 H2 (s1.trans s2.up) (k1.same s2) d2⟩
end
structure FnG [TabW] (P : Program) (w : World) (K : PySem.W.Frag) (mg : Str → Option Value) (base : Heap) (k : Nat) (x : Str) (ps : List Str) (R : FR) : Prop where
  ex : ∃ (f : Addr) (fd : FuncData), mg x = some (.ref f) ∧ FnOk P w K mg base CX0 k f fd ps (spR K R) ∧ Binds K fd ps [] ∧ PySem.W.keepIn K (.ref f) = true
section
variable [TabW] {X : Cx} {k : Nat} {x : Str} {ps : List Str} {R : FR} {q pos : Pos} {e : Expr} {es : List Expr} {t : TA}
theorem pe_fn {P : Program} {w : World} {K : PySem.W.Frag} {mg : Str → Option Value} {base : Heap} (F : FnG P w K mg base k x ps R) (hr : Room k X.A) (ha : PA X (e :: es) t) (h1 : X.prog = P := by rfl) (h2 : X.w = w := by rfl) (h3 : X.K = K := by rfl) (h4 : X.mg = mg := by rfl) (h5 : X.base = base := by rfl)
    (hg : Gl X x := by rfl) (hdb : (x == ("__debug__" : Str)) = false := by decide) (hs : starEach (e :: es) X.env = (false, eval e X.env) :: starEach es X.env := by rfl)
    (hp : (backTo pos (starEach es X.env)).any (·.1) = false := by rfl) : PE X (.Call (.Name x q) (e :: es) [] pos) (tCall (spR K R) [] E0 t) := by
  obtain ⟨f, fd, hm, hf, hb, hk⟩ := F.ex
  subst h1 h2 h3 h4 h5
  exact pe_call hf hr hg hm hk hb .nil pass0 ha hdb hs hp
end
/-- where a def of the text stands -/
structure DefAt (K : PySem.W.Frag) (x : Str) (st : Stmt) : Prop where
  ex : ∃ (f : Addr) (fd : FuncData), PySem.W.nsIn K mainGlobals x = some (some (.ref f)) ∧ Fun K x x st f fd
section
variable [TabW] {P : Program} {w : World} {K : PySem.W.Frag} {mg : Str → Option Value} {base : Heap} {k : Nat} {x : Str} {st : Stmt} {N ps : List Str} {R : FR}
/-- THE RULE for a def -/
theorem fn_mk (F : DefAt K x st) (hX : K.In base) (hG : base.Ns mainGlobals mg) (S : FnScope N ps (defScope st)) (hlen : ∀ as β r β', R as β r β' → as.length = ps.length)
    (hb : ∀ (f : Addr) (kV doc pm : Value) (an : Option Addr) (cdv ct : Value) (us : List Value), us.length = ps.length → bindArgs (PySem.W.fnOf x x (defArgs st) (defBody st) (defScope st) .none kV doc pm an cdv ct) ⟨us, []⟩ = pure (ps.zip us))
    (hbody : ∀ (f : Addr) (cdv : Value) (A : Around) (outer : List PySem.Env) (s : Shared) (H : Hp) (E : XK), Room k (A.deeper (envOfC x (defScope st) s.heap.objs.size f cdv)) →
      ∃ t, PSs (cxOf CX0 P w K mg base N x (defScope st) f cdv A outer s H E).nox (defBody st) t ∧ ∀ as β r β', R as β r β' → BodyR K t (startR N as) β r β') : FnG P w K mg base (k + 1) x ps R := by
  obtain ⟨f, fd, ha, hF⟩ := F.ex
  refine ⟨f, fd, PySem.W.mg_of hX hG ha, ?_, hF.binds (hb f), hF.kp⟩
  refine hF.ok S (fun vs H Q E hsp => ?_) fun cdv A outer s H vs Q E hr hsp => ?_
  · obtain ⟨b, G, β, as, r, β', _, _, _, hd, hR, _⟩ := hsp
    rw [hd.length]
    exact hlen _ _ _ _ hR
  · obtain ⟨t, h1, h2⟩ := hbody f cdv A outer s H E hr
    exact ⟨t, h1, fn_read h2 hsp⟩
end
end TD
set_option Elab.async false
set_option linter.all false
set_option maxRecDepth 100000
set_option maxHeartbeats 3000000
namespace TD
open PySem L2 PySem.Spec PyProof.Rows
open Evl (Ex ex_l ex_t fresh_back sq_of st_of sz_of sz_lt)
def CPowW (i j : Int) : Prop := 0 ≤ j ∧ (Builtin.Int.intBits i : Int) * j ≤ 2 ^ 27
theorem op_powW {X : Cx} : OpR X (binaryOp .Pow) (rI CPowW fun i j => .int (i ^ j.toNat)) := opI fun _ _ _ _ _ _ _ hc q => pow_int hc.1 hc.2 q
theorem bo_int : bootBuiltins "int" = some (.type "int") := by decide +kernel
theorem bo_bool : bootBuiltins "bool" = some (.type "bool") := by decide +kernel
theorem bo_tuple : bootBuiltins "tuple" = some (.type "tuple") := by decide +kernel
theorem bo_list : bootBuiltins "list" = some (.type "list") := by decide +kernel
theorem bo_dict : bootBuiltins "dict" = some (.type "dict") := by decide +kernel
theorem bo_abs : bootBuiltins "abs" = some (.builtin "abs") := by decide +kernel
theorem bo_len : bootBuiltins "len" = some (.builtin "len") := by decide +kernel
theorem bo_sum : bootBuiltins "sum" = some (.builtin "sum") := by decide +kernel
theorem bo_max : bootBuiltins "max" = some (.builtin "max") := by decide +kernel
theorem bo_min : bootBuiltins "min" = some (.builtin "min") := by decide +kernel
theorem bo_all : bootBuiltins "all" = some (.builtin "all") := by decide +kernel
theorem bo_sorted : bootBuiltins "sorted" = some (.builtin "sorted") := by decide +kernel
theorem bo_isinstance : bootBuiltins "isinstance" = some (.builtin "isinstance") := by decide +kernel
def rAnyT (K : PySem.W.Frag) : List V → Hp → VK → Prop := fun vs H Q => ∃ (a : Addr) (ns : List Int), vs = [V.ref a] ∧ SqT K H a (ns.map V.int) ∧ Q (.bl (ns.any (· != 0))) H
def rReprB : List V → Hp → VK → Prop := fun xs H Q => ∃ c : Bool, xs = [.bl c] ∧ Q (.str (if c then "True" else "False")) H
section
variable [TabW] {K : PySem.W.Frag} {b : Addr} {ρ ρ' ρ1 : Rho} {β β1 β2 β3 : Bag} {ta tb te tc : TE} {tt : TT} {tu tw ts : TS} {x y z d : Dt} {o : Out} {G H G1 H1 G2 H2 : Hp} {σ : L2.St}
theorem d_anyT {ns : List Int} (h : EvB K te ρ β (.tuple (ns.map .int)) β1) : EvB K (tCB (rAnyT K) (tCons te tNil)) ρ β (.bool (ns.any (· != 0))) β1 := d_c1 h fun b G H v Q e dv k => by
  cases dv with
  | @tup a xs _ hs hd =>
    have hs := st_of (K := K) hs
    have := hd.ints
    subst this
    exact ⟨a, ns, rfl, ex_t e hs, k _ G H (Step.refl e) (.bl _)⟩
def boolT (c : Bool) : Str := if c then "True" else "False"
theorem d_reprB {c : Bool} (h : EvB K te ρ β (.bool c) β1) : EvB K (tCB rReprB (tCons te tNil)) ρ β (.str (boolT c)) β1 := d_c1 h fun b G H v Q e dv k => by
  cases dv
  exact ⟨c, rfl, k _ G H (Step.refl e) (.str _)⟩
/-- a truth -/
def tTruth (K : PySem.W.Frag) (te : TE) : TT := fun σ H Q => te σ H fun x H' => ∃ k, TruV K x H' k ∧ Q k H'
theorem pt_tru {X : Cx} {K : PySem.W.Frag} {e : Expr} {te : TE} (he : PE X e te) (hw : ∀ whole, isTrue e X.env whole = (do let v ← whole; standAt e.pos; holding [v] (truthy v)) := by intro _; rfl) (h3 : X.K = K := by rfl) : PT X e (tTruth K te) := by
  subst h3
  exact pt_truth he hw
theorem t_truthI {i : Int} (h : EvB K te ρ β (.int i) β1) : TtB K (tTruth K te) ρ β (i != 0) β1 := ⟨h.som, fun b G H σ Q E k => h.run b G H σ _ E fun v G1 H1 s1 k1 d1 => by
  cases d1
  exact ⟨_, rfl, k G1 H1 s1 k1⟩⟩
def CDivV (_ j : Int) : Prop := j ≠ 0 ∧ j.natAbs.log2 < 9000
theorem op_fdivV {X : Cx} : OpR X (binaryOp .FloorDiv) (rI CDivV fun i j => .int (i.fdiv j)) := opI fun _ _ _ _ _ _ _ hc q => floordiv_int hc.1 q (.inl (PyProof.noPylong_of_log2 hc.2))
theorem d_fdiv {i j : Int} {C : Int → Int → Prop} (ha : EvB K ta ρ β (.int i) β1) (hb : EvB K tb ρ β1 (.int j) β2) (hc : C i j) : EvB K (tOp (rI C fun i j => .int (i.fdiv j)) ta tb) ρ β (.int (i.fdiv j)) β2 := d_rI ha hb hc fun _ => .int _
theorem eqv_ints : ∀ ms ns : List Int, PyData.eqvAll (ms.map .int) (ns.map .int) = decide (ms = ns)
  | [], [] => rfl
  | [], _ :: _ => rfl
  | _ :: _, [] => rfl
  | m :: ms, n :: ns => by
    show (PyData.eqv (.int m) (.int n) && PyData.eqvAll (ms.map .int) (ns.map .int)) = _
    rw [eqv_ints ms ns]
    have e : PyData.eqv (.int m) (.int n) = decide (m = n) := rfl
    rw [e]
    by_cases h1 : m = n
    · by_cases h2 : ms = ns
      · simp [h1, h2]
      · simp [h1, h2]
    · simp [h1]
theorem flat_ints : ∀ ns : List Int, flatL (ns.map .int) = true
  | [] => rfl
  | n :: ns => by
    show (flatD (.int n) && flatL (ns.map .int)) = true
    rw [flat_ints ns]
    rfl
theorem lay_ints : ∀ ns : List Int, PyData.canLayAll0 (ns.map .int) = true
  | [] => rfl
  | n :: ns => by
    show (PyData.canLay0 (.int n) && PyData.canLayAll0 (ns.map .int)) = true
    rw [lay_ints ns]
    rfl
theorem depth_ints : ∀ ns : List Int, PyData.depthAll (ns.map .int) = 0
  | [] => rfl
  | n :: ns => by
    show max (PyData.depth (.int n)) (PyData.depthAll (ns.map .int)) = 0
    rw [depth_ints ns]
    rfl
theorem shaped_tup (ns : List Int) : SeqAt.shaped (.tuple (ns.map .int)) = true := by
  show (PyData.canLayAll0 (ns.map .int) && decide (PyData.depthAll (ns.map .int) + 1 ≤ 64)) = true
  rw [lay_ints, depth_ints]
  rfl
theorem shaped_lst (ns : List Int) : SeqAt.shaped (.list (ns.map .int)) = true := by
  show (PyData.canLayAll0 (ns.map .int) && decide (PyData.depthAll (ns.map .int) + 1 ≤ 64)) = true
  rw [lay_ints, depth_ints]
  rfl
theorem d_eqTT {ms ns : List Int} (ha : EvB K ta ρ β (.tuple (ms.map .int)) β1) (hb : EvB K tb ρ β1 (.tuple (ns.map .int)) β2) : EvB K (tOp (rEqD K) ta tb) ρ β (.bool (decide (ms = ns))) β2 :=
  (d_eqD ha hb (flat_ints ms) (flat_ints ns) (shaped_tup ms) (shaped_tup ns)).to (congrArg PyData.bool (eqv_ints ms ns))
theorem d_neTT {ms ns : List Int} (ha : EvB K ta ρ β (.tuple (ms.map .int)) β1) (hb : EvB K tb ρ β1 (.tuple (ns.map .int)) β2) : EvB K (tOp (rNeD K) ta tb) ρ β (.bool (!decide (ms = ns))) β2 :=
  (d_neD ha hb (flat_ints ms) (flat_ints ns) (shaped_tup ms) (shaped_tup ns)).to (congrArg (fun c => PyData.bool (!c)) (eqv_ints ms ns))
theorem d_eqLL {ms ns : List Int} (ha : EvB K ta ρ β (.list (ms.map .int)) β1) (hb : EvB K tb ρ β1 (.list (ns.map .int)) β2) : EvB K (tOp (rEqD K) ta tb) ρ β (.bool (decide (ms = ns))) β2 :=
  (d_eqD ha hb (flat_ints ms) (flat_ints ns) (shaped_lst ms) (shaped_lst ns)).to (congrArg PyData.bool (eqv_ints ms ns))
theorem d_neLL {ms ns : List Int} (ha : EvB K ta ρ β (.list (ms.map .int)) β1) (hb : EvB K tb ρ β1 (.list (ns.map .int)) β2) : EvB K (tOp (rNeD K) ta tb) ρ β (.bool (!decide (ms = ns))) β2 :=
  (d_neD ha hb (flat_ints ms) (flat_ints ns) (shaped_lst ms) (shaped_lst ns)).to (congrArg (fun c => PyData.bool (!c)) (eqv_ints ms ns))
end
section
variable [TabW] {K : PySem.W.Frag} {ρ : Rho} {β β1 : Bag} {ta : TE}
/-- an int in a tuple of ints among the kept things -/
theorem d_inK {a : Addr} {i : Int} {ns : List Int} (hq : ∀ H : Hp, SqT K H a (ns.map V.int)) (h : EvB K ta ρ β (.int i) β1) : EvB K (tOp (rIn K false) ta (tC (.ref a))) ρ β (.bool (decide (i ∈ ns))) β1 := ⟨h.som, fun b G H σ Q E k => h.run b G H σ _ E fun v G1 H1 s1 k1 d1 => by
  cases d1
  exact ⟨a, ns.map V.int, rfl, .inr (hq H1), rfl, ints_flat ns, by rw [if_neg Bool.false_ne_true, inV_ints]; exact k _ G1 H1 s1 k1 (.bl _)⟩⟩
end
end TD
set_option linter.all false
namespace Num
open PySem
abbrev Dt := PyData
def big : Int := 1000000000000000000000000000000000000000000000000000000000000
def isInteger : Dt → Bool
  | .int i => decide (-big < i) && decide (i < big)
  | _ => false
def primes : List Int := [2, 3, 5, 7, 11, 13, 17, 19]
def isPrime : Dt → Bool
  | .int p => decide (p = 0) || decide (p ∈ primes)
  | _ => false
/-- a prime of the package, as a number -/
def PrimeI (p : Int) : Prop := p = 0 ∨ p ∈ primes
theorem PrimeI.small {p : Int} (h : PrimeI p) : 0 ≤ p ∧ p ≤ 19 := by
  rcases h with rfl | h
  · decide
  · unfold primes at h
    simp only [List.mem_cons, or_false, List.not_mem_nil] at h
    omega
theorem isPrime_int (p : Int) : isPrime (.int p) = (isInteger (.int p) && (decide (p = 0) || decide (p ∈ primes))) := by
  show (decide (p = 0) || decide (p ∈ primes)) = _
  by_cases h : PrimeI p
  · have hs := h.small
    have h1 : isInteger (.int p) = true := by
      show (decide (-big < p) && decide (p < big)) = true
      unfold big
      rw [decide_eq_true (by omega), decide_eq_true (by omega)]
      rfl
    rw [h1, Bool.true_and]
  · have h1 : ¬ p = 0 := fun z => h (.inl z)
    have h2 : ¬ p ∈ primes := fun z => h (.inr z)
    rw [decide_eq_false h1, decide_eq_false h2, Bool.false_or, Bool.and_false]
def fits (p : Int) : Dt → Bool
  | .int i => (decide (-big < i) && decide (i < big)) && (decide (p = 0) || (decide (0 ≤ i) && decide (i < p)))
  | _ => false
def allFit (p : Int) (n : Int) : Dt → Bool
  | .tuple ds => decide ((ds.length : Int) = n) && ds.all (fits p)
  | _ => false
def settled (p n : Int) : Int := if p ≠ 0 then n % p else n
/-- the numbers from lo on, n of them -/
def upto (lo : Int) (n : Nat) : List Int := (List.range n).map fun (i : Nat) => lo + (i : Int)
def invs (p a : Int) : List Int := (upto 1 (p - 1).toNat).filter fun o => decide (a * o % p = 1)
def inv (p a : Int) : Int := (invs p a).headD 0
def gcdI (i j : Int) : Int := ((Nat.gcd i.natAbs j.natAbs : Nat) : Int)
def gcdL : Int → List Int → Int
  | s, [] => s
  | s, n :: ns => gcdL (gcdI s n) ns
def firstI (ns : List Int) : Int := (ns.filter fun n => !decide (n = 0)).headD 0
def made (p : Int) (ns : List Int) : List Int :=
  if p ≠ 0 then ns.map fun n => n * inv p (firstI ns) % p
  else ns.map fun n => n.fdiv (if firstI ns < 0 then -(gcdL 0 ns) else gcdL 0 ns)
/-- what made asks: a number other than 0, and its inverse -/
structure MadeOk (p : Int) (ns : List Int) : Prop where
  pr : PrimeI p
  ex : ∃ n ∈ ns, n ≠ 0
  lt : p ≠ 0 → ∀ n ∈ ns, 0 ≤ n ∧ n < p
  len : ns.length ≤ 140
  sz : ∀ n ∈ ns, n.natAbs < 2 ^ 1000
theorem inv_all : ∀ p ∈ primes, ∀ a ∈ upto 1 (p - 1).toNat, (invs p a).isEmpty = false := by decide +kernel
theorem mem_upto {lo a : Int} {n : Nat} (h1 : lo ≤ a) (h2 : a < lo + n) : a ∈ upto lo n := by
  unfold upto
  exact List.mem_map.mpr ⟨(a - lo).toNat, List.mem_range.mpr (by omega), by omega⟩
theorem inv_cons {p a : Int} (hp : PrimeI p) (h0 : p ≠ 0) (h1 : 0 < a) (h2 : a < p) : ∃ rest, invs p a = inv p a :: rest := by
  rcases hp with rfl | hp
  · exact absurd rfl h0
  · have := inv_all p hp a (mem_upto (by omega) (by omega))
    unfold inv
    cases e : invs p a with
    | nil => rw [e] at this; cases this
    | cons b rest => exact ⟨rest, rfl⟩
theorem inv_lt {p a : Int} (hp : PrimeI p) (h0 : p ≠ 0) (h1 : 0 < a) (h2 : a < p) : 1 ≤ inv p a ∧ inv p a < p ∧ a * inv p a % p = 1 := by
  obtain ⟨rest, e⟩ := inv_cons hp h0 h1 h2
  have hm : inv p a ∈ invs p a := by rw [e]; exact List.mem_cons_self
  obtain ⟨h3, h4⟩ := List.mem_filter.mp hm
  obtain ⟨i, hi, hj⟩ := List.mem_map.mp h3
  have := List.mem_range.mp hi
  have := hp.small
  refine ⟨by omega, by omega, of_decide_eq_true h4⟩
end Num
set_option linter.all false
namespace Num
open PySem
def toI : Dt → Int
  | .int i => i
  | _ => 0
theorem map_toI (ns : List Int) : (ns.map PyData.int).map toI = ns := by
  rw [List.map_map]
  exact List.map_id ns
theorem allFit_ints {p n : Int} : ∀ {ds : List Dt}, allFit p n (.tuple ds) = true → ∃ ns : List Int, ds = ns.map PyData.int ∧ (ns.length : Int) = n ∧ ∀ m ∈ ns, (-big < m ∧ m < big) ∧ (p = 0 ∨ (0 ≤ m ∧ m < p)) := by
  intro ds h
  have h : (decide ((ds.length : Int) = n) && ds.all (fits p)) = true := h
  obtain ⟨h1, h2⟩ := Bool.and_eq_true_iff.mp h
  have h1 := of_decide_eq_true h1
  have q : ∀ ds : List Dt, ds.all (fits p) = true → ∃ ns : List Int, ds = ns.map PyData.int ∧ ∀ m ∈ ns, (-big < m ∧ m < big) ∧ (p = 0 ∨ (0 ≤ m ∧ m < p)) := by
    intro ds
    induction ds with
    | nil => exact fun _ => ⟨[], rfl, fun m h => by cases h⟩
    | cons d ds ih =>
      intro h
      rw [List.all_cons] at h
      obtain ⟨a1, a2⟩ := Bool.and_eq_true_iff.mp h
      obtain ⟨ns, rfl, hn⟩ := ih a2
      cases d with
      | int i =>
        refine ⟨i :: ns, rfl, fun m hm => ?_⟩
        obtain rfl | hm := List.mem_cons.mp hm
        · have a1 : ((decide (-big < m) && decide (m < big)) && (decide (p = 0) || (decide (0 ≤ m) && decide (m < p)))) = true := a1
          simp only [Bool.and_eq_true, Bool.or_eq_true, decide_eq_true_eq] at a1
          exact a1
        · exact hn m hm
      | _ => cases a1
  obtain ⟨ns, rfl, hn⟩ := q ds h2
  exact ⟨ns, rfl, by rw [List.length_map] at h1; exact h1, hn⟩
theorem allFit_of {p n : Int} {ns : List Int} (h1 : (ns.length : Int) = n) (h2 : ∀ m ∈ ns, (-big < m ∧ m < big) ∧ (p = 0 ∨ (0 ≤ m ∧ m < p))) : allFit p n (.tuple (ns.map PyData.int)) = true := by
  show (decide (((ns.map PyData.int).length : Int) = n) && (ns.map PyData.int).all (fits p)) = true
  rw [List.length_map, decide_eq_true h1, Bool.true_and, List.all_eq_true]
  intro d hd
  obtain ⟨m, hm, rfl⟩ := List.mem_map.mp hd
  show ((decide (-big < m) && decide (m < big)) && (decide (p = 0) || (decide (0 ≤ m) && decide (m < p)))) = true
  simp only [Bool.and_eq_true, Bool.or_eq_true, decide_eq_true_eq]
  exact h2 m hm
/-- a normal triple, of ints -/
def normI (p : Int) (ns : List Int) : Bool := allFit p 3 (.tuple (ns.map PyData.int)) && ns.any (· != 0) && decide (made p ns = ns)
def smallL (ns : List Int) : Bool := ns.all fun n => decide (n.natAbs ≤ 1000)
def lineI (p : Int) (ns : List Int) : Bool := normI p ns && smallL ns
theorem any_ex {ns : List Int} : ns.any (· != 0) = true ↔ ∃ n ∈ ns, n ≠ 0 := by
  rw [List.any_eq_true]
  constructor
  · rintro ⟨n, h1, h2⟩; exact ⟨n, h1, by simpa using h2⟩
  · rintro ⟨n, h1, h2⟩; exact ⟨n, h1, by simpa using h2⟩
theorem big_lt {m : Int} (h : -big < m ∧ m < big) : m.natAbs < 2 ^ 200 := by
  unfold big at h
  have : m.natAbs < 1000000000000000000000000000000000000000000000000000000000000 := by omega
  exact Nat.lt_trans this (by decide)
theorem up1000 {n : Nat} (h : n < 2 ^ 200) : n < 2 ^ 1000 := Nat.lt_of_lt_of_le h (Nat.pow_le_pow_right (by decide) (by decide))
theorem madeOk_fit {p : Int} {ns : List Int} (hp : PrimeI p) (h : allFit p 3 (.tuple (ns.map PyData.int)) = true) (ha : ns.any (· != 0) = true) : MadeOk p ns := by
  obtain ⟨ms, e, hl, hm⟩ := allFit_ints h
  have e : ns = ms := by
    have := congrArg (List.map toI) e
    rw [map_toI, map_toI] at this
    exact this
  subst e
  refine ⟨hp, any_ex.mp ha, fun h0 n hn => ?_, by omega, fun n hn => up1000 (big_lt (hm n hn).1)⟩
  rcases (hm n hn).2 with h | h
  · exact absurd h h0
  · exact h
/-- what a normal triple is -/
structure NT (p : Int) (ns : List Int) : Prop where
  ok : MadeOk p ns
  len : ns.length = 3
  fit : allFit p 3 (.tuple (ns.map PyData.int)) = true
  sz : ∀ n ∈ ns, -big < n ∧ n < big
  eq : made p ns = ns
theorem NT.of {p : Int} {ns : List Int} (hp : PrimeI p) (h : normI p ns = true) : NT p ns := by
  unfold normI at h
  obtain ⟨h1, h3⟩ := Bool.and_eq_true_iff.mp h
  obtain ⟨h1, h2⟩ := Bool.and_eq_true_iff.mp h1
  obtain ⟨ms, e, hl, hm⟩ := allFit_ints h1
  have e : ns = ms := by
    have := congrArg (List.map toI) e
    rw [map_toI, map_toI] at this
    exact this
  subst e
  exact ⟨madeOk_fit hp h1 h2, by omega, h1, fun n hn => (hm n hn).1, of_decide_eq_true h3⟩
theorem NT.to {p : Int} {ns : List Int} (h : NT p ns) : normI p ns = true := by
  unfold normI
  rw [h.fit, any_ex.mpr h.ok.ex, decide_eq_true h.eq]
  rfl
theorem NT.cons {p : Int} {ns : List Int} (h : NT p ns) : ∃ a b c, ns = [a, b, c] := by
  have hl := h.len
  match ns, hl with
  | [a, b, c], _ => exact ⟨a, b, c, rfl⟩
theorem prime_pos {p : Int} (hp : PrimeI p) (h0 : p ≠ 0) : 2 ≤ p ∧ p ≤ 19 := by
  rcases hp with h | h
  · exact absurd h h0
  · unfold primes at h
    simp only [List.mem_cons, or_false, List.not_mem_nil] at h
    omega
theorem inv_mod {p a : Int} (hp : PrimeI p) (h0 : p ≠ 0) (ha : a % p ≠ 0) : ∃ i q, 1 ≤ i ∧ i < p ∧ a * i = 1 + p * q ∧ inv p (a % p) = i := by
  have h2 := prime_pos hp h0
  have h3 : 0 ≤ a % p := Int.emod_nonneg _ (by omega)
  have h4 : a % p < p := Int.emod_lt_of_pos _ (by omega)
  obtain ⟨i1, i2, i3⟩ := inv_lt hp h0 (a := a % p) (by omega) h4
  have h5 := Int.emod_add_mul_ediv (a % p * inv p (a % p)) p
  have h6 := Int.emod_add_mul_ediv a p
  generalize inv p (a % p) = i at *
  refine ⟨i, a % p * i / p + a / p * i, i1, i2, ?_, rfl⟩
  rw [i3] at h5
  generalize a % p * i / p = u at *
  generalize a / p = v at *
  generalize a % p = w at *
  grind
theorem mul_zero_mod {p a b : Int} (hp : PrimeI p) (h0 : p ≠ 0) (ha : a % p ≠ 0) (h : a * b % p = 0) : b % p = 0 := by
  obtain ⟨i, q, _, _, e, _⟩ := inv_mod hp h0 ha
  obtain ⟨r, hr⟩ := Int.dvd_of_emod_eq_zero h
  refine Int.emod_eq_zero_of_dvd ⟨i * r - q * b, ?_⟩
  grind
theorem emod_eq_of {p a b c : Int} (h : a = b + p * c) : a % p = b % p := by
  rw [h, Int.add_mul_emod_self_left]
/-- two normal tuples of which one is a multiple of the other are one -/
def low (p : Int) (n : Int) : Int := settled p n
theorem settled_mul {p a b : Int} (hp : PrimeI p) (ha : settled p a ≠ 0) (h : settled p (a * b) = 0) : settled p b = 0 := by
  unfold settled at ha h ⊢
  split
  · rename_i h0
    rw [if_pos h0] at ha h
    exact mul_zero_mod hp h0 ha h
  · rename_i h0
    rw [if_neg h0] at ha h
    rcases Int.mul_eq_zero.mp h with h | h
    · exact absurd h ha
    · exact h
def absI (n : Int) : Int := ((n.natAbs : Nat) : Int)
end Num
set_option linter.all false
namespace Num
open PySem
def grabF (t : Int) : List Int → Int × List Int
  | [a, m, c] => if 0 < a then (a % t, [a.fdiv t, m, c]) else
      let o := (m + 1048627 * (c + 1)) % 2305843009213693951
      ((((o * o % 2305843009213693723 * o + 8147 * (c + 1)) % 2305843009213693921).fdiv 16384) % t, [a, m, c + 1])
  | ns => (0, ns)
structure BagI (n : Int) (ns : List Int) : Prop where
  ex : ∃ a m c, ns = [a, m, c] ∧ 0 ≤ a ∧ a.natAbs < 2 ^ 3000 ∧ 0 ≤ m ∧ m < 2305843009213693951 ∧ 0 ≤ c ∧ c ≤ n
theorem BagI.mono {n k : Int} {ns : List Int} (h : BagI n ns) (hk : n ≤ k) : BagI k ns := by
  obtain ⟨a, m, c, e, h1, h2, h3, h4, h5, h6⟩ := h.ex
  exact ⟨a, m, c, e, h1, h2, h3, h4, h5, by omega⟩
theorem grab_rng {t : Int} (ht : 0 < t) (ns : List Int) : 0 ≤ (grabF t ns).1 ∧ (grabF t ns).1 < t := by
  unfold grabF
  split
  · split
    · exact ⟨Int.emod_nonneg _ (by omega), Int.emod_lt_of_pos _ ht⟩
    · exact ⟨Int.emod_nonneg _ (by omega), Int.emod_lt_of_pos _ ht⟩
  · exact ⟨Int.le_refl 0, ht⟩
theorem grab_bag {t n : Int} (ht : 0 < t) {ns : List Int} (h : BagI n ns) : BagI (n + 1) (grabF t ns).2 := by
  obtain ⟨a, m, c, rfl, h1, h2, h3, h4, h5, h6⟩ := h.ex
  unfold grabF
  split
  · rename_i a' m' c' e
    cases e
    split
    · refine ⟨_, _, _, rfl, ?_, ?_, h3, h4, h5, by omega⟩
      · rw [Int.fdiv_eq_ediv_of_nonneg _ (by omega)]; exact Int.ediv_nonneg h1 (by omega)
      · rw [Int.fdiv_eq_ediv_of_nonneg _ (by omega)]
        refine Nat.lt_of_le_of_lt ?_ h2
        have e1 := Int.ediv_nonneg h1 (show 0 ≤ t by omega)
        have e2 := Int.ediv_le_self t h1
        omega
    · exact ⟨_, _, _, rfl, h1, h2, h3, h4, by omega, by omega⟩
  · rename_i hne
    exact absurd rfl (hne a m c)
def oneF (xs : List Int) (ns : List Int) : Int × List Int := (xs.getD (grabF xs.length ns).1.toNat 0, (grabF xs.length ns).2)
theorem one_mem {xs : List Int} (h : xs ≠ []) (ns : List Int) : (oneF xs ns).1 ∈ xs := by
  have hl : 0 < xs.length := List.length_pos_iff.mpr h
  have hg := grab_rng (t := xs.length) (by omega) ns
  unfold oneF
  have : (grabF xs.length ns).1.toNat < xs.length := by omega
  show xs.getD _ 0 ∈ xs
  rw [List.getD_eq_getElem?_getD, List.getElem?_eq_getElem this]
  exact List.getElem_mem this
def drawnPrimes : List Int := [0, 0, 0, 2, 3, 5, 7, 0, 11, 0]
def primeF (ns : List Int) : Int × List Int := oneF drawnPrimes ns
theorem primeF_ok (ns : List Int) : PrimeI (primeF ns).1 := by
  have h := one_mem (xs := drawnPrimes) (by decide) ns
  show PrimeI (oneF drawnPrimes ns).1
  generalize (oneF drawnPrimes ns).1 = q at *
  unfold drawnPrimes at h
  simp only [List.mem_cons, or_false, List.not_mem_nil] at h
  unfold PrimeI primes
  simp only [List.mem_cons, List.not_mem_nil, or_false]
  omega
def numberF (p s : Int) (ns : List Int) : Int × List Int :=
  if p = 0 then ((grabF (2 * s + 1) ns).1 - s, (grabF (2 * s + 1) ns).2) else grabF p ns
theorem number_bag {p s n : Int} (hp : PrimeI p) (hs : 0 ≤ s) {ns : List Int} (hb : BagI n ns) : BagI (n + 1) (numberF p s ns).2 := by
  unfold numberF
  split
  · exact grab_bag (by omega) hb
  · rename_i h0
    exact grab_bag (by have := prime_pos hp h0; omega) hb
theorem number_rng {p s : Int} (hp : PrimeI p) (hs : 0 ≤ s) (ns : List Int) : -s ≤ (numberF p s ns).1 ∧ (numberF p s ns).1 ≤ max s 19 ∧ (p ≠ 0 → 0 ≤ (numberF p s ns).1 ∧ (numberF p s ns).1 < p) ∧ (p = 0 → (numberF p s ns).1 ≤ s) := by
  unfold numberF
  split
  · have := grab_rng (t := 2 * s + 1) (by omega) ns
    rename_i h0
    refine ⟨?_, ?_, fun h => absurd h0 h, fun _ => ?_⟩ <;> (show _ ≤ _; simp only; omega)
  · rename_i h0
    have h2 := prime_pos hp h0
    have := grab_rng (t := p) (by omega) ns
    refine ⟨by omega, by omega, fun _ => this, fun h => absurd h h0⟩
theorem log_lt3 {n : Nat} (h : n < 2 ^ 3000) : n.log2 < 9000 := by
  by_cases z : n = 0
  · subst z; decide
  · have := (Nat.log2_lt z).mpr h
    omega
def tupD (ns : List Int) : Dt := .tuple (ns.map PyData.int)
end Num
set_option linter.all false
namespace Num
open PySem
end Num
set_option Elab.async false
set_option linter.all false
set_option maxRecDepth 100000
set_option maxHeartbeats 3000000
namespace TD
open PySem L2 PySem.Spec PyProof.Rows
open RZ
open Evl (Ex ex_l ex_t fresh_back sq_of st_of sz_of sz_lt)
inductive LcZ [TabW] (K : PySem.W.Frag) (i j : Nat) (tt : TT) (te : TE) : List (Dt × Dt) → Rho → Bag → List Dt → Bag → Prop
  | nil (ρ : Rho) (β : Bag) : LcZ K i j tt te [] ρ β [] β
  | yes {p : Dt × Dt} {r : Dt} {ps : List (Dt × Dt)} {rs : List Dt} {ρ : Rho} {β β1 β2 β3 : Bag} : TtB K tt ((ρ.set i (some (Slot.imm p.1))).set j (some (Slot.imm p.2))) β true β1 →
      EvB K te ((ρ.set i (some (Slot.imm p.1))).set j (some (Slot.imm p.2))) β1 r β2 → LcZ K i j tt te ps ρ β2 rs β3 → LcZ K i j tt te (p :: ps) ρ β (r :: rs) β3
section
variable [TabW] {K : PySem.W.Frag} {b : Addr} {ρ ρ' ρ1 ρx : Rho} {β β1 β2 β3 : Bag} {ta tb te tc : TE} {tt : TT} {x y z d : Dt} {G H G1 H1 G2 H2 : Hp} {σ σx : L2.St}
theorem LcZ.som {i j : Nat} {ps : List (Dt × Dt)} {rs : List Dt} (h : LcZ K i j tt te ps ρ β rs β2) : β2.isSome = β.isSome := by
  induction h with
  | nil => rfl
  | yes h1 h2 _ ih => exact ih.trans (h2.som.trans h1.som)
theorem LcZ.map {i j : Nat} (g : Dt × Dt → Dt) : ∀ {ps : List (Dt × Dt)}, (∀ p ∈ ps, EvB K te ((ρ.set i (some (Slot.imm p.1))).set j (some (Slot.imm p.2))) β (g p) β) → LcZ K i j tYes te ps ρ β (ps.map g) β
  | [], _ => .nil ρ β
  | p :: ps, h => .yes t_yes0 (h p List.mem_cons_self) (LcZ.map g fun q hq => h q (List.mem_cons_of_mem _ hq))
theorem pg_tupK {X : Cx} {K : PySem.W.Frag} {es : List Expr} {k : Nat} {pos : Pos} {t : TGs} {n : Nat} (hc : X.calm = true) (h : PGs X es t) (hK : X.K = K := by rfl)
    (hn : (assignEach es X.env).length = n := by rfl) (hst : (assignEach es X.env).findIdx? (·.1) = none := by rfl) : PG X (.Tuple es k pos) (gTup K n t) := by
  subst hK
  exact pg_tup hc h hn hst
/-- one turn that gives an item, whatever the target -/
theorem lc_turnG {m : Bool} {Dl : Addr} {rs : List Dt} {P P' : List Dt → Bag → Prop} (hD : H1 Dl = none) (nb : m = true → Dl ≠ b) (hz : rs.length ≤ 100000) (E1 : ∀ G β, Step b m G1 H1 G H → BagOk b β G H → EnvD K b β G H σx ρx)
    (hP : ∀ rest β, P rest β → ∃ (r : Dt) (rest' : List Dt) (β1 β2 : Bag), rest = r :: rest' ∧ TtB K tt ρx β true β1 ∧ EvB K te ρx β1 r β2 ∧ P' rest' β2) (hw : LcW K b m G1 H1 Dl rs β3 P H) :
    tt σx H fun c H3 => if c = true then te σx H3 fun y H4 => ∃ acc, H4 Dl = some (.lst acc) ∧ acc.length < sizeLine ∧ LcW K b m G1 H1 Dl rs β3 P' (upd H4 Dl (.lst (acc ++ [y]))) else LcW K b m G1 H1 Dl rs β3 P' H3 := by
  obtain ⟨G, β, done, rest, acc, s, kb, hm, gD, hH, ha, hr, hp⟩ := hw
  have E := E1 G β s kb
  obtain ⟨r, rest', β1, β2, hrr, ht, he, hp'⟩ := hP rest β hp
  refine ht.run b G H _ _ E fun G3 H3 s3 k3 => ?_
  rw [if_pos rfl]
  rw [hm] at s3
  refine he.run b G3 H3 _ _ (E.step s3 k3) fun y G4 H4 s4 k4 d4 => ?_
  rw [ht.som, hm] at s4
  have hH3 := s3.keep Dl _ nb NoT.lst hH
  have gD3 := s3.fresh Dl _ gD NoT.lst hH
  have gD4 := s4.fresh Dl _ gD3 NoT.lst hH3
  have m2 : β2.isSome = m := he.som.trans (ht.som.trans hm)
  have hlen : acc.length = done.length := ha.length
  have hrl : rs.length = done.length + (rest'.length + 1) := by rw [← hr, List.length_append, hrr, List.length_cons]
  refine ⟨acc, s4.keep Dl _ nb NoT.lst hH3, sz_lt (by omega), ⟨G4, β2, done ++ [r], rest', acc ++ [y], ((s.trans s3).trans s4).mut (Gone.none hD) gD4 (LstAt.of (s4.keep Dl _ nb NoT.lst hH3)), k4.mut (by rw [m2]; exact nb), m2, gD4, upd_same, (ha.mono (s3.g.trans s4.g)).append (.cons d4 .nil), ?_, hp'⟩⟩
  rw [← hr, hrr, List.append_assoc]
  rfl
theorem LcW.new {m : Bool} {Dl T : Addr} {o : HO} {rs : List Dt} {P : List Dt → Bag → Prop} (hw : LcW K b m G1 H1 Dl rs β3 P H) (hT : H T = none) : LcW K b m G1 H1 Dl rs β3 P (upd H T o) := by
  obtain ⟨G, β, done, rest, acc, s, kb, hm, gD, hH, ha, hr, hp⟩ := hw
  have h1T : Gone H1 T := fun u nt q => by
    obtain ⟨_, _, z⟩ := s.stay T u nt q
    rw [hT] at z
    cases z
  have gT : G T = none := fresh_back s.s hT
  have nD : Dl ≠ T := ne_of_none hH hT
  refine ⟨G, β, done, rest, acc, s.mut h1T gT (LstAt.none hT), fun ns e => ?_, hm, gD, by rw [upd_ne nD]; exact hH, ha, hr, hp⟩
  obtain ⟨q1, q2⟩ := kb ns e
  exact ⟨by rw [upd_ne (ne_of_none q1 hT)]; exact q1, q2⟩
/-- the pairs of two sequences -/
theorem d_lcZT {i j : Nat} {vs : List Nat} {xs ys rs : List Dt} (hx : EvB K ta ρ β (.tuple xs) β1) (hy : EvB K tb ρ β1 (.tuple ys) β2) (hxy : xs.length = ys.length) (h : LcZ K i j tt te (xs.zip ys) (wipeR ρ vs) β2 rs β3) (hz : rs.length ≤ 100000)
    (hi : i ∈ vs) (hj : j ∈ vs) : EvB K (tLc (iZipA K (tCons ta (tCons tb tNil))) (gTup K 2 (gCons (gName i) (gCons (gName j) gNil))) tt te vs) ρ β (.list rs) β3 := by
  refine ⟨h.som.trans (hy.som.trans hx.som), fun b G H σ Q E k => ?_⟩
  refine hx.run b G H σ _ E fun v G0 H0 s0 k0 d0 => ?_
  have E0 := E.step s0 k0
  refine hy.run b G0 H0 σ _ E0 fun w G1 H1 s1 k1 d1 => ?_
  have E1 := E0.step s1 k1
  rw [hx.som] at s1
  have d0' := d0.mono s1.g
  have s01 := s0.trans s1
  cases d0' with
  | @tup a vsx _ hs hd =>
    have hs := st_of (K := K) hs
    cases d1 with
    | @tup c vsy _ hs' hd' =>
      have hs' := st_of (K := K) hs'
      refine ⟨a, c, vsx, vsy, rfl, .inr ⟨ex_t s1.s hs, ex_t s1.s hs', fun Dl hD => ?_⟩⟩
      have nb := bag_ne k1 (hy.som.trans hx.som) hD
      have hl : (xs.zip ys).length = xs.length := by rw [List.length_zip]; omega
      have lx := hd.length
      have ly := hd'.length
      refine ⟨fun n q H' => q = xs.length - n ∧ n ≤ xs.length ∧ LcW K b β.isSome G1 H1 Dl rs β3 (fun rest β' => LcZ K i j tt te ((xs.zip ys).drop n) (wipeR ρ vs) β' rest β3) H', ⟨xs.length, by simp, Nat.zero_le _, lc_start s1.s hD k1 (hy.som.trans hx.som) nb h⟩, ?_⟩
      rintro n q H' ⟨rfl, hn, w'⟩
      have hG : Ex G1 H' := by
        obtain ⟨G', β', done, rest, acc, s', _⟩ := w'
        exact s'.g.trans s'.s
      by_cases hlt : n < xs.length
      · have h1 : vsx[n]? = some (vsx[n]'(by omega)) := List.getElem?_eq_getElem (by omega)
        have h2 : vsy[n]? = some (vsy[n]'(by omega)) := List.getElem?_eq_getElem (by omega)
        obtain ⟨dx, e1, e2⟩ := hd.get h1
        obtain ⟨dy, e3, e4⟩ := hd'.get h2
        refine .inr ⟨⟨vsx, vsy, _, _, ex_t hG hs, ex_t hG hs', h1, h2⟩, fun H2 => LcW K b β.isSome G1 H1 Dl rs β3 (fun rest β' => LcZ K i j tt te ((xs.zip ys).drop (n + 1)) (wipeR ρ vs) β' rest β3) H2, fun H2 w2 => ⟨xs.length - (n + 1), by omega, rfl, hlt, w2⟩, ?_⟩
        rintro x H2 ⟨T, vx, vy, rfl, hT, rfl, f1, f2⟩
        have g1 := f1 vsx (ex_t hG hs)
        have g2 := f2 vsy (ex_t hG hs')
        rw [h1] at g1
        rw [h2] at g2
        cases g1
        cases g2
        refine ⟨T, _, rfl, st_of upd_same, rfl, _, _, rfl, _, _, rfl, rfl, ?_⟩
        refine ⟨by rw [wipe_set hj, wipe_set hi, wipe_wipe], ?_⟩
        have e5 : (xs.zip ys).drop n = (dx, dy) :: (xs.zip ys).drop (n + 1) := by
          have hlt' : n < (xs.zip ys).length := by omega
          rw [List.drop_eq_getElem_cons (hlt')]
          congr 1
          rw [List.getElem_zip]
          have q1 := (List.getElem?_eq_some_iff.mp e1).2
          have q2 := (List.getElem?_eq_some_iff.mp e3).2
          rw [q1, q2]
        rw [e5] at w'
        refine lc_turnG (ρx := ((wipeR ρ vs).set i (some (Slot.imm dx))).set j (some (Slot.imm dy))) hD nb hz (fun G' β' s' kb' => ?_) ?_ (w'.new hT)
        · exact (((E1.wipe vs).step s' kb').set (e2.mono s'.g)).set (e4.mono s'.g)
        · rintro rest β' hr
          cases hr with
          | yes a1 a2 a3 => exact ⟨_, _, _, _, rfl, a1, a2, a3⟩
      · have e6 : n = xs.length := by omega
        subst e6
        refine .inl ⟨⟨vsx, vsy, ex_t hG hs, ex_t hG hs', .inl (by omega)⟩, ?_⟩
        have e7 : (xs.zip ys).drop xs.length = [] := by rw [List.drop_eq_nil_iff]; omega
        rw [e7] at w'
        obtain ⟨G', β', done, rest, acc, s', kb', hm', gD', hH', ha', hr', hp'⟩ := w'
        cases hp'
        refine lc_end (j := 0) (ρ := ρ) (tt := tt) (te := te) s1.s hD nb ⟨G', β3, done, [], acc, s', kb', hm', gD', hH', ha', hr', .nil _ _⟩ fun v G'' H'' s'' kb'' dv => k v G'' H'' (s01.trans s'') kb'' dv
theorem LcZ.ints {i j : Nat} (g : Int → Int → Dt) : ∀ {x y : List Int}, (∀ n m, n ∈ x → m ∈ y → EvB K te ((ρ.set i (some (Slot.imm (.int n)))).set j (some (Slot.imm (.int m)))) β (g n m) β) → LcZ K i j tYes te ((x.zip y).map fun q => (PyData.int q.1, PyData.int q.2)) ρ β ((x.zip y).map fun q => g q.1 q.2) β
  | [], _, _ => .nil ρ β
  | _ :: _, [], _ => .nil ρ β
  | a :: x, b :: y, h => .yes t_yes0 (h a b List.mem_cons_self List.mem_cons_self) (LcZ.ints g fun n m h1 h2 => h n m (List.mem_cons_of_mem _ h1) (List.mem_cons_of_mem _ h2))
end
end TD
set_option Elab.async false
set_option linter.all false
set_option maxRecDepth 100000
set_option maxHeartbeats 3000000
namespace TD
open PySem L2 PySem.Spec PyProof.Rows
open Evl (Ex ex_l ex_t fresh_back sq_of st_of sz_of sz_lt)
section
variable [TabW] {K : PySem.W.Frag} {b : Addr} {ρ ρ' ρ1 : Rho} {β β1 β2 β3 : Bag} {ta tb te tc : TE} {tt : TT} {tu tw : TS} {o : Out} {x y z d : Dt} {G H G1 H1 G2 H2 : Hp} {σ : L2.St}
theorem d_ixB {i : Nat} {k n : Int} {ns : List Int} (hi : ρ[i]? = some (some Slot.bag)) (hb : EvB K tb ρ (some ns) (.int k) (some ns)) (hn : atI ns k = some n) : EvB K (tOp (rIxL K) (tVar i) tb) ρ (some ns) (.int n) (some ns) := by
  refine ⟨rfl, fun b G H σ Q E q => ?_⟩
  refine ⟨_, E.bagv i hi, ?_⟩
  refine hb.run b G H σ _ E fun v G1 H1 s1 k1 d1 => ?_
  cases d1
  refine ⟨b, ns.map V.int, k, V.int n, rfl, rfl, sq_of (k1 ns rfl).1, ?_, q _ G1 H1 s1 k1 (.int n)⟩
  unfold atI at hn ⊢
  obtain ⟨m, h1, h2⟩ := Option.bind_eq_some_iff.mp hn
  rw [List.length_map, h1]
  show (ns.map V.int)[m]? = _
  rw [List.getElem?_map, h2]
  rfl
theorem Step.bag {o : HO} (e : Ex G H) (hg : G b = none) (hl : ∀ o, H b = some o → ∃ xs, o = HO.lst xs) (ho : NoT o := by exact ⟨fun _ z => (by cases z), fun _ z => (by cases z)⟩) : Step b true G H G (upd H b o) := by
  refine ⟨Ex.refl G, e.mut hg, fun x _ h _ _ => h, fun x u n _ h => ?_, fun x u t h => ?_, fun h => ⟨fun P q w => tab_upd (h.tab P q w) hl, h.free⟩⟩
  · rw [upd_ne (n rfl)]; exact h
  · by_cases z : x = b
    · exact ⟨o, ho, by rw [z, upd_same]⟩
    · exact ⟨u, t, by rw [upd_ne z]; exact h⟩
theorem st_setB {i : Nat} {k n : Int} {ns : List Int} {j : Nat} (he : EvB K te ρ (some ns) (.int n) (some ns)) (hi : ρ[i]? = some (some Slot.bag)) (hj : ixN ns.length k = some j) : StB K (tAsg te (gSub (tVar i) (tC (.int k)) rSetL)) ρ (some ns) (.nx ρ) (some (ns.set j n)) := by
  refine ⟨rfl, fun b G H σ D E q => ?_⟩
  refine he.run b G H σ _ E fun v G1 H1 s1 k1 d1 => ?_
  cases d1
  refine ⟨_, E.bagv i hi, ?_⟩
  obtain ⟨h1, h2⟩ := k1 ns rfl
  have sb : Step b true G1 H1 G1 (upd H1 b (.lst ((ns.map V.int).set j (V.int n)))) := Step.bag s1.s h2 (LstAt.of h1)
  refine ⟨b, ns.map V.int, k, j, rfl, rfl, h1, by rw [List.length_map]; exact hj, ?_⟩
  have kb : BagOk b (some (ns.set j n)) G1 (upd H1 b (.lst ((ns.map V.int).set j (V.int n)))) := fun ms e => by
    cases e
    exact ⟨by rw [upd_same, List.map_set], h2⟩
  exact q σ G1 _ (s1.trans sb) (E.step (s1.trans sb) kb)
theorem s_bag' {i : Nat} (hi : ρ[i]? = some (some Slot.bag)) : EvS K (tVar i) ρ β .bag β := ⟨rfl, fun b G H σ Q E k => ⟨_, E.bagv i hi, k _ G H (Step.refl E.sub) E.bagk rfl⟩⟩
theorem a_bg {i : Nat} {tr : TA} {as : List Slot} (hi : ρ[i]? = some (some Slot.bag)) (hr : EvA K tr ρ β as β2) : EvA K (tCons (tVar i) tr) ρ β (.bag :: as) β2 := a_cons (s_bag' hi) hr
end
end TD
set_option Elab.async false
set_option linter.all false
namespace TD
open PySem L2 PySem.Spec PyProof.Rows
theorem call_isiK {X : Cx} {K : PySem.W.Frag} (h : X.K = K := by rfl) : CallR X (.builtin "isinstance") (rIsiR K) := h ▸ call_isiR
theorem c_lenK {X : Cx} {K : PySem.W.Frag} (h : X.K = K := by rfl) : CallR X (.builtin "len") (rLen K) := h ▸ c_len
end TD
set_option Elab.async false
set_option linter.all false
set_option maxRecDepth 100000
set_option maxHeartbeats 3000000
namespace TD
open PySem L2 PySem.Spec PyProof.Rows
open Evl (Ex ex_l ex_t fresh_back sq_of st_of sz_of sz_lt)
section
variable [TabW] {K : PySem.W.Frag} {b : Addr} {ρ ρ' ρ1 : Rho} {β β1 β2 β3 : Bag} {ta tb te tc : TE} {x y z d : Dt} {G H G1 H1 G2 H2 : Hp} {σ : L2.St}
theorem DenL.reverse : ∀ {vs : List V} {ds : List Dt}, DenL K G vs ds → DenL K G vs.reverse ds.reverse
  | [], [], _ => .nil
  | [], _ :: _, h => nomatch h
  | _ :: _, [], h => nomatch h
  | _ :: _, _ :: _, .cons h1 h2 => by
    simp only [List.reverse_cons]
    exact (DenL.reverse h2).append (.cons h1 .nil)
end
end TD
set_option Elab.async false
set_option linter.all false
set_option maxRecDepth 100000
set_option maxHeartbeats 3000000
namespace TD
open PySem L2 PySem.Spec PyProof.Rows
open Evl (Ex ex_l ex_t fresh_back sq_of st_of sz_of sz_lt)
section
variable [TabW] {K : PySem.W.Frag} {b : Addr} {ρ ρ' ρ1 : Rho} {β β1 β2 β3 : Bag} {ta : TA} {tl te tr tb tc : TE} {x y z d : Dt} {G H G1 H1 G2 H2 : Hp} {σ : L2.St}
theorem EnvD.put {i : Nat} {v : Option V} (E : EnvD K b β G H σ ρ) (hi : ρ[i]? = some none) : EnvD K b β G H (σ.set i v) ρ := by
  refine ⟨E.sub, E.bagk, by rw [List.length_set]; exact E.len, fun j e hj => ?_, fun j hj => ?_, E.tabs, fun j a hj => ?_⟩
  · have z : i ≠ j := fun z => by
      subst z
      rw [hi] at hj
      cases hj
    rw [List.getElem?_set_ne z]
    exact E.imm j e hj
  · have z : i ≠ j := fun z => by
      subst z
      rw [hi] at hj
      cases hj
    rw [List.getElem?_set_ne z]
    exact E.bagv j hj
  · have z : i ≠ j := fun z => by
      subst z
      rw [hi] at hj
      cases hj
    rw [List.getElem?_set_ne z]
    exact E.fnv j a hj
end
/-- a method's reading, told over the fragment by name -/
theorem pe_castBM {X : Cx} {K : PySem.W.Frag} {e : Expr} {T : String} {r : V → List V → Hp → VK → Prop} {to : TE} {t : TA} (h : PE X e (tBM X.K T r to t)) (hK : X.K = K := by rfl) : PE X e (tBM K T r to t) := hK ▸ h
end TD
set_option Elab.async false
set_option linter.all false
set_option maxRecDepth 100000
set_option maxHeartbeats 3000000
namespace TDS
open TS PySem PyProof.Rows
def shI (S : Int) (ns : List Int) : List Int := ns.map (· + S)
/-- where a tuple stands among the others -/
def cd (S B : Int) (ns : List Int) : Int := code B (shI S ns)
section
variable {prog : Program} {w : World} {s : Shared} {A : Around} {E : Value → Shared → Prop}
theorem lexS {S B : Int} {b : Bool} {Q : Bool → Shared → Prop} : ∀ {xs ys : List Value} {ns ms : List Int} (i : Nat), IntsAre xs ns → IntsAre ys ms → ns.length = ms.length → Bd B (shI S ns) → Bd B (shI S ms) →
    Q (decide (cd S B ns < cd S B ms)) s → PySem.W.KatLex prog w A b false Q (xs.zip ys) i s
  | _, _, _, _, i, .nil, .nil, _, _, _, h => PySem.W.kat_nil (by
      have e : decide (cd S B [] < cd S B []) = false := decide_eq_false (Int.lt_irrefl _)
      rw [e] at h
      exact h)
  | _, _, _, _, i, .nil, .cons _ _ _, hl, _, _, _ => by simp at hl
  | _, _, _, _, i, .cons _ _ _, .nil, hl, _, _, _ => by simp at hl
  | _, _, _, _, i, @IntsAre.cons p t xs ns hx, @IntsAre.cons q u ys ms hy, hl, h1, h2, h => by
    have hl2 := Nat.succ.inj hl
    have hs : (shI S ns).length = (shI S ms).length := by unfold shI; rw [List.length_map, List.length_map, hl2]
    by_cases e : p = q
    · subst e
      have d : decide (cd S B (p :: ns) < cd S B (p :: ms)) = decide (cd S B ns < cd S B ms) := decide_eq_decide.mpr (code_same hs)
      rw [d] at h
      exact PySem.W.kat_cons (wpAny_eqBool_int (by rw [beq_self_eq_true]; exact PySem.W.kat_yes (lexS (i + 1) hx hy hl2 h1.tail h2.tail h)))
    · have up : p < q → cd S B (p :: ns) < cd S B (q :: ms) := fun x => code_lt hs h1.tail h2.tail (show p + S < q + S by omega)
      have down : q < p → cd S B (q :: ms) < cd S B (p :: ns) := fun x => code_lt hs.symm h2.tail h1.tail (show q + S < p + S by omega)
      have d : decide (cd S B (p :: ns) < cd S B (q :: ms)) = decide (p < q) := decide_eq_decide.mpr ⟨fun x => Int.not_le.mp fun y => absurd (down (by omega)) (by omega), up⟩
      rw [d] at h
      exact PySem.W.kat_cons (wpAny_eqBool_int (by rw [beq_eq_false_iff_ne.mpr e]; exact PySem.W.kat_no (oneLt_ints _ h)))
/-- tuples of d ints each, at least -S and below B - S -/
def OkS (h : Heap) (d : Nat) (S B : Int) (vs : List Value) : Prop := ∀ v, v ∈ vs → ∃ ns, TupInts h v ns ∧ ns.length = d ∧ Bd B (shI S ns)
theorem OkS.keeps {h h' : Heap} {d : Nat} {S B : Int} {vs : List Value} (x : OkS h d S B vs) (k : ∀ b o, h.get? b = some o → o.cls = .type "tuple" → h'.get? b = some o) : OkS h' d S B vs := fun v hv => by
  obtain ⟨ns, t, r⟩ := x v hv
  exact ⟨ns, t.keeps k, r⟩
theorem firstsS {h : Heap} {d : Nat} {S B : Int} (hd : 1 ≤ d) : ∀ vs : List Value, OkS h d S B vs → ∃ fs, PySem.W.KatTups h vs fs ∧ fs.length = vs.length ∧ ∀ f ∈ fs, ∃ n t, f = Value.int n t
  | [], _ => ⟨[], .nil, rfl, fun _ hf => by cases hf⟩
  | v :: vs, x => by
    obtain ⟨fs, k, hl, hi⟩ := firstsS hd vs fun u hu => x u (List.mem_cons_of_mem _ hu)
    obtain ⟨ns, ⟨a, xs, rfl, ⟨o, ho, hc, n, hdt⟩, i⟩, hn, _⟩ := x v List.mem_cons_self
    have hlen := i.length
    cases q : xs.toList with
    | nil => rw [q] at hlen; simp at hlen; omega
    | cons y ys =>
      obtain ⟨m, t, hy⟩ := i.all y (by rw [q]; exact List.mem_cons_self)
      have h0 : xs[0]? = some y := by rw [← Array.getElem?_toList, q]; rfl
      exact ⟨y :: fs, .cons ho hc hdt h0 k, by simp [hl], fun f hf => (List.mem_cons.mp hf).elim (fun e => e ▸ ⟨m, t, hy⟩) (hi f)⟩
/-- what holds of the tuples before a list is laid behind them, holds after -/
theorem OkS.push {h h' : Heap} {d : Nat} {S B : Int} {vs : List Value} (x : OkS h d S B vs) (old : ∀ b o, h.get? b = some o → h'.get? b = some o) : OkS h' d S B vs ∧ ∀ v ∈ vs, intsOf h' v = intsOf h v :=
  ⟨x.keeps fun b o q _ => old b o q, fun v hv => by obtain ⟨ns, t, _⟩ := x v hv; rw [t.ints, (t.keeps fun b o q _ => old b o q).ints]⟩
end
end TDS
namespace TDS
open TS L2 PySem PySem.Spec PyProof.Rows
theorem perm_map {α γ : Type} {f : α → γ} : ∀ {l m : List γ}, l.Perm m → ∀ L : List α, m = L.map f → ∃ L' : List α, L'.Perm L ∧ l = L'.map f := by
  intro l m h
  induction h with
  | nil => exact fun L e => ⟨[], by
      have : L = [] := List.map_eq_nil_iff.mp e.symm
      rw [this], rfl⟩
  | @cons x l1 l2 _ ih =>
    intro L e
    cases L with
    | nil => cases e
    | cons a L2 =>
      rw [List.map_cons] at e
      injection e with e1 e2
      obtain ⟨L', h1, h2⟩ := ih L2 e2
      exact ⟨a :: L', h1.cons a, by rw [List.map_cons, e1, h2]⟩
  | swap x y l =>
    intro L e
    match L, e with
    | a :: b :: L2, e =>
      rw [List.map_cons] at e; rw [List.map_cons] at e
      injection e with e1 e2
      injection e2 with e2 e3
      exact ⟨b :: a :: L2, .swap a b L2, by rw [List.map_cons, List.map_cons, e1, e2, e3]⟩
  | trans _ _ ih1 ih2 =>
    intro L e
    obtain ⟨L2, h1, h2⟩ := ih2 L e
    obtain ⟨L1, h3, h4⟩ := ih1 L2 h2
    exact ⟨L1, h3.trans h1, h4⟩
end TDS
set_option Elab.async false
set_option linter.all false
set_option maxRecDepth 100000
set_option maxHeartbeats 3000000
namespace TD
open PySem L2 PySem.Spec PyProof.Rows
open Evl (Ex ex_l ex_t fresh_back sq_of st_of sz_of sz_lt)
section
variable [TabW] {K : PySem.W.Frag} {b : Addr} {ρ ρ' ρ1 : Rho} {β β1 β2 β3 : Bag} {ta tb te tc : TE} {x y z d : Dt} {G H G1 H1 G2 H2 : Hp} {σ : L2.St}
theorem st_unpackL {is : List Nat} {n : Nat} {ds : List Dt} (h : EvB K te ρ β (.list ds) β1) (hn : ds.length = n) (hi : is.length = n) : StB K (tAsg te (gUnl K n (gNames is))) ρ β (.nx (setR ρ is ds)) β1 := ⟨h.som, fun b G H σ D E k => h.run b G H σ _ E fun v G1 H1 s1 k1 d1 => by
  cases d1 with
  | @lst a xs _ hs hd =>
    refine ⟨a, xs, rfl, sq_of (s1.s _ _ hs), by rw [hd.length]; exact hn, ?_⟩
    exact gNames_run hd (by rw [hd.length, hn, hi]) (E.step s1 k1) fun σ' E' => k σ' G1 H1 s1 E'⟩
abbrev tupJ (ns : List Int) : Dt := .tuple (ns.map PyData.int)
theorem DenL.of_refs : ∀ {ks : List (Addr × List Int)}, (∀ p ∈ ks, G p.1 = some (.tup (p.2.map V.int))) → DenL K G (ks.map fun p => V.ref p.1) ((ks.map (·.2)).map tupJ)
  | [], _ => .nil
  | p :: ks, h => .cons (.tup (h p List.mem_cons_self) (DenL.of_ints p.2)) (DenL.of_refs fun q hq => h q (List.mem_cons_of_mem _ hq))
end
end TD
set_option Elab.async false
set_option linter.all false
set_option maxRecDepth 100000
set_option maxHeartbeats 4100000
namespace TD
open PySem L2 PySem.Spec PyProof.Rows
end TD
set_option Elab.async false
set_option linter.all false
set_option maxRecDepth 100000
set_option maxHeartbeats 4100000
set_option Elab.async false
set_option linter.all false
set_option maxRecDepth 100000
set_option maxHeartbeats 4100000
namespace TD
open PySem L2 PySem.Spec PyProof.Rows
open Evl (Ex ex_l ex_t fresh_back sq_of st_of sz_of sz_lt)
structure RoomG (k : Nat) (A : Around) : Prop extends Room k A where
  gd : A.guards = some []
theorem RoomG.mono {j k : Nat} {A : Around} (r : RoomG k A) (h : j ≤ k) : RoomG j A := ⟨r.toRoom.mono h, r.gd⟩
theorem RoomG.deeper {k : Nat} {A : Around} (r : RoomG (k + 1) A) (env : Env) : RoomG k (A.deeper env) := ⟨r.toRoom.deeper env, r.gd⟩
/-- a def's promise, kept where nothing is being shown -/
structure FnOkG (P : Program) (w : World) (K : PySem.W.Frag) (mg : Str → Option Value) (base : Heap) (CX : CXT) (k : Nat) (f : Addr) (fd : FuncData) (ps : List Str) (sp : Sp) : Prop where
  (len : (∀ vs H Q E, sp vs H Q E → vs.length = ps.length))
  run : ∀ (A : Around) (outer : List Env) (s : Shared) (H : Hp) (args : Args) (us : List Value) (vs : List V) (Q : VK) (E : XK), RoomG k A → Env0 P w K mg base A outer s H → BindsTo s fd args (ps.zip us) → Vals vs us → sp vs H Q E →
    codeAny (model P w) A (Code.call (.ref f) args) (CR CX outer P w H s Q E) s
abbrev Kept := Option (Str × Dt)
inductive Res where
  | ok (d : Dt)
  | ex (C : Addr) (k : Kept)
/-- how what is kept lies -/
def KeptAt (K : PySem.W.Frag) (G : Hp) : Option Addr → Kept → Prop
  | dx, none => dx = none
  | dx, some (f, d) => ∃ (a : Addr) (v : V), dx = some a ∧ G a = some (.xd [(f, v)]) ∧ Den K G v d
section
variable [TabW]
/-- the wish E takes the error -/
def ExTo (K : PySem.W.Frag) (b : Addr) (m : Bool) (β' : Bag) (G H : Hp) (E : XK) (C : Addr) (k : Kept) : Prop := ∀ dx G' H', Step b m G H G' H' → BagOk b β' G' H' → KeptAt K G' dx k → E (.ref C) dx H'
structure StR (K : PySem.W.Frag) (E : XK) (ts : TS) (ρ : Rho) (β : Bag) (C : Addr) (k : Kept) (β' : Bag) : Prop where
  som : β'.isSome = β.isSome
  run : ∀ (b : Addr) (G H : Hp) (σ : L2.St) (D : Ends), EnvD K b β G H σ ρ → ExTo K b β.isSome β' G H E C k → ts D σ H
end
section
variable [TabW] {K : PySem.W.Frag} {b : Addr} {ρ ρ1 : Rho} {β β1 β2 : Bag} {ta tb te : TE} {tt : TT} {ts tu tw : TS} {tl : TA} {d x : Dt} {G H G1 H1 : Hp} {E : XK} {C : Addr} {k : Kept} {c : Bool} {s : Slot}
theorem ExTo.of {m : Bool} (h : ExTo K b m β1 G H E C k) (s : Step b m G H G1 H1) : ExTo K b m β1 G1 H1 E C k := fun dx G' H' s' kb ka => h dx G' H' (s.trans s') kb ka
end
abbrev FX := List Slot → Bag → Res → Bag → Prop
section
variable [TabW] {P : Program} {w : World} {K : PySem.W.Frag} {mg : Str → Option Value} {base : Heap} {k : Nat} {x : Str} {st : Stmt} {N ps : List Str} {R : FX} {R' : FR}
theorem fnG_ok {sp : Sp} {f : Addr} {fd : FuncData} (hF : Fun K x x st f fd) (S : FnScope N ps (defScope st)) (hlen : ∀ vs H Q E, sp vs H Q E → vs.length = ps.length)
    (hbody : ∀ (cdv : Value) (A : Around) (outer : List PySem.Env) (s : Shared) (H : Hp) (vs : List V) (Q : VK) (E : XK), RoomG k (A.deeper (envOfC x (defScope st) s.heap.objs.size f cdv)) → sp vs H Q E →
      ∃ t, PSs (cxOf CX0 P w K mg base N x (defScope st) f cdv A outer s H E).nox (defBody st) t ∧ t { nx := fun _ H' => Q .non H', rt := Q } (L2.start N vs) H) : FnOkG P w K mg base CX0 (k + 1) f fd ps sp := by
  obtain ⟨oc, od, kV, doc, pm, an, cdv, ct, osl, rfl, lk, hcd⟩ := hF.ex
  refine ⟨hlen, fun A outer s H args us vs Q E hr e0 hb rv hsp => LamX.run_ofS lk hcd S hr.toRoom e0 hb rv (hlen _ _ _ _ hsp) fun _ => ?_⟩
  obtain ⟨t, h1, h2⟩ := hbody cdv A outer s H vs Q E (hr.deeper _) hsp
  exact ⟨t, h1.nox, h2⟩
end
end TD
set_option Elab.async false
set_option linter.all false
set_option maxRecDepth 100000
set_option maxHeartbeats 4100000
namespace TD
open PySem L2 PySem.Spec PyProof.Rows LamX
open Evl (Ex ex_l ex_t fresh_back sq_of st_of sz_of sz_lt)
end TD
set_option Elab.async false
set_option linter.all false
set_option maxRecDepth 100000
set_option maxHeartbeats 4100000
namespace TD
open PySem L2 PySem.Spec PyProof.Rows
open Evl (Ex ex_l ex_t fresh_back sq_of st_of sz_of sz_lt)
/-- slot i holds a list at p that nothing else knows -/
structure OwnL [TabW] (K : PySem.W.Frag) (b : Addr) (β : Bag) (i : Nat) (p : Addr) (G H : Hp) (σ : L2.St) (ρ : Rho) (ds : List Dt) : Prop where
  env : EnvD K b β G H σ ρ
  slot : ρ[i]? = some none
  at_ : σ[i]? = some (some (.ref p))
  free : G p = none
  nb : β.isSome = true → p ≠ b
  val : ∃ ws, H p = some (.lst ws) ∧ DenL K G ws ds
section
variable [TabW] {K : PySem.W.Frag} {b : Addr} {ρ : Rho} {β β1 β2 : Bag} {ta : TA} {te : TE} {tw : TS} {d : Dt} {ds : List Dt} {o : Out} {i j : Nat} {G H G0 H0 : Hp} {σ : L2.St} {p : Addr}
/-- nothing but the slot is told anew -/
theorem EnvD.forget {i : Nat} {v : V} (E : EnvD K b β G H σ ρ) : EnvD K b β G H (σ.set i (some v)) (ρ.set i none) := by
  have E' := (E.set (i := i) (v := .non) (d := .none) .non).unset (i := i)
  rw [List.set_set, List.set_set] at E'
  by_cases h : i < ρ.length
  · have q : (ρ.set i none)[i]? = some none := List.getElem?_set_self h
    have E2 := E'.put (v := some v) q
    rw [List.set_set] at E2
    exact E2
  · have hr : ρ.set i none = ρ := List.set_eq_of_length_le (by omega)
    have hs : σ.set i (some v) = σ := List.set_eq_of_length_le (by rw [E.len]; omega)
    rw [hr, hs]
    exact E
end
end TD
set_option Elab.async false
set_option linter.all false
set_option maxRecDepth 100000
set_option maxHeartbeats 4100000
namespace TD
open PySem L2 PySem.Spec PyProof.Rows
open RZ
open Evl (Ex ex_l ex_t fresh_back sq_of st_of sz_of sz_lt)
section
variable [TabW] {K : PySem.W.Frag} {b : Addr} {ρ ρx : Rho} {β β1 β2 β3 : Bag} {ta tb te : TE} {tt : TT} {x y d : Dt} {G H G1 H1 : Hp} {σ : L2.St}
theorem DenL.rep {vs : List V} {ds : List Dt} (h : DenL K G vs ds) : ∀ n : Nat, DenL K G (List.replicate n vs).flatten (List.replicate n ds).flatten
  | 0 => .nil
  | n + 1 => by
    rw [List.replicate_succ, List.flatten_cons, List.replicate_succ, List.flatten_cons]
    exact h.append (DenL.rep h n)
theorem d_repT {ds : List Dt} {k : Int} (ha : EvB K ta ρ β (.tuple ds) β1) (hb : EvB K tb ρ β1 (.int k) β2) (hn : ds ≠ []) (h1 : 2 ≤ k) (h2 : k ≤ 1000) (hz : ds.length ≤ 1000) : EvB K (tOp (rRepT K) ta tb) ρ β (.tuple (List.replicate k.toNat ds).flatten) β2 :=
  d_op ha hb fun b G H v w Q e dv dw kk => by
    cases dw
    cases dv with
    | @tup a xs _ hs hd =>
      have hs := st_of (K := K) hs
      refine ⟨a, k, xs, rfl, rfl, ex_t e hs, (fun z => by rw [z] at hd; cases hd; exact hn rfl), h1, h2, by rw [hd.length]; exact hz, fun p hp => ?_⟩
      have n := Step.new (b := b) (m := false) (o := .tup (List.replicate k.toNat xs).flatten) e hp
      exact kk _ _ _ n (.tup upd_same ((hd.mono n.g).rep _))
end
section
variable [TabW] {K : PySem.W.Frag} {b : Addr} {ρ : Rho} {β β1 β2 β3 : Bag} {ta te tk : TE} {tt : TT} {tw : TS} {d : Dt} {ds rs : List Dt} {o : Out} {i j : Nat} {G H G1 H1 : Hp} {σ : L2.St}
theorem DenL.put : ∀ {vs : List V} {ds : List Dt} {v : V} {d : Dt} (n : Nat), DenL K G vs ds → Den K G v d → DenL K G (vs.set n v) (ds.set n d)
  | [], [], _, _, _, h, _ => h
  | [], _ :: _, _, _, _, h, _ => nomatch h
  | _ :: _, [], _, _, _, h, _ => nomatch h
  | _ :: _, _ :: _, _, _, 0, .cons _ h2, h => .cons h h2
  | _ :: _, _ :: _, _, _, n + 1, .cons h1 h2, h => .cons h1 (DenL.put n h2 h)
end
end TD
set_option Elab.async false
set_option linter.all false
set_option maxRecDepth 100000
set_option maxHeartbeats 4100000
namespace TD
open PySem L2 PySem.Spec PyProof.Rows
open Evl (Ex ex_l ex_t fresh_back sq_of st_of sz_of sz_lt)
structure FnS (P : Program) (w : World) (K : PySem.W.Frag) (mg : Str → Option Value) (base : Heap) (k : Nat) (x : Str) (ps : List Str) (sp : Sp) : Prop where
  ex : ∃ (f : Addr) (fd : FuncData), mg x = some (.ref f) ∧ FnOk P w K mg base CX0 k f fd ps sp ∧ Binds K fd ps [] ∧ PySem.W.keepIn K (.ref f) = true
/-- .. where nothing is being shown; with the function's data -/
structure FnSG (P : Program) (w : World) (K : PySem.W.Frag) (mg : Str → Option Value) (base : Heap) (k : Nat) (x : Str) (ps : List Str) (sp : Sp) : Prop where
  ex : ∃ (f : Addr) (fd : FuncData), mg x = some (.ref f) ∧ FnOkG P w K mg base CX0 k f fd ps sp ∧ ∃ oc od osl, K.lookup f = some ⟨oc, od, .func fd, osl⟩
section
variable {X : Cx} {k : Nat} {x : Str} {ps : List Str} {sp : Sp} {q pos : Pos} {e : Expr} {es : List Expr} {t : TA}
theorem pe_fnS {P : Program} {w : World} {K : PySem.W.Frag} {mg : Str → Option Value} {base : Heap} (F : FnS P w K mg base k x ps sp) (hr : Room k X.A) (ha : PA X (e :: es) t) (h1 : X.prog = P := by rfl) (h2 : X.w = w := by rfl) (h3 : X.K = K := by rfl) (h4 : X.mg = mg := by rfl) (h5 : X.base = base := by rfl)
    (hg : Gl X x := by rfl) (hdb : (x == ("__debug__" : Str)) = false := by decide) (hs : starEach (e :: es) X.env = (false, eval e X.env) :: starEach es X.env := by rfl)
    (hp : (backTo pos (starEach es X.env)).any (·.1) = false := by rfl) : PE X (.Call (.Name x q) (e :: es) [] pos) (tCall sp [] E0 t) := by
  obtain ⟨f, fd, hm, hf, hb, hk⟩ := F.ex
  subst h1 h2 h3 h4 h5
  exact pe_call hf hr hg hm hk hb .nil pass0 ha hdb hs hp
end
section
variable {P : Program} {w : World} {K : PySem.W.Frag} {mg : Str → Option Value} {base : Heap} {k : Nat} {x : Str} {st : Stmt} {N ps : List Str} {sp : Sp}
theorem fnS_mk (F : DefAt K x st) (hX : K.In base) (hG : base.Ns mainGlobals mg) (S : FnScope N ps (defScope st)) (hlen : ∀ vs H Q E, sp vs H Q E → vs.length = ps.length)
    (hb : ∀ (f : Addr) (kV doc pm : Value) (an : Option Addr) (cdv ct : Value) (us : List Value), us.length = ps.length → bindArgs (PySem.W.fnOf x x (defArgs st) (defBody st) (defScope st) .none kV doc pm an cdv ct) ⟨us, []⟩ = pure (ps.zip us))
    (hbody : ∀ (f : Addr) (cdv : Value) (A : Around) (outer : List PySem.Env) (s : Shared) (H : Hp) (E : XK), Room k (A.deeper (envOfC x (defScope st) s.heap.objs.size f cdv)) →
      ∃ t, PSs (cxOf CX0 P w K mg base N x (defScope st) f cdv A outer s H E).nox (defBody st) t ∧ ∀ vs H Q E, sp vs H Q E → t { nx := fun _ H' => Q .non H', rt := Q } (L2.start N vs) H) : FnS P w K mg base (k + 1) x ps sp := by
  obtain ⟨f, fd, ha, hF⟩ := F.ex
  refine ⟨f, fd, PySem.W.mg_of hX hG ha, ?_, hF.binds (hb f), hF.kp⟩
  refine hF.ok S hlen fun cdv A outer s H vs Q E hr hsp => ?_
  obtain ⟨t, h1, h2⟩ := hbody f cdv A outer s H E hr
  exact ⟨t, h1, h2 vs H Q E hsp⟩
theorem fnSG_mk [TabW] (F : DefAt K x st) (hX : K.In base) (hG : base.Ns mainGlobals mg) (S : FnScope N ps (defScope st)) (hlen : ∀ vs H Q E, sp vs H Q E → vs.length = ps.length)
    (hb : ∀ (f : Addr) (kV doc pm : Value) (an : Option Addr) (cdv ct : Value) (us : List Value), us.length = ps.length → bindArgs (PySem.W.fnOf x x (defArgs st) (defBody st) (defScope st) .none kV doc pm an cdv ct) ⟨us, []⟩ = pure (ps.zip us))
    (hbody : ∀ (f : Addr) (cdv : Value) (A : Around) (outer : List PySem.Env) (s : Shared) (H : Hp) (E : XK), RoomG k (A.deeper (envOfC x (defScope st) s.heap.objs.size f cdv)) →
      ∃ t, PSs (cxOf CX0 P w K mg base N x (defScope st) f cdv A outer s H E).nox (defBody st) t ∧ ∀ vs H Q E, sp vs H Q E → t { nx := fun _ H' => Q .non H', rt := Q } (L2.start N vs) H) : FnSG P w K mg base (k + 1) x ps sp := by
  obtain ⟨f, fd, ha, hF⟩ := F.ex
  have lk : ∃ oc od osl, K.lookup f = some ⟨oc, od, .func fd, osl⟩ := by
    obtain ⟨oc, od, _, _, _, _, _, _, osl, _, h2, _⟩ := hF.ex
    exact ⟨oc, od, osl, h2⟩
  refine ⟨f, fd, PySem.W.mg_of hX hG ha, ?_, lk⟩
  refine fnG_ok hF S hlen fun cdv A outer s H vs Q E hr hsp => ?_
  obtain ⟨t, h1, h2⟩ := hbody f cdv A outer s H E hr
  exact ⟨t, h1, h2 vs H Q E hsp⟩
end
/-- a new bag, drawn from a script -/
def spBag [TabW] (K : PySem.W.Frag) : Sp := fun vs H Q _ => ∃ (a : Addr) (ns : List Int) (spot : Int) (G : Hp), vs = [.ref a, .int spot] ∧ Ex G H ∧ TabsOk G H ∧ SqL K G a (ns.map V.int) ∧ 0 ≤ spot ∧ spot ≤ 10 ∧
  ∀ (p : Addr) (G' H' : Hp) (bag : List Int), Step p false G H G' H' → G' p = none → H' p = some (.lst (bag.map V.int)) → Num.BagI 0 bag → Q (.ref p) H'
def spLaw [TabW] (K : PySem.W.Frag) : Sp := fun vs H Q _ => ∃ (a : Addr) (ns : List Int) (G : Hp), vs = [.ref a] ∧ Ex G H ∧ TabsOk G H ∧ SqL K G a (ns.map V.int) ∧ ns.length ≤ 63 ∧ ∀ H', Q (.bl true) H'
theorem bag_ok {c s : Int} (hs : 0 ≤ s) : Num.BagI 0 [if (TD.absI c % (10 ^ 45) ^ 13 - 10 ^ 18) > 0 then TD.absI c % (10 ^ 45) ^ 13 - 10 ^ 18 else 0, (((TD.absI c % (10 ^ 45) ^ 13) % 2305843009213693723 * 1000403 + 9041 * s) + 47 * (if decide (c < 0) = true then 1 else 0) + 31) % 2305843009213693951, 0] := by
  have hP : (0 : Int) < (10 ^ 45) ^ 13 := by decide
  have h1 := Int.emod_nonneg (TD.absI c) (show ((10 ^ 45) ^ 13 : Int) ≠ 0 by decide)
  have h2 := Int.emod_lt_of_pos (TD.absI c) hP
  have h3 : ((10 ^ 45) ^ 13 : Int) < ((2 ^ 3000 : Nat) : Int) := by decide +kernel
  refine ⟨_, _, _, rfl, ?_, ?_, Int.emod_nonneg _ (by decide), Int.emod_lt_of_pos _ (by decide), Int.le_refl 0, Int.le_refl 0⟩
  · split <;> omega
  · generalize TD.absI c % (10 ^ 45) ^ 13 = g at *
    generalize ((10 : Int) ^ 45) ^ 13 = z at *
    have h4 : (0 : Nat) < 2 ^ 3000 := by decide +kernel
    generalize (2 : Nat) ^ 3000 = y at *
    split <;> omega
end TD
set_option Elab.async false
set_option linter.all false
set_option maxRecDepth 100000
set_option maxHeartbeats 4100000
namespace TD
open PySem L2 PySem.Spec PyProof.Rows
open Evl (Ex ex_l ex_t fresh_back sq_of st_of sz_of sz_lt)
section
variable [TabW] {K : PySem.W.Frag} {b : Addr} {ρ : Rho} {β β1 β2 β3 β4 : Bag} {te tk : TE} {tt : TT} {tu tv tw : TS} {d : Dt} {ds : List Dt} {o : Out} {i j : Nat} {G H : Hp} {σ : L2.St} {p : Addr}
/-- one's own list, seen as data for a while -/
theorem OwnL.frozen (w : OwnL K b β i p G H σ ρ ds) : ∃ ws, H p = some (.lst ws) ∧ DenL K G ws ds ∧ EnvD K b β (upd G p (.lst ws)) H σ (ρ.set i (some (.imm (.list ds)))) := by
  obtain ⟨ws, hp, dw⟩ := w.val
  have ex : Ex G (upd G p (.lst ws)) := Ex.new w.free
  have E := w.env
  have E2 : EnvD K b β (upd G p (.lst ws)) H σ ρ := by
    refine ⟨fun a u z => ?_, fun ns e => ⟨(E.bagk ns e).1, ?_⟩, E.len, fun i d q => ?_, E.bagv, ⟨E.tabs.tab, fun x ps z => ?_⟩, E.fnv⟩
    · by_cases q : a = p
      · rw [q, upd_same] at z
        cases z
        rw [q]
        exact hp
      · rw [upd_ne q] at z
        exact E.sub a u z
    · rw [upd_ne (Ne.symm (w.nb (by rw [e]; rfl)))]
      exact (E.bagk ns e).2
    · obtain ⟨v, h1, h2⟩ := E.imm i d q
      exact ⟨v, h1, h2.mono ex⟩
    · by_cases q : x = p
      · rw [q, upd_same] at z; cases z
      · rw [upd_ne q] at z; exact E.tabs.free x ps z
  have E3 := E2.set (i := i) (v := .ref p) (d := .list ds) (.lst upd_same (dw.mono ex))
  have e : σ.set i (some (.ref p)) = σ := by
    apply List.ext_getElem?
    intro n
    by_cases q : i = n
    · subst q
      rw [List.getElem?_set_self (List.getElem?_eq_some_iff.mp w.at_).1, w.at_]
    · rw [List.getElem?_set_ne q]
  rw [e] at E3
  exact ⟨ws, hp, dw, E3⟩
end
end TD
set_option Elab.async false
set_option linter.all false
set_option maxRecDepth 100000
set_option maxHeartbeats 4100000
namespace TD
open PySem L2 PySem.Spec PyProof.Rows
open Evl (Ex ex_l ex_t fresh_back sq_of st_of sz_of sz_lt)
section
variable [TabW] {K : PySem.W.Frag} {b : Addr} {ρ ρ1 ρ2 : Rho} {β β1 β2 : Bag} {ta : TA} {te : TE} {tu tw : TS} {d : Dt} {ds ds1 ds2 : List Dt} {o : Out} {i j : Nat} {G H G0 H0 : Hp} {σ : L2.St} {p : Addr}
theorem EnvD.back {x : Option Slot} (E : EnvD K b β G H σ (ρ.set j x)) (hj : ρ[j]? = some none) : EnvD K b β G H σ ρ := by
  have ne : ∀ {n : Nat} {a : Slot}, ρ[n]? = some (some a) → (ρ.set j x)[n]? = some (some a) := fun {n a} h => by
    have q : j ≠ n := fun z => by
      subst z
      rw [hj] at h
      cases h
    rw [List.getElem?_set_ne q]
    exact h
  exact ⟨E.sub, E.bagk, by rw [E.len, List.length_set], fun n d h => E.imm n d (ne h), fun n h => E.bagv n (ne h), E.tabs, fun n a h => E.fnv n a (ne h)⟩
theorem OwnL.setJ {v : V} (w : OwnL K b β i p G H σ ρ ds) (hij : i ≠ j) (h : Den K G v d) : OwnL K b β i p G H (σ.set j (some v)) (ρ.set j (some (.imm d))) ds :=
  ⟨w.env.set h, by rw [List.getElem?_set_ne (Ne.symm hij)]; exact w.slot, by rw [List.getElem?_set_ne (Ne.symm hij)]; exact w.at_, w.free, w.nb, w.val⟩
theorem OwnL.back {x : Option Slot} (w : OwnL K b β i p G H σ (ρ.set j x) ds) (hij : i ≠ j) (hj : ρ[j]? = some none) : OwnL K b β i p G H σ ρ ds := by
  have hs := w.slot
  rw [List.getElem?_set_ne (Ne.symm hij)] at hs
  exact ⟨w.env.back hj, hs, w.at_, w.free, w.nb, w.val⟩
end
end TD
set_option Elab.async false
set_option linter.all false
set_option maxRecDepth 100000
set_option maxHeartbeats 4100000
namespace TD
open PySem L2 PySem.Spec PyProof.Rows
end TD
set_option Elab.async false
set_option linter.all false
set_option maxRecDepth 100000
set_option maxHeartbeats 4100000
namespace TD
open PySem L2 PySem.Spec PyProof.Rows
open Evl (Ex ex_l ex_t fresh_back sq_of st_of sz_of sz_lt)
/-- a dict from ints -/
abbrev dctD (ps : List (Dt × Dt)) : Dt := .dict ((.none, .none) :: ps)
abbrev keysO (kvs : List (Int × V)) : List (Key × V) := kvs.map fun q => (Sum.inl q.1, q.2)
/-- a dict from tuples of ints -/
abbrev dctT (ps : List (Dt × Dt)) : Dt := .dict ((.none, .bool true) :: ps)
/-- an object under way, of the class C -/
abbrev oD (C : Addr) (ps : List (Dt × Dt)) : Dt := .dict ((.none, .int ((C : Nat) : Int)) :: ps)
def MuAt (H : Hp) (p : Addr) : Prop := ∀ o, H p = some o → (∃ xs, o = HO.lst xs) ∨ (∃ kvs, o = HO.dK kvs) ∨ (∃ C dx fs, o = HO.ins C dx fs) ∨ ∃ kvs, o = HO.dT kvs
theorem MuAt.none {H : Hp} {p : Addr} (h : H p = none) : MuAt H p := fun o e => by rw [h] at e; cases e
theorem MuAt.lst {H : Hp} {p : Addr} {xs : List V} (h : H p = some (.lst xs)) : MuAt H p := fun o e => by rw [h] at e; cases e; exact .inl ⟨xs, rfl⟩
theorem MuAt.dK {H : Hp} {p : Addr} {xs : List (Key × V)} (h : H p = some (.dK xs)) : MuAt H p := fun o e => by rw [h] at e; cases e; exact .inr (.inl ⟨xs, rfl⟩)
theorem MuAt.ins {H : Hp} {p C dx : Addr} {fs : List (Str × V)} (h : H p = some (.ins C dx fs)) : MuAt H p := fun o e => by rw [h] at e; cases e; exact .inr (.inr (.inl ⟨C, dx, fs, rfl⟩))
theorem MuAt.dT {H : Hp} {p : Addr} {xs : List (List Key × V)} (h : H p = some (.dT xs)) : MuAt H p := fun o e => by rw [h] at e; cases e; exact .inr (.inr (.inr ⟨xs, rfl⟩))
theorem tab_updM {p P : Addr} {q : Str} {ob : HO} {H : Hp} (h : LamX.TabS H P q) (hl : MuAt H p) : LamX.TabS (upd H p ob) P q := by
  obtain ⟨ps, h1, h2, h3⟩ := h
  refine ⟨ps, ?_, h2, fun pos cv hc => ?_⟩
  · rw [upd_ne fun z => ?_]
    · exact h1
    · rw [← z] at hl
      rcases hl _ h1 with ⟨_, e⟩ | ⟨_, e⟩ | ⟨_, _, _, e⟩ | ⟨_, e⟩ <;> cases e
  · obtain ⟨c, e1, e2⟩ := h3 pos cv hc
    refine ⟨c, e1, ?_⟩
    rw [upd_ne fun z => ?_]
    · exact e2
    · rw [← z] at hl
      rcases hl _ e2 with ⟨_, e⟩ | ⟨_, e⟩ | ⟨_, _, _, e⟩ | ⟨_, e⟩ <;> (unfold LamX.CodeO at e; cases e)
/-- what a thing of one's own holds -/
inductive Held (K : PySem.W.Frag) (G : Hp) : HO → Dt → Prop
  | lst {ws : List V} {ds : List Dt} : DenL K G ws ds → Held K G (.lst ws) (.list ds)
  | dct {kvs : List (Int × V)} {ps : List (Dt × Dt)} : DenP K G kvs ps → Held K G (.dK (keysO kvs)) (dctD ps)
  | ins {C dx : Addr} {fs : List (Str × V)} {ps : List (Dt × Dt)} : InsK K C → DenF K G fs ps → Held K G (.ins C dx fs) (oD C ps)
  | dT {kvs : List (List Key × V)} {ps : List (Dt × Dt)} : DenT K G kvs ps → Held K G (.dT kvs) (dctT ps)
section
variable {K : PySem.W.Frag} {G G' H : Hp} {o : HO} {d : Dt} {p : Addr}
theorem Held.mono (h : Held K G o d) (e : Ex G G') : Held K G' o d := by
  cases h with
  | lst h => exact .lst (h.mono e)
  | dct h => exact .dct (h.mono e)
  | ins hc h => exact .ins hc (h.mono e)
  | dT h => exact .dT (h.mono e)
theorem Held.nt (h : Held K G o d) : NoT o := by
  cases h with
  | lst h => exact ⟨fun _ z => (nomatch z), fun _ z => (nomatch z)⟩
  | dct h => exact ⟨fun _ z => (nomatch z), fun _ z => (nomatch z)⟩
  | ins hc h => exact ⟨fun _ z => (nomatch z), fun _ z => (nomatch z)⟩
  | dT h => exact ⟨fun _ z => (nomatch z), fun _ z => (nomatch z)⟩
theorem Held.mu (h : Held K G o d) (e : H p = some o) : MuAt H p := by
  cases h with
  | lst h => exact MuAt.lst e
  | dct h => exact MuAt.dK e
  | ins hc h => exact MuAt.ins e
  | dT h => exact MuAt.dT e
theorem Held.den (h : Held K G o d) (e : G p = some o) : Den K G (.ref p) d := by
  cases h with
  | lst h => exact .lst e h
  | dct h => exact .dcI (.inl e) h
  | ins hc h => exact .ins hc e h
  | dT h => exact .dcT (.inl e) h
end
def kdD : Dt → Nat
  | .none => 0
  | .bool _ => 1
  | .int _ => 2
  | .str _ => 3
  | _ => 4
def kdV : V → Nat
  | .non => 0
  | .bl _ => 1
  | .int _ => 2
  | .str _ => 3
  | _ => 4
def clash : Dt → List Dt → Bool
  | .list ds, es => (ds.map kdD != es.map kdD)
  | _, _ => true
mutual
def apart (d : Dt) : Dt → Bool
  | .list es => clash d es && apartL d es
  | .tuple es => apartL d es
  | .dict _ => false
  | _ => true
def apartL (d : Dt) : List Dt → Bool
  | [] => true
  | e :: es => apart d e && apartL d es
end
section
variable {K : PySem.W.Frag} {G G2 Gd : Hp} {o : HO} {d : Dt} {p : Addr}
theorem Den.kd {v : V} {x : Dt} (h : Den K G v x) : kdD x = kdV v := by
  cases h <;> rfl
theorem DenL.kd : ∀ {vs : List V} {ds : List Dt}, DenL K G vs ds → ds.map kdD = vs.map kdV
  | [], [], _ => rfl
  | [], _ :: _, h => nomatch h
  | _ :: _, [], h => nomatch h
  | v :: vs, x :: ds, .cons h1 h2 => by rw [List.map_cons, List.map_cons, h1.kd, h2.kd]
mutual
theorem Den.off (h : Held K G o d) (hp : G2 p = some o) (hd : ∀ x, x ≠ p → Gd x = G2 x) : ∀ {x : Dt} {v : V}, Den K G2 v x → apart d x = true → Den K Gd v x
  | .none, _, e, _ => by cases e; exact .non
  | .bool c, _, e, _ => by cases e; exact .bl c
  | .int i, _, e, _ => by cases e; exact .int i
  | .str s, _, e, _ => by cases e; exact .str s
  | .list es, _, e, f => by
    unfold apart at f
    rw [Bool.and_eq_true] at f
    cases e with
    | @lst a xs _ hs hx =>
      have ne : a ≠ p := fun z => by
        rw [z, hp] at hs
        cases hs
        cases h with
        | lst h =>
          have e1 := h.kd
          have e2 := hx.kd
          have f1 := f.1
          rw [show clash (.list _) es = (_ != es.map kdD) from rfl, e1, e2] at f1
          exact absurd f1 (by simp)
      exact .lst (by rw [hd a ne]; exact hs) (DenL.off h hp hd hx f.2)
  | .tuple es, _, e, f => by
    unfold apart at f
    cases e with
    | @tup a xs _ hs hx =>
      have ne : a ≠ p := fun z => by
        rw [z, hp] at hs
        cases hs
        cases h
      exact .tup (by rw [hd a ne]; exact hs) (DenL.off h hp hd hx f)
  | .dict _, _, e, f => by unfold apart at f; cases f
theorem DenL.off (h : Held K G o d) (hp : G2 p = some o) (hd : ∀ x, x ≠ p → Gd x = G2 x) : ∀ {es : List Dt} {vs : List V}, DenL K G2 vs es → apartL d es = true → DenL K Gd vs es
  | [], _, e, _ => by cases e; exact .nil
  | x :: es, _, e, f => by
    unfold apartL at f
    rw [Bool.and_eq_true] at f
    cases e with
    | cons e1 e2 => exact .cons (Den.off h hp hd e1 f.1) (DenL.off h hp hd e2 f.2)
end
end
/-- slot i holds a thing at p that nothing else knows -/
structure OwnW [TabW] (K : PySem.W.Frag) (b : Addr) (β : Bag) (i : Nat) (p : Addr) (G H : Hp) (σ : L2.St) (ρ : Rho) (d : Dt) : Prop where
  env : EnvD K b β G H σ ρ
  slot : ρ[i]? = some none
  at_ : σ[i]? = some (some (.ref p))
  free : G p = none
  nb : β.isSome = true → p ≠ b
  val : ∃ o, H p = some o ∧ Held K G o d
def OutW [TabW] (K : PySem.W.Frag) (b : Addr) (m : Bool) (β' : Bag) (i : Nat) (p : Addr) (d' : Dt) (G H : Hp) (D : Ends) : Out → Prop
  | .nx ρ' => ∀ σ' G' H', Step b m G H G' H' → OwnW K b β' i p G' H' σ' ρ' d' → D.nx σ' H'
  | .brk ρ' => ∀ σ' G' H', Step b m G H G' H' → OwnW K b β' i p G' H' σ' ρ' d' → D.bk σ' H'
  | .ct ρ' => ∀ σ' G' H', Step b m G H G' H' → OwnW K b β' i p G' H' σ' ρ' d' → D.ct σ' H'
  | .ret x => ∀ v G' H', Step b m G H G' H' → BagOk b β' G' H' → Den K G' v x → D.rt v H'
/-- a statement; d' is held behind it -/
structure StW [TabW] (K : PySem.W.Frag) (i : Nat) (ts : TS) (ρ : Rho) (β : Bag) (d : Dt) (o : Out) (β' : Bag) (d' : Dt) : Prop where
  som : β'.isSome = β.isSome
  run : ∀ (b : Addr) (G0 H0 G H : Hp) (σ : L2.St) (p : Addr) (D : Ends), Gone H0 p → Step b β.isSome G0 H0 G H → OwnW K b β i p G H σ ρ d → OutW K b β.isSome β' i p d' G0 H0 D o → ts D σ H
/-- to the end: it is let go -/
structure StP [TabW] (K : PySem.W.Frag) (i : Nat) (ts : TS) (ρ : Rho) (β : Bag) (d : Dt) (o : Out) (β' : Bag) : Prop where
  som : β'.isSome = β.isSome
  run : ∀ (b : Addr) (G0 H0 G H : Hp) (σ : L2.St) (p : Addr) (D : Ends), Gone H0 p → Step b β.isSome G0 H0 G H → OwnW K b β i p G H σ ρ d → OutOk K b β.isSome β' G0 H0 D o → ts D σ H
/-- a part that may read it -/
structure EvW [TabW] (K : PySem.W.Frag) (i : Nat) (te : TE) (ρ : Rho) (β : Bag) (d x : Dt) (β' : Bag) : Prop where
  som : β'.isSome = β.isSome
  run : ∀ (b : Addr) (G H : Hp) (σ : L2.St) (p : Addr) (Q : VK), OwnW K b β i p G H σ ρ d → (∀ v G' H', Step b β.isSome G H G' H' → OwnW K b β' i p G' H' σ ρ d → Den K G' v x → Q v H') → te σ H Q
structure TtW [TabW] (K : PySem.W.Frag) (i : Nat) (tt : TT) (ρ : Rho) (β : Bag) (d : Dt) (c : Bool) (β' : Bag) : Prop where
  som : β'.isSome = β.isSome
  run : ∀ (b : Addr) (G H : Hp) (σ : L2.St) (p : Addr) (Q : Bool → Hp → Prop), OwnW K b β i p G H σ ρ d → (∀ G' H', Step b β.isSome G H G' H' → OwnW K b β' i p G' H' σ ρ d → Q c H') → tt σ H Q
section
variable [TabW] {K : PySem.W.Frag} {b : Addr} {ρ ρ1 ρ2 : Rho} {β β1 β2 β3 : Bag} {ta : TA} {te : TE} {tt : TT} {ts tu tv tw : TS} {d d1 d2 x : Dt} {ds : List Dt} {o : Out} {c : Bool} {i j : Nat} {G H G0 H0 G1 H1 G2 H2 : Hp} {σ : L2.St} {p : Addr}
theorem Step.mutM {m : Bool} {ob : HO} (s : Step b m G1 H1 G H) (h1 : Gone H1 p) (h2 : G p = none) (hl : MuAt H p) : Step b m G1 H1 G (upd H p ob) := by
  refine ⟨s.g, s.s.mut h2, s.fresh, fun a u n t h => ?_, fun a u t h => ?_, fun h => ⟨fun P q w => tab_updM ((s.tabs h).tab P q w) hl, (s.tabs h).free⟩⟩
  · rw [upd_ne (h1.ne t h)]
    exact s.keep a u n t h
  · rw [upd_ne (h1.ne t h)]
    exact s.stay a u t h
theorem EnvD.mutM {ob : HO} (E : EnvD K b β G H σ ρ) (h2 : G p = none) (nb : β.isSome = true → p ≠ b) (hl : MuAt H p) : EnvD K b β G (upd H p ob) σ ρ := ⟨E.sub.mut h2, E.bagk.mut nb, E.len, E.imm, E.bagv, ⟨fun P q w => tab_updM (E.tabs.tab P q w) hl, E.tabs.free⟩, E.fnv⟩
/-- it stays while other things are done -/
theorem OwnW.step (w : OwnW K b β i p G H σ ρ d) (s : Step b β.isSome G H G1 H1) (hb : BagOk b β1 G1 H1) (hm : β1.isSome = β.isSome) : OwnW K b β1 i p G1 H1 σ ρ d := by
  obtain ⟨o, hp, h⟩ := w.val
  exact ⟨w.env.step s hb, w.slot, w.at_, s.fresh p _ w.free h.nt hp, fun z => w.nb (hm ▸ z), o, s.keep p _ w.nb h.nt hp, h.mono s.g⟩
theorem OwnW.setJ {v : V} (w : OwnW K b β i p G H σ ρ d) (hij : i ≠ j) (h : Den K G v x) : OwnW K b β i p G H (σ.set j (some v)) (ρ.set j (some (.imm x))) d :=
  ⟨w.env.set h, by rw [List.getElem?_set_ne (Ne.symm hij)]; exact w.slot, by rw [List.getElem?_set_ne (Ne.symm hij)]; exact w.at_, w.free, w.nb, w.val⟩
/-- it is changed -/
theorem OwnW.put {ob : HO} (w : OwnW K b β i p G H σ ρ d) (h : Held K G ob d1) : OwnW K b β i p G (upd H p ob) σ ρ d1 := by
  obtain ⟨o, hp, h0⟩ := w.val
  exact ⟨w.env.mutM w.free w.nb (h0.mu hp), w.slot, w.at_, w.free, w.nb, ob, upd_same, h⟩
theorem OwnW.mu (w : OwnW K b β i p G H σ ρ d) : MuAt H p := by
  obtain ⟨o, hp, h0⟩ := w.val
  exact h0.mu hp
/-- its slot, told as an address -/
theorem OwnW.asFn (w : OwnW K b β i p G H σ ρ d) : EnvD K b β G H σ (ρ.set i (some (.fn p))) := by
  have E := w.env.setFn (i := i) (f := p)
  have e : σ.set i (some (.ref p)) = σ := by
    apply List.ext_getElem?
    intro n
    by_cases q : i = n
    · subst q
      rw [List.getElem?_set_self (List.getElem?_eq_some_iff.mp w.at_).1, w.at_]
    · rw [List.getElem?_set_ne q]
  rw [e] at E
  exact E
theorem EnvD.slotFn {ρ : Rho} (hi : i < ρ.length) (E : EnvD K b β G H σ (ρ.set i (some (.fn p)))) : σ[i]? = some (some (.ref p)) := E.fnv i p (List.getElem?_set_self hi)
theorem EnvD.unFn {ρ : Rho} (hi : ρ[i]? = some none) (E : EnvD K b β G H σ (ρ.set i (some (.fn p)))) : EnvD K b β G H σ ρ := E.back hi
/-- seen as data -/
theorem OwnW.frozen (w : OwnW K b β i p G H σ ρ d) : ∃ o, H p = some o ∧ Held K G o d ∧ EnvD K b β (upd G p o) H σ (ρ.set i (some (.imm d))) := by
  obtain ⟨o, hp, h⟩ := w.val
  have ex : Ex G (upd G p o) := Ex.new w.free
  have E := w.env
  have E2 : EnvD K b β (upd G p o) H σ ρ := by
    refine ⟨fun a u z => ?_, fun ns e => ⟨(E.bagk ns e).1, ?_⟩, E.len, fun i d q => ?_, E.bagv, ⟨E.tabs.tab, fun x ps z => ?_⟩, E.fnv⟩
    · by_cases q : a = p
      · rw [q, upd_same] at z
        cases z
        rw [q]
        exact hp
      · rw [upd_ne q] at z
        exact E.sub a u z
    · rw [upd_ne (Ne.symm (w.nb (by rw [e]; rfl)))]
      exact (E.bagk ns e).2
    · obtain ⟨v, h1, h2⟩ := E.imm i d q
      exact ⟨v, h1, h2.mono ex⟩
    · by_cases q : x = p
      · rw [q, upd_same] at z; exact h.nt.1 ps (Option.some.inj z)
      · rw [upd_ne q] at z; exact E.tabs.free x ps z
  have E3 := E2.set (i := i) (v := .ref p) (d := d) ((h.mono ex).den upd_same)
  have e : σ.set i (some (.ref p)) = σ := by
    apply List.ext_getElem?
    intro n
    by_cases q : i = n
    · subst q
      rw [List.getElem?_set_self (List.getElem?_eq_some_iff.mp w.at_).1, w.at_]
    · rw [List.getElem?_set_ne q]
  rw [e] at E3
  exact ⟨o, hp, h, E3⟩
/-- and one's own again -/
theorem OwnW.thaw {u : HO} (w : OwnW K b β i p G H σ ρ d) (hp : H p = some u) (h : Held K G u d) (s2 : Step b β.isSome (upd G p u) H G2 H2) (k2 : BagOk b β1 G2 H2) (hm : β1.isSome = β.isSome) (tb : TabsOk (upd G p u) H) :
    ∃ Gd, Step b β.isSome G H Gd H2 ∧ OwnW K b β1 i p Gd H2 σ ρ d ∧ G2 p = some u ∧ ∀ x, x ≠ p → Gd x = G2 x := by
  obtain ⟨Gd, hGd⟩ : ∃ Gd : Hp, Gd = fun x => if x = p then none else G2 x := ⟨_, rfl⟩
  have gd_p : Gd p = none := by rw [hGd]; exact if_pos rfl
  have gd_ne : ∀ {x}, x ≠ p → Gd x = G2 x := fun hx => by rw [hGd]; exact if_neg hx
  have sd : Step b β.isSome G H Gd H2 := by
    refine ⟨fun x u hx => ?_, fun x u hx => ?_, fun x u hx t hu => ?_, s2.keep, s2.stay, fun t => ?_⟩
    · have hne : x ≠ p := fun z => by rw [z, w.free] at hx; cases hx
      rw [gd_ne hne]
      exact s2.g x u (by rw [upd_ne hne]; exact hx)
    · by_cases hne : x = p
      · rw [hne, gd_p] at hx; cases hx
      · rw [gd_ne hne] at hx; exact s2.s x u hx
    · by_cases hne : x = p
      · rw [hne]; exact gd_p
      · rw [gd_ne hne]
        exact s2.fresh x u (by rw [upd_ne hne]; exact hx) t hu
    · have t2 := s2.tabs tb
      refine ⟨t2.tab, fun x ps hx => ?_⟩
      by_cases hne : x = p
      · rw [hne, gd_p] at hx; cases hx
      · rw [gd_ne hne] at hx; exact t2.free x ps hx
  have kd : BagOk b β1 Gd H2 := fun ns e => ⟨(k2 ns e).1, by
    by_cases hne : b = p
    · rw [hne]; exact gd_p
    · rw [gd_ne hne]; exact (k2 ns e).2⟩
  exact ⟨Gd, sd, w.step sd kd hm, s2.g p u upd_same, fun x hx => gd_ne hx⟩
theorem ew_plain (h : ∀ p, EvB K te (ρ.set i (some (.fn p))) β x β1) : EvW K i te ρ β d x β1 := ⟨(h 0).som, fun b G H σ p Q w k => (h p).run b G H σ Q w.asFn fun v G1 H1 s1 k1 d1 => k v G1 H1 s1 (w.step s1 k1 (h 0).som) d1⟩
theorem ew_frz (h : EvB K te (ρ.set i (some (.imm d))) β x β1) (ha : apart d x = true) : EvW K i te ρ β d x β1 := ⟨h.som, fun b G H σ p Q w k => by
  obtain ⟨u, hp, hu, E⟩ := w.frozen
  refine h.run b _ H σ Q E fun v G1 H1 s1 k1 d1 => ?_
  obtain ⟨Gd, sd, wd, hq, hn⟩ := w.thaw hp hu s1 k1 h.som E.tabs
  exact k v Gd H1 sd wd (Den.off hu hq hn d1 ha)⟩
theorem tw_plain (h : ∀ p, TtB K tt (ρ.set i (some (.fn p))) β c β1) : TtW K i tt ρ β d c β1 := ⟨(h 0).som, fun b G H σ p Q w k => (h p).run b G H σ Q w.asFn fun G1 H1 s1 k1 => k G1 H1 s1 (w.step s1 k1 (h 0).som)⟩
theorem OutW.of {m : Bool} (h : OutW K b m β1 i p d1 G H D o) (s : Step b m G H G1 H1) : OutW K b m β1 i p d1 G1 H1 D o := by
  cases o with
  | nx r => exact fun σ' G' H' s' e => h σ' G' H' (s.trans s') e
  | brk r => exact fun σ' G' H' s' e => h σ' G' H' (s.trans s') e
  | ct r => exact fun σ' G' H' s' e => h σ' G' H' (s.trans s') e
  | ret d => exact fun v G' H' s' e dv => h v G' H' (s.trans s') e dv
theorem sw_asg (hij : i ≠ j) (h : EvW K i te ρ β d x β1) : StW K i (tAsg te (gName j)) ρ β d (.nx (ρ.set j (some (.imm x)))) β1 d := ⟨h.som, fun b G0 H0 G H σ p D gn s w k => h.run b G H σ p _ w fun v G1 H1 s1 w1 dv =>
  k _ G1 H1 (s.trans s1) (w1.setJ hij dv)⟩
theorem sw_next : StW K i tNext ρ β d (.nx ρ) β d := ⟨rfl, fun b G0 H0 G H σ p D gn s w k => k σ G H s w⟩
theorem sw_seq (h : StW K i tu ρ β d (.nx ρ1) β1 d1) (h' : StW K i tw ρ1 β1 d1 o β2 d2) : StW K i (tSeq tu tw) ρ β d o β2 d2 := ⟨h'.som.trans h.som, fun b G0 H0 G H σ p D gn s w k => h.run b G0 H0 G H σ p { D with nx := tw D } gn s w fun σ1 G1 H1 s1 w1 =>
  h'.run b G0 H0 G1 H1 σ1 p D gn (by rw [h.som]; exact s1) w1 (by rw [h.som]; exact k)⟩
theorem sw_if (h : TtW K i tt ρ β d c β1) (h1 : c = true → StW K i tu ρ β1 d o β2 d2) (h2 : c = false → StW K i tv ρ β1 d o β2 d2) : StW K i (tIfS tt tu tv) ρ β d o β2 d2 := by
  have m : β2.isSome = β1.isSome := by
    cases c with
    | true => exact (h1 rfl).som
    | false => exact (h2 rfl).som
  refine ⟨m.trans h.som, fun b G0 H0 G H σ p D gn s w k => h.run b G H σ p _ w fun G1 H1 s1 w1 => ?_⟩
  cases c with
  | true =>
    rw [if_pos rfl]
    exact (h1 rfl).run b G0 H0 G1 H1 σ p D gn (by rw [h.som]; exact s.trans s1) w1 (by rw [h.som]; exact k)
  | false =>
    rw [if_neg (by decide)]
    exact (h2 rfl).run b G0 H0 G1 H1 σ p D gn (by rw [h.som]; exact s.trans s1) w1 (by rw [h.som]; exact k)
theorem sw_ifT (h : TtW K i tt ρ β d true β1) (h1 : StW K i tu ρ β1 d o β2 d2) : StW K i (tIfS tt tu tv) ρ β d o β2 d2 := sw_if h (fun _ => h1) fun z => by cases z
theorem sw_ifF (h : TtW K i tt ρ β d false β1) (h1 : StW K i tv ρ β1 d o β2 d2) : StW K i (tIfS tt tu tv) ρ β d o β2 d2 := sw_if h (fun z => by cases z) fun _ => h1
/-- a statement that leaves it alone -/
theorem sw_plain (hi : ρ1[i]? = some none) (h : ∀ p, StB K ts (ρ.set i (some (.fn p))) β (.nx (ρ1.set i (some (.fn p)))) β1) : StW K i ts ρ β d (.nx ρ1) β1 d := ⟨(h 0).som, fun b G0 H0 G H σ p D gn s w k => (h p).run b G H σ D w.asFn fun σ' G1 H1 s1 E1 => by
  obtain ⟨u, hp, hu⟩ := w.val
  exact k σ' G1 H1 (s.trans s1) ⟨E1.unFn hi, hi, E1.slotFn (List.getElem?_eq_some_iff.mp hi).1, s1.fresh p _ w.free hu.nt hp, fun z => w.nb ((h 0).som ▸ z), u, s1.keep p _ w.nb hu.nt hp, hu.mono s1.g⟩⟩
theorem sw_app (h : EvB K te ρ β x β1) (hz : ds.length ≤ 50000) : StW K i (tDrop (tBM K "list" rAppend (tVar i) (tCons te tNil))) ρ β (.list ds) (.nx ρ) β1 (.list (ds ++ [x])) := by
  refine ⟨h.som, fun b G0 H0 G H σ p D gn s w k => ?_⟩
  obtain ⟨u, hp, hu⟩ := w.val
  cases hu with
  | @lst ws _ hd =>
    refine ⟨_, w.at_, .inl ⟨rfl, ws, sq_of hp⟩, ?_⟩
    refine h.run b G H σ _ w.env fun y G1 H1 s1 k1 d1 => ?_
    have w1 := w.step s1 k1 h.som
    have hp1 : H1 p = some (.lst ws) := s1.keep p _ w.nb NoT.lst hp
    have hl := hd.length
    refine ⟨p, ws, y, rfl, rfl, hp1, sz_lt (by omega), ?_⟩
    exact k σ G1 _ ((s.trans s1).mutM gn w1.free w1.mu) (w1.put (.lst ((hd.mono s1.g).append (.cons d1 .nil))))
end
inductive ForW [TabW] (K : PySem.W.Frag) (i j : Nat) (tu : TS) : List Dt → Rho → Bag → Dt → Out → Bag → Dt → Prop
  | nil (ρ : Rho) (β : Bag) (d : Dt) : ForW K i j tu [] ρ β d (.nx ρ) β d
  | nx {x : Dt} {xs : List Dt} {ρ ρ1 : Rho} {β β1 β2 : Bag} {d d1 d2 : Dt} {o : Out} : StW K i tu (ρ.set j (some (.imm x))) β d (.nx ρ1) β1 d1 → ForW K i j tu xs ρ1 β1 d1 o β2 d2 → ForW K i j tu (x :: xs) ρ β d o β2 d2
  | ct {x : Dt} {xs : List Dt} {ρ ρ1 : Rho} {β β1 β2 : Bag} {d d1 d2 : Dt} {o : Out} : StW K i tu (ρ.set j (some (.imm x))) β d (.ct ρ1) β1 d1 → ForW K i j tu xs ρ1 β1 d1 o β2 d2 → ForW K i j tu (x :: xs) ρ β d o β2 d2
  | brk {x : Dt} {xs : List Dt} {ρ ρ1 : Rho} {β β1 : Bag} {d d1 : Dt} : StW K i tu (ρ.set j (some (.imm x))) β d (.brk ρ1) β1 d1 → ForW K i j tu (x :: xs) ρ β d (.nx ρ1) β1 d1
  | ret {x r : Dt} {xs : List Dt} {ρ : Rho} {β β1 : Bag} {d d1 : Dt} : StW K i tu (ρ.set j (some (.imm x))) β d (.ret r) β1 d1 → ForW K i j tu (x :: xs) ρ β d (.ret r) β1 d1
section
variable [TabW] {K : PySem.W.Frag} {b : Addr} {ρ ρ1 ρ2 : Rho} {β β1 β2 β3 : Bag} {ta : TA} {te : TE} {tt : TT} {ts tu tv tw : TS} {d d1 d2 x : Dt} {ds es : List Dt} {o : Out} {c : Bool} {i j : Nat} {G H G0 H0 G1 H1 G2 H2 : Hp} {σ : L2.St} {p : Addr}
theorem ForW.som (h : ForW K i j tu es ρ β d o β2 d2) : β2.isSome = β.isSome := by
  induction h with
  | nil => rfl
  | nx h _ ih => exact ih.trans h.som
  | ct h _ ih => exact ih.trans h.som
  | brk h => exact h.som
  | ret h => exact h.som
theorem tab_off {p P : Addr} {q : Str} {H : Hp} (h : LamX.TabS H P q) (hl : MuAt H p) : LamX.TabS (fun x => if x = p then none else H x) P q := by
  obtain ⟨ps, h1, h2, h3⟩ := h
  refine ⟨ps, ?_, h2, fun pos cv hc => ?_⟩
  · dsimp only
    rw [if_neg fun z => ?_]
    · exact h1
    · rw [← z] at hl
      rcases hl _ h1 with ⟨_, e⟩ | ⟨_, e⟩ | ⟨_, _, _, e⟩ | ⟨_, e⟩ <;> cases e
  · obtain ⟨c, e1, e2⟩ := h3 pos cv hc
    refine ⟨c, e1, ?_⟩
    dsimp only
    rw [if_neg fun z => ?_]
    · exact e2
    · rw [← z] at hl
      rcases hl _ e2 with ⟨_, e⟩ | ⟨_, e⟩ | ⟨_, _, _, e⟩ | ⟨_, e⟩ <;> (unfold LamX.CodeO at e; cases e)
/-- the state without it -/
theorem OwnW.base {m : Bool} (w : OwnW K b β i p G1 H1 σ ρ d) (gn : Gone H0 p) (s : Step b m G0 H0 G1 H1) : ∃ Hb, Gone Hb p ∧ Step b m G0 H0 G1 Hb ∧ Step b m G1 Hb G1 H1 := by
  obtain ⟨Hb, hb⟩ : ∃ Hb : Hp, Hb = fun x => if x = p then none else H1 x := ⟨_, rfl⟩
  have b_p : Hb p = none := by rw [hb]; exact if_pos rfl
  have b_ne : ∀ {x}, x ≠ p → Hb x = H1 x := fun hx => by rw [hb]; exact if_neg hx
  have b_of : ∀ {x u}, Hb x = some u → H1 x = some u := fun {x u} h => by
    by_cases z : x = p
    · rw [z, b_p] at h; cases h
    · rw [← b_ne z]; exact h
  have ex : Ex G1 Hb := fun x u h => by
    have z : x ≠ p := fun z => by rw [z, w.free] at h; cases h
    rw [b_ne z]
    exact w.env.sub x u h
  refine ⟨Hb, Gone.none b_p, ⟨s.g, ex, s.fresh, fun x o n t h => by rw [b_ne (gn.ne t h)]; exact s.keep x o n t h, fun x o t h => ?_, fun t => ?_⟩, ⟨Ex.refl _, w.env.sub, fun x o h _ _ => h, fun x o _ _ h => b_of h, fun x o t h => ⟨o, t, b_of h⟩, fun _ => w.env.tabs⟩⟩
  · rw [b_ne (gn.ne t h)]
    exact s.stay x o t h
  · have t1 := s.tabs t
    exact ⟨fun P q hw => by rw [hb]; exact tab_off (t1.tab P q hw) w.mu, t1.free⟩
theorem forW_turn {D : Ends} {m : Bool} {v : V} {N : L2.St → Hp → Prop} (hm : m = β.isSome) (hij : i ≠ j) (h : ForW K i j tu (x :: es) ρ β d o β2 d2) (w : OwnW K b β i p G H σ ρ d) (dv : Den K G v x) (gn : Gone H0 p)
    (s : Step b m G0 H0 G H) (k : OutW K b m β2 i p d2 G0 H0 D o) (hN : ∀ σ' G' H' ρ' β' d', Step b m G0 H0 G' H' → β'.isSome = m → OwnW K b β' i p G' H' σ' ρ' d' → ForW K i j tu es ρ' β' d' o β2 d2 → N σ' H') :
    tu { D with nx := N, ct := N, bk := D.nx } (σ.set j (some v)) H := by
  have w' := w.setJ hij dv
  subst hm
  cases h with
  | nx h hr => exact h.run b G0 H0 G H _ p _ gn s w' fun σ' G' H' s' e => hN σ' G' H' _ _ _ s' h.som e hr
  | ct h hr => exact h.run b G0 H0 G H _ p _ gn s w' fun σ' G' H' s' e => hN σ' G' H' _ _ _ s' h.som e hr
  | brk h => exact h.run b G0 H0 G H _ p _ gn s w' fun σ' G' H' s' e => k σ' G' H' s' e
  | ret h => exact h.run b G0 H0 G H _ p _ gn s w' fun v G' H' s' e dv => k v G' H' s' e dv
theorem drop_of {es : List Dt} {n : Nat} {y : Dt} (h : es[n]? = some y) : es.drop n = y :: es.drop (n + 1) := by
  obtain ⟨hlt, he⟩ := List.getElem?_eq_some_iff.mp h
  rw [← he]
  exact List.drop_eq_getElem_cons hlt
/-- a loop whose turns keep a form of what is told -/
theorem ForW.keep {F : Nat → Rho → Dt → Prop} : ∀ {es : List Dt} {n : Nat} {ρ : Rho} {d : Dt}, F n ρ d → (∀ m x ρ d, es[m]? = some x → F (n + m) ρ d → ∃ ρ1 d1, (StW K i tu (ρ.set j (some (.imm x))) β d (.nx ρ1) β d1 ∨ StW K i tu (ρ.set j (some (.imm x))) β d (.ct ρ1) β d1) ∧ F (n + m + 1) ρ1 d1) →
    ∃ ρ' d', ForW K i j tu es ρ β d (.nx ρ') β d' ∧ F (n + es.length) ρ' d'
  | [], n, ρ, d, h, _ => ⟨ρ, d, .nil _ _ _, h⟩
  | x :: es, n, ρ, d, h, hs => by
    obtain ⟨ρ1, d1, h1, h2⟩ := hs 0 x ρ d rfl h
    obtain ⟨ρ', d', h3, h4⟩ := ForW.keep (F := F) (es := es) (n := n + 1) h2 fun m y ρ d hy hF => by
      have := hs (m + 1) y ρ d (by simpa using hy) (by rw [show n + (m + 1) = n + 1 + m by omega]; exact hF)
      rw [show n + (m + 1) + 1 = n + 1 + m + 1 by omega] at this
      exact this
    rw [List.length_cons, show n + (es.length + 1) = n + 1 + es.length by omega]
    rcases h1 with h1 | h1
    · exact ⟨ρ', d', .nx h1 h3, h4⟩
    · exact ⟨ρ', d', .ct h1 h3, h4⟩
theorem sp_end (h : StB K tw (ρ.set i (some (.imm d))) β o β1) : StP K i tw ρ β d o β1 := by
  refine ⟨h.som, fun b G0 H0 G H σ p D gn s w k => ?_⟩
  obtain ⟨u, hp, hu, E⟩ := w.frozen
  have s2 : Step b β.isSome G0 H0 (upd G p u) H := by
    refine ⟨s.g.trans (Ex.new w.free), fun a v z => E.sub a v z, fun a v h1 t h2 => ?_, s.keep, s.stay, fun t => ⟨(s.tabs t).tab, fun x ps z => ?_⟩⟩
    · rw [upd_ne (gn.ne t h2)]
      exact s.fresh a v h1 t h2
    · by_cases q : x = p
      · rw [q, upd_same] at z; exact hu.nt.1 ps (Option.some.inj z)
      · rw [upd_ne q] at z; exact (s.tabs t).free x ps z
  exact h.run b _ H σ D E (k.of (D' := D) s2)
theorem sp_seq (h : StW K i tu ρ β d (.nx ρ1) β1 d1) (h' : StP K i tw ρ1 β1 d1 o β2) : StP K i (tSeq tu tw) ρ β d o β2 := ⟨h'.som.trans h.som, fun b G0 H0 G H σ p D gn s w k => h.run b G0 H0 G H σ p { D with nx := tw D } gn s w fun σ1 G1 H1 s1 w1 =>
  h'.run b G0 H0 G1 H1 σ1 p D gn (by rw [h.som]; exact s1) w1 (by rw [h.som]; exact k)⟩
end
/-- a part that makes a new thing -/
structure EvN [TabW] (K : PySem.W.Frag) (te : TE) (ρ : Rho) (β : Bag) (d : Dt) (β' : Bag) : Prop where
  som : β'.isSome = β.isSome
  run : ∀ (b : Addr) (G H : Hp) (σ : L2.St) (Q : VK), EnvD K b β G H σ ρ → (∀ p u G1 H1 Hb, Step b β.isSome G H G1 Hb → Gone Hb p → Step b β.isSome G1 Hb G1 H1 → BagOk b β' G1 H1 → G1 p = none → (β'.isSome = true → p ≠ b) → H1 p = some u → Held K G1 u d → Q (.ref p) H1) → te σ H Q
section
variable [TabW] {K : PySem.W.Frag} {b : Addr} {ρ ρ1 ρ2 : Rho} {β β1 β2 β3 : Bag} {ta : TA} {te tl : TE} {tt : TT} {ts tu tv tw : TS} {d d1 d2 x : Dt} {ds es rs : List Dt} {o : Out} {c : Bool} {i j : Nat} {G H G0 H0 G1 H1 G2 H2 : Hp} {σ : L2.St} {p : Addr}
theorem st_own (hi : i < ρ.length) (h : EvN K te ρ β d β1) (h' : StP K i tw (ρ.set i none) β1 d o β2) : StB K (tSeq (tAsg te (gName i)) tw) ρ β o β2 := by
  refine ⟨h'.som.trans h.som, fun b G H σ D E k => ?_⟩
  refine h.run b G H σ _ E fun p u G1 H1 Hb s0 gn s1 k1 gp nb hp hu => ?_
  have E1 : EnvD K b β1 G1 H1 σ ρ := E.step (s0.trans s1) k1
  have hil : i < σ.length := by rw [E.len]; exact hi
  refine h'.run b G1 Hb G1 H1 _ p D gn (by rw [h.som]; exact s1) ⟨E1.forget, List.getElem?_set_self hi, List.getElem?_set_self hil, gp, nb, u, hp, hu⟩ ?_
  rw [h.som]
  exact k.of (D' := D) s0
/-- made anew in the state as it stands -/
theorem evN_of {u : HO} {m : Bool} (kb : BagOk b β1 G1 H1) (e : Ex G1 H1) (hm : β1.isSome = m) (hp : H1 p = none) (h : Held K G1 u d) {Q : VK} (k : ∀ p u G2 H2 Hb, Step b m G1 H1 G2 Hb → Gone Hb p → Step b m G2 Hb G2 H2 → BagOk b β1 G2 H2 → G2 p = none → (β1.isSome = true → p ≠ b) → H2 p = some u → Held K G2 u d → Q (.ref p) H2) : Q (.ref p) (upd H1 p u) := by
  have gp : G1 p = none := fresh_back e hp
  have nb : β1.isSome = true → p ≠ b := bag_ne kb rfl hp
  exact k p u G1 _ H1 (Step.refl e) (Gone.none hp) ((Step.refl e).mutM (Gone.none hp) gp (MuAt.none hp)) (kb.mut nb) gp nb upd_same h
theorem EvN.of {Q : VK} (s : Step b β.isSome G H G1 H1) (hm : β1.isSome = β.isSome) (k : ∀ p u G2 H2 Hb, Step b β.isSome G H G2 Hb → Gone Hb p → Step b β.isSome G2 Hb G2 H2 → BagOk b β1 G2 H2 → G2 p = none → (β1.isSome = true → p ≠ b) → H2 p = some u → Held K G2 u d → Q (.ref p) H2) :
    ∀ p u G2 H2 Hb, Step b β.isSome G1 H1 G2 Hb → Gone Hb p → Step b β.isSome G2 Hb G2 H2 → BagOk b β1 G2 H2 → G2 p = none → (β1.isSome = true → p ≠ b) → H2 p = some u → Held K G2 u d → Q (.ref p) H2 :=
  fun p u G2 H2 Hb s0 gn s1 => k p u G2 H2 Hb (s.trans s0) gn s1
theorem en_lst (h : EvA K ta ρ β (imms ds) β1) (hz : ds.length ≤ 100000) : EvN K (tLst ta) ρ β (.list ds) β1 := ⟨h.som, fun b G H σ Q E k => h.run b G H σ _ E fun vs G1 H1 s1 k1 d1 => by
  have dl := d1.imm
  have hl := dl.length
  exact ⟨sz_of (by omega), fun p hp => evN_of k1 s1.s h.som hp (.lst dl) (EvN.of s1 h.som k)⟩⟩
theorem en_dict0 : EvN K tDNewK ρ β (dctD []) β := ⟨rfl, fun b G H σ Q E k => fun p hp => evN_of (u := .dK []) E.bagk E.sub rfl hp (.dct (kvs := []) .nil) k⟩
end
end TD
set_option Elab.async false
set_option linter.all false
set_option maxRecDepth 100000
set_option maxHeartbeats 4100100
namespace TD
open PySem L2 PySem.Spec PyProof.Rows
open Evl (Ex ex_l ex_t fresh_back sq_of st_of sz_of sz_lt)
def getF : List (Dt × Dt) → Str → Option Dt
  | [], _ => none
  | (.str g, d) :: ps, f => if f == g then some d else getF ps f
  | _ :: ps, f => getF ps f
section
variable {K : PySem.W.Frag} {G : Hp}
theorem DenF.look : ∀ {fs : List (Str × V)} {ps : List (Dt × Dt)}, DenF K G fs ps → ∀ f : Str, (∀ d, getF ps f = some d → ∃ v, fs.lookup f = some v ∧ Den K G v d) ∧ (getF ps f = none → fs.lookup f = none)
  | [], [], _, f => ⟨fun _ h => (nomatch h), fun _ => rfl⟩
  | [], _ :: _, h, _ => (nomatch h)
  | _ :: _, [], h, _ => (nomatch h)
  | (g, v) :: fs, _, .cons (d := d) (ps := ps) h1 h2, f => by
    show (∀ d', (if f == g then some d else getF ps f) = some d' → ∃ u, List.lookup f ((g, v) :: fs) = some u ∧ Den K G u d') ∧ ((if f == g then some d else getF ps f) = none → List.lookup f ((g, v) :: fs) = none)
    rw [List.lookup_cons]
    cases f == g with
    | true => exact ⟨fun d' e => ⟨v, rfl, by cases e; exact h1⟩, fun e => (nomatch e)⟩
    | false => exact DenF.look h2 f
theorem DenF.length : ∀ {fs : List (Str × V)} {ps : List (Dt × Dt)}, DenF K G fs ps → fs.length = ps.length
  | [], [], _ => rfl
  | [], _ :: _, h => nomatch h
  | _ :: _, [], h => nomatch h
  | _ :: _, _ :: _, .cons _ h => congrArg (· + 1) h.length
/-- one more attribute -/
theorem DenF.put {f : Str} {v : V} {d : Dt} (hv : Den K G v d) : ∀ {fs : List (Str × V)} {ps : List (Dt × Dt)}, DenF K G fs ps → getF ps f = none → DenF K G (putF f v fs) (ps ++ [(.str f, d)])
  | [], [], _, _ => .cons hv .nil
  | [], _ :: _, h, _ => (nomatch h)
  | _ :: _, [], h, _ => (nomatch h)
  | (g, x) :: fs, _, .cons (d := d0) (ps := ps) h1 h2, hn => by
    have hn : (if f == g then some d0 else getF ps f) = none := hn
    have ne : ¬ g = f := fun z => by
      rw [z, beq_self_eq_true] at hn
      cases hn
    have hn2 : getF ps f = none := by
      split at hn
      · cases hn
      · exact hn
    show DenF K G (if g = f then (g, v) :: fs else (g, x) :: putF f v fs) _
    rw [if_neg ne]
    exact .cons h1 (DenF.put hv h2 hn2)
/-- what is told as an object is one -/
theorem den_ins {v : V} {i : Int} {ps : List (Dt × Dt)} (h : Den K G v (.dict ((.none, .int i) :: ps))) : ∃ (a C dx : Addr) (fs : List (Str × V)), v = .ref a ∧ i = ((C : Nat) : Int) ∧ InsK K C ∧ G a = some (.ins C dx fs) ∧ DenF K G fs ps := by
  cases h with
  | ins hc hs hp => exact ⟨_, _, _, _, rfl, rfl, hc, hs, hp⟩
theorem den_oD {v : V} {C : Addr} {ps : List (Dt × Dt)} (h : Den K G v (oD C ps)) : ∃ (a dx : Addr) (fs : List (Str × V)), v = .ref a ∧ InsK K C ∧ G a = some (.ins C dx fs) ∧ DenF K G fs ps := by
  obtain ⟨a, C', dx, fs, e, z, hc, hs, hp⟩ := den_ins h
  obtain rfl : C = C' := Int.ofNat.inj z
  exact ⟨a, dx, fs, e, hc, hs, hp⟩
end
section
variable [TabW] {K : PySem.W.Frag} {b : Addr} {ρ ρ1 : Rho} {β β1 β2 : Bag} {ta te : TE} {t : TA} {ts tu tw : TS} {d x : Dt} {C : Addr} {ps : List (Dt × Dt)} {f m : Str} {as : List Slot} {r : Dt} {E : XK} {i j : Nat} {o : Out} {G H G0 H0 G1 H1 : Hp} {σ : L2.St} {p : Addr}
theorem d_fld (h : EvB K te ρ β (oD C ps) β1) (hn : NoAttr K C f) (hf : getF ps f = some d) : EvB K (tFld K te f) ρ β d β1 := ⟨h.som, fun b G H σ Q E k => h.run b G H σ _ E fun v G1 H1 s1 k1 d1 => by
  obtain ⟨a, dx, fs, rfl, hc, hs, hp⟩ := den_oD d1
  obtain ⟨v, hv, dv⟩ := (hp.look f).1 d hf
  exact ⟨a, C, dx, fs, v, rfl, s1.s _ _ hs, hc.ic.cl, hn, hv, k v G1 H1 s1 k1 dv⟩⟩
/-- a method that raises nothing, one that may -/
theorem d_meth {R : FR} (h : EvB K te ρ β (oD C ps) β1) (hm : getF ps m = none) (ha : EvA K t ρ β1 as β2) (hR : R (.imm (oD C ps) :: as) none r none) : EvB K (tMeth C m (spR K R) [] E te t) ρ β r β2 := ⟨ha.som.trans h.som, fun b G H σ Q E' k => h.run b G H σ _ E' fun v G1 H1 s1 k1 d1 => by
  obtain ⟨a, dx, fs, rfl, hc, hs, hp⟩ := den_oD d1
  have E1 := E'.step s1 k1
  refine ⟨a, dx, fs, rfl, s1.s _ _ hs, (hp.look m).2 hm, ha.run b G1 H1 σ _ E1 fun vs G2 H2 s2 k2 d2 => ?_⟩
  rw [List.append_nil]
  exact ⟨b, G2, none, .imm (oD C ps) :: as, r, none, s2.s, (E1.step s2 k2).tabs, (fun _ z => nomatch z), .cons (d1.mono s2.g) d2, hR, rfl, fun w G3 H3 s3 k3 d3 => k w G3 H3 ((s1.trans (h.som ▸ s2)).trans s3.up) (k2.same s3) d3⟩⟩
/-- a property -/
theorem d_prop {R : FR} (h : EvB K te ρ β (oD C ps) β1) (hR : R [.imm (oD C ps)] none r none) : EvB K (tProp C (spR K R) [] E te) ρ β r β1 := ⟨h.som, fun b G H σ Q E' k => h.run b G H σ _ E' fun v G1 H1 s1 k1 d1 => by
  have d1' := d1
  obtain ⟨a, dx, fs, rfl, hc, hs, hp⟩ := den_oD d1
  exact ⟨a, dx, fs, rfl, s1.s _ _ hs, b, G1, none, [.imm (oD C ps)], r, none, s1.s, (E'.step s1 k1).tabs, (fun _ z => nomatch z), .cons d1' .nil, hR, rfl, fun w G3 H3 s3 k3 d3 => k w G3 H3 (s1.trans s3.up) (k1.same s3) d3⟩⟩
theorem sw_fld (h : EvW K i te ρ β (oD C ps) d β1) (hn : NoAttr K C f) (hf : getF ps f = none) (hz : ps.length < 1000) : StW K i (sFld K (tVar i) te f) ρ β (oD C ps) (.nx ρ) β1 (oD C (ps ++ [(.str f, d)])) := ⟨h.som, fun b G0 H0 G H σ p D gn s w k => h.run b G H σ p _ w fun v G1 H1 s1 w1 dv => by
  obtain ⟨ob, hp, hd⟩ := w1.val
  cases hd with
  | @ins C' dx fs ps' hc hF =>
    refine ⟨_, w1.at_, p, C, dx, fs, rfl, hp, hc.ic.cl, hn, by rw [hF.length]; exact hz, ?_⟩
    have s2 := s.trans s1
    have g1 : Gone H0 p := gn
    exact k σ G1 _ (s2.mutM g1 w1.free w1.mu) (w1.put (.ins hc (hF.put dv hf)))⟩
inductive ResI where
  | ok (ps : List (Dt × Dt))
  | ex (C : Addr) (k : Kept)
abbrev FI := List Slot → Bag → ResI → Bag → Prop
def ToI (K : PySem.W.Frag) (b : Addr) (m : Bool) (β' : Bag) (G H0 : Hp) (Q : VK) (E : XK) (C x : Addr) : ResI → Prop
  | .ok ps => ∀ G' H', Step b m G H0 G' H' → BagOk b β' G' H' → Den K G' (.ref x) (oD C ps) → Q .non H'
  | .ex D k => ExTo K b m β' G H0 E D k
def spI (K : PySem.W.Frag) (C : Addr) (R : FI) : Sp := fun vs H Q E => ∃ (b : Addr) (G H0 : Hp) (β : Bag) (as : List Slot) (r : ResI) (β' : Bag) (x dx : Addr) (ws : List V), vs = .ref x :: ws ∧ H0 x = none ∧ H0 dx = none ∧ dx ≠ x ∧ H = upd (upd H0 dx (.own x)) x (.ins C dx []) ∧
  Ex G H0 ∧ TabsOk G H0 ∧ BagOk b β G H0 ∧ DenSs K b G ws as ∧ R as β r β' ∧ β'.isSome = β.isSome ∧ ToI K b β.isSome β' G H0 Q E C x r
theorem x_new {R : FI} (ha : EvA K t ρ β as β1) (hR : R as none (.ok ps) none) : EvB K (tMake C (spI K C R) [] E t) ρ β (oD C ps) β1 := ⟨ha.som, fun b G H σ Q E' k => ha.run b G H σ _ E' fun vs G1 H1 s1 k1 d1 x dx hx hdx ne => by
  rw [List.append_nil]
  exact ⟨b, G1, H1, none, as, .ok ps, none, x, dx, vs, rfl, hx, hdx, ne, rfl, s1.s, (E'.step s1 k1).tabs, (fun _ z => nomatch z), d1, hR, rfl, fun G2 H2 s2 k2 d2 => ⟨rfl, k (.ref x) G2 H2 (s1.trans s2.up) (k1.same s2) d2⟩⟩⟩
/-- the slots at the start: self, the arguments, the rest -/
def startI (N : List Str) (as : List Slot) : Rho := none :: (as.map some ++ List.replicate (N.length - (as.length + 1)) none)
inductive BodyI (K : PySem.W.Frag) (E : XK) (C : Addr) (t : TS) (ρ : Rho) (β β' : Bag) : ResI → Prop
  | ok {ps : List (Dt × Dt)} (ρ' : Rho) : StW K 0 t ρ β (oD C []) (.nx ρ') β' (oD C ps) → BodyI K E C t ρ β β' (.ok ps)
  | ex {D : Addr} {k : Kept} : (∀ p, StR K E t (ρ.set 0 (some (.fn p))) β D k β') → BodyI K E C t ρ β β' (.ex D k)
theorem step_made {m : Bool} {x dx : Addr} (e : Ex G H) (hx : H x = none) (hdx : H dx = none) : Step b m G H G (upd (upd H dx (.own x)) x (.ins C dx [])) := by
  have ext : Ex H (upd (upd H dx (.own x)) x (.ins C dx [])) := fun a u h => by
    rw [upd_ne (ne_of_none h hx), upd_ne (ne_of_none h hdx)]
    exact h
  exact ⟨Ex.refl G, e.trans ext, fun _ _ h _ _ => h, fun a u _ _ h => ext a u h, fun a u t h => ⟨u, t, ext a u h⟩, fun h => ⟨fun P q w => (h.tab P q w).ext ext, h.free⟩⟩
theorem init_read {R : FI} {N : List Str} {t : TS} {vs : List V} {Q : VK} (hc : InsK K C) (h : ∀ as β r β', R as β r β' → BodyI K E C t (startI N as) β β' r) (hsp : spI K C R vs H Q E) : t { nx := fun _ H' => Q .non H', rt := Q } (L2.start N vs) H := by
  obtain ⟨b, G, H0, β, as, r, β', x, dx, ws, rfl, hx, hdx, ne, rfl, e, tb, kb, ha, hR, hm, kk⟩ := hsp
  have s0 : Step b β.isSome G H0 G (upd (upd H0 dx (.own x)) x (.ins C dx [])) := step_made e hx hdx
  have nb : β.isSome = true → x ≠ b := fun z q => by
    obtain ⟨ns, e2⟩ := Option.isSome_iff_exists.mp z
    have := (kb ns e2).1
    rw [← q, hx] at this
    cases this
  have kb1 : BagOk b β G (upd (upd H0 dx (.own x)) x (.ins C dx [])) := fun ns e2 => by
    obtain ⟨h1, h2⟩ := kb ns e2
    exact ⟨by rw [upd_ne (ne_of_none h1 hx), upd_ne (ne_of_none h1 hdx)]; exact h1, h2⟩
  have E0 : EnvD K b β G (upd (upd H0 dx (.own x)) x (.ins C dx [])) (L2.start N (.ref x :: ws)) ((startI N as).set 0 (some (.fn x))) := start_env (N := N) (as := .fn x :: as) s0.s (s0.tabs tb) kb1 (.cons rfl ha)
  have gx : G x = none := fresh_back e hx
  have w0 : OwnW K b β 0 x G (upd (upd H0 dx (.own x)) x (.ins C dx [])) (L2.start N (.ref x :: ws)) (startI N as) (oD C []) := ⟨E0.unFn rfl, rfl, rfl, gx, nb, _, upd_same, .ins hc .nil⟩
  have gn : Gone H0 x := fun u _ z => by rw [hx] at z; cases z
  cases h _ _ _ _ hR with
  | ok ρ' hb =>
    refine hb.run b G H0 G _ _ x _ gn s0 w0 fun σ' G' H' s' w' => ?_
    obtain ⟨u, hu, hh, E⟩ := w'.frozen
    have s2 : Step b β.isSome G H0 (upd G' x u) H' := by
      refine ⟨s'.g.trans (Ex.new w'.free), fun a v z => E.sub a v z, fun a v h1 t h2 => ?_, s'.keep, s'.stay, fun t => ⟨(s'.tabs t).tab, fun y ps z => ?_⟩⟩
      · rw [upd_ne (gn.ne t h2)]
        exact s'.fresh a v h1 t h2
      · by_cases q : y = x
        · rw [q, upd_same] at z; exact hh.nt.1 ps (Option.some.inj z)
        · rw [upd_ne q] at z; exact (s'.tabs t).free y ps z
    exact kk _ H' s2 E.bagk ((hh.mono (Ex.new w'.free)).den upd_same)
  | ex hb =>
    have kk : ExTo K b β.isSome β' G H0 E _ _ := kk
    exact (hb x).run b G _ _ _ E0 (kk.of s0)
end
section
variable [TabW] (P : Program) (w : World) (K : PySem.W.Frag) (mg : Str → Option Value) (base : Heap) (k : Nat)
/-- a method of it, that raises nothing or that may -/
structure FnM (C : Addr) (m : Str) (ps : List Str) (R : FR) : Prop where
  ex : ∃ (f : Addr) (fd : FuncData), InsK K C ∧ Meth K C m f ∧ FnOk P w K mg base CX0 k f fd ps (spR K R) ∧ Binds K fd ps []
/-- a property of it -/
structure FnP (C : Addr) (m : Str) (R : FR) : Prop where
  ex : ∃ (p f : Addr) (fd : FuncData), InsK K C ∧ PropOf K C m p f ∧ FnOk P w K mg base CX0 k f fd ["self"] (spR K R) ∧ Binds K fd ["self"] []
end
structure MethAt (K : PySem.W.Frag) (C : Addr) (m qual : Str) (st : Stmt) : Prop where
  ex : ∃ (f : Addr) (fd : FuncData), Meth K C m f ∧ Fun K m qual st f fd
  ins : InsK K C
structure PropAt (K : PySem.W.Frag) (C : Addr) (m qual : Str) (st : Stmt) : Prop where
  ex : ∃ (p f : Addr) (fd : FuncData), PropOf K C m p f ∧ Fun K m qual st f fd
  ins : InsK K C
section
variable [TabW] {P : Program} {w : World} {K : PySem.W.Frag} {mg : Str → Option Value} {base : Heap} {X : Cx} {k : Nat} {x m qual : Str} {C : Addr} {ps N : List Str} {st : Stmt} {pos p apos : Pos} {e o : Expr} {es : List Expr} {t : TA} {te : TE} {E : XK}
theorem pe_m {R : FR} {pl : Sem Bool} (F : FnM P w K mg base k C m ps R) (hr : Room k X.A) (ho : PE X o te) (ha : PA X (e :: es) t) (h1 : X.prog = P := by rfl) (h2 : X.w = w := by rfl) (h3 : X.K = K := by rfl) (h4 : X.mg = mg := by rfl) (h5 : X.base = base := by rfl)
    (hs : starEach (e :: es) X.env = (false, eval e X.env) :: starEach es X.env := by rfl) (hp : (backTo pos (starEach es X.env)).any (·.1) = false := by rfl)
    (ht : eval (.Call (.Attribute o m apos) (e :: es) [] pos) X.env = (do let it ← eval o X.env; standAt apos.atName; let (g, fst) ← holding [it] (getMethod it m pl); callWith pos g fst (backTo pos (starEach (e :: es) X.env)) (backToKw pos (keywordEach [] X.env))) := by rfl) : PE X (.Call (.Attribute o m apos) (e :: es) [] pos) (tMeth C m (spR K R) [] E0 te t) := by
  obtain ⟨f, fd, hc, M, hf, hb⟩ := F.ex
  subst h1 h2 h3 h4 h5
  exact pe_meth (pl := pl) ho hc.ic.cl M hf hr hb .nil pass0 ha hs hp ht
theorem pe_p {R : FR} (F : FnP P w K mg base k C m R) (hr : Room (k + 1) X.A) (ho : PE X e te) (h1 : X.prog = P := by rfl) (h2 : X.w = w := by rfl) (h3 : X.K = K := by rfl) (h4 : X.mg = mg := by rfl) (h5 : X.base = base := by rfl)
    (hab : attributeBase e m X.env (eval e X.env) = eval e X.env := by rfl) : PE X (.Attribute e m pos) (tProp C (spR K R) [] E0 te) := by
  obtain ⟨q, f, fd, hc, M, hf, hb⟩ := F.ex
  subst h1 h2 h3 h4 h5
  exact pe_prop ho hc.ic.cl M hf hr hb .nil pass0 hab
theorem meth_mk {R : FR} (F : MethAt K C m qual st) (S : FnScope N ps (defScope st)) (hlen : ∀ as β r β', R as β r β' → as.length = ps.length)
    (hb : ∀ (f : Addr) (kV doc pm : Value) (an : Option Addr) (cdv ct : Value) (us : List Value), us.length = ps.length → bindArgs (PySem.W.fnOf m qual (defArgs st) (defBody st) (defScope st) .none kV doc pm an cdv ct) ⟨us, []⟩ = pure (ps.zip us))
    (hbody : ∀ (f : Addr) (cdv : Value) (A : Around) (outer : List PySem.Env) (s : Shared) (H : Hp) (E : XK), Room k (A.deeper (envOfC qual (defScope st) s.heap.objs.size f cdv)) →
      ∃ t, PSs (cxOf CX0 P w K mg base N qual (defScope st) f cdv A outer s H E).nox (defBody st) t ∧ ∀ as β r β', R as β r β' → BodyR K t (startR N as) β r β') : FnM P w K mg base (k + 1) C m ps R := by
  obtain ⟨f, fd, M, hF⟩ := F.ex
  refine ⟨f, fd, F.ins, M, ?_, hF.binds (hb f)⟩
  refine hF.ok S (fun vs H Q E hsp => ?_) fun cdv A outer s H vs Q E hr hsp => ?_
  · obtain ⟨b, G, β, as, r, β', _, _, _, hd, hR, _⟩ := hsp
    rw [hd.length]
    exact hlen _ _ _ _ hR
  · obtain ⟨t, h1, h2⟩ := hbody f cdv A outer s H E hr
    exact ⟨t, h1, fn_read h2 hsp⟩
theorem prop_mk {R : FR} (F : PropAt K C m qual st) (S : FnScope N ["self"] (defScope st)) (hlen : ∀ as β r β', R as β r β' → as.length = 1)
    (hb : ∀ (f : Addr) (kV doc pm : Value) (an : Option Addr) (cdv ct : Value) (us : List Value), us.length = 1 → bindArgs (PySem.W.fnOf m qual (defArgs st) (defBody st) (defScope st) .none kV doc pm an cdv ct) ⟨us, []⟩ = pure ((["self"] : List Str).zip us))
    (hbody : ∀ (f : Addr) (cdv : Value) (A : Around) (outer : List PySem.Env) (s : Shared) (H : Hp) (E : XK), Room k (A.deeper (envOfC qual (defScope st) s.heap.objs.size f cdv)) →
      ∃ t, PSs (cxOf CX0 P w K mg base N qual (defScope st) f cdv A outer s H E).nox (defBody st) t ∧ ∀ as β r β', R as β r β' → BodyR K t (startR N as) β r β') : FnP P w K mg base (k + 1) C m R := by
  obtain ⟨p, f, fd, M, hF⟩ := F.ex
  refine ⟨p, f, fd, F.ins, M, ?_, hF.binds (hb f)⟩
  refine hF.ok S (fun vs H Q E hsp => ?_) fun cdv A outer s H vs Q E hr hsp => ?_
  · obtain ⟨b, G, β, as, r, β', _, _, _, hd, hR, _⟩ := hsp
    rw [hd.length]
    exact hlen _ _ _ _ hR
  · obtain ⟨t, h1, h2⟩ := hbody f cdv A outer s H E hr
    exact ⟨t, h1, fn_read h2 hsp⟩
end
end TD
set_option Elab.async false
set_option linter.all false
set_option maxRecDepth 100000
set_option maxHeartbeats 4100000
namespace TD
open PySem L2 PySem.Spec PyProof.Rows
open Evl (Ex ex_l ex_t fresh_back sq_of st_of sz_of sz_lt)
abbrev tupD (ns : List Int) : Dt := .tuple (ns.map PyData.int)
abbrev keyL (ns : List Int) : List Key := ns.map Sum.inl
abbrev pairsT (qs : List (List Int × Dt)) : List (Dt × Dt) := qs.map fun q => (tupD q.1, q.2)
abbrev dT (qs : List (List Int × Dt)) : Dt := dctT (pairsT qs)
abbrev keysT (kvs : List (List Int × V)) : List (List Key × V) := kvs.map fun q => (keyL q.1, q.2)
def getT {α : Type} (qs : List (List Int × α)) (k : List Int) : Option α := (qs.find? fun q => decide (q.1 = k)).map (·.2)
def putT {α : Type} (qs : List (List Int × α)) (k : List Int) (v : α) : List (List Int × α) := if (qs.any fun q => decide (q.1 = k)) = true then qs.map (fun q => if q.1 = k then (q.1, v) else q) else qs ++ [(k, v)]
theorem keyL_inj {a b : List Int} (h : keyL a = keyL b) : a = b := by
  induction a generalizing b with
  | nil => cases b with
    | nil => rfl
    | cons y b => cases h
  | cons x a ih => cases b with
    | nil => cases h
    | cons y b =>
      obtain ⟨h1, h2⟩ := List.cons.inj h
      rw [Sum.inl.inj h1, ih h2]
theorem keyL_dec (a b : List Int) : decide (keyL a = keyL b) = decide (a = b) := by
  by_cases h : a = b
  · rw [h, decide_eq_true rfl, decide_eq_true rfl]
  · rw [decide_eq_false h, decide_eq_false fun z => h (keyL_inj z)]
theorem tupD_inj {a b : List Int} (h : tupD a = tupD b) : a = b := by
  have h : a.map PyData.int = b.map PyData.int := PyData.tuple.inj h
  exact List.map_inj_right (fun _ _ z => PyData.int.inj z) |>.mp h
theorem keyL_kV (ns : List Int) : (keyL ns).map kV = ns.map V.int := by
  rw [List.map_map]
  rfl
theorem keysT_val (k : List Int) : ∀ kvs : List (List Int × V), valV (keysT kvs) (keyL k) = getT kvs k
  | [] => rfl
  | q :: kvs => by
    by_cases h : q.1 = k
    · rw [show keysT (q :: kvs) = (keyL q.1, q.2) :: keysT kvs from rfl, valV_pos (by rw [h])]
      simp [getT, h]
    · rw [show keysT (q :: kvs) = (keyL q.1, q.2) :: keysT kvs from rfl, valV_neg fun z => h (keyL_inj z), keysT_val k kvs]
      simp [getT, h]
theorem keysT_any (k : List Int) : ∀ kvs : List (List Int × V), ((keysT kvs).any fun kv => decide (kv.1 = keyL k)) = kvs.any fun q => decide (q.1 = k)
  | [] => rfl
  | q :: kvs => by
    show (decide (keyL q.1 = keyL k) || (keysT kvs).any _) = (decide (q.1 = k) || kvs.any _)
    rw [keyL_dec, keysT_any k kvs]
theorem keysT_repl (k : List Int) (v : V) : ∀ kvs : List (List Int × V), (keysT kvs).map (fun kv => if kv.1 = keyL k then (kv.1, v) else kv) = keysT (kvs.map fun q => if q.1 = k then (q.1, v) else q)
  | [] => rfl
  | q :: kvs => by
    show (if keyL q.1 = keyL k then (keyL q.1, v) else (keyL q.1, q.2)) :: (keysT kvs).map _ = (keyL (if q.1 = k then (q.1, v) else q).1, (if q.1 = k then (q.1, v) else q).2) :: keysT _
    rw [keysT_repl k v kvs]
    by_cases h : q.1 = k
    · rw [if_pos (by rw [h]), if_pos h]
    · rw [if_neg (fun z => h (keyL_inj z)), if_neg h]
theorem keysT_put (kvs : List (List Int × V)) (k : List Int) (v : V) : putK (keysT kvs) (keyL k) v = keysT (putT kvs k v) := by
  unfold putK putT
  rw [keysT_any]
  split
  · exact keysT_repl k v kvs
  · show keysT kvs ++ [(keyL k, v)] = keysT (kvs ++ [(k, v)])
    unfold keysT
    rw [List.map_append]
    rfl
/-- a heap's dict beside what it is told as -/
inductive DenQ (K : PySem.W.Frag) (G : Hp) : List (List Int × V) → List (List Int × Dt) → Prop
  | nil : DenQ K G [] []
  | cons {k : List Int} {v : V} {d : Dt} {kvs : List (List Int × V)} {qs : List (List Int × Dt)} : Den K G v d → DenQ K G kvs qs → DenQ K G ((k, v) :: kvs) ((k, d) :: qs)
section
variable {K : PySem.W.Frag} {G G' : Hp}
theorem DenQ.toT : ∀ {kvs : List (List Int × V)} {qs : List (List Int × Dt)}, DenQ K G kvs qs → DenT K G (keysT kvs) (pairsT qs)
  | _, _, .nil => .nil
  | _, _, .cons h1 h2 => .cons h1 h2.toT
theorem DenT.toQ : ∀ {ks : List (List Key × V)} {qs : List (List Int × Dt)}, DenT K G ks (pairsT qs) → ∃ kvs, ks = keysT kvs ∧ DenQ K G kvs qs
  | [], [], _ => ⟨[], rfl, .nil⟩
  | [], _ :: _, h => (nomatch h)
  | _ :: _, [], h => (nomatch h)
  | k :: ks, (m, d) :: qs, h => by
    have h : DenT K G (k :: ks) ((tupD m, d) :: pairsT qs) := h
    generalize e : tupD m = x at h
    cases h with
    | @cons ns v _ _ _ h1 h2 =>
      obtain rfl := tupD_inj e
      obtain ⟨kvs, rfl, hq⟩ := DenT.toQ h2
      exact ⟨(m, v) :: kvs, rfl, .cons h1 hq⟩
theorem DenQ.mono (e : Ex G G') : ∀ {kvs : List (List Int × V)} {qs : List (List Int × Dt)}, DenQ K G kvs qs → DenQ K G' kvs qs
  | _, _, .nil => .nil
  | _, _, .cons h1 h2 => .cons (h1.mono e) (h2.mono e)
theorem DenQ.val (k : List Int) : ∀ {kvs : List (List Int × V)} {qs : List (List Int × Dt)}, DenQ K G kvs qs → (getT kvs k = none ∧ getT qs k = none) ∨ ∃ v d, getT kvs k = some v ∧ getT qs k = some d ∧ Den K G v d
  | _, _, .nil => Or.inl ⟨rfl, rfl⟩
  | (j, v) :: _, (_, d) :: _, .cons h1 h2 => by
    by_cases hj : j = k
    · refine .inr ⟨v, d, ?_, ?_, h1⟩ <;> simp [getT, List.find?_cons, hj]
    · have := h2.val k
      simpa [getT, List.find?_cons, hj] using this
theorem DenQ.any (k : List Int) : ∀ {kvs : List (List Int × V)} {qs : List (List Int × Dt)}, DenQ K G kvs qs → (kvs.any fun q => decide (q.1 = k)) = qs.any fun q => decide (q.1 = k)
  | _, _, .nil => rfl
  | _, _, .cons _ h2 => by rw [List.any_cons, List.any_cons, h2.any k]
theorem DenQ.app {k : List Int} {v : V} {d : Dt} (hv : Den K G v d) : ∀ {kvs : List (List Int × V)} {qs : List (List Int × Dt)}, DenQ K G kvs qs → DenQ K G (kvs ++ [(k, v)]) (qs ++ [(k, d)])
  | _, _, .nil => .cons hv .nil
  | _, _, .cons h1 h2 => .cons h1 (h2.app hv)
theorem DenQ.repl {k : List Int} {v : V} {d : Dt} (hv : Den K G v d) : ∀ {kvs : List (List Int × V)} {qs : List (List Int × Dt)}, DenQ K G kvs qs → DenQ K G (kvs.map fun q => if q.1 = k then (q.1, v) else q) (qs.map fun q => if q.1 = k then (q.1, d) else q)
  | _, _, .nil => .nil
  | (j, _) :: _, _, .cons h1 h2 => by
    have ih := h2.repl (k := k) hv
    by_cases hj : j = k
    · simp only [List.map_cons, hj, if_true]
      exact .cons hv ih
    · simp only [List.map_cons, hj, if_false]
      exact .cons h1 ih
theorem DenQ.put {k : List Int} {v : V} {d : Dt} {kvs : List (List Int × V)} {qs : List (List Int × Dt)} (h : DenQ K G kvs qs) (hv : Den K G v d) : DenQ K G (putT kvs k v) (putT qs k d) := by
  unfold putT
  rw [h.any]
  split
  · exact h.repl hv
  · exact h.app hv
theorem DenQ.length : ∀ {kvs : List (List Int × V)} {qs : List (List Int × Dt)}, DenQ K G kvs qs → kvs.length = qs.length
  | _, _, .nil => rfl
  | _, _, .cons _ h2 => congrArg (· + 1) h2.length
theorem den_dT {v : V} {qs : List (List Int × Dt)} (h : Den K G v (dT qs)) : ∃ a kvs, v = .ref a ∧ Rd G a (.dT (keysT kvs)) ∧ DenQ K G kvs qs := by
  cases h with
  | dcT hs hp =>
    obtain ⟨kvs, rfl, hq⟩ := hp.toQ
    exact ⟨_, kvs, rfl, hs, hq⟩
/-- what is told as a tuple of ints may be a key -/
theorem den_key {v : V} {ns : List Int} (h : Den K G v (tupD ns)) : ∃ b, v = .ref b ∧ G b = some (.tup ((keyL ns).map kV)) := by
  cases h with
  | tup hs hd =>
    have := hd.ints
    subst this
    exact ⟨_, rfl, by rw [keyL_kV]; exact hs⟩
end
/-- a tuple that lies in the heap may be taken among the frozen things at any time -/
theorem Step.take [TabW] {b a : Addr} {m : Bool} {G H : Hp} {xs : List V} (e : Ex G H) (h : H a = some (.tup xs)) : Step b m G H (upd G a (.tup xs)) H := by
  refine ⟨fun x u q => ?_, fun x u q => ?_, fun x u h1 t h2 => ?_, fun _ _ _ _ h => h, fun _ o t h => ⟨o, t, h⟩, fun t => ⟨t.tab, fun x ps q => ?_⟩⟩
  · by_cases z : x = a
    · rw [z] at q ⊢
      rw [upd_same, ← h]
      exact e a u q
    · rw [upd_ne z]; exact q
  · by_cases z : x = a
    · rw [z, upd_same] at q
      rw [z, h]
      exact q
    · rw [upd_ne z] at q
      exact e x u q
  · by_cases z : x = a
    · rw [z, h] at h2
      exact absurd (Option.some.inj h2).symm (t.2 xs)
    · rw [upd_ne z]; exact h1
  · by_cases z : x = a
    · rw [z, upd_same] at q
      cases q
    · rw [upd_ne z] at q
      exact t.free x ps q
section
variable [TabW] {K : PySem.W.Frag} {ρ : Rho} {β β1 β2 : Bag} {td ty te : TE} {d x : Dt} {qs : List (List Int × Dt)} {ns : List Int} {i : Nat}
theorem t_dget (ha : EvB K td ρ β (dT qs) β1) (hb : EvB K ty ρ β1 (tupD ns) β2) (hg : getT qs ns = some d) : EvB K (tDGet td ty) ρ β d β2 := by
  refine ⟨hb.som.trans ha.som, fun b G H σ Q E k => ha.run b G H σ _ E fun v G1 H1 s1 k1 d1 => hb.run b G1 H1 σ _ (E.step s1 k1) fun y G2 H2 s2 k2 d2 => ?_⟩
  rw [ha.som] at s2
  obtain ⟨a, kvs, rfl, hs, hq⟩ := den_dT (d1.mono s2.g)
  obtain ⟨c, rfl, hc⟩ := den_key d2
  rcases hq.val ns with ⟨_, z⟩ | ⟨v, d', e1, e2, e3⟩
  · rw [hg] at z
    cases z
  · obtain rfl : d = d' := Option.some.inj (hg.symm.trans e2)
    refine ⟨a, v, rfl, ?_, k v G2 H2 (s1.trans s2) k2 e3⟩
    exact .inr ⟨keysT kvs, keyL ns, c, rd_ex s2.s hs, rfl, s2.s _ _ hc, by rw [keysT_val, e1]⟩
/-- an empty one of one's own -/
theorem en_dictT0 : EvN K tDNewT ρ β (dT []) β := ⟨rfl, fun b G H σ Q E k => fun p hp => evN_of (u := .dT []) E.bagk E.sub rfl hp (.dT (kvs := []) .nil) k⟩
/-- d[k] = x, of one's own -/
theorem sw_putT (h : EvW K i te ρ β (dT qs) x β1) (hk : EvW K i ty ρ β1 (dT qs) (tupD ns) β2) (hz : qs.length ≤ 1000) : StW K i (sDPut (tVar i) ty te) ρ β (dT qs) (.nx ρ) β2 (dT (putT qs ns x)) := by
  refine ⟨hk.som.trans h.som, fun b G0 H0 G H σ p D gn s w q => h.run b G H σ p _ w fun y G1 H1 s1 w1 d1 => ⟨_, w1.at_, hk.run b G1 H1 σ p _ w1 fun z G2 H2 s2 w2 d2 => ?_⟩⟩
  obtain ⟨c, rfl, hc⟩ := den_key d2
  obtain ⟨u, hp, hu⟩ := w2.val
  cases hu with
  | @dT kvs0 _ hd =>
    obtain ⟨kvs, rfl, hq⟩ := hd.toQ
    refine ⟨p, _, rfl, DPut.t (k := keyL ns) (v := y) hp (w2.env.sub _ _ hc) (by rw [List.length_map, hq.length]; exact sz_lt (by omega)), ?_⟩
    rw [keysT_put]
    rw [h.som] at s2
    exact q σ G2 _ (((s.trans s1).trans s2).mutM gn w2.free w2.mu) (w2.put (.dT (hq.put (d1.mono s2.g)).toT))
end
end TD
set_option Elab.async false
set_option linter.all false
set_option maxRecDepth 100000
set_option maxHeartbeats 4100000
namespace TD
open PySem L2 PySem.Spec PyProof.Rows
open Evl (Ex ex_l ex_t fresh_back sq_of st_of sz_of sz_lt)
abbrev dI (qs : List (Int × Dt)) : Dt := dctD (qs.map fun q => (PyData.int q.1, q.2))
def getI {α : Type} (qs : List (Int × α)) (i : Int) : Option α := (qs.find? fun q => decide (q.1 = i)).map (·.2)
def putI {α : Type} (qs : List (Int × α)) (i : Int) (v : α) : List (Int × α) := if (qs.any fun q => decide (q.1 = i)) = true then qs.map (fun q => if q.1 = i then (q.1, v) else q) else qs ++ [(i, v)]
section
variable {K : PySem.W.Frag} {G : Hp}
theorem inl_dec (a b : Int) : decide ((Sum.inl a : Key) = Sum.inl b) = decide (a = b) := by
  by_cases h : a = b
  · subst h; rw [decide_eq_true rfl, decide_eq_true rfl]
  · rw [decide_eq_false h, decide_eq_false fun z => h (Sum.inl.inj z)]
theorem keys_val (i : Int) : ∀ kvs : List (Int × V), valV (keysO kvs) (Sum.inl i) = getI kvs i
  | [] => rfl
  | q :: kvs => by
    unfold valV getI
    show ((((Sum.inl q.1 : Key), q.2) :: keysO kvs).find? _).map _ = _
    rw [List.find?_cons, List.find?_cons]
    show Option.map _ (match decide ((Sum.inl q.1 : Key) = Sum.inl i) with | true => some ((Sum.inl q.1 : Key), q.2) | false => (keysO kvs).find? _) = _
    rw [inl_dec]
    by_cases h : q.1 = i
    · rw [decide_eq_true h]; rfl
    · rw [decide_eq_false h]
      exact keys_val i kvs
theorem keys_any (i : Int) : ∀ kvs : List (Int × V), ((keysO kvs).any fun kv => decide (kv.1 = Sum.inl i)) = kvs.any fun q => decide (q.1 = i)
  | [] => rfl
  | q :: kvs => by
    show (decide ((Sum.inl q.1 : Key) = Sum.inl i) || (keysO kvs).any _) = (decide (q.1 = i) || kvs.any _)
    rw [inl_dec, keys_any i kvs]
theorem keys_repl (i : Int) (v : V) : ∀ kvs : List (Int × V), (keysO kvs).map (fun kv => if kv.1 = Sum.inl i then (kv.1, v) else kv) = keysO (kvs.map fun q => if q.1 = i then (q.1, v) else q)
  | [] => rfl
  | q :: kvs => by
    show (if (Sum.inl q.1 : Key) = Sum.inl i then ((Sum.inl q.1 : Key), v) else ((Sum.inl q.1 : Key), q.2)) :: (keysO kvs).map _ = ((Sum.inl (if q.1 = i then (q.1, v) else q).1 : Key), (if q.1 = i then (q.1, v) else q).2) :: keysO _
    rw [keys_repl i v kvs]
    by_cases h : q.1 = i
    · rw [if_pos (by rw [h]), if_pos h]
    · rw [if_neg (fun z => h (Sum.inl.inj z)), if_neg h]
theorem keys_put (kvs : List (Int × V)) (i : Int) (v : V) : putK (keysO kvs) (Sum.inl i) v = keysO (putI kvs i v) := by
  unfold putK putI
  rw [keys_any]
  split
  · exact keys_repl i v kvs
  · show keysO kvs ++ [(Sum.inl i, v)] = keysO (kvs ++ [(i, v)])
    unfold keysO
    rw [List.map_append]
    rfl
abbrev DenI (K : PySem.W.Frag) (G : Hp) (kvs : List (Int × V)) (qs : List (Int × Dt)) : Prop := DenP K G kvs (qs.map fun q => (PyData.int q.1, q.2))
theorem DenI.cases {k : Int × V} {kvs : List (Int × V)} {q : Int × Dt} {qs : List (Int × Dt)} (h : DenI K G (k :: kvs) (q :: qs)) : k.1 = q.1 ∧ Den K G k.2 q.2 ∧ DenI K G kvs qs := by
  cases h with
  | cons h1 h2 => exact ⟨rfl, h1, h2⟩
theorem DenI.keys : ∀ {kvs : List (Int × V)} {qs : List (Int × Dt)}, DenI K G kvs qs → kvs.map (·.1) = qs.map (·.1)
  | [], [], _ => rfl
  | [], _ :: _, h => nomatch h
  | _ :: _, [], h => nomatch h
  | k :: kvs, q :: qs, h => by
    obtain ⟨e, _, h2⟩ := h.cases
    rw [List.map_cons, List.map_cons, e, DenI.keys h2]
theorem DenI.val (i : Int) : ∀ {kvs : List (Int × V)} {qs : List (Int × Dt)}, DenI K G kvs qs → (getI kvs i = none ∧ getI qs i = none) ∨ ∃ v d, getI kvs i = some v ∧ getI qs i = some d ∧ Den K G v d
  | [], [], _ => .inl ⟨rfl, rfl⟩
  | [], _ :: _, h => nomatch h
  | _ :: _, [], h => nomatch h
  | (j, v) :: kvs, (j', d) :: qs, h => by
    obtain ⟨e, h1, h2⟩ := h.cases
    have e : j = j' := e
    subst e
    by_cases hj : j = i
    · refine .inr ⟨v, d, ?_, ?_, h1⟩ <;> simp [getI, List.find?_cons, hj]
    · have := DenI.val i h2
      simpa [getI, List.find?_cons, hj] using this
theorem DenI.app : ∀ {kvs : List (Int × V)} {qs : List (Int × Dt)} {i : Int} {v : V} {d : Dt}, DenI K G kvs qs → Den K G v d → DenI K G (kvs ++ [(i, v)]) (qs ++ [(i, d)])
  | [], [], _, _, _, _, hv => .cons hv .nil
  | [], _ :: _, _, _, _, h, _ => nomatch h
  | _ :: _, [], _, _, _, h, _ => nomatch h
  | (j, w) :: kvs, (j', e) :: qs, i, v, d, h, hv => by
    obtain ⟨e1, h1, h2⟩ := h.cases
    have e1 : j = j' := e1
    subst e1
    exact .cons h1 (DenI.app h2 hv)
theorem DenI.repl {i : Int} {v : V} {d : Dt} (hv : Den K G v d) : ∀ {kvs : List (Int × V)} {qs : List (Int × Dt)}, DenI K G kvs qs → DenI K G (kvs.map fun q => if q.1 = i then (q.1, v) else q) (qs.map fun q => if q.1 = i then (q.1, d) else q)
  | [], [], _ => .nil
  | [], _ :: _, h => nomatch h
  | _ :: _, [], h => nomatch h
  | (j, w) :: kvs, (j', e) :: qs, h => by
    obtain ⟨e1, h1, h2⟩ := h.cases
    have e1 : j = j' := e1
    subst e1
    have ih := DenI.repl (i := i) hv h2
    by_cases hj : j = i
    · simp only [List.map_cons, hj, if_true]
      exact .cons hv ih
    · simp only [List.map_cons, hj, if_false]
      exact .cons h1 ih
theorem any_keys {kvs : List (Int × V)} {qs : List (Int × Dt)} (h : kvs.map (·.1) = qs.map (·.1)) (i : Int) : (kvs.any fun q => decide (q.1 = i)) = qs.any fun q => decide (q.1 = i) := by
  have e : ∀ {α : Type} (l : List (Int × α)), (l.any fun q => decide (q.1 = i)) = (l.map (·.1)).any fun k => decide (k = i) := fun l => by
    rw [List.any_map]
    rfl
  rw [e, e, h]
theorem DenI.put {kvs : List (Int × V)} {qs : List (Int × Dt)} {i : Int} {v : V} {d : Dt} (h : DenI K G kvs qs) (hv : Den K G v d) : DenI K G (putI kvs i v) (putI qs i d) := by
  unfold putI
  rw [any_keys h.keys]
  split
  · exact h.repl hv
  · exact h.app hv
theorem DenI.length {kvs : List (Int × V)} {qs : List (Int × Dt)} (h : DenI K G kvs qs) : kvs.length = qs.length := by
  have := congrArg List.length h.keys
  rwa [List.length_map, List.length_map] at this
end
theorem unitsD {k : Nat} {A : Around} (r : Room k A) : A.units + 1 < cLine := by have := r.un; omega
section
variable [TabW] {K : PySem.W.Frag} {b : Addr} {ρ : Rho} {β β1 β2 : Bag} {td ty te : TE} {d x : Dt} {qs : List (Int × Dt)} {i : Int} {G H : Hp}
/-- a dict that is told, as it lies -/
theorem den_dI {v : V} (h : Den K G v (dI qs)) : ∃ a kvs, v = .ref a ∧ Rd G a (.dK (keysO kvs)) ∧ DenI K G kvs qs := by
  cases h with
  | dcI hs hp => exact ⟨_, _, rfl, hs, hp⟩
/-- d[i] = x -/
theorem sw_putD {j : Nat} (h : EvW K j te ρ β (dI qs) x β1) (hk : EvW K j ty ρ β1 (dI qs) (.int i) β2) (hz : qs.length ≤ 1000) : StW K j (sDPut (tVar j) ty te) ρ β (dI qs) (.nx ρ) β2 (dI (putI qs i x)) := by
  refine ⟨hk.som.trans h.som, fun b G0 H0 G H σ p D gn s w q => ?_⟩
  refine h.run b G H σ p _ w fun y G1 H1 s1 w1 d1 => ?_
  refine ⟨_, w1.at_, ?_⟩
  refine hk.run b G1 H1 σ p _ w1 fun z G2 H2 s2 w2 d2 => ?_
  cases d2
  obtain ⟨u, hp, hu⟩ := w2.val
  cases hu with
  | @dct kvs _ hd =>
    have hd : DenI K G2 kvs qs := hd
    refine ⟨p, _, rfl, DPut.k (k := Sum.inl i) (v := y) hp (by rw [List.length_map, hd.length]; exact sz_lt (by omega)), ?_⟩
    rw [keys_put]
    rw [h.som] at s2
    exact q σ G2 _ (((s.trans s1).trans s2).mutM gn w2.free w2.mu) (w2.put (.dct (hd.put (d1.mono s2.g))))
end
def rngC (lo c : Int) (n : Nat) : List Dt := (List.range n).map fun (i : Nat) => PyData.int (lo + (i : Int) * c)
theorem rngC_length (lo c : Int) (n : Nat) : (rngC lo c n).length = n := by unfold rngC; rw [List.length_map, List.length_range]
theorem rngC_drop {lo c : Int} {n i : Nat} (h : i < n) : (rngC lo c n).drop i = .int (lo + (i : Int) * c) :: (rngC lo c n).drop (i + 1) := by
  have hl : i < (rngC lo c n).length := by rw [rngC_length]; exact h
  have e : (rngC lo c n)[i]'hl = .int (lo + (i : Int) * c) := by simp [rngC]
  rw [List.drop_eq_getElem_cons (hl), e]
theorem for_rangeC {lo c : Int} {n : Nat} {g : TG} {tb : TS} {D : Ends} {σ : L2.St} {H : Hp} (Pv : Nat → L2.St → Hp → Prop) (h0 : Pv 0 σ H)
    (hs : ∀ i σ H, i < n → Pv i σ H → g (.int (lo + (i : Nat) * c)) σ H fun σ2 H2 => tb { D with nx := Pv (i + 1), ct := Pv (i + 1), bk := D.nx } σ2 H2) (hd : ∀ σ H, Pv n σ H → D.nx σ H) : ∃ W : Nat → Nat → L2.St → Hp → Prop, (∃ m, W 0 m σ H) ∧ ∀ i m σ H, W i m σ H →
      ((Itc lo c n).stop i H ∧ D.nx σ H) ∨ ((Itc lo c n).go i H ∧ ∃ N : L2.St → Hp → Prop, (∀ σ' H', N σ' H' → ∃ m', m' < m ∧ W (i + 1) m' σ' H') ∧ ∀ x H', (Itc lo c n).yld i H x H' → g x σ H' fun σ2 H2 => tb { D with nx := N, ct := N, bk := D.nx } σ2 H2) :=
  for_it walk_rangeC Pv h0 (fun _ _ _ _ _ => trivial) (fun i _ σ _ _ lt p y => by rw [y.1, y.2]; exact hs i σ _ lt p) hd
section
variable [TabW] {K : PySem.W.Frag} {b : Addr} {ρ : Rho} {β β1 β2 β3 : Bag} {ta tb te td tl : TE} {tu tw : TS} {d d1 d2 x y : Dt} {ds es : List Dt} {o : Out} {i j : Nat} {qs : List (Int × Dt)} {ms : List Int}
/-- over range(lo, stop, -1) -/
theorem sw_forDown {lo hi : Int} (hij : i ≠ j) (h1 : EvW K i ta ρ β d (.int lo) β) (h2 : EvW K i tb ρ β d (.int hi) β) (h3 : EvW K i te ρ β d (.int (-1)) β) (hb : -(2 ^ 62) ≤ lo ∧ lo < 2 ^ 62 ∧ -(2 ^ 62) ≤ hi ∧ hi < 2 ^ 62) (h : ForW K i j tu (rngC lo (-1) (lo - hi).toNat) ρ β d o β2 d2) :
    StW K i (tFor (iRng3 (tCons ta (tCons tb (tCons te tNil)))) (gName j) tu) ρ β d o β2 d2 := by
  refine ⟨h.som, fun b G0 H0 G H σ p D gn s w k => ?_⟩
  refine h1.run b G H σ p _ w fun v1 G1 H1 s1 w1 d1 => ?_
  refine h2.run b G1 H1 σ p _ w1 fun v2 G2 H2 s2 w2 d2 => ?_
  refine h3.run b G2 H2 σ p _ w2 fun v3 G3 H3 s3 w3 d3 => ?_
  cases d1
  cases d2
  cases d3
  have s03 := ((s.trans s1).trans s2).trans s3
  refine ⟨lo, hi, -1, (lo - hi).toNat, rfl, RgC.neg hb.1 hb.2.1 hb.2.2.1 hb.2.2.2, ?_⟩
  refine for_rangeC (lo := lo) (c := -1) (n := (lo - hi).toNat) (fun m σ' H' => ∃ G' ρ' β' d', Step b β.isSome G0 H0 G' H' ∧ β'.isSome = β.isSome ∧ OwnW K b β' i p G' H' σ' ρ' d' ∧ ForW K i j tu ((rngC lo (-1) (lo - hi).toNat).drop m) ρ' β' d' o β2 d2) ?_ ?_ ?_
  · exact ⟨G3, ρ, β, d, s03, rfl, w3, h⟩
  · rintro m σ' H' hm ⟨G', ρ', β', d', s', m', w', r'⟩
    rw [rngC_drop hm] at r'
    exact forW_turn m'.symm hij r' w' (.int _) gn s' k fun σ2 G2 H2 ρ2 β2' d2' s2 m2 w2 r2 => ⟨G2, ρ2, β2', d2', s2, m2, w2, r2⟩
  · rintro σ' H' ⟨G', ρ', β', d', s', m', w', r'⟩
    have e : (rngC lo (-1) (lo - hi).toNat).drop (lo - hi).toNat = [] := by rw [List.drop_eq_nil_iff, rngC_length]; exact Nat.le_refl _
    rw [e] at r'
    cases r'
    exact k σ' G' H' s' w'
theorem d_notInI {n : Int} {ns : List Int} (hx : EvB K ta ρ β (.int n) β1) (hy : EvB K tb ρ β1 y β2) (hs : SeqD y (ns.map .int)) : EvB K (tOp (rIn K true) ta tb) ρ β (.bool (!decide (n ∈ ns))) β2 :=
  d_op hx hy fun b G H v w Q e h1 h2 k => by
    cases h1
    obtain ⟨p, ys, rfl, hq, hd⟩ := h2.seq hs e
    have := hd.ints
    subst this
    exact ⟨p, _, rfl, hq, rfl, ints_flat ns, by rw [if_pos rfl, inV_ints]; exact k _ G H (Step.refl e) (.bl _)⟩
end
end TD
set_option Elab.async false
set_option linter.all false
set_option maxRecDepth 100000
set_option maxHeartbeats 3000300
namespace TD
open PySem L2 PySem.Spec PyProof.Rows
open Evl (Ex ex_l ex_t fresh_back sq_of st_of sz_of sz_lt)
end TD
set_option Elab.async false
set_option linter.all false
set_option maxRecDepth 100000
set_option maxHeartbeats 3000000
namespace TD
open PySem L2 PySem.Spec PyProof.Rows
open Evl (Ex ex_l ex_t fresh_back sq_of st_of sz_of sz_lt)
/-- where an enumeration of the tuple at a stands -/
structure EnSt (a e it : Addr) (i : Nat) (h : Heap) : Prop where
  en : ∃ old, IsEnum h e it ((i : Nat) : Int) old
  at_ : h.IsTupleIter it a i
  two : e ≠ it
  off : a ≠ it
theorem mem_two {e it b : Addr} (hb : b ∈ [e, it]) : b = e ∨ b = it := (List.mem_cons.mp hb).imp_right List.mem_singleton.mp
theorem EnSt.lt {a e it b : Addr} {i : Nat} {h : Heap} (st : EnSt a e it i h) (hb : b ∈ [e, it]) : b < h.objs.size := by
  rcases mem_two hb with rfl | rfl
  · exact st.en.elim fun _ he => Heap.lt_size he
  · exact st.at_.elim fun _ ho => Heap.lt_size ho.1
/-- the turns of a for over pairs of a place and an item -/
inductive ForE [TabW] (K : PySem.W.Frag) (i j : Nat) (tu : TS) : Nat → List Dt → Rho → Bag → Out → Bag → Prop
  | nil (k : Nat) (ρ : Rho) (β : Bag) : ForE K i j tu k [] ρ β (.nx ρ) β
  | nx {k : Nat} {d : Dt} {ds : List Dt} {ρ ρ1 : Rho} {β β1 β2 : Bag} {o : Out} : StB K tu ((ρ.set i (some (Slot.imm (.int (k : Nat))))).set j (some (Slot.imm d))) β (.nx ρ1) β1 → ForE K i j tu (k + 1) ds ρ1 β1 o β2 → ForE K i j tu k (d :: ds) ρ β o β2
section
variable [TabW] {K : PySem.W.Frag} {b : Addr} {ρ : Rho} {β β1 β2 : Bag} {tl : TE} {tu : TS} {o : Out} {ds : List Dt}
theorem ForE.som {i j k : Nat} (h : ForE K i j tu k ds ρ β o β2) : β2.isSome = β.isSome := by
  induction h with
  | nil => rfl
  | nx h _ ih => exact ih.trans h.som
end
end TD
set_option Elab.async false
set_option linter.all false
set_option maxRecDepth 100000
set_option maxHeartbeats 4000100
namespace TDS
open TS PySem PyProof.Rows
section
variable {prog : Program} {w : World} {s : Shared} {A : Around} {E : Value → Shared → Prop}
/-- the rank of a tuple, for a strict order of values -/
def rkS (h : Heap) (S B : Int) (v : Value) : Int := cd S B (intsOf h v)
theorem swo_rank (r : Value → Int) : SrtO.Swo fun v u => decide (r v < r u) := by
  constructor
  · intro x y h
    have h := of_decide_eq_true h
    (exact decide_eq_false (by omega))
  · intro x y z h1 h2
    have h1 := of_decide_eq_false h1
    have h2 := of_decide_eq_false h2
    (exact decide_eq_false (by omega))
theorem cmp_tups {vs : List Value} {d : Nat} {S B : Int} {r : Value → Int} (x : OkS s.heap d S B vs) (hr : ∀ v ∈ vs, ∀ ns, TupInts s.heap v ns → r v = cd S B ns) :
    SrtO.Cmp prog w A s (tuples' true) (fun p => p.1 ∈ vs) (SrtO.lt2 fun v u => decide (r v < r u)) := by
  intro p q hp hq
  show wpAny (model prog w) A (keyLt' (tuples' true) p.1 q.1) (fun c s' => s' = s ∧ c = decide (r p.1 < r q.1)) (fun _ _ => False) s
  obtain ⟨ns, tp, lp, bp⟩ := x _ hp
  obtain ⟨ms, tq, lq, bq⟩ := x _ hq
  rw [hr _ hp ns tp, hr _ hq ms tq]
  obtain ⟨a, xs, e1, ⟨o, ho, _, n, hdt⟩, i⟩ := tp
  obtain ⟨a', ys, e2, ⟨o', ho', _, n', hdt'⟩, i'⟩ := tq
  have l1 := i.length
  have l2 := i'.length
  (rw [Array.length_toList] at l1 l2)
  have sz : decide (xs.size < ys.size) = false := decide_eq_false (by omega)
  rw [e1, e2]
  exact PySem.W.kat_lt ho hdt ho' hdt' (by rw [sz]; exact lexS (Q := fun c s' => s' = s ∧ c = decide (cd S B ns < cd S B ms)) 0 i i' (by omega) bp bq ⟨rfl, rfl⟩)
theorem tups_sortable {a : Addr} {vs : List Value} {n d : Nat} {S B : Int} (ho : s.heap.get? a = some (seqObj "list" vs.toArray n)) (hd : 1 ≤ d) (h2 : 2 ≤ vs.length) (x : OkS s.heap d S B vs) :
    SrtO.SortableO prog w A s a vs fun v u => decide (rkS s.heap S B v < rkS s.heap S B u) := by
  intro h' keep
  have k : ∀ b o, s.heap.get? b = some o → o.cls = .type "tuple" → h'.get? b = some o := fun b o e c => keep b o (fun z => by
    rw [z, ho] at e
    cases e
    exact absurd c (by show ¬ Value.type "list" = Value.type "tuple"; decide)) e
  have x' := x.keeps k
  have hr : ∀ v ∈ vs, ∀ ns, TupInts h' v ns → rkS s.heap S B v = cd S B ns := fun v hv ns t => by
    obtain ⟨ms, t0, _⟩ := x v hv
    have e := t.ints.symm.trans (t0.keeps k).ints
    show cd S B (intsOf s.heap v) = _
    rw [t0.ints, e]
  refine ⟨tuples' true, fun Q E hq => ?_, cmp_tups (s := { s with heap := h' }) x' hr⟩
  obtain ⟨fs, f1, f2, f3⟩ := firstsS hd vs x'
  refine PySem.W.kat_kind (s := { s with heap := h' }) (T := Value.type "int") f1 (by omega) (fun f hf => ?_) rfl ?_
  · obtain ⟨i, t, e⟩ := f3 f hf
    rw [e]
    (exact PySem.W.Looks.of_pure rfl)
  · have e : (Value.type "int" != Value.type "tuple") = true := by decide +kernel
    rw [e]
    exact hq
/-- xs.sort() of tuples of ints, however many -/
theorem sortT {a : Addr} {vs : List Value} {n d : Nat} {S B : Int} {Q : Value → Shared → Prop} (ho : s.heap.get? a = some (seqObj "list" vs.toArray n)) (hz : vs.length ≤ sizeLine) (hd : 1 ≤ d) (x : OkS s.heap d S B vs)
    (h : ∀ out : List Value, out.Perm vs → out.Pairwise (fun u v => rkS s.heap S B u ≤ rkS s.heap S B v) → Q .none { s with heap := sortedHeap s.heap a vs out.toArray }) : wpAny (model prog w) A (call (.builtin "list.sort") [.ref a]) Q E s := by
  refine wpAny_call_entry slot_list_sort ⟨_, ho, rfl⟩ entry_list_sort (SrtO.list_sort_ord (swo_rank (rkS s.heap S B)) ho hz (fun h2 => tups_sortable ho hd h2 x) fun out h1 h2 => ⟨_, rfl, ?_⟩) (args_list_sort _)
  exact h out h2.perm (h1.imp fun {u v} q => Int.not_lt.mp (of_decide_eq_false q))
end
end TDS
namespace TD
open PySem L2 PySem.Spec PyProof.Rows
open Evl (Ex ex_l ex_t fresh_back sq_of st_of sz_of sz_lt)
/-- d a dict from tuples of dd ints each, at least -S and below B - S -/
def rSortedDT (dd : Nat) (S B : Int) : List V → Hp → VK → Prop := fun vs H Q => ∃ (a : Addr) (kvs : List (List Int × V)), vs = [V.ref a] ∧ Rd H a (.dT (keysT kvs)) ∧ (∀ q ∈ kvs, q.1.length = dd ∧ TS.Bd B (TDS.shI S q.1)) ∧
  ∀ (L : List (Addr × List Int)) (p : Addr), (L.map (·.2)).Perm (kvs.map (·.1)) → (∀ q ∈ L, H q.1 = some (.tup (q.2.map V.int))) → L.Pairwise (fun q r => TDS.cd S B q.2 ≤ TDS.cd S B r.2) → H p = none → Q (.ref p) (upd H p (.lst (L.map fun q => V.ref q.1)))
/-- the addresses of the keys beside what they hold -/
theorem keysT_zip {H : Hp} : ∀ {kvs : List (List Int × V)} {xs : List (List Key × Addr × Value)}, KT H (keysT kvs) xs → ∃ L0 : List (Addr × List Int), xs.map (fun x => x.2.1) = L0.map (·.1) ∧ L0.map (·.2) = kvs.map (·.1) ∧ ∀ q ∈ L0, H q.1 = some (.tup (q.2.map V.int))
  | [], xs, h => by
    have h : KT H [] xs := h
    cases h
    exact ⟨[], rfl, rfl, fun q hq => nomatch hq⟩
  | q :: kvs, xs, h => by
    have h : KT H ((keyL q.1, q.2) :: keysT kvs) xs := h
    cases h with
    | @cons _ x _ xs' h1 h2 =>
      obtain ⟨L0, e1, e2, e3⟩ := keysT_zip h2
      refine ⟨(x.2.1, q.1) :: L0, by rw [List.map_cons, List.map_cons, e1], by rw [List.map_cons, List.map_cons, e2], fun r hr => ?_⟩
      (rcases List.mem_cons.mp hr with z | z)
      · rw [z]
        have := h1.2.1
        rw [show (keyL q.1, q.2).1 = keyL q.1 from rfl, keyL_kV] at this
        exact this
      · exact e3 r z
theorem cr_sortedDT {X : Cx} (calm : X.calm = true) {dd : Nat} {S B : Int} (hd1 : 1 ≤ dd) : CallR X (.builtin "sorted") (rSortedDT dd S B) := by
  rintro pins s σ H vs us Q I r ⟨a, kvs, rfl, at_, hb, q⟩
  rw [Vals.ref1 r]
  obtain ⟨few, lo, xs, pr, o, es, ep, ho, hx, hdt, he, hn⟩ := (show ObjOk X.prog X.w H s.heap a (.dT (keysT kvs)) from at_.ok I.hok)
  have l1 : es.size = xs.length := size_of_entries he
  have l2 : (keysT kvs).length = xs.length := Paired.length pr
  obtain ⟨L0, z1, z2, z3⟩ := keysT_zip pr
  have l3 : L0.length = xs.length := by simpa using (congrArg List.length z1).symm
  refine Calls.call_function_entry kind_sorted plain_sorted entry_sorted (args_sorted1 _) (show wpAny _ _ (Builtin.«sorted» _) _ _ _ from ?_)
  unfold Builtin.«sorted»
  refine wpAny_bind (m := checkCount "sorted" 1 1 _) (wpAny_pure (wpAny_bind (PySem.W.kdu_collect (A := X.A.in1) (kdl_raw lo hx hdt) (I.ok.hd calm) ho (by omega) fun g tk acc same got => ?_)))
  -- what was gathered: the keys' addresses, in order
  have ga : acc.toList = L0.map fun q => Value.ref q.1 := by
    have e0 : (L0.map fun q => Value.ref q.1) = xs.map fun x => Value.ref x.2.1 := by
      rw [show (L0.map fun q => Value.ref q.1) = (L0.map (·.1)).map Value.ref by rw [List.map_map] <;> rfl, ← z1, List.map_map] <;> rfl
    rw [e0]
    have hl : acc.toList.length = xs.length := by rw [Array.length_toList, got.1, l1]
    (refine List.ext_getElem? fun j => ?_)
    rw [List.getElem?_map]
    by_cases hj : j < xs.length
    · obtain ⟨en, hen, hv⟩ := got.2 j (acc.toList[j]'(by omega)) (by rw [← Array.getElem?_toList]; exact List.getElem?_eq_getElem _)
      have qe := entry_at he j
      rw [hen, List.getElem?_eq_getElem hj] at qe
      rw [List.getElem?_eq_getElem (by omega), List.getElem?_eq_getElem hj, hv, Option.some.inj qe]
      rfl
    · rw [List.getElem?_eq_none (by omega), List.getElem?_eq_none (by omega)]
      rfl
  have size : acc.toList.length ≤ sizeLine := by rw [ga, List.length_map]; omega
  have tk0 : ∀ q ∈ L0, TS.TupInts s.heap (.ref q.1) q.2 := fun q hq => tupI_raw I (st_of (z3 q hq))
  have old : ∀ b u, s.heap.get? b = some u → (g.push (seqObj "list" acc.toList.toArray 0)).get? b = some u := fun b u e => Heap.get?_push_of_some _ (same b u e)
  have lies : (g.push (seqObj "list" acc.toList.toArray 0)).get? g.objs.size = some (seqObj "list" acc.toList.toArray 0) := Heap.get?_push_size _ rfl
  have tk1 : ∀ q ∈ L0, TS.TupInts (g.push (seqObj "list" acc.toList.toArray 0)) (.ref q.1) q.2 := fun q hq => (tk0 q hq).keeps fun b u e _ => old b u e
  have x : TDS.OkS (g.push (seqObj "list" acc.toList.toArray 0)) dd S B acc.toList := fun v hv => by
    rw [ga] at hv
    obtain ⟨q, hq, rfl⟩ := List.mem_map.mp hv
    have hk : q.2 ∈ kvs.map (·.1) := by rw [← z2]; exact List.mem_map_of_mem hq
    obtain ⟨y, hy, e⟩ := List.mem_map.mp hk
    have hb := hb y hy
    rw [e] at hb
    exact ⟨q.2, tk1 q hq, hb.1, hb.2⟩
  refine wpAny_bind (wpAny_newList (show wpAny _ _ _ _ _ { s with heap := g.push (seqObj "list" acc.toList.toArray 0), toks := tk } from ?_) size)
  refine wpAny_bind (wpAny_holding (TDS.sortT (s := { s with heap := g.push (seqObj "list" acc.toList.toArray 0), toks := tk }) lies size hd1 x fun out a1 a2 => ?_))
  obtain ⟨c, hc⟩ := sortedHeap_at (vs := acc.toList) (out := out.toArray) lies
  obtain ⟨L, pL, eL⟩ := TDS.perm_map (ga ▸ a1) L0 rfl
  have I1 : Inv X pins σ H { s with heap := g, toks := tk } := I.kept (t' := tk) same
  refine wpAny_pure ⟨_, rfl, .ref g.objs.size, upd H g.objs.size (.lst (L.map fun q => V.ref q.1)), I1.laid (t' := tk) (fun b u e => ?_) (Nat.le_refl _) ?_, rfl, q L _ ?_ (fun q hq => z3 q (pL.mem_iff.mp hq)) ?_ (I1.hok.fresh (Nat.le_refl _))⟩
  · have lt := Heap.lt_size e
    rw [sortedHeap_old (Nat.ne_of_lt lt) (by rw [size_push']; exact Nat.lt_succ_of_lt lt)]
    (exact Heap.get?_push_of_some _ e)
  · exact ⟨by rw [List.length_map, pL.length_eq]; omega, out, c, by rw [eL]; exact vals_of_refs L, hc⟩
  · rw [← z2]
    exact pL.map (·.2)
  · rw [eL, List.pairwise_map] at a2
    refine a2.imp_of_mem fun {q r} hq hr hle => ?_
    have e1 := (tk1 q (pL.mem_iff.mp hq)).ints
    have e2 := (tk1 r (pL.mem_iff.mp hr)).ints
    unfold TDS.rkS at hle
    rwa [e1, e2] at hle
end TD
namespace TD
open PySem L2 PySem.Spec PyProof.Rows
open Evl (Ex ex_l ex_t fresh_back sq_of st_of sz_of sz_lt)
section
variable {X : Cx} {pins : List (Addr × Obj)} {σ : L2.St} {H H' : Hp} {s : Shared} {a : Addr} {y v : V} {u r : Value} {A : Around} {E : Value → Shared → Prop}
/-- a pair laid by a comprehension, whatever the kind of its key -/
theorem dict_laid {Q : Unit → Shared → Prop} (hu : A.units < cLine) (I : Inv X pins σ H s) (g : DPut H a y v H') (ry : RelV y u) (rv : RelV v r) (h : ∀ s', Inv X pins σ H' s' → Q () s') : wpAny (model X.prog X.w) A (dictSet a u r) Q E s := by
  obtain ⟨kvs, k, e, rfl, few, rfl⟩ | ⟨kvs, k, c, e, rfl, ec, few, rfl⟩ := g
  · obtain ⟨z, lo, told, rel, dd⟩ := dk_of I.hok e
    have l1 := rel.length
    have l2 := length_putK kvs k v
    refine wpAny_dictSet_pairs (hsz := by omega) (kV_is ry) dd fun h' dd' only => h _ (d_write I (by rw [e]; exact True.intro) only ?_ (dk_new (by omega) lo (rel.put k rv) dd'))
    obtain ⟨o, _, _, ho, _⟩ := dd'
    exact ⟨o, ho⟩
  · obtain rfl : u = Value.ref c := ry
    obtain ⟨z, lo, told, rel, dd⟩ := dt_of I.hok e
    have l1 := Paired.length rel
    have l2 := length_putK kvs k v
    refine wpAny_dictSet_heap (hsz := by omega) hu (key_of I.hok ec) dd fun h' dd' only => h _ ?_
    obtain ⟨o, es, ep, ho, hx, hdt, hes, _, hn⟩ := dd'
    have stay : ∀ b ys, H b = some (.tup ys) → upd H a (.dT (putK kvs k v)) b = some (.tup ys) := fun b ys eb => by
      rw [upd_ne (ne_of eb e (fun q => nomatch q))]
      exact eb
    exact d_write I (by rw [e]; exact True.intro) only ⟨o, ho⟩ ⟨by omega, lo, _, (rel.put k ec rv).keeps stay, o, es, ep, ho, hx, hdt, hes, hn⟩
end
end TD
namespace TD
open PySem L2 PySem.Spec PyProof.Rows
open Evl (Ex ex_l ex_t fresh_back sq_of st_of sz_of sz_lt)
/-- {k: v for target in iter if ..}: D the new dict, o0 what it is while it is empty -/
def tDcP (o0 : HO) (wi : TI) (g : TG) (tt : TT) (tk tv : TE) (vs : List Nat) : TE := fun σ H Q => wi σ H fun J H1 => ∀ D, H1 D = none → ∃ W : Nat → Nat → Hp → Prop, (∃ m, W 0 m (upd H1 D o0)) ∧ ∀ i m H, W i m H →
  (J.stop i H ∧ Q (.ref D) H) ∨ (J.go i H ∧ ∃ N : Hp → Prop, (∀ H', N H' → ∃ m', m' < m ∧ W (i + 1) m' H') ∧ ∀ x H', J.yld i H x H' → g x (wipe σ vs) H' fun σ2 H2 => wipe σ2 vs = wipe σ vs ∧ tt σ2 H2 fun c H3 =>
    if c = true then tk σ2 H3 fun y H4 => tv σ2 H4 fun z H5 => ∃ H6, DPut H5 D y z H6 ∧ N H6 else N H3)
/-- what may lie as an empty dict -/
def EmptyD (o0 : HO) : Prop := o0 = .dK [] ∨ o0 = .dT []
section
variable {X Y : Cx} {tg : Expr} {J : It} {fp : List Addr} {it C : Addr} {tn : Nat → Heap → Prop} {τ υ : L2.St} {i : Nat} {H H0 : Hp} {s s0 : Shared} {pins : List (Addr × Obj)} {σ : L2.St} {ce : Env} {scope : Scope}
/-- Y stands between two turns: i of them are done, the walk's own things lie apart -/
structure Betw (Y : Cx) (fp : List Addr) (tn : Nat → Heap → Prop) (τ : L2.St) (i : Nat) (H : Hp) (s : Shared) : Prop where
  inv : Inv Y [] τ H s
  far : tn i s.heap
  apart : ∀ b ∈ fp, H b = none
/-- the things that the walk moves are Y's own extra ones, and Y pins nothing -/
structure Walker (Y : Cx) (fp : List Addr) : Prop where
  own : Y.ex = fp
  free : Y.pn = []
  calm : Y.calm = true
theorem Betw.may (k : Betw Y fp tn τ i H s) (w : Walker Y fp) {b : Addr} (hb : b ∈ fp) : FpOk Y [] H b := by
  have mine : b ∈ Y.ex := w.own.symm ▸ hb
  have away := k.inv.ok.exf b mine
  unfold FpOk
  rw [w.free]
  exact ⟨k.apart b hb, away.1, k.inv.ok.exfs b mine, Or.inl mine, away.2, fun p q => nomatch q⟩
/-- nothing is left to walk -/
theorem Betw.over {E : Value → Shared → Prop} (k : Betw Y fp tn τ i H s) (w : Walker Y fp) (T : Turn Y.prog Y.w Y.K tg J fp it tn) (e : J.stop i H) :
    wpAny (model Y.prog Y.w) Y.A (pyNext (.ref it)) (fun r s1 => r = none ∧ Inv Y [] τ H s1) E s :=
  T.done Y rfl rfl rfl w.calm i [] s τ H E k.inv (fun _ hb => k.may w hb) k.far e
/-- within a turn: the walk's own things are pinned as they were at h0 -/
structure Amid (Y : Cx) (fp : List Addr) (tn : Nat → Heap → Prop) (h0 : Heap) (υ : L2.St) (i : Nat) (H : Hp) (s : Shared) : Prop where
  inv : Inv Y ([] ++ pinsAt fp h0) υ H s
  far : tn i h0
theorem Betw.draw {E : Value → Shared → Prop} (k : Betw Y fp tn τ i H s) (w : Walker Y fp) (T : Turn Y.prog Y.w Y.K tg J fp it tn) (e : J.go i H) :
    wpAny (model Y.prog Y.w) Y.A (pyNext (.ref it)) (fun r s1 => ∃ u, r = some u ∧ wpAny (model Y.prog Y.w) Y.A (letOwnedTupleGo tg (.ref it) u) (fun _ s2 => ∃ x H', J.yld i H x H' ∧ RelV x u ∧ Amid Y fp tn s2.heap τ (i + 1) H' s2) E s1) E s := by
  have all := T.item Y rfl rfl rfl w.calm i [] s τ H E k.inv (fun _ hb => k.may w hb) k.far e
  refine thn all fun _ _ ⟨u, is, more⟩ => ⟨u, is, thn more fun _ s2 ⟨x, H', I, rx, y, st, ap⟩ => ⟨x, H', y, rx, ?_, st⟩⟩
  have next : Betw Y fp tn τ (i + 1) H' s2 := ⟨I, st, ap⟩
  exact I.pinned (fun _ hb => next.may w hb) (T.obj (i + 1) s2.heap st)
/-- a turn's end: what the block wrote into its own slots is forgotten -/
theorem Amid.end_ {h0 : Heap} {P : Program} {wd : World} {F : PySem.W.Frag} (k : Amid Y fp tn h0 υ i H s) (T : Turn P wd F tg J fp it tn) {vs : List Nat} (e : wipe υ vs = wipe σ vs) : Betw Y fp tn (wipe σ vs) i H s := by
  have there : ∀ b ∈ fp, ∀ o, h0.get? b = some o → s.heap.get? b = some o ∧ H b = none := by
    intro b hb o ho
    have pinned := k.inv.pin (b, o) (by simp only [List.nil_append, List.mem_append]; exact Or.inr (mem_pinsAt hb ho))
    exact And.intro pinned.1 pinned.2.1
  constructor
  · rw [← e]
    exact k.inv.unpinned.weak (wipe_length υ vs) fun _ _ q => (wipe_some q).1
  · exact T.keep i h0 s.heap k.far fun b hb o ho => (there b hb o ho).1
  · intro b hb
    rcases T.obj i h0 k.far b hb with ⟨o, ho, -⟩
    exact (there b hb o ho).2
/-- the block's frame lies ahead of all that was -/
structure Block (X : Cx) (pins : List (Addr × Obj)) (σ : L2.St) (fp : List Addr) (H0 : Hp) (s0 : Shared) (ce : Env) : Prop where
  out : Inv X pins σ H0 s0
  place : ce.locals = s0.heap.objs.size
  walk : ∀ b ∈ fp, FpOk X pins H0 b
/-- behind the block: the def's own state again, the frame C of the block not yet gone -/
structure Left (X : Cx) (pins : List (Addr × Obj)) (σ : L2.St) (C : Addr) (H : Hp) (s : Shared) : Prop where
  inv : Inv X pins σ H s
  frame : ∃ m, s.heap.Ns C m
  may : FpOk X pins H C
theorem Block.leave (k : Block X pins σ fp H0 s0 ce) (I : Inv (X.blk s0 H0 scope ce fp) [] τ H s) : Left X pins σ ce.locals H s := by
  have low : s0.heap.objs.size ≤ ce.locals := Nat.le_of_eq k.place.symm
  refine ⟨?_, I.loc.imp fun _ q => q.1, k.out.fpOk low I.free⟩
  refine k.out.call' (ch := fp) I.os I.base I.hok I.bare fun b hb => ?_
  have ⟨_, away, _, young, nocell, nopin⟩ := k.walk b hb
  exact ⟨young, away, nocell, nopin⟩
/-- the frame goes -/
theorem Left.gone {h' : Heap} (k : Left X pins σ C H s) (b : Heap.SameBut C s.heap h') : Inv X pins σ H { s with heap := h' } := by
  have ⟨no, away, nofs, young, nocell, nopin⟩ := k.may
  exact k.inv.turned (t' := s.toks) (fun a o ne e => (b.2 a ne).trans e) no away young nocell nopin
end
section
variable {X : Cx} {tg iter : Expr} {ifs : List Expr} {scope : Scope} {own : List (Str × Nat)} {wi : TI} {o0 : HO} {pins : List (Addr × Obj)} {σ : L2.St} {H : Hp} {s : Shared} {R : It → Hp → Prop}
/-- the way into a block that makes a dict -/
theorem block_in {e : Expr} {p2 : Pos} {use : Option (Value → Sem Unit)} {Qf : Value → Shared → Prop} (I : Inv X pins σ H s) (he0 : EmptyD o0) (hN : X.N.Nodup) (hi : PI X tg iter wi) (ok : BlkOk X.N X.env.scope scope own) (hcl : clausesOf e = [⟨tg, iter, ifs, 0⟩]) (hs : ∀ x, foldedSetIterable iter X.env x = pure x) (h : wi σ H R)
    (go : ∀ (D it : Addr) (fp : List Addr) (tn : Nat → Heap → Prop) (J : It) (H2 : Hp) (s3 s4 : Shared) (cl : List (Str × Addr)), R J H2 → H2 D = none → Turn X.prog X.w X.K tg J fp it tn → Block X pins σ fp (upd H2 D o0) s3 (compEnvC scope cl s3.heap.objs.size X.env) →
      Betw (X.blk s3 (upd H2 D o0) scope (compEnvC scope cl s3.heap.objs.size X.env) fp) fp tn (wipe σ (own.map (·.2))) 0 (upd H2 D o0) s4 →
      codeAny (model X.prog X.w) X.A (.compStart e 0 (.ref it) (.ref D) (compEnvC scope cl s3.heap.objs.size X.env)) (compPost (model X.prog X.w) X.A X.xe use Qf (.ref D) s3.heap.objs.size) s4) :
    wpAny (model X.prog X.w) X.A (comprehension e scope X.env p2 newDict false (eval iter X.env) use) Qf X.xe s := by
  have held : ∀ y ∈ scope.names, y.2 = .free → ∃ c, X.env.cells.lookup y.1 = some c := by
    intro y hy fr
    have known := ok.free y hy fr
    exact I.ok.has y.1 known
  apply wpAny_comprehension_free hcl hs (closure_ok held) ok.kind
  · intro y hy loc
    rw [ok.uniq y hy, loc]
  apply thn (hi.run pins s σ H R I h)
  intro _ s1 h1
  apply thn h1
  rintro _ s2 ⟨it, fp, tn, J, H2, rfl, I2, T, t2, f2, q⟩
  (refine wpAny_newObj_type (newEnv_comp ?_))
  have small : ∀ b ∈ fp, b < s2.heap.objs.size := fun b hb => by
    rcases T.obj 0 s2.heap t2 b hb with ⟨o, eo, -⟩
    exact Heap.lt_size eo
  have up : ∀ b o, s2.heap.get? b = some o → (s2.heap.push { cls := .type "dict", data := .dict #[] }).get? b = some o := fun _ _ q => Heap.get?_push_of_some _ q
  have I3 := I2.laid (a := s2.heap.objs.size) (o := o0) (t' := s2.toks) up (Nat.le_refl _) (by
    cases he0 with
    | inl z => rw [z]; exact dk_empty s2.heap I2.big
    | inr z => rw [z]; exact dt_empty s2.heap I2.big)
  have wk : ∀ b ∈ fp, FpOk X pins (upd H2 s2.heap.objs.size o0) b := fun b hb => ⟨(upd_ne (Nat.ne_of_lt (small b hb))).trans (f2 b hb).1, (f2 b hb).2⟩
  refine go s2.heap.objs.size it fp tn J H2 _ _ _ q (I2.hok.fresh (Nat.le_refl _)) T ⟨I3, rfl, wk⟩ ⟨block_start I3 ok hN fun b hb => ⟨wk b hb, ?_⟩, ?_, fun b hb => (wk b hb).1⟩
  · rw [Heap.size_push]
    exact Nat.lt_succ_of_lt (small b hb)
  · exact T.keep 0 s2.heap _ t2 fun b _ o z => pushCells_keeps _ _ _ _ (Heap.get?_push_of_some _ (up b o z))
end
section
variable {X : Cx} {kx vx tg iter : Expr} {ifs : List Expr} {scope : Scope} {own : List (Str × Nat)} {pos : Pos} {wi : TI} {g : TG} {tt : TT} {tk tv : TE} {o0 : HO}
/-- what the four parts of such a comprehension tell, wherever its block stands -/
structure DcParts (X : Cx) (scope : Scope) (tg kx vx : Expr) (ifs : List Expr) (g : TG) (tt : TT) (tk tv : TE) : Prop where
  tgt : ∀ (s : Shared) (H : Hp) (C : Addr) (cl : List (Str × Addr)) (fp : List Addr), PG (X.blk s H scope (compEnvC scope cl C X.env) fp) tg g
  ask : ∀ (s : Shared) (H : Hp) (C : Addr) (cl : List (Str × Addr)) (fp : List Addr), PTs (X.blk s H scope (compEnvC scope cl C X.env) fp) ifs tt
  key : ∀ (s : Shared) (H : Hp) (C : Addr) (cl : List (Str × Addr)) (fp : List Addr), PE (X.blk s H scope (compEnvC scope cl C X.env) fp) kx tk
  val : ∀ (s : Shared) (H : Hp) (C : Addr) (cl : List (Str × Addr)) (fp : List Addr), PE (X.blk s H scope (compEnvC scope cl C X.env) fp) vx tv
/-- what one turn is to do, the value x drawn -/
abbrev tTurn (g : TG) (tt : TT) (tk tv : TE) (D : Addr) (N : Hp → Prop) (vs : List Nat) (σ : L2.St) (x : V) (H : Hp) : Prop :=
  g x (wipe σ vs) H fun σ2 H2 => wipe σ2 vs = wipe σ vs ∧ tt σ2 H2 fun c H3 => if c = true then tk σ2 H3 fun y H4 => tv σ2 H4 fun z H5 => ∃ H6, DPut H5 D y z H6 ∧ N H6 else N H3
/-- such a turn is done -/
theorem dc_turn {Y : Cx} {fp : List Addr} {tn : Nat → Heap → Prop} {h0 : Heap} {σ : L2.St} {vs : List Nat} {i : Nat} {H : Hp} {s : Shared} {x : V} {u : Value} {D : Addr} {N : Hp → Prop} {Z : Shared → Prop} {E : Value → Shared → Prop} {P : Program} {wd : World} {F : PySem.W.Frag} {J : It} {it : Addr}
    (hu : Y.A.units < cLine) (hxe : Y.xe = fun _ _ => False) (pg : PG Y tg g) (pt : PTs Y ifs tt) (pk : PE Y kx tk) (pv : PE Y vx tv) (T : Turn P wd F tg J fp it tn) (a : Amid Y fp tn h0 (wipe σ vs) i H s) (rx : RelV x u) (h : tTurn g tt tk tv D N vs σ x H)
    (z : ∀ H' s', Betw Y fp tn (wipe σ vs) i H' s' → N H' → Z s') :
    wpAny (model Y.prog Y.w) Y.A (assign tg Y.env u) (fun _ s₂ =>
      wpAny (model Y.prog Y.w) Y.A (forIn ifs true fun c r => if r = true then do let ok ← isTrue c Y.env (eval c Y.env); pure (ForInStep.yield ok) else pure (ForInStep.yield r)) (fun ok s₃ =>
        if ok = true then wpAny (model Y.prog Y.w) Y.A (eval kx Y.env) (fun kv s₄ => wpAny (model Y.prog Y.w) Y.A (eval vx Y.env) (fun vv s₅ => wpAny (model Y.prog Y.w) Y.A (dictSet D kv vv) (fun _ s₆ => Z s₆) E s₅) E s₄) E s₃
        else Z s₃) E s₂) E s := by
  have go {α : Type} {t : Sem α} {Q Q' : α → Shared → Prop} {s' : Shared} (q : wpAny (model Y.prog Y.w) Y.A t Q Y.xe s') (k : ∀ a s, Q a s → Q' a s) : wpAny (model Y.prog Y.w) Y.A t Q' E s' := wpAny_mono q k fun e s' f => by
    rw [hxe] at f
    exact f.elim
  refine go (pg.run _ s _ H x u _ a.inv rx h) ?_
  rintro - s2 ⟨σ2, H2, I2, w2, q2⟩
  have fin {H' : Hp} {s' : Shared} (I' : Inv Y ([] ++ pinsAt fp h0) σ2 H' s') (n : N H') : Z s' := z H' s' (Amid.end_ (Amid.mk I' a.far) T w2) n
  refine go (pt.run _ s2 σ2 H2 _ I2 q2) ?_
  rintro (_ | _) s3 ⟨H3, I3, q3⟩
  · exact fin I3 q3
  refine go (pk.run _ s3 σ2 H3 _ I3 q3) ?_
  rintro a4 s4 ⟨y, H4, I4, ry, q4⟩
  refine go (pv.run _ s4 σ2 H4 _ I4 q4) ?_
  rintro a5 s5 ⟨v, H5, I5, rv, H6, put, n⟩
  exact dict_laid hu I5 put ry rv fun _ I6 => fin I6 n
/-- the whole of such a comprehension; what is done with the new dict is told by `done` -/
theorem dc_core {pins : List (Addr × Obj)} {s : Shared} {σ : L2.St} {H : Hp} {Q : VK} {p2 : Pos} {use : Option (Value → Sem Unit)} {Qf : Value → Shared → Prop} (I : Inv X pins σ H s) (he0 : EmptyD o0) (hu : X.A.units < cLine) (hc : X.calm = true) (hN : X.N.Nodup) (hi : PI X tg iter wi) (ok : BlkOk X.N X.env.scope scope own)
    (ps : DcParts X scope tg kx vx ifs g tt tk tv) (hs : ∀ x, foldedSetIterable iter X.env x = pure x) (h : tDcP o0 wi g tt tk tv (own.map (·.2)) σ H Q)
    (done : ∀ D C s' H', Left X pins σ C H' s' → Q (.ref D) H' → compPost (model X.prog X.w) X.A X.xe use Qf (.ref D) C (.ok .next) s') :
    wpAny (model X.prog X.w) X.A (comprehension (.DictComp kx vx [⟨tg, iter, ifs, 0⟩] scope pos) scope X.env p2 newDict false (eval iter X.env) use) Qf X.xe s := by
  refine block_in I he0 hN hi ok rfl hs h fun D it fp tn J H2 s3 s4 cl q hD T B k0 => ?_
  rcases q D hD with ⟨W, ⟨m0, w0⟩, turn⟩
  have w : Walker (X.blk s3 (upd H2 D o0) scope (compEnvC scope cl s3.heap.objs.size X.env) fp) fp := ⟨rfl, rfl, hc⟩
  have all := compLoop_anyD (s := s4) (kx := kx) (vx := vx) (ifs := ifs) (target := tg) (iter := iter) (scope := scope) (pos := pos) (it := .ref it) (D := D) (env := compEnvC scope cl s3.heap.objs.size X.env) (prog := X.prog) (w := X.w) (A := X.A) (R := compPost (model X.prog X.w) X.A X.xe use Qf (.ref D) s3.heap.objs.size)
    (fun n s' => ∃ i H', Betw (X.blk s3 (upd H2 D o0) scope (compEnvC scope cl s3.heap.objs.size X.env) fp) fp tn (wipe σ (own.map (·.2))) i H' s' ∧ W i n H')
  have loop := all (by
    rintro n s5 ⟨i, H5, k5, w5⟩
    cases turn i n H5 w5 with
    | inl z =>
      refine thn (k5.over w T z.1) ?_
      rintro - s6 ⟨rfl, I6⟩
      exact done D _ s6 H5 (B.leave I6) z.2
    | inr z =>
      obtain ⟨go, N, less, each⟩ := z
      refine thn (k5.draw w T go) ?_
      rintro - s6 ⟨u, rfl, more⟩
      refine thn more ?_
      rintro - s7 ⟨x, H7, y, rx, a⟩
      refine dc_turn (Y := X.blk s3 (upd H2 D o0) scope (compEnvC scope cl s3.heap.objs.size X.env) fp) hu rfl (ps.tgt _ _ _ _ _) (ps.ask _ _ _ _ _) (ps.key _ _ _ _ _) (ps.val _ _ _ _ _) T a rx (each x H7 y) fun H' s' b n' => ?_
      rcases less H' n' with ⟨m, lt, w'⟩
      exact ⟨m, lt, i + 1, H', b, w'⟩) m0 ⟨0, _, k0, w0⟩
  exact codeAny_compStart_dict loop (T.self X.A 0 s4 _ _ k0.far loop)
theorem pe_dcP (he0 : EmptyD o0) (hu : X.A.units < cLine) (hc : X.calm = true) (hN : X.N.Nodup) (hi : PI X tg iter wi) (ok : BlkOk X.N X.env.scope scope own)
    (hg : ∀ (s : Shared) (H : Hp) (C : Addr) (cl : List (Str × Addr)) (fp : List Addr), PG (X.blk s H scope (compEnvC scope cl C X.env) fp) tg g)
    (ht : ∀ (s : Shared) (H : Hp) (C : Addr) (cl : List (Str × Addr)) (fp : List Addr), PTs (X.blk s H scope (compEnvC scope cl C X.env) fp) ifs tt)
    (hk : ∀ (s : Shared)
    (H : Hp) (C : Addr) (cl : List (Str × Addr)) (fp : List Addr), PE (X.blk s H scope (compEnvC scope cl C X.env) fp) kx tk)
    (hv : ∀ (s : Shared) (H : Hp) (C : Addr) (cl : List (Str × Addr)) (fp : List Addr), PE (X.blk s H scope (compEnvC scope cl C X.env) fp) vx tv) (hs : ∀ x, foldedSetIterable iter X.env x = pure x := by intro _; rfl) :
    PE X (.DictComp kx vx [⟨tg, iter, ifs, 0⟩] scope pos) (tDcP o0 wi g tt tk tv (own.map (·.2))) := by
  constructor
  intro pins s σ H Q I h
  rw [arm_eval_DictComp]
  apply dc_core I he0 hu hc hN hi ok ⟨hg, ht, hk, hv⟩ hs h
  intro D C s' H' l q
  rcases l.frame with ⟨m, ns⟩
  exact ⟨m, ns, fun h' b => ⟨.ref D, H', l.gone b, rfl, q⟩⟩
/-- name = {..} on one line, the name a local -/
theorem ps_setDc {i : Nat} {y : Str} {py spos : Pos} (hy : X.N[i]? = some y) (hyl : X.env.scope.names.lookup y = some .local) (hsw : swapsWith (.DictComp kx vx [⟨tg, iter, ifs, 0⟩] scope pos) (some (.Name y py)) spos.line X.env = pure true) (he0 : EmptyD o0) (hu : X.A.units < cLine) (hc : X.calm = true) (hN : X.N.Nodup) (hi : PI X tg iter wi) (ok : BlkOk X.N X.env.scope scope own)
    (hg : ∀ (s : Shared) (H : Hp) (C : Addr) (cl : List (Str × Addr)) (fp : List Addr), PG (X.blk s H scope (compEnvC scope cl C X.env) fp) tg g)
    (ht : ∀ (s : Shared) (H : Hp) (C : Addr) (cl : List (Str × Addr)) (fp : List Addr), PTs (X.blk s H scope (compEnvC scope cl C X.env) fp) ifs tt)
    (hk : ∀ (s : Shared)
    (H : Hp) (C : Addr) (cl : List (Str × Addr)) (fp : List Addr), PE (X.blk s H scope (compEnvC scope cl C X.env) fp) kx tk)
    (hv : ∀ (s : Shared) (H : Hp) (C : Addr) (cl : List (Str × Addr)) (fp : List Addr), PE (X.blk s H scope (compEnvC scope cl C X.env) fp) vx tv) (hs : ∀ x, foldedSetIterable iter X.env x = pure x := by intro _; rfl) :
    PS X (.Assign [.Name y py] (.DictComp kx vx [⟨tg, iter, ifs, 0⟩] scope pos) spos) (tAsg (tDcP o0 wi g tt tk tv (own.map (·.2))) (gName i)) := by
  constructor
  intro pins s σ H D I h
  (rw [exec_Assign_Name_used _ _ _ _ hsw])
  have made := dc_core (kx := kx) (vx := vx) (pos := pos) (p2 := firstIterPos [⟨tg, iter, ifs, 0⟩] pos) (Q := fun x H1 => gName i x σ H1 D.nx) (Qf := fun _ => SP X pins D .next) (use := some fun v => assign (.Name y py) X.env v) I he0 hu hc hN hi ok ⟨hg, ht, hk, hv⟩ hs h (by
    intro L C s' H' l q
    refine wpAny_assign_Name (store_ok2 (v := V.ref L) l.inv hN hy (.inl hyl) rfl ?_ (.inr hyl))
    rintro s2 I2 ⟨a, same, where_⟩
    have other : C ≠ a := by
      rcases where_ with z | z
      · exact fun e => l.may.2.1 (e.trans z)
      · exact fun e => l.may.2.2.2.2.1 y a z e.symm
    rcases l.frame with ⟨m, ns⟩
    have l2 : Left X pins (σ.set i (some (.ref L))) C H' s2 := ⟨I2, ⟨m, ns.sameBut same other⟩, l.may⟩
    exact ⟨m, ns.sameBut same other, fun h' b => ⟨_, H', l2.gone b, q⟩⟩)
  exact wpAny_bind (wpAny_standAt (wpAny_bind (wpAny_bind (thn made fun _ _ q => wpAny_pure (wpAny_pure q)))))
theorem sw_dc {gs : List Comprehension} {y : Str} {py : Pos} {l : Nat} {env : Env} (hk : env.scope.kind = .function) (hy : env.scope.names.lookup y = some .local) (hl : (py.line == pos.line) = true) (ha : (scope.names.any fun (n, k) => n == y && (k == .local || k == .cell)) = false) : swapsWith (.DictComp kx vx gs scope pos) (some (.Name y py)) l env = pure true := by
  have its : env.kindOf y = some .local := hy
  have block : env.blockKind = .function := by
    unfold Env.blockKind
    rw [hk]
    rfl
  simp only [swapsWith, block, its, ha, Expr.pos, hl]
  rfl
end
end TD
namespace TD
open PySem L2 PySem.Spec PyProof.Rows
open Evl (Ex ex_l ex_t fresh_back sq_of st_of sz_of sz_lt)
def leL : List Int → List Int → Bool
  | [], _ => true
  | _ :: _, [] => false
  | x :: xs, y :: ys => decide (x < y) || (decide (x = y) && leL xs ys)
theorem leL_cons {x y : Int} {xs ys : List Int} : leL (x :: xs) (y :: ys) = true ↔ x < y ∨ (x = y ∧ leL xs ys = true) := by
  show (decide (x < y) || (decide (x = y) && leL xs ys)) = true ↔ _
  rw [Bool.or_eq_true, Bool.and_eq_true, decide_eq_true_eq, decide_eq_true_eq]
theorem leL_trans : ∀ {a b c : List Int}, leL a b = true → leL b c = true → leL a c = true
  | [], _, _, _, _ => rfl
  | _ :: _, [], _, h, _ => nomatch h
  | _ :: _, _ :: _, [], _, h => nomatch h
  | x :: a, y :: b, z :: c, h1, h2 => by
    rw [leL_cons] at h1 h2 ⊢
    rcases h1 with h1 | ⟨rfl, h1⟩
    · rcases h2 with h2 | ⟨rfl, h2⟩
      · exact .inl (by omega)
      · exact .inl h1
    · rcases h2 with h2 | ⟨rfl, h2⟩
      · exact .inl h2
      · exact .inr ⟨rfl, leL_trans h1 h2⟩
theorem leL_total : ∀ a b : List Int, leL a b = true ∨ leL b a = true
  | [], _ => .inl rfl
  | _ :: _, [] => .inr rfl
  | x :: a, y :: b => by
    rw [leL_cons, leL_cons]
    rcases Int.lt_trichotomy x y with h | h | h
    · exact .inl (.inl h)
    · rcases leL_total a b with q | q
      · exact .inl (.inr ⟨h, q⟩)
      · exact .inr (.inr ⟨h.symm, q⟩)
    · exact .inr (.inl h)
theorem leL_anti : ∀ {a b : List Int}, leL a b = true → leL b a = true → a = b
  | [], [], _, _ => rfl
  | [], _ :: _, _, h => nomatch h
  | _ :: _, [], h, _ => (nomatch h)
  | x :: a, y :: b, h1, h2 => by
    rw [leL_cons] at h1 h2
    have e : x = y := by omega
    subst e
    rw [leL_anti (h1.resolve_left (Int.lt_irrefl _)).2 (h2.resolve_left (Int.lt_irrefl _)).2]
theorem leL_refl (a : List Int) : leL a a = true := by
  rcases leL_total a a with h | h
  · exact h
  · exact h
def sortX (ns : List (List Int)) : List (List Int) := ns.mergeSort leL
theorem sortX_perm (ns : List (List Int)) : (sortX ns).Perm ns := List.mergeSort_perm ns leL
theorem sortX_len (ns : List (List Int)) : (sortX ns).length = ns.length := (sortX_perm ns).length_eq
theorem sortX_up (ns : List (List Int)) : (sortX ns).Pairwise fun x y => leL x y = true := by
  refine List.pairwise_mergeSort (le := leL) (fun a b c h1 h2 => leL_trans h1 h2) (fun a b => ?_) ns
  rw [Bool.or_eq_true]
  exact leL_total a b
theorem sortX_uniq {ns rs : List (List Int)} (hp : rs.Perm ns) (hs : rs.Pairwise fun x y => leL x y = true) : rs = sortX ns :=
  List.Perm.eq_of_pairwise (le := fun x y => leL x y = true) (fun _ _ _ _ h1 h2 => leL_anti h1 h2) hs (sortX_up ns) (hp.trans (sortX_perm ns).symm)
/-- what may be sorted -/
def Ok3 (S B : Int) (d : Nat) (ns : List Int) : Prop := ns.length = d ∧ TS.Bd B (TDS.shI S ns)
theorem cd_below {S B : Int} : ∀ {x y : List Int}, x.length = y.length → TS.Bd B (TDS.shI S x) → TS.Bd B (TDS.shI S y) → leL x y = false → TDS.cd S B y < TDS.cd S B x
  | [], _, _, _, _, h => nomatch h
  | _ :: _, [], h, _, _, _ => by simp at h
  | p :: x, q :: y, hl, h1, h2, h => by
    have hl2 := Nat.succ.inj hl
    have hs : (TDS.shI S x).length = (TDS.shI S y).length := by unfold TDS.shI; rw [List.length_map, List.length_map, hl2]
    have hn : ¬ (p < q ∨ (p = q ∧ leL x y = true)) := fun z => by rw [leL_cons.mpr z] at h; cases h
    by_cases e : p = q
    · subst e
      have ih := cd_below hl2 h1.tail h2.tail (by cases z : leL x y; rfl; exact absurd (.inr ⟨rfl, z⟩) hn)
      exact (TS.code_same (B := B) (d := p + S) hs.symm).mpr ih
    · exact TS.code_lt hs.symm h2.tail h1.tail (show q + S < p + S by omega)
theorem leL_of_cd {S B : Int} {d : Nat} {x y : List Int} (hx : Ok3 S B d x) (hy : Ok3 S B d y) (h : TDS.cd S B x ≤ TDS.cd S B y) : leL x y = true := by
  cases z : leL x y with
  | true => rfl
  | false =>
    have := cd_below (hx.1.trans hy.1.symm) hx.2 hy.2 z
    omega
theorem sortX_cd {S B : Int} {d : Nat} {ns rs : List (List Int)} (ho : ∀ x ∈ ns, Ok3 S B d x) (hp : rs.Perm ns) (hs : rs.Pairwise fun x y => TDS.cd S B x ≤ TDS.cd S B y) : rs = sortX ns :=
  sortX_uniq hp (hs.imp_of_mem fun {x y} hx hy h => leL_of_cd (ho x (hp.mem_iff.mp hx)) (ho y (hp.mem_iff.mp hy)) h)
section
variable [TabW] {K : PySem.W.Frag} {b : Addr} {ρ ρ1 ρ2 : Rho} {β β1 β2 β3 : Bag} {ta : TA} {te tl td tk tv : TE} {tt : TT} {ts tu tw : TS} {d d1 d2 x : Dt} {ds es rs : List Dt} {o : Out} {c : Bool} {i j : Nat} {G H G0 H0 G1 H1 G2 H2 : Hp} {σ : L2.St} {p : Addr} {m : Bool}
/-- a thing that is ready is frozen -/
theorem Step.ice {u : HO} (s : Step b m G1 H1 G H) (h1 : Gone H1 p) (h2 : G p = none) (h3 : H p = some u) (nt : NoTb u) : Step b m G1 H1 (upd G p u) H := by
  refine ⟨s.g.trans (Ex.new h2), fun a v z => ?_, fun a v q t z => ?_, s.keep, s.stay, fun t => ⟨(s.tabs t).tab, fun y ps z => ?_⟩⟩
  · by_cases e : a = p
    · rw [e, upd_same] at z
      rw [e, h3]
      exact z
    · rw [upd_ne e] at z
      exact s.s a v z
  · rw [upd_ne (h1.ne t z)]
    exact s.fresh a v q t z
  · by_cases e : y = p
    · rw [e, upd_same] at z
      exact nt ps (Option.some.inj z)
    · rw [upd_ne e] at z
      exact (s.tabs t).free y ps z
theorem BagOk.ice {u : HO} (k : BagOk b β G H) (n : β.isSome = true → p ≠ b) : BagOk b β (upd G p u) H := fun ns e => by
  obtain ⟨h1, h2⟩ := k ns e
  exact ⟨h1, by rw [upd_ne (Ne.symm (n (by rw [e]; rfl)))]; exact h2⟩
/-- tuples that lie in the heap are taken among the frozen things -/
theorem take_all {L : List (Addr × List Int)} (hL : ∀ q ∈ L, H q.1 = some (.tup (q.2.map V.int))) : ∀ {G : Hp}, Ex G H → ∃ G', Step b false G H G' H ∧ ∀ q ∈ L, G' q.1 = some (.tup (q.2.map V.int)) := by
  induction L with
  | nil => exact fun e => ⟨_, Step.refl e, fun q hq => nomatch hq⟩
  | cons a L ih =>
    intro G e
    have s1 := Step.take (b := b) (m := false) e (hL a List.mem_cons_self)
    obtain ⟨G', s2, h2⟩ := ih (fun q hq => hL q (List.mem_cons_of_mem _ hq)) s1.s
    refine ⟨G', s1.trans s2, fun q hq => ?_⟩
    (rcases List.mem_cons.mp hq with rfl | hq)
    · exact s2.g _ _ upd_same
    · exact h2 q hq
theorem DenQ.keys : ∀ {kvs : List (List Int × V)} {qs : List (List Int × Dt)}, DenQ K G kvs qs → kvs.map (·.1) = qs.map (·.1)
  | _, _, .nil => rfl
  | _, _, .cons _ h => by rw [List.map_cons, List.map_cons, h.keys]
/-- what the items of a walk give, key and value -/
inductive DcR (K : PySem.W.Frag) (j : Nat) (tk tv : TE) : List Dt → Rho → Bag → List (List Int × Dt) → Bag → Prop
  | nil (ρ : Rho) (β : Bag) : DcR K j tk tv [] ρ β [] β
  | cons {d x : Dt} {ds : List Dt} {ρ : Rho} {β β1 β2 β3 : Bag} {k : List Int} {qs : List (List Int × Dt)} : EvB K tk (ρ.set j (some (.imm d))) β (tupD k) β1 → EvB K tv (ρ.set j (some (.imm d))) β1 x β2 → DcR K j tk tv ds ρ β2 qs β3 → DcR K j tk tv (d :: ds) ρ β ((k, x) :: qs) β3
theorem DcR.som {qs : List (List Int × Dt)} (h : DcR K j tk tv ds ρ β qs β1) : β1.isSome = β.isSome := by
  induction h with
  | nil => rfl
  | cons h1 h2 _ ih => exact ih.trans (h2.som.trans h1.som)
theorem putT_new {α : Type} {qs : List (List Int × α)} {k : List Int} {v : α} (h : k ∉ qs.map (·.1)) : putT qs k v = qs ++ [(k, v)] := by
  unfold putT
  rw [if_neg]
  intro z
  obtain ⟨q, hq, e⟩ := List.any_eq_true.mp z
  exact h (List.mem_map.mpr ⟨q, hq, of_decide_eq_true e⟩)
/-- a dict comprehension over a list, its keys tuples of ints, all unlike -/
theorem d_dcL {vs : List Nat} {qs : List (List Int × Dt)} (hl : EvB K tl ρ β (.list ds) β1) (h : DcR K j tk tv ds (wipeR ρ vs) β1 qs β2) (hn : (qs.map (·.1)).Nodup) (hz : qs.length ≤ 1000)
    (hw : ∀ (σ : L2.St) x, wipe ((wipe σ vs).set j (some x)) vs = wipe σ vs) : EvB K (tDcP (.dT []) (iList K tl) (gName j) tYes tk tv vs) ρ β (dT qs) β2 := by
  refine ⟨h.som.trans hl.som, fun b G H σ Q E k => ?_⟩
  refine hl.run b G H σ _ E fun v G1 H1 s1 k1 d1 => ?_
  have E1 := E.step s1 k1
  cases d1 with
  | @lst a xs _ hs hd =>
    refine ⟨a, rfl, ⟨xs, sq_of (s1.s _ _ hs)⟩, fun D hD => ?_⟩
    have nb := bag_ne k1 hl.som hD
    have gD := fresh_back s1.s hD
    have s0 : Step b β.isSome G1 H1 G1 (upd H1 D (.dT [])) := (Step.refl s1.s).mutM (Gone.none hD) gD (MuAt.none hD)
    refine ⟨fun i m H' => m + i = xs.length ∧ ∃ (G' : Hp) (β' : Bag) (done rest : List (List Int × Dt)) (kvs : List (List Int × V)), Step b β.isSome G1 H1 G' H' ∧ BagOk b β' G' H' ∧ β'.isSome = β.isSome ∧ G' D = none ∧ H' D = some (.dT (keysT kvs)) ∧ DenQ K G' kvs done ∧ done ++ rest = qs ∧ DcR K j tk tv (ds.drop i) (wipeR ρ vs) β' rest β2, ⟨xs.length, rfl, G1, β1, [], qs, [], s0, k1.mut (by rw [hl.som]; exact nb), hl.som, gD, upd_same, .nil, rfl, h⟩, ?_⟩
    rintro i m H' ⟨sum, G', β', done, rest, kvs, s', kb, hm, gD', hH, hq, hr, r⟩
    have hx := sq_of (K := K) (s'.s _ _ (s'.g _ _ hs))
    cases m with
    | zero =>
      obtain rfl : i = xs.length := by omega
      rw [hd.length, List.drop_length] at r
      cases r
      rw [List.append_nil] at hr
      subst hr
      refine .inl ⟨⟨xs, hx, Nat.le_refl _⟩, ?_⟩
      have s2 := s'.ice (u := .dT (keysT kvs)) (Gone.none hD) gD' hH (fun _ z => nomatch z)
      exact k (.ref D) _ H' (s1.trans s2) (kb.ice (by rw [hm]; exact nb)) (.dcT (.inl upd_same) (hq.mono (Ex.new gD')).toT)
    | succ m =>
      have lt : i < xs.length := by omega
      obtain ⟨y, hy, dy⟩ := hd.get (List.getElem?_eq_getElem lt)
      rw [drop_of hy] at r
      refine .inr ⟨⟨xs, xs[i], hx, List.getElem?_eq_getElem lt⟩, fun H2 => m + (i + 1) = xs.length ∧ ∃ (G' : Hp) (β' : Bag) (done rest : List (List Int × Dt)) (kvs : List (List Int × V)), Step b β.isSome G1 H1 G' H2 ∧ BagOk b β' G' H2 ∧ β'.isSome = β.isSome ∧ G' D = none ∧ H2 D = some (.dT (keysT kvs)) ∧ DenQ K G' kvs done ∧ done ++ rest = qs ∧ DcR K j tk tv (ds.drop (i + 1)) (wipeR ρ vs) β' rest β2, fun H2 z => ⟨m, Nat.lt_succ_self m, z⟩, ?_⟩
      rintro u H2 ⟨rfl, f⟩
      obtain rfl : xs[i] = u := Option.some.inj ((List.getElem?_eq_getElem lt).symm.trans (f xs hx))
      refine ⟨hw σ _, ?_⟩
      have E2 : EnvD K b β' G' _ ((wipe σ vs).set j (some xs[i])) ((wipeR ρ vs).set j (some (.imm y))) := ((E1.wipe vs).step s' kb).set (dy.mono s'.g)
      cases r with
      | @cons _ x' _ _ _ β3 β4 _ kk rest' hk hv r' =>
        unfold tYes
        dsimp only []
        rw [if_pos rfl]
        refine hk.run b G' _ _ _ E2 fun ky G3 H3 s3 k3 d3 => ?_
        rw [hm] at s3
        refine hv.run b G3 H3 _ _ (E2.step (hm ▸ s3) k3) fun z G4 H4 s4 k4 d4 => ?_
        rw [hk.som, hm] at s4
        obtain ⟨c, rfl, hc⟩ := den_key (d3.mono s4.g)
        have m4 : β4.isSome = β.isSome := hv.som.trans (hk.som.trans hm)
        have nt : NoT (HO.dT (keysT kvs)) := ⟨fun _ z => (nomatch z), fun _ z => (nomatch z)⟩
        have hH3 := s3.keep D _ nb nt hH
        have hH4 := s4.keep D _ nb nt hH3
        have gD3 := s3.fresh D _ gD' nt hH
        have gD4 := s4.fresh D _ gD3 nt hH3
        have lq := hq.length
        have lr := congrArg List.length hr
        rw [List.length_append, List.length_cons] at lr
        refine ⟨_, DPut.t (k := keyL kk) (v := z) hH4 (s4.s _ _ hc) (by rw [List.length_map]; exact sz_lt (by omega)), by omega, ?_⟩
        have hnk : kk ∉ done.map (·.1) := by
          rw [← hr, List.map_append, List.map_cons, List.nodup_append] at hn
          exact fun z => hn.2.2 kk z kk List.mem_cons_self rfl
        rw [keysT_put]
        refine ⟨G4, β4, done ++ [(kk, x')], rest', putT kvs kk z, ((s'.trans s3).trans s4).mutM (Gone.none hD) gD4 (MuAt.dT hH4), k4.mut (by rw [m4]; exact nb), m4, gD4, upd_same, ?_, by rw [← hr, List.append_assoc] <;> rfl, r'⟩
        rw [← putT_new (v := x') hnk]
        exact (hq.mono (s3.g.trans s4.g)).put d4
end
end TD
set_option Elab.async false
set_option linter.all false
set_option maxRecDepth 100000
set_option maxHeartbeats 3200000
namespace TD
open PySem L2 PySem.Spec PyProof.Rows
open Evl (Ex ex_l ex_t fresh_back sq_of st_of sz_of sz_lt)
end TD
set_option Elab.async false
set_option linter.all false
set_option maxRecDepth 100000
set_option maxHeartbeats 4000100
namespace TD
open PySem L2 StX PySem.Spec PyProof.Rows
open Evl (Ex ex_l ex_t fresh_back sq_of st_of sz_of sz_lt)
section
variable {prog : Program} {w : World} {A : Around} {E : Value → Shared → Prop} {s : Shared} {K : PySem.W.Frag} {x y C f : Addr} {ox oy : Obj} {od oe : Option Obj}
theorem bin_own {op : Operator} {Q : Value → Shared → Prop} (X : K.In s.heap) (Ix : PySem.W.InstAt s.heap x ox C od) (Iy : PySem.W.InstAt s.heap y oy C oe) (hc : PySem.W.selfFirst K C = true)
    (hs : PySem.W.findIn K (.ref C) (PySem.dunder op.info.2) = some (some (.ref f))) (hf : PySem.W.isFn K (.ref f) = true)
    (h : wpAny (model prog w) A (call (.ref f) [.ref x, .ref y]) (PySem.W.CmpBack Q) E s) : wpAny (model prog w) A (binaryOp op (.ref x) (.ref y)) Q E s := by
  obtain ⟨cd, rest, hcd, hm⟩ := PySem.W.ksp_first hc
  (rcases hi : op.info with ⟨sym, nm⟩)
  rw [hi] at hs
  dsimp only at hs
  have one := PySem.W.ksp_try X Ix hs hf h
  (obtain ⟨hh, g, d, tt, os⟩ := s)
  have t1 : PySem.W.Looks (model prog w) hh (typeOf (.ref x)) (.ref C) := Ix.type
  have t2 : PySem.W.Looks (model prog w) hh (typeOf (.ref y)) (.ref C) := Iy.type
  have t3 : PySem.W.Looks (model prog w) hh (fillsNumberSlot (.ref C) nm) true := PySem.W.fills_K X hcd hm hs
  simp only [binaryOp, hi]
  (refine wpAny_holding (wpAny_bind ?_))
  unfold binaryOp1
  refine wpAny_bind (t1.at (wpAny_bind (t2.at (wpAny_bind (t3.at ?_)))))
  simp only [beq_self_eq_true, if_true, Bool.and_false, Bool.false_eq_true, if_false]
  ksp_lk
  (refine wpAny_mono one (fun r s' hr' => ?_) fun _ _ e => e)
  obtain ⟨v, rfl, hq⟩ := hr'
  ksp_lk
  exact hq
end
theorem inst_at {P : Program} {w : World} {H : Hp} {h : Heap} {a C dx : Addr} {fs : List (Str × V)} (hok : HOk P w H h) (e : H a = some (.ins C dx fs)) : ∃ ox od, PySem.W.InstAt h a ox C od := by
  obtain ⟨mA, O, _, _, _, _⟩ := ins_get hok e
  obtain ⟨od, J, _⟩ := O.look
  exact ⟨_, _, J⟩
section
variable [TabW] {K : PySem.W.Frag} {ρ : Rho} {β β1 β2 : Bag} {ta tb te : TE} {t : TA} {ps qs : List (Dt × Dt)} {C : Addr} {r x : Dt} {ds : List Dt} {as : List Slot} {E : XK}
theorem DenSs.app {b : Addr} {G : Hp} : ∀ {vs ws : List V} {as cs : List Slot}, DenSs K b G vs as → DenSs K b G ws cs → DenSs K b G (vs ++ ws) (as ++ cs)
  | _, _, _, _, .nil, h => h
  | _, _, _, _, .cons h1 h2, h => .cons h1 (h2.app h)
end
end TD
set_option Elab.async false
set_option linter.all false
set_option maxRecDepth 100000
set_option maxHeartbeats 4100000
namespace TD
open PySem L2 PySem.Spec PyProof.Rows
theorem GI.pinned {X : Cx} {S : Addr} {ip : List (Addr × Obj)} {ys : List V} {σ : L2.St} {H : Hp} {s : Shared} {fp : List Addr} (h : GI X S ip ys σ H s) (hf : ∀ (acc : Array Value) (c : Nat), Inv X ((S, lstObj acc c) :: ip) σ H s → ∀ b ∈ fp, FpOk X ((S, lstObj acc c) :: ip) H b) (ho : ∀ b ∈ fp, ∃ o, s.heap.get? b = some o ∧ ∀ v, o.data ≠ .cell v) :
    GI X S (ip ++ pinsAt fp s.heap) ys σ H s := by
  obtain ⟨acc, c, r, I⟩ := h
  exact ⟨acc, c, r, I.pinned (hf acc c I) ho⟩
end TD
set_option Elab.async false
set_option linter.all false
set_option maxRecDepth 100000
set_option maxHeartbeats 4100000
namespace TD
open PySem L2 PySem.Spec PyProof.Rows LamX
open Evl (Ex ex_l ex_t fresh_back sq_of st_of sz_of sz_lt)
end TD
set_option Elab.async false
set_option linter.all false
set_option maxRecDepth 100000
set_option maxHeartbeats 3000000
namespace TD
open PySem L2 PySem.Spec PyProof.Rows
section
variable [TabW] {K : PySem.W.Frag} {ρ : Rho} {β β1 : Bag} {te : TE} {ps : List (Dt × Dt)} {C : Addr}
/-- isinstance(x, C), x an object of C -/
theorem d_isC (h : EvB K te ρ β (oD C ps) β1) (hk : PySem.W.kitOne K (.ref C) (.ref C) = some true) : EvB K (tCB (rIsiR K) (tCons te (tCons (tC (.ref C)) tNil))) ρ β (.bool true) β1 := ⟨h.som, fun b G H σ Q E k => h.run b G H σ _ E fun v G1 H1 s1 k1 d1 => by
  obtain ⟨a, dx, fs, rfl, hc, hs, hp⟩ := den_oD d1
  exact ⟨.ref a, .ref C, .ref C, .ref C, true, rfl, .own C, .ty (.base (.ins (s1.s _ _ hs) hc.ic.cl hc.ic.ha hc.ic.hn hc.ic.htk hc.ic.hm)), hk, k _ G1 H1 s1 k1 (.bl true)⟩⟩
end
theorem pe_fldK {X : Cx} {K : PySem.W.Frag} {e : Expr} {ta : TE} {f : Str} {pos : Pos} (he : PE X e ta) (hb : attributeBase e f X.env (eval e X.env) = eval e X.env) (hK : X.K = K := by rfl) : PE X (.Attribute e f pos) (tFld K ta f) := hK ▸ pe_fld he hb
theorem unitsU {k : Nat} {A : Around} (r : Room k A) : A.units < cLine := by have := r.un; omega
end TD
set_option Elab.async false
set_option linter.all false
set_option maxRecDepth 100000
set_option maxHeartbeats 3000000
namespace TD
open PySem L2 PySem.Spec PyProof.Rows
open Evl (Ex ex_l ex_t fresh_back sq_of st_of sz_of sz_lt)
theorem c_ofK {X : Cx} {K : PySem.W.Frag} {v : Value} {r : PySem.W.Frag → List V → Hp → VK → Prop} (h : CallR X v (r X.K)) (hK : X.K = K := by rfl) : CallR X v (r K) := hK ▸ h
variable [TabW]
structure LotOk (p : Int) (ls : List (List Int)) : Prop where
  pr : Num.PrimeI p
  pos : 1 ≤ ls.length
  few : ls.length ≤ 13
  line : ∀ l ∈ ls, Num.lineI p l = true
  nd : ls.Nodup
theorem LotOk.perm {p : Int} {ls ms : List (List Int)} (h : LotOk p ls) (e : ms.Perm ls) : LotOk p ms :=
  ⟨h.pr, by rw [e.length_eq]; exact h.pos, by rw [e.length_eq]; exact h.few, fun l hl => h.line l (e.mem_iff.mp hl), e.nodup_iff.mpr h.nd⟩
theorem LotOk.sub {p : Int} {ls ms : List (List Int)} (h : LotOk p ls) (hm : ∀ l ∈ ms, l ∈ ls) (hn : ms.Nodup) (h1 : 1 ≤ ms.length) : LotOk p ms :=
  ⟨h.pr, h1, Nat.le_trans (List.Nodup.length_le_of_subset hn hm) h.few, fun l hl => h.line l (hm l hl), hn⟩
theorem putT_keys {α : Type} {qs : List (List Int × α)} {k x : List Int} {v : α} : x ∈ (putT qs k v).map (·.1) ↔ x = k ∨ x ∈ qs.map (·.1) := by
  unfold putT
  split
  · rename_i h
    have e : (qs.map fun q => if q.1 = k then (q.1, v) else q).map (·.1) = qs.map (·.1) := by
      rw [List.map_map]
      refine List.map_congr_left fun q _ => ?_
      show (if q.1 = k then (q.1, v) else q).1 = q.1
      split <;> rfl
    rw [e]
    constructor
    · exact .inr
    · rintro (rfl | h')
      · obtain ⟨q, hq, z⟩ := List.any_eq_true.mp h
        exact List.mem_map.mpr ⟨q, hq, of_decide_eq_true z⟩
      · exact h'
  · rw [List.map_append, List.mem_append]
    simp only [List.map_cons, List.map_nil, List.mem_cons, List.not_mem_nil, or_false]
    exact or_comm
theorem putT_nodup {α : Type} {qs : List (List Int × α)} {k : List Int} {v : α} (h : (qs.map (·.1)).Nodup) : ((putT qs k v).map (·.1)).Nodup := by
  by_cases hk : k ∈ qs.map (·.1)
  · unfold putT
    rw [if_pos (by obtain ⟨q, hq, z⟩ := List.mem_map.mp hk; exact List.any_eq_true.mpr ⟨q, hq, decide_eq_true z⟩)]
    have e : (qs.map fun q => if q.1 = k then (q.1, v) else q).map (·.1) = qs.map (·.1) := by
      rw [List.map_map]
      refine List.map_congr_left fun q _ => ?_
      show (if q.1 = k then (q.1, v) else q).1 = q.1
      split <;> rfl
    rw [e]
    exact h
  · rw [putT_new hk, List.map_append, List.nodup_append]
    refine ⟨h, by simp, fun x hx y hy e => ?_⟩
    simp only [List.map_cons, List.map_nil, List.mem_cons, List.not_mem_nil, or_false] at hy
    rw [e, hy] at hx
    exact hk hx
/-- what holds of the meets that are gathered -/
structure MeetOk (p : Int) (acc : List (List Int × Dt)) : Prop where
  ok : ∀ q ∈ acc, Ok3 2000000 4000001 3 q.1 ∧ Num.NT p q.1
  nd : (acc.map (·.1)).Nodup
theorem MeetOk.put {p : Int} {acc : List (List Int × Dt)} (h : MeetOk p acc) {k : List Int} (hk : Ok3 2000000 4000001 3 k ∧ Num.NT p k) {v : Dt} : MeetOk p (putT acc k v) := by
  refine ⟨fun q hq => ?_, putT_nodup h.nd⟩
  rcases putT_keys.mp (List.mem_map_of_mem (f := (·.1)) hq) with e | e
  · rw [e]; exact hk
  · obtain ⟨r, hr, z⟩ := List.mem_map.mp e
    rw [← z]
    exact h.ok r hr
theorem prime_is {p : Int} (h : Num.PrimeI p) : Num.isPrime (.int p) = true := by
  show (decide (p = 0) || decide (p ∈ Num.primes)) = true
  (rw [Bool.or_eq_true, decide_eq_true_eq, decide_eq_true_eq])
  exact h
end TD
set_option Elab.async false
set_option linter.all false
set_option maxRecDepth 100000
set_option maxHeartbeats 3000300
namespace TD
open PySem L2 PySem.Spec PyProof.Rows
open Evl (Ex ex_l ex_t fresh_back sq_of st_of sz_of sz_lt)
inductive ForWE [TabW] (K : PySem.W.Frag) (i j l : Nat) (tu : TS) : Nat → List Dt → Rho → Bag → Dt → Out → Bag → Dt → Prop
  | nil (n : Nat) (ρ : Rho) (β : Bag) (d : Dt) : ForWE K i j l tu n [] ρ β d (.nx ρ) β d
  | nx {n : Nat} {x : Dt} {xs : List Dt} {ρ ρ1 : Rho} {β β1 β2 : Bag} {d d1 d2 : Dt} {o : Out} : StW K i tu ((ρ.set j (some (.imm (.int (n : Nat))))).set l (some (.imm x))) β d (.nx ρ1) β1 d1 → ForWE K i j l tu (n + 1) xs ρ1 β1 d1 o β2 d2 → ForWE K i j l tu n (x :: xs) ρ β d o β2 d2
section
variable [TabW] {K : PySem.W.Frag} {ρ : Rho} {β β1 β2 : Bag} {tl : TE} {tu tw : TS} {d d2 : Dt} {es : List Dt} {o : Out} {i j l : Nat}
theorem ForWE.som {n : Nat} (h : ForWE K i j l tu n es ρ β d o β2 d2) : β2.isSome = β.isSome := by
  induction h with
  | nil => rfl
  | nx h _ ih => exact ih.trans h.som
/-- turns that keep a form of what is told -/
theorem ForWE.keep {F : Nat → Rho → Dt → Prop} : ∀ {es : List Dt} {n : Nat} {ρ : Rho} {d : Dt}, F n ρ d → (∀ m x ρ d, es[m]? = some x → F (n + m) ρ d → ∃ ρ1 d1, StW K i tu ((ρ.set j (some (.imm (.int ((n + m : Nat) : Int))))).set l (some (.imm x))) β d (.nx ρ1) β d1 ∧ F (n + m + 1) ρ1 d1) →
    ∃ ρ' d', ForWE K i j l tu n es ρ β d (.nx ρ') β d' ∧ F (n + es.length) ρ' d'
  | [], n, ρ, d, h, _ => ⟨ρ, d, .nil _ _ _ _, h⟩
  | x :: es, n, ρ, d, h, hs => by
    obtain ⟨ρ1, d1, h1, h2⟩ := hs 0 x ρ d rfl h
    obtain ⟨ρ', d', h3, h4⟩ := ForWE.keep (F := F) (es := es) (n := n + 1) h2 fun m y ρ d hy hF => by
      have := hs (m + 1) y ρ d (by simpa using hy) (by rw [show n + (m + 1) = n + 1 + m by omega]; exact hF)
      rw [show n + (m + 1) = n + 1 + m by omega] at this
      exact this
    rw [List.length_cons, show n + (es.length + 1) = n + 1 + es.length by omega]
    exact ⟨ρ', d', .nx h1 h3, h4⟩
end
end TD
set_option Elab.async false
set_option linter.all false
set_option maxRecDepth 100000
set_option maxHeartbeats 3000000
namespace TD
open PySem L2 PySem.Spec PyProof.Rows
open Evl (Ex ex_l ex_t fresh_back sq_of st_of sz_of sz_lt)
/-- a function of the bag and of the rest of the arguments -/
def fB {α : Type} (a : α → List Slot) (P : α → Prop) (F : α → List Int → Dt × List Int) : FR := fun as β r β' => ∃ y n ns, as = .bag :: a y ∧ P y ∧ Num.BagI n ns ∧ r = (F y ns).1 ∧ β = some ns ∧ β' = some (F y ns).2
section
variable [TabW] (P : Program) (w : World) (K : PySem.W.Frag) (mg : Str → Option Value) (base : Heap) (k : Nat)
structure FnD (x : Str) (ps : List Str) {α : Type} (a : α → List Slot) (Pre : α → Prop) (Post : α → Dt → Prop) (F : α → List Int → Dt × List Int) : Prop where
  fn : FnG P w K mg base k x ps (fB a Pre F)
  post : ∀ y n ns, Pre y → Num.BagI n ns → Post y (F y ns).1 ∧ ∃ m, Num.BagI m (F y ns).2
end
section
variable [TabW] {P : Program} {w : World} {K : PySem.W.Frag} {mg : Str → Option Value} {base : Heap} {k : Nat} {x : Str} {ps N : List Str} {st : Stmt} {ρ : Rho} {β : Bag} {t : TA} {E : XK} {n : Int} {ns : List Int}
/-- a call of it: some datum of which Post holds, some bag -/
theorem FnD.call {α : Type} {a : α → List Slot} {Pre : α → Prop} {Post : α → Dt → Prop} {F : α → List Int → Dt × List Int} (G : FnD P w K mg base k x ps a Pre Post F) {y : α} (ha : EvA K t ρ (some ns) (.bag :: a y) (some ns)) (hp : Pre y) (hb : Num.BagI n ns) :
    ∃ d ms m, Post y d ∧ Num.BagI m ms ∧ EvB K (tCall (spR K (fB a Pre F)) [] E t) ρ (some ns) d (some ms) := by
  obtain ⟨h1, m, h2⟩ := G.post y n ns hp hb
  exact ⟨_, _, m, h1, h2, d_call ha ⟨y, n, ns, rfl, hp, hb, rfl, rfl, rfl⟩ rfl⟩
/-- the same where other parts of the arguments draw, too -/
theorem FnD.call' {α : Type} {a : α → List Slot} {Pre : α → Prop} {Post : α → Dt → Prop} {F : α → List Int → Dt × List Int} (G : FnD P w K mg base k x ps a Pre Post F) {y : α} {ls : List Int} (ha : EvA K t ρ (some ls) (.bag :: a y) (some ns)) (hp : Pre y) (hb : Num.BagI n ns) :
    ∃ d ms m, Post y d ∧ Num.BagI m ms ∧ EvB K (tCall (spR K (fB a Pre F)) [] E t) ρ (some ls) d (some ms) := by
  obtain ⟨h1, m, h2⟩ := G.post y n ns hp hb
  exact ⟨_, _, m, h1, h2, d_call ha ⟨y, n, ns, rfl, hp, hb, rfl, rfl, rfl⟩ rfl⟩
theorem fnD_mk {α : Type} {a : α → List Slot} {Pre : α → Prop} {Post : α → Dt → Prop} {t : TS} (F : DefAt K x st) (hX : K.In base) (hG : base.Ns mainGlobals mg) (S : FnScope N ps (defScope st)) (hlen : ∀ y, (a y).length + 1 = ps.length)
    (hb : ∀ (f : Addr) (kV doc pm : Value) (an : Option Addr) (cdv ct : Value) (us : List Value), us.length = ps.length → bindArgs (PySem.W.fnOf x x (defArgs st) (defBody st) (defScope st) .none kV doc pm an cdv ct) ⟨us, []⟩ = pure (ps.zip us))
    (ht : ∀ (f : Addr) (cdv : Value) (A : Around) (outer : List PySem.Env) (s : Shared) (H : Hp) (E : XK), Room k (A.deeper (envOfC x (defScope st) s.heap.objs.size f cdv)) → PSs (cxOf CX0 P w K mg base N x (defScope st) f cdv A outer s H E).nox (defBody st) t)
    (hbody : ∀ y n ns, Pre y → Num.BagI n ns → ∃ d ms m, Post y d ∧ Num.BagI m ms ∧ BodyR K t (startR N (.bag :: a y)) (some ns) d (some ms)) : ∃ F, FnD P w K mg base (k + 1) x ps a Pre Post F := by
  have ch : ∀ y ns, ∃ q : Dt × List Int, ∀ n, Pre y → Num.BagI n ns → Post y q.1 ∧ (∃ m, Num.BagI m q.2) ∧ BodyR K t (startR N (.bag :: a y)) (some ns) q.1 (some q.2) := fun y ns => by
    by_cases h : Pre y ∧ ∃ n, Num.BagI n ns
    · obtain ⟨h1, n, h2⟩ := h
      obtain ⟨d, ms, m, q1, q2, q3⟩ := hbody y n ns h1 h2
      exact ⟨(d, ms), fun _ _ _ => ⟨q1, ⟨m, q2⟩, q3⟩⟩
    · exact ⟨(.none, []), fun n h1 h2 => absurd ⟨h1, n, h2⟩ h⟩
  refine ⟨fun y ns => Classical.choose (ch y ns), ?_, fun y n ns hp hb => ?_⟩
  · refine fn_mk F hX hG S (fun as β r β' h => ?_) hb fun f cdv A outer s H E hr => ⟨t, ht f cdv A outer s H E hr, fun as β r β' h => ?_⟩
    · obtain ⟨y, _, _, rfl, _⟩ := h
      exact hlen y
    · obtain ⟨y, n, ns, rfl, hp, hb, rfl, rfl, rfl⟩ := h
      exact (Classical.choose_spec (ch y ns) n hp hb).2.2
  · have h := Classical.choose_spec (ch y ns) n hp hb
    exact ⟨h.1, h.2.1⟩
end
end TD
set_option Elab.async false
set_option linter.all false
set_option maxRecDepth 100000
set_option maxHeartbeats 4100000
namespace TD
open PySem L2 LamX PySem.Spec PyProof.Rows
section
variable {K : PySem.W.Frag} {T : List Addr} {a b : Addr} {vs : List Value} {ns : List Int}
abbrev scriptObj (vs : List Value) : Obj := { cls := .type "list", data := .seq vs.toArray }
abbrev emptyTab : Obj := { cls := .none, data := .fields #[] }
/-- what is followed from the start: the tables; and the script, unless the heap's known part has it -/
def seenAt (K : PySem.W.Frag) (T : List Addr) (a : Addr) (vs : List Value) (ns : List Int) : Hp := fun b =>
  if b ∈ T then some (.tbl #[])
  else if b = a ∧ K.lookup a = none then some (.frz (scriptObj vs) (.lst (ns.map V.int)))
  else none
inductive Seen (K : PySem.W.Frag) (T : List Addr) (a : Addr) (vs : List Value) (ns : List Int) (b : Addr) : Option HO → Prop
  | tab : b ∈ T → Seen K T a vs ns b (some (.tbl #[]))
  | script : b ∉ T → b = a → K.lookup a = none → Seen K T a vs ns b (some (.frz (scriptObj vs) (.lst (ns.map V.int))))
  | off : b ∉ T → (b = a → K.lookup a ≠ none) → Seen K T a vs ns b none
theorem seen_is (K : PySem.W.Frag) (T : List Addr) (a : Addr) (vs : List Value) (ns : List Int) (b : Addr) : Seen K T a vs ns b (seenAt K T a vs ns b) := by
  unfold seenAt
  by_cases h1 : b ∈ T
  · rw [if_pos h1]
    exact .tab h1
  · rw [if_neg h1]
    by_cases h2 : b = a ∧ K.lookup a = none
    · rw [if_pos h2]
      exact .script h1 h2.1 h2.2
    · rw [if_neg h2]
      exact .off h1 fun e z => h2 ⟨e, z⟩
end
section
variable [TabW] {P : Program} {w : World} {K : PySem.W.Frag} {mg mb : Str → Option Value} {k : Nat} {fa a : Addr} {cs : List (Addr × Addr)} {fd : FuncData} {x : Str} {s : Shared} {vs : List Value} {ns : List Int}
theorem call_lawG (KX : K.In s.heap) (gm : s.heap.Ns mainGlobals mg) (gb : s.heap.Ns builtinsNs mb) (bb : ∀ y : Str, y ≠ "__name__" → mb y = bootBuiltins y) (nl : s.heap.NoLimit) (ge : s.gens = #[])
    (tabs : ∀ p ∈ cs, s.heap.get? p.2 = some emptyTab) (free : ∀ p ∈ cs, K.lookup p.2 = none) (code : ∀ p ∈ cs, PySem.W.CodeHd s.heap p.1 p.2) (hw : ∀ Q q, TabW.w Q q → Q ∈ cs.map (·.2))
    (bm : ∃ (m : Addr) (o : Obj), mg "__builtins__" = some (.ref m) ∧ m ≠ builtinsNs ∧ s.heap.get? m = some o ∧ o.cls = .type "module" ∧ o.dict = some builtinsNs ∧ o.data = .plain)
    (ha : s.heap.get? a = some (scriptObj vs)) (hi : IntsAre vs ns) (hl : ns.length ≤ 63) (hr : Room k callerA)
    (F : ∀ base : Heap, K.In base → base.Ns mainGlobals mg → (∀ p ∈ cs, TabB base mg p.1 p.2) → FnOkG P w K mg base CX0 k fa fd [x] (spLaw K)) (hb : ∀ (t : Shared) (u : Value), BindsTo t fd ⟨[u], []⟩ [(x, u)]) :
    codeAny (model P w) callerA (.call (.ref fa) ⟨[.ref a], []⟩) (fun r s' => r = .ok (.ret (.bool true)) ∧ OldK s.heap s'.heap ∧ s'.os = s.os ∧ AllBare s'.gens) s := by
  have tabT : ∀ {b : Addr}, b ∈ cs.map (·.2) → s.heap.get? b = some emptyTab := fun {b} hm => by
    obtain ⟨p, hp, rfl⟩ := List.mem_map.mp hm
    exact tabs p hp
  have inT : ∀ {p : Addr × Addr}, p ∈ cs → p.2 ∈ cs.map (·.2) := fun hp => List.mem_map_of_mem hp
  have aOff : a ∉ cs.map (·.2) := fun z => by
    have q := (tabT z).symm.trans ha
    exact nomatch congrArg Obj.data (Option.some.inj q)
  obtain ⟨H, hH⟩ : ∃ H, H = seenAt K (cs.map (·.2)) a vs ns := ⟨_, rfl⟩
  have seen : ∀ b, Seen K (cs.map (·.2)) a vs ns b (H b) := fun b => hH ▸ seen_is K (cs.map (·.2)) a vs ns b
  have lenV := hi.length
  have hz : (ns.map V.int).length ≤ sizeLine := by
    rw [List.length_map]
    exact Nat.le_trans hl (by decide)
  have rv := vals_ints hi
  -- objects of other kinds are not followed
  have off : ∀ {b : Addr} {o : Obj}, s.heap.get? b = some o → (∀ xs n, o.data ≠ .seq xs n) → o.data ≠ .fields #[] → H b = none := fun {b o} e d1 d2 => by
    have z := seen b
    generalize H b = u at z
    cases z with
    | tab hm =>
      have q := e.symm.trans (tabT hm)
      exact absurd (congrArg Obj.data (Option.some.inj q)) d2
    | script _ hba _ =>
      rw [hba] at e
      have q := e.symm.trans ha
      exact absurd (congrArg Obj.data (Option.some.inj q)) (d1 _ _)
    | off _ _ => rfl
  have still : ∀ {b : Addr} {o : Obj}, s.heap.get? b = some o → (∀ xs n, o.data ≠ .seq xs n) → o.data ≠ .fields #[] → (hidT s.heap H).get? b = some o := fun e d1 d2 => hidT_get e (off e d1 d2)
  have nsB : ∀ {b : Addr} {m : Str → Option Value}, s.heap.Ns b m → (hidT s.heap H).Ns b m := fun ⟨o, es, ep, e, d, r⟩ => ⟨o, es, ep, still e (fun _ _ z => by rw [d] at z; cases z) (fun z => by rw [d] at z; cases z), d, r⟩
  have kinB : K.In (hidT s.heap H) := fun b o e => hidT_get (KX b o e) (by
    have z := seen b
    generalize H b = u at z
    cases z with
    | tab hm =>
      obtain ⟨p, hp, rfl⟩ := List.mem_map.mp hm
      exact nomatch (free p hp).symm.trans e
    | script _ hba hk =>
      rw [hba] at e
      exact nomatch hk.symm.trans e
    | off _ _ => rfl)
  have modB : L2.Mod K mg (hidT s.heap H) := ⟨kinB, nsB gm, ⟨mb, nsB gb, bb⟩, let ⟨m, e1, e2⟩ := nl; ⟨m, nsB e1, e2⟩⟩
  have tabB : ∀ p ∈ cs, TabB (hidT s.heap H) mg p.1 p.2 := fun p hp => by
    have htp := tabs p hp
    refine ⟨?_, ?_, fun z => ?_⟩
    · obtain ⟨o, fs, fl, t1, gs, t2, bf, tx, t3, e, c1, c2, c3, r⟩ := code p hp
      refine ⟨o, fs, fl, t1, gs, t2, bf, tx, t3, still e (fun _ _ z => by rw [c2] at z; cases z) (fun z => ?_), c1, c2, c3, r⟩
      rw [c2] at z
      rw [Data.fields.inj z] at c3
      cases c3
    · obtain ⟨m, o, m1, m2, m3, m4, m5, m6⟩ := bm
      have nG : m ≠ mainGlobals := fun z => by
        obtain ⟨o', _, _, e', d', _⟩ := gm
        rw [z] at m3
        have q := m3.symm.trans e'
        cases q
        rw [m6] at d'
        cases d'
      have nP : m ≠ p.2 := fun z => by
        rw [z] at m3
        have q := m3.symm.trans htp
        cases q
        cases m6
      exact ⟨m, o, m1, m2, nG, nP, still m3 (fun _ _ z => by rw [m6] at z; cases z) (fun z => by rw [m6] at z; cases z), m4, m5, m6⟩
    · obtain ⟨o', _, _, e', d', _⟩ := gm
      rw [z] at e'
      have q := e'.symm.trans htp
      cases q
      cases d'
  have held : HOk P w H s.heap := fun b u hu => by
    have z := seen b
    rw [hu] at z
    cases z with
    | tab hm => exact tabT hm
    | script _ hba _ =>
      subst hba
      exact ⟨ha, hz, vs, _, rv, ha⟩
  have env : Env0 P w K mg (hidT s.heap H) callerA [] s H := ⟨rfl, modB, fun _ _ e => of_hidT e, Nat.le_of_eq (hidT_size _ _), trivial, (fun _ hm => nomatch (List.not_mem_nil hm)), held, .of_eq ge⟩
  -- the script as the def reads it, apart from the tables
  obtain ⟨G, hG⟩ : ∃ G : Hp, G = fun b => if b ∈ cs.map (·.2) then none else H b := ⟨_, rfl⟩
  have gOff : ∀ {b : Addr}, b ∉ cs.map (·.2) → G b = H b := fun hn => by rw [hG]; exact if_neg hn
  have gIn : ∀ {b : Addr}, b ∈ cs.map (·.2) → G b = none := fun hn => by rw [hG]; exact if_pos hn
  have exG : Evl.Ex G H := fun b o e => by
    by_cases hm : b ∈ cs.map (·.2)
    · exact nomatch (gIn hm).symm.trans e
    · exact (gOff hm).symm.trans e
  have scr : SqL K G a (ns.map V.int) := by
    cases hk : K.lookup a with
    | some o =>
      have q := (KX a o hk).symm.trans ha
      cases q
      exact .inr ⟨_, vs.toArray, _, hk, rfl, rfl, rfl, by rw [List.size_toArray, lenV]; exact Nat.le_trans hl (by decide), by simpa using rv⟩
    | none =>
      refine .inl (.inr ⟨scriptObj vs, ?_⟩)
      rw [gOff aOff]
      have z := seen a
      generalize H a = u at z
      cases z with
      | tab hm => exact absurd hm aOff
      | script _ _ _ => rfl
      | off _ hn => exact absurd hk (hn rfl)
  have tok : TabsOk G H := ⟨fun Q q hq => TabS.nil (by
    have hm := hw Q q hq
    have z := seen Q
    generalize H Q = u at z
    cases z with
    | tab _ => rfl
    | script hn _ _ => exact absurd hm hn
    | off hn _ => exact absurd hm hn), fun b ps e => by
    by_cases hm : b ∈ cs.map (·.2)
    · exact nomatch (gIn hm).symm.trans e
    · rw [gOff hm] at e
      have z := seen b
      rw [e] at z
      cases z with
      | tab h2 => exact hm h2⟩
  refine codeAny_mono ((F _ kinB (nsB gm) tabB).run callerA [] s H ⟨[.ref a], []⟩ [.ref a] [.ref a] (fun v _ => v = .bl true) (fun _ _ _ => False) ⟨hr, rfl⟩ env (hb s (.ref a)) (.cons rfl .nil) ⟨a, ns, G, rfl, exG, tok, scr, hl, fun _ => rfl⟩) fun r s' hq => ?_
  match r, hq with
  | .error _, hq => exact False.elim hq
  | .ok .next, hq => exact False.elim hq
  | .ok .brk, hq => exact False.elim hq
  | .ok .cont, hq => exact False.elim hq
  | .ok (.ret u), ⟨v, H', os', bare', un, held', rel, (hv : v = .bl true)⟩ =>
    subst hv
    obtain rfl : u = Value.bool true := rel
    have more_ : ∀ p ∈ cs, ∃ more : Array Value, s'.heap.get? p.2 = some { cls := .none, data := .fields more } := fun p hp => by
      have e : H p.2 = some (.tbl #[]) := by
        have z := seen p.2
        generalize H p.2 = u at z
        cases z with
        | tab _ => rfl
        | script hn _ _ => exact absurd (inT hp) hn
        | off hn _ => exact absurd (inT hp) hn
      obtain ⟨more, e'⟩ := un.tbls _ _ e
      exact ⟨_, held' _ _ e'⟩
    have old : ∀ b o, b ∉ cs.map (·.2) → s.heap.get? b = some o → s'.heap.get? b = some o := fun b o hn e => by
      cases hu : H b with
      | none => exact un.keep b o e hu (fun hm => nomatch (List.not_mem_nil hm)) (fun hm => nomatch (List.not_mem_nil hm))
      | some u =>
        have z := seen b
        rw [hu] at z
        cases z with
        | tab hm => exact absurd hm hn
        | script _ hba _ =>
          subst hba
          have q := e.symm.trans ha
          cases q
          exact (held' _ _ (un.frzs _ _ _ hu)).1
    refine ⟨rfl, ⟨fun b o e => ?_, fun b o e => ?_⟩, os', bare'⟩
    · by_cases hm : b ∈ cs.map (·.2)
      · obtain ⟨p, hp, rfl⟩ := (List.mem_map.mp hm)
        obtain ⟨more, e'⟩ := more_ p hp
        have q := e.symm.trans (tabs p hp)
        cases q
        exact .inr (.inl ⟨((code p hp).tab (tabs p hp)).isCodeTable, rfl, #[], more, rfl, by rw [Array.empty_append]; exact e'⟩)
      · exact .inl (old b o hm e)
    · by_cases hm : b ∈ cs.map (·.2)
      · obtain ⟨p, hp, rfl⟩ := (List.mem_map.mp hm)
        obtain ⟨more, e'⟩ := more_ p hp
        exact ⟨_, e'⟩
      · exact ⟨o, old b o hm e⟩
end
end TD
set_option Elab.async false
set_option linter.all false
set_option maxRecDepth 100000
set_option maxHeartbeats 4100000
namespace TD
open PySem L2 PySem.Spec PyProof.Rows
end TD
set_option Elab.async false
set_option linter.all false
set_option maxRecDepth 100000
set_option maxHeartbeats 4100000
namespace TD
open PySem L2 StX PySem.Spec PyProof.Rows
open Evl (Ex ex_l ex_t fresh_back sq_of st_of sz_of sz_lt)
/-- the running body's context as it is seen from a call below it, where z is wanted of an error -/
abbrev CxBelow (X : Cx) (A : Around) (z : Value → Shared → Prop) : Cx := { X with A := A, calm := false, xe := z }
section
variable {X : Cx} {A : Around} {z : Value → Shared → Prop} {pins : List (Addr × Obj)} {s : Shared} {σ : L2.St} {H : Hp}
theorem inv_down (I : Inv X pins σ H s) (fr : A.frames = X.A.frames) : Inv (CxBelow X A z) pins σ H s := by
  obtain ⟨ok, os, bare, base, loc, cell, free, freeC, pin, hok, len⟩ := I
  refine ⟨?_, os, bare, base, loc, cell, free, freeC, pin, hok, len⟩
  obtain ⟨_, kind, glob, blt, above, inj, has, cab, _, frames, stk, exf, bs, bsz, noex, exfs, funs, frf⟩ := ok
  exact ⟨‹_›, kind, glob, blt, above, inj, has, cab, Bool.noConfusion, fr.trans frames, stk, exf, bs, bsz, noex, exfs, funs, frf⟩
theorem inv_up (ok : X.Ok) (I : Inv (CxBelow X A z) pins σ H s) : Inv X pins σ H s := by
  obtain ⟨_, os, bare, base, loc, cell, free, freeC, pin, hok, len⟩ := I
  exact ⟨ok, os, bare, base, loc, cell, free, freeC, pin, hok, len⟩
end
/-- a def is called, anywhere below the running body: the library's rule for the body itself, at the context seen from there -/
theorem call_below {X : Cx} {CX : CXT} {n : Nat} {A : Around} {z : Value → Shared → Prop} {f : Addr} {fd : FuncData} {ps : List Str} {sp : Sp} {E : XK} {pins : List (Addr × Obj)} {s : Shared} {σ : L2.St} {H : Hp} {us : List Value} {vs : List V} {Q : VK} (sb : Sub X n A) (F : FnOk X.prog X.w X.K X.mg X.base CX n f fd ps sp)
    (hb : Binds X.K fd ps []) (hx : Passes CX { X with xe := z } E) (I : Inv X pins σ H s) (r : Vals vs us) (h : sp vs H Q E) : wpAny (model X.prog X.w) A (call (.ref f) us) (EP X pins σ Q) z s := by
  have pass : Passes CX (CxBelow X A z) E := fun pins σ H s e s' I' => hx pins σ H s e s' (inv_up (X := { X with xe := z }) (A := A) (z := z) ⟨I.ok.mod, I.ok.kind, I.ok.glob, I.ok.blt, I.ok.above, I.ok.inj, I.ok.has, I.ok.cab, I.ok.hd, I.ok.frames, I.ok.stk, I.ok.exf, I.ok.bs, I.ok.bsz, I.ok.noex, I.ok.exfs, I.ok.funs, I.ok.frf⟩ I')
  have told : sp (vs ++ []) H Q E := by rwa [List.append_nil]
  have runs := run_fnR (X := CxBelow X A z) (F.raw hb .nil) sb.room pass (inv_down I sb.fr) r told
  apply wpAny_call
  apply codeAny_mono runs
  rintro (_ | _ | _) s' q
  any_goals exact q
  obtain ⟨v, H', I', rv, qv⟩ := q
  exact ⟨v, H', inv_up I.ok I', rv, qv⟩
theorem call_at {X : Cx} {CX : CXT} {n : Nat} {A : Around} {f : Addr} {fd : FuncData} {ps : List Str} {sp : Sp} {E : XK} {pins : List (Addr × Obj)} {s : Shared} {σ : L2.St} {H : Hp} {us : List Value} {vs : List V} {Q : VK} (sb : Sub X n A) (F : FnOk X.prog X.w X.K X.mg X.base CX n f fd ps sp)
    (hb : Binds X.K fd ps []) (hx : Passes CX X E) (I : Inv X pins σ H s) (r : Vals vs us) (h : sp vs H Q E) : wpAny (model X.prog X.w) A (call (.ref f) us) (EP X pins σ Q) X.xe s :=
  call_below sb F hb hx I r h
/-- the type of what stands on the right is no class below C -/
inductive RightK (K : PySem.W.Frag) (C : Addr) (H : Hp) : V → Prop
  | own {a dx : Addr} {fs : List (Str × V)} (h : H a = some (.ins C dx fs)) : RightK K C H (.ref a)
  | tup {a : Addr} {xs : List V} (h : SqT K H a xs) (n : PySem.W.notFirst K C (.type "tuple") = true) : RightK K C H (.ref a)
  | lst {a : Addr} {xs : List V} (h : SqL K H a xs) (n : PySem.W.notFirst K C (.type "list") = true) : RightK K C H (.ref a)
  | str {x : Str} (n : PySem.W.notFirst K C (.type "str") = true) : RightK K C H (.str x)
  | non (n : PySem.W.notFirst K C (.type "NoneType") = true) : RightK K C H .non
theorem looks_is {M : Model} {h : Heap} {a : Addr} {T : String} {s : Shared} (e : s.heap = h) (ht : s.TypeIs (.ref a) T) : PySem.W.Looks M h (typeOf (.ref a)) (.type T) := by
  obtain ⟨o, ho, hc⟩ := id ht
  intro A Q E s' k q
  exact wpAny_typeOf ⟨o, k _ _ (e ▸ ho), hc⟩ q
section
variable {X : Cx} {pins : List (Addr × Obj)} {s : Shared} {σ : L2.St} {H : Hp} {C : Addr} {x y : V} {u v : Value}
theorem RightK.type (I : Inv X pins σ H s) (h : RightK X.K C H y) (r : RelV y u) : ∃ tb, PySem.W.Looks (model X.prog X.w) s.heap (typeOf u) tb ∧ PySem.W.notFirst X.K C tb = true := by
  cases h with
  | own h =>
    cases r
    obtain ⟨_, _, J⟩ := inst_at I.hok h
    exact ⟨.ref C, J.type, by unfold PySem.W.notFirst; rw [beq_self_eq_true, Bool.true_or]⟩
  | tup h n =>
    cases r
    (obtain ⟨its, rv, ht, _⟩ := I.tuple h)
    exact ⟨_, looks_is rfl ht.typeIs, n⟩
  | lst h n =>
    cases r
    obtain ⟨its, rv, pl, _⟩ := I.list h
    exact ⟨_, looks_is rfl pl.isList.typeIs, n⟩
  | str n =>
    obtain ⟨t, rfl⟩ := r
    exact ⟨.type "str", PySem.W.Looks.of_pure (rfl), n⟩
  | non n =>
    obtain rfl : u = Value.none := r
    exact ⟨.type "NoneType", PySem.W.Looks.of_pure rfl, n⟩
end
def rEqO (K : PySem.W.Frag) (C : Addr) (sp : Sp) : R2 := fun x y H Q => ∃ a dx fs, x = .ref a ∧ H a = some (.ins C dx fs) ∧ RightK K C H y ∧ sp [x, y] H (fun v H' => ∃ c, v = .bl c ∧ Q (.bl c) H') E0
def rNeO (K : PySem.W.Frag) (C : Addr) (sp : Sp) : R2 := fun x y H Q => ∃ a dx fs, x = .ref a ∧ H a = some (.ins C dx fs) ∧ RightK K C H y ∧ sp [x, y] H (fun v H' => ∃ c, v = .bl c ∧ Q (.bl (!c)) H') E0
section
variable [TabW] {P : Program} {w : World} {K : PySem.W.Frag} {mg : Str → Option Value} {base : Heap} {X : Cx} {k : Nat} {C : Addr} {ps : List Str} {R : FR}
theorem op_eqO (F : FnM P w K mg base k C "__eq__" ps R) (hr : Room k X.A) (h1 : X.prog = P := by rfl) (h2 : X.w = w := by rfl) (h3 : X.K = K := by rfl) (h4 : X.mg = mg := by rfl) (h5 : X.base = base := by rfl) : OpR X (compareOp .Eq) (rEqO K C (spR K R)) := by
  obtain ⟨f, fd, _, M, hf, hbd⟩ := F.ex
  subst h1 h2 h3 h4 h5
  (intro pins s σ H x y v u Q I rx ry q)
  obtain ⟨a, dx, fs, rfl, ha, hR, q⟩ := q
  (obtain rfl : v = Value.ref a := rx)
  obtain ⟨tb, ht, hn⟩ := hR.type I ry
  obtain ⟨_, _, J⟩ := inst_at I.hok ha
  obtain ⟨m, hF⟩ := I.fr
  show wpAny (model X.prog X.w) X.A (richCompare .Eq (.ref a) u) (EP X pins σ Q) X.xe s
  refine PySem.W.cmp_K (op := .Eq) hr.units0 hF I.ok.mod.kin J ht hn M.at_ M.fn (wpAny_mono (call_at ⟨hr, rfl⟩ hf hbd pass0 I (vs := [.ref a, y]) (us := [.ref a, u]) (.cons rfl (.cons ry .nil)) q) (fun r s' z => ?_) fun _ _ z => z)
  obtain ⟨v, H', J, rv, c, rfl, qv⟩ := z
  cases rv
  exact ⟨.bl c, H', J, rfl, qv⟩
theorem ne_entry {prog : Program} {w : World} {A : Around} {E : Value → Shared → Prop} {s : Shared} {K : PySem.W.Frag} {x C f : Addr} {ox : Obj} {od : Option Obj} {b : Value} {R : Fin → Shared → Prop} (hu : A.units < cLine) (X : K.In s.heap) (I : PySem.W.InstAt s.heap x ox C od)
    (hs : PySem.W.findIn K (.ref C) "__eq__" = some (some (.ref f))) (hf : PySem.W.isFn K (.ref f) = true) (h : wpAny (model prog w) A (call (.ref f) [.ref x, b]) (fun v s' => ∃ c, v = .bool c ∧ R (.done (.ret (.bool (!c)))) s') E s) :
    wpAny (model prog w) A (Builtin.«object.__ne__» ⟨[.ref x, b], []⟩) R E s := by
  (unfold Builtin.«object.__ne__»)
  refine wpAny_bind (m := slotArgs "__ne__" 1 _) (wpAny_pure ?_)
  (refine wpAny_bind (wpAny_cRoomFor hu ?_))
  refine wpAny_bind (m := callSpecialIfBound? (.ref x) (Str.ofString "__eq__") [b]) (PySem.W.ifBound_K X I hs hf (wpAny_mono h (fun v s' hv => ?_) fun _ _ e => e))
  obtain ⟨c, rfl, hq⟩ := hv
  exact wpAny_bind (wpAny_truthy_bool (wpAny_pure hq))
theorem ifBound_ne {M : Model} {A : Around} {E : Value → Shared → Prop} {s : Shared} {K : PySem.W.Frag} {x C : Addr} {ox : Obj} {od : Option Obj} {args : List Value} {Q : Option Value → Shared → Prop} (X : K.In s.heap) (I : PySem.W.InstAt s.heap x ox C od) (hs : PySem.W.findIn K (.ref C) "__ne__" = some (some (.builtin "object.__ne__")))
    (h : wpAny M A (call (.builtin "object.__ne__") (.ref x :: args)) (fun v => Q (some v)) E s) : wpAny M A (callSpecialIfBound? (.ref x) "__ne__" args) Q E s := by
  have found := PySem.W.looks_findIn (M := M) X hs
  have bound := PySem.F.cmp_object.ne.bind (.ref x)
  have asked : wpAny M A (call (.builtin "object.__ne__") ([.ref x] ++ args) >>= (pure ∘ some)) Q E s := wpAny_bind (thn h fun _ _ q => wpAny_pure q)
  unfold callSpecialIfBound? bindSpecialIfBound?
  refine wpAny_holding ?_
  iterate 3 refine wpAny_bind ?_
  refine I.type.here (found.here (wpAny_bind (wpAny_askSetting ?_)))
  simp only [bound]
  split
  · exact wpAny_pure asked
  · exact wpAny_tryCatch (wpAny_pure asked)
theorem op_neO (F : FnM P w K mg base k C "__eq__" ps R) (hr : Room (k + 1) X.A) (hne : PySem.W.findIn K (.ref C) "__ne__" = some (some (.builtin "object.__ne__"))) (h1 : X.prog = P := by rfl) (h2 : X.w = w := by rfl) (h3 : X.K = K := by rfl) (h4 : X.mg = mg := by rfl) (h5 : X.base = base := by rfl) :
    OpR X (compareOp .NotEq) (rNeO K C (spR K R)) := by
  obtain ⟨f, fd, hc, M, hf, hbd⟩ := F.ex
  subst h1 h2 h3 h4 h5
  (intro pins s σ H x y v u Q I rx ry q)
  obtain ⟨a, dx, fs, rfl, ha, hR, q⟩ := q
  (obtain rfl : v = Value.ref a := rx)
  obtain ⟨tb, ht, hn⟩ := hR.type I ry
  obtain ⟨ox, od, J⟩ := inst_at I.hok ha
  obtain ⟨m, hF⟩ := I.fr
  have Y := I.kIn
  show wpAny (model X.prog X.w) X.A (richCompare .NotEq (.ref a) u) (EP X pins σ Q) X.xe s
  have sb1 : Sub X k X.A.in1 := Sub.in1 ⟨hr, rfl⟩
  have go : wpAny (model X.prog X.w) X.A (call (.builtin "object.__ne__") [.ref a, u]) (fun v s' => ∃ c, v = .bool c ∧ EP X pins σ Q v s') X.xe s := by
    refine wpAny_call (codeAny_call_builtin PySem.F.cmp_object.ne.plain PySem.F.cmpEntry_ne (PySem.W.check_slot PySem.F.cmpKind_ne PySem.F.cmpSplit_ne (J.type.andThen (PySem.W.looks_mroIn Y hc.ic.hm)) (PySem.F.cmpArgs_ne _ _) ?_))
    refine ne_entry (sb1.room.units0) Y J M.at_ M.fn (wpAny_mono (call_at sb1 hf hbd pass0 I (vs := [.ref a, y]) (us := [.ref a, u]) (.cons rfl (.cons ry .nil)) q) (fun r s' z => ?_) fun _ _ z => z)
    obtain ⟨v, H', J, rv, c, rfl, qv⟩ := z
    cases rv
    exact ⟨c, rfl, !c, rfl, .bl (!c), H', J, rfl, qv⟩
  have one : wpAny (model X.prog X.w) X.A (tryCompare (.ref a) (cmpInfo .NotEq).2.1 u) (fun r s' => ∃ v, r = some v ∧ EP X pins σ Q v s') X.xe s := by
    unfold tryCompare
    refine wpAny_bind (ifBound_ne Y J hne (wpAny_mono go (fun v s' z => ?_) fun _ _ z => z))
    obtain ⟨c, rfl, z⟩ := z
    exact wpAny_pure ⟨_, rfl, z⟩
  unfold richCompare
  simp only [oneThing_ref]
  refine wpAny_holding (wpAny_bind (wpAny_cRoomFor hr.units0 ?_))
  refine wpAny_bind (J.type.here (wpAny_bind (ht.here ?_)))
  split
  · rename_i q
    have e : PySem.W.subIn X.K tb (.ref C) = some false := by
      (rcases Bool.or_eq_true_iff.mp hn with e | e)
      · (rw [beq_iff_eq.mp e] at q; simp at q)
      · exact beq_iff_eq.mp e
    refine wpAny_bind ((PySem.W.looks_subIn Y e).here ?_)
    (simp only [Bool.false_eq_true, if_false])
    (refine wpAny_bind (wpAny_mono one (fun r s' z => ?_) fun _ _ e => e))
    obtain ⟨v, rfl, hq⟩ := z
    exact wpAny_pure hq
  · (refine wpAny_bind (wpAny_pure ?_))
    (simp only [Bool.false_eq_true, if_false])
    (refine wpAny_bind (wpAny_mono one (fun r s' z => ?_) fun _ _ e => e))
    obtain ⟨v, rfl, hq⟩ := z
    exact wpAny_pure hq
end
end TD
set_option Elab.async false
set_option linter.all false
set_option maxRecDepth 100000
set_option maxHeartbeats 4100000
namespace TD
open PySem L2 StX PySem.Spec PyProof.Rows
open Evl (Ex ex_l ex_t fresh_back sq_of st_of sz_of sz_lt)
end TD
set_option Elab.async false
set_option linter.all false
set_option maxRecDepth 100000
set_option maxHeartbeats 4100000
namespace TD
open PySem L2 StX PySem.Spec PyProof.Rows
open Evl (Ex ex_l ex_t fresh_back sq_of st_of sz_of sz_lt)
/-- what may stand on the right of == -/
inductive RightD (K : PySem.W.Frag) (C : Addr) : Dt → Prop
  | own (ps : List (Dt × Dt)) : RightD K C (oD C ps)
  | tup (ds : List Dt) (n : PySem.W.notFirst K C (.type "tuple") = true) : RightD K C (.tuple ds)
  | lst (ds : List Dt) (n : PySem.W.notFirst K C (.type "list") = true) : RightD K C (.list ds)
  | str (x : Str) (n : PySem.W.notFirst K C (.type "str") = true) : RightD K C (.str x)
  | non (n : PySem.W.notFirst K C (.type "NoneType") = true) : RightD K C .none
theorem RightD.k {K : PySem.W.Frag} {C : Addr} {G H : Hp} {v : V} {d : Dt} (h : RightD K C d) (e : Ex G H) (dv : Den K G v d) : RightK K C H v := by
  cases h with
  | own ps =>
    obtain ⟨a, dx, fs, rfl, _, hs, _⟩ := den_oD dv
    exact .own (e _ _ hs)
  | tup ds n =>
    cases dv with
    | @tup a xs _ hs hd => exact .tup (ex_t e (st_of hs)) n
  | lst ds n =>
    cases dv with
    | @lst a xs _ hs hd => exact .lst (sq_of (e _ _ hs)) n
  | str x n => cases dv; exact .str n
  | non n => cases dv; exact .non n
section
variable [TabW] {K : PySem.W.Frag} {ρ : Rho} {β β1 β2 : Bag} {ta tb te : TE} {ps : List (Dt × Dt)} {C : Addr} {x y : Dt} {c : Bool} {R : FR}
theorem d_eqO (ha : EvB K ta ρ β (oD C ps) β1) (hb : EvB K tb ρ β1 y β2) (hy : RightD K C y) (hR : R [.imm (oD C ps), .imm y] none (.bool c) none) : EvB K (tOp (rEqO K C (spR K R)) ta tb) ρ β (.bool c) β2 := ⟨hb.som.trans ha.som, fun b G H σ Q E k => ha.run b G H σ _ E fun v G1 H1 s1 k1 d1 => hb.run b G1 H1 σ _ (E.step s1 k1) fun u G2 H2 s2 k2 d2 => by
  have d1 := d1.mono s2.g
  obtain ⟨a, dx, fs, rfl, hc, hs, hp⟩ := den_oD d1
  exact ⟨a, dx, fs, rfl, s2.s _ _ hs, hy.k s2.s d2, b, G2, none, [.imm (oD C ps), .imm y], .bool c, none, s2.s, ((E.step s1 k1).step s2 k2).tabs, (fun _ z => nomatch z), .cons d1 (.cons d2 .nil), hR, rfl, fun w G3 H3 s3 k3 d3 => by
    cases d3
    exact ⟨c, rfl, k (.bl c) G3 H3 ((s1.trans (ha.som ▸ s2)).trans s3.up) (k2.same s3) (.bl c)⟩⟩⟩
theorem d_neO (ha : EvB K ta ρ β (oD C ps) β1) (hb : EvB K tb ρ β1 y β2) (hy : RightD K C y) (hR : R [.imm (oD C ps), .imm y] none (.bool c) none) : EvB K (tOp (rNeO K C (spR K R)) ta tb) ρ β (.bool (!c)) β2 := ⟨hb.som.trans ha.som, fun b G H σ Q E k => ha.run b G H σ _ E fun v G1 H1 s1 k1 d1 => hb.run b G1 H1 σ _ (E.step s1 k1) fun u G2 H2 s2 k2 d2 => by
  have d1 := d1.mono s2.g
  obtain ⟨a, dx, fs, rfl, hc, hs, hp⟩ := den_oD d1
  exact ⟨a, dx, fs, rfl, s2.s _ _ hs, hy.k s2.s d2, b, G2, none, [.imm (oD C ps), .imm y], .bool c, none, s2.s, ((E.step s1 k1).step s2 k2).tabs, (fun _ z => nomatch z), .cons d1 (.cons d2 .nil), hR, rfl, fun w G3 H3 s3 k3 d3 => by
    cases d3
    exact ⟨c, rfl, k (.bl (!c)) G3 H3 ((s1.trans (ha.som ▸ s2)).trans s3.up) (k2.same s3) (.bl (!c))⟩⟩⟩
end
end TD
set_option Elab.async false
set_option linter.all false
set_option maxRecDepth 100000
set_option maxHeartbeats 4100000
namespace TD
open PySem L2 StX PySem.Spec PyProof.Rows
open Evl (Ex ex_l ex_t fresh_back sq_of st_of sz_of sz_lt)
section
variable {X : Cx} {pins : List (Addr × Obj)} {σ : L2.St} {H : Hp} {s : Shared} {d : Addr} {o : Obj}
/-- what stands in the heap at a dict that is read: its entries, one by one (by Heap.DictOfH.raw) -/
structure Ents (H : Hp) (s : Shared) (d : Addr) (kvs : List (List Key × V)) (es : Array DictEntry) (ep : Nat) : Prop where
  raw : s.heap.DictRaw d es ep
  notMods : (d == sysModules) = false
  size : es.size = kvs.length
  few : kvs.length ≤ sizeLine
  at_ : ∀ (i : Nat) (hi : i < es.size), ∃ (k : List Key) (v : V) (q : Addr), kvs[i]? = some (k, v) ∧ es[i].key = .ref q ∧ H q = some (.tup (k.map kV)) ∧ RelV v es[i].val
theorem ents_rd {kvs : List (List Key × V)} (I : Inv X pins σ H s) (h : Rd H d (.dT kvs)) : ∃ es ep, Ents H s d kvs es ep := by
  obtain ⟨few, nm, xs, rel, dd⟩ := dt_rd I.hok h
  obtain ⟨es, ep, hr, hz, ha⟩ := dd.raw
  have hl : es.size = kvs.length := hz.trans (Paired.length rel).symm
  refine ⟨es, ep, hr, nm, hl, few, fun i hi => ?_⟩
  have hk : i < kvs.length := hl ▸ hi
  obtain ⟨y, hy, ky, vy, _⟩ := ha i hi
  obtain ⟨b, hb, e1, e2, e3⟩ := paired_get rel (List.getElem?_eq_getElem hk)
  cases hy.symm.trans hb
  exact ⟨_, _, _, List.getElem?_eq_getElem hk, ky, e2, vy.symm ▸ e3⟩
/-- the same of a locked dict, whose object is known -/
theorem ents_frz {kvs : List (List Key × V)} (I : Inv X pins σ H s) (h : H d = some (.frz o (.dT kvs))) : ∃ es ep, s.heap.get? d = some o ∧ o.ExactDict ∧ o.data = .dict es ep ∧ Ents H s d kvs es ep := by
  have hg : s.heap.get? d = some o := (I.hok d _ h).1
  obtain ⟨es, ep, E⟩ := ents_rd I (.inr ⟨o, h⟩)
  obtain ⟨o', hg', hx, hd⟩ := E.raw
  cases hg.symm.trans hg'
  exact ⟨es, ep, hg, hx, hd, E⟩
end
/-- the values of the locked dict at d, in their order -/
def Itdt (d : Addr) (o : Obj) (kvs : List (List Key × V)) : It :=
  ⟨fun i H => H d = some (.frz o (.dT kvs)) ∧ i < kvs.length, fun i H x H' => H' = H ∧ ∃ k, kvs[i]? = some (k, x), fun i H => H d = some (.frz o (.dT kvs)) ∧ kvs.length ≤ i⟩
section
variable {P : Program}
variable {w : World} {K : PySem.W.Frag} {tg : Expr} {d : Addr} {o : Obj} {es : Array DictEntry} {ep : Nat}
/-- an iterator over the entries of a locked dict, told as a turn: it looks at the dict and changes itself alone -/
theorem turn_of_entries {J : It} {kvs : List (List Key × V)} {tn : Nat → Heap → Prop} (it : Addr) (hod : o.data = .dict es ep)
    (go : ∀ i H, J.go i H → H d = some (.frz o (.dT kvs)) ∧ i < kvs.length) (stop : ∀ i H, J.stop i H → H d = some (.frz o (.dT kvs)) ∧ kvs.length ≤ i)
    (own : ∀ i h, tn i h → ∃ oi, h.get? it = some oi ∧ (∀ v, oi.data ≠ .cell v) ∧ ∀ h', h'.get? it = some oi → tn i h')
    (item : ∀ (X : Cx) (pins : List (Addr × Obj)) (s : Shared) (σ : L2.St) (H : Hp) (i : Nat) (E : Value → Shared → Prop), Inv X pins σ H s → FpOk X pins H it → tn i s.heap → (En : Ents H s d kvs es ep) → (hi : i < es.size) →
      wpAny (model X.prog X.w) X.A (pyNext (.ref it)) (fun r s1 => ∃ u, r = some u ∧ wpAny (model X.prog X.w) X.A (letOwnedTupleGo tg (.ref it) u) (fun _ s2 => ∃ x H', Inv X pins σ H' s2 ∧ RelV x u ∧ J.yld i H x H' ∧ tn (i + 1) s2.heap ∧ H' it = none) E s1) E s)
    (done : ∀ (A : Around) (s : Shared) (i : Nat) (Q : Option Value → Shared → Prop) (E : Value → Shared → Prop), A.handled = none → tn i s.heap → s.heap.DictRaw d es ep → es.size ≤ i → es.size = kvs.length → (∀ h', Heap.ExtBut it s.heap h' → Q none { s with heap := h' }) → wpAny (model P w) A (pyNext (.ref it)) Q E s)
    (self : ∀ (A : Around) (i : Nat) (s : Shared) (Q : Value → Shared → Prop) (E : Value → Shared → Prop), tn i s.heap → Q (.ref it) s → wpAny (model P w) A (pyIter (.ref it)) Q E s) : Turn P w K tg J [it] it tn := by
  have entries : ∀ {X : Cx} {pins : List (Addr × Obj)} {σ : L2.St} {H : Hp} {s : Shared}, Inv X pins σ H s → H d = some (.frz o (.dT kvs)) → Ents H s d kvs es ep := fun I hd => by
    obtain ⟨es', ep', _, _, hd', E⟩ := ents_frz I hd
    cases hod.symm.trans hd'
    exact E
  refine ⟨List.mem_singleton.mpr rfl, fun i h st b hb => ?_, fun i h h' st k => ?_, fun X eP ew _ _ i pins s σ H E I hf st g => ?_, fun X eP ew _ hc i pins s σ H E I hf st g => ?_, self⟩
  · obtain ⟨oi, g, n, _⟩ := own i h st
    exact ⟨oi, List.mem_singleton.mp hb ▸ g, n⟩
  · obtain ⟨oi, g, _, m⟩ := own i h st
    exact m h' (k it (List.mem_singleton.mpr rfl) oi g)
  · have En := entries I (go i H g).1
    have hi : i < es.size := En.size ▸ (go i H g).2
    cases eP
    cases ew
    refine wpAny_mono (item X pins s σ H i E I (hf it (List.mem_singleton.mpr rfl)) st En hi) (fun r s1 ⟨u, er, q⟩ => ⟨u, er, wpAny_mono q (fun _ s2 ⟨x, H', I', rx, y, t, n⟩ => ⟨x, H', I', rx, y, t, fun b hb => List.mem_singleton.mp hb ▸ n⟩) fun _ _ z => z⟩) fun _ _ z => z
  · have En := entries I (stop i H g).1
    obtain ⟨f0, f1, _, f3, f4, f5⟩ := hf it (List.mem_singleton.mpr rfl)
    cases eP
    cases ew
    exact done X.A s i _ E (I.ok.hd hc) st En.raw (En.size ▸ (stop i H g).2) En.size fun h' eb => ⟨rfl, I.turned (t' := s.toks) (fun b ob hb => eb b ob hb) f0 f1 f3 f4 f5⟩
theorem turn_valsT {kvs : List (List Key × V)} (it : Addr) (hod : o.data = .dict es ep) : Turn P w K tg (Itdt d o kvs) [it] it (fun i h => h.IsValIter it d i kvs.length ep) :=
  turn_of_entries (kvs := kvs) (es := es) (ep := ep) it hod (fun _ _ g => g) (fun _ _ g => g) (fun i h ⟨oi, g, c, dd⟩ => ⟨oi, g, fun v z => Data.noConfusion (dd.symm.trans z), fun h' g' => ⟨oi, g', c, dd⟩⟩)
    (fun X pins s σ H i E I hf st En hi => by
      rw [← En.size] at st
      obtain ⟨k, v, q, hkv, _, _, rv⟩ := En.at_ i hi
      obtain ⟨f0, f1, _, f3, f4, f5⟩ := hf
      refine wpAny_pyNext_values_item_raw st En.raw hi fun h' st' sb => ⟨_, rfl, ?_⟩
      (obtain ⟨oi, e, c, dd⟩ := id st')
      exact go_of (s := { s with heap := h' }) e c dd (by decide) ⟨v, H, I.turned (t' := s.toks) (fun b ob hb g => (sb.2 b hb).trans g) f0 f1 f3 f4 f5, rv, ⟨rfl, k, hkv⟩, En.size ▸ st', f0⟩)
    (fun A s i Q E hh st hr hi hz q => by
      rw [← hz] at st
      exact wpAny_pyNext_values_end_raw hh st hr hi q)
    (fun A i s Q E st q => wpAny_pyIter_valiter st q)
end
section
variable [TabW] {K : PySem.W.Frag} {b : Addr} {ρ : Rho} {β β1 : Bag} {td te : TE} {j : Nat} {G H G1 H1 : Hp} {qs : List (List Int × Dt)} {vs : List Nat}
theorem den_ints : ∀ ns : List Int, DenL K G (ns.map V.int) (ns.map PyData.int)
  | [] => .nil
  | n :: ns => .cons (.int n) (den_ints ns)
end
end TD
set_option Elab.async false
set_option linter.all false
set_option maxRecDepth 100000
set_option maxHeartbeats 4100000
namespace TD
open PySem L2 StX PySem.Spec PyProof.Rows
open Evl (Ex ex_l ex_t fresh_back sq_of st_of sz_of sz_lt)
end TD
set_option Elab.async false
set_option linter.all false
set_option maxRecDepth 100000
set_option maxHeartbeats 4100000
namespace TD
open PySem L2 StX PySem.Spec PyProof.Rows
open Evl (Ex ex_l ex_t fresh_back sq_of st_of sz_of sz_lt)
section
variable {prog : Program}
variable {w : World} {A : Around} {E : Value → Shared → Prop}
abbrev TKm (P : Program) (w : World) : HeapKind P w (List Key) := tupleKind (mixKind P w)
theorem tk_keep {h h' : Heap} {k : List Key} {a : Addr} (e : (TKm prog w).is h k a) (g : ∀ o, h.get? a = some o → h'.get? a = some o) : (TKm prog w).is h' k a := by
  obtain ⟨o, its, n, h1, r⟩ := e
  exact ⟨o, its, n, g _ h1, r⟩
/-- storing pairs whose keys are all unlike appends them -/
theorem stored_all {K : Type} [DecidableEq K] : ∀ (ps acc : List (K × Addr × Value)), ((acc ++ ps).map (·.1)).Nodup → storedAllH acc ps = acc ++ ps
  | [], acc, _ => (List.append_nil acc).symm
  | (k, a, v) :: ps, acc, h => by
    have hno : atKey acc k = none := by
      unfold atKey
      rw [Option.map_eq_none_iff, List.find?_eq_none]
      intro x hx z
      rw [List.map_append, List.nodup_append] at h
      exact h.2.2 x.1 (List.mem_map_of_mem hx) k (by simp) (by simpa using z)
    show storedAllH (storedH acc k a v) ps = _
    rw [storedH_new hno, stored_all ps _ (by simpa using h), List.append_assoc]
    rfl
/-- dict(l), l a list of pairs whose keys are all unlike (by the library's rule for dict of pairs) -/
theorem call_pairsT {s : Shared} {l : Addr} {ol : Obj} {items : Array Value} {n : Nat} {prs : List (List Key × Addr × Value)} {Q : Value → Shared → Prop} (hh : A.handled = none) (hu : A.units + 2 < cLine) (hl : s.heap.get? l = some ol) (hc : ol.cls = .type "list") (hd : ol.dict = none)
    (hdat : ol.data = .seq items n) (hsz : items.size = prs.length) (hln : prs.length ≤ sizeLine) (hnd : (prs.map (·.1)).Nodup)
    (ht : ∀ (j : Nat) (q : List Key × Addr × Value), prs[j]? = some q → ∃ b : Addr, items[j]? = some (.ref b) ∧ IsTup s.heap b #[.ref q.2.1, q.2.2] ∧ (TKm prog w).is s.heap q.1 q.2.1)
    (h : ∀ h' tk, h'.DictOfH (TKm prog w) s.heap.objs.size prs → (∀ b o, s.heap.get? b = some o → h'.get? b = some o) → Q (.ref s.heap.objs.size) { s with heap := h', toks := tk }) : wpAny (model prog w) A (call (.type "dict") [.ref l]) Q E s := by
  let place : Nat → Addr := fun j => match items[j]? with
    | some (.ref b) => b
    | _ => 0
  have pair : ∀ (j : Nat) (k v : Value), (prs.map fun q => (Value.ref q.2.1, q.2.2))[j]? = some (k, v) → items[j]? = some (.ref (place j)) ∧ PairAt s.heap (place j) k v := fun j k v e => by
    rw [List.getElem?_map] at e
    obtain ⟨q, eq, e⟩ := Option.map_eq_some_iff.mp e
    obtain ⟨b, eb, tb, _⟩ := ht j q eq
    have pb : place j = b := by
      show (match items[j]? with | some (.ref b) => b | _ => 0) = b
      rw [eb]
    cases e
    exact pb ▸ ⟨eb, .inl tb⟩
  refine call_dict_pairsH (knd := TKm prog w) (ps := prs) (PairArg.list l items place (prs.map fun q => (Value.ref q.2.1, q.2.2))) hh (by show A.units + 1 + 1 < cLine; omega) ⟨⟨ol, n, hl, hc, hd, hdat⟩, by rw [hsz, List.length_map], pair⟩ ⟨(List.length_map ..).symm, fun i key v e => ?_⟩
    (fun h' keep x hx => ?_) (by rw [List.length_map]; exact hln) fun h' tk hd' keep => h h' tk ?_ fun b o e => keep b o List.not_mem_nil e
  · have e' : (prs.map fun q => (Value.ref q.2.1, q.2.2))[i]? = some (key, v) := e
    rw [List.getElem?_map] at e'
    obtain ⟨q, eq, e'⟩ := Option.map_eq_some_iff.mp e'
    cases e'
    exact ⟨q.1, q.2.1, eq, rfl⟩
  · obtain ⟨j, ej⟩ := List.getElem?_of_mem hx
    obtain ⟨_, _, _, is⟩ := ht j x ej
    exact tk_keep is fun o e => keep _ o (Nat.ne_of_lt (Heap.lt_size e)) List.not_mem_nil e
  · have e := stored_all prs [] hnd
    rw [List.nil_append] at e
    exact e ▸ hd'
end
section
variable {X : Cx}
theorem pairs_ofT {pins : List (Addr × Obj)} {σ : L2.St} {H : Hp} {s : Shared} (I : Inv X pins σ H s) : ∀ {ps : List Addr} {kvs : List (List Key × V)}, Paired (fun p kv => ∃ t, SqT X.K H p [.ref t, kv.2] ∧ H t = some (.tup (kv.1.map kV))) ps kvs →
    ∃ prs : List (List Key × Addr × Value), KT H kvs prs ∧ prs.length = ps.length ∧ ∀ (j : Nat) (q : List Key × Addr × Value), prs[j]? = some q → ∃ b : Addr, ps[j]? = some b ∧ IsTup s.heap b #[.ref q.2.1, q.2.2] ∧ (TKm X.prog X.w).is s.heap q.1 q.2.1
  | _, _, .nil => (⟨[], .nil, rfl, fun j q e => by simp at e⟩)
  | _, _, (.cons (a := p) (b := kv) h t) => by
    obtain ⟨prs, r, hl, hp⟩ := pairs_ofT I t
    obtain ⟨tt, h, hk⟩ := h
    (obtain ⟨its, rv, ht, _⟩ := I.tuple h)
    (obtain ⟨u, y, ei, ru, ry⟩ := vals2 rv)
    subst ei
    obtain rfl : u = Value.ref tt := ru
    refine ⟨(kv.1, tt, y) :: prs, .cons ⟨rfl, hk, ry⟩ r, by rw [List.length_cons, List.length_cons, hl], fun j q e => ?_⟩
    cases j with
    | zero =>
      have e' : (kv.1, tt, y) = q := Option.some.inj e
      subst e'
      exact ⟨p, rfl, ht, key_of I.hok hk⟩
    | succ j =>
      obtain ⟨b, e1, e2, e3⟩ := hp j q (by simpa using e)
      exact ⟨b, by simpa using e1, e2, e3⟩
/-- dict(xs), xs a list of pairs: tuples of ints for keys, all unlike -/
def rDictT (K : PySem.W.Frag) : List V → Hp → VK → Prop := fun xs H Q => ∃ (a : Addr) (ps : List Addr) (kvs : List (List Key × V)), xs = [.ref a] ∧ SqL K H a (ps.map V.ref) ∧ Paired (fun p kv => ∃ t, SqT K H p [.ref t, kv.2] ∧ H t = some (.tup (kv.1.map kV))) ps kvs ∧ (kvs.map (·.1)).Nodup ∧
    ∀ p, H p = none → Q (.ref p) (upd H p (.dT kvs))
theorem c_dictT {K : PySem.W.Frag} {k : Nat} (hr : Room k X.A) (hcalm : X.calm = true) (hK : X.K = K := by rfl) : CallR X (.type "dict") (rDictT K) := by
  subst hK
  (intro pins s σ H xs us Q I r q)
  obtain ⟨a, ps, kvs, ex, hq, hp, hn, q⟩ := q
  subst ex
  obtain ⟨u, eu, rx⟩ := vals1 r
  subst eu
  cases rx
  (obtain ⟨its, rv, pl, hz⟩ := I.list hq)
  have ei := refs_at rv
  subst ei
  rw [List.length_map] at hz
  obtain ⟨prs, rel, hl, hpr⟩ := pairs_ofT I hp
  (obtain ⟨o, n, ho, hc, hd, hdat⟩ := pl)
  have hkeys : prs.map (·.1) = kvs.map (·.1) := by
    have go : ∀ {l : List (List Key × V)} {m : List (List Key × Addr × Value)}, KT H l m → m.map (·.1) = l.map (·.1) := by
      intro l m q
      induction q with
      | nil => rfl
      | cons hq _ ih => rw [List.map_cons, List.map_cons, ih, hq.1]
    exact go rel
  refine call_pairsT (prs := prs) (I.ok.hd hcalm) (by have := hr.un; omega) ho hc hd hdat (by simp [hl]) (by rw [hl]; exact hz) (by rw [hkeys]; exact hn) (fun j q' e => ?_) fun h' tk hd' k => ?_
  · obtain ⟨b, e1, e2, e3⟩ := hpr j q' e
    exact ⟨b, by simp [e1], e2, e3⟩
  · (have hm : (s.heap.objs.size == sysModules) = false := beq_eq_false_iff_ne.mpr (Nat.ne_of_gt I.big))
    have hlen : kvs.length ≤ sizeLine := by
      rw [rel.length, hl]
      exact hz
    (have fr : H s.heap.objs.size = none := I.hok.fresh (Nat.le_refl _))
    obtain ⟨o', es, ep, h1, h2, h3, h4, h5, h6⟩ := hd'
    exact ⟨.ref s.heap.objs.size, upd H s.heap.objs.size (.dT kvs), I.laid (t' := tk) k (Nat.le_refl _) (show ObjOk X.prog X.w _ _ _ (.dT kvs) from ⟨hlen, hm, prs, rel.keeps fun c ys ec => by rw [upd_ne (ne_of_none ec fr)]; exact ec, o', es, ep, h1, h2, h3, h4, h6⟩), rfl, q _ fr⟩
end
section
variable [TabW] {K : PySem.W.Frag} {ρ : Rho} {β β1 : Bag} {te : TE} {G H : Hp}
theorem int_tup {t : Addr} {ns : List Int} (h : DenL K G xs (ns.map PyData.int)) : xs = ns.map V.int := by
  induction ns generalizing xs with
  | nil => cases h; rfl
  | cons n ns ih =>
    cases h with
    | cons h1 h2 =>
      cases h1
      rw [List.map_cons, ih h2]
theorem pairs_den (e : Ex G H) : ∀ {qs : List (List Int × Dt)} {vs : List V}, DenL K G vs (qs.map fun q => PyData.tuple [tupJ q.1, q.2]) →
    ∃ (ps : List Addr) (kvs : List (List Int × V)), vs = ps.map V.ref ∧ DenQ K G kvs qs ∧ Paired (fun p kv => ∃ t, SqT K H p [.ref t, kv.2] ∧ H t = some (.tup (kv.1.map kV))) ps (keysT kvs)
  | [], _, h => by
    cases h
    exact ⟨[], [], rfl, .nil, .nil⟩
  | q :: qs, _, h => by
    cases h with
    | cons h1 h2 =>
      obtain ⟨ps, kvs, rfl, hq, hp⟩ := pairs_den e h2
      cases h1 with
      | @tup a xs _ hs hd =>
        cases hd with
        | cons d1 d2 =>
          cases d2 with
          | @cons v _ _ _ d2 d3 =>
            cases d3
            cases d1 with
            | @tup t ys _ ht hy =>
              have ey := int_tup (t := t) hy
              subst ey
              refine ⟨a :: ps, (q.1, v) :: kvs, rfl, .cons d2 hq, .cons ⟨t, st_of (e _ _ hs), ?_⟩ hp⟩
              have z := e _ _ ht
              show H t = some (.tup ((q.1.map Sum.inl).map kV))
              rw [List.map_map]
              exact z
theorem inl_inj : ∀ {a b : List Int}, a.map (Sum.inl : Int → Key) = b.map Sum.inl → a = b
  | [], [], _ => rfl
  | [], _ :: _, h => nomatch h
  | _ :: _, [], h => nomatch h
  | x :: a, y :: b, h => by
    (rw [List.map_cons, List.map_cons] at h)
    injection h with h1 h2
    rw [inl_inj h2, Sum.inl.inj h1]
theorem d_dictT {qs : List (List Int × Dt)} (h : EvB K te ρ β (.list (qs.map fun q => PyData.tuple [tupJ q.1, q.2])) β1) (hn : (qs.map (·.1)).Nodup) : EvB K (tCB (rDictT K) (tCons te tNil)) ρ β (dT qs) β1 := d_c1 h fun b G H v Q e dv k => by
  cases dv with
  | @lst a xs _ hs hd =>
    obtain ⟨ps, kvs, rfl, hq, hp⟩ := pairs_den e hd
    have ek : (keysT kvs).map (·.1) = (qs.map (·.1)).map (·.map Sum.inl) := by
      rw [← hq.keys]
      unfold keysT
      rw [List.map_map, List.map_map] <;> rfl
    refine ⟨a, ps, keysT kvs, rfl, sq_of (e _ _ hs), hp, ?_, fun p hp => ?_⟩
    · rw [ek]
      exact hn.map _ fun x y ne z => ne (inl_inj z)
    · have n := Step.new (b := b) (m := false) (o := .dT (keysT kvs)) e hp
      exact k (.ref p) _ _ n (.dcT (.inl upd_same) ((hq.mono n.g).toT))
end
end TD
set_option Elab.async false
set_option linter.all false
set_option maxRecDepth 100000
set_option maxHeartbeats 4100000
namespace TD
open PySem L2 StX PySem.Spec PyProof.Rows
open Evl (Ex ex_l ex_t fresh_back sq_of st_of sz_of sz_lt)
section
variable {prog : Program}
variable {w : World} {A : Around} {E : Value → Shared → Prop} {s : Shared}
theorem dict_showT {env : Env} {keys : List (Option Expr)} {values : List Expr} {pos : Pos} {Q : Value → Shared → Prop} (hu : (TKm prog w).room A) (hall : keys.all (·.isSome) = true) (hl : keys.length = values.length) (h0 : keys ≠ []) (hlen : keys.length ≤ 15)
    (h : wpAny (model prog w) A (evalPairs (pairTrees keys values env pos)) (fun vs s₁ => ∃ ps, CarriesH (TKm prog w) s₁.heap vs ps ∧ s₁.heap.DictOfH (TKm prog w) s.heap.objs.size [] ∧
      ∀ h' tk, h'.DictOfH (TKm prog w) s.heap.objs.size (storedAllH [] ps) → Heap.SameBut s.heap.objs.size s₁.heap h' → Q (.ref s.heap.objs.size) { s₁ with heap := h', toks := tk }) E { s with heap := s.heap.push { cls := .type "dict", data := .dict #[] } }) : wpAny (model prog w) A (eval (.Dict keys values pos) env) Q E s := by
  have len : (pairTrees keys values env pos).length = keys.length := pairTrees_length keys values env pos hall hl
  have some_ : pairTrees keys values env pos ≠ [] := List.ne_nil_of_length_pos (len.symm ▸ List.length_pos_iff.mpr h0)
  rw [arm_eval_Dict, zip_pairTrees keys values env pos hall hl, dictDisplay_pairs _ some_ (by omega)]
  refine wpAny_bind (wpAny_standAt (wpAny_bind (wpAny_subDictH (knd := TKm prog w) (Q := fun d s1 => wpAny (model prog w) A (pure (Value.ref d)) Q E s1) hu (len.symm ▸ hlen) ?_)))
  exact wpAny_mono h (fun vs s1 ⟨ps, c, m, q⟩ => ⟨ps, c, m, fun h1 tk d1 k1 => wpAny_pure (q h1 tk d1 k1)⟩) fun _ _ z => z
end
section
variable {X : Cx}
theorem carriesT {pins : List (Addr × Obj)} {σ : L2.St} {H : Hp} {s : Shared} (I : Inv X pins σ H s) : ∀ {xs : List (List Key × Addr × V)} {ws : List (Value × Value)}, VV (xs.map fun x => (V.ref x.2.1, x.2.2)) ws → (∀ x ∈ xs, H x.2.1 = some (.tup (x.1.map kV))) →
    ∃ rs : List (List Key × Addr × Value), CarriesH (TKm X.prog X.w) s.heap ws rs ∧ KT H (xs.map fun x => (x.1, x.2.2)) rs ∧ rs.map (·.1) = xs.map (·.1)
  | [], _, r, _ => by rw [List.map_nil] at r; cases r; exact ⟨[], True.intro, .nil, rfl⟩
  | x :: xs, _, r, hx => by
    rw [List.map_cons] at r
    cases r with
    | @cons a b as bs h t =>
      obtain ⟨rs, c, q, e⟩ := carriesT I t fun y hy => hx y (List.mem_cons_of_mem _ hy)
      have hk := hx x (List.mem_cons_self ..)
      obtain ⟨b1, b2⟩ := b
      obtain rfl : b1 = Value.ref x.2.1 := h.1
      exact ⟨(x.1, x.2.1, b2) :: rs, ⟨rfl, rfl, key_of I.hok hk, c⟩, .cons ⟨rfl, hk, h.2⟩ q, by rw [List.map_cons, List.map_cons, e]⟩
/-- {k: v, ..} with tuples for keys: the new dict stands empty while the pairs are made -/
def tDispT (trs : List (TE × TE)) : TE := fun σ H Q => ∀ p, H p = none → tPairs trs σ (upd H p (.dT [])) fun ps H2 => H2 p = some (.dT []) ∧ ∃ xs : List (List Key × Addr × V), ps = xs.map (fun x => (V.ref x.2.1, x.2.2)) ∧ (∀ x ∈ xs, H2 x.2.1 = some (.tup (x.1.map kV))) ∧ (xs.map (·.1)).Nodup ∧ xs.length ≤ 15 ∧ Q (.ref p) (upd H2 p (.dT (xs.map fun x => (x.1, x.2.2))))
section
variable {pins : List (Addr × Obj)} {σ : L2.St} {H : Hp} {s : Shared}
/-- an empty dict is laid behind all else -/
theorem disp_open (I : Inv X pins σ H s) : Inv X pins σ (upd H s.heap.objs.size (.dT [])) { s with heap := s.heap.push { cls := .type "dict", data := .dict #[] } } :=
  I.laid (t' := s.toks) (fun _ _ q => Heap.get?_push_of_some _ q) (Nat.le_refl _) (dt_empty s.heap I.big)
/-- an empty dict that was given pairs with unlike keys -/
theorem disp_fill {a : Addr} {xs : List (List Key × Addr × V)} {rs : List (List Key × Addr × Value)} {h' : Heap} {tk : Nat} (I : Inv X pins σ H s) (e : H a = some (.dT [])) (rk : KT H (xs.map fun x => (x.1, x.2.2)) rs) (ek : rs.map (·.1) = xs.map (·.1)) (nd : (xs.map (·.1)).Nodup) (few : xs.length ≤ 15)
    (now : h'.DictOfH (TKm X.prog X.w) a (storedAllH [] rs)) (same : Heap.SameBut a s.heap h') : Inv X pins σ (upd H a (.dT (xs.map fun x => (x.1, x.2.2)))) { s with heap := h', toks := tk } := by
  have all : storedAllH [] rs = rs := stored_all rs [] (by rw [List.nil_append, ek]; exact nd)
  rw [all] at now
  have other : ∀ c ys, H c = some (.tup ys) → c ≠ a := fun c ys q z => by
    rw [z, e] at q
    cases q
  have size : (xs.map fun x => (x.1, x.2.2)).length ≤ sizeLine := by
    (rw [List.length_map, sizeLine_eq])
    omega
  have sys := (dt_of I.hok e).2.1
  obtain ⟨o, es, ep, at_, cls, plain, data, _, rel⟩ := now
  exact d_write I (e ▸ True.intro) same ⟨o, at_⟩ ⟨size, sys, rs, rk.keeps fun c ys q => (upd_ne (other c ys q)).trans q, o, es, ep, at_, cls, plain, data, rel⟩
end
theorem pe_dispT {k : Nat} {pos : Pos} {keys : List (Option Expr)} {values : List Expr} {trs : List (TE × TE)} (hr : Room k X.A) (h : PPs X pos keys values trs) (hall : keys.all (·.isSome) = true) (hl : keys.length = values.length) (h0 : keys ≠ [])
    (h15 : keys.length ≤ 15) : PE X (.Dict keys values pos) (tDispT trs) := by
  constructor
  intro pins s σ H Q I q
  have room : (TKm X.prog X.w).room X.A := show X.A.units < cLine by have := hr.un; omega
  have pairs := h.run pins _ σ _ _ (disp_open I) (q s.heap.objs.size (I.hok.fresh (Nat.le_refl _)))
  refine dict_showT room hall hl h0 h15 (thn pairs ?_)
  rintro ws s2 ⟨_, H2, J, rel, e, xs, rfl, keys_, nd, few, out⟩
  obtain ⟨rs, c, rk, ek⟩ := carriesT J rel keys_
  obtain ⟨vs, r, dict⟩ := (dt_of J.hok e).2.2
  cases r
  exact ⟨rs, c, dict, fun h1 tk now same => ⟨.ref s.heap.objs.size, _, disp_fill J e rk ek nd few now same, rfl, out⟩⟩
end
end TD
set_option Elab.async false
set_option linter.all false
set_option maxRecDepth 100000
set_option maxHeartbeats 4100000
namespace TD
open PySem L2 StX PySem.Spec PyProof.Rows
open Evl (Ex ex_l ex_t fresh_back sq_of st_of sz_of sz_lt)
inductive PrD [TabW] (K : PySem.W.Frag) (ρ : Rho) (β : Bag) : List (TE × TE) → List (List Int × Dt) → Prop
  | nil : PrD K ρ β [] []
  | cons {tk tv : TE} {k : List Int} {d : Dt} {trs : List (TE × TE)} {qs : List (List Int × Dt)} : EvB K tk ρ β (tupD k) β → EvB K tv ρ β d β → PrD K ρ β trs qs → PrD K ρ β ((tk, tv) :: trs) ((k, d) :: qs)
section
variable [TabW] {K : PySem.W.Frag} {ρ : Rho} {β : Bag} {b : Addr} {D : Addr} {σ : L2.St}
theorem pairs_go : ∀ {trs : List (TE × TE)} {qs : List (List Int × Dt)}, PrD K ρ β trs qs → ∀ {G H : Hp} {Q : List (V × V) → Hp → Prop}, (β.isSome = true → D ≠ b) → EnvD K b β G H σ ρ → G D = none → H D = some (.dT []) →
    (∀ (xs : List (List Int × Addr × V)) (G2 H2 : Hp), Step b β.isSome G H G2 H2 → BagOk b β G2 H2 → G2 D = none → H2 D = some (.dT []) → (∀ x ∈ xs, G2 x.2.1 = some (.tup ((keyL x.1).map kV))) → DenQ K G2 (xs.map fun x => (x.1, x.2.2)) qs → Q (xs.map fun x => (V.ref x.2.1, x.2.2)) H2) → tPairs trs σ H Q
  | _, _, .nil, G, H, Q, nb, E, gD, hD, k => k [] G H (Step.refl E.sub) E.bagk gD hD (fun x hx => nomatch hx) .nil
  | _, _, .cons (k := kk) hk hv r, G, H, Q, nb, E, gD, hD, k => hk.run b G H σ _ E fun v G3 H3 s3 k3 d3 => hv.run b G3 H3 σ _ (E.step s3 k3) fun z G4 H4 s4 k4 d4 => by
    obtain ⟨c, rfl, hc⟩ := den_key d3
    have nt : NoT (HO.dT ([] : List (List Key × V))) := ⟨fun _ z => (nomatch z), fun _ z => (nomatch z)⟩
    have hH3 := s3.keep D _ nb nt hD
    have hH4 := s4.keep D _ nb nt hH3
    have gD3 := s3.fresh D _ gD nt hD
    have gD4 := s4.fresh D _ gD3 nt hH3
    refine pairs_go r nb ((E.step s3 k3).step s4 k4) gD4 hH4 fun xs G2 H2 s2 k2 gD2 hH2 ht hq => ?_
    refine k ((kk, c, z) :: xs) G2 H2 ((s3.trans s4).trans s2) k2 gD2 hH2 (fun x hx => ?_) (.cons (d4.mono s2.g) hq)
    (rcases List.mem_cons.mp hx with rfl | hx)
    · exact s2.g _ _ (s4.g _ _ hc)
    · exact ht x hx
theorem d_dispT {trs : List (TE × TE)} {qs : List (List Int × Dt)} (h : PrD K ρ β trs qs) (hn : (qs.map (·.1)).Nodup) (hz : qs.length ≤ 15) : EvB K (tDispT trs) ρ β (dT qs) β := by
  refine ⟨rfl, fun b G H σ Q E k => ?_⟩
  intro D hD
  have nb := bag_ne E.bagk rfl hD
  have gD := fresh_back E.sub hD
  have s0 : Step b β.isSome G H G (upd H D (.dT [])) := (Step.refl E.sub).mutM (Gone.none hD) gD (MuAt.none hD)
  have k0 : BagOk b β G (upd H D (.dT [])) := E.bagk.mut nb
  refine pairs_go h nb (E.step s0 k0) gD upd_same fun xs G2 H2 s2 k2 gD2 hH2 ht hq => ⟨hH2, xs.map fun x => (keyL x.1, x.2.1, x.2.2), by rw [List.map_map] <;> rfl, fun x hx => ?_, ?_, ?_, ?_⟩
  · obtain ⟨y, hy, rfl⟩ := List.mem_map.mp hx
    exact s2.s _ _ (ht y hy)
  · have e : xs.map (·.1) = qs.map (·.1) := by
      rw [← hq.keys, List.map_map]
      rfl
    rw [← e] at hn
    rw [List.map_map]
    show (xs.map fun x => keyL x.1).Nodup
    rw [show (xs.map fun x => keyL x.1) = (xs.map (·.1)).map keyL from List.map_map.symm]
    exact List.Pairwise.map keyL (fun a b h z => h (keyL_inj z)) hn
  · have := hq.length
    rw [List.length_map] at this ⊢
    omega
  · rw [List.map_map]
    show Q (.ref D) (upd H2 D (.dT (xs.map fun x => (keyL x.1, x.2.2))))
    rw [show (xs.map fun x => (keyL x.1, x.2.2)) = keysT (xs.map fun x => (x.1, x.2.2)) from by rw [show keysT (xs.map fun x => (x.1, x.2.2)) = (xs.map fun x => (x.1, x.2.2)).map fun q => (keyL q.1, q.2) from rfl, List.map_map]; rfl]
    have s3 : Step b β.isSome G H G2 (upd H2 D (.dT (keysT (xs.map fun x => (x.1, x.2.2))))) := (s0.trans s2).mutM (Gone.none hD) gD2 (MuAt.dT hH2)
    have s4 := s3.ice (u := .dT (keysT (xs.map fun x => (x.1, x.2.2)))) (Gone.none hD) gD2 upd_same (fun _ z => nomatch z)
    exact k (.ref D) _ _ s4 ((k2.mut nb).ice nb) (.dcT (.inl upd_same) (hq.mono (Ex.new gD2)).toT)
end
end TD
set_option Elab.async false
set_option linter.all false
set_option maxRecDepth 100000
namespace TD
open PySem L2
end TD
set_option Elab.async false
set_option linter.all false
set_option maxRecDepth 100000
set_option maxHeartbeats 4100000
namespace TD
open PySem L2 StX PySem.Spec PyProof.Rows
end TD
set_option Elab.async false
set_option linter.all false
set_option maxRecDepth 100000
set_option maxHeartbeats 2000100
namespace TD
open PySem L2 StX PySem.Spec PyProof.Rows
theorem getT_cons {α : Type} (q : List Int × α) (qs : List (List Int × α)) (k : List Int) : getT (q :: qs) k = if q.1 = k then some q.2 else getT qs k := by
  unfold getT
  by_cases h : q.1 = k
  · rw [if_pos h, List.find?_cons_of_pos (by simpa using h)] <;> rfl
  · rw [if_neg h, List.find?_cons_of_neg (by simpa using h)]
variable [TabW]
end TD
set_option Elab.async false
set_option linter.all false
set_option maxRecDepth 100000
set_option maxHeartbeats 2000200
namespace TD
open PySem L2 StX PySem.Spec PyProof.Rows
open Evl (Ex ex_l ex_t fresh_back sq_of st_of sz_of sz_lt)
abbrev NewK [TabW] (K : PySem.W.Frag) (b : Addr) (m : Bool) (β : Bag) (G H : Hp) (d : Dt) (Q : VK) : Prop := ∀ p u G2 H2 Hb, Step b m G H G2 Hb → Gone Hb p → Step b m G2 Hb G2 H2 → BagOk b β G2 H2 → G2 p = none → (β.isSome = true → p ≠ b) → H2 p = some u → Held K G2 u d → Q (.ref p) H2
section
variable [TabW] {K : PySem.W.Frag} {b : Addr} {ρ ρ1 ρ2 : Rho} {β β1 β2 β3 : Bag} {ta : TA} {te ty : TE} {tt : TT} {ts tu tv tw : TS} {d d1 d2 x : Dt} {ds : List Dt} {o : Out} {c : Bool} {i j : Nat} {G H G0 H0 G1 H1 G2 H2 : Hp} {σ : L2.St} {p : Addr} {qs : List (List Int × Dt)}
theorem NewK.of {m : Bool} {Q : VK} (k : NewK K b m β G H d Q) (s : Step b m G H G1 H1) : NewK K b m β G1 H1 d Q := fun p u G2 H2 Hb s0 => k p u G2 H2 Hb (s.trans s0)
/-- dict(pairs) made anew -/
theorem en_dictT (h : EvB K te ρ β (.list (qs.map fun q => PyData.tuple [tupJ q.1, q.2])) β1) (hn : (qs.map (·.1)).Nodup) : EvN K (tCB (rDictT K) (tCons te tNil)) ρ β (dT qs) β1 := by
  refine ⟨h.som, fun b G H σ Q E k => h.run b G H σ _ E fun v G1 H1 s1 k1 dv => ?_⟩
  cases dv with
  | @lst a xs _ hs hd =>
    obtain ⟨ps, kvs, rfl, hq, hp⟩ := pairs_den s1.s hd
    have ek : (keysT kvs).map (·.1) = (qs.map (·.1)).map (·.map Sum.inl) := by
      rw [← hq.keys]
      unfold keysT
      rw [List.map_map, List.map_map] <;> rfl
    refine ⟨a, ps, keysT kvs, rfl, sq_of (s1.s _ _ hs), hp, ?_, fun p hp => ?_⟩
    · rw [ek]
      exact hn.map _ fun x y ne z => ne (inl_inj z)
    · exact evN_of (u := .dT (keysT kvs)) k1 s1.s h.som hp (.dT hq.toT) (EvN.of s1 h.som k)
/-- slot i holds a locked dict at p that nothing else knows -/
structure OwnY [TabW] (K : PySem.W.Frag) (b : Addr) (β : Bag) (i : Nat) (p : Addr) (u : Obj) (kvs : List (List Int × V)) (G H : Hp) (σ : L2.St) (ρ : Rho) (qs : List (List Int × Dt)) : Prop where
  env : EnvD K b β G H σ ρ
  slot : ρ[i]? = some none
  at_ : σ[i]? = some (some (.ref p))
  free : G p = none
  nb : β.isSome = true → p ≠ b
  val : H p = some (.frz u (.dT (keysT kvs)))
  den : DenQ K G kvs qs
theorem nt_frz {u : Obj} {ks : List (List Key × V)} : NoT (HO.frz u (.dT ks)) := ⟨fun _ z => (nomatch z), fun _ z => (nomatch z)⟩
theorem OwnY.step {u : Obj} {kvs : List (List Int × V)} (w : OwnY K b β i p u kvs G H σ ρ qs) (s : Step b β.isSome G H G1 H1) (hb : BagOk b β1 G1 H1) (hm : β1.isSome = β.isSome) : OwnY K b β1 i p u kvs G1 H1 σ ρ qs :=
  ⟨w.env.step s hb, w.slot, w.at_, s.fresh p _ w.free nt_frz w.val, fun z => w.nb (hm ▸ z), s.keep p _ w.nb nt_frz w.val, w.den.mono s.g⟩
theorem OwnY.asFn {u : Obj} {kvs : List (List Int × V)} (w : OwnY K b β i p u kvs G H σ ρ qs) : EnvD K b β G H σ (ρ.set i (some (.fn p))) := by
  have E := w.env.setFn (i := i) (f := p)
  have e : σ.set i (some (.ref p)) = σ := by
    apply List.ext_getElem?
    intro n
    by_cases q : i = n
    · (subst q)
      (rw [List.getElem?_set_self (List.getElem?_eq_some_iff.mp w.at_).1, w.at_])
    · rw [List.getElem?_set_ne q]
  rw [e] at E
  exact E
theorem OwnY.setJ {u : Obj} {kvs : List (List Int × V)} {v : V} (w : OwnY K b β i p u kvs G H σ ρ qs) (hij : i ≠ j) (h : Den K G v x) : OwnY K b β i p u kvs G H (σ.set j (some v)) (ρ.set j (some (.imm x))) qs :=
  ⟨w.env.set h, by rw [List.getElem?_set_ne (Ne.symm hij)]; exact w.slot, by rw [List.getElem?_set_ne (Ne.symm hij)]; exact w.at_, w.free, w.nb, w.val, w.den⟩
structure EvY [TabW] (K : PySem.W.Frag) (i : Nat) (te : TE) (ρ : Rho) (β : Bag) (qs : List (List Int × Dt)) (x : Dt) (β' : Bag) : Prop where
  som : β'.isSome = β.isSome
  run : ∀ (b : Addr) (G H : Hp) (σ : L2.St) (p : Addr) (u : Obj) (kvs : List (List Int × V)) (Q : VK), OwnY K b β i p u kvs G H σ ρ qs → (∀ v G' H', Step b β.isSome G H G' H' → OwnY K b β' i p u kvs G' H' σ ρ qs → Den K G' v x → Q v H') → te σ H Q
structure StY [TabW] (K : PySem.W.Frag) (i : Nat) (ts : TS) (ρ : Rho) (β : Bag) (qs : List (List Int × Dt)) (ρ' : Rho) (β' : Bag) : Prop where
  som : β'.isSome = β.isSome
  run : ∀ (b : Addr) (G H : Hp) (σ : L2.St) (p : Addr) (u : Obj) (kvs : List (List Int × V)) (D : Ends), OwnY K b β i p u kvs G H σ ρ qs → (∀ σ' G' H', Step b β.isSome G H G' H' → OwnY K b β' i p u kvs G' H' σ' ρ' qs → D.nx σ' H') → ts D σ H
theorem EvY.to {d' : Dt} (h : EvY K i te ρ β qs d β1) (e : d = d') : EvY K i te ρ β qs d' β1 := e ▸ h
theorem tab_updF {P : Addr} {q : Str} {ob : HO} {u : Obj} {ks : List (List Key × V)} (h : LamX.TabS H P q) (hl : H p = some (.frz u (.dT ks))) : LamX.TabS (upd H p ob) P q := by
  obtain ⟨ps, h1, h2, h3⟩ := h
  refine ⟨ps, ?_, h2, fun pos cv hc => ?_⟩
  · rw [upd_ne fun z => ?_]
    · exact h1
    · (rw [z, hl] at h1)
      cases h1
  · obtain ⟨c, e1, e2⟩ := h3 pos cv hc
    refine ⟨c, e1, ?_⟩
    rw [upd_ne fun z => ?_]
    · exact e2
    · (unfold LamX.CodeO at e2)
      (rw [z, hl] at e2)
      cases e2
/-- unlocked again -/
theorem OwnY.thaw {u : Obj} {kvs : List (List Int × V)} {m : Bool} (w : OwnY K b β i p u kvs G H σ ρ qs) (gn : Gone H0 p) (s : Step b m G0 H0 G H) : Step b m G0 H0 G (upd H p (.dT (keysT kvs))) ∧ OwnW K b β i p G (upd H p (.dT (keysT kvs))) σ ρ (dT qs) := by
  refine ⟨⟨s.g, s.s.mut w.free, s.fresh, fun a u n t h => ?_, fun a u t h => ?_, fun h => ⟨fun P q x => tab_updF ((s.tabs h).tab P q x) w.val, (s.tabs h).free⟩⟩, ?_⟩
  · rw [upd_ne (gn.ne t h)]
    exact s.keep a u n t h
  · rw [upd_ne (gn.ne t h)]
    exact s.stay a u t h
  · exact ⟨⟨w.env.sub.mut w.free, w.env.bagk.mut w.nb, w.env.len, w.env.imm, w.env.bagv, ⟨fun P q x => tab_updF (w.env.tabs.tab P q x) w.val, w.env.tabs.free⟩, w.env.fnv⟩, w.slot, w.at_, w.free, w.nb, _, upd_same, .dT w.den.toT⟩
end
inductive ForY [TabW] (K : PySem.W.Frag) (i j : Nat) (tu : TS) (β : Bag) (qs : List (List Int × Dt)) : List (List Int × Dt) → Rho → Rho → Prop
  | nil (ρ : Rho) : ForY K i j tu β qs [] ρ ρ
  | cons {q : List Int × Dt} {ps : List (List Int × Dt)} {ρ ρ1 ρ2 : Rho} : StY K i tu (ρ.set j (some (.imm (tupJ q.1)))) β qs ρ1 β → ForY K i j tu β qs ps ρ1 ρ2 → ForY K i j tu β qs (q :: ps) ρ ρ2
section
variable [TabW] {K : PySem.W.Frag} {b : Addr} {ρ ρ1 ρ2 : Rho} {β β1 β2 β3 : Bag} {tu tw : TS} {x : Dt} {i j : Nat} {G H G0 H0 G1 H1 G2 H2 : Hp} {σ : L2.St} {p : Addr} {qs : List (List Int × Dt)} {o : Out}
theorem ForY.keep {F : Rho → Prop} : ∀ {ps : List (List Int × Dt)} {ρ : Rho}, F ρ → (∀ q ∈ ps, ∀ ρ, F ρ → ∃ ρ1, StY K i tu (ρ.set j (some (.imm (tupJ q.1)))) β qs ρ1 β ∧ F ρ1) → ∃ ρ', ForY K i j tu β qs ps ρ ρ' ∧ F ρ'
  | [], ρ, h, _ => ⟨ρ, .nil ρ, h⟩
  | q :: ps, ρ, h, hs => by
    obtain ⟨ρ1, a, f⟩ := hs q List.mem_cons_self ρ h
    obtain ⟨ρ', r, f'⟩ := ForY.keep f fun x hx => hs x (List.mem_cons_of_mem _ hx)
    exact ⟨ρ', .cons a r, f'⟩
end
end TD
set_option Elab.async false
set_option linter.all false
set_option maxRecDepth 100000
set_option maxHeartbeats 4100000
namespace TD
open PySem L2 StX PySem.Spec PyProof.Rows
open Evl (Ex ex_l ex_t fresh_back sq_of st_of sz_of sz_lt)
abbrev KP := List (List Key × Addr × Value)
section
variable {prog : Program}
variable {w : World} {A : Around} {E : Value → Shared → Prop} {s : Shared}
/-- what the other dict says to one entry: nothing stands at the key, or a thing that is asked for equality -/
def Says (A : Around) (s : Shared) (ys : KP) (x : List Key × Addr × Value) (b : Bool) : Prop := match atKey ys x.1 with
  | none => b = false
  | some p => SeqAt.EqAt A s x.2.2 p.2 b
/-- a walk over 0 .. n - 1 that changes nothing: it ends early with its answer, or goes on -/
theorem scan_to {M : Model} {β : Type} {n : Nat} {f : Nat → β → Sem (ForInStep β)} {b0 : β} {Q : β → Shared → Prop} (G : Nat → Prop) (fin : G n → Q b0 s)
    (step : ∀ i, i < n → G i → wpAny M A (f i b0) (fun r t => t = s ∧ ((r = .yield b0 ∧ G (i + 1)) ∨ ∃ b, r = .done b ∧ Q b s)) E s) : ∀ (k i : Nat), i + k = n → G i → wpAny M A (forIn (List.range' i k) b0 f) Q E s
  | 0, i, e, g => by
    rw [List.range'_zero, List.forIn_nil]
    exact wpAny_pure (fin (e ▸ g))
  | k + 1, i, e, g => by
    (rw [List.range'_succ, List.forIn_cons])
    refine wpAny_bind (wpAny_mono (step i (by omega) g) (fun r t ⟨et, h⟩ => ?_) fun _ _ z => z)
    rw [et]
    rcases h with ⟨er, g1⟩ | ⟨b, er, q⟩ <;> rw [er]
    · exact scan_to G fin step k (i + 1) (by omega) g1
    · exact wpAny_pure q
theorem same_dicts {nm : String} {a b : Addr} {xs ys : KP} {bs : List Bool} {Q : Bool → Shared → Prop} (hu : (TKm prog w).room A) (ha : (a == sysModules) = false) (hb : (b == sysModules) = false)
    (da : s.heap.DictOfH (TKm prog w) a xs) (db : s.heap.DictOfH (TKm prog w) b ys) (says : xs.length = ys.length → ∀ (i : Nat) (x : List Key × Addr × Value), xs[i]? = some x → ∃ c, bs[i]? = some c ∧ Says A s ys x c) (len : bs.length = xs.length) (q : Q (xs.length == ys.length && bs.all id) s) : wpAny (model prog w) A (Builtin.Dict.samePairs nm a b) Q E s := by
  obtain ⟨oa, es, ep, ga, _, ta, la, ka, _⟩ := da
  obtain ⟨ob, fs, ep', gb, _, tb, lb, kb, ub⟩ := db
  have za : es.size = xs.length := size_of_entries la
  have zb : fs.size = ys.length := size_of_entries lb
  simp only [Builtin.Dict.samePairs, Builtin.Dict.showsAll, ha, hb, Bool.false_eq_true, if_false]
  iterate 2 refine wpAny_bind (wpAny_pure ?_)
  refine wpAny_bind (wpAny_dictEntries ga ta (wpAny_bind (wpAny_dictEntries gb tb ?_)))
  cases same : decide (xs.length = ys.length) with
  | false =>
    have no : xs.length ≠ ys.length := of_decide_eq_false same
    rw [if_pos (bne_iff_ne.mpr fun z => no (za.symm.trans (z.trans zb)))]
    exact wpAny_bind (wpAny_rule (wpAny_pure (by rwa [beq_eq_false_iff_ne.mpr no, Bool.false_and] at q)))
  | true =>
    have yes : xs.length = ys.length := of_decide_eq_true same
    rw [yes, beq_self_eq_true, Bool.true_and] at q
    rw [if_neg (by rw [za, yes, ← zb, bne_self_eq_false]; exact Bool.false_ne_true)]
    refine wpAny_bind (wpAny_dictEpoch ga ta (wpAny_bind ?_))
    rw [Std.Legacy.Range.forIn_eq_forIn_range', show Std.Legacy.Range.size [:es.size] = es.size by simp [Std.Legacy.Range.size]]
    /- up to the place i all said yes -/
    refine scan_to (n := es.size) (b0 := (none, ())) (fun i => (bs.take i).all id = true) (fun g => ?_) (fun i hi g => ?_) es.size 0 (Nat.zero_add _) rfl
    · rw [za, ← len, List.take_length] at g
      exact wpAny_pure (g ▸ q)
    · have hx : xs[i]? = some (xs[i]'(za ▸ hi)) := List.getElem?_eq_getElem _
      obtain ⟨c, hc, sc⟩ := says yes i _ hx
      generalize xs[i]'(za ▸ hi) = x at hx sc
      have here : es[i]? = some ⟨(TKm prog w).hash x.1, .ref x.2.1, x.2.2⟩ := by rw [entry_at la i, hx, Option.map_some] <;> rfl
      have rest : bs.take (i + 1) = bs.take i ++ [c] := by rw [List.take_succ, hc] <;> rfl
      have no : c = false → Q false s := fun z => by
        have f : bs.all id = false := List.all_eq_false.mpr ⟨c, List.mem_of_getElem? hc, by rw [z]; exact Bool.false_ne_true⟩
        exact f ▸ q
      have on : c = true → (bs.take (i + 1)).all id = true := fun z => by rw [rest, List.all_append, g, z] <;> rfl
      refine wpAny_bind (wpAny_dictEntries ga ta ?_)
      rw [here]
      dsimp only
      refine wpAny_bind ?_
      refine wpAny_holding ?_
      refine wpAny_bind ?_
      refine wpAny_dictFind_heap hu (ka x (List.mem_of_getElem? hx)) gb tb lb kb ub (fun miss => ?_) fun j p hit => ?_
      · have cf : c = false := by
          unfold Says at sc
          rwa [atKey_none_of_get miss] at sc
        refine wpAny_pure ?_
        rw [if_pos Bool.not_false]
        exact wpAny_pure ⟨rfl, .inr ⟨_, rfl, wpAny_pure (no cf)⟩⟩
      · have ask : SeqAt.EqAt A s x.2.2 p.2 c := by
          unfold Says at sc
          rwa [atKey_of_get ub hit] at sc
        refine wpAny_bind (wpAny_dictEntries gb tb ?_)
        rw [show fs[j]? = some ⟨(TKm prog w).hash x.1, .ref p.1, p.2⟩ by rw [entry_at lb j, hit, Option.map_some] <;> rfl]
        refine wpAny_holding (ask prog w _ _ ?_)
        cases c with
        | false =>
          rw [if_pos Bool.not_false]
          exact wpAny_pure ⟨rfl, .inr ⟨_, rfl, wpAny_pure (no rfl)⟩⟩
        | true =>
          rw [if_neg (show ¬ (!true) = true by decide)]
          refine wpAny_bind (wpAny_dictEpoch ga ta ?_)
          rw [bne_self_eq_false, if_neg Bool.false_ne_true]
          exact wpAny_pure ⟨rfl, .inl ⟨rfl, on rfl⟩⟩
theorem eq_dicts {a b : Addr} {xs ys : KP} {bs : List Bool} {Q : Value → Shared → Prop} (ha : (a == sysModules) = false) (hb : (b == sysModules) = false) (da : s.heap.DictOfH (TKm prog w) a xs) (db : s.heap.DictOfH (TKm prog w) b ys) (hu : A.units + 1 < cLine)
    (says : xs.length = ys.length → ∀ (i : Nat) (x : List Key × Addr × Value), xs[i]? = some x → ∃ c, bs[i]? = some c ∧ Says A.in1 s ys x c) (len : bs.length = xs.length) (q : Q (.bool (xs.length == ys.length && bs.all id)) s) : wpAny (model prog w) A (compareOp .Eq (.ref a) (.ref b)) Q E s := by
  have pairs : wpAny (model prog w) A.in1 (Builtin.Dict.samePairs "dict.__eq__" a b) (fun r t => t = s ∧ r = (xs.length == ys.length && bs.all id)) (fun _ _ => False) s := same_dicts (tupleKind_room_in1 hu) ha hb da db says len ⟨rfl, rfl⟩
  refine wpAny_richCompare_same_room (op := .Eq) da.typeIs db.typeIs PySem.F.slot_dict_eq (wpAny_call_entry PySem.F.slot_dict_eq da.typeIs PySem.F.entry_dict_eq (wpAny_bind ?_) (PySem.F.args_dict_eq_2 _ _)) (Nat.lt_of_succ_lt hu)
  (unfold Builtin.Dict.dictSlotArgs)
  refine wpAny_bind (wpAny_notOrdered_dict da.typeIs (wpAny_pure (wpAny_bind (wpAny_isInstance (T := "dict") db.typeIs PySem.F.sub_dict_dict ?_))))
  rw [if_neg (show ¬ (!true) = true by decide)]
  iterate 2 refine wpAny_bind (wpAny_pure ?_)
  refine wpAny_bind ?_
  refine wpAny_mono pairs (fun r t ⟨et, er⟩ => ?_) fun _ _ z => z.elim
  cases et
  cases er
  exact wpAny_pure ⟨_, rfl, (fun z => nomatch z), by rw [beq_true]; exact q⟩
end
/-- the same over what is told of the heap -/
def SaysV (K : PySem.W.Frag) (H : Hp) (kb : List (List Key × V)) (k : List Key) (v : V) (c : Bool) : Prop := match valV kb k with
  | none => c = false
  | some y => ∃ d e, Dp K H v d ∧ Dp K H y e ∧ SeqAt.shaped d = true ∧ SeqAt.shaped e = true ∧ c = PyData.eqv d e
theorem SaysV.says {X : Cx} {pins : List (Addr × Obj)} {σ : L2.St} {H : Hp} {s : Shared} {A : Around} (I : Inv X pins σ H s) (hu : A.in1.units + 64 < cLine) {kb : List (List Key × V)} {ys : KP} (rb : KT H kb ys) {x : List Key × Addr × Value} {v : V} {c : Bool} (rv : RelV v x.2.2) (h : SaysV X.K H kb x.1 v c) : Says A.in1 s ys x c := by
  have rel := rb.val x.1
  unfold SaysV at h
  unfold Says
  cases hk : valV kb x.1 with
  | none =>
    rw [hk] at h rel
    cases ha : atKey ys x.1 with
    | none => exact h
    | some p => exact nomatch (ha ▸ rel).isSome_eq
  | some y =>
    rw [hk] at h rel
    obtain ⟨d, e, hd, he, sd, se, rfl⟩ := h
    obtain ⟨u, hu1, ru⟩ := rel.some_of
    obtain ⟨p, hp, rfl⟩ := Option.map_eq_some_iff.mp hu1
    obtain ⟨_, r1⟩ := Dp.reads I d _ _ hd rv
    obtain ⟨_, r2⟩ := Dp.reads I e _ _ he ru
    rw [hp]
    exact PySem.W.keq_at (A := A) r1 r2 sd se hu
def rEqDT (K : PySem.W.Frag) : R2 := fun x y H Q => ∃ (a b : Addr) (ka kb : List (List Key × V)) (bs : List Bool), x = .ref a ∧ y = .ref b ∧ Rd H a (.dT ka) ∧ Rd H b (.dT kb) ∧ bs.length = ka.length ∧ (∀ (i : Nat) (k : List Key) (v : V), ka[i]? = some (k, v) → ∃ c, bs[i]? = some c ∧ SaysV K H kb k v c) ∧ Q (.bl (ka.length == kb.length && bs.all id)) H
theorem op_eqDT {X : Cx} {n : Nat} (hr : Room n X.A) : OpR X (compareOp .Eq) (rEqDT X.K) := by
  have hu := hr.un
  rintro pins s σ H x y v u Q I rx ry ⟨a, b, ka, kb, bs, rfl, rfl, ea, eb, hl, hs, q⟩
  cases rx
  cases ry
  obtain ⟨_, ha, xs, ra, da⟩ := dt_rd I.hok ea
  obtain ⟨_, hb, ys, rb, db⟩ := dt_rd I.hok eb
  have la : ka.length = xs.length := Paired.length ra
  refine eq_dicts (bs := bs) ha hb da db (by omega) (fun _ i x hx => ?_) (hl.trans la) ⟨.bl _, H, I, rfl, by rw [← la, ← show kb.length = ys.length from Paired.length rb]; exact q⟩
  have hi : i < ka.length := la ▸ (List.getElem?_eq_some_iff.mp hx).1
  obtain ⟨x', hx', e1, _, rv⟩ := paired_get ra (List.getElem?_eq_getElem hi)
  cases hx.symm.trans hx'
  obtain ⟨c, hc, sv⟩ := hs i _ _ (List.getElem?_eq_getElem hi)
  exact ⟨c, hc, SaysV.says I (by show X.A.units + 1 + 64 < cLine; omega) rb rv (e1 ▸ sv)⟩
section
variable [TabW] {K : PySem.W.Frag} {G H : Hp} {ρ : Rho} {β β1 β2 : Bag} {ta tb : TE}
/-- entry by entry: the other dict holds an equal thing at the key -/
def hasEq (qs : List (List Int × Dt)) (q : List Int × Dt) : Bool := match getT qs q.1 with | none => false | some d => PyData.eqv q.2 d
def eqT (ps qs : List (List Int × Dt)) : Bool := ps.all fun q => match getT qs q.1 with | none => false | some d => PyData.eqv q.2 d
theorem eqT_map (ps qs : List (List Int × Dt)) : eqT ps qs = (ps.map (hasEq qs)).all id := by
  rw [List.all_map]
  rfl
theorem says_of {kb : List (List Int × V)} {qs : List (List Int × Dt)} (e : Ex G H) (hq : DenQ K G kb qs) (fq : ∀ q ∈ qs, flatD q.2 = true ∧ SeqAt.shaped q.2 = true) {k : List Int} {v : V} {d : Dt} (h : Den K G v d) (fd : flatD d = true ∧ SeqAt.shaped d = true) : SaysV K H (keysT kb) (keyL k) v (hasEq qs (k, d)) := by
  unfold SaysV hasEq
  rcases hq.val k with ⟨e1, e2⟩ | ⟨y, x, e1, e2, e3⟩
  · rw [keysT_val, e1, e2]
  · obtain ⟨q, hm, hx⟩ := Option.map_eq_some_iff.mp (show (qs.find? fun q => decide (q.1 = k)).map (·.2) = some x from e2)
    have fx := hx ▸ fq q (List.mem_of_find?_eq_some hm)
    rw [keysT_val, e1, e2]
    exact ⟨d, x, h.dp e fd.1, e3.dp e fx.1, fd.2, fx.2, rfl⟩
theorem DenQ.at_ : ∀ {ka : List (List Int × V)} {ps : List (List Int × Dt)} {i : Nat} {k : List Key} {v : V}, DenQ K G ka ps → (keysT ka)[i]? = some (k, v) → ∃ q, ps[i]? = some q ∧ k = keyL q.1 ∧ Den K G v q.2
  | _, _, i, _, _, .nil, e => by
    rw [show keysT ([] : List (List Int × V)) = [] from rfl, List.getElem?_nil] at e
    cases e
  | _, _, 0, _, _, .cons (k := k) (d := d) h t, e => by
    cases Option.some.inj e
    exact ⟨(k, d), rfl, rfl, h⟩
  | _, _, i + 1, _, _, .cons h t, e => t.at_ (i := i) e
theorem d_eqDT {ps qs : List (List Int × Dt)} (ha : EvB K ta ρ β (dT ps) β1) (hb : EvB K tb ρ β1 (dT qs) β2) (fp : ∀ q ∈ ps, flatD q.2 = true ∧ SeqAt.shaped q.2 = true) (fq : ∀ q ∈ qs, flatD q.2 = true ∧ SeqAt.shaped q.2 = true) :
    EvB K (tOp (rEqDT K) ta tb) ρ β (.bool (ps.length == qs.length && eqT ps qs)) β2 := d_op ha hb fun b G H v w Q e h1 h2 k => by
  obtain ⟨a, ka, rfl, sa, qa⟩ := den_dT h1
  obtain ⟨c, kc, rfl, sc, qc⟩ := den_dT h2
  have la : (keysT ka).length = ps.length := (List.length_map _).trans qa.length
  have lc : (keysT kc).length = qs.length := (List.length_map _).trans qc.length
  refine ⟨a, c, keysT ka, keysT kc, ps.map (hasEq qs), rfl, rfl, rd_ex e sa, rd_ex e sc, (List.length_map _).trans la.symm, fun i k v hi => ?_, ?_⟩
  · obtain ⟨q, hq, rfl, hd⟩ := qa.at_ hi
    exact ⟨_, by rw [List.getElem?_map, hq] <;> rfl, says_of e qc fq hd (fp q (List.mem_of_getElem? hq))⟩
  · rw [la, lc, ← eqT_map]
    exact k _ G H (Step.refl e) (.bl _)
end
end TD
set_option Elab.async false
set_option linter.all false
set_option maxRecDepth 100000
set_option maxHeartbeats 4100000
namespace TD
open PySem L2 StX PySem.Spec PyProof.Rows
open Evl (Ex ex_l ex_t fresh_back sq_of st_of sz_of sz_lt)
theorem back_ok {X : Cx} {pins : List (Addr × Obj)} {σ : L2.St} {Q : VK} {r : Value} {s' : Shared} (z : EP X pins σ Q r s') : PySem.W.CmpBack (EP X pins σ Q) r s' := by
  obtain ⟨v, H', J, rv, qv⟩ := z
  have z : EP X pins σ Q r s' := ⟨v, H', J, rv, qv⟩
  cases r with
  | notImplemented =>
    cases v with
    | non => exact nomatch rv
    | bl => exact nomatch rv
    | int => obtain ⟨_, rv⟩ := rv; exact nomatch rv
    | str => obtain ⟨_, rv⟩ := rv; exact nomatch rv
    | byt => obtain ⟨_, rv⟩ := rv; exact nomatch rv
    | flt => obtain ⟨_, rv⟩ := rv; exact nomatch rv
    | ref => exact nomatch rv
    | ty => exact nomatch rv
  | _ => exact z
def rBinO (C : Addr) (sp : Sp) : R2 := fun x y H Q => ∃ (a c dx dy : Addr) (fs gs : List (Str × V)), x = .ref a ∧ y = .ref c ∧ H a = some (.ins C dx fs) ∧ H c = some (.ins C dy gs) ∧ sp [x, y] H Q E0
def rBinI (C : Addr) (sp : Sp) : R2 := fun x y H Q => ∃ (a dx : Addr) (fs : List (Str × V)) (i : Int), x = .ref a ∧ y = .int i ∧ H a = some (.ins C dx fs) ∧ sp [x, y] H Q E0
def rNegO (C : Addr) (sp : Sp) : V → Hp → VK → Prop := fun x H Q => ∃ (a dx : Addr) (fs : List (Str × V)), x = .ref a ∧ H a = some (.ins C dx fs) ∧ sp [x] H Q E0
def rTruO (C : Addr) (sp : Sp) : V → Hp → (Bool → Hp → Prop) → Prop := fun x H Q => ∃ (a dx : Addr) (fs : List (Str × V)), x = .ref a ∧ H a = some (.ins C dx fs) ∧ sp [x] H (fun v H' => ∃ c, v = .bl c ∧ Q c H') E0
def rBoolO (C : Addr) (sp : Sp) : List V → Hp → VK → Prop := fun xs H Q => ∃ (a dx : Addr) (fs : List (Str × V)), xs = [.ref a] ∧ H a = some (.ins C dx fs) ∧ sp [.ref a] H (fun v H' => ∃ c, v = .bl c ∧ Q (.bl c) H') E0
/-- what an int on the right wants -/
structure IntR (K : PySem.W.Frag) (C : Addr) (nm : String) : Prop where
  rev : PySem.W.findIn K (.ref C) (PySem.dunderR nm) = some none
  fo : ∃ fo, PySem.W.findIn K (.type "int") (PySem.dunder nm) = some fo
  ro : ∃ ro, PySem.W.findIn K (.type "int") (PySem.dunderR nm) = some ro
  sub : PySem.W.subIn K (.type "int") (.ref C) = some false
section
variable [TabW] {P : Program} {w : World} {K : PySem.W.Frag} {mg : Str → Option Value} {base : Heap} {X : Cx} {k : Nat} {C : Addr} {ps : List Str} {R : FR} {m : Str} {op : Operator}
theorem op_binO (F : FnM P w K mg base k C m ps R) (hr : Room k X.A) (hc : PySem.W.selfFirst K C = true) (hn : m = PySem.dunder op.info.2 := by rfl) (h1 : X.prog = P := by rfl) (h2 : X.w = w := by rfl) (h3 : X.K = K := by rfl) (h4 : X.mg = mg := by rfl) (h5 : X.base = base := by rfl) : OpR X (binaryOp op) (rBinO C (spR K R)) := by
  obtain ⟨f, fd, _, M, hf, hbd⟩ := F.ex
  subst h1 h2 h3 h4 h5 hn
  (intro pins s σ H x y v u Q I rx ry q)
  obtain ⟨p, c, dx, dy, fs, gs, rfl, rfl, e1, e2, q⟩ := q
  (obtain rfl : v = Value.ref p := rx)
  (obtain rfl : u = Value.ref c := ry)
  obtain ⟨_, _, i1⟩ := inst_at I.hok e1
  obtain ⟨_, _, i2⟩ := inst_at I.hok e2
  exact bin_own I.kIn i1 i2 hc M.at_ M.fn (wpAny_mono (call_at ⟨hr, rfl⟩ hf hbd pass0 I (vs := [.ref p, .ref c]) (us := [.ref p, .ref c]) (.cons rfl (.cons rfl .nil)) q) (fun r s' z => back_ok z) fun _ _ z => z)
theorem op_binI (F : FnM P w K mg base k C m ps R) (hr : Room k X.A) (hc : PySem.W.selfFirst K C = true) (hi : IntR K C op.info.2) (hn : m = PySem.dunder op.info.2 := by rfl) (h1 : X.prog = P := by rfl) (h2 : X.w = w := by rfl) (h3 : X.K = K := by rfl) (h4 : X.mg = mg := by rfl) (h5 : X.base = base := by rfl) : OpR X (binaryOp op) (rBinI C (spR K R)) := by
  obtain ⟨f, fd, _, M, hf, hbd⟩ := F.ex
  subst h1 h2 h3 h4 h5 hn
  (intro pins s σ H x y v u Q I rx ry q)
  obtain ⟨p, dx, fs, i, rfl, rfl, e1, q⟩ := q
  (obtain rfl : v = Value.ref p := rx)
  obtain ⟨t, rfl⟩ := ry
  obtain ⟨_, _, i1⟩ := inst_at I.hok e1
  obtain ⟨m', hF⟩ := I.fr
  obtain ⟨fo, hfo⟩ := hi.fo
  obtain ⟨ro, hro⟩ := hi.ro
  exact PySem.W.ksp_binT hF I.ok.mod.kin i1 rfl hc M.at_ M.fn hi.rev (.inl rfl) hfo hro hi.sub (wpAny_mono (call_at ⟨hr, rfl⟩ hf hbd pass0 I (vs := [.ref p, .int i]) (us := [.ref p, .int i t]) (.cons rfl (.cons ⟨t, rfl⟩ .nil)) q) (fun r s' z => back_ok z) fun _ _ z => z)
theorem un_negO (F : FnM P w K mg base k C "__neg__" ps R) (hr : Room k X.A) (h1 : X.prog = P := by rfl) (h2 : X.w = w := by rfl) (h3 : X.K = K := by rfl) (h4 : X.mg = mg := by rfl) (h5 : X.base = base := by rfl) : UnR X (unaryOp .USub) (rNegO C (spR K R)) := by
  obtain ⟨f, fd, _, M, hf, hbd⟩ := F.ex
  subst h1 h2 h3 h4 h5
  (intro pins s σ H x v Q I rx q)
  obtain ⟨p, dx, fs, rfl, e1, q⟩ := q
  (obtain rfl : v = Value.ref p := rx)
  obtain ⟨_, _, i1⟩ := inst_at I.hok e1
  obtain ⟨m', hF⟩ := I.fr
  exact PySem.W.ksp_neg hF I.ok.mod.kin i1 M.at_ M.fn (call_at ⟨hr, rfl⟩ hf hbd pass0 I (vs := [.ref p]) (us := [.ref p]) (.cons rfl .nil) q)
theorem tru_sub {n : Nat} {A : Around} (F : FnM P w K mg base k C "__bool__" ps R) (h1 : X.prog = P) (h2 : X.w = w) (h3 : X.K = K) (h4 : X.mg = mg) (h5 : X.base = base) {pins : List (Addr × Obj)} {s : Shared} {σ : L2.St} {H : Hp} {x : V} {v : Value} {Q : Bool → Hp → Prop} (sb : Sub X k A) (I : Inv X pins σ H s) (rx : RelV x v)
    (q : rTruO C (spR K R) x H Q) : wpAny (model X.prog X.w) A (truthy v) (TP X pins σ Q) X.xe s := by
  obtain ⟨f, fd, _, M, hf, hbd⟩ := F.ex
  subst h1 h2 h3 h4 h5
  obtain ⟨p, dx, fs, rfl, e1, q⟩ := q
  (obtain rfl : v = Value.ref p := rx)
  obtain ⟨_, _, i1⟩ := inst_at I.hok e1
  unfold truthy
  refine wpAny_bind (PySem.W.special_fn I.kIn i1 M.at_ (beq_iff_eq.mp M.fn) (wpAny_mono (call_at sb hf hbd pass0 I (vs := [.ref p]) (us := [.ref p]) (.cons rfl .nil) q) (fun r s' z => ?_) fun _ _ z => z))
  obtain ⟨v, H', J, rv, c, rfl, qv⟩ := z
  cases rv
  exact wpAny_pure ⟨H', J, qv⟩
theorem tru_own (F : FnM P w K mg base k C "__bool__" ps R) (hr : Room k X.A) (h1 : X.prog = P := by rfl) (h2 : X.w = w := by rfl) (h3 : X.K = K := by rfl) (h4 : X.mg = mg := by rfl) (h5 : X.base = base := by rfl) : TruR X (rTruO C (spR K R)) :=
  fun pins s σ H x v Q I rx q => tru_sub (n := 0) F h1 h2 h3 h4 h5 ⟨hr, rfl⟩ I rx q
theorem meets_boolV {prog : Program} {w : World} {v : Value} : MeetsIn prog w (Builtin.«bool.__new__» ⟨[.type "bool", v], []⟩) (fun A R s => wpAny (model prog w) A.in1 (truthy v) (fun b s' => R (.ok (.ret (.bool b))) s') (fun e s' => R (.error e) s') s) :=
  .of_wp fun A R s h => by
    (obtain ⟨hp, g, d, tk, os⟩ := s)
    have f1 := F.conv_sub_bool
    (repeat (any_goals (first | assumption | (with_reducible refine wpAny_bind (wpAny_mono h ?_ ?_)) | wp_step)))
    all_goals first | exact fun b s' hb => wpAny_pure ⟨_, rfl, hb⟩ | exact fun e s' he => he
theorem call_boolV {prog : Program} {w : World} {A : Around} {E : Value → Shared → Prop} {s : Shared} {v : Value} {Q : Value → Shared → Prop} (h : wpAny (model prog w) A.in1.in1 (truthy v) (fun b s' => Q (.bool b) s') E s) : wpAny (model prog w) A (call (.type "bool") [v]) Q E s :=
  callType_newIn PySem.F.called_bool PySem.F.newNe_bool (PySem.F.typeCall_bool_1 v) (PySem.F.newCall_bool_1 v) (fun obj => PySem.F.args_object_init_2 obj v) PySem.F.entry_bool_new meets_boolV (wpAny_mono h (fun b s' hb => ⟨rfl, hb⟩) fun e s' he => he)
theorem cr_boolO (F : FnM P w K mg base k C "__bool__" ps R) (hr : Room (k + 2) X.A) (h1 : X.prog = P := by rfl) (h2 : X.w = w := by rfl) (h3 : X.K = K := by rfl) (h4 : X.mg = mg := by rfl) (h5 : X.base = base := by rfl) : CallR X (.type "bool") (rBoolO C (spR K R)) := by
  (intro pins s σ H xs us Q I r q)
  obtain ⟨a, dx, fs, rfl, ha, q⟩ := q
  rw [Vals.ref1 r]
  have sb : Sub X k X.A.in1.in1 := Sub.in1 (Sub.in1 ⟨hr, rfl⟩)
  refine call_boolV (wpAny_mono (tru_sub (n := 0) (x := .ref a) (v := .ref a) (Q := fun c H' => Q (.bl c) H') F h1 h2 h3 h4 h5 sb I rfl ⟨a, dx, fs, rfl, ha, q⟩) (fun b s' z => ?_) fun _ _ z => z)
  obtain ⟨H', J, z⟩ := z
  exact ⟨.bl b, H', J, rfl, z⟩
end
section
variable [TabW] {K : PySem.W.Frag} {ρ : Rho} {β β1 β2 : Bag} {ta tb te : TE} {ps qs : List (Dt × Dt)} {C : Addr} {r : Dt} {i : Int} {c : Bool} {R : FR}
theorem d_binO (h : EvB K ta ρ β (oD C ps) β1) (h' : EvB K tb ρ β1 (oD C qs) β2) (hR : R [.imm (oD C ps), .imm (oD C qs)] none r none) : EvB K (tOp (rBinO C (spR K R)) ta tb) ρ β r β2 := ⟨h'.som.trans h.som, fun b G H σ Q E' k => h.run b G H σ _ E' fun v G1 H1 s1 k1 d1 => h'.run b G1 H1 σ _ (E'.step s1 k1) fun u G2 H2 s2 k2 d2 => by
  have d1 := d1.mono s2.g
  obtain ⟨a, dx, fs, rfl, hc, hs, hp⟩ := den_oD d1
  (obtain ⟨c, dy, gs, rfl, hc2, hs2, hp2⟩ := den_oD d2)
  exact ⟨a, c, dx, dy, fs, gs, rfl, rfl, s2.s _ _ hs, s2.s _ _ hs2, b, G2, none, [.imm (oD C ps), .imm (oD C qs)], r, none, s2.s, ((E'.step s1 k1).step s2 k2).tabs, (fun _ z => nomatch z), .cons d1 (.cons d2 .nil), hR, rfl, fun w G3 H3 s3 k3 d3 => k w G3 H3 ((s1.trans (h.som ▸ s2)).trans s3.up) (k2.same s3) d3⟩⟩
theorem d_binI (h : EvB K ta ρ β (oD C ps) β1) (h' : EvB K tb ρ β1 (.int i) β2) (hR : R [.imm (oD C ps), .imm (.int i)] none r none) : EvB K (tOp (rBinI C (spR K R)) ta tb) ρ β r β2 := ⟨h'.som.trans h.som, fun b G H σ Q E' k => h.run b G H σ _ E' fun v G1 H1 s1 k1 d1 => h'.run b G1 H1 σ _ (E'.step s1 k1) fun u G2 H2 s2 k2 d2 => by
  have d1 := d1.mono s2.g
  obtain ⟨a, dx, fs, rfl, hc, hs, hp⟩ := den_oD d1
  have d2' := d2
  cases d2
  exact ⟨a, dx, fs, i, rfl, rfl, s2.s _ _ hs, b, G2, none, [.imm (oD C ps), .imm (.int i)], r, none, s2.s, ((E'.step s1 k1).step s2 k2).tabs, (fun _ z => nomatch z), .cons d1 (.cons d2' .nil), hR, rfl, fun w G3 H3 s3 k3 d3 => k w G3 H3 ((s1.trans (h.som ▸ s2)).trans s3.up) (k2.same s3) d3⟩⟩
theorem one_oD {Q : VK} {b : Addr} {G H : Hp} {σ : L2.St} {v : V} (E' : EnvD K b β1 G H σ ρ) (d1 : Den K G v (oD C ps)) (hR : R [.imm (oD C ps)] none r none) (k : ∀ w G3 H3, Step b false G H G3 H3 → Den K G3 w r → Q w H3) : ∃ (a dx : Addr) (fs : List (Str × V)), v = .ref a ∧ H a = some (.ins C dx fs) ∧ spR K R [v] H Q E0 := by
  have d1' := d1
  obtain ⟨a, dx, fs, rfl, hc, hs, hp⟩ := den_oD d1
  exact ⟨a, dx, fs, rfl, E'.sub _ _ hs, b, G, none, [.imm (oD C ps)], r, none, E'.sub, E'.tabs, (fun _ z => nomatch z), .cons d1' .nil, hR, rfl, fun w G3 H3 s3 k3 d3 => k w G3 H3 s3 d3⟩
theorem d_negO (h : EvB K ta ρ β (oD C ps) β1) (hR : R [.imm (oD C ps)] none r none) : EvB K (L2.tUn (rNegO C (spR K R)) ta) ρ β r β1 := ⟨h.som, fun b G H σ Q E' k => h.run b G H σ _ E' fun v G1 H1 s1 k1 d1 =>
  one_oD (E'.step s1 k1) d1 hR fun w G3 H3 s3 d3 => k w G3 H3 (s1.trans s3.up) (k1.same s3) d3⟩
theorem t_truO (h : EvB K ta ρ β (oD C ps) β1) (hR : R [.imm (oD C ps)] none (.bool c) none) : TtB K (fun σ H Q => ta σ H fun x H' => rTruO C (spR K R) x H' Q) ρ β c β1 := ⟨h.som, fun b G H σ Q E' k => h.run b G H σ _ E' fun v G1 H1 s1 k1 d1 => by
  obtain ⟨a, dx, fs, rfl, h1, h2⟩ := one_oD (Q := fun w H' => ∃ c, w = .bl c ∧ Q c H') (E'.step s1 k1) d1 hR fun w G3 H3 s3 d3 => by
    cases d3
    exact ⟨c, rfl, k G3 H3 (s1.trans s3.up) (k1.same s3)⟩
  exact ⟨a, dx, fs, rfl, h1, h2⟩⟩
theorem d_boolO (h : EvB K ta ρ β (oD C ps) β1) (hR : R [.imm (oD C ps)] none (.bool c) none) : EvB K (tCB (rBoolO C (spR K R)) (tCons ta tNil)) ρ β (.bool c) β1 := ⟨h.som, fun b G H σ Q E' k => h.run b G H σ _ E' fun v G1 H1 s1 k1 d1 => by
  obtain ⟨a, dx, fs, rfl, h1, h2⟩ := one_oD (Q := fun w H' => ∃ c, w = .bl c ∧ Q (.bl c) H') (E'.step s1 k1) d1 hR fun w G3 H3 s3 d3 => by
    cases d3
    exact ⟨c, rfl, k _ G3 H3 (s1.trans s3.up) (k1.same s3) (.bl c)⟩
  exact ⟨a, dx, fs, rfl, h1, h2⟩⟩
end
end TD
set_option Elab.async false
set_option linter.all false
set_option maxRecDepth 100000
set_option maxHeartbeats 4100000
namespace TDS
open TS PySem PyProof.Rows
section
variable {prog : Program} {w : World} {s : Shared} {A : Around} {E : Value → Shared → Prop}
/-- xs.sort(reverse=True) of tuples of ints -/
theorem sortTR {a : Addr} {vs : List Value} {n d : Nat} {S B : Int} {Q : Value → Shared → Prop} (ho : s.heap.get? a = some (seqObj "list" vs.toArray n)) (hz : vs.length ≤ sizeLine) (hd : 1 ≤ d) (x : OkS s.heap d S B vs)
    (h : ∀ out : List Value, out.Perm vs → out.Pairwise (fun u v => rkS s.heap S B v ≤ rkS s.heap S B u) → Q .none { s with heap := sortedHeap s.heap a vs out.toArray }) : wpAny (model prog w) A (call (.builtin "list.sort") [.ref a] [(Str.ofString "reverse", .bool true)]) Q E s := by
  refine wpAny_call_entry_kw slot_list_sort ⟨_, ho, rfl⟩ entry_list_sort (SrtR.list_sort_ordR (b := true) (swo_rank (rkS s.heap S B)) ho hz (fun h2 => tups_sortable ho hd h2 x) fun out h1 h2 => ⟨_, rfl, ?_⟩) (args_list_sort_rev _ _)
  have h3 := h out.reverse ((List.reverse_perm out).trans (h2.perm.trans (by rw [if_pos rfl]; exact List.reverse_perm vs))) (by
    rw [List.pairwise_reverse]
    exact h1.imp fun {u v} q => Int.not_lt.mp (of_decide_eq_false q))
  rw [if_pos rfl, show out.toArray.reverse = out.reverse.toArray by simp]
  exact h3
end
end TDS
namespace TD
open PySem L2 PySem.Spec PyProof.Rows
open Evl (Ex ex_l ex_t fresh_back sq_of st_of sz_of sz_lt)
def rSortedDTR (dd : Nat) (S B : Int) : List V → List V → Hp → VK → Prop := fun vs zs H Q => ∃ (a : Addr) (kvs : List (List Int × V)), vs = [V.ref a] ∧ zs = [.bl true] ∧ Rd H a (.dT (keysT kvs)) ∧ (∀ q ∈ kvs, q.1.length = dd ∧ TS.Bd B (TDS.shI S q.1)) ∧
  ∀ (L : List (Addr × List Int)) (p : Addr), (L.map (·.2)).Perm (kvs.map (·.1)) → (∀ q ∈ L, H q.1 = some (.tup (q.2.map V.int))) → L.Pairwise (fun q r => TDS.cd S B r.2 ≤ TDS.cd S B q.2) → H p = none → Q (.ref p) (upd H p (.lst (L.map fun q => V.ref q.1)))
theorem cr_sortedDTR {X : Cx} (calm : X.calm = true) {dd : Nat} {S B : Int} (hd1 : 1 ≤ dd) : CallRK X (.builtin "sorted") [Str.ofString "reverse"] (rSortedDTR dd S B) := by
  rintro pins s σ H _ _ us ws Q I r opts ⟨a, kvs, rfl, rfl, at_, hb, q⟩
  rw [Vals.ref1 r]
  obtain ⟨w1, rfl, ew⟩ := vals1 opts
  (cases show w1 = Value.bool true from ew)
  obtain ⟨few, lo, xs, pr, o, es, ep, ho, hx, hdt, he, hn⟩ := (show ObjOk X.prog X.w H s.heap a (.dT (keysT kvs)) from at_.ok I.hok)
  have l1 : es.size = xs.length := size_of_entries he
  have l2 : (keysT kvs).length = xs.length := Paired.length pr
  obtain ⟨L0, z1, z2, z3⟩ := keysT_zip pr
  have l3 : L0.length = xs.length := by simpa using (congrArg List.length z1).symm
  refine call_function_entry_kw PyProof.Rows.kind_sorted PyProof.Rows.plain_sorted PyProof.Rows.entry_sorted (PyProof.Rows.args_sorted_rev _ _) (show wpAny _ _ (Builtin.«sorted» _) _ _ _ from ?_)
  unfold Builtin.«sorted»
  refine wpAny_bind (m := checkCount "sorted" 1 1 _) (wpAny_pure (wpAny_bind (PySem.W.kdu_collect (A := X.A.in1) (kdl_raw lo hx hdt) (I.ok.hd calm) ho (by omega) fun g tk acc same got => ?_)))
  have ga : acc.toList = L0.map fun q => Value.ref q.1 := by
    have e0 : (L0.map fun q => Value.ref q.1) = xs.map fun x => Value.ref x.2.1 := by
      rw [show (L0.map fun q => Value.ref q.1) = (L0.map (·.1)).map Value.ref by rw [List.map_map] <;> rfl, ← z1, List.map_map] <;> rfl
    rw [e0]
    have hl : acc.toList.length = xs.length := by rw [Array.length_toList, got.1, l1]
    (refine List.ext_getElem? fun j => ?_)
    rw [List.getElem?_map]
    by_cases hj : j < xs.length
    · obtain ⟨en, hen, hv⟩ := got.2 j (acc.toList[j]'(by omega)) (by rw [← Array.getElem?_toList]; exact List.getElem?_eq_getElem _)
      have qe := entry_at he j
      rw [hen, List.getElem?_eq_getElem hj] at qe
      rw [List.getElem?_eq_getElem (by omega), List.getElem?_eq_getElem hj, hv, Option.some.inj qe]
      rfl
    · rw [List.getElem?_eq_none (by omega), List.getElem?_eq_none (by omega)]
      rfl
  have size : acc.toList.length ≤ sizeLine := by rw [ga, List.length_map]; omega
  have tk0 : ∀ q ∈ L0, TS.TupInts s.heap (.ref q.1) q.2 := fun q hq => tupI_raw I (st_of (z3 q hq))
  have old : ∀ b u, s.heap.get? b = some u → (g.push (seqObj "list" acc.toList.toArray 0)).get? b = some u := fun b u e => Heap.get?_push_of_some _ (same b u e)
  have lies : (g.push (seqObj "list" acc.toList.toArray 0)).get? g.objs.size = some (seqObj "list" acc.toList.toArray 0) := Heap.get?_push_size _ rfl
  have tk1 : ∀ q ∈ L0, TS.TupInts (g.push (seqObj "list" acc.toList.toArray 0)) (.ref q.1) q.2 := fun q hq => (tk0 q hq).keeps fun b u e _ => old b u e
  have x : TDS.OkS (g.push (seqObj "list" acc.toList.toArray 0)) dd S B acc.toList := fun v hv => by
    rw [ga] at hv
    obtain ⟨q, hq, rfl⟩ := List.mem_map.mp hv
    have hk : q.2 ∈ kvs.map (·.1) := by rw [← z2]; exact List.mem_map_of_mem hq
    obtain ⟨y, hy, e⟩ := List.mem_map.mp hk
    have hb := hb y hy
    rw [e] at hb
    exact ⟨q.2, tk1 q hq, hb.1, hb.2⟩
  refine wpAny_bind (wpAny_newList (show wpAny _ _ _ _ _ { s with heap := g.push (seqObj "list" acc.toList.toArray 0), toks := tk } from ?_) size)
  refine wpAny_bind (wpAny_holding (TDS.sortTR (s := { s with heap := g.push (seqObj "list" acc.toList.toArray 0), toks := tk }) lies size hd1 x fun out a1 a2 => ?_))
  obtain ⟨c, hc⟩ := sortedHeap_at (vs := acc.toList) (out := out.toArray) lies
  obtain ⟨L, pL, eL⟩ := TDS.perm_map (ga ▸ a1) L0 rfl
  have I1 : Inv X pins σ H { s with heap := g, toks := tk } := I.kept (t' := tk) same
  refine wpAny_pure ⟨_, rfl, .ref g.objs.size, upd H g.objs.size (.lst (L.map fun q => V.ref q.1)), I1.laid (t' := tk) (fun b u e => ?_) (Nat.le_refl _) ?_, rfl, q L _ ?_ (fun q hq => z3 q (pL.mem_iff.mp hq)) ?_ (I1.hok.fresh (Nat.le_refl _))⟩
  · have lt := Heap.lt_size e
    rw [sortedHeap_old (Nat.ne_of_lt lt) (by rw [size_push']; exact Nat.lt_succ_of_lt lt)]
    (exact Heap.get?_push_of_some _ e)
  · exact ⟨by rw [List.length_map, pL.length_eq]; omega, out, c, by rw [eL]; exact vals_of_refs L, hc⟩
  · rw [← z2]
    exact pL.map (·.2)
  · rw [eL, List.pairwise_map] at a2
    refine a2.imp_of_mem fun {q r} hq hr hle => ?_
    have e1 := (tk1 q (pL.mem_iff.mp hq)).ints
    have e2 := (tk1 r (pL.mem_iff.mp hr)).ints
    unfold TDS.rkS at hle
    rwa [e1, e2] at hle
end TD
set_option Elab.async false
set_option linter.all false
set_option maxRecDepth 100000
set_option maxHeartbeats 4100000
namespace TD
open PySem L2 StX PySem.Spec PyProof.Rows
open Evl (Ex ex_l ex_t fresh_back sq_of st_of sz_of sz_lt)
section
variable {prog : Program}
variable {w : World} {A : Around} {E : Value → Shared → Prop} {s : Shared}
theorem truth_keyed {d : Addr} {xs : KP} {Q : Bool → Shared → Prop} (hd : (d == sysModules) = false) (hm : s.heap.DictOfH (TKm prog w) d xs) (few : (xs.length : Int) < 2 ^ 63) (h : Q (!xs.isEmpty) { s with toks := s.toks + 1 + 1 }) : wpAny (model prog w) A (truthy (.ref d)) Q E s := by
  have its := hm.typeIs
  have plain := noBool_dict
  have counts := PySem.F.slot_dict_len.lookup
  have some_ : ((xs.length : Int) != 0) = !xs.isEmpty := by cases xs <;> simp <;> omega
  unfold truthy
  wp_walk
  refine codeAny_builtin entry_len ?_
  have room : A.under (.builtin "len" ⟨[.ref d], []⟩) = A.in1 := Around.under_plainId plain_len _
  rw [room]
  exact wpAny_mono (wpAny_len_body_dictH (Q := fun n s' => n = .int xs.length (s.toks + 1) ∧ Q (!xs.isEmpty) s') hd hm few ⟨rfl, h⟩) (fun _ _ ⟨n, e, e2, q⟩ => by
    subst e e2
    exact wpAny_pure (some_ ▸ q)) fun _ _ z => z
theorem ne_dicts {a b : Addr} {xs ys : KP} {bs : List Bool} {Q : Value → Shared → Prop} (ha : (a == sysModules) = false) (hb : (b == sysModules) = false) (da : s.heap.DictOfH (TKm prog w) a xs) (db : s.heap.DictOfH (TKm prog w) b ys) (hu : A.units + 1 < cLine)
    (says : xs.length = ys.length → ∀ (i : Nat) (x : List Key × Addr × Value), xs[i]? = some x → ∃ c, bs[i]? = some c ∧ Says A.in1 s ys x c) (len : bs.length = xs.length) (q : Q (.bool (!(xs.length == ys.length && bs.all id))) s) : wpAny (model prog w) A (compareOp .NotEq (.ref a) (.ref b)) Q E s := by
  have it := da.typeIs
  have that := db.typeIs
  have sub := PySem.F.sub_dict_dict
  have pairs : ∀ {nm : String} {Q' : Bool → Shared → Prop} {E' : Value → Shared → Prop}, Q' (xs.length == ys.length && bs.all id) s → wpAny (model prog w) A.in1 (Builtin.Dict.samePairs nm a b) Q' E' s := fun z => same_dicts (tupleKind_room_in1 hu) ha hb da db says len z
  refine wpAny_richCompare_same_room (op := .NotEq) it that PySem.F.slot_dict_ne (wpAny_call_entry PySem.F.slot_dict_ne it PySem.F.entry_dict_ne ?_ (PySem.F.args_dict_ne_2 _ _)) (Nat.lt_of_succ_lt hu)
  unfold Builtin.«dict.__ne__»
  wp_walk using pairs, wpAny_notOrdered_dict it
  exact ⟨_, rfl, (fun z => nomatch z), by rw [beq_false]; exact q⟩
end
def rTruD : V → Hp → (Bool → Hp → Prop) → Prop := fun x H Q => ∃ (a : Addr) (kvs : List (List Key × V)), x = .ref a ∧ Rd H a (.dT kvs) ∧ Q (!kvs.isEmpty) H
theorem empty_len {α β : Type} {xs : List α} {ys : List β} (h : xs.length = ys.length) : xs.isEmpty = ys.isEmpty := by
  cases xs <;> cases ys <;> first | rfl | exact nomatch h
theorem tru_sub_dT {X : Cx} {A : Around} {pins : List (Addr × Obj)} {s : Shared} {σ : L2.St} {H : Hp} {x : V} {v : Value} {Q : Bool → Hp → Prop} (I : Inv X pins σ H s) (rx : RelV x v) (q : rTruD x H Q) : wpAny (model X.prog X.w) A (truthy v) (TP X pins σ Q) X.xe s := by
  obtain ⟨a, kvs, rfl, e, q⟩ := q
  cases rx
  obtain ⟨few, nm, ys, rel, dd⟩ := dt_rd I.hok e
  have same : kvs.length = ys.length := Paired.length rel
  exact truth_keyed nm dd (by rw [sizeLine_eq] at few; omega) ⟨H, I.tok _, by rw [← empty_len same]; exact q⟩
def rBoolD : List V → Hp → VK → Prop := fun xs H Q => ∃ (a : Addr) (kvs : List (List Key × V)), xs = [.ref a] ∧ Rd H a (.dT kvs) ∧ Q (.bl (!kvs.isEmpty)) H
theorem cr_boolD [TabW] {X : Cx} : CallR X (.type "bool") rBoolD := by
  rintro pins s σ H xs us Q I r ⟨a, kvs, rfl, e, q⟩
  rw [Vals.ref1 r]
  refine call_boolV (wpAny_mono (tru_sub_dT (x := .ref a) (v := .ref a) (Q := fun c H' => Q (.bl c) H') I rfl ⟨a, kvs, rfl, e, q⟩) (fun b s' z => ?_) fun _ _ z => z)
  obtain ⟨H', J, z⟩ := z
  exact ⟨.bl b, H', J, rfl, z⟩
/-- e or f, e's truth by any rule -/
def tOrR (r : V → Hp → (Bool → Hp → Prop) → Prop) (ta tb : TE) : TE := fun σ H Q => ta σ H fun x H1 => r x H1 fun k H2 => H2 = H1 ∧ if k = true then Q x H1 else tb σ H1 Q
theorem pe_orR {X : Cx} {a b : Expr} {ta tb : TE} {rest : List Expr} {pos : Pos} {r : V → Hp → (Bool → Hp → Prop) → Prop} (ha : PE X a ta) (hr : TruR X r) (hb : PE X (.BoolOp .Or (b :: rest) pos) tb) : PE X (.BoolOp .Or (a :: b :: rest) pos) (tOrR r ta tb) := by
  refine ⟨fun pins s σ H Q I h => BoolOp_or (thn (ha.run pins s σ H _ I h) fun v s1 ⟨x, H1, J, rx, q⟩ => thn (hr pins s1 σ H1 x v _ J rx q) fun c s2 hc => ?_)⟩
  obtain ⟨H2, J2, same, q⟩ := hc
  subst same
  cases c with
  | true => exact ⟨x, _, J2, rx, q⟩
  | false => exact hb.run pins s2 σ _ Q J2 q
/-- nothing, or a dict -/
def rTruDN : V → Hp → (Bool → Hp → Prop) → Prop := fun x H Q => (x = .non ∧ Q false H) ∨ rTruD x H Q
theorem tru_dTN {X : Cx} : TruR X rTruDN := by
  intro pins s σ H x v Q I rx q
  rcases q with ⟨rfl, q⟩ | q
  · cases rx
    exact truthy_none ⟨H, I, q⟩
  · exact tru_sub_dT I rx q
def rNeDT (K : PySem.W.Frag) : R2 := fun x y H Q => ∃ (a b : Addr) (ka kb : List (List Key × V)) (bs : List Bool), x = .ref a ∧ y = .ref b ∧ Rd H a (.dT ka) ∧ Rd H b (.dT kb) ∧ bs.length = ka.length ∧ (∀ (i : Nat) (k : List Key) (v : V), ka[i]? = some (k, v) → ∃ c, bs[i]? = some c ∧ SaysV K H kb k v c) ∧ Q (.bl (!(ka.length == kb.length && bs.all id))) H
theorem op_neDT {X : Cx} {n : Nat} (hr : Room n X.A) : OpR X (compareOp .NotEq) (rNeDT X.K) := by
  have hu := hr.un
  rintro pins s σ H x y v u Q I rx ry ⟨a, b, ka, kb, bs, rfl, rfl, ea, eb, hl, hs, q⟩
  cases rx
  cases ry
  obtain ⟨_, ha, xs, ra, da⟩ := dt_rd I.hok ea
  obtain ⟨_, hb, ys, rb, db⟩ := dt_rd I.hok eb
  have la : ka.length = xs.length := Paired.length ra
  refine ne_dicts (bs := bs) ha hb da db (by omega) (fun _ i x hx => ?_) (hl.trans la) ⟨.bl _, H, I, rfl, by rw [← la, ← show kb.length = ys.length from Paired.length rb]; exact q⟩
  have hi : i < ka.length := la ▸ (List.getElem?_eq_some_iff.mp hx).1
  obtain ⟨x', hx', e1, _, rv⟩ := paired_get ra (List.getElem?_eq_getElem hi)
  cases hx.symm.trans hx'
  obtain ⟨c, hc, sv⟩ := hs i _ _ (List.getElem?_eq_getElem hi)
  exact ⟨c, hc, SaysV.says I (by show X.A.units + 1 + 64 < cLine; omega) rb rv (e1 ▸ sv)⟩
section
variable [TabW] {K : PySem.W.Frag} {G H : Hp} {ρ : Rho} {β β1 β2 : Bag} {ta tb : TE} {ps qs : List (List Int × Dt)}
theorem rd_dT {b : Addr} {v : V} (d : Den K G v (dT ps)) (e : Ex G H) : ∃ a kvs, v = .ref a ∧ Rd H a (.dT (keysT kvs)) ∧ (keysT kvs).isEmpty = ps.isEmpty := by
  obtain ⟨a, ka, rfl, sa, qa⟩ := den_dT d
  exact ⟨a, ka, rfl, rd_ex e sa, empty_len ((List.length_map _).trans qa.length)⟩
theorem d_neDT (ha : EvB K ta ρ β (dT ps) β1) (hb : EvB K tb ρ β1 (dT qs) β2) (fp : ∀ q ∈ ps, flatD q.2 = true ∧ SeqAt.shaped q.2 = true) (fq : ∀ q ∈ qs, flatD q.2 = true ∧ SeqAt.shaped q.2 = true) :
    EvB K (tOp (rNeDT K) ta tb) ρ β (.bool (!(ps.length == qs.length && eqT ps qs))) β2 := d_op ha hb fun b G H v w Q e h1 h2 k => by
  obtain ⟨a, ka, rfl, sa, qa⟩ := den_dT h1
  obtain ⟨c, kc, rfl, sc, qc⟩ := den_dT h2
  have la : (keysT ka).length = ps.length := (List.length_map _).trans qa.length
  have lc : (keysT kc).length = qs.length := (List.length_map _).trans qc.length
  refine ⟨a, c, keysT ka, keysT kc, ps.map (hasEq qs), rfl, rfl, rd_ex e sa, rd_ex e sc, (List.length_map _).trans la.symm, fun i k v hi => ?_, ?_⟩
  · obtain ⟨q, hq, rfl, hd⟩ := qa.at_ hi
    exact ⟨_, by rw [List.getElem?_map, hq] <;> rfl, says_of e qc fq hd (fp q (List.mem_of_getElem? hq))⟩
  · rw [la, lc, ← eqT_map]
    exact k _ G H (Step.refl e) (.bl _)
theorem d_boolD (h : EvB K ta ρ β (dT ps) β1) : EvB K (tCB rBoolD (tCons ta tNil)) ρ β (.bool (!ps.isEmpty)) β1 := ⟨h.som, fun b G H σ Q E k => h.run b G H σ _ E fun v G1 H1 s1 k1 d1 => by
  obtain ⟨a, kvs, rfl, r, e⟩ := rd_dT (b := b) d1 s1.s
  exact ⟨a, _, rfl, r, e ▸ k _ G1 H1 s1 k1 (.bl _)⟩⟩
theorem d_orN {d : Dt} (h : EvB K ta ρ β .none β1) (h' : EvB K tb ρ β1 d β2) : EvB K (tOrR rTruDN ta tb) ρ β d β2 := ⟨h'.som.trans h.som, fun b G H σ Q E k => h.run b G H σ _ E fun v G1 H1 s1 k1 d1 => by
  cases d1
  exact .inl ⟨rfl, rfl, h'.run b G1 H1 σ Q (E.step s1 k1) fun v G2 H2 s2 k2 d2 => k v G2 H2 (s1.trans (h.som ▸ s2)) k2 d2⟩⟩
theorem d_orD (h : EvB K ta ρ β (dT ps) β1) (ne : ps ≠ []) : EvB K (tOrR rTruDN ta tb) ρ β (dT ps) β1 := ⟨h.som, fun b G H σ Q E k => h.run b G H σ _ E fun v G1 H1 s1 k1 d1 => by
  obtain ⟨a, kvs, rfl, r, e⟩ := rd_dT (b := b) d1 s1.s
  have full : (!ps.isEmpty) = true := by cases ps with | nil => exact absurd rfl ne | cons => rfl
  exact .inr ⟨a, _, rfl, r, rfl, by rw [e, full]; exact k _ G1 H1 s1 k1 d1⟩⟩
theorem d_orE (h : EvB K ta ρ β (dT []) β1) {d : Dt} (h' : EvB K tb ρ β1 d β2) : EvB K (tOrR rTruDN ta tb) ρ β d β2 := ⟨h'.som.trans h.som, fun b G H σ Q E k => h.run b G H σ _ E fun v G1 H1 s1 k1 d1 => by
  obtain ⟨a, kvs, rfl, r, e⟩ := rd_dT (b := b) d1 s1.s
  exact .inr ⟨a, _, rfl, r, rfl, by rw [e]; exact h'.run b G1 H1 σ Q (E.step s1 k1) fun v G2 H2 s2 k2 d2 => k v G2 H2 (s1.trans (h.som ▸ s2)) k2 d2⟩⟩
end
end TD
set_option Elab.async false
set_option linter.all false
set_option maxRecDepth 100000
set_option maxHeartbeats 4100000
namespace TD
open PySem L2 PySem.Spec PyProof.Rows
open Evl (Ex ex_l ex_t fresh_back sq_of st_of sz_of sz_lt)
mutual
/-- no object within -/
def noO : Dt → Bool
  | .list ds => noOL ds
  | .tuple ds => noOL ds
  | .dict ps => noOP ps
  | _ => true
def noOL : List Dt → Bool
  | [] => true
  | d :: ds => noO d && noOL ds
def noOP : List (Dt × Dt) → Bool
  | [] => true
  | (.none, .int _) :: _ => false
  | (_, d) :: ps => noO d && noOP ps
end
section
variable {K : PySem.W.Frag} {G Gd : Hp} {x C dx : Addr} {fs : List (Str × V)}
theorem ne_at {a : Addr} {o : HO} (hx : G x = some (.ins C dx fs)) (h : G a = some o) (ho : ∀ C dx fs, o ≠ .ins C dx fs) : a ≠ x := fun z => by
  rw [z, hx] at h
  exact ho _ _ _ (Option.some.inj h).symm
theorem rd_off {a : Addr} {u : HO} (hx : G x = some (.ins C dx fs)) (hd : ∀ y, y ≠ x → Gd y = G y) (hu : ∀ C dx fs, u ≠ .ins C dx fs) (h : Rd G a u) : Rd Gd a u := by
  rcases h with h | ⟨o, h⟩
  · exact .inl (by rw [hd _ (ne_at hx h hu)]; exact h)
  · exact .inr ⟨o, by rw [hd _ (ne_at hx h (fun _ _ _ z => nomatch z))]; exact h⟩
theorem noO_pair {k d : Dt} {ps : List (Dt × Dt)} (h : noOP ((k, d) :: ps) = true) : noO d = true ∧ noOP ps = true := by
  unfold noOP at h
  split at h
  · rename_i e
    cases e
  · cases h
  · rename_i e
    cases e
    exact Bool.and_eq_true_iff.mp h
mutual
theorem Den.noO (hx : G x = some (.ins C dx fs)) (hd : ∀ y, y ≠ x → Gd y = G y) : ∀ {d : Dt} {v : V}, Den K G v d → noO d = true → Den K Gd v d
  | .none, _, h, _ => by cases h; exact .non
  | .bool b, _, h, _ => by cases h; exact .bl b
  | .int i, _, h, _ => by cases h; exact .int i
  | .str s, _, h, _ => by cases h; exact .str s
  | .list ds, _, h, n => by
    unfold TD.noO at n
    cases h with
    | lst hs hl => exact .lst (by rw [hd _ (ne_at hx hs (fun _ _ _ z => nomatch z))]; exact hs) (DenL.noO hx hd hl n)
  | .tuple ds, _, h, n => by
    unfold TD.noO at n
    cases h with
    | tup hs hl => exact .tup (by rw [hd _ (ne_at hx hs (fun _ _ _ z => nomatch z))]; exact hs) (DenL.noO hx hd hl n)
  | .dict kvs, _, h, n => by
    unfold TD.noO at n
    cases h with
    | dct hs => exact .dct (rd_off hx hd (fun _ _ _ z => nomatch z) hs)
    | dcE hs ht =>
      refine .dcE (by rw [hd _ (ne_at hx hs (fun _ _ _ z => nomatch z))]; exact hs) ?_
      rcases ht with (h | ⟨o, h⟩) | h
      · exact .inl (.inl (by rw [hd _ (ne_at hx h (fun _ _ _ z => nomatch z))]; exact h))
      · exact .inl (.inr ⟨o, by rw [hd _ (ne_at hx h (fun _ _ _ z => nomatch z))]; exact h⟩)
      · exact .inr h
    | dcI hs hp => exact .dcI (rd_off hx hd (fun _ _ _ z => nomatch z) hs) (DenP.noO hx hd hp (noO_pair n).2)
    | dcT hs hp =>
      exact .dcT (rd_off hx hd (fun _ _ _ z => nomatch z) hs) (DenT.noO hx hd hp (noO_pair n).2)
    | ins hc hs hp =>
      unfold noOP at n
      cases n
theorem DenT.noO (hx : G x = some (.ins C dx fs)) (hd : ∀ y, y ≠ x → Gd y = G y) : ∀ {ps : List (Dt × Dt)} {kvs : List (List Key × V)}, DenT K G kvs ps → noOP ps = true → DenT K Gd kvs ps
  | [], _, h, _ => by cases h; exact .nil
  | q :: ps, _, h, n => by
    cases h with
    | cons h1 h2 => exact .cons (Den.noO hx hd h1 (noO_pair n).1) (DenT.noO hx hd h2 (noO_pair n).2)
theorem DenP.noO (hx : G x = some (.ins C dx fs)) (hd : ∀ y, y ≠ x → Gd y = G y) : ∀ {ps : List (Dt × Dt)} {kvs : List (Int × V)}, DenP K G kvs ps → noOP ps = true → DenP K Gd kvs ps
  | [], _, h, _ => by cases h; exact .nil
  | q :: ps, _, h, n => by
    cases h with
    | cons h1 h2 => exact .cons (Den.noO hx hd h1 (noO_pair n).1) (DenP.noO hx hd h2 (noO_pair n).2)
theorem DenL.noO (hx : G x = some (.ins C dx fs)) (hd : ∀ y, y ≠ x → Gd y = G y) : ∀ {ds : List Dt} {vs : List V}, DenL K G vs ds → noOL ds = true → DenL K Gd vs ds
  | [], _, h, _ => by cases h; exact .nil
  | d :: ds, _, h, n => by
    unfold noOL at n
    rw [Bool.and_eq_true] at n
    cases h with
    | cons h1 h2 => exact .cons (Den.noO hx hd h1 n.1) (DenL.noO hx hd h2 n.2)
end
theorem DenF.noO (hx : G x = some (.ins C dx fs)) (hd : ∀ y, y ≠ x → Gd y = G y) : ∀ {ps : List (Dt × Dt)} {gs : List (Str × V)}, DenF K G gs ps → noOP ps = true → DenF K Gd gs ps
  | [], _, h, _ => by cases h; exact .nil
  | q :: ps, _, h, n => by
    cases h with
    | cons h1 h2 => exact .cons (Den.noO hx hd h1 (noO_pair n).1) (DenF.noO hx hd h2 (noO_pair n).2)
end
/-- an attribute set, there already or not -/
def putA : List (Dt × Dt) → Str → Dt → List (Dt × Dt)
  | [], f, d => [(.str f, d)]
  | (.str g, x) :: ps, f, d => if g = f then (.str g, d) :: ps else (.str g, x) :: putA ps f d
  | q :: ps, f, d => q :: putA ps f d
section
variable {K : PySem.W.Frag} {G : Hp}
theorem DenF.putA {f : Str} {v : V} {d : Dt} (hv : Den K G v d) : ∀ {fs : List (Str × V)} {ps : List (Dt × Dt)}, DenF K G fs ps → DenF K G (putF f v fs) (putA ps f d)
  | [], [], _ => .cons hv .nil
  | [], _ :: _, h => (nomatch h)
  | _ :: _, [], h => (nomatch h)
  | (g, x) :: fs, _, .cons (d := d0) (ps := ps) h1 h2 => by
    show DenF K G (if g = f then (g, v) :: fs else (g, x) :: putF f v fs) (if g = f then (.str g, d) :: ps else (.str g, d0) :: TD.putA ps f d)
    by_cases e : g = f
    · rw [if_pos e, if_pos e]
      exact .cons hv h2
    · rw [if_neg e, if_neg e]
      exact .cons h1 (DenF.putA hv h2)
end
section
variable [TabW] {K : PySem.W.Frag} {b : Addr} {ρ ρ1 : Rho} {β β1 β2 : Bag} {ta te : TE} {t : TA} {d x : Dt} {C : Addr} {ps : List (Dt × Dt)} {f m : Str} {as : List Slot} {E : XK} {i j : Nat} {G H G0 H0 G1 H1 G2 H2 : Hp} {σ : L2.St} {p : Addr}
theorem sw_fldA (h : EvW K i te ρ β (oD C ps) d β1) (hn : NoAttr K C f) (hz : ps.length < 1000) : StW K i (sFld K (tVar i) te f) ρ β (oD C ps) (.nx ρ) β1 (oD C (putA ps f d)) := ⟨h.som, fun b G0 H0 G H σ p D gn s w k => h.run b G H σ p _ w fun v G1 H1 s1 w1 dv => by
  obtain ⟨ob, hp, hd⟩ := w1.val
  cases hd with
  | @ins C' dx fs ps' hc hF =>
    refine ⟨_, w1.at_, p, C, dx, fs, rfl, hp, hc.ic.cl, hn, by rw [hF.length]; exact hz, ?_⟩
    have s2 := s.trans s1
    have g1 : Gone H0 p := gn
    exact k σ G1 _ (s2.mutM g1 w1.free w1.mu) (w1.put (.ins hc (hF.putA dv)))⟩
end
end TD
set_option Elab.async false
set_option linter.all false
set_option maxRecDepth 100000
set_option maxHeartbeats 3000000
namespace TD
open PySem L2 PySem.Spec PyProof.Rows
end TD
set_option Elab.async false
set_option linter.all false
set_option maxRecDepth 100000
set_option maxHeartbeats 4100000
namespace TD
open PySem L2 PySem.Spec PyProof.Rows
open Evl (Ex ex_l ex_t fresh_back sq_of st_of sz_of sz_lt)
structure InitAtD (K : PySem.W.Frag) (x : Str) (C : Addr) (qual : Str) (st : Stmt) : Prop where
  ex : ∃ (f : Addr) (fd : FuncData), PySem.W.nsIn K mainGlobals x = some (some (.ref C)) ∧ L2.Mk K C f ∧ FunD K "__init__" qual (defArgs st) (defBody st) (defScope st) [V.non] [] f fd
  ins : InsK K C
section
variable [TabW] (P : Program) (w : World) (K : PySem.W.Frag) (mg : Str → Option Value) (base : Heap) (k : Nat)
structure FnID (x : Str) (C : Addr) (ps : List Str) (R : FI) : Prop where
  ex : ∃ (f : Addr) (fd : FuncData) (ds : List Value), mg x = some (.ref C) ∧ L2.Mk K C f ∧ FnOk P w K mg base (L2.CX P w) k f fd ps (spI K C R) ∧ Binds K fd ps [] ∧ Vals [V.non] ds ∧ Binds K fd ps ds
end
section
variable [TabW] {P : Program} {w : World} {K : PySem.W.Frag} {mg : Str → Option Value} {base : Heap} {X : Cx} {k : Nat} {x m qual : Str} {C : Addr} {ps N : List Str} {st : Stmt} {pos p apos : Pos} {e o : Expr} {es : List Expr} {t : TA} {te : TE} {E : XK}
theorem pe_newA {R : FI} (F : FnID P w K mg base k x C ps R) (hr : Room (k + 1) X.A) (hx : Passes (L2.CX X.prog X.w) X E) (ha : PA X (e :: es) t) (h1 : X.prog = P := by rfl) (h2 : X.w = w := by rfl) (h3 : X.K = K := by rfl) (h4 : X.mg = mg := by rfl) (h5 : X.base = base := by rfl)
    (hg : Gl X x := by rfl) (hdb : (x == ("__debug__" : Str)) = false := by decide) (hs : starEach (e :: es) X.env = (false, eval e X.env) :: starEach es X.env := by rfl) (hp : (backTo pos (starEach es X.env)).any (·.1) = false := by rfl) :
    PE X (.Call (.Name x p) (e :: es) [] pos) (tMake C (spI K C R) [] E t) := by
  obtain ⟨f, fd, ds, hm, M, hf, hb, _⟩ := F.ex
  subst h1 h2 h3 h4 h5
  exact pe_make M hf hr hg hm hb .nil hx ha hdb hs hp
theorem pe_newB {R : FI} (F : FnID P w K mg base k x C ps R) (hr : Room (k + 1) X.A) (hx : Passes (L2.CX X.prog X.w) X E) (ha : PA X (e :: es) t) (h1 : X.prog = P := by rfl) (h2 : X.w = w := by rfl) (h3 : X.K = K := by rfl) (h4 : X.mg = mg := by rfl) (h5 : X.base = base := by rfl)
    (hg : Gl X x := by rfl) (hdb : (x == ("__debug__" : Str)) = false := by decide) (hs : starEach (e :: es) X.env = (false, eval e X.env) :: starEach es X.env := by rfl) (hp : (backTo pos (starEach es X.env)).any (·.1) = false := by rfl) :
    PE X (.Call (.Name x p) (e :: es) [] pos) (tMake C (spI K C R) [V.non] E t) := by
  obtain ⟨f, fd, ds, hm, M, hf, _, hv, hb⟩ := F.ex
  subst h1 h2 h3 h4 h5
  exact pe_make M hf hr hg hm hb hv hx ha hdb hs hp
theorem initD_mk {R : FI} (F : InitAtD K x C qual st) (hX : K.In base) (hG : base.Ns mainGlobals mg) (S : FnScope N ps (defScope st)) (hlen : ∀ as β r β', R as β r β' → as.length + 1 = ps.length) {n : Nat} (hn : n + 1 = ps.length)
    (hb : ∀ (j : Nat) (T : Addr) (kV doc pm : Value) (an : Option Addr) (cdv ct : Value) (us its : List Value), j ≤ 1 → us.length = n + j → its.length = 1 → ∃ k, bindArgs (PySem.W.fnOf "__init__" qual (defArgs st) (defBody st) (defScope st) (.ref T) kV doc pm an cdv ct) ⟨us, []⟩ = seqItems? (.ref T) >>= k ∧ k (some its.toArray) = pure (ps.zip (us ++ its.drop j)))
    (hbody : ∀ (f : Addr) (cdv : Value) (A : Around) (outer : List PySem.Env) (s : Shared) (H : Hp) (E : XK), Room k (A.deeper (envOfC qual (defScope st) s.heap.objs.size f cdv)) →
      ∃ t, PSs (cxOf (L2.CX P w) P w K mg base N qual (defScope st) f cdv A outer s H E) (defBody st) t ∧ ∀ as β r β', R as β r β' → BodyI K E C t (startI N as) β β' r) : FnID P w K mg base (k + 1) x C ps R := by
  obtain ⟨f, fd, ha, M, hF⟩ := F.ex
  have b0 := hF.binds1 (ps := ps) (n + 1) 1 (fun z => nomatch z) hn (fun T kV doc pm an cdv ct us its h1 h2 => hb 1 T kV doc pm an cdv ct us its (Nat.le_refl _) h1 h2)
  obtain ⟨d0, e0, b0⟩ := b0
  cases e0
  obtain ⟨ds, hv, b1⟩ := hF.binds1 (ps := ps) n 0 (fun z => nomatch z) hn (fun T kV doc pm an cdv ct us its h1 h2 => hb 0 T kV doc pm an cdv ct us its (by decide) h1 h2)
  refine ⟨f, fd, ds, PySem.W.mg_of hX hG ha, M, ?_, b0, hv, b1⟩
  refine hF.ok S (fun vs H Q E hsp => ?_) fun cdv A outer s H vs Q E hr hsp => ?_
  · obtain ⟨b, G, H0, β, as, r, β', y, dx, ws, rfl, _, _, _, _, _, _, _, hd, hR, _⟩ := hsp
    show ws.length + 1 = _
    rw [hd.length]
    exact hlen _ _ _ _ hR
  · obtain ⟨t, h1, h2⟩ := hbody f cdv A outer s H E hr
    exact ⟨t, h1, init_read F.ins h2 hsp⟩
end
section
variable [TabW] {K : PySem.W.Frag} {b : Addr} {ρ ρ1 : Rho} {β β1 β2 : Bag} {t : TA} {d x : Dt} {C : Addr} {ps : List (Dt × Dt)} {as : List Slot} {E : XK} {G H G0 H0 G1 H1 G2 H2 : Hp} {σ : L2.St} {p : Addr}
/-- C(..), its last argument left out -/
theorem x_newB {R : FI} (ha : EvA K t ρ β as β1) (hR : R (as ++ [.imm .none]) none (.ok ps) none) : EvB K (tMake C (spI K C R) [V.non] E t) ρ β (oD C ps) β1 := ⟨ha.som, fun b G H σ Q E' k => ha.run b G H σ _ E' fun vs G1 H1 s1 k1 d1 x dx hx hdx ne => by
  exact ⟨b, G1, H1, none, as ++ [.imm .none], .ok ps, none, x, dx, vs ++ [V.non], rfl, hx, hdx, ne, rfl, s1.s, (E'.step s1 k1).tabs, (fun _ z => nomatch z), d1.app (.cons .non .nil), hR, rfl, fun G2 H2 s2 k2 d2 => ⟨rfl, k (.ref x) G2 H2 (s1.trans s2.up) (k1.same s2) d2⟩⟩⟩
theorem own_made {m : Bool} {Q : VK} (E1 : EnvD K b β1 G1 H1 σ ρ) (hm : β1.isSome = m) {q dx : Addr} (hx : H1 q = none) (hn : noOP ps = true) (s2 : Step b false G1 H1 G2 H2) (d2 : Den K G2 (.ref q) (oD C ps))
    (k : ∀ p u G3 H3 Hb, Step b m G1 H1 G3 Hb → Gone Hb p → Step b m G3 Hb G3 H3 → BagOk b β1 G3 H3 → G3 p = none → (β1.isSome = true → p ≠ b) → H3 p = some u → Held K G3 u (oD C ps) → Q (.ref p) H3) : Q (.ref q) H2 := by
  obtain ⟨a, dx', fs, e, hc, hs, hp⟩ := den_oD d2
  obtain rfl : q = a := V.ref.inj e
  have k1 := E1.bagk
  have gx : G1 q = none := fresh_back E1.sub hx
  obtain ⟨Gd, hGd⟩ : ∃ Gd : Hp, Gd = fun y => if y = q then none else G2 y := ⟨_, rfl⟩
  have g1 : Gd q = none := by rw [hGd]; exact if_pos rfl
  have g2 : ∀ y, y ≠ q → Gd y = G2 y := fun y hy => by rw [hGd]; exact if_neg hy
  have s3 : Step b m G1 H1 Gd H2 := by
    refine ⟨fun y u h => ?_, fun y u h => ?_, fun y o h t h2 => ?_, fun y o n t h => s2.keep y o (fun z => nomatch z) t h, s2.stay, fun t => ⟨(s2.tabs t).tab, fun y ps z => ?_⟩⟩
    · have hy : y ≠ q := fun z => by rw [z, gx] at h; cases h
      rw [g2 y hy]
      exact s2.g _ _ h
    · by_cases hy : y = q
      · rw [hy, g1] at h; cases h
      · rw [g2 y hy] at h
        exact s2.s _ _ h
    · have hy : y ≠ q := fun z => by rw [z, hx] at h2; cases h2
      rw [g2 y hy]
      exact s2.fresh y o h t h2
    · by_cases hy : y = q
      · rw [hy, g1] at z; cases z
      · rw [g2 y hy] at z
        exact (s2.tabs t).free y ps z
  have kb : BagOk b β1 Gd H2 := by
    have k3 := k1.same s2
    intro ns e
    obtain ⟨q1, q2⟩ := k3 ns e
    refine ⟨q1, ?_⟩
    by_cases hy : b = q
    · rw [hy]; exact g1
    · rw [g2 b hy]; exact q2
  have nb : β1.isSome = true → q ≠ b := fun z r => by
    obtain ⟨ns, e2⟩ := Option.isSome_iff_exists.mp z
    have := (k1 ns e2).1
    rw [← r, hx] at this
    cases this
  have hh : Held K Gd (.ins C dx' fs) (oD C ps) := .ins hc (hp.noO hs g2 hn)
  have w : OwnW K b β1 0 q Gd H2 [some (.ref q)] [none] (oD C ps) := ⟨⟨s3.s, kb, rfl, (fun i d z => by cases i <;> simp at z), (fun i z => by cases i <;> simp at z), s3.tabs E1.tabs, fun i a z => by cases i <;> simp at z⟩, rfl, rfl, g1, nb, _, s2.s _ _ hs, hh⟩
  subst hm
  obtain ⟨Hb, gb, sb, sc⟩ := w.base (Gone.none hx) s3
  exact k q _ Gd H2 Hb sb gb sc kb g1 nb (s2.s _ _ hs) hh
theorem en_newB {R : FI} (ha : EvA K t ρ β as β1) (hR : R (as ++ [.imm .none]) none (.ok ps) none) (hn : noOP ps = true) : EvN K (tMake C (spI K C R) [V.non] E t) ρ β (oD C ps) β1 := ⟨ha.som, fun b G H σ Q E' k => ha.run b G H σ _ E' fun vs G1 H1 s1 k1 d1 x dx hx hdx ne => by
  have E1 := E'.step s1 k1
  refine ⟨b, G1, H1, none, as ++ [.imm .none], .ok ps, none, x, dx, vs ++ [V.non], rfl, hx, hdx, ne, rfl, s1.s, E1.tabs, (fun _ z => nomatch z), d1.app (.cons .non .nil), hR, rfl, fun G2 H2 s2 k2 d2 => ⟨rfl, ?_⟩⟩
  exact own_made (dx := dx) E1 ha.som hx hn s2 d2 (EvN.of s1 ha.som k)⟩
end
end TD
set_option Elab.async false
set_option linter.all false
set_option maxRecDepth 100000
set_option maxHeartbeats 4100100
namespace TD
open PySem L2 PySem.Spec PyProof.Rows
open Evl (Ex ex_l ex_t fresh_back sq_of st_of sz_of sz_lt)
abbrev LQ := List (List Key × V) ⊕ List (Int × V)
/-- a dict, of either kind -/
def dkO : List (List Key × V) ⊕ List (Int × V) → HO
  | .inl k => .dT k
  | .inr k => .dK (keysO k)
/-- the dict q, locked or not -/
def LkG (q : List (List Key × V) ⊕ List (Int × V)) (u : HO) : Prop := u = dkO q ∨ ∃ o, u = .frz o (dkO q)
abbrev LkO (kvs : List (List Key × V)) (u : HO) : Prop := LkG (.inl kvs) u
theorem LkG.nt {q : List (List Key × V) ⊕ List (Int × V)} {u : HO} (h : LkG q u) : NoT u := by
  cases q <;> (rcases h with rfl | ⟨o, rfl⟩ <;> exact ⟨fun _ z => (nomatch z), fun _ z => (nomatch z)⟩)
theorem LkG.rd {G : Hp} {a : Addr} {q : List (List Key × V) ⊕ List (Int × V)} {u : HO} (h : LkG q u) (e : G a = some u) : Rd G a (dkO q) := by
  rcases h with rfl | ⟨o, rfl⟩
  · exact .inl e
  · exact .inr ⟨o, e⟩
/-- the same heap but for locks of such dicts -/
def Sm (G G' : Hp) : Prop := ∀ x u, G x = some u → G' x = some u ∨ ∃ q, LkG q u ∧ Rd G' x (dkO q)
section
variable {K : PySem.W.Frag} {G G' : Hp}
theorem Sm.dG (e : Sm G G') {a : Addr} {q : List (List Key × V) ⊕ List (Int × V)} (h : Rd G a (dkO q)) : Rd G' a (dkO q) := by
  rcases h with h | ⟨o, h⟩
  · rcases e _ _ h with z | ⟨q', z | ⟨o, z⟩, r⟩
    · exact .inl z
    · rw [z]
      exact r
    · cases q <;> cases z
  · rcases e _ _ h with z | ⟨q', z | ⟨o', z⟩, r⟩
    · exact .inr ⟨o, z⟩
    · cases q' <;> cases z
    · injection z with _ z
      rw [z]
      exact r
theorem Sm.dT (e : Sm G G') {a : Addr} {kvs : List (List Key × V)} (h : Rd G a (.dT kvs)) : Rd G' a (.dT kvs) := e.dG (q := .inl kvs) h
theorem Sm.dI (e : Sm G G') {a : Addr} {kvs : List (Int × V)} (h : Rd G a (.dK (keysO kvs))) : Rd G' a (.dK (keysO kvs)) := e.dG (q := .inr kvs) h
theorem Sm.dK (e : Sm G G') {a : Addr} {kvs : List (Key × V)} (h : Rd G a (.dK kvs)) : Rd G' a (.dK kvs) := by
  rcases h with h | ⟨o, h⟩
  · rcases e _ _ h with z | ⟨q', z | ⟨o, z⟩, r⟩
    · exact .inl z
    · rw [z]
      exact r
    · cases z
  · rcases e _ _ h with z | ⟨q', z | ⟨o', z⟩, r⟩
    · exact .inr ⟨o, z⟩
    · cases q' <;> cases z
    · injection z with _ z
      rw [z]
      exact r
theorem Sm.of (e : Sm G G') {a : Addr} {u : HO} (h : G a = some u) (n : ∀ q, ¬ LkG q u) : G' a = some u := by
  rcases e _ _ h with z | ⟨q, z, _⟩
  · exact z
  · exact absurd z (n q)
theorem lk_no {q : List (List Key × V) ⊕ List (Int × V)} {u : HO} (h : ∀ k, u ≠ .dT k) (h' : ∀ k, u ≠ .dK (keysO k)) (h'' : ∀ o w, u ≠ .frz o w) : ¬ LkG q u := fun z => by
  rcases z with z | ⟨o, z⟩
  · cases q
    · exact h _ z
    · exact h' _ z
  · exact h'' _ _ z
theorem Sm.sqT (e : Sm G G') {a : Addr} {xs : List V} (h : SqT K G a xs) : SqT K G' a xs := by
  (rcases h with (h | ⟨o, h⟩) | h)
  · exact .inl (.inl (e.of h fun q => lk_no (fun _ z => nomatch z) (fun _ z => nomatch z) (fun _ _ z => nomatch z)))
  · rcases e _ _ h with z | ⟨q, z | ⟨o', z⟩, r⟩
    · exact .inl (.inr ⟨o, z⟩)
    · cases q <;> cases z
    · cases q <;> cases z
  · exact .inr h
mutual
theorem Den.sm (e : Sm G G') : ∀ {d : Dt} {v : V}, Den K G v d → Den K G' v d
  | .none, _, h => by cases h; exact .non
  | .bool b, _, h => by cases h; exact .bl b
  | .int i, _, h => by cases h; exact .int i
  | .str x, _, h => by cases h; exact .str x
  | .list ds, _, h => by
    cases h with
    | lst hs hd => exact .lst (e.of hs fun q => lk_no (fun _ z => nomatch z) (fun _ z => nomatch z) (fun _ _ z => nomatch z)) (DenL.sm e hd)
  | .tuple ds, _, h => by
    cases h with
    | tup hs hd => exact .tup (e.of hs fun q => lk_no (fun _ z => nomatch z) (fun _ z => nomatch z) (fun _ _ z => nomatch z)) (DenL.sm e hd)
  | .dict kvs, _, h => by
    cases h with
    | dct hs => exact .dct (e.dK hs)
    | @dcE a t k i j hs ht =>
      refine .dcE (e.of hs fun q z => ?_) (e.sqT ht)
      rcases z with z | ⟨o, z⟩
      · cases q with
        | inl k => cases z
        | inr k =>
          cases k with
          | nil => cases z
          | cons x r => cases z
      · cases q <;> cases z
    | dcI hs hp => exact .dcI (e.dI hs) (DenP.sm e hp)
    | dcT hs hp => exact .dcT (e.dT hs) (DenT.sm e hp)
    | ins hc hs hp => exact .ins hc (e.of hs fun q => lk_no (fun _ z => nomatch z) (fun _ z => nomatch z) (fun _ _ z => nomatch z)) (DenF.sm e hp)
theorem DenT.sm (e : Sm G G') : ∀ {ps : List (Dt × Dt)} {kvs : List (List Key × V)}, DenT K G kvs ps → DenT K G' kvs ps
  | [], _, h => by cases h; exact .nil
  | q :: ps, _, h => by
    cases h with
    | cons h1 h2 => exact .cons (Den.sm e h1) (DenT.sm e h2)
theorem DenF.sm (e : Sm G G') : ∀ {ps : List (Dt × Dt)} {fs : List (Str × V)}, DenF K G fs ps → DenF K G' fs ps
  | [], _, h => by cases h; exact .nil
  | q :: ps, _, h => by
    cases h with
    | cons h1 h2 => exact .cons (Den.sm e h1) (DenF.sm e h2)
theorem DenP.sm (e : Sm G G') : ∀ {ps : List (Dt × Dt)} {kvs : List (Int × V)}, DenP K G kvs ps → DenP K G' kvs ps
  | [], _, h => by cases h; exact .nil
  | q :: ps, _, h => by
    cases h with
    | cons h1 h2 => exact .cons (Den.sm e h1) (DenP.sm e h2)
theorem DenL.sm (e : Sm G G') : ∀ {ds : List Dt} {vs : List V}, DenL K G vs ds → DenL K G' vs ds
  | [], _, h => by cases h; exact .nil
  | d :: ds, _, h => by
    cases h with
    | cons h1 h2 => exact .cons (Den.sm e h1) (DenL.sm e h2)
end
theorem DenQ.sm (e : Sm G G') : ∀ {kvs : List (List Int × V)} {qs : List (List Int × Dt)}, DenQ K G kvs qs → DenQ K G' kvs qs
  | _, _, .nil => .nil
  | _, _, .cons h1 h2 => .cons (h1.sm e) (h2.sm e)
/-- a lock put on or taken off -/
theorem Sm.lk {a : Addr} {q : LQ} {u u' : HO} (h : LkG q u) (h' : LkG q u') (e : G a = some u) : Sm G (upd G a u') := fun x w hw => by
  by_cases z : x = a
  · subst z
    rw [e] at hw
    cases hw
    exact .inr ⟨q, h, h'.rd upd_same⟩
  · exact .inl (by rw [upd_ne z]; exact hw)
end
theorem Ex.upd2 {G H : Hp} {a : Addr} {u : HO} (e : Ex G H) : Ex (upd G a u) (upd H a u) := fun x w h => by
  by_cases z : x = a
  · (subst z; rw [upd_same] at h ⊢; exact h)
  · rw [upd_ne z] at h ⊢
    exact e x w h
theorem tab_frz {a P : Addr} {q : Str} {ob w : HO} {o : Obj} {H : Hp} (h : LamX.TabS H P q) (hl : H a = some (.frz o w)) : LamX.TabS (upd H a ob) P q := by
  obtain ⟨ps, h1, h2, h3⟩ := h
  refine ⟨ps, ?_, h2, fun pos cv hc => ?_⟩
  · rw [upd_ne fun z => ?_]
    · exact h1
    · (rw [z, hl] at h1; cases h1)
  · obtain ⟨c, e1, e2⟩ := h3 pos cv hc
    refine ⟨c, e1, ?_⟩
    rw [upd_ne fun z => ?_]
    · exact e2
    · (unfold LamX.CodeO at e2; rw [z, hl] at e2; cases e2)
theorem tab_lk {a P : Addr} {q : Str} {ob u : HO} {H : Hp} {kq : LQ} (h : LamX.TabS H P q) (hl : H a = some u) (lk : LkG kq u) : LamX.TabS (upd H a ob) P q := by
  rcases lk with rfl | ⟨o, rfl⟩
  · cases kq with
    | inl k => exact tab_updM h (MuAt.dT hl)
    | inr k => exact tab_updM h (MuAt.dK hl)
  · exact tab_frz h hl
section
variable [TabW] {K : PySem.W.Frag} {b a : Addr} {m : Bool} {β : Bag} {G H G2 H2 : Hp} {σ : L2.St} {ρ : Rho} {lq : LQ} {u u' : HO}
theorem TabsOk.lk (t : TabsOk G H) (e : Ex G H) (h : LkG lq u) (h' : LkG lq u') (hG : G a = some u) : TabsOk (upd G a u') (upd H a u') := ⟨fun P q w => tab_lk (t.tab P q w) (e _ _ hG) h, fun x ps z => by
  by_cases q : x = a
  · rw [q, upd_same] at z
    exact h'.nt.1 ps (Option.some.inj z)
  · rw [upd_ne q] at z
    exact t.free x ps z⟩
theorem BagOk.lk (k : BagOk b β G H) (hG : G a = some u) : BagOk b β (upd G a u') (upd H a u') := fun ns e => by
  obtain ⟨h1, h2⟩ := k ns e
  have ne : b ≠ a := fun z => by
    rw [z, hG] at h2
    cases h2
  exact ⟨by rw [upd_ne ne]; exact h1, by rw [upd_ne ne]; exact h2⟩
theorem EnvD.lk (E : EnvD K b β G H σ ρ) (h : LkG lq u) (h' : LkG lq u') (hG : G a = some u) : EnvD K b β (upd G a u') (upd H a u') σ ρ :=
  ⟨Ex.upd2 E.sub, E.bagk.lk hG, E.len, fun i d hd => let ⟨v, h1, h2⟩ := E.imm i d hd; ⟨v, h1, h2.sm (Sm.lk h h' hG)⟩, E.bagv, E.tabs.lk E.sub h h' hG, E.fnv⟩
/-- what was done while it was locked -/
theorem Step.lk (h : LkG lq u) (h' : LkG lq u') (hG : G a = some u) (e : Ex G H) (s : Step b m (upd G a u') (upd H a u') G2 H2) : Step b m G H (upd G2 a u) (upd H2 a u) := by
  refine ⟨fun x w q => ?_, Ex.upd2 s.s, fun x o q t z => ?_, fun x o n t z => ?_, fun x o t z => ?_, fun t => ?_⟩
  · by_cases z : x = a
    · subst z
      rw [hG] at q
      rw [upd_same, q]
    · rw [upd_ne z]
      exact s.g x w (by rw [upd_ne z]; exact q)
  · have ne : x ≠ a := fun y => by
      rw [y, hG] at q
      cases q
    rw [upd_ne ne]
    exact s.fresh x o (by rw [upd_ne ne]; exact q) t (by rw [upd_ne ne]; exact z)
  · by_cases y : x = a
    · subst y
      rw [e _ _ hG] at z
      rw [upd_same, z]
    · rw [upd_ne y]
      exact s.keep x o n t (by rw [upd_ne y]; exact z)
  · by_cases y : x = a
    · subst y
      exact ⟨u, h.nt, upd_same⟩
    · obtain ⟨o', t', z'⟩ := s.stay x o t (by rw [upd_ne y]; exact z)
      exact ⟨o', t', by rw [upd_ne y]; exact z'⟩
  · exact (s.tabs (t.lk e h h' hG)).lk s.s h' h (s.g _ _ upd_same)
end
end TD
set_option Elab.async false
set_option linter.all false
set_option maxRecDepth 100000
set_option maxHeartbeats 4100200
namespace TD
open PySem L2 StX PySem.Spec PyProof.Rows
open Evl (Ex ex_l ex_t fresh_back sq_of st_of sz_of sz_lt)
abbrev Mk := Addr → Obj → List (List Key × V) → It
/-- the items of the locked dict at d, each a new pair -/
def Itit (d : Addr) (o : Obj) (kvs : List (List Key × V)) : It :=
  ⟨fun i H => H d = some (.frz o (.dT kvs)) ∧ i < kvs.length, fun i H x H' => ∃ (T q : Addr) (k : List Key) (v : V), kvs[i]? = some (k, v) ∧ H q = some (.tup (k.map kV)) ∧ x = .ref T ∧ H T = none ∧ H' = upd H T (.tup [.ref q, v]), fun i H => H d = some (.frz o (.dT kvs)) ∧ kvs.length ≤ i⟩
section
variable {P : Program} {w : World} {K : PySem.W.Frag} {d : Addr} {o : Obj} {es : Array DictEntry} {ep : Nat}
/-- the pair that the walk lays, told as a tuple -/
theorem pair_laid {X : Cx} {H H2 : Hp} {h : Heap} {T q : Addr} {y : Value} {v : V} (hq : y = .ref q) {z : Value} (rv : RelV v z) (g : h.get? T = some { cls := .type "tuple", data := .seq #[y, z] }) : ObjOk X.prog X.w H2 h T (.tup [.ref q, v]) :=
  ⟨(by decide : 2 ≤ sizeLine), [y, z], .cons hq (.cons rv .nil), _, g, rfl, _, rfl⟩
theorem turn_itemsT {kvs : List (List Key × V)} {elts : List Expr} {kk : Nat} {tpos : Pos} (it : Addr) (hod : o.data = .dict es ep) :
    Turn P w K (.Tuple elts kk tpos) (Itit d o kvs) [it] it (fun i h => ∃ ok ov, IsItemIter h it d i kvs.length ep ok ov) :=
  turn_of_entries (kvs := kvs) (es := es) (ep := ep) it hod (fun _ _ g => g) (fun _ _ g => g) (fun i h ⟨ok, ov, g⟩ => ⟨_, g, (fun v z => nomatch z), fun h' g' => ⟨ok, ov, g'⟩⟩)
    (fun X pins s σ H i E I hf st En hi => by
      obtain ⟨ok, ov, at0⟩ := En.size ▸ st
      obtain ⟨k, v, q, hkv, ek, hq, rv⟩ := En.at_ i hi
      have old : it ≠ s.heap.objs.size := Nat.ne_of_lt (Heap.lt_size at0)
      refine wpAny_pyNext_items_item_raw at0 En.raw hi fun h1 out pairs _ same1 => ⟨_, rfl, wpAny_letOwnedTupleGo_items (s := { s with heap := h1 }) out fun h2 at2 same2 => ?_⟩
      have step : Inv X pins σ (upd H s.heap.objs.size (.tup [.ref q, v])) { s with heap := h2, toks := s.toks } := I.turnedNew (ch := [it])
        (fun b ob hb g => (same2.2 b fun z => hb (List.mem_singleton.mpr z)).trans (same1 b ob (fun z => hb (List.mem_singleton.mpr z)) g)) (fun b hb => List.mem_singleton.mp hb ▸ hf) (Nat.le_refl _)
        (pair_laid (H := H) ek rv ((same2.2 _ (Ne.symm old)).trans pairs))
      exact ⟨.ref s.heap.objs.size, _, step, rfl, ⟨_, q, k, v, hkv, hq, rfl, I.hok.fresh (Nat.le_refl _), rfl⟩, ⟨_, _, En.size ▸ at2⟩, (upd_ne old).trans hf.1⟩)
    (fun A s i Q E hh st hr hi hz q => by
      obtain ⟨ok, ov, at0⟩ := hz ▸ st
      exact wpAny_pyNext_items_end_raw hh at0 hr hi q)
    (fun A i s Q E st q => by
      obtain ⟨ok, ov, at0⟩ := st
      exact wpAny_pyIter_itemiter at0 q)
end
/-- a walk over the dict td, locked as it starts if it isn't -/
def iWalk (X : Cx) (mk : Mk) (td : TE) : TI := fun σ H R => ∃ Z : VK, td σ H Z ∧ ∀ x H1, Z x H1 → ∃ d kvs, x = V.ref d ∧
  ((H1 d = some (.dT kvs) ∧ ∀ o, (∀ o' u', X.H_0 d ≠ some (.frz o' u')) → R (mk d o kvs) (upd H1 d (.frz o (.dT kvs)))) ∨ ∃ o, H1 d = some (.frz o (.dT kvs)) ∧ R (mk d o kvs) H1)
section
variable {X : Cx}
variable {tg e : Expr} {td : TE} {apos cpos : Pos}
/-- what the walk's start comes to: a locked dict -/
theorem walk_start {mk : Mk} {pins : List (Addr × Obj)} {σ : L2.St} {H1 : Hp} {s1 : Shared} {R : It → Hp → Prop} {d : Addr} {kvs : List (List Key × V)} (I1 : Inv X pins σ H1 s1)
    (h : (H1 d = some (.dT kvs) ∧ ∀ o, (∀ o' u', X.H_0 d ≠ some (.frz o' u')) → R (mk d o kvs) (upd H1 d (.frz o (.dT kvs)))) ∨ ∃ o, H1 d = some (.frz o (.dT kvs)) ∧ R (mk d o kvs) H1) :
    ∃ o H2, Inv X pins σ H2 s1 ∧ H2 d = some (.frz o (.dT kvs)) ∧ R (mk d o kvs) H2 := by
  rcases h with ⟨hd, q⟩ | ⟨o, hd, q⟩
  · obtain ⟨o, IL⟩ := I1.lock hd trivial
    exact ⟨o, _, IL, upd_same, q o (I1.nofrz hd trivial)⟩
  · exact ⟨o, _, I1, hd, q⟩
theorem pi_keysW (he : PE X e td) : PI X tg e (iWalk X Itkt td) := by
  refine ⟨fun pins s σ H R I ⟨Z, h, hz⟩ => ?_⟩
  refine thn (he.run pins s σ H _ I h) fun u s1 ⟨x, H1, I1, rx, qz⟩ => ?_
  obtain ⟨d, kvs, rfl, h1⟩ := hz x H1 qz
  (obtain rfl : u = Value.ref d := rx)
  obtain ⟨o, H2, I2, hd, q⟩ := walk_start I1 h1
  obtain ⟨hs, hgd, hx, es, ep, hdt, hsz, ent⟩ := I2.frzT hd
  refine iter_keys hs hgd hx hdt (pi_one (tk := s1.toks) I2 _ (turn_keysT _ hdt) ⟨_, Heap.get?_push_size _ rfl, rfl, ?_⟩ q)
  rw [hsz] <;> rfl
/-- a view of the dict, made where the dict is told, then walked -/
theorem view_walk {tgt : Expr} {mk : Mk} {pins : List (Addr × Obj)} {σ : L2.St} {H : Hp} {s1 : Shared} {R : It → Hp → Prop} {d : Addr} {kvs : List (List Key × V)} (I1 : Inv X pins σ H s1)
    (h : (H d = some (.dT kvs) ∧ ∀ o, (∀ o' u', X.H_0 d ≠ some (.frz o' u')) → R (mk d o kvs) (upd H d (.frz o (.dT kvs)))) ∨ ∃ o, H d = some (.frz o (.dT kvs)) ∧ R (mk d o kvs) H)
    (view : Obj) (fin : ∀ {H2 : Hp} {o : Obj} {es : Array DictEntry} {ep : Nat}, Inv X pins σ H2 { s1 with heap := s1.heap.push view } → Ents H2 s1 d kvs es ep → s1.heap.get? d = some o → o.data = .dict es ep → R (mk d o kvs) H2 →
      wpAny (model X.prog X.w) X.A (pyIter (.ref s1.heap.objs.size)) (PIE X pins σ tgt R) X.xe { s1 with heap := s1.heap.push view }) :
    ∃ es ep, s1.heap.DictRaw d es ep ∧ (d == sysModules) = false ∧ wpAny (model X.prog X.w) X.A (pyIter (.ref s1.heap.objs.size)) (PIE X pins σ tgt R) X.xe { s1 with heap := s1.heap.push view } := by
  obtain ⟨o, H2, I2, hd, q⟩ := walk_start I1 h
  obtain ⟨es, ep, hg, _, hdt, En⟩ := ents_frz I2 hd
  exact ⟨es, ep, En.raw, En.notMods, fin (I2.kept (t' := s1.toks) fun b ob g => Heap.get?_push_of_some _ g) En hg hdt q⟩
theorem pi_valsW (he : PE X e td) (hbase : attributeBase e "values" X.env (eval e X.env) = eval e X.env := by rfl) (hline : (apos.endLine == cpos.line) = true := by rfl) : PI X tg (.Call (.Attribute e "values" apos) [] [] cpos) (iWalk X Itdt td) := by
  refine ⟨fun pins s σ H R I ⟨Z, h, hz⟩ => wpAny_Call_method (T := "dict") (id := "dict.values") hbase rfl hline F.plainAttrs_dict F.slot_dict_values F.type_dict_values (thn (he.run pins s σ H _ I h) fun u s1 ⟨x, H1, I1, rx, qz⟩ => ?_)⟩
  obtain ⟨d, kvs, rfl, h1⟩ := hz x H1 qz
  cases rx
  obtain ⟨es, ep, hr, nm, fin⟩ := view_walk (tgt := tg) I1 h1 { cls := .type "dict_values", data := .fields #[.ref d] } fun {H2 o es ep} I2 En hg hdt q =>
    wpAny_pyIter_values_raw ⟨_, Heap.get?_push_size _ rfl, rfl, rfl⟩ (En.raw.at fun _ g => Heap.get?_push_of_some _ g)
      (pi_one (tk := s1.toks) I2 _ (turn_valsT _ hdt) ⟨_, Heap.get?_push_size _ rfl, rfl, by rw [En.size] <;> rfl⟩ q)
  have ex : ∃ o, s1.heap.get? d = some o ∧ o.ExactDict := let ⟨o, g, x, _⟩ := hr; ⟨o, g, x⟩
  refine ⟨hr.typeIs, fun b e => ?_, ?_⟩
  · obtain ⟨o, g, x⟩ := ex
    cases e
    exact ⟨o, g, x.2.1⟩
  · exact method_meetsIn F.slot_dict_values F.entry_dict_values rfl (PySem.evalArgs_none ⟨rfl, hr.typeIs, F.args_dict_values_1 _, _, meets_dict_values_raw d nm, ⟨es, ep, hr⟩, fin⟩)
theorem pi_itemsW {elts : List Expr} {kk : Nat} {tpos : Pos} (he : PE X e td) (hbase : attributeBase e "items" X.env (eval e X.env) = eval e X.env := by rfl) (hline : (apos.endLine == cpos.line) = true := by rfl) :
    PI X (.Tuple elts kk tpos) (.Call (.Attribute e "items" apos) [] [] cpos) (iWalk X Itit td) := by
  refine ⟨fun pins s σ H R I ⟨Z, h, hz⟩ => wpAny_Call_method (T := "dict") (id := "dict.items") hbase rfl hline F.plainAttrs_dict F.slot_dict_items F.type_dict_items (thn (he.run pins s σ H _ I h) fun u s1 ⟨x, H1, I1, rx, qz⟩ => ?_)⟩
  obtain ⟨d, kvs, rfl, h1⟩ := hz x H1 qz
  cases rx
  obtain ⟨es, ep, hr, nm, fin⟩ := view_walk (tgt := .Tuple elts kk tpos) I1 h1 { cls := .type "dict_items", data := .fields #[.ref d] } fun {H2 o es ep} I2 En hg hdt q =>
    wpAny_pyIter_items_raw ⟨_, Heap.get?_push_size _ rfl, rfl, rfl⟩ (En.raw.at fun _ g => Heap.get?_push_of_some _ g)
      (pi_one (tk := s1.toks) I2 _ (turn_itemsT _ hdt) ⟨.none, .none, by rw [← En.size]; exact Heap.get?_push_size _ rfl⟩ q)
  have ex : ∃ o, s1.heap.get? d = some o ∧ o.ExactDict := let ⟨o, g, x, _⟩ := hr; ⟨o, g, x⟩
  refine ⟨hr.typeIs, fun b e => ?_, ?_⟩
  · obtain ⟨o, g, x⟩ := ex
    cases e
    exact ⟨o, g, x.2.1⟩
  · exact method_meetsIn F.slot_dict_items F.entry_dict_items rfl (PySem.evalArgs_none ⟨rfl, hr.typeIs, F.args_dict_items_1 _, _, meets_dict_items_raw d nm, ⟨es, ep, hr⟩, fin⟩)
end
/-- locked at once -/
def iLk (mk : Mk) (d : Addr) (o : Obj) (kvs : List (List Key × V)) : TI := fun _ H R => R (mk d o kvs) (upd H d (.frz o (.dT kvs)))
def iAt (mk : Mk) (d : Addr) (o : Obj) (kvs : List (List Key × V)) : TI := fun _ H R => R (mk d o kvs) H
/-- an expression that walks; unlocked at the end -/
def tUn (mk : Mk) (td : TE) (body : TI → TE) : TE := fun σ H Q => td σ H fun x H1 => ∃ d kvs, x = V.ref d ∧
  ((H1 d = some (.dT kvs) ∧ ∀ o, body (iLk mk d o kvs) σ H1 fun v H' => H' d = some (.frz o (.dT kvs)) ∧ Q v (upd H' d (.dT kvs))) ∨ ∃ o, H1 d = some (.frz o (.dT kvs)) ∧ body (iAt mk d o kvs) σ H1 Q)
/-- the iterator first, then what only weakens -/
structure IsB (body : TI → TE) (B : L2.St → VK → It → Hp → Prop) : Prop where
  eq : ∀ (wi : TI) (σ : L2.St) (H : Hp) (Q : VK), body wi σ H Q = wi σ H (B σ Q)
  mono : ∀ (σ : L2.St) (Q Q' : VK) (J : It) (H : Hp), (∀ v H', Q v H' → Q' v H') → B σ Q J H → B σ Q' J H
theorem isB_lc {g : TG} {tt : TT} {te : TE} {vs : List Nat} : ∃ B, IsB (fun wi => tLc wi g tt te vs) B := ⟨_, fun _ _ _ _ => rfl, fun σ Q Q' J H hQ k D hD => by
  obtain ⟨W, w0, t⟩ := k D hD
  refine ⟨W, w0, fun i m H2 hW => ?_⟩
  rcases t i m H2 hW with ⟨h1, h2⟩ | h1
  · exact .inl ⟨h1, hQ _ _ h2⟩
  · exact .inr h1⟩
theorem isB_dc {o0 : HO} {g : TG} {tt : TT} {tk tv : TE} {vs : List Nat} : ∃ B, IsB (fun wi => tDcP o0 wi g tt tk tv vs) B := ⟨_, fun _ _ _ _ => rfl, fun σ Q Q' J H hQ k D hD => by
  obtain ⟨W, w0, t⟩ := k D hD
  refine ⟨W, w0, fun i m H2 hW => ?_⟩
  rcases t i m H2 hW with ⟨h1, h2⟩ | h1
  · exact .inl ⟨h1, hQ _ _ h2⟩
  · exact .inr h1⟩
theorem pe_un {X : Cx} {e : Expr} {td : TE} {mk : Mk} {body : TI → TE} (hb : ∃ B, IsB body B) (h : PE X e (body (iWalk X mk td))) : PE X e (tUn mk td body) := by
  obtain ⟨B, hb⟩ := hb
  (refine ⟨fun pins s σ H Q I hw => ?_⟩)
  refine thn (h.run pins s σ H (fun v H' => (∃ d u od, H' d = some (.frz od u) ∧ (∀ o' u', X.H_0 d ≠ some (.frz o' u')) ∧ Q v (upd H' d u)) ∨ Q v H') I ?_) fun v s1 ⟨x, H1, I1, r, q⟩ => ?_
  · rw [hb.eq]
    refine ⟨_, hw, fun x H1 => ?_⟩
    rintro ⟨d, kvs, rfl, ⟨hd, k⟩ | ⟨o, hd, k⟩⟩
    · refine ⟨d, kvs, rfl, .inl ⟨hd, fun o hn => ?_⟩⟩
      have k := k o
      rw [hb.eq] at k
      exact hb.mono σ _ _ _ _ (fun v H' q => .inl ⟨d, _, o, q.1, hn, q.2⟩) k
    · rw [hb.eq] at k
      exact ⟨d, kvs, rfl, .inr ⟨o, hd, hb.mono σ _ _ _ _ (fun v H' q => .inr q) k⟩⟩
  · rcases q with ⟨d, u, od, e1, hn, q⟩ | q
    · exact ⟨x, _, I1.unlock e1 hn, r, q⟩
    · exact ⟨x, _, I1, r, q⟩
/-- ends of a statement that walks: unlocked -/
def UnE (X : Cx) (D : Ends) : Ends :=
  ⟨fun σ' H' => (∃ d u od, H' d = some (.frz od u) ∧ (∀ o' u', X.H_0 d ≠ some (.frz o' u')) ∧ D.nx σ' (upd H' d u)) ∨ D.nx σ' H',
   fun v H' => (∃ d u od, H' d = some (.frz od u) ∧ (∀ o' u', X.H_0 d ≠ some (.frz o' u')) ∧ D.rt v (upd H' d u)) ∨ D.rt v H',
   fun σ' H' => (∃ d u od, H' d = some (.frz od u) ∧ (∀ o' u', X.H_0 d ≠ some (.frz o' u')) ∧ D.bk σ' (upd H' d u)) ∨ D.bk σ' H',
   fun σ' H' => (∃ d u od, H' d = some (.frz od u) ∧ (∀ o' u', X.H_0 d ≠ some (.frz o' u')) ∧ D.ct σ' (upd H' d u)) ∨ D.ct σ' H'⟩
/-- a for over such a walk -/
def tForU (X : Cx) (mk : Mk) (td : TE) (g : TG) (tb : TS) : TS := fun D σ H => tFor (iWalk X mk td) g tb (UnE X D) σ H
theorem ps_un {X : Cx} {st : Stmt} {td : TE} {mk : Mk} {g : TG} {tb : TS} (h : PS X st (tFor (iWalk X mk td) g tb)) : PS X st (tForU X mk td g tb) := by
  (refine ⟨fun pins s σ H D I hw => ?_⟩)
  refine thn (h.run pins s σ H (UnE X D) I hw) fun f s1 q => ?_
  cases f with
  | next =>
    obtain ⟨σ', H', I2, ⟨d, u, od, e, hn, q⟩ | q⟩ := q
    · exact ⟨σ', _, I2.unlock e hn, q⟩
    · exact ⟨σ', _, I2, q⟩
  | brk =>
    obtain ⟨σ', H', I2, ⟨d, u, od, e, hn, q⟩ | q⟩ := q
    · exact ⟨σ', _, I2.unlock e hn, q⟩
    · exact ⟨σ', _, I2, q⟩
  | cont =>
    obtain ⟨σ', H', I2, ⟨d, u, od, e, hn, q⟩ | q⟩ := q
    · exact ⟨σ', _, I2.unlock e hn, q⟩
    · exact ⟨σ', _, I2, q⟩
  | ret v =>
    obtain ⟨x, σ', H', I2, r, ⟨d, u, od, e, hn, q⟩ | q⟩ := q
    · exact ⟨x, σ', _, I2.unlock e hn, r, q⟩
    · exact ⟨x, σ', _, I2, r, q⟩
end TD
set_option Elab.async false
set_option linter.all false
set_option maxRecDepth 100000
set_option maxHeartbeats 4100300
namespace TD
open PySem L2 PySem.Spec PyProof.Rows
open Evl (Ex ex_l ex_t fresh_back sq_of st_of sz_of sz_lt)
abbrev QD := List Int × Dt
/-- what a walk gives, turn by turn: the target g makes of the slots ρ what F says -/
structure WkB [TabW] (K : PySem.W.Frag) (mk : Mk) (g : TG) (F : QD → Rho → Rho) (js : List Nat) : Prop where
  go : ∀ {d : Addr} {o : Obj} {kvs : List (List Int × V)} {H : Hp} {i : Nat}, H d = some (.frz o (.dT (keysT kvs))) → i < kvs.length → (mk d o (keysT kvs)).go i H
  stop : ∀ {d : Addr} {o : Obj} {kvs : List (List Int × V)} {H : Hp} {i : Nat}, H d = some (.frz o (.dT (keysT kvs))) → kvs.length ≤ i → (mk d o (keysT kvs)).stop i H
  turn : ∀ {b d : Addr} {β : Bag} {G H : Hp} {o : Obj} {kvs : List (List Int × V)} {qs : List QD} {i : Nat} {σ : L2.St} {ρ : Rho} {x : V} {H' : Hp} (hi : i < qs.length), EnvD K b β G H σ ρ → G d = some (.frz o (.dT (keysT kvs))) → DenQ K G kvs qs →
    (mk d o (keysT kvs)).yld i H x H' → ∃ G', Step b false G H G' H' ∧ ∀ (Q : L2.St → Hp → Prop), (∀ σ', EnvD K b β G' H' σ' (F qs[i] ρ) → (∀ vs, (∀ j ∈ js, j ∈ vs) → wipe σ' vs = wipe σ vs) → Q σ' H') → g x σ H' Q
section
variable [TabW] {K : PySem.W.Frag} {G : Hp}
theorem keys_at {kvs : List (List Int × V)} {qs : List QD} {i : Nat} {k : List Key} {v : V} (hq : DenQ K G kvs qs) (hi : i < qs.length) (h : (keysT kvs)[i]? = some (k, v)) : k = keyL qs[i].1 ∧ Den K G v qs[i].2 := by
  induction hq generalizing i with
  | nil => exact absurd hi (Nat.not_lt_zero _)
  | cons h1 h2 ih =>
    cases i with
    | zero =>
      cases h
      exact ⟨rfl, h1⟩
    | succ i => exact ih (Nat.lt_of_succ_lt_succ hi) h
theorem lenT (kvs : List (List Int × V)) : (keysT kvs).length = kvs.length := List.length_map _
theorem wk_keys (j : Nat) : WkB K Itkt (gName j) (fun q ρ => ρ.set j (some (.imm (tupJ q.1)))) [j] where
  go := fun h hi => ⟨h, by rw [lenT]; exact hi⟩
  stop := fun h hi => ⟨h, by rw [lenT]; exact hi⟩
  turn := fun {b d β G H o kvs qs i σ ρ x H'} hi E hG hq hy => by
    obtain ⟨rfl, k, v, c, e1, rfl, hc⟩ := hy
    obtain ⟨rfl, _⟩ := keys_at hq hi e1
    rw [keyL_kV] at hc
    have st := Step.take (b := b) (m := false) E.sub hc
    exact ⟨_, st, fun Q k => k _ ((E.step st (E.bagk.same st)).set (.tup upd_same (den_ints _))) fun vs hv => wipe_set (hv j List.mem_cons_self)⟩
theorem wk_vals (j : Nat) : WkB K Itdt (gName j) (fun q ρ => ρ.set j (some (.imm q.2))) [j] where
  go := fun h hi => ⟨h, by rw [lenT]; exact hi⟩
  stop := fun h hi => ⟨h, by rw [lenT]; exact hi⟩
  turn := fun {b d β G H o kvs qs i σ ρ x H'} hi E hG hq hy => by
    obtain ⟨rfl, k, e1⟩ := hy
    obtain ⟨_, dv⟩ := keys_at hq hi e1
    exact ⟨G, Step.refl E.sub, fun Q k => k _ (E.set dv) fun vs hv => wipe_set (hv j List.mem_cons_self)⟩
theorem wk_items (i j : Nat) : WkB K Itit (gTup K 2 (gCons (gName i) (gCons (gName j) gNil))) (fun q ρ => (ρ.set i (some (.imm (tupJ q.1)))).set j (some (.imm q.2))) [i, j] where
  go := fun h hi => ⟨h, by rw [lenT]; exact hi⟩
  stop := fun h hi => ⟨h, by rw [lenT]; exact hi⟩
  turn := fun {b d β G H o kvs qs n σ ρ x H'} hi E hG hq hy => by
    obtain ⟨T, c, k, v, e1, hc, rfl, hT, rfl⟩ := hy
    obtain ⟨rfl, dv⟩ := keys_at hq hi e1
    rw [keyL_kV] at hc
    have st := Step.take (b := b) (m := false) E.sub hc
    have sn := Step.new (b := b) (m := false) (o := HO.tup [.ref c, v]) st.s hT
    have s2 := st.trans sn
    have E2 := E.step s2 (E.bagk.same s2)
    have dk : Den K (upd G c (.tup (qs[n].1.map V.int))) (.ref c) (tupJ qs[n].1) := .tup upd_same (den_ints _)
    exact ⟨_, s2, fun Q k => ⟨T, _, rfl, st_of upd_same, rfl, _, _, rfl, _, _, rfl, rfl, k _ ((E2.set (dk.mono sn.g)).set (dv.mono s2.g)) fun vs hv => by
      rw [wipe_set (hv j (List.mem_cons_of_mem _ List.mem_cons_self)), wipe_set (hv i List.mem_cons_self)]⟩⟩
end
/-- what a comprehension over the items qs comes to -/
inductive LcF [TabW] (K : PySem.W.Frag) (F : QD → Rho → Rho) (tt : TT) (te : TE) : List QD → Rho → Bag → List Dt → Bag → Prop
  | nil (ρ : Rho) (β : Bag) : LcF K F tt te [] ρ β [] β
  | yes {q : QD} {r : Dt} {qs : List QD} {rs : List Dt} {ρ : Rho} {β β1 β2 β3 : Bag} : TtB K tt (F q ρ) β true β1 → EvB K te (F q ρ) β1 r β2 → LcF K F tt te qs ρ β2 rs β3 → LcF K F tt te (q :: qs) ρ β (r :: rs) β3
  | no {q : QD} {qs : List QD} {rs : List Dt} {ρ : Rho} {β β1 β3 : Bag} : TtB K tt (F q ρ) β false β1 → LcF K F tt te qs ρ β1 rs β3 → LcF K F tt te (q :: qs) ρ β rs β3
inductive DcF [TabW] (K : PySem.W.Frag) (F : QD → Rho → Rho) (tt : TT) (tk tv : TE) : List QD → Rho → Bag → List QD → Bag → Prop
  | nil (ρ : Rho) (β : Bag) : DcF K F tt tk tv [] ρ β [] β
  | yes {q : QD} {k : List Int} {r : Dt} {qs rs : List QD} {ρ : Rho} {β β0 β1 β2 β3 : Bag} : TtB K tt (F q ρ) β true β0 → EvB K tk (F q ρ) β0 (tupD k) β1 → EvB K tv (F q ρ) β1 r β2 → DcF K F tt tk tv qs ρ β2 rs β3 → DcF K F tt tk tv (q :: qs) ρ β ((k, r) :: rs) β3
  | no {q : QD} {qs rs : List QD} {ρ : Rho} {β β1 β3 : Bag} : TtB K tt (F q ρ) β false β1 → DcF K F tt tk tv qs ρ β1 rs β3 → DcF K F tt tk tv (q :: qs) ρ β rs β3
inductive ForF [TabW] (K : PySem.W.Frag) (F : QD → Rho → Rho) (tu : TS) : List QD → Rho → Bag → Out → Bag → Prop
  | nil (ρ : Rho) (β : Bag) : ForF K F tu [] ρ β (.nx ρ) β
  | nx {q : QD} {qs : List QD} {ρ ρ1 : Rho} {β β1 β2 : Bag} {o : Out} : StB K tu (F q ρ) β (.nx ρ1) β1 → ForF K F tu qs ρ1 β1 o β2 → ForF K F tu (q :: qs) ρ β o β2
  | ct {q : QD} {qs : List QD} {ρ ρ1 : Rho} {β β1 β2 : Bag} {o : Out} : StB K tu (F q ρ) β (.ct ρ1) β1 → ForF K F tu qs ρ1 β1 o β2 → ForF K F tu (q :: qs) ρ β o β2
  | brk {q : QD} {qs : List QD} {ρ ρ1 : Rho} {β β1 : Bag} : StB K tu (F q ρ) β (.brk ρ1) β1 → ForF K F tu (q :: qs) ρ β (.nx ρ1) β1
  | ret {q : QD} {qs : List QD} {ρ : Rho} {β β1 : Bag} {r : Dt} : StB K tu (F q ρ) β (.ret r) β1 → ForF K F tu (q :: qs) ρ β (.ret r) β1
section
variable [TabW] {K : PySem.W.Frag} {b a : Addr} {ρ ρ1 : Rho} {β β1 β2 β3 : Bag} {td te tk tv : TE} {tt : TT} {tu : TS} {x d : Dt} {o : Out} {G H G1 H1 G2 H2 : Hp} {σ : L2.St} {mk : Mk} {g : TG} {F : QD → Rho → Rho} {js vs : List Nat} {qs : List QD} {rs : List Dt}
theorem LcF.som (h : LcF K F tt te qs ρ β rs β2) : β2.isSome = β.isSome := by
  induction h with
  | nil => rfl
  | yes h1 h2 _ ih => exact ih.trans (h2.som.trans h1.som)
  | no h1 _ ih => exact ih.trans h1.som
theorem DcF.som {ks : List QD} (h : DcF K F tt tk tv qs ρ β ks β2) : β2.isSome = β.isSome := by
  induction h with
  | nil => rfl
  | yes h1 h2 h3 _ ih => exact ih.trans (h3.som.trans (h2.som.trans h1.som))
  | no h1 _ ih => exact ih.trans h1.som
theorem ForF.som (h : ForF K F tu qs ρ β o β2) : β2.isSome = β.isSome := by
  induction h with
  | nil => rfl
  | nx h _ ih => exact ih.trans h.som
  | ct h _ ih => exact ih.trans h.som
  | brk h => exact h.som
  | ret h => exact h.som
/-- the tests hold or not, by f; the items are g's: the bag stays -/
theorem LcF.pure (f : QD → Bool) (e : QD → Dt) : ∀ {qs : List QD}, (∀ q ∈ qs, TtB K tt (F q ρ) β (f q) β) → (∀ q ∈ qs, f q = true → EvB K te (F q ρ) β (e q) β) → LcF K F tt te qs ρ β ((qs.filter f).map e) β
  | [], _, _ => .nil ρ β
  | q :: qs, h1, h2 => by
    have ih := LcF.pure f e (qs := qs) (fun e he => h1 e (List.mem_cons_of_mem _ he)) (fun e he => h2 e (List.mem_cons_of_mem _ he))
    have t := h1 q List.mem_cons_self
    cases hf : f q with
    | true =>
      rw [List.filter_cons, if_pos hf, List.map_cons]
      rw [hf] at t
      exact .yes t (h2 q List.mem_cons_self hf) ih
    | false =>
      rw [List.filter_cons, if_neg (by rw [hf]; decide)]
      rw [hf] at t
      exact .no t ih
theorem LcF.map (e : QD → Dt) (h2 : ∀ q ∈ qs, EvB K te (F q ρ) β (e q) β) : LcF K F tYes te qs ρ β (qs.map e) β := by
  have h := LcF.pure (K := K) (F := F) (tt := tYes) (te := te) (ρ := ρ) (β := β) (fun _ => true) e (qs := qs) (fun _ _ => t_yes0) fun d hd _ => h2 d hd
  rw [List.filter_eq_self.mpr fun _ _ => rfl] at h
  exact h
theorem DcF.map (ek : QD → List Int) (ev : QD → Dt) : ∀ {qs : List QD}, (∀ q ∈ qs, EvB K tk (F q ρ) β (tupD (ek q)) β) → (∀ q ∈ qs, EvB K tv (F q ρ) β (ev q) β) → DcF K F tYes tk tv qs ρ β (qs.map fun q => (ek q, ev q)) β
  | [], _, _ => .nil ρ β
  | q :: qs, h1, h2 => .yes t_yes0 (h1 q List.mem_cons_self) (h2 q List.mem_cons_self) (DcF.map ek ev (fun e he => h1 e (List.mem_cons_of_mem _ he)) fun e he => h2 e (List.mem_cons_of_mem _ he))
/-- the walk itself, the dict locked -/
theorem lc_walk {o : Obj} {kvs : List (List Int × V)} {Q : VK} {m : Bool} (wk : WkB K mk g F js) (hjs : ∀ j ∈ js, j ∈ vs) (E : EnvD K b β1 G1 H1 σ ρ) (hm : β1.isSome = m) (hG : G1 a = some (.frz o (.dT (keysT kvs)))) (hq : DenQ K G1 kvs qs)
    (h : LcF K F tt te qs (wipeR ρ vs) β1 rs β2) (hz : rs.length ≤ 100000) (k : ∀ v G' H', Step b m G1 H1 G' H' → BagOk b β2 G' H' → Den K G' v (.list rs) → Q v H') :
    tLc (fun _ _ R => R (mk a o (keysT kvs)) H1) g tt te vs σ H1 Q := by
  unfold tLc
  intro Dl hD
  have nb := bag_ne E.bagk hm hD
  have hlk := hq.length
  refine ⟨fun i n H' => n + i = qs.length ∧ LcW K b m G1 H1 Dl rs β2 (fun rest β' => LcF K F tt te (qs.drop i) (wipeR ρ vs) β' rest β2) H', ⟨qs.length, rfl, lc_start E.sub hD E.bagk hm nb h⟩, ?_⟩
  rintro i n H' ⟨sum, w'⟩
  obtain ⟨G', β', done, rest, acc, s', kb', hm', gD', hH', ha', hr', hp'⟩ := w'
  have hGa := s'.g _ _ hG
  cases n with
  | zero =>
    obtain rfl : i = qs.length := by omega
    refine .inl ⟨wk.stop (s'.s _ _ hGa) (by omega), ?_⟩
    rw [List.drop_length] at hp'
    cases hp'
    exact lc_end (j := 0) (ρ := ρ) (tt := tt) (te := te) E.sub hD nb ⟨G', β2, done, [], acc, s', kb', hm', gD', hH', ha', hr', .nil _ _⟩ fun v G'' H'' s'' kb'' dv => k v G'' H'' s'' kb'' dv
  | succ n =>
    have hi : i < qs.length := by omega
    refine .inr ⟨wk.go (s'.s _ _ hGa) (by omega), fun H'' => n + (i + 1) = qs.length ∧ LcW K b m G1 H1 Dl rs β2 (fun rest β' => LcF K F tt te (qs.drop (i + 1)) (wipeR ρ vs) β' rest β2) H'', fun H'' z => ⟨n, Nat.lt_succ_self n, z⟩, ?_⟩
    intro x H2 hy
    obtain ⟨G2, st, kk⟩ := wk.turn hi ((E.wipe vs).step s' kb') hGa (hq.mono s'.g) hy
    refine kk _ fun σ' E' wp => ⟨(wp vs hjs).trans wipe_wipe, ?_⟩
    rw [List.drop_eq_getElem_cons hi] at hp'
    have su := (s'.trans st.up)
    have gD2 := st.fresh Dl _ gD' NoT.lst hH'
    have hH2 := st.keep Dl _ (fun z => by cases z) NoT.lst hH'
    have kb2 := kb'.same st
    have ha2 := ha'.mono st.g
    cases hp' with
    | @yes _ r' _ rs' _ _ β3 β4 _ ht he hr2 =>
      refine ht.run b G2 H2 _ _ E' fun G3 H3 s3 k3 => ?_
      rw [if_pos rfl]
      rw [hm'] at s3
      refine he.run b G3 H3 _ _ (E'.step s3 k3) fun y G4 H4 s4 k4 d4 => ?_
      rw [ht.som, hm'] at s4
      have hH3 := s3.keep Dl _ nb NoT.lst hH2
      have hH4 := s4.keep Dl _ nb NoT.lst hH3
      have gD3 := s3.fresh Dl _ gD2 NoT.lst hH2
      have gD4 := s4.fresh Dl _ gD3 NoT.lst hH3
      have m2 : β4.isSome = m := he.som.trans (ht.som.trans hm')
      have hlen : acc.length = done.length := ha'.length
      have hrl : rs.length = done.length + (rs'.length + 1) := by rw [← hr', List.length_append, List.length_cons]
      refine ⟨acc, hH4, sz_lt (by omega), by omega, ⟨G4, β4, done ++ [r'], rs', acc ++ [y], ((su.trans s3).trans s4).mut (Gone.none hD) gD4 (LstAt.of hH4), k4.mut (by rw [m2]; exact nb), m2, gD4, upd_same, ?_, ?_, hr2⟩⟩
      · exact (ha2.mono (s3.g.trans s4.g)).append (.cons d4 .nil)
      · rw [← hr', List.append_assoc]
        rfl
    | @no _ _ _ _ _ β3 _ ht hr2 =>
      refine ht.run b G2 H2 _ _ E' fun G3 H3 s3 k3 => ?_
      rw [if_neg (Bool.false_ne_true)]
      rw [hm'] at s3
      exact ⟨by omega, G3, β3, done, rest, acc, su.trans s3, k3, ht.som.trans hm', s3.fresh Dl _ gD2 NoT.lst hH2, s3.keep Dl _ nb NoT.lst hH2, ha2.mono s3.g, hr', hr2⟩
/-- a comprehension over a told dict -/
theorem d_lcW (wk : WkB K mk g F js) (hl : EvB K td ρ β (dT qs) β1) (h : LcF K F tt te qs (wipeR ρ vs) β1 rs β2) (hz : rs.length ≤ 100000) (hjs : ∀ j ∈ js, j ∈ vs := by decide) : EvB K (tUn mk td fun wi => tLc wi g tt te vs) ρ β (.list rs) β2 := by
  refine ⟨h.som.trans hl.som, fun b G H σ Q E k => ?_⟩
  refine hl.run b G H σ _ E fun v G1 H1 s1 k1 d1 => ?_
  have E1 := E.step s1 k1
  obtain ⟨a, kvs, rfl, hs | ⟨o, hs⟩, hq⟩ := den_dT d1
  · refine ⟨a, keysT kvs, rfl, .inl ⟨s1.s _ _ hs, fun o => ?_⟩⟩
    have l1 : LkO (keysT kvs) (.dT (keysT kvs)) := .inl rfl
    have l2 : LkO (keysT kvs) (.frz o (.dT (keysT kvs))) := .inr ⟨o, rfl⟩
    exact lc_walk (Q := fun v H' => H' a = some (.frz o (.dT (keysT kvs))) ∧ Q v (upd H' a (.dT (keysT kvs)))) wk hjs (E1.lk l1 l2 hs) hl.som upd_same (hq.sm (Sm.lk l1 l2 hs)) h hz fun v G' H' s' kb dv => by
      have hG' := s'.g _ _ upd_same
      exact ⟨s'.s _ _ hG', k v _ _ (s1.trans (s'.lk l1 l2 hs s1.s)) (kb.lk hG') (dv.sm (Sm.lk l2 l1 hG'))⟩
  · exact ⟨a, keysT kvs, rfl, .inr ⟨o, s1.s _ _ hs, lc_walk wk hjs E1 hl.som hs hq h hz fun v G' H' s' kb dv => k v G' H' (s1.trans s') kb dv⟩⟩
/-- the walk of a dict comprehension, the dict locked -/
theorem dc_walk {o : Obj} {kvs : List (List Int × V)} {Q : VK} {m : Bool} {ks : List QD} (wk : WkB K mk g F js) (hjs : ∀ j ∈ js, j ∈ vs) (E : EnvD K b β1 G1 H1 σ ρ) (hm : β1.isSome = m) (hG : G1 a = some (.frz o (.dT (keysT kvs)))) (hq : DenQ K G1 kvs qs)
    (h : DcF K F tt tk tv qs (wipeR ρ vs) β1 ks β2) (hn : (ks.map (·.1)).Nodup) (hz : ks.length ≤ 1000) (k : ∀ v G' H', Step b m G1 H1 G' H' → BagOk b β2 G' H' → Den K G' v (dT ks) → Q v H') :
    ∀ D, H1 D = none → ∃ W : Nat → Nat → Hp → Prop, (∃ m, W 0 m (upd H1 D (.dT []))) ∧ ∀ i m H, W i m H →
  ((mk a o (keysT kvs)).stop i H ∧ Q (.ref D) H) ∨ ((mk a o (keysT kvs)).go i H ∧ ∃ N : Hp → Prop, (∀ H', N H' → ∃ m', m' < m ∧ W (i + 1) m' H') ∧ ∀ x H', (mk a o (keysT kvs)).yld i H x H' → g x (wipe σ vs) H' fun σ2 H2 => wipe σ2 vs = wipe σ vs ∧ tt σ2 H2 fun c H3 =>
    if c = true then tk σ2 H3 fun y H4 => tv σ2 H4 fun z H5 => ∃ H6, DPut H5 D y z H6 ∧ N H6 else N H3) := by
  intro D hD
  have nb := bag_ne E.bagk hm hD
  have hlk := hq.length
  have gD := fresh_back E.sub hD
  have s0 : Step b m G1 H1 G1 (upd H1 D (.dT [])) := (Step.refl E.sub).mutM (Gone.none hD) gD (MuAt.none hD)
  refine ⟨fun i n H' => n + i = qs.length ∧ ∃ (G' : Hp) (β' : Bag) (done rest : List QD) (kv : List (List Int × V)), Step b m G1 H1 G' H' ∧ BagOk b β' G' H' ∧ β'.isSome = m ∧ G' D = none ∧ H' D = some (.dT (keysT kv)) ∧ DenQ K G' kv done ∧ done ++ rest = ks ∧ DcF K F tt tk tv (qs.drop i) (wipeR ρ vs) β' rest β2, ⟨qs.length, rfl, G1, β1, [], ks, [], s0, E.bagk.mut (by rw [hm]; exact nb), hm, gD, upd_same, .nil, rfl, h⟩, ?_⟩
  rintro i n H' ⟨sum, G', β', done, rest, kv, s', kb', hm', gD', hH', ha', hr', hp'⟩
  have hGa := s'.g _ _ hG
  have nt : NoT (HO.dT (keysT kv)) := ⟨fun _ z => (nomatch z), fun _ z => (nomatch z)⟩
  cases n with
  | zero =>
    obtain rfl : i = qs.length := by omega
    refine .inl ⟨wk.stop (s'.s _ _ hGa) (by omega), ?_⟩
    rw [List.drop_length] at hp'
    cases hp'
    rw [List.append_nil] at hr'
    subst hr'
    have s2 := s'.ice (u := .dT (keysT kv)) (Gone.none hD) gD' hH' (fun _ z => nomatch z)
    exact k (.ref D) _ H' s2 (kb'.ice (by rw [hm']; exact nb)) (.dcT (.inl upd_same) (ha'.mono (Ex.new gD')).toT)
  | succ n =>
    have hi : i < qs.length := by omega
    refine .inr ⟨wk.go (s'.s _ _ hGa) (by omega), fun H2 => n + (i + 1) = qs.length ∧ ∃ (G' : Hp) (β' : Bag) (done rest : List QD) (kv : List (List Int × V)), Step b m G1 H1 G' H2 ∧ BagOk b β' G' H2 ∧ β'.isSome = m ∧ G' D = none ∧ H2 D = some (.dT (keysT kv)) ∧ DenQ K G' kv done ∧ done ++ rest = ks ∧ DcF K F tt tk tv (qs.drop (i + 1)) (wipeR ρ vs) β' rest β2, fun H'' z => ⟨n, Nat.lt_succ_self n, z⟩, ?_⟩
    intro x H2 hy
    obtain ⟨G2, st, kk⟩ := wk.turn hi ((E.wipe vs).step s' kb') hGa (hq.mono s'.g) hy
    refine kk _ fun σ' E' wp => ⟨(wp vs hjs).trans wipe_wipe, ?_⟩
    rw [List.drop_eq_getElem_cons hi] at hp'
    have su := (s'.trans st.up)
    have gD2 := st.fresh D _ gD' nt hH'
    have hH2 := st.keep D _ (fun z => by cases z) nt hH'
    have kb2 := kb'.same st
    have ha2 := ha'.mono st.g
    cases hp' with
    | @yes _ k' r' _ rs' _ _ β0 β3 β4 _ ht hk hv hr2 =>
      refine ht.run b G2 H2 _ _ E' fun G3 H3 s3 k3 => ?_
      rw [if_pos rfl]
      rw [hm'] at s3
      refine hk.run b G3 H3 _ _ (E'.step s3 k3) fun y G4 H4 s4 k4 d4 => ?_
      rw [ht.som, hm'] at s4
      refine hv.run b G4 H4 _ _ ((E'.step s3 k3).step s4 k4) fun z G5 H5 s5 k5 d5 => ?_
      rw [hk.som, ht.som, hm'] at s5
      obtain ⟨c, rfl, hc⟩ := den_key (d4.mono s5.g)
      have hH3 := s3.keep D _ nb nt hH2
      have hH4 := s4.keep D _ nb nt hH3
      have hH5 := s5.keep D _ nb nt hH4
      have gD3 := s3.fresh D _ gD2 nt hH2
      have gD4 := s4.fresh D _ gD3 nt hH3
      have gD5 := s5.fresh D _ gD4 nt hH4
      have m2 : β4.isSome = m := hv.som.trans (hk.som.trans (ht.som.trans hm'))
      have lq := ha'.length
      have lr := congrArg List.length hr'
      rw [List.length_append, List.length_cons] at lr
      refine ⟨_, DPut.t (k := keyL k') (v := z) hH5 (s5.s _ _ hc) (by rw [List.length_map]; exact sz_lt (by omega)), by omega, ?_⟩
      have hnk : k' ∉ done.map (·.1) := by
        rw [← hr', List.map_append, List.map_cons, List.nodup_append] at hn
        exact fun z => hn.2.2 k' z k' List.mem_cons_self rfl
      rw [keysT_put]
      refine ⟨G5, β4, done ++ [(k', r')], rs', putT kv k' z, (((su.trans s3).trans s4).trans s5).mutM (Gone.none hD) gD5 (MuAt.dT hH5), k5.mut (by rw [m2]; exact nb), m2, gD5, upd_same, ?_, by rw [← hr', List.append_assoc] <;> rfl, hr2⟩
      rw [← putT_new (v := r') hnk]
      exact (ha2.mono ((s3.g.trans s4.g).trans s5.g)).put d5
    | @no _ _ _ _ _ β3 _ ht hr2 =>
      refine ht.run b G2 H2 _ _ E' fun G3 H3 s3 k3 => ?_
      rw [if_neg (Bool.false_ne_true)]
      rw [hm'] at s3
      exact ⟨by omega, G3, β3, done, rest, kv, su.trans s3, k3, ht.som.trans hm', s3.fresh D _ gD2 nt hH2, s3.keep D _ nb nt hH2, ha2.mono s3.g, hr', hr2⟩
/-- a dict comprehension over a told dict -/
theorem d_dcW {ks : List QD} (wk : WkB K mk g F js) (hl : EvB K td ρ β (dT qs) β1) (h : DcF K F tt tk tv qs (wipeR ρ vs) β1 ks β2) (hn : (ks.map (·.1)).Nodup) (hz : ks.length ≤ 1000) (hjs : ∀ j ∈ js, j ∈ vs := by decide) :
    EvB K (tUn mk td fun wi => tDcP (.dT []) wi g tt tk tv vs) ρ β (dT ks) β2 := by
  refine ⟨h.som.trans hl.som, fun b G H σ Q E k => ?_⟩
  refine hl.run b G H σ _ E fun v G1 H1 s1 k1 d1 => ?_
  have E1 := E.step s1 k1
  obtain ⟨a, kvs, rfl, hs | ⟨o, hs⟩, hq⟩ := den_dT d1
  · refine ⟨a, keysT kvs, rfl, .inl ⟨s1.s _ _ hs, fun o => ?_⟩⟩
    have l1 : LkO (keysT kvs) (.dT (keysT kvs)) := .inl rfl
    have l2 : LkO (keysT kvs) (.frz o (.dT (keysT kvs))) := .inr ⟨o, rfl⟩
    exact dc_walk (Q := fun v H' => H' a = some (.frz o (.dT (keysT kvs))) ∧ Q v (upd H' a (.dT (keysT kvs)))) wk hjs (E1.lk l1 l2 hs) hl.som upd_same (hq.sm (Sm.lk l1 l2 hs)) h hn hz fun v G' H' s' kb dv => by
      have hG' := s'.g _ _ upd_same
      exact ⟨s'.s _ _ hG', k v _ _ (s1.trans (s'.lk l1 l2 hs s1.s)) (kb.lk hG') (dv.sm (Sm.lk l2 l1 hG'))⟩
  · exact ⟨a, keysT kvs, rfl, .inr ⟨o, s1.s _ _ hs, dc_walk wk hjs E1 hl.som hs hq h hn hz fun v G' H' s' kb dv => k v G' H' (s1.trans s') kb dv⟩⟩
/-- the walk of a for, the dict locked -/
theorem for_walk {D : Ends} {ob : Obj} {kvs : List (List Int × V)} {m : Bool} (wk : WkB K mk g F js) (E : EnvD K b β1 G1 H1 σ ρ) (hm : β1.isSome = m) (hG : G1 a = some (.frz ob (.dT (keysT kvs)))) (hq : DenQ K G1 kvs qs)
    (h : ForF K F tu qs ρ β1 o β2) (k : OutOk K b m β2 G1 H1 D o) : ∃ W : Nat → Nat → L2.St → Hp → Prop, (∃ m, W 0 m σ H1) ∧ ∀ i m σ H, W i m σ H →
  ((mk a ob (keysT kvs)).stop i H ∧ D.nx σ H) ∨ ((mk a ob (keysT kvs)).go i H ∧ ∃ N : L2.St → Hp → Prop, (∀ σ' H', N σ' H' → ∃ m', m' < m ∧ W (i + 1) m' σ' H') ∧ ∀ x H', (mk a ob (keysT kvs)).yld i H x H' → g x σ H' fun σ2 H2 => tu { D with nx := N, ct := N, bk := D.nx } σ2 H2) := by
  have hlk := hq.length
  refine ⟨fun i n σ' H' => n + i = qs.length ∧ ∃ (G' : Hp) (ρ' : Rho) (β' : Bag), Step b m G1 H1 G' H' ∧ β'.isSome = m ∧ EnvD K b β' G' H' σ' ρ' ∧ ForF K F tu (qs.drop i) ρ' β' o β2, ⟨qs.length, rfl, G1, ρ, β1, Step.refl E.sub, hm, E, h⟩, ?_⟩
  rintro i n σ' H' ⟨sum, G', ρ', β', s', hm', E', r'⟩
  have hGa := s'.g _ _ hG
  cases n with
  | zero =>
    obtain rfl : i = qs.length := by omega
    refine .inl ⟨wk.stop (s'.s _ _ hGa) (by omega), ?_⟩
    rw [List.drop_length] at r'
    cases r'
    exact k σ' G' H' s' E'
  | succ n =>
    have hi : i < qs.length := by omega
    refine .inr ⟨wk.go (s'.s _ _ hGa) (by omega), fun σ2 H2 => n + (i + 1) = qs.length ∧ ∃ (G' : Hp) (ρ' : Rho) (β' : Bag), Step b m G1 H1 G' H2 ∧ β'.isSome = m ∧ EnvD K b β' G' H2 σ2 ρ' ∧ ForF K F tu (qs.drop (i + 1)) ρ' β' o β2, fun σ2 H2 z => ⟨n, Nat.lt_succ_self n, z⟩, ?_⟩
    intro x H2 hy
    obtain ⟨G2, st, kk⟩ := wk.turn hi E' hGa (hq.mono s'.g) hy
    refine kk _ fun σ2 E2 _ => ?_
    rw [List.drop_eq_getElem_cons hi] at r'
    have su := (s'.trans st.up)
    cases r' with
    | nx h hr => exact h.run b G2 H2 _ _ E2 fun σ3 G3 H3 s3 e3 => ⟨by omega, G3, _, _, su.trans (hm' ▸ s3), h.som.trans hm', e3, hr⟩
    | ct h hr => exact h.run b G2 H2 _ _ E2 fun σ3 G3 H3 s3 e3 => ⟨by omega, G3, _, _, su.trans (hm' ▸ s3), h.som.trans hm', e3, hr⟩
    | brk h => exact h.run b G2 H2 _ _ E2 fun σ3 G3 H3 s3 e3 => k σ3 G3 H3 (su.trans (hm' ▸ s3)) e3
    | ret h => exact h.run b G2 H2 _ _ E2 fun w G3 H3 s3 e3 dw => k w G3 H3 (su.trans (hm' ▸ s3)) e3 dw
/-- a for over a told dict -/
theorem st_forW {X : Cx} (wk : WkB K mk g F js) (hl : EvB K td ρ β (dT qs) β1) (h : ForF K F tu qs ρ β1 o β2) : StB K (tForU X mk td g tu) ρ β o β2 := by
  refine ⟨h.som.trans hl.som, fun b G H σ D E k => ?_⟩
  refine ⟨_, hl.run b G H σ (fun v H1 => ∃ G1, Step b β.isSome G H G1 H1 ∧ BagOk b β1 G1 H1 ∧ Den K G1 v (dT qs)) E fun v G1 H1 s1 k1 d1 => ⟨G1, s1, k1, d1⟩, fun x H1 => ?_⟩
  rintro ⟨G1, s1, k1, d1⟩
  have E1 := E.step s1 k1
  obtain ⟨a, kvs, rfl, hs | ⟨ob, hs⟩, hq⟩ := den_dT d1
  · refine ⟨a, keysT kvs, rfl, .inl ⟨s1.s _ _ hs, fun ob hn => ?_⟩⟩
    have l1 : LkO (keysT kvs) (.dT (keysT kvs)) := .inl rfl
    have l2 : LkO (keysT kvs) (.frz ob (.dT (keysT kvs))) := .inr ⟨ob, rfl⟩
    refine for_walk (D := UnE X D) wk (E1.lk l1 l2 hs) hl.som upd_same (hq.sm (Sm.lk l1 l2 hs)) h ?_
    cases o with
    | nx r => exact fun σ' G' H' s' e => .inl ⟨a, _, ob, s'.s _ _ (s'.g _ _ upd_same), hn, k σ' _ _ (s1.trans (s'.lk l1 l2 hs s1.s)) (e.lk l2 l1 (s'.g _ _ upd_same))⟩
    | brk r => exact fun σ' G' H' s' e => .inl ⟨a, _, ob, s'.s _ _ (s'.g _ _ upd_same), hn, k σ' _ _ (s1.trans (s'.lk l1 l2 hs s1.s)) (e.lk l2 l1 (s'.g _ _ upd_same))⟩
    | ct r => exact fun σ' G' H' s' e => .inl ⟨a, _, ob, s'.s _ _ (s'.g _ _ upd_same), hn, k σ' _ _ (s1.trans (s'.lk l1 l2 hs s1.s)) (e.lk l2 l1 (s'.g _ _ upd_same))⟩
    | ret d => exact fun v G' H' s' kb dv => .inl ⟨a, _, ob, s'.s _ _ (s'.g _ _ upd_same), hn, k v _ _ (s1.trans (s'.lk l1 l2 hs s1.s)) (kb.lk (s'.g _ _ upd_same)) (dv.sm (Sm.lk l2 l1 (s'.g _ _ upd_same)))⟩
  · refine ⟨a, keysT kvs, rfl, .inr ⟨ob, s1.s _ _ hs, for_walk (D := UnE X D) wk E1 hl.som hs hq h ?_⟩⟩
    cases o with
    | nx r => exact fun σ' G' H' s' e => .inr (k σ' _ _ (s1.trans s') e)
    | brk r => exact fun σ' G' H' s' e => .inr (k σ' _ _ (s1.trans s') e)
    | ct r => exact fun σ' G' H' s' e => .inr (k σ' _ _ (s1.trans s') e)
    | ret d => exact fun v G' H' s' kb dv => .inr (k v _ _ (s1.trans s') kb dv)
end
end TD
set_option Elab.async false
set_option linter.all false
set_option maxRecDepth 100000
set_option maxHeartbeats 4100300
namespace TD
open PySem L2 StX PySem.Spec PyProof.Rows
open Evl (Ex ex_l ex_t fresh_back sq_of st_of sz_of sz_lt)
abbrev QI := Int × Dt
/-- the dict that e comes to, locked -/
def tLkI (X : Cx) (td : TE) : TE := fun σ H Q => ∃ Z : VK, td σ H Z ∧ ∀ x H1, Z x H1 → ∃ d kvs, x = V.ref d ∧
  ((H1 d = some (.dK kvs) ∧ ∀ o, (∀ o' u', X.H_0 d ≠ some (.frz o' u')) → Q x (upd H1 d (.frz o (.dK kvs)))) ∨ ∃ o, H1 d = some (.frz o (.dK kvs)) ∧ Q x H1)
def iWkI (X : Cx) (td : TE) : TI := iItems (tLkI X td)
theorem pe_lkI {X : Cx} {e : Expr} {td : TE} (he : PE X e td) : PE X e (tLkI X td) := by
  refine ⟨fun pins s σ H Q I ⟨Z, h, hz⟩ => ?_⟩
  refine thn (he.run pins s σ H _ I h) fun u s1 ⟨x, H1, I1, rx, qz⟩ => ?_
  obtain ⟨d, kvs, rfl, ⟨hd, q⟩ | ⟨o, hd, q⟩⟩ := hz x H1 qz
  · obtain ⟨o, IL⟩ := I1.lock hd trivial
    exact ⟨_, _, IL, rx, q o (I1.nofrz hd trivial)⟩
  · exact ⟨_, _, I1, rx, q⟩
theorem pi_itemsI {X : Cx} {e : Expr} {td : TE} {apos cpos : Pos} {elts : List Expr} {kk : Nat} {tpos : Pos} (he : PE X e td) (hbase : attributeBase e "items" X.env (eval e X.env) = eval e X.env := by rfl) (hline : (apos.endLine == cpos.line) = true := by rfl) :
    PI X (.Tuple elts kk tpos) (.Call (.Attribute e "items" apos) [] [] cpos) (iWkI X td) := pi_items (pe_lkI he) hbase hline
def iLkI (d : Addr) (o : Obj) (kvs : List (Key × V)) : TI := fun _ H R => R (Iti d o kvs) (upd H d (.frz o (.dK kvs)))
def iAtI (d : Addr) (o : Obj) (kvs : List (Key × V)) : TI := fun _ H R => R (Iti d o kvs) H
/-- an expression that walks over the items; unlocked at the end -/
def tUnI (td : TE) (body : TI → TE) : TE := fun σ H Q => td σ H fun x H1 => ∃ d kvs, x = V.ref d ∧
  ((H1 d = some (.dK kvs) ∧ ∀ o, body (iLkI d o kvs) σ H1 fun v H' => H' d = some (.frz o (.dK kvs)) ∧ Q v (upd H' d (.dK kvs))) ∨ ∃ o, H1 d = some (.frz o (.dK kvs)) ∧ body (iAtI d o kvs) σ H1 Q)
theorem pe_unI {X : Cx} {e : Expr} {td : TE} {body : TI → TE} (hb : ∃ B, IsB body B) (h : PE X e (body (iWkI X td))) : PE X e (tUnI td body) := by
  obtain ⟨B, hb⟩ := hb
  (refine ⟨fun pins s σ H Q I hw => ?_⟩)
  refine thn (h.run pins s σ H (fun v H' => (∃ d u od, H' d = some (.frz od u) ∧ (∀ o' u', X.H_0 d ≠ some (.frz o' u')) ∧ Q v (upd H' d u)) ∨ Q v H') I ?_) fun v s1 ⟨x, H1, I1, r, q⟩ => ?_
  · rw [hb.eq]
    refine ⟨_, hw, fun x H1 => ?_⟩
    rintro ⟨d, kvs, rfl, ⟨hd, k⟩ | ⟨o, hd, k⟩⟩
    · refine ⟨d, kvs, rfl, .inl ⟨hd, fun o hn => ?_⟩⟩
      have k := k o
      rw [hb.eq] at k
      exact ⟨d, o, kvs, rfl, upd_same, hb.mono σ _ _ _ _ (fun v H' q => .inl ⟨d, _, o, q.1, hn, q.2⟩) k⟩
    · rw [hb.eq] at k
      exact ⟨d, kvs, rfl, .inr ⟨o, hd, d, o, kvs, rfl, hd, hb.mono σ _ _ _ _ (fun v H' q => .inr q) k⟩⟩
  · rcases q with ⟨d, u, od, e1, hn, q⟩ | q
    · exact ⟨x, _, I1.unlock e1 hn, r, q⟩
    · exact ⟨x, _, I1, r, q⟩
/-- the slots in a turn -/
abbrev FI2 (i j : Nat) : QI → Rho → Rho := fun q ρ => (ρ.set i (some (.imm (.int q.1)))).set j (some (.imm q.2))
abbrev gI2 (K : PySem.W.Frag) (i j : Nat) : TG := gTup K 2 (gCons (gName i) (gCons (gName j) gNil))
inductive DcG [TabW] {κ : Type} (K : PySem.W.Frag) (kd : κ → Dt) (F : QI → Rho → Rho) (tt : TT) (tk tv : TE) : List QI → Rho → Bag → List (κ × Dt) → Bag → Prop
  | nil (ρ : Rho) (β : Bag) : DcG K kd F tt tk tv [] ρ β [] β
  | yes {q : QI} {k : κ} {r : Dt} {qs : List QI} {rs : List (κ × Dt)} {ρ : Rho} {β β0 β1 β2 β3 : Bag} : TtB K tt (F q ρ) β true β0 → EvB K tk (F q ρ) β0 (kd k) β1 → EvB K tv (F q ρ) β1 r β2 → DcG K kd F tt tk tv qs ρ β2 rs β3 → DcG K kd F tt tk tv (q :: qs) ρ β ((k, r) :: rs) β3
  | no {q : QI} {qs : List QI} {rs : List (κ × Dt)} {ρ : Rho} {β β1 β3 : Bag} : TtB K tt (F q ρ) β false β1 → DcG K kd F tt tk tv qs ρ β1 rs β3 → DcG K kd F tt tk tv (q :: qs) ρ β rs β3
section
variable [TabW] {κ : Type} {kd : κ → Dt} {K : PySem.W.Frag} {b a : Addr} {ρ ρ1 : Rho} {β β1 β2 β3 : Bag} {td te tk tv : TE} {tt : TT} {x d : Dt} {o : Out} {G H G1 H1 G2 H2 : Hp} {σ : L2.St} {F : QI → Rho → Rho} {vs : List Nat} {qs : List QI} {i j : Nat}
theorem DcG.som {ks : List (κ × Dt)} (h : DcG K kd F tt tk tv qs ρ β ks β2) : β2.isSome = β.isSome := by
  induction h with
  | nil => rfl
  | yes h1 h2 h3 _ ih => exact ih.trans (h3.som.trans (h2.som.trans h1.som))
  | no h1 _ ih => exact ih.trans h1.som
theorem DcG.pure (f : QI → Bool) (ek : QI → κ) (ev : QI → Dt) : ∀ {qs : List QI}, (∀ q ∈ qs, TtB K tt (F q ρ) β (f q) β) → (∀ q ∈ qs, f q = true → EvB K tk (F q ρ) β (kd (ek q)) β) → (∀ q ∈ qs, f q = true → EvB K tv (F q ρ) β (ev q) β) → DcG K kd F tt tk tv qs ρ β ((qs.filter f).map fun q => (ek q, ev q)) β
  | [], _, _, _ => .nil ρ β
  | q :: qs, h0, h1, h2 => by
    have ih := DcG.pure f ek ev (qs := qs) (fun e he => h0 e (List.mem_cons_of_mem _ he)) (fun e he => h1 e (List.mem_cons_of_mem _ he)) (fun e he => h2 e (List.mem_cons_of_mem _ he))
    have t := h0 q List.mem_cons_self
    cases hf : f q with
    | true =>
      rw [List.filter_cons, if_pos hf, List.map_cons]
      rw [hf] at t
      exact .yes t (h1 q List.mem_cons_self hf) (h2 q List.mem_cons_self hf) ih
    | false =>
      rw [List.filter_cons, if_neg (by rw [hf]; decide)]
      rw [hf] at t
      exact .no t ih
theorem DenI.at_ {kvs : List (Int × V)} {qs : List QI} {n : Nat} {k : Key} {v : V} (hq : DenI K G kvs qs) (hi : n < qs.length) (h : (keysO kvs)[n]? = some (k, v)) : k = .inl qs[n].1 ∧ Den K G v qs[n].2 := by
  induction qs generalizing kvs n with
  | nil => exact absurd hi (Nat.not_lt_zero _)
  | cons q qs ih =>
    cases kvs with
    | nil => exact nomatch h
    | cons c kvs =>
      obtain ⟨e1, e2, e3⟩ := DenI.cases hq
      cases n with
      | zero =>
        cases h
        exact ⟨congrArg Sum.inl e1, e2⟩
      | succ n => exact ih e3 (Nat.lt_of_succ_lt_succ hi) h
theorem DenI.mono {kvs : List (Int × V)} {qs : List QI} (h : DenI K G kvs qs) (e : Ex G G1) : DenI K G1 kvs qs := DenP.mono e h
theorem DenP.smI {kvs : List (Int × V)} {qs : List QI} (h : DenI K G kvs qs) (e : Sm G G1) : DenI K G1 kvs qs := DenP.sm e h
theorem lenO (kvs : List (Int × V)) : (keysO kvs).length = kvs.length := List.length_map _
/-- a turn: the pair is taken apart -/
theorem turnI {ob : Obj} {kvs : List (Int × V)} {n : Nat} {y : V} {H' : Hp} (hi : n < qs.length) (E : EnvD K b β G H σ ρ) (hq : DenI K G kvs qs) (hy : (Iti a ob (keysO kvs)).yld n H y H') :
    ∃ G', Step b false G H G' H' ∧ ∀ (Q : L2.St → Hp → Prop), (∀ σ', EnvD K b β G' H' σ' (FI2 i j qs[n] ρ) → (∀ vs, i ∈ vs → j ∈ vs → wipe σ' vs = wipe σ vs) → Q σ' H') → gI2 K i j y σ H' Q := by
  obtain ⟨T, k, v, e1, rfl, hT, rfl⟩ := hy
  obtain ⟨rfl, dv⟩ := hq.at_ hi e1
  have sn := Step.new (b := b) (m := false) (o := HO.tup [V.int qs[n].1, v]) E.sub hT
  have E2 := E.step sn (E.bagk.same sn)
  exact ⟨_, sn, fun Q k => ⟨T, _, rfl, st_of upd_same, rfl, _, _, rfl, _, _, rfl, rfl, k _ ((E2.set (.int _)).set (dv.mono sn.g)) fun vs h1 h2 => by
    rw [wipe_set h2, wipe_set h1]⟩⟩
/-- what is made: a dict with tuples or with ints for keys -/
structure RK (K : PySem.W.Frag) (κ : Type) (kd : κ → Dt) where
  ho : List (κ × V) → HO
  den : Hp → List (κ × V) → List (κ × Dt) → Prop
  fin : List (κ × Dt) → Dt
  nt : ∀ kv, NoT (ho kv)
  mono : ∀ {G G' : Hp} {kv : List (κ × V)} {qs : List (κ × Dt)}, Ex G G' → den G kv qs → den G' kv qs
  len : ∀ {G : Hp} {kv : List (κ × V)} {qs : List (κ × Dt)}, den G kv qs → kv.length = qs.length
  mu : ∀ {H : Hp} {D : Addr} {kv : List (κ × V)}, H D = some (ho kv) → MuAt H D
  nil : ∀ {G : Hp}, den G [] []
  put : ∀ {G H : Hp} {D : Addr} {kv : List (κ × V)} {done : List (κ × Dt)} {k : κ} {y z : V} {r : Dt}, Ex G H → den G kv done → k ∉ done.map (·.1) → H D = some (ho kv) → kv.length ≤ 1000 → Den K G y (kd k) → Den K G z r → ∃ kv', DPut H D y z (upd H D (ho kv')) ∧ den G kv' (done ++ [(k, r)])
  told : ∀ {G : Hp} {D : Addr} {kv : List (κ × V)} {ks : List (κ × Dt)}, den G kv ks → G D = some (ho kv) → Den K G (.ref D) (fin ks)
def rkT (K : PySem.W.Frag) : RK K (List Int) tupD where
  ho := fun kv => .dT (keysT kv)
  den := fun G kv qs => DenQ K G kv qs
  fin := dT
  nt := fun kv => ⟨fun _ z => (nomatch z), fun _ z => (nomatch z)⟩
  mono := fun e h => h.mono e
  len := fun h => h.length
  mu := fun h => MuAt.dT h
  nil := .nil
  put := fun {G H D kv done k y z r} e hd hk hD hz hy hv => by
    obtain ⟨c, rfl, hc⟩ := den_key hy
    refine ⟨putT kv k z, ?_, ?_⟩
    · rw [← keysT_put]
      exact DPut.t (k := keyL k) (v := z) hD (e _ _ hc) (by rw [List.length_map]; exact sz_lt (by omega))
    · rw [← putT_new (v := r) hk]
      exact hd.put hv
  told := fun h hD => .dcT (.inl hD) h.toT
theorem putI_new {α : Type} {qs : List (Int × α)} {k : Int} {v : α} (h : k ∉ qs.map (·.1)) : putI qs k v = qs ++ [(k, v)] := by
  unfold putI
  rw [if_neg]
  intro z
  obtain ⟨q, hq, e⟩ := List.any_eq_true.mp z
  exact h (List.mem_map.mpr ⟨q, hq, of_decide_eq_true e⟩)
def rkI (K : PySem.W.Frag) : RK K Int PyData.int where
  ho := fun kv => .dK (keysO kv)
  den := fun G kv qs => DenI K G kv qs
  fin := dI
  nt := fun kv => ⟨fun _ z => (nomatch z), fun _ z => (nomatch z)⟩
  mono := fun e h => DenP.mono e h
  len := fun h => DenI.length h
  mu := fun h => MuAt.dK h
  nil := .nil
  put := fun {G H D kv done k y z r} e hd hk hD hz hy hv => by
    cases hy
    refine ⟨putI kv k z, ?_, ?_⟩
    · rw [← keys_put]
      exact DPut.k (k := Sum.inl k) (v := z) hD (by rw [List.length_map]; exact sz_lt (by omega))
    · rw [← putI_new (v := r) hk]
      exact DenI.put hd hv
  told := fun h hD => .dcI (.inl hD) h
/-- the walk, the dict locked -/
theorem dcG_walk (R : RK K κ kd) {ob : Obj} {kvs : List (Int × V)} {Q : VK} {m : Bool} {ks : List (κ × Dt)} (hiv : i ∈ vs) (hjv : j ∈ vs) (E : EnvD K b β1 G1 H1 σ ρ) (hm : β1.isSome = m) (hG : G1 a = some (.frz ob (.dK (keysO kvs)))) (hq : DenI K G1 kvs qs)
    (h : DcG K kd (FI2 i j) tt tk tv qs (wipeR ρ vs) β1 ks β2) (hn : (ks.map (·.1)).Nodup) (hz : ks.length ≤ 1000) (k : ∀ v G' H', Step b m G1 H1 G' H' → BagOk b β2 G' H' → Den K G' v (R.fin ks) → Q v H') :
    ∀ D, H1 D = none → ∃ W : Nat → Nat → Hp → Prop, (∃ m, W 0 m (upd H1 D (R.ho []))) ∧ ∀ n m H, W n m H →
  ((Iti a ob (keysO kvs)).stop n H ∧ Q (.ref D) H) ∨ ((Iti a ob (keysO kvs)).go n H ∧ ∃ N : Hp → Prop, (∀ H', N H' → ∃ m', m' < m ∧ W (n + 1) m' H') ∧ ∀ x H', (Iti a ob (keysO kvs)).yld n H x H' → gI2 K i j x (wipe σ vs) H' fun σ2 H2 => wipe σ2 vs = wipe σ vs ∧ tt σ2 H2 fun c H3 =>
    if c = true then tk σ2 H3 fun y H4 => tv σ2 H4 fun z H5 => ∃ H6, DPut H5 D y z H6 ∧ N H6 else N H3) := by
  intro D hD
  have nb := bag_ne E.bagk hm hD
  have hlk := DenI.length hq
  have gD := fresh_back E.sub hD
  have s0 : Step b m G1 H1 G1 (upd H1 D (R.ho [])) := (Step.refl E.sub).mutM (Gone.none hD) gD (MuAt.none hD)
  refine ⟨fun i n H' => n + i = qs.length ∧ ∃ (G' : Hp) (β' : Bag) (done rest : List (κ × Dt)) (kv : List (κ × V)), Step b m G1 H1 G' H' ∧ BagOk b β' G' H' ∧ β'.isSome = m ∧ G' D = none ∧ H' D = some (R.ho kv) ∧ R.den G' kv done ∧ done ++ rest = ks ∧ DcG K kd (FI2 _ _) tt tk tv (qs.drop i) (wipeR ρ vs) β' rest β2, ⟨qs.length, rfl, G1, β1, [], ks, [], s0, E.bagk.mut (by rw [hm]; exact nb), hm, gD, upd_same, R.nil, rfl, h⟩, ?_⟩
  rintro l n H' ⟨sum, G', β', done, rest, kv, s', kb', hm', gD', hH', ha', hr', hp'⟩
  have hGa := s'.g _ _ hG
  have nt := R.nt kv
  cases n with
  | zero =>
    obtain rfl : l = qs.length := by omega
    refine .inl ⟨⟨s'.s _ _ hGa, by rw [lenO]; omega⟩, ?_⟩
    rw [List.drop_length] at hp'
    cases hp'
    rw [List.append_nil] at hr'
    subst hr'
    have s2 := s'.ice (u := R.ho kv) (Gone.none hD) gD' hH' nt.1
    exact k (.ref D) _ H' s2 (kb'.ice (by rw [hm']; exact nb)) (R.told (R.mono (Ex.new gD') ha') upd_same)
  | succ n =>
    have hi : l < qs.length := by omega
    refine .inr ⟨⟨s'.s _ _ hGa, by rw [lenO]; omega⟩, fun H2 => n + (l + 1) = qs.length ∧ ∃ (G' : Hp) (β' : Bag) (done rest : List (κ × Dt)) (kv : List (κ × V)), Step b m G1 H1 G' H2 ∧ BagOk b β' G' H2 ∧ β'.isSome = m ∧ G' D = none ∧ H2 D = some (R.ho kv) ∧ R.den G' kv done ∧ done ++ rest = ks ∧ DcG K kd (FI2 _ _) tt tk tv (qs.drop (l + 1)) (wipeR ρ vs) β' rest β2, fun H'' z => ⟨n, Nat.lt_succ_self n, z⟩, ?_⟩
    intro x H2 hy
    obtain ⟨G2, st, kk⟩ := turnI (i := i) (j := j) hi ((E.wipe vs).step s' kb') (hq.mono s'.g) hy
    refine kk _ fun σ' E' wp => ⟨(wp vs hiv hjv).trans wipe_wipe, ?_⟩
    rw [List.drop_eq_getElem_cons hi] at hp'
    have su := (s'.trans st.up)
    have gD2 := st.fresh D _ gD' nt hH'
    have hH2 := st.keep D _ (fun z => by cases z) nt hH'
    have ha2 := R.mono st.g ha'
    cases hp' with
    | @yes _ k' r' _ rs' _ _ β0 β3 β4 _ ht hk hv hr2 =>
      refine ht.run b G2 H2 _ _ E' fun G3 H3 s3 k3 => ?_
      rw [if_pos rfl]
      rw [hm'] at s3
      refine hk.run b G3 H3 _ _ (E'.step s3 k3) fun y G4 H4 s4 k4 d4 => ?_
      rw [ht.som, hm'] at s4
      refine hv.run b G4 H4 _ _ ((E'.step s3 k3).step s4 k4) fun z G5 H5 s5 k5 d5 => ?_
      rw [hk.som, ht.som, hm'] at s5
      have hH3 := s3.keep D _ nb nt hH2
      have hH4 := s4.keep D _ nb nt hH3
      have hH5 := s5.keep D _ nb nt hH4
      have gD3 := s3.fresh D _ gD2 nt hH2
      have gD4 := s4.fresh D _ gD3 nt hH3
      have gD5 := s5.fresh D _ gD4 nt hH4
      have m2 : β4.isSome = m := hv.som.trans (hk.som.trans (ht.som.trans hm'))
      have lq := R.len ha'
      have lr := congrArg List.length hr'
      rw [List.length_append, List.length_cons] at lr
      have hnk : k' ∉ done.map (·.1) := by
        rw [← hr', List.map_append, List.map_cons, List.nodup_append] at hn
        exact fun z => hn.2.2 k' z k' List.mem_cons_self rfl
      obtain ⟨kv', p1, p2⟩ := R.put s5.s (R.mono ((s3.g.trans s4.g).trans s5.g) ha2) hnk hH5 (by omega) (d4.mono s5.g) d5
      exact ⟨_, p1, by omega, G5, β4, done ++ [(k', r')], rs', kv', (((su.trans s3).trans s4).trans s5).mutM (Gone.none hD) gD5 (R.mu hH5), k5.mut (by rw [m2]; exact nb), m2, gD5, upd_same, p2, by rw [← hr', List.append_assoc] <;> rfl, hr2⟩
    | @no _ _ _ _ _ β3 _ ht hr2 =>
      refine ht.run b G2 H2 _ _ E' fun G3 H3 s3 k3 => ?_
      rw [if_neg (Bool.false_ne_true)]
      rw [hm'] at s3
      exact ⟨by omega, G3, β3, done, rest, kv, su.trans s3, k3, ht.som.trans hm', s3.fresh D _ gD2 nt hH2, s3.keep D _ nb nt hH2, R.mono s3.g ha2, hr', hr2⟩
theorem d_dcG (R : RK K κ kd) {ks : List (κ × Dt)} (hl : EvB K td ρ β (dI qs) β1) (h : DcG K kd (FI2 i j) tt tk tv qs (wipeR ρ vs) β1 ks β2) (hn : (ks.map (·.1)).Nodup) (hz : ks.length ≤ 1000) (hiv : i ∈ vs := by decide) (hjv : j ∈ vs := by decide) :
    EvB K (tUnI td fun wi => tDcP (R.ho []) wi (gI2 K i j) tt tk tv vs) ρ β (R.fin ks) β2 := by
  refine ⟨h.som.trans hl.som, fun b G H σ Q E k => ?_⟩
  refine hl.run b G H σ _ E fun v G1 H1 s1 k1 d1 => ?_
  have E1 := E.step s1 k1
  obtain ⟨a, kvs, rfl, hs | ⟨o, hs⟩, hq⟩ := den_dI d1
  · refine ⟨a, keysO kvs, rfl, .inl ⟨s1.s _ _ hs, fun o => ?_⟩⟩
    have l1 : LkG (.inr kvs) (.dK (keysO kvs)) := .inl rfl
    have l2 : LkG (.inr kvs) (.frz o (.dK (keysO kvs))) := .inr ⟨o, rfl⟩
    exact dcG_walk R (Q := fun v H' => H' a = some (.frz o (.dK (keysO kvs))) ∧ Q v (upd H' a (.dK (keysO kvs)))) hiv hjv (E1.lk l1 l2 hs) hl.som upd_same (DenP.smI hq (Sm.lk l1 l2 hs)) h hn hz fun v G' H' s' kb dv => by
      have hG' := s'.g _ _ upd_same
      exact ⟨s'.s _ _ hG', k v _ _ (s1.trans (s'.lk l1 l2 hs s1.s)) (kb.lk hG') (dv.sm (Sm.lk l2 l1 hG'))⟩
  · exact ⟨a, keysO kvs, rfl, .inr ⟨o, s1.s _ _ hs, dcG_walk R hiv hjv E1 hl.som hs hq h hn hz fun v G' H' s' kb dv => k v G' H' (s1.trans s') kb dv⟩⟩
/-- {i: v, ..} and {(..): v, ..} over the items of a dict with ints for keys -/
theorem d_dcII {ks : List QI} (hl : EvB K td ρ β (dI qs) β1) (h : DcG K PyData.int (FI2 i j) tt tk tv qs (wipeR ρ vs) β1 ks β2) (hn : (ks.map (·.1)).Nodup) (hz : ks.length ≤ 1000) (hiv : i ∈ vs := by decide) (hjv : j ∈ vs := by decide) :
    EvB K (tUnI td fun wi => tDcP (.dK []) wi (gI2 K i j) tt tk tv vs) ρ β (dI ks) β2 := d_dcG (rkI K) hl h hn hz hiv hjv
theorem d_dcIT {ks : List QD} (hl : EvB K td ρ β (dI qs) β1) (h : DcG K tupD (FI2 i j) tt tk tv qs (wipeR ρ vs) β1 ks β2) (hn : (ks.map (·.1)).Nodup) (hz : ks.length ≤ 1000) (hiv : i ∈ vs := by decide) (hjv : j ∈ vs := by decide) :
    EvB K (tUnI td fun wi => tDcP (.dT []) wi (gI2 K i j) tt tk tv vs) ρ β (dT ks) β2 := d_dcG (rkT K) hl h hn hz hiv hjv
end
end TD
set_option Elab.async false
set_option linter.all false
set_option maxRecDepth 100000
set_option maxHeartbeats 4100300
namespace TD
open PySem L2 PySem.Spec PyProof.Rows
open Evl (Ex ex_l ex_t fresh_back sq_of st_of sz_of sz_lt)
section
variable [TabW] {K : PySem.W.Frag} {b a : Addr} {ρ ρ1 : Rho} {β β1 β2 β3 : Bag} {td te tk tv : TE} {tt : TT} {tu : TS} {x d : Dt} {o : Out} {G H G1 H1 G2 H2 : Hp} {σ : L2.St} {mk : Mk} {g : TG} {F : QD → Rho → Rho} {js vs : List Nat} {qs : List QD} {rs : List Dt}
theorem dc_walkN {o : Obj} {kvs : List (List Int × V)} {Q : VK} {m : Bool} {ks : List QD} (wk : WkB K mk g F js) (hjs : ∀ j ∈ js, j ∈ vs) (E : EnvD K b β1 G1 H1 σ ρ) (hm : β1.isSome = m) (hG : G1 a = some (.frz o (.dT (keysT kvs)))) (hq : DenQ K G1 kvs qs)
    (h : DcF K F tt tk tv qs (wipeR ρ vs) β1 ks β2) (hn : (ks.map (·.1)).Nodup) (hz : ks.length ≤ 1000) (k : ∀ D G' H' kv, H1 D = none → Step b m G1 H1 G' H' → BagOk b β2 G' H' → G' D = none → H' D = some (.dT (keysT kv)) → DenQ K G' kv ks → Q (.ref D) H') :
    ∀ D, H1 D = none → ∃ W : Nat → Nat → Hp → Prop, (∃ m, W 0 m (upd H1 D (.dT []))) ∧ ∀ i m H, W i m H →
  ((mk a o (keysT kvs)).stop i H ∧ Q (.ref D) H) ∨ ((mk a o (keysT kvs)).go i H ∧ ∃ N : Hp → Prop, (∀ H', N H' → ∃ m', m' < m ∧ W (i + 1) m' H') ∧ ∀ x H', (mk a o (keysT kvs)).yld i H x H' → g x (wipe σ vs) H' fun σ2 H2 => wipe σ2 vs = wipe σ vs ∧ tt σ2 H2 fun c H3 =>
    if c = true then tk σ2 H3 fun y H4 => tv σ2 H4 fun z H5 => ∃ H6, DPut H5 D y z H6 ∧ N H6 else N H3) := by
  intro D hD
  have nb := bag_ne E.bagk hm hD
  have hlk := hq.length
  have gD := fresh_back E.sub hD
  have s0 : Step b m G1 H1 G1 (upd H1 D (.dT [])) := (Step.refl E.sub).mutM (Gone.none hD) gD (MuAt.none hD)
  refine ⟨fun i n H' => n + i = qs.length ∧ ∃ (G' : Hp) (β' : Bag) (done rest : List QD) (kv : List (List Int × V)), Step b m G1 H1 G' H' ∧ BagOk b β' G' H' ∧ β'.isSome = m ∧ G' D = none ∧ H' D = some (.dT (keysT kv)) ∧ DenQ K G' kv done ∧ done ++ rest = ks ∧ DcF K F tt tk tv (qs.drop i) (wipeR ρ vs) β' rest β2, ⟨qs.length, rfl, G1, β1, [], ks, [], s0, E.bagk.mut (by rw [hm]; exact nb), hm, gD, upd_same, .nil, rfl, h⟩, ?_⟩
  rintro i n H' ⟨sum, G', β', done, rest, kv, s', kb', hm', gD', hH', ha', hr', hp'⟩
  have hGa := s'.g _ _ hG
  have nt : NoT (HO.dT (keysT kv)) := ⟨fun _ z => (nomatch z), fun _ z => (nomatch z)⟩
  cases n with
  | zero =>
    obtain rfl : i = qs.length := by omega
    refine .inl ⟨wk.stop (s'.s _ _ hGa) (by omega), ?_⟩
    rw [List.drop_length] at hp'
    cases hp'
    rw [List.append_nil] at hr'
    subst hr'
    exact k D G' H' kv hD s' kb' gD' hH' ha'
  | succ n =>
    have hi : i < qs.length := by omega
    refine .inr ⟨wk.go (s'.s _ _ hGa) (by omega), fun H2 => n + (i + 1) = qs.length ∧ ∃ (G' : Hp) (β' : Bag) (done rest : List QD) (kv : List (List Int × V)), Step b m G1 H1 G' H2 ∧ BagOk b β' G' H2 ∧ β'.isSome = m ∧ G' D = none ∧ H2 D = some (.dT (keysT kv)) ∧ DenQ K G' kv done ∧ done ++ rest = ks ∧ DcF K F tt tk tv (qs.drop (i + 1)) (wipeR ρ vs) β' rest β2, fun H'' z => ⟨n, Nat.lt_succ_self n, z⟩, ?_⟩
    intro x H2 hy
    obtain ⟨G2, st, kk⟩ := wk.turn hi ((E.wipe vs).step s' kb') hGa (hq.mono s'.g) hy
    refine kk _ fun σ' E' wp => ⟨(wp vs hjs).trans wipe_wipe, ?_⟩
    rw [List.drop_eq_getElem_cons hi] at hp'
    have su := (s'.trans st.up)
    have gD2 := st.fresh D _ gD' nt hH'
    have hH2 := st.keep D _ (fun z => by cases z) nt hH'
    have kb2 := kb'.same st
    have ha2 := ha'.mono st.g
    cases hp' with
    | @yes _ k' r' _ rs' _ _ β0 β3 β4 _ ht hk hv hr2 =>
      refine ht.run b G2 H2 _ _ E' fun G3 H3 s3 k3 => ?_
      rw [if_pos rfl]
      rw [hm'] at s3
      refine hk.run b G3 H3 _ _ (E'.step s3 k3) fun y G4 H4 s4 k4 d4 => ?_
      rw [ht.som, hm'] at s4
      refine hv.run b G4 H4 _ _ ((E'.step s3 k3).step s4 k4) fun z G5 H5 s5 k5 d5 => ?_
      rw [hk.som, ht.som, hm'] at s5
      obtain ⟨c, rfl, hc⟩ := den_key (d4.mono s5.g)
      have hH3 := s3.keep D _ nb nt hH2
      have hH4 := s4.keep D _ nb nt hH3
      have hH5 := s5.keep D _ nb nt hH4
      have gD3 := s3.fresh D _ gD2 nt hH2
      have gD4 := s4.fresh D _ gD3 nt hH3
      have gD5 := s5.fresh D _ gD4 nt hH4
      have m2 : β4.isSome = m := hv.som.trans (hk.som.trans (ht.som.trans hm'))
      have lq := ha'.length
      have lr := congrArg List.length hr'
      rw [List.length_append, List.length_cons] at lr
      refine ⟨_, DPut.t (k := keyL k') (v := z) hH5 (s5.s _ _ hc) (by rw [List.length_map]; exact sz_lt (by omega)), by omega, ?_⟩
      have hnk : k' ∉ done.map (·.1) := by
        rw [← hr', List.map_append, List.map_cons, List.nodup_append] at hn
        exact fun z => hn.2.2 k' z k' List.mem_cons_self rfl
      rw [keysT_put]
      refine ⟨G5, β4, done ++ [(k', r')], rs', putT kv k' z, (((su.trans s3).trans s4).trans s5).mutM (Gone.none hD) gD5 (MuAt.dT hH5), k5.mut (by rw [m2]; exact nb), m2, gD5, upd_same, ?_, by rw [← hr', List.append_assoc] <;> rfl, hr2⟩
      rw [← putT_new (v := r') hnk]
      exact (ha2.mono ((s3.g.trans s4.g).trans s5.g)).put d5
    | @no _ _ _ _ _ β3 _ ht hr2 =>
      refine ht.run b G2 H2 _ _ E' fun G3 H3 s3 k3 => ?_
      rw [if_neg (Bool.false_ne_true)]
      rw [hm'] at s3
      exact ⟨by omega, G3, β3, done, rest, kv, su.trans s3, k3, ht.som.trans hm', s3.fresh D _ gD2 nt hH2, s3.keep D _ nb nt hH2, ha2.mono s3.g, hr', hr2⟩
/-- a dict that stands at D and that nothing knows yet -/
theorem own_dict {m : Bool} {Q : VK} {D : Addr} {kv : List (List Int × V)} {ks : List QD} (E1 : EnvD K b β1 G1 H1 σ ρ) (hm : β1.isSome = m) (h2 : β2.isSome = m) (hD : H1 D = none) (s : Step b m G1 H1 G2 H2) (kb : BagOk b β2 G2 H2) (gD : G2 D = none) (at_ : H2 D = some (.dT (keysT kv))) (hq : DenQ K G2 kv ks)
    (k : ∀ p u G3 H3 Hb, Step b m G1 H1 G3 Hb → Gone Hb p → Step b m G3 Hb G3 H3 → BagOk b β2 G3 H3 → G3 p = none → (β2.isSome = true → p ≠ b) → H3 p = some u → Held K G3 u (dT ks) → Q (.ref p) H3) : Q (.ref D) H2 := by
  have nb : β2.isSome = true → D ≠ b := fun z => bag_ne E1.bagk hm hD (h2 ▸ z)
  have held : Held K G2 (.dT (keysT kv)) (dT ks) := .dT hq.toT
  have none_ : ∀ {α : Type} {x y : α} {i : Nat}, ([none] : List (Option α))[i]? = some (some x) → x = y := fun {α x y i} z => by cases i <;> simp at z
  have w : OwnW K b β2 0 D G2 H2 [some (.ref D)] [none] (dT ks) := ⟨⟨s.s, kb, rfl, (fun i d z => by cases i <;> simp at z), (fun i z => by cases i <;> simp at z), s.tabs E1.tabs, fun i a z => by cases i <;> simp at z⟩, rfl, rfl, gD, nb, _, at_, held⟩
  subst h2
  obtain ⟨Hb, gb, sb, sc⟩ := w.base (Gone.none hD) s
  exact k D _ G2 H2 Hb sb gb sc kb gD nb at_ held
theorem en_dcW {ks : List QD} (wk : WkB K mk g F js) (hl : EvB K td ρ β (dT qs) β1) (h : DcF K F tt tk tv qs (wipeR ρ vs) β1 ks β2) (hn : (ks.map (·.1)).Nodup) (hz : ks.length ≤ 1000) (hjs : ∀ j ∈ js, j ∈ vs := by decide) :
    EvN K (tUn mk td fun wi => tDcP (.dT []) wi g tt tk tv vs) ρ β (dT ks) β2 := by
  refine ⟨h.som.trans hl.som, fun b G H σ Q E k => ?_⟩
  refine hl.run b G H σ _ E fun v G1 H1 s1 k1 d1 => ?_
  have E1 := E.step s1 k1
  have k' := EvN.of s1 hl.som (β1 := β1) (β := β) (d := dT ks) (K := K) (Q := Q) (b := b)
  obtain ⟨a, kvs, rfl, hs | ⟨o, hs⟩, hq⟩ := den_dT d1
  · refine ⟨a, keysT kvs, rfl, .inl ⟨s1.s _ _ hs, fun o => ?_⟩⟩
    have l1 : LkO (keysT kvs) (.dT (keysT kvs)) := .inl rfl
    have l2 : LkO (keysT kvs) (.frz o (.dT (keysT kvs))) := .inr ⟨o, rfl⟩
    refine dc_walkN (Q := fun v H' => H' a = some (.frz o (.dT (keysT kvs))) ∧ Q v (upd H' a (.dT (keysT kvs)))) wk hjs (E1.lk l1 l2 hs) hl.som upd_same (hq.sm (Sm.lk l1 l2 hs)) h hn hz fun D G' H' kv hD s' kb gD at_ dv => ?_
    have hG' := s'.g _ _ upd_same
    have ne : D ≠ a := fun z => by rw [z, upd_same] at hD; cases hD
    have hD1 : H1 D = none := by rwa [upd_ne ne] at hD
    refine ⟨s'.s _ _ hG', own_dict E1 hl.som (h.som.trans hl.som) hD1 (s'.lk l1 l2 hs s1.s) (kb.lk hG') (by rw [upd_ne ne]; exact gD) (by rw [upd_ne ne]; exact at_) (dv.sm (Sm.lk l2 l1 hG')) ?_⟩
    exact fun p u G3 H3 Hb z1 z2 z3 => k p u G3 H3 Hb (s1.trans z1) z2 z3
  · exact ⟨a, keysT kvs, rfl, .inr ⟨o, s1.s _ _ hs, dc_walkN wk hjs E1 hl.som hs hq h hn hz fun D G' H' kv hD s' kb gD at_ dv => own_dict E1 hl.som (h.som.trans hl.som) hD s' kb gD at_ dv fun p u G3 H3 Hb z1 z2 z3 => k p u G3 H3 Hb (s1.trans z1) z2 z3⟩⟩
/-- with a condition -/
theorem DcF.pure (f : QD → Bool) (ek : QD → List Int) (ev : QD → Dt) : ∀ {qs : List QD}, (∀ q ∈ qs, TtB K tt (F q ρ) β (f q) β) → (∀ q ∈ qs, f q = true → EvB K tk (F q ρ) β (tupD (ek q)) β) → (∀ q ∈ qs, f q = true → EvB K tv (F q ρ) β (ev q) β) → DcF K F tt tk tv qs ρ β ((qs.filter f).map fun q => (ek q, ev q)) β
  | [], _, _, _ => .nil _ _
  | q :: qs, h1, h2, h3 => by
    have rest := DcF.pure f ek ev (fun r hr => h1 r (List.mem_cons_of_mem _ hr)) (fun r hr => h2 r (List.mem_cons_of_mem _ hr)) fun r hr => h3 r (List.mem_cons_of_mem _ hr)
    have t := h1 q List.mem_cons_self
    rw [List.filter_cons]
    cases c : f q with
    | true => exact .yes (c ▸ t) (h2 q List.mem_cons_self c) (h3 q List.mem_cons_self c) rest
    | false => exact .no (c ▸ t) rest
end
theorem un_end {X : Cx} {pins : List (Addr × Obj)} {D : Ends} {f : Flow} {s1 : Shared} (q : SP X pins (UnE X D) f s1) : SP X pins D f s1 := by
  have off : ∀ {σ' : L2.St} {H' : Hp} {R : Hp → Prop}, Inv X pins σ' H' s1 → ((∃ d u od, H' d = some (.frz od u) ∧ (∀ o' u', X.H_0 d ≠ some (.frz o' u')) ∧ R (upd H' d u)) ∨ R H') → ∃ H2, Inv X pins σ' H2 s1 ∧ R H2 := fun I z => z.elim (fun ⟨d, u, od, e, hn, r⟩ => ⟨_, I.unlock e hn, r⟩) fun r => ⟨_, I, r⟩
  cases f with
  | ret v =>
    obtain ⟨x, σ', H', I2, r, z⟩ := q
    obtain ⟨H2, I3, z⟩ := off (R := D.rt x) I2 z
    exact ⟨x, σ', H2, I3, r, z⟩
  | _ =>
    obtain ⟨σ', H', I2, z⟩ := q
    obtain ⟨H2, I3, z⟩ := off I2 z
    exact ⟨σ', H2, I3, z⟩
theorem ps_unA {X : Cx} {st : Stmt} {td : TE} {mk : Mk} {body : TI → TE} {i : Nat} (hb : ∃ B, IsB body B) (h : PS X st (tAsg (body (iWalk X mk td)) (gName i))) : PS X st (tAsg (tUn mk td body) (gName i)) := by
  obtain ⟨B, hb⟩ := hb
  refine ⟨fun pins s σ H D I hw => thn (h.run pins s σ H (UnE X D) I ?_) fun f s1 q => un_end q⟩
  show body (iWalk X mk td) σ H fun x H1 => (UnE X D).nx (σ.set i (some x)) H1
  rw [hb.eq]
  refine ⟨_, hw, fun x H1 => ?_⟩
  rintro ⟨d, kvs, rfl, ⟨hd, k⟩ | ⟨o, hd, k⟩⟩
  · refine ⟨d, kvs, rfl, .inl ⟨hd, fun o hn => ?_⟩⟩
    have k := k o
    rw [hb.eq] at k
    exact hb.mono σ _ _ _ _ (fun v H' q => .inl ⟨d, _, o, q.1, hn, q.2⟩) k
  · rw [hb.eq] at k
    exact ⟨d, kvs, rfl, .inr ⟨o, hd, hb.mono σ _ _ _ _ (fun v H' q => .inr q) k⟩⟩
def rSortedDTx : List V → Hp → VK → Prop := fun vs H Q => ∃ (dd : Nat) (S B : Int), 1 ≤ dd ∧ rSortedDT dd S B vs H Q
theorem cr_sortedDTx {X : Cx} (calm : X.calm = true) : CallR X (.builtin "sorted") rSortedDTx := by
  rintro pins s σ H xs us Q I r ⟨dd, S, B, h1, q⟩
  exact cr_sortedDT calm h1 pins s σ H xs us Q I r q
def rSortedDTRx : List V → List V → Hp → VK → Prop := fun vs zs H Q => ∃ (dd : Nat) (S B : Int), 1 ≤ dd ∧ rSortedDTR dd S B vs zs H Q
theorem cr_sortedDTRx {X : Cx} (calm : X.calm = true) : CallRK X (.builtin "sorted") [Str.ofString "reverse"] rSortedDTRx := by
  rintro pins s σ H xs zs us ws Q I r opts ⟨dd, S, B, h1, q⟩
  exact cr_sortedDTR calm h1 pins s σ H xs zs us ws Q I r opts q
section
variable [TabW] {K : PySem.W.Frag} {ρ : Rho} {β β1 : Bag} {td : TE} {qs : List QD} {dd : Nat} {S B : Int}
theorem d_sortDTx (ha : EvB K td ρ β (dT qs) β1) (h1 : 1 ≤ dd) (hk : ∀ q ∈ qs, Ok3 S B dd q.1) : EvB K (tCB rSortedDTx (tCons td tNil)) ρ β (.list ((sortX (qs.map (·.1))).map tupJ)) β1 := d_c1 ha fun b G H v Q e dv k => by
  obtain ⟨a, kvs, rfl, hs, hq⟩ := den_dT dv
  have ks := hq.keys
  refine ⟨dd, S, B, h1, a, kvs, rfl, rd_ex e hs, fun q hq' => ?_, fun L p w1 w2 w3 hp => ?_⟩
  · obtain ⟨r, hr, z⟩ := List.mem_map.mp (show q.1 ∈ qs.map (·.1) from ks ▸ List.mem_map_of_mem hq')
    rw [show q.1 = r.1 from z.symm]
    exact hk r hr
  · have told : L.map (·.2) = sortX (qs.map (·.1)) := sortX_cd (S := S) (B := B) (d := dd) (fun x hx => by obtain ⟨r, hr, z⟩ := List.mem_map.mp hx; rw [← z]; exact hk r hr) (ks ▸ w1) (List.pairwise_map.mpr w3)
    obtain ⟨G', s1, t1⟩ := take_all (b := b) w2 e
    have n := Step.new (b := b) (m := false) (o := .lst (L.map fun q => V.ref q.1)) s1.s hp
    rw [← told] at k
    exact k (.ref p) _ _ (s1.trans n) (.lst upd_same ((DenL.of_refs t1).mono n.g))
theorem d_sortDTRx (ha : EvB K td ρ β (dT qs) β1) (h1 : 1 ≤ dd) (hk : ∀ q ∈ qs, Ok3 S B dd q.1) : EvB K (tCKw rSortedDTRx (tCons td tNil) (tCons (tC (.bl true)) tNil)) ρ β (.list (((sortX (qs.map (·.1))).reverse).map tupJ)) β1 := by
  refine ⟨ha.som, fun b G H σ Q E k => ha.run b G H σ _ E fun v G1 H1 s1 k1 d1 => ?_⟩
  obtain ⟨a, kvs, rfl, hs, hq⟩ := den_dT d1
  have ek := hq.keys
  refine ⟨dd, S, B, h1, a, kvs, rfl, rfl, rd_ex s1.s hs, fun q hm => ?_, fun L p hp hL hw hn => ?_⟩
  · obtain ⟨r, hr, z⟩ := List.mem_map.mp (show q.1 ∈ qs.map (·.1) from ek ▸ List.mem_map_of_mem hm)
    rw [show q.1 = r.1 from z.symm]
    exact hk r hr
  · have hr : (L.map (·.2)).reverse = sortX (qs.map (·.1)) := sortX_cd (S := S) (B := B) (d := dd) (fun x hx => by obtain ⟨r, hr, z⟩ := List.mem_map.mp hx; rw [← z]; exact hk r hr) ((List.reverse_perm _).trans (ek ▸ hp)) (by
      rw [List.pairwise_reverse, List.pairwise_map]
      exact hw)
    have e1 : L.map (·.2) = (sortX (qs.map (·.1))).reverse := by rw [← hr, List.reverse_reverse]
    obtain ⟨G2, st, told⟩ := take_all (b := b) hL s1.s
    have sn := Step.new (b := b) (m := false) (o := .lst (L.map fun q => V.ref q.1)) st.s hn
    rw [← e1] at k
    exact k (.ref p) _ _ (s1.trans (st.trans sn).up) ((k1.same st).same sn) (.lst upd_same ((DenL.of_refs told).mono sn.g))
end
end TD
set_option Elab.async false
set_option linter.all false
set_option maxRecDepth 100000
set_option maxHeartbeats 4100000
namespace TD
open PySem L2 PySem.Spec PyProof.Rows LamX
open Evl (Ex ex_l ex_t fresh_back sq_of st_of sz_of sz_lt)
def rSumT (K : PySem.W.Frag) : List V → Hp → VK → Prop := fun vs H Q => ∃ (a : Addr) (ns : List Int), vs = [V.ref a] ∧ SqT K H a (ns.map V.int) ∧ Q (.int ns.sum) H
theorem sum_rawT {prog : Program} {w : World} {A : Around} {E : Value → Shared → Prop} {s : Shared} {l : Addr} {its : List Value} {ns : List Int} {Q : Value → Shared → Prop} (hh : A.handled = none) (hl : s.heap.IsTuple l its.toArray) (hi : IntsAre its ns)
    (h : ∀ (h' : Heap) (tk : Nat) (t' : Tok), (∀ b o, s.heap.get? b = some o → h'.get? b = some o) → Q (.int ns.sum t') { s with heap := h', toks := tk }) : wpAny (model prog w) A (call (.builtin "sum") [.ref l]) Q E s := by
  (obtain ⟨xs, e⟩ := hi.allInts.items)
  have nums : numsOf (intItems xs).toList = ns := e ▸ hi.numsOf
  rw [e] at hl
  have total : preSum (numAt xs) (intItems xs).size = ns.sum := by
    rw [← nums, nums_intItems, show (intItems xs).size = xs.size by simp [intItems], preSum_eq, List.take_of_length_le (by simp)]
  have old : l < s.heap.objs.size := let ⟨_, g, _⟩ := hl; Heap.lt_size g
  have W := Walks.tuple (prog := prog) (w := w) (A := A.in1) hh s.heap.objs.size l (Nat.ne_of_lt old) (intItems xs)
  refine call_sum_walkG (wpAny_pyIter_tuple hl ⟨_, _, _, _, _, _, numAt xs, rfl, W, ⟨⟨_, Heap.get?_push_size _ rfl, rfl, rfl⟩, hl.push _⟩, fun b hb => ?_, fun _ _ => intItems_at, fun h1 tk t1 keep => ?_⟩)
  · have two : b = s.heap.objs.size ∨ b = l := by simpa using hb
    show b < (Heap.push ..).objs.size
    rw [Heap.size_push]
    exact two.elim (fun z => z ▸ Nat.lt_succ_self _) fun z => z ▸ Nat.lt_succ_of_lt old
  · refine total ▸ h h1 tk t1 fun b o g => keep b o (fun m => Nat.ne_of_lt (Heap.lt_size g) (by simpa using m)) (Heap.get?_push_of_some _ g)
theorem cr_sumT {X : Cx} (hc : X.calm = true) : CallR X (.builtin "sum") (rSumT X.K) := by
  (intro pins s σ H vs us Q I r h)
  (obtain ⟨a, ns, rfl, hs, q⟩ := h)
  obtain ⟨its, rv, hl, _⟩ := I.tuple hs
  rw [Vals.ref1 r]
  exact sum_rawT (I.ok.hd hc) hl rv.ints fun h' tk t' hk => ⟨.int _, H, I.kept hk, ⟨_, rfl⟩, q⟩
section
variable [TabW] {K : PySem.W.Frag} {b : Addr} {ρ ρ1 ρ2 : Rho} {β β1 β2 β3 : Bag} {te : TE} {ta : TA} {tu tw : TS} {o : Out} {G H G1 H1 G2 H2 : Hp} {σ : L2.St} {d : Dt}
theorem d_sumT {ns : List Int} (h : EvB K te ρ β (.tuple (ns.map .int)) β1) : EvB K (tCB (rSumT K) (tCons te tNil)) ρ β (.int ns.sum) β1 := d_c1 h fun b G H v Q e dv k => by
  cases dv with
  | @tup a xs _ hs hd =>
    have hs := st_of (K := K) hs
    have := hd.ints
    subst this
    exact ⟨a, ns, rfl, ex_t e hs, k _ G H (Step.refl e) (.int _)⟩
theorem DenSs.get {vs : List V} {as : List Slot} {i : Nat} {v : V} (h : DenSs K b G vs as) (hi : vs[i]? = some v) : ∃ a, as[i]? = some a ∧ DenS K b G v a := by
  revert i
  induction h with
  | nil => (intro i hi; simp at hi)
  | cons h1 _ ih =>
    intro i hi
    cases i with
    | zero => simp at hi; subst hi; exact ⟨_, rfl, h1⟩
    | succ i =>
      obtain ⟨a, z1, z2⟩ := ih (i := i) (by simpa using hi)
      exact ⟨a, by simpa using z1, z2⟩
inductive ForS (K : PySem.W.Frag) (j : Nat) (tu : TS) : List Slot → Rho → Bag → Out → Bag → Prop
  | nil (ρ : Rho) (β : Bag) : ForS K j tu [] ρ β (.nx ρ) β
  | nx {a : Slot} {as : List Slot} {ρ ρ1 : Rho} {β β1 β2 : Bag} {o : Out} : StB K tu (ρ.set j (some a)) β (.nx ρ1) β1 → ForS K j tu as ρ1 β1 o β2 → ForS K j tu (a :: as) ρ β o β2
  | ret {a : Slot} {as : List Slot} {ρ : Rho} {β β1 : Bag} {r : Dt} : StB K tu (ρ.set j (some a)) β (.ret r) β1 → ForS K j tu (a :: as) ρ β (.ret r) β1
theorem ForS.som {j : Nat} {as : List Slot} (h : ForS K j tu as ρ β o β2) : β2.isSome = β.isSome := by
  induction h with
  | nil => rfl
  | nx h _ ih => exact ih.trans h.som
  | ret h => exact h.som
end
end TD
set_option Elab.async false
set_option linter.all false
set_option maxRecDepth 100000
set_option maxHeartbeats 4100300
namespace TD
open PySem PySem.W L2 PySem.Spec PyProof.Rows
open Evl (Ex ex_l ex_t fresh_back sq_of st_of sz_of sz_lt)
def rMinT (K : PySem.W.Frag) : List V → Hp → VK → Prop := fun vs H Q => ∃ (a : Addr) (n : Int) (ns : List Int), vs = [V.ref a] ∧ SqT K H a ((n :: ns).map V.int) ∧ Q (.int (minOf n ns)) H
theorem cr_minT {X : Cx} {n : Nat} (hr : Room n X.A) (hc : X.calm = true) : CallR X (.builtin "min") (rMinT X.K) := by
  rintro pins s σ H vs us Q I r ⟨a, m, ms, rfl, hs, q⟩
  obtain ⟨its, rv, hl, _⟩ := I.tuple hs
  have hu := hr.un
  rw [Vals.ref1 r]
  refine min_tuple_datum (x := m) (xs := ms) (I.ok.hd hc) hl ⟨[], readsAll_of_ints (ns := m :: ms) rv.ints⟩ (by show X.A.units + 1 + 0 < cLine; omega) fun i v h' tk hi hv keep => ?_
  obtain ⟨as, rd⟩ := hv
  cases rd with
  | int _ t => exact ⟨.int _, H, I.kept keep, ⟨t, rfl⟩, q⟩
theorem minOf_in : ∀ (ms : List Int) (n : Int), minOf n ms ∈ n :: ms
  | [], n => List.mem_cons_self
  | m :: ms, n => by
    have h := minOf_in ms (if DatumOrd.lt m n = true then m else n)
    show minOf (if DatumOrd.lt m n = true then m else n) ms ∈ n :: m :: ms
    (rcases List.mem_cons.mp h with e | h)
    · rw [e]
      split
      · exact List.mem_cons_of_mem _ List.mem_cons_self
      · exact List.mem_cons_self
    · exact List.mem_cons_of_mem _ (List.mem_cons_of_mem _ h)
theorem minOf_mem (n : Int) (ns : List Int) : minOf n ns ∈ n :: ns := minOf_in ns n
section
variable [TabW] {K : PySem.W.Frag} {ρ : Rho} {β β1 : Bag} {te : TE}
theorem d_minT {n : Int} {ns : List Int} (h : EvB K te ρ β (tupD (n :: ns)) β1) : EvB K (tCB (rMinT K) (tCons te tNil)) ρ β (.int (minOf n ns)) β1 := d_c1 h fun b G H v Q e dv k => by
  cases dv with
  | @tup a xs _ hs hd =>
    have hs := st_of (K := K) hs
    have := hd.ints
    subst this
    exact ⟨a, n, ns, rfl, ex_t e hs, k _ G H (Step.refl e) (.int _)⟩
/-- the least of some ints -/
theorem d_minL {ns : List Int} {M : Int} (h : EvB K te ρ β (.list (ns.map .int)) β1) (hM : M ∈ ns) (hg : ∀ y ∈ ns, M ≤ y) : EvB K (tCB (rMin K) (tCons te tNil)) ρ β (.int M) β1 := d_c1 h fun b G H v Q e dv k => by
  cases dv with
  | @lst a xs _ hs hd =>
    have := hd.ints
    subst this
    refine ⟨a, ns, rfl, sq_of (e _ _ hs), List.length_pos_of_mem hM, fun m hm hle => ?_⟩
    rw [Int.le_antisymm (hle M hM) (hg m hm)]
    exact k _ G H (Step.refl e) (.int _)
theorem d_notL {ds : List Dt} (h : EvB K te ρ β (.list ds) β1) : EvB K (tNotT K te) ρ β (.bool (ds.isEmpty)) β1 := ⟨h.som, fun b G H σ Q E k => h.run b G H σ _ E fun v G1 H1 s1 k1 d1 => by
  cases d1 with
  | @lst a xs _ hs hd =>
    refine ⟨!xs.isEmpty, .inl ⟨xs, sq_of (s1.s _ _ hs), rfl⟩, ?_⟩
    have l := hd.length
    have e : (!(!xs.isEmpty)) = ds.isEmpty := by cases xs <;> cases ds <;> first | rfl | exact nomatch l
    rw [e]
    exact k _ G1 H1 s1 k1 (.bl _)⟩
/-- a == b <= c -/
theorem d_chEqLe {tb tc : TE} {β2 : Bag} {i j l : Int} (ha : EvB K te ρ β (.int i) β1) (hb : EvB K tb ρ β1 (.int j) β2) (hc : EvB K tc ρ β2 (.int l) β2) : EvB K (tChain rEq (rI0 fun i j => .bl (decide (i ≤ j))) te tb tc) ρ β (.bool (decide (i = j) && decide (j ≤ l))) β2 :=
  d_chain ha hb (fun _ => hc) (fun G H v w Q e h1 h2 q => by
    cases h1
    cases h2
    have same : decide (V.int i = V.int j) = decide (i = j) := by
      by_cases z : i = j
      · subst z
        simp
      · simp [z]
    exact ⟨rfl, by rw [same]; exact q⟩) fun _ G H v w Q e h1 h2 q => by
    cases h1
    cases h2
    exact ⟨j, l, rfl, rfl, q⟩
end
end TD
set_option Elab.async false
set_option linter.all false
set_option maxRecDepth 100000
set_option maxHeartbeats 4100300
namespace TD
open PySem L2 PySem.Spec PyProof.Rows
open Evl (Ex ex_l ex_t fresh_back sq_of st_of sz_of sz_lt)
theorem wipe_get {k : Nat} : ∀ {vs : List Nat} {σ : L2.St}, k ∉ vs → (wipe σ vs)[k]? = σ[k]?
  | [], _, _ => rfl
  | v :: vs, σ, h => by
    have h1 : v ≠ k := fun z => h (z ▸ List.mem_cons_self)
    have h2 : k ∉ vs := fun z => h (List.mem_cons_of_mem _ z)
    show ((wipe σ vs).set v none)[k]? = σ[k]?
    rw [List.getElem?_set_ne h1]
    exact wipe_get h2
inductive ForFW [TabW] (K : PySem.W.Frag) (i : Nat) (F : QD → Rho → Rho) (tu : TS) : List QD → Rho → Bag → Dt → Out → Bag → Dt → Prop
  | nil (ρ : Rho) (β : Bag) (d : Dt) : ForFW K i F tu [] ρ β d (.nx ρ) β d
  | nx {q : QD} {qs : List QD} {ρ ρ1 : Rho} {β β1 β2 : Bag} {d d1 d2 : Dt} {o : Out} : StW K i tu (F q ρ) β d (.nx ρ1) β1 d1 → ForFW K i F tu qs ρ1 β1 d1 o β2 d2 → ForFW K i F tu (q :: qs) ρ β d o β2 d2
  | ct {q : QD} {qs : List QD} {ρ ρ1 : Rho} {β β1 β2 : Bag} {d d1 d2 : Dt} {o : Out} : StW K i tu (F q ρ) β d (.ct ρ1) β1 d1 → ForFW K i F tu qs ρ1 β1 d1 o β2 d2 → ForFW K i F tu (q :: qs) ρ β d o β2 d2
  | brk {q : QD} {qs : List QD} {ρ ρ1 : Rho} {β β1 : Bag} {d d1 : Dt} : StW K i tu (F q ρ) β d (.brk ρ1) β1 d1 → ForFW K i F tu (q :: qs) ρ β d (.nx ρ1) β1 d1
  | ret {q : QD} {qs : List QD} {ρ : Rho} {β β1 : Bag} {d d1 r : Dt} : StW K i tu (F q ρ) β d (.ret r) β1 d1 → ForFW K i F tu (q :: qs) ρ β d (.ret r) β1 d1
section
variable [TabW] {K : PySem.W.Frag} {b a p : Addr} {ρ ρ1 : Rho} {β β1 β2 β3 : Bag} {td te : TE} {tu : TS} {x d d1 d2 : Dt} {o : Out} {i : Nat} {G H G0 H0 G1 H1 G2 H2 Hb : Hp} {σ : L2.St} {mk : Mk} {g : TG} {F : QD → Rho → Rho} {js vs : List Nat} {qs : List QD} {lq : LQ} {u u' : HO}
theorem ForFW.som (h : ForFW K i F tu qs ρ β d o β2 d2) : β2.isSome = β.isSome := by
  induction h with
  | nil => rfl
  | nx h _ ih => exact ih.trans h.som
  | ct h _ ih => exact ih.trans h.som
  | brk h => exact h.som
  | ret h => exact h.som
theorem Held.sm {o : HO} (e : Sm G G1) (h : Held K G o d) : Held K G1 o d := by
  cases h with
  | lst h => exact .lst (DenL.sm e h)
  | dct h => exact .dct (DenP.sm e h)
  | ins hc h => exact .ins hc (DenF.sm e h)
  | dT h => exact .dT (DenT.sm e h)
theorem OwnW.lk (w : OwnW K b β i p G H σ ρ d) (h : LkG lq u) (h' : LkG lq u') (hG : G a = some u) : OwnW K b β i p (upd G a u') (upd H a u') σ ρ d := by
  obtain ⟨o, hp, hh⟩ := w.val
  have ne : p ≠ a := fun z => by
    have := w.free
    rw [z, hG] at this
    cases this
  exact ⟨w.env.lk h h' hG, w.slot, w.at_, by rw [upd_ne ne]; exact w.free, w.nb, o, by rw [upd_ne ne]; exact hp, hh.sm (Sm.lk h h' hG)⟩
theorem upd_back {G : Hp} {a : Addr} {u u' : HO} (h : G a = some u) : upd (upd G a u') a u = G := by
  funext x
  by_cases e : x = a
  · rw [e, upd_same, h]
  · rw [upd_ne e, upd_ne e]
/-- the walk of such a for, the dict locked -/
theorem forW_walk {D : Ends} {ob : Obj} {kvs : List (List Int × V)} {m : Bool} (wk : WkB K mk g F js) (hi : i ∉ js) (hF : ∀ q ρ, ρ[i]? = some none → (F q ρ)[i]? = some none) (w : OwnW K b β1 i p G1 H1 σ ρ d) (hm : β1.isSome = m) (hG : G1 a = some (.frz ob (.dT (keysT kvs)))) (hq : DenQ K G1 kvs qs)
    (gn : Gone Hb p) (s : Step b m G1 Hb G1 H1) (h : ForFW K i F tu qs ρ β1 d o β2 d2) (k : OutW K b m β2 i p d2 G1 Hb D o) : ∃ W : Nat → Nat → L2.St → Hp → Prop, (∃ m, W 0 m σ H1) ∧ ∀ i m σ H, W i m σ H →
  ((mk a ob (keysT kvs)).stop i H ∧ D.nx σ H) ∨ ((mk a ob (keysT kvs)).go i H ∧ ∃ N : L2.St → Hp → Prop, (∀ σ' H', N σ' H' → ∃ m', m' < m ∧ W (i + 1) m' σ' H') ∧ ∀ x H', (mk a ob (keysT kvs)).yld i H x H' → g x σ H' fun σ2 H2 => tu { D with nx := N, ct := N, bk := D.nx } σ2 H2) := by
  have hlk := hq.length
  refine ⟨fun l n σ' H' => n + l = qs.length ∧ ∃ (G' : Hp) (ρ' : Rho) (β' : Bag) (d' : Dt), Step b m G1 Hb G' H' ∧ β'.isSome = m ∧ OwnW K b β' i p G' H' σ' ρ' d' ∧ ForFW K i F tu (qs.drop l) ρ' β' d' o β2 d2, ⟨qs.length, rfl, G1, ρ, β1, d, s, hm, w, h⟩, ?_⟩
  rintro l n σ' H' ⟨sum, G', ρ', β', d', s', hm', w', r'⟩
  have hGa := s'.g _ _ hG
  cases n with
  | zero =>
    obtain rfl : l = qs.length := by omega
    refine .inl ⟨wk.stop (w'.env.sub _ _ hGa) (by omega), ?_⟩
    rw [List.drop_length] at r'
    cases r'
    exact k σ' G' H' s' w'
  | succ n =>
    have hl : l < qs.length := by omega
    refine .inr ⟨wk.go (w'.env.sub _ _ hGa) (by omega), fun σ2 H2 => n + (l + 1) = qs.length ∧ ∃ (G' : Hp) (ρ' : Rho) (β' : Bag) (d' : Dt), Step b m G1 Hb G' H2 ∧ β'.isSome = m ∧ OwnW K b β' i p G' H2 σ2 ρ' d' ∧ ForFW K i F tu (qs.drop (l + 1)) ρ' β' d' o β2 d2, fun σ2 H2 z => ⟨n, Nat.lt_succ_self n, z⟩, ?_⟩
    intro x H2 hy
    obtain ⟨G2, st, kk⟩ := wk.turn hl w'.env hGa (hq.mono s'.g) hy
    refine kk _ fun σ2 E2 wp => ?_
    rw [List.drop_eq_getElem_cons hl] at r'
    have su : Step b m G1 Hb G2 H2 := s'.trans st.up
    have w2 : OwnW K b β' i p G2 H2 σ2 (F qs[l] ρ') d' := by
      have w3 := w'.step (st.up (m := β'.isSome)) E2.bagk rfl
      refine ⟨E2, hF _ _ w'.slot, ?_, w3.free, w3.nb, w3.val⟩
      have e : (wipe σ2 js)[i]? = (wipe σ' js)[i]? := by rw [wp js fun _ h => h]
      rw [wipe_get hi, wipe_get hi] at e
      rw [e]
      exact w'.at_
    subst hm'
    cases r' with
    | nx h hr => exact h.run b G1 Hb G2 H2 _ p _ gn su w2 fun σ3 G3 H3 s3 w3 => ⟨by omega, G3, _, _, _, s3, h.som, w3, hr⟩
    | ct h hr => exact h.run b G1 Hb G2 H2 _ p _ gn su w2 fun σ3 G3 H3 s3 w3 => ⟨by omega, G3, _, _, _, s3, h.som, w3, hr⟩
    | brk h => exact h.run b G1 Hb G2 H2 _ p _ gn su w2 fun σ3 G3 H3 s3 w3 => k σ3 G3 H3 s3 w3
    | ret h => exact h.run b G1 Hb G2 H2 _ p _ gn su w2 fun w G3 H3 s3 e3 dw => k w G3 H3 s3 e3 dw
theorem sw_forW {X : Cx} (wk : WkB K mk g F js) (hi : i ∉ js) (hF : ∀ q ρ, ρ[i]? = some none → (F q ρ)[i]? = some none) (hl : EvW K i td ρ β d (dT qs) β1) (h : ForFW K i F tu qs ρ β1 d o β2 d2) : StW K i (tForU X mk td g tu) ρ β d o β2 d2 := by
  refine ⟨h.som.trans hl.som, fun b G0 H0 G H σ p D gn s w k => ?_⟩
  refine ⟨_, hl.run b G H σ p (fun v H1 => ∃ G1, Step b β.isSome G H G1 H1 ∧ OwnW K b β1 i p G1 H1 σ ρ d ∧ Den K G1 v (dT qs)) w fun v G1 H1 s1 w1 d1 => ⟨G1, s1, w1, d1⟩, fun x H1 => ?_⟩
  rintro ⟨G1, s1, w1, d1⟩
  obtain ⟨Hb, gb, sb, sc⟩ := w1.base gn (s.trans s1)
  have kb := k.of sb
  obtain ⟨a, kvs, rfl, hs | ⟨ob, hs⟩, hq⟩ := den_dT d1
  · refine ⟨a, keysT kvs, rfl, .inl ⟨w1.env.sub _ _ hs, fun ob hn => ?_⟩⟩
    have l1 : LkO (keysT kvs) (.dT (keysT kvs)) := .inl rfl
    have l2 : LkO (keysT kvs) (.frz ob (.dT (keysT kvs))) := .inr ⟨ob, rfl⟩
    have ne : p ≠ a := fun z => by
      have := w1.free
      rw [z, hs] at this
      cases this
    have gb2 : Gone (upd Hb a (.frz ob (.dT (keysT kvs)))) p := fun v t z => gb v t (by rw [upd_ne ne] at z; exact z)
    have sl : Step b β.isSome (upd G1 a (.frz ob (.dT (keysT kvs)))) (upd Hb a (.frz ob (.dT (keysT kvs)))) (upd G1 a (.frz ob (.dT (keysT kvs)))) (upd H1 a (.frz ob (.dT (keysT kvs)))) := by
      have hb : Hb a = some (.dT (keysT kvs)) := sb.s _ _ hs
      refine Step.lk (lq := .inl (keysT kvs)) (u := .frz ob (.dT (keysT kvs))) (u' := .dT (keysT kvs)) l2 l1 upd_same (Ex.upd2 sb.s) ?_
      rw [upd_back hs, upd_back hb]
      exact sc
    refine forW_walk (D := UnE X D) wk hi hF (w1.lk l1 l2 hs) hl.som upd_same (hq.sm (Sm.lk l1 l2 hs)) gb2 sl h ?_
    cases o with
    | nx r => exact fun σ' G' H' s' e => .inl ⟨a, _, ob, e.env.sub _ _ (s'.g _ _ upd_same), hn, kb σ' _ _ (s'.lk l1 l2 hs sb.s) (e.lk l2 l1 (s'.g _ _ upd_same))⟩
    | brk r => exact fun σ' G' H' s' e => .inl ⟨a, _, ob, e.env.sub _ _ (s'.g _ _ upd_same), hn, kb σ' _ _ (s'.lk l1 l2 hs sb.s) (e.lk l2 l1 (s'.g _ _ upd_same))⟩
    | ct r => exact fun σ' G' H' s' e => .inl ⟨a, _, ob, e.env.sub _ _ (s'.g _ _ upd_same), hn, kb σ' _ _ (s'.lk l1 l2 hs sb.s) (e.lk l2 l1 (s'.g _ _ upd_same))⟩
    | ret y => exact fun v G' H' s' kk dv => .inl ⟨a, _, ob, s'.s _ _ (s'.g _ _ upd_same), hn, kb v _ _ (s'.lk l1 l2 hs sb.s) (kk.lk (s'.g _ _ upd_same)) (dv.sm (Sm.lk l2 l1 (s'.g _ _ upd_same)))⟩
  · refine ⟨a, keysT kvs, rfl, .inr ⟨ob, w1.env.sub _ _ hs, forW_walk (D := UnE X D) wk hi hF w1 hl.som hs hq gb sc h ?_⟩⟩
    cases o with
    | nx r => exact fun σ' G' H' s' e => .inr (kb σ' _ _ s' e)
    | brk r => exact fun σ' G' H' s' e => .inr (kb σ' _ _ s' e)
    | ct r => exact fun σ' G' H' s' e => .inr (kb σ' _ _ s' e)
    | ret y => exact fun v G' H' s' kk dv => .inr (kb v _ _ s' kk dv)
/-- a for whose turns keep a form of what is told -/
theorem ForFW.keep {P : List QD → Rho → Dt → Prop} : ∀ {qs done : List QD} {ρ : Rho} {d : Dt}, P done ρ d → (∀ pre q post ρ d, pre ++ q :: post = done ++ qs → done.length ≤ pre.length → P pre ρ d → ∃ ρ1 d1, StW K i tu (F q ρ) β d (.nx ρ1) β d1 ∧ P (pre ++ [q]) ρ1 d1) →
    ∃ ρ' d', ForFW K i F tu qs ρ β d (.nx ρ') β d' ∧ P (done ++ qs) ρ' d'
  | [], done, ρ, d, h, _ => ⟨ρ, d, .nil _ _ _, by rw [List.append_nil]; exact h⟩
  | q :: qs, done, ρ, d, h, hs => by
    obtain ⟨ρ1, d1, h1, h2⟩ := hs done q qs ρ d rfl (Nat.le_refl _) h
    obtain ⟨ρ', d', h3, h4⟩ := ForFW.keep (P := P) (qs := qs) (done := done ++ [q]) h2 fun pre x post ρ d e le hp => hs pre x post ρ d (by rw [e, List.append_assoc] <;> rfl) (by rw [List.length_append] at le; omega) hp
    exact ⟨ρ', d', .nx h1 h3, by rw [List.append_assoc] at h4; exact h4⟩
end
end TD
set_option Elab.async false
set_option linter.all false
set_option maxRecDepth 100000
set_option maxHeartbeats 4000100
namespace TD
open PySem L2 PySem.Spec PyProof.Rows
open Evl (Ex ex_l ex_t fresh_back sq_of st_of sz_of sz_lt)
end TD
set_option Elab.async false
set_option linter.all false
set_option maxRecDepth 100000
set_option maxHeartbeats 4100400
namespace TD
open PySem L2 PySem.Spec PyProof.Rows
open Evl (Ex ex_l ex_t fresh_back sq_of st_of sz_of sz_lt)
def itmsO (p d : Addr) : HO := .ext fun h => h.IsItemsView p d
/-- a view stays as long as its object does -/
theorem ext_ok {P : Program} {w : World} {H : Hp} {h : Heap} {p : Addr} {ob : Obj} {J : Obj → Prop} (e : h.get? p = some ob) (j : J ob) : ObjOk P w H h p (.ext fun h => ∃ o, h.get? p = some o ∧ J o) :=
  ⟨⟨ob, e, j⟩, ⟨ob, e⟩, fun _ _ ⟨o, g, j⟩ keep => ⟨o, keep o g, j⟩⟩
/-- a view is laid -/
def tView (mo : Addr → Addr → HO) (td : TE) : TE := fun σ H Q => td σ H fun x H1 => ∃ d kvs, x = V.ref d ∧ Rd H1 d (.dT kvs) ∧ ∀ p, H1 p = none → Q (.ref p) (upd H1 p (mo p d))
section
variable {X : Cx} {e : Expr} {td : TE} {apos cpos : Pos}
/-- the view's object stands at the end of the heap: what is told of it then -/
theorem view_new {mo : Addr → Addr → HO} {pins : List (Addr × Obj)} {σ : L2.St} {H : Hp} {s : Shared} {Q : VK} {x : V} {ob : Obj} (I : Inv X pins σ H s) {d : Addr} {kvs : List (List Key × V)} (hx : x = V.ref d) (hd : Rd H d (.dT kvs))
    (ok : ObjOk X.prog X.w (upd H s.heap.objs.size (mo s.heap.objs.size d)) (s.heap.push ob) s.heap.objs.size (mo s.heap.objs.size d)) (q : ∀ p, H p = none → Q (.ref p) (upd H p (mo p d))) :
    ∃ es ep, Ents H s d kvs es ep ∧ (∀ b, Value.ref d = Value.ref b → ∃ o, s.heap.get? b = some o ∧ o.dict = none) ∧ EP X pins σ Q (.ref s.heap.objs.size) { s with heap := s.heap.push ob } := by
  obtain ⟨es, ep, En⟩ := ents_rd I hd
  refine ⟨es, ep, En, fun b eb => ?_, .ref s.heap.objs.size, _, I.laid (t' := s.toks) (fun b u g => Heap.get?_push_of_some _ g) (Nat.le_refl _) ok, rfl, q _ (I.hok.fresh (Nat.le_refl _))⟩
  obtain ⟨o, g, x, _⟩ := En.raw
  cases eb
  exact ⟨o, g, x.2.1⟩
theorem pe_itemsV (he : PE X e td) (hbase : attributeBase e "items" X.env (eval e X.env) = eval e X.env := by rfl) (hline : (apos.endLine == cpos.line) = true := by rfl) : PE X (.Call (.Attribute e "items" apos) [] [] cpos) (tView itmsO td) := by
  refine ⟨fun pins s σ H Q I h => wpAny_Call_method (T := "dict") (id := "dict.items") hbase rfl hline F.plainAttrs_dict F.slot_dict_items F.type_dict_items (thn (he.run pins s σ H _ I h) fun u s1 ⟨x, H1, I1, rx, d, kvs, ex, hd, q⟩ => ?_)⟩
  obtain ⟨es, ep, En, plain, fin⟩ := view_new (mo := itmsO) (ob := { cls := .type "dict_items", data := .fields #[.ref d] }) I1 ex hd (ext_ok (Heap.get?_push_size _ rfl) ⟨rfl, rfl⟩) q
  cases ex
  cases rx
  exact ⟨En.raw.typeIs, plain, method_meetsIn F.slot_dict_items F.entry_dict_items rfl (PySem.evalArgs_none ⟨rfl, En.raw.typeIs, F.args_dict_items_1 _, _, meets_dict_items_raw d En.notMods, ⟨es, ep, En.raw⟩, fin⟩)⟩
end
/-- list(d.items()) -/
def rListI : List V → Hp → VK → Prop := fun xs H Q => ∃ (p a : Addr) (kvs : List (List Key × V)), xs = [V.ref p] ∧ H p = some (itmsO p a) ∧ Rd H a (.dT kvs) ∧
  ∀ (H' : Hp) (l : Addr) (ts : List Addr), (∀ b o, H b = some o → H' b = some o) → H l = none → H' l = some (.lst (ts.map V.ref)) → ts.length = kvs.length →
    (∀ (j : Nat) (t : Addr) (k : List Key) (v : V), ts[j]? = some t → kvs[j]? = some (k, v) → H t = none ∧ ∃ q, H' t = some (.tup [.ref q, v]) ∧ H q = some (.tup (k.map kV))) → Q (.ref l) H'
theorem cr_listI {X : Cx} (hc : X.calm = true := by rfl) : CallR X (.type "list") rListI := by
  rintro pins s σ H xs us Q I r ⟨p, a, kvs, rfl, hp, ha, q⟩
  rw [Vals.ref1 r]
  have view : s.heap.IsItemsView p a := (show ObjOk X.prog X.w H s.heap p (itmsO p a) from I.hok p _ hp).1
  obtain ⟨es, ep, En⟩ := ents_rd I ha
  refine PySem.W.dil_call (es := es) (ep := ep) (I.ok.hd hc) view En.raw (Nat.le_trans (Nat.le_of_eq En.size) En.few) fun h' tk acc c as hk hS' hl hG hacc => ?_
  have unlike : as.Nodup := hG.rise.imp Nat.ne_of_lt
  have fresh : ∀ t ∈ as, s.heap.objs.size < t ∧ H t = none := fun t ht => ⟨hG.above t ht, I.hok.fresh (Nat.le_of_lt (hG.above t ht))⟩
  have free := I.hok.fresh (Nat.le_refl s.heap.objs.size)
  /- the new pair at the place j -/
  have pair : ∀ (j : Nat) (t : Addr), as[j]? = some t → ∃ (k : List Key) (v : V) (q : Addr), kvs[j]? = some (k, v) ∧ H q = some (.tup (k.map kV)) ∧ ∀ H2, ObjOk X.prog X.w H2 h' t (.tup [.ref q, v]) := fun j t hj => by
    obtain ⟨hi, g⟩ := hG.pairs j t hj
    obtain ⟨k, v, q, hkv, ek, hq, rv⟩ := En.at_ j hi
    exact ⟨k, v, q, hkv, hq, fun H2 => pair_laid (H := H) ek rv g⟩
  have lst : ObjOk X.prog X.w (upd H s.heap.objs.size (.lst (as.map V.ref))) h' s.heap.objs.size (.lst (as.map V.ref)) :=
    ⟨by rw [List.length_map, hl, En.size]; exact En.few, acc.toList, c, by rw [hacc]; exact vals_refs _, by rw [Array.toArray_toList]; exact hS'⟩
  obtain ⟨H2, I2, e2, g2⟩ := DX.takeT (P := fun t vs => ∀ j, as[j]? = some t → ∃ (k : List Key) (v : V) (q : Addr), kvs[j]? = some (k, v) ∧ H q = some (.tup (k.map kV)) ∧ vs = [.ref q, v]) I as _
      ((I.kept (t' := tk) hk).take (h' := h') (t' := tk) (fun _ _ _ g => g) (I.fpOk (Nat.le_refl _) free) lst) unlike fun t ht => by
    obtain ⟨lt, hn⟩ := fresh t ht
    obtain ⟨j, hj⟩ := List.getElem?_of_mem ht
    obtain ⟨k, v, q, e1, hq, ok⟩ := pair j t hj
    refine ⟨Nat.le_of_lt lt, (upd_ne (Nat.ne_of_gt lt)).trans hn, _, fun i hi => ?_, ok⟩
    cases (List.getElem?_inj (List.getElem?_eq_some_iff.mp hi).1 unlike).mp (hi.trans hj.symm)
    exact ⟨k, v, q, e1, hq, rfl⟩
  refine ⟨.ref s.heap.objs.size, _, I2, rfl, q _ _ as (fun b o g => e2 b o ((upd_ne (ne_of_none g free)).trans g)) free (e2 _ _ upd_same) (hl.trans En.size) fun j t k v hj hkv => ?_⟩
  obtain ⟨vs, hvs, hH⟩ := g2 t (List.mem_of_getElem? hj)
  obtain ⟨_, _, q', e1, hq, rfl⟩ := hvs j hj
  cases hkv.symm.trans e1
  exact ⟨(fresh t (List.mem_of_getElem? hj)).2, q', hH, hq⟩
/-- all tuples of H', and what stands at l, are taken among the frozen things -/
noncomputable def takeAll (G H' : Hp) (l : Addr) : Hp := fun x => match G x with
  | some o => some o
  | none => if x = l then H' x else match H' x with
    | some (.tup xs) => some (.tup xs)
    | _ => none
section
variable [TabW] {K : PySem.W.Frag} {b l : Addr} {m : Bool} {β β1 : Bag} {G H H' : Hp} {ρ : Rho} {td : TE} {qs : List QD}
theorem takeAll_old {x : Addr} {o : HO} (h : G x = some o) : takeAll G H' l x = some o := by
  unfold takeAll
  rw [h]
theorem takeAll_tup {x : Addr} {xs : List V} (e : Ex G H') (h : H' x = some (.tup xs)) : takeAll G H' l x = some (.tup xs) := by
  unfold takeAll
  cases g : G x with
  | some o =>
    have := e _ _ g
    rw [h] at this
    exact this.symm
  | none =>
    by_cases z : x = l
    · simp only [z, if_true]
      rw [← z]
      exact h
    · simp only [z, if_false, h]
theorem takeAll_at {o : HO} (e : Ex G H') (h : H' l = some o) : takeAll G H' l l = some o := by
  unfold takeAll
  cases g : G l with
  | some u =>
    have := e _ _ g
    rw [h] at this
    exact this.symm
  | none => simp only [if_true, h]
theorem takeAll_sub (e : Ex G H') : Ex (takeAll G H' l) H' := fun x o h => by
  unfold takeAll at h
  cases g : G x with
  | some u =>
    rw [g] at h
    cases h
    exact e _ _ g
  | none =>
    rw [g] at h
    by_cases z : x = l
    · simp only [z, if_true] at h
      rw [z]
      exact h
    · simp only [z, if_false] at h
      split at h
      · rename_i xs q
        cases h
        exact q
      · cases h
/-- things were added only -/
theorem Step.grow (e : Ex G H) (hx : ∀ x o, H x = some o → H' x = some o) (hl : H l = none) (hn : ∀ ps, H' l ≠ some (.tbl ps)) : Step b m G H (takeAll G H' l) H' := by
  have e' : Ex G H' := fun x o h => hx x o (e x o h)
  refine ⟨fun x o h => takeAll_old h, takeAll_sub e', fun x o g t h => ?_, fun x o _ _ h => hx x o h, fun x o t h => ⟨o, t, hx x o h⟩, fun t => ⟨fun P q w => (t.tab P q w).ext hx, fun x ps z => ?_⟩⟩
  · have h' := hx x o h
    unfold takeAll
    rw [g]
    have ne : x ≠ l := fun z => by
      rw [z, hl] at h
      cases h
    simp only [ne, if_false, h']
    split
    · rename_i xs q
      cases q
      exact absurd rfl (t.2 xs)
    · rfl
  · unfold takeAll at z
    cases g : G x with
    | some u =>
      rw [g] at z
      cases z
      exact t.free x ps g
    | none =>
      rw [g] at z
      by_cases y : x = l
      · simp only [y, if_true] at z
        exact hn ps z
      · simp only [y, if_false] at z
        split at z <;> cases z
theorem BagOk.grow (k : BagOk b β G H) (e : Ex G H) (hx : ∀ x o, H x = some o → H' x = some o) (hl : H l = none) : BagOk b β (takeAll G H' l) H' := fun ns q => by
  obtain ⟨h1, h2⟩ := k ns q
  refine ⟨hx _ _ h1, ?_⟩
  unfold takeAll
  rw [h2]
  have ne : b ≠ l := fun z => by
    rw [z, hl] at h1
    cases h1
  simp only [ne, if_false, hx _ _ h1]
theorem DenL.refsAt {ts : List Addr} : ∀ {ds : List Dt}, ts.length = ds.length → (∀ (j : Nat) (t : Addr) (d : Dt), ts[j]? = some t → ds[j]? = some d → Den K G (.ref t) d) → DenL K G (ts.map V.ref) ds := by
  induction ts with
  | nil =>
    intro ds hl _
    cases ds with
    | nil => exact .nil
    | cons d ds => cases hl
  | cons t ts ih =>
    intro ds hl h
    cases ds with
    | nil => cases hl
    | cons d ds => exact .cons (h 0 t d rfl rfl) (ih (Nat.succ.inj hl) fun j t d h1 h2 => h (j + 1) t d h1 h2)
abbrev itemD (q : QD) : Dt := .tuple [tupJ q.1, q.2]
/-- list(d.items()) -/
theorem d_listI (ha : EvB K td ρ β (dT qs) β1) : EvB K (tCB rListI (tCons (tView itmsO td) tNil)) ρ β (.list (qs.map itemD)) β1 := by
  refine ⟨ha.som, fun b G H σ Q E k => ha.run b G H σ _ E fun v G1 H1 s1 k1 d1 => ?_⟩
  obtain ⟨a, kvs, rfl, hs, hq⟩ := den_dT d1
  refine ⟨a, keysT kvs, rfl, rd_ex s1.s hs, fun p hp => ?_⟩
  have gp := fresh_back s1.s hp
  have st : Step b β.isSome G1 H1 G1 (upd H1 p (itmsO p a)) := (Step.refl s1.s).mutM (Gone.none hp) gp (MuAt.none hp)
  have sf : Step b false G1 H1 G1 (upd H1 p (itmsO p a)) := (Step.refl s1.s).mutM (Gone.none hp) gp (MuAt.none hp)
  refine ⟨p, a, keysT kvs, rfl, upd_same, rd_ex st.s hs, fun H' l ts hx hl hL hlen hts => ?_⟩
  have e2 : Ex G1 H' := fun x o h => hx x o (st.s x o h)
  have gr : Step b β.isSome G1 (upd H1 p (itmsO p a)) (takeAll G1 H' l) H' := Step.grow st.s hx hl fun ps z => by
    rw [hL] at z
    cases z
  have hlq : ts.length = qs.length := by rw [hlen, lenT, hq.length]
  refine k (.ref l) (takeAll G1 H' l) H' (s1.trans (st.trans gr)) ((k1.same sf).grow st.s hx hl) (.lst (takeAll_at e2 hL) (DenL.refsAt (by rw [List.length_map]; exact hlq) fun j t d hj hd => ?_))
  rw [List.getElem?_map] at hd
  have hjq : j < qs.length := by
    have := (List.getElem?_eq_some_iff.mp hj).1
    omega
  rw [List.getElem?_eq_getElem hjq] at hd
  cases hd
  have hjk : j < (keysT kvs).length := by rw [lenT, hq.length]; exact hjq
  obtain ⟨⟨ky, v⟩, hkv⟩ : ∃ z, (keysT kvs)[j]? = some z := ⟨_, List.getElem?_eq_getElem hjk⟩
  obtain ⟨_, q, h1, h2⟩ := hts j t ky v hj hkv
  obtain ⟨ek, dv⟩ := keys_at hq hjq hkv
  rw [ek, keyL_kV] at h2
  exact .tup (takeAll_tup e2 h1) (.cons (.tup (takeAll_tup e2 (hx _ _ h2)) (den_ints _)) (.cons (dv.mono gr.g) .nil))
end
end TD
set_option Elab.async false
set_option linter.all false
set_option maxRecDepth 100000
set_option maxHeartbeats 4000100
namespace TD
open PySem L2 PySem.Spec PyProof.Rows
open Evl (Ex ex_l ex_t fresh_back sq_of st_of sz_of sz_lt)
end TD
set_option Elab.async false
set_option linter.all false
set_option maxRecDepth 100000
namespace Num
open PySem
/-- a tuple of at most 140 numbers -/
def okNums (p : Int) : Dt → Bool
  | .tuple ds => decide (ds.length ≤ 140) && allFit p (ds.length : Int) (.tuple ds)
  | _ => false
/-- .. not all 0 -/
def okTup (p : Int) : Dt → Bool
  | .tuple ds => decide (ds.length ≤ 140) && allFit p (ds.length : Int) (.tuple ds) && (ds.map toI).any (· != 0)
  | _ => false
theorem okNums_of {p : Int} {ns : List Int} (hl : ns.length ≤ 140) (h : ∀ m ∈ ns, (-big < m ∧ m < big) ∧ (p = 0 ∨ (0 ≤ m ∧ m < p))) : okNums p (.tuple (ns.map PyData.int)) = true :=
  Bool.and_eq_true_iff.mpr ⟨decide_eq_true (by simpa using hl), allFit_of (by simp) h⟩
theorem okTup_of {p : Int} {ns : List Int} (hl : ns.length ≤ 140) (h : ∀ m ∈ ns, (-big < m ∧ m < big) ∧ (p = 0 ∨ (0 ≤ m ∧ m < p))) (hx : ∃ n ∈ ns, n ≠ 0) : okTup p (.tuple (ns.map PyData.int)) = true := by
  refine Bool.and_eq_true_iff.mpr ⟨okNums_of hl h, ?_⟩
  rw [map_toI]
  exact any_ex.mpr hx
end Num
namespace Num
open PySem
theorem fits_small {p n : Int} (hp : PrimeI p) (n0 : 0 ≤ n) (np : n < p) : fits p (.int n) = true := by
  have := hp.small
  show ((decide (-big < n) && decide (n < big)) && (decide (p = 0) || (decide (0 ≤ n) && decide (n < p)))) = true
  rw [decide_eq_true (show -big < n by unfold big; omega), decide_eq_true (show n < big by unfold big; omega), decide_eq_true n0, decide_eq_true np, Bool.and_true, Bool.or_true]
  rfl
end Num
namespace Num
open PySem
end Num
namespace Num
open PySem
def timesF (p : Int) (ns : List Int) : Int × List Int := if p = 0 then oneF [1, 1, -1, 6, 10 ^ 57, 10 ^ 58] ns else (1, ns)
end Num
set_option Elab.async false
set_option linter.all false
set_option maxRecDepth 100000
namespace Num
open PySem
/-- numbers as they are drawn and passed -/
structure NumsOk (p : Int) (ns : List Int) : Prop where
  pr : PrimeI p
  len : ns.length ≤ 140
  rng : ∀ m ∈ ns, (-big < m ∧ m < big) ∧ (p = 0 ∨ (0 ≤ m ∧ m < p))
  ex : ∃ n ∈ ns, n ≠ 0
theorem NumsOk.tup {p : Int} {ns : List Int} (h : NumsOk p ns) : okTup p (.tuple (ns.map PyData.int)) = true := okTup_of h.len h.rng h.ex
end Num
set_option Elab.async false
set_option linter.all false
set_option maxRecDepth 100000
namespace Num
open PySem
/-- equal up to the prime -/
def Cong (p a b : Int) : Prop := settled p a = settled p b
theorem cong_iff {p a b : Int} : Cong p a b ↔ ∃ q, a = b + p * q := by
  unfold Cong settled
  by_cases h0 : p = 0
  · subst h0
    simp only [ne_eq, not_true_eq_false, if_false]
    exact ⟨fun h => ⟨0, by rw [h]; simp⟩, fun ⟨q, h⟩ => by rw [h]; simp⟩
  · rw [if_pos h0, if_pos h0]
    constructor
    · intro h
      have e1 := Int.emod_add_mul_ediv a p
      have e2 := Int.emod_add_mul_ediv b p
      exact ⟨a / p - b / p, by grind⟩
    · rintro ⟨q, h⟩
      exact emod_eq_of h
theorem Cong.refl (p a : Int) : Cong p a a := rfl
theorem Cong.symm {p a b : Int} (h : Cong p a b) : Cong p b a := Eq.symm h
theorem Cong.trans {p a b c : Int} (h : Cong p a b) (h' : Cong p b c) : Cong p a c := Eq.trans h h'
theorem Cong.add {p a b c d : Int} (h : Cong p a b) (h' : Cong p c d) : Cong p (a + c) (b + d) := by
  obtain ⟨q, rfl⟩ := cong_iff.mp h
  obtain ⟨r, rfl⟩ := cong_iff.mp h'
  exact cong_iff.mpr ⟨q + r, by grind⟩
theorem Cong.mul {p a b c d : Int} (h : Cong p a b) (h' : Cong p c d) : Cong p (a * c) (b * d) := by
  obtain ⟨q, rfl⟩ := cong_iff.mp h
  obtain ⟨r, rfl⟩ := cong_iff.mp h'
  exact cong_iff.mpr ⟨b * r + q * d + p * q * r, by grind⟩
theorem Cong.sub {p a b c d : Int} (h : Cong p a b) (h' : Cong p c d) : Cong p (a - c) (b - d) := by
  obtain ⟨q, rfl⟩ := cong_iff.mp h
  obtain ⟨r, rfl⟩ := cong_iff.mp h'
  exact cong_iff.mpr ⟨q - r, by grind⟩
/-- a factor that can be undone -/
def UnitI (p k : Int) : Prop := settled p k ≠ 0
theorem UnitI.mul {p a b : Int} (hp : PrimeI p) (ha : UnitI p a) (hb : UnitI p b) : UnitI p (a * b) := fun z => hb (settled_mul hp ha z)
end Num
set_option Elab.async false
set_option linter.all false
set_option maxRecDepth 100000
namespace Num
open PySem
end Num
set_option Elab.async false
set_option linter.all false
set_option maxRecDepth 100000
set_option maxHeartbeats 4100600
namespace TD
open PySem L2 PySem.Spec PyProof.Rows
open Evl (Ex ex_l ex_t fresh_back sq_of st_of sz_of sz_lt)
abbrev CQ := List (List Int × Int)
abbrev cD (qs : CQ) : List QD := qs.map fun q => (q.1, PyData.int q.2)
theorem cD_keys (qs : CQ) : (cD qs).map (·.1) = qs.map (·.1) := by
  rw [List.map_map]
  rfl
theorem getT_cD (x : List Int) : ∀ qs : CQ, getT (cD qs) x = (getT qs x).map PyData.int
  | [] => rfl
  | q :: qs => by
    by_cases h : q.1 = x
    · simp [getT, h]
    · have := getT_cD x qs
      simpa [getT, List.find?_cons, h] using this
theorem getT_mem {x : List Int} : ∀ {qs : CQ}, x ∈ qs.map (·.1) → ∃ n, getT qs x = some n ∧ (x, n) ∈ qs
  | q :: qs, h => by
    by_cases e : q.1 = x
    · refine ⟨q.2, by simp [getT, e], ?_⟩
      subst e
      exact List.mem_cons_self
    · obtain ⟨n, h1, h2⟩ := getT_mem ((List.mem_cons.mp h).resolve_left fun z => e z.symm)
      refine ⟨n, ?_, List.mem_cons_of_mem _ h2⟩
      simpa [getT, List.find?_cons, e] using h1
theorem getT_nd {α : Type} {x : List Int} {n : α} : ∀ {qs : List (List Int × α)}, (qs.map (·.1)).Nodup → (x, n) ∈ qs → getT qs x = some n
  | q :: qs, hn, h => by
    (rw [List.map_cons, List.nodup_cons] at hn)
    (rcases List.mem_cons.mp h with rfl | h)
    · simp [getT]
    · have ne : q.1 ≠ x := fun z => hn.1 (by
        rw [z]
        exact List.mem_map_of_mem (f := (·.1)) h)
      have := getT_nd hn.2 h
      simpa [getT, List.find?_cons, ne] using this
section
variable [TabW] {K : PySem.W.Frag} {ρ : Rho} {β β1 β2 : Bag} {ta tb te : TE} {C : Addr} {x : Dt} {ps : List (Dt × Dt)}
theorem d_isDict {qs : List QD} (h : EvB K te ρ β (dT qs) β1) : EvB K (tCB (rIsiR K) (tCons te (tCons (tC (.ty "dict")) tNil))) ρ β (.bool true) β1 := d_isi h (by show kitB "dict" "dict" = some true; decide +kernel)
end
end TD
set_option Elab.async false
set_option linter.all false
set_option maxRecDepth 100000
set_option maxHeartbeats 1000100
namespace TD
open PySem L2
def evF (φ : List Int → Int) : CQ → Int
  | [] => 0
  | q :: qs => q.2 * φ q.1 + evF φ qs
abbrev kyF (T : CQ) : List (List Int) := T.map (·.1)
abbrev at0 (T : CQ) (k : List Int) : Int := (getT T k).getD 0
section
variable {φ ψ : List Int → Int} {T U a b : CQ} {k : List Int} {p v n m : Int}
theorem evF_app (φ : List Int → Int) : ∀ T U : CQ, evF φ (T ++ U) = evF φ T + evF φ U
  | [], U => (Int.zero_add _).symm
  | q :: T, U => by
    show q.2 * φ q.1 + evF φ (T ++ U) = q.2 * φ q.1 + evF φ T + evF φ U
    rw [evF_app φ T U, Int.add_assoc]
theorem evF_perm (h : T.Perm U) : evF φ T = evF φ U := by
  induction h with
  | nil => rfl
  | cons q _ ih => exact congrArg (q.2 * φ q.1 + ·) ih
  | swap q r xs => show r.2 * φ r.1 + (q.2 * φ q.1 + _) = q.2 * φ q.1 + (r.2 * φ r.1 + _); omega
  | trans _ _ i j => exact i.trans j
theorem evF_add (φ ψ : List Int → Int) : ∀ T : CQ, evF (fun e => φ e + ψ e) T = evF φ T + evF ψ T
  | [] => rfl
  | q :: T => by
    show q.2 * (φ q.1 + ψ q.1) + evF _ T = q.2 * φ q.1 + evF φ T + (q.2 * ψ q.1 + evF ψ T)
    rw [evF_add φ ψ T, Int.mul_add]
    omega
theorem evF_mul (c : Int) (φ : List Int → Int) : ∀ T : CQ, evF (fun e => c * φ e) T = c * evF φ T
  | [] => (Int.mul_zero c).symm
  | q :: T => by
    show q.2 * (c * φ q.1) + evF _ T = c * (q.2 * φ q.1 + evF φ T)
    rw [evF_mul c φ T, Int.mul_add, Int.mul_left_comm]
theorem evF_zero : ∀ T : CQ, evF (fun _ => 0) T = 0
  | [] => rfl
  | q :: T => by
    show q.2 * 0 + evF _ T = 0
    rw [evF_zero T, Int.mul_zero, Int.add_zero]
theorem evF_swap (ψ : List Int → List Int → Int) : ∀ a b : CQ, evF (fun e => evF (fun f => ψ e f) b) a = evF (fun f => evF (fun e => ψ e f) a) b
  | [], b => (evF_zero b).symm
  | q :: a, b => by
    show q.2 * evF (fun f => ψ q.1 f) b + evF _ a = evF (fun f => q.2 * ψ q.1 f + evF (fun e => ψ e f) a) b
    rw [evF_swap ψ a b, evF_add, evF_mul]
theorem evF_congr (h : ∀ q ∈ T, φ q.1 = ψ q.1) : evF φ T = evF ψ T := by
  induction T with
  | nil => rfl
  | cons q T ih =>
    show q.2 * φ q.1 + evF φ T = q.2 * ψ q.1 + evF ψ T
    rw [h q List.mem_cons_self, ih fun r hr => h r (List.mem_cons_of_mem _ hr)]
theorem any_key : ∀ {T : CQ}, (T.any fun q => decide (q.1 = k)) = true ↔ k ∈ kyF T
  | [] => by simp
  | q :: T => by
    rw [List.any_cons, Bool.or_eq_true, any_key (T := T)]
    show _ ↔ k ∈ q.1 :: kyF T
    rw [List.mem_cons, decide_eq_true_iff]
    exact or_congr ⟨Eq.symm, Eq.symm⟩ Iff.rfl
theorem over_off : ∀ {T : CQ}, k ∉ kyF T → (T.map fun q => if q.1 = k then (q.1, v) else q) = T
  | [], _ => rfl
  | q :: T, h => by
    have h1 : ¬ q.1 = k := fun z => h (z ▸ List.mem_cons_self)
    rw [List.map_cons, if_neg h1, over_off fun z => h (List.mem_cons_of_mem _ z)]
theorem at0_none (h : k ∉ kyF T) : getT T k = none := by
  cases e : getT T k with
  | none => rfl
  | some n =>
    obtain ⟨q, hq, _⟩ := Option.map_eq_some_iff.mp (show (T.find? fun q => decide (q.1 = k)).map (·.2) = some n from e)
    have := List.find?_some hq
    exact absurd (of_decide_eq_true this ▸ List.mem_map_of_mem (List.mem_of_find?_eq_some hq)) h
theorem ev_over : ∀ {T : CQ}, (kyF T).Nodup → k ∈ kyF T → evF φ (T.map fun q => if q.1 = k then (q.1, v) else q) = evF φ T + (v - at0 T k) * φ k
  | q :: T, nd, h => by
    have nd1 : q.1 ∉ kyF T ∧ (kyF T).Nodup := List.nodup_cons.mp nd
    by_cases e : q.1 = k
    · have off : k ∉ kyF T := e ▸ nd1.1
      have here : at0 (q :: T) k = q.2 := by
        show (getT (q :: T) k).getD 0 = _
        rw [getT_cons, if_pos e]
        rfl
      rw [List.map_cons, if_pos e, over_off off, here]
      show v * φ q.1 + evF φ T = q.2 * φ q.1 + evF φ T + (v - q.2) * φ k
      rw [e, Int.sub_mul]
      omega
    · have there : at0 (q :: T) k = at0 T k := by
        show (getT (q :: T) k).getD 0 = _
        rw [getT_cons, if_neg e]
      rw [List.map_cons, if_neg e, there]
      show q.2 * φ q.1 + evF φ _ = q.2 * φ q.1 + evF φ T + (v - at0 T k) * φ k
      rw [ev_over nd1.2 ((List.mem_cons.mp h).resolve_left (Ne.symm e))]
      omega
theorem put_new (h : k ∉ kyF T) : putT T k v = T ++ [(k, v)] := by
  unfold putT
  rw [if_neg fun z => h (any_key.mp z)]
theorem ev_put (nd : (kyF T).Nodup) : evF φ (putT T k v) = evF φ T + (v - at0 T k) * φ k := by
  by_cases h : k ∈ kyF T
  · unfold putT
    rw [if_pos (any_key.mpr h)]
    exact ev_over nd h
  · rw [put_new h, evF_app]
    have z : at0 T k = 0 := by
      show (getT T k).getD 0 = 0
      rw [at0_none h]
      rfl
    rw [z, Int.sub_zero]
    show evF φ T + (v * φ k + 0) = _
    omega
abbrev Cg (p n m : Int) : Prop := p ∣ n - m
theorem Cg.refl (p n : Int) : Cg p n n := ⟨0, by omega⟩
theorem Cg.of (e : n = m) : Cg p n m := e ▸ Cg.refl p n
theorem Cg.symm (h : Cg p n m) : Cg p m n := by
  obtain ⟨c, e⟩ := h
  exact ⟨-c, by rw [Int.mul_neg]; omega⟩
theorem Cg.trans {l : Int} (h : Cg p n m) (h' : Cg p m l) : Cg p n l := by
  obtain ⟨c, e⟩ := h
  obtain ⟨d, e'⟩ := h'
  exact ⟨c + d, by rw [Int.mul_add]; omega⟩
theorem Cg.add {n' m' : Int} (h : Cg p n m) (h' : Cg p n' m') : Cg p (n + n') (m + m') := by
  obtain ⟨c, e⟩ := h
  obtain ⟨d, e'⟩ := h'
  exact ⟨c + d, by rw [Int.mul_add]; omega⟩
theorem Cg.mul (c : Int) (h : Cg p n m) : Cg p (c * n) (c * m) := by
  obtain ⟨d, e⟩ := h
  exact ⟨c * d, by rw [← Int.mul_sub, e, Int.mul_left_comm]⟩
theorem Cg.mulR (c : Int) (h : Cg p n m) : Cg p (n * c) (m * c) := by
  rw [Int.mul_comm n, Int.mul_comm m]
  exact h.mul c
/-- a number brought down -/
def clI (p n : Int) : Int := if p = 0 then n else n % p
theorem clI_cg (p n : Int) : Cg p (clI p n) n := by
  unfold clI
  split
  · exact Cg.refl _ _
  · exact ⟨-(n / p), by rw [Int.emod_def, Int.mul_neg]; omega⟩
abbrev EqF (p : Int) (T U : CQ) : Prop := ∀ φ, Cg p (evF φ T) (evF φ U)
/-- without the zeros -/
def dropZ (p : Int) (T : CQ) : CQ := if p = 0 then T.filter (fun q => decide (q.2 ≠ 0)) else (T.filter fun q => decide (q.2 % p ≠ 0)).map fun q => (q.1, q.2 % p)
theorem ev_dropZ (p : Int) (T : CQ) : EqF p (dropZ p T) T := by
  intro φ
  unfold dropZ
  split
  · refine Cg.of ?_
    induction T with
    | nil => rfl
    | cons q T ih =>
      rw [List.filter_cons]
      split
      · exact congrArg (q.2 * φ q.1 + ·) ih
      · rename_i h
        have z : q.2 = 0 := Classical.not_not.mp fun z => h (decide_eq_true z)
        show _ = q.2 * φ q.1 + evF φ T
        rw [ih, z, Int.zero_mul, Int.zero_add]
  · rename_i hp
    induction T with
    | nil => exact Cg.refl _ _
    | cons q T ih =>
      have low : Cg p (q.2 % p) q.2 := by
        have := clI_cg p q.2
        unfold clI at this
        rwa [if_neg hp] at this
      rw [List.filter_cons]
      split
      · exact (low.mulR _).add ih
      · rename_i h
        have z : q.2 % p = 0 := Classical.not_not.mp fun z => h (decide_eq_true z)
        rw [z] at low
        have := (low.mulR (φ q.1)).add ih
        rwa [Int.zero_mul, Int.zero_add] at this
theorem dropZ_key (h : k ∈ kyF (dropZ p T)) : k ∈ kyF T := by
  unfold dropZ at h
  split at h
  · (obtain ⟨q, hq, e⟩ := List.mem_map.mp h)
    exact e ▸ List.mem_map_of_mem (List.mem_filter.mp hq).1
  · (obtain ⟨q, hq, e⟩ := List.mem_map.mp h)
    obtain ⟨r, hr, e2⟩ := List.mem_map.mp hq
    exact List.mem_map.mpr ⟨r, (List.mem_filter.mp hr).1, by rw [← e, ← e2]⟩
theorem filter_keys (f : List Int × Int → Bool) (nd : (kyF T).Nodup) : (kyF (T.filter f)).Nodup := nd.sublist ((List.filter_sublist (p := f)).map _)
theorem dropZ_nd (nd : (kyF T).Nodup) : (kyF (dropZ p T)).Nodup := by
  unfold dropZ
  split
  · exact filter_keys _ nd
  · rw [show kyF ((T.filter fun q => decide (q.2 % p ≠ 0)).map fun q => (q.1, q.2 % p)) = kyF (T.filter fun q => decide (q.2 % p ≠ 0)) by rw [kyF, kyF, List.map_map] <;> rfl]
    exact filter_keys _ nd
/-- nothing but what a form may hold -/
structure CleanF (p : Int) (T : CQ) : Prop where
  nd : (kyF T).Nodup
  ne : ∀ q ∈ T, q.2 ≠ 0
  fit : p ≠ 0 → ∀ q ∈ T, 0 ≤ q.2 ∧ q.2 < p
theorem CleanF.nil (p : Int) : CleanF p [] := ⟨List.nodup_nil, (fun _ h => nomatch h), (fun _ _ h => nomatch h)⟩
theorem dropZ_clean (h0 : 0 ≤ p) (nd : (kyF T).Nodup) : CleanF p (dropZ p T) := by
  refine ⟨dropZ_nd nd, fun q hq => ?_, fun hp q hq => ?_⟩
  · unfold dropZ at hq
    split at hq
    · exact of_decide_eq_true (List.mem_filter.mp hq).2
    · obtain ⟨r, hr, e⟩ := List.mem_map.mp hq
      rw [← e]
      exact of_decide_eq_true (List.mem_filter.mp hr).2
  · unfold dropZ at hq
    rw [if_neg hp] at hq
    obtain ⟨r, hr, e⟩ := List.mem_map.mp hq
    rw [← e]
    exact ⟨Int.emod_nonneg _ hp, Int.emod_lt_of_pos _ (by omega)⟩
theorem ev_at : ∀ {T : CQ}, (kyF T).Nodup → evF (fun e => if e = k then 1 else 0) T = at0 T k
  | [], _ => rfl
  | q :: T, nd => by
    have nd1 : q.1 ∉ kyF T ∧ (kyF T).Nodup := List.nodup_cons.mp nd
    show q.2 * (if q.1 = k then 1 else 0) + evF _ T = (getT (q :: T) k).getD 0
    rw [ev_at nd1.2, getT_cons]
    by_cases e : q.1 = k
    · rw [if_pos e, if_pos e]
      show q.2 * 1 + (getT T k).getD 0 = q.2
      rw [at0_none (e ▸ nd1.1), Int.mul_one]
      exact Int.add_zero _
    · rw [if_neg e, if_neg e, Int.mul_zero, Int.zero_add]
theorem at0_in (c : CleanF p T) (hp : p ≠ 0) (h0 : 0 ≤ p) : 0 ≤ at0 T k ∧ at0 T k < p := by
  show 0 ≤ (getT T k).getD 0 ∧ (getT T k).getD 0 < p
  by_cases h : k ∈ kyF T
  · obtain ⟨n, e, hm⟩ := getT_mem h
    rw [e]
    exact c.fit hp _ hm
  · rw [at0_none h]
    exact ⟨Int.le_refl _, by show (0 : Int) < p; omega⟩
/-- two clean tables of the same sums say the same -/
theorem clean_at (h0 : 0 ≤ p) (c : CleanF p T) (d : CleanF p U) (h : EqF p T U) (k : List Int) : getT T k = getT U k := by
  have e : at0 T k = at0 U k := by
    have g := h fun e => if e = k then 1 else 0
    rw [ev_at c.nd, ev_at d.nd] at g
    obtain ⟨x, e⟩ := g
    by_cases hp : p = 0
    · rw [hp, Int.zero_mul] at e
      omega
    · have b1 := at0_in (k := k) c hp h0
      have b2 := at0_in (k := k) d hp h0
      have x0 : x = 0 := by
        rcases Int.lt_trichotomy x 0 with hx | hx | hx
        · have : p * x ≤ p * (-1) := Int.mul_le_mul_of_nonneg_left (by omega) h0
          omega
        · exact hx
        · have : p * 1 ≤ p * x := Int.mul_le_mul_of_nonneg_left (by omega) h0
          omega
      rw [x0, Int.mul_zero] at e
      omega
  have full : ∀ {V : CQ}, CleanF p V → getT V k = if at0 V k = 0 then none else some (at0 V k) := fun {V} cv => by
    show _ = if (getT V k).getD 0 = 0 then none else some ((getT V k).getD 0)
    by_cases h : k ∈ kyF V
    · obtain ⟨n, e, hm⟩ := getT_mem h
      rw [e]
      exact (if_neg (cv.ne _ hm)).symm
    · rw [at0_none h]
      rfl
  rw [full c, full d, e]
theorem key_some {T : CQ} : k ∈ kyF T ↔ (getT T k).isSome = true := by
  constructor
  · intro h
    obtain ⟨n, e, _⟩ := getT_mem h
    rw [e]
    rfl
  · intro h
    refine Classical.byContradiction fun z => ?_
    rw [at0_none z] at h
    cases h
theorem clean_len (h0 : 0 ≤ p) (c : CleanF p T) (d : CleanF p U) (h : EqF p T U) : T.length = U.length := by
  have e := clean_at h0 c d h
  have sub : ∀ {V W : CQ}, (∀ k, getT V k = getT W k) → kyF V ⊆ kyF W := fun {V W} e k hk => key_some.mpr (e k ▸ key_some.mp hk)
  have l1 : (kyF T).length ≤ (kyF U).length := c.nd.length_le_of_subset (sub e)
  have l2 : (kyF U).length ≤ (kyF T).length := d.nd.length_le_of_subset (sub fun k => (e k).symm)
  rw [List.length_map, List.length_map] at l1 l2
  omega
theorem eqT_of (nd : (kyF T).Nodup) (e : ∀ k, getT T k = getT U k) : eqT (cD T) (cD U) = true := by
  refine List.all_eq_true.mpr fun q hq => ?_
  obtain ⟨r, hr, e1⟩ := List.mem_map.mp hq
  subst e1
  show (match getT (cD U) r.1 with | none => false | some d => PyData.eqv (.int r.2) d) = true
  rw [getT_cD, ← e, getT_nd nd hr]
  show PyData.eqv (.int r.2) (.int r.2) = true
  simp [PyData.eqv]
theorem clean_eq (h0 : 0 ≤ p) (c : CleanF p T) (d : CleanF p U) (h : EqF p T U) : ((cD T).length == (cD U).length && eqT (cD T) (cD U)) = true := by
  rw [List.length_map, List.length_map, clean_len h0 c d h, beq_self_eq_true, Bool.true_and]
  exact eqT_of c.nd (clean_at h0 c d h)
end
end TD
set_option Elab.async false
set_option linter.all false
set_option maxRecDepth 100000
set_option maxHeartbeats 1000100
namespace TD
open PySem L2
section
variable {φ ψ : List Int → Int} {T U a b c : CQ} {k : List Int} {p v n m f : Int} {g : Int → Int → Int}
/-- exponents added -/
abbrev zs (x y : List Int) : List Int := List.zipWith (· + ·) x y
def plusF (g : Int → Int → Int) (a b : CQ) : CQ := b.foldl (fun acc q => putT acc q.1 (g (at0 acc q.1) q.2)) a
def timesIn (g : Int → Int → Int) (x : List Int × Int) (b acc : CQ) : CQ := b.foldl (fun acc y => putT acc (zs x.1 y.1) (g (at0 acc (zs x.1 y.1)) (x.2 * y.2))) acc
def timesF (g : Int → Int → Int) (a b acc : CQ) : CQ := a.foldl (fun acc x => timesIn g x b acc) acc
theorem over_keys : kyF (T.map fun q => if q.1 = k then (q.1, v) else q) = kyF T := by
  rw [kyF, kyF, List.map_map]
  refine List.map_congr_left fun q _ => ?_
  show (if q.1 = k then (q.1, v) else q).1 = q.1
  split <;> rfl
theorem put_keys : kyF (putT T k v) = if k ∈ kyF T then kyF T else kyF T ++ [k] := by
  by_cases h : k ∈ kyF T
  · rw [if_pos h]
    unfold putT
    rw [if_pos (any_key.mpr h)]
    exact over_keys
  · rw [if_neg h, put_new h]
    exact List.map_append
theorem put_key {x : List Int} : x ∈ kyF (putT T k v) ↔ x = k ∨ x ∈ kyF T := by
  rw [put_keys]
  split
  · rename_i h
    exact ⟨.inr, fun z => z.elim (fun e => e ▸ h) id⟩
  · rw [List.mem_append, List.mem_singleton]
    exact Or.comm
theorem put_nd (nd : (kyF T).Nodup) : (kyF (putT T k v)).Nodup := by
  rw [put_keys]
  split
  · exact nd
  · rename_i h
    exact List.nodup_append.mpr ⟨nd, List.nodup_cons.mpr ⟨by simp, List.nodup_nil⟩, fun x hx y hy e => h (List.mem_singleton.mp hy ▸ e ▸ hx)⟩
theorem put_cg (nd : (kyF T).Nodup) (h : Cg p v (at0 T k + n)) : Cg p (evF φ (putT T k v)) (evF φ T + n * φ k) := by
  rw [ev_put nd]
  refine (Cg.refl p _).add ?_
  have := (h.add (Cg.refl p (-(at0 T k)))).mulR (φ k)
  rwa [show v + -at0 T k = v - at0 T k by omega, show at0 T k + n + -at0 T k = n by omega] at this
theorem ev_plus (hg : ∀ n m, Cg p (g n m) (n + f * m)) : ∀ (b : CQ) {a : CQ}, (kyF a).Nodup → (kyF (plusF g a b)).Nodup ∧ ∀ φ, Cg p (evF φ (plusF g a b)) (evF φ a + f * evF φ b)
  | [], a, nd => ⟨nd, fun φ => Cg.of (by show evF φ a = evF φ a + f * 0; rw [Int.mul_zero, Int.add_zero])⟩
  | q :: b, a, nd => by
    obtain ⟨h1, h2⟩ := ev_plus hg b (put_nd (k := q.1) (v := g (at0 a q.1) q.2) nd)
    refine ⟨h1, fun φ => (h2 φ).trans ?_⟩
    have h3 := (put_cg (φ := φ) nd (hg (at0 a q.1) q.2)).add (Cg.refl p (f * evF φ b))
    refine h3.trans (Cg.of ?_)
    show evF φ a + f * q.2 * φ q.1 + f * evF φ b = evF φ a + f * (q.2 * φ q.1 + evF φ b)
    rw [Int.mul_add, Int.mul_assoc, Int.add_assoc]
theorem ev_timesIn (hg : ∀ n m, Cg p (g n m) (n + m)) (x : List Int × Int) : ∀ (b : CQ) {acc : CQ}, (kyF acc).Nodup → (kyF (timesIn g x b acc)).Nodup ∧ ∀ φ, Cg p (evF φ (timesIn g x b acc)) (evF φ acc + x.2 * evF (fun e => φ (zs x.1 e)) b)
  | [], acc, nd => ⟨nd, fun φ => Cg.of (by show evF φ acc = evF φ acc + x.2 * 0; rw [Int.mul_zero, Int.add_zero])⟩
  | y :: b, acc, nd => by
    obtain ⟨h1, h2⟩ := ev_timesIn hg x b (put_nd (k := zs x.1 y.1) (v := g (at0 acc (zs x.1 y.1)) (x.2 * y.2)) nd)
    refine ⟨h1, fun φ => (h2 φ).trans ?_⟩
    have h3 := (put_cg (φ := φ) nd (hg (at0 acc (zs x.1 y.1)) (x.2 * y.2))).add (Cg.refl p (x.2 * evF (fun e => φ (zs x.1 e)) b))
    refine h3.trans (Cg.of ?_)
    show evF φ acc + x.2 * y.2 * φ (zs x.1 y.1) + _ = evF φ acc + x.2 * (y.2 * φ (zs x.1 y.1) + evF (fun e => φ (zs x.1 e)) b)
    rw [Int.mul_add, Int.mul_assoc, Int.add_assoc]
theorem ev_times (hg : ∀ n m, Cg p (g n m) (n + m)) (b : CQ) : ∀ (a : CQ) {acc : CQ}, (kyF acc).Nodup → (kyF (timesF g a b acc)).Nodup ∧ ∀ φ, Cg p (evF φ (timesF g a b acc)) (evF φ acc + evF (fun e => evF (fun e' => φ (zs e e')) b) a)
  | [], acc, nd => ⟨nd, fun φ => Cg.of (by show evF φ acc = evF φ acc + 0; rw [Int.add_zero])⟩
  | x :: a, acc, nd => by
    obtain ⟨n1, h1⟩ := ev_timesIn hg x b nd
    obtain ⟨n2, h2⟩ := ev_times hg b a n1
    refine ⟨n2, fun φ => (h2 φ).trans (((h1 φ).add (Cg.refl p _)).trans (Cg.of ?_))⟩
    show _ = evF φ acc + (x.2 * evF (fun e' => φ (zs x.1 e')) b + evF _ a)
    rw [Int.add_assoc]
theorem plus_key : ∀ {b a : CQ}, k ∈ kyF (plusF g a b) → k ∈ kyF a ∨ k ∈ kyF b
  | [], a, h => .inl h
  | q :: b, a, h => by
    rcases plus_key (b := b) (a := putT a q.1 (g (at0 a q.1) q.2)) h with h | h
    · rcases put_key.mp h with rfl | h
      · exact .inr List.mem_cons_self
      · exact .inl h
    · exact .inr (List.mem_cons_of_mem _ h)
theorem timesIn_key {x : List Int × Int} : ∀ {b acc : CQ}, k ∈ kyF (timesIn g x b acc) → k ∈ kyF acc ∨ ∃ y ∈ kyF b, k = zs x.1 y
  | [], acc, h => .inl h
  | y :: b, acc, h => by
    rcases timesIn_key (b := b) h with h | ⟨z, hz, e⟩
    · rcases put_key.mp h with e | h
      · exact .inr ⟨y.1, List.mem_cons_self, e⟩
      · exact .inl h
    · exact .inr ⟨z, List.mem_cons_of_mem _ hz, e⟩
theorem times_key : ∀ {a acc : CQ}, k ∈ kyF (timesF g a b acc) → k ∈ kyF acc ∨ ∃ x ∈ kyF a, ∃ y ∈ kyF b, k = zs x y
  | [], acc, h => .inl h
  | x :: a, acc, h => by
    rcases times_key (a := a) h with h | ⟨z, hz, y, hy, e⟩
    · rcases timesIn_key h with h | ⟨y, hy, e⟩
      · exact .inl h
      · exact .inr ⟨x.1, List.mem_cons_self, y, hy, e⟩
    · exact .inr ⟨z, List.mem_cons_of_mem _ hz, y, hy, e⟩
def HomK (l : Nat) (d : Int) (k : List Int) : Prop := k.length = l ∧ (∀ x ∈ k, 0 ≤ x) ∧ k.sum = d
abbrev HomF (l : Nat) (d : Int) (T : CQ) : Prop := ∀ k ∈ kyF T, HomK l d k
theorem zs_hom {l : Nat} {d e : Int} : ∀ {x y : List Int}, x.length = y.length → (∀ z ∈ x, 0 ≤ z) → (∀ z ∈ y, 0 ≤ z) → (∀ z ∈ zs x y, 0 ≤ z) ∧ (zs x y).length = x.length ∧ (zs x y).sum = x.sum + y.sum
  | [], [], _, _, _ => ⟨(fun _ h => nomatch h), rfl, rfl⟩
  | u :: x, w :: y, h, h1, h2 => by
    obtain ⟨i, j, q⟩ := zs_hom (l := l) (d := d) (e := e) (x := x) (y := y) (by simpa using h) (fun z hz => h1 z (List.mem_cons_of_mem _ hz)) (fun z hz => h2 z (List.mem_cons_of_mem _ hz))
    have hu := h1 u List.mem_cons_self
    have hw := h2 w List.mem_cons_self
    refine ⟨fun z hz => ?_, congrArg (· + 1) j, ?_⟩
    · rcases List.mem_cons.mp hz with rfl | hz
      · show 0 ≤ u + w
        omega
      · exact i z hz
    · show (u + w) + (zs x y).sum = (u + x.sum) + (w + y.sum)
      omega
theorem HomK.zs {l : Nat} {d e : Int} {x y : List Int} (h : HomK l d x) (h' : HomK l e y) : HomK l (d + e) (zs x y) := by
  obtain ⟨i, j, q⟩ := zs_hom (l := l) (d := d) (e := e) (h.1.trans h'.1.symm) h.2.1 h'.2.1
  exact ⟨j.trans h.1, i, by rw [q, h.2.2, h'.2.2]⟩
theorem HomF.plus {l : Nat} {d : Int} (h : HomF l d a) (h' : HomF l d b) : HomF l d (plusF g a b) := fun k hk => (plus_key hk).elim (h k) (h' k)
theorem HomF.times {l : Nat} {d e : Int} (h : HomF l d a) (h' : HomF l e b) : HomF l (d + e) (timesF g a b []) := fun k hk => (times_key hk).elim (fun z => nomatch z) fun ⟨x, hx, y, hy, z⟩ => z ▸ (h x hx).zs (h' y hy)
theorem HomF.drop {l : Nat} {d : Int} (h : HomF l d T) : HomF l d (dropZ p T) := fun k hk => h k (dropZ_key hk)
def downF (n : Nat) : List Int := (List.range (n + 1)).reverse.map fun i => ((i : Nat) : Int)
def monoF (l d : Nat) : List (List Int) := if l = 2 then (downF d).map fun i => [i, (d : Int) - i] else (downF d).flatMap fun i => (downF (d - i.toNat)).map fun j => [i, j, (d : Int) - i - j]
theorem downF_mem {n : Nat} {x : Int} : x ∈ downF n ↔ 0 ≤ x ∧ x ≤ n := by
  unfold downF
  rw [List.mem_map]
  constructor
  · rintro ⟨i, hi, rfl⟩
    have := List.mem_range.mp (List.mem_reverse.mp hi)
    omega
  · rintro ⟨h1, h2⟩
    exact ⟨x.toNat, List.mem_reverse.mpr (List.mem_range.mpr (by omega)), by omega⟩
theorem mono_mem {l d : Nat} (hl : l = 2 ∨ l = 3) {k : List Int} : k ∈ monoF l d ↔ HomK l d k := by
  unfold monoF
  rcases hl with rfl | rfl
  · rw [if_pos rfl, List.mem_map]
    constructor
    · rintro ⟨i, hi, rfl⟩
      have := downF_mem.mp hi
      refine ⟨rfl, fun x hx => ?_, by show i + ((d : Int) - i + 0) = d; omega⟩
      (rcases List.mem_cons.mp hx with rfl | hx)
      · exact this.1
      · obtain rfl := List.mem_singleton.mp hx
        omega
    · rintro ⟨h1, h2, h3⟩
      match k, h1 with
      | [i, j], _ =>
        have a1 := h2 i List.mem_cons_self
        have a2 := h2 j (List.mem_cons_of_mem _ List.mem_cons_self)
        have e : i + (j + 0) = (d : Int) := h3
        exact ⟨i, downF_mem.mpr ⟨a1, by omega⟩, by rw [show (d : Int) - i = j by omega]⟩
  · rw [if_neg (by decide), List.mem_flatMap]
    constructor
    · rintro ⟨i, hi, hk⟩
      obtain ⟨j, hj, rfl⟩ := List.mem_map.mp hk
      have b1 := downF_mem.mp hi
      have b2 := downF_mem.mp hj
      refine ⟨rfl, fun x hx => ?_, by show i + (j + ((d : Int) - i - j + 0)) = d; omega⟩
      (rcases List.mem_cons.mp hx with rfl | hx)
      · exact b1.1
      · rcases List.mem_cons.mp hx with rfl | hx
        · exact b2.1
        · obtain rfl := List.mem_singleton.mp hx
          omega
    · rintro ⟨h1, h2, h3⟩
      match k, h1 with
      | [i, j, n], _ =>
        have a1 := h2 i List.mem_cons_self
        have a2 := h2 j (List.mem_cons_of_mem _ List.mem_cons_self)
        have a3 := h2 n (List.mem_cons_of_mem _ (List.mem_cons_of_mem _ List.mem_cons_self))
        have e : i + (j + (n + 0)) = (d : Int) := h3
        exact ⟨i, downF_mem.mpr ⟨a1, by omega⟩, List.mem_map.mpr ⟨j, downF_mem.mpr ⟨a2, by omega⟩, by rw [show (d : Int) - i - j = n by omega]⟩⟩
/-- degrees whose tables are short enough -/
def lowD (l d : Nat) : Prop := (l = 2 ∧ d ≤ 40) ∨ (l = 3 ∧ d ≤ 30)
theorem lowD.l {l d : Nat} (h : lowD l d) : l = 2 ∨ l = 3 := h.imp And.left And.left
theorem mono_few : (∀ d < 41, (monoF 2 d).length ≤ 1000) ∧ ∀ d < 31, (monoF 3 d).length ≤ 1000 := by decide +kernel
theorem hom_few {l d : Nat} (h : lowD l d) (nd : (kyF T).Nodup) (hT : HomF l d T) : T.length ≤ 1000 := by
  have hs : kyF T ⊆ monoF l d := fun k hk => (mono_mem h.l).mpr (hT k hk)
  have := nd.length_le_of_subset hs
  rw [List.length_map] at this
  refine Nat.le_trans this ?_
  rcases h with ⟨rfl, hd⟩ | ⟨rfl, hd⟩
  · exact mono_few.1 d (by omega)
  · exact mono_few.2 d (by omega)
abbrev CoF (s : Nat) (T : CQ) : Prop := ∀ q ∈ T, q.2.natAbs ≤ 2 ^ s
theorem at0_le {s : Nat} (h : CoF s T) : (at0 T k).natAbs ≤ 2 ^ s := by
  show ((getT T k).getD 0).natAbs ≤ _
  by_cases hk : k ∈ kyF T
  · obtain ⟨n, e, hm⟩ := getT_mem hk
    rw [e]
    exact h _ hm
  · rw [at0_none hk]
    exact Nat.zero_le _
theorem ev_le {s M : Nat} (h : CoF s T) (hφ : ∀ e, (φ e).natAbs ≤ M) : (evF φ T).natAbs ≤ T.length * (2 ^ s * M) := by
  induction T with
  | nil => exact Nat.zero_le _
  | cons q T ih =>
    have h1 := ih fun r hr => h r (List.mem_cons_of_mem _ hr)
    have h2 : (q.2 * φ q.1).natAbs ≤ 2 ^ s * M := by
      rw [Int.natAbs_mul]
      exact Nat.mul_le_mul (h q List.mem_cons_self) (hφ _)
    have h3 : (q.2 * φ q.1 + evF φ T).natAbs ≤ (q.2 * φ q.1).natAbs + (evF φ T).natAbs := Int.natAbs_add_le _ _
    show (q.2 * φ q.1 + evF φ T).natAbs ≤ (T.length + 1) * (2 ^ s * M)
    rw [Nat.add_mul, Nat.one_mul]
    omega
/-- a clean table whose sums, up to the prime, are small -/
theorem co_of {s : Nat} (h0 : 0 ≤ p) (hp : p ≤ 19) (h5 : 5 ≤ s) (c : CleanF p T) (h : p = 0 → ∀ k, (evF (fun e => if e = k then 1 else 0) T).natAbs ≤ 2 ^ s) : CoF s T := fun q hq => by
  by_cases z : p = 0
  · have := h z q.1
    rw [ev_at c.nd, show at0 T q.1 = q.2 by show (getT T q.1).getD 0 = _; rw [getT_nd c.nd hq]; rfl] at this
    exact this
  · have := c.fit z q hq
    have g : 2 ^ 5 ≤ 2 ^ s := Nat.pow_le_pow_right (by decide) h5
    omega
end
end TD
set_option Elab.async false
set_option linter.all false
set_option maxRecDepth 100000
set_option maxHeartbeats 1000100
namespace TD
open PySem L2
section
variable {φ ψ : List Int → Int} {T U a b c : CQ} {k : List Int} {p v n m f t : Int} {g : Int → Int → Int} {l d e s r : Nat}
/-- the terms in another order -/
abbrev inOrd (ks : List (List Int)) (T : CQ) : CQ := ks.map fun k => (k, at0 T k)
def descF (T : CQ) : CQ := inOrd (sortX (kyF T)).reverse T
def ascF (T : CQ) : CQ := inOrd (sortX (kyF T)) T
theorem inOrd_self (nd : (kyF T).Nodup) : inOrd (kyF T) T = T := by
  rw [inOrd, List.map_map]
  conv => rhs; rw [← List.map_id T]
  refine List.map_congr_left fun q hq => ?_
  show (q.1, (getT T q.1).getD 0) = q
  rw [getT_nd nd hq]
  rfl
theorem inOrd_perm {ks : List (List Int)} (nd : (kyF T).Nodup) (h : ks.Perm (kyF T)) : (inOrd ks T).Perm T := by
  have := h.map fun k => ((k, at0 T k) : List Int × Int)
  rwa [show (kyF T).map (fun k => ((k, at0 T k) : List Int × Int)) = T from inOrd_self nd] at this
theorem desc_perm (nd : (kyF T).Nodup) : (descF T).Perm T := inOrd_perm nd ((List.reverse_perm _).trans (sortX_perm _))
theorem asc_perm (nd : (kyF T).Nodup) : (ascF T).Perm T := inOrd_perm nd (sortX_perm _)
/-- what a table of a form of l letters and the degree d is -/
structure FormOk (p : Int) (l d s : Nat) (T : CQ) : Prop where
  clean : CleanF p T
  hom : HomF l (d : Int) T
  co : CoF s T
theorem FormOk.perm (h : FormOk p l d s T) (e : U.Perm T) : FormOk p l d s U := ⟨⟨(e.map (·.1)).nodup_iff.mpr h.clean.nd, fun q hq => h.clean.ne q (e.mem_iff.mp hq), fun hp q hq => h.clean.fit hp q (e.mem_iff.mp hq)⟩, fun k hk => h.hom k ((e.map (·.1)).mem_iff.mp hk), fun q hq => h.co q (e.mem_iff.mp hq)⟩
theorem FormOk.desc (h : FormOk p l d s T) : FormOk p l d s (descF T) := h.perm (desc_perm h.clean.nd)
theorem FormOk.asc (h : FormOk p l d s T) : FormOk p l d s (ascF T) := h.perm (asc_perm h.clean.nd)
theorem FormOk.nil : FormOk p l d s [] := ⟨.nil p, (fun _ z => nomatch z), (fun _ z => nomatch z)⟩
theorem FormOk.few (h : FormOk p l d s T) (hd : lowD l d) : T.length ≤ 1000 := hom_few hd h.clean.nd h.hom
theorem FormOk.wider (h : FormOk p l d s T) (hs : s ≤ r) : FormOk p l d r T := ⟨h.clean, h.hom, fun q hq => Nat.le_trans (h.co q hq) (Nat.pow_le_pow_right (by decide) hs)⟩
theorem FormOk.any (h : FormOk p l d s []) : FormOk p l e s [] := .nil
theorem ev_desc (nd : (kyF T).Nodup) (p : Int) : EqF p (descF T) T := fun φ => Cg.of (evF_perm (desc_perm nd))
theorem ev_asc (nd : (kyF T).Nodup) (p : Int) : EqF p (ascF T) T := fun φ => Cg.of (evF_perm (asc_perm nd))
theorem EqF.trans (h : EqF p T U) (h' : EqF p U a) : EqF p T a := fun φ => (h φ).trans (h' φ)
theorem EqF.symm (h : EqF p T U) : EqF p U T := fun φ => (h φ).symm
def addT (p : Int) (a b : CQ) : CQ := dropZ p (plusF (· + ·) a b)
def scaT (p : Int) (a : CQ) (t : Int) : CQ := dropZ p (a.map fun q => (q.1, q.2 * t))
def mulT (p : Int) (a b : CQ) : CQ := dropZ p (timesF (· + ·) a b [])
theorem sca_keys : kyF (a.map fun q => (q.1, q.2 * t)) = kyF a := by
  rw [kyF, kyF, List.map_map]
  rfl
theorem ev_sca0 : ∀ a : CQ, evF φ (a.map fun q => (q.1, q.2 * t)) = t * evF φ a
  | [] => (Int.mul_zero t).symm
  | q :: a => by
    show q.2 * t * φ q.1 + evF φ _ = t * (q.2 * φ q.1 + evF φ a)
    rw [ev_sca0 a, Int.mul_add, Int.mul_comm q.2 t, Int.mul_assoc]
theorem ev_add (nd : (kyF a).Nodup) (φ : List Int → Int) : Cg p (evF φ (addT p a b)) (evF φ a + evF φ b) := by
  have h := (ev_plus (p := p) (f := 1) (g := (· + ·)) (fun n m => Cg.of (by show n + m = n + 1 * m; rw [Int.one_mul])) b nd).2 φ
  rw [Int.one_mul] at h
  exact (ev_dropZ p _ φ).trans h
theorem ev_sca (φ : List Int → Int) : Cg p (evF φ (scaT p a t)) (t * evF φ a) := (ev_dropZ p _ φ).trans (Cg.of (ev_sca0 a))
theorem ev_mul (φ : List Int → Int) : Cg p (evF φ (mulT p a b)) (evF (fun e => evF (fun e' => φ (zs e e')) b) a) := by
  have h := (ev_times (p := p) (g := (· + ·)) (fun n m => Cg.refl p _) b a (acc := []) List.nodup_nil).2 φ
  rw [show evF φ [] = 0 from rfl, Int.zero_add] at h
  exact (ev_dropZ p _ φ).trans h
theorem plus_nd (nd : (kyF a).Nodup) : (kyF (plusF (· + ·) a b)).Nodup := (ev_plus (p := 0) (f := 1) (g := (· + ·)) (fun n m => Cg.of (by show n + m = n + 1 * m; rw [Int.one_mul])) b nd).1
theorem times_nd : (kyF (timesF (· + ·) a b [])).Nodup := (ev_times (p := 0) (g := (· + ·)) (fun n m => Cg.refl 0 _) b a (acc := []) List.nodup_nil).1
theorem eq0 (h : Cg 0 n m) : n = m := by
  obtain ⟨c, e⟩ := h
  rw [Int.zero_mul] at e
  omega
theorem FormOk.add (h0 : 0 ≤ p) (hp : p ≤ 19) (h5 : 5 ≤ s) (h : FormOk p l d s a) (h' : FormOk p l d s b) : FormOk p l d (s + 1) (addT p a b) := by
  have c : CleanF p (addT p a b) := dropZ_clean h0 (plus_nd h.clean.nd)
  refine ⟨c, (h.hom.plus h'.hom).drop, co_of h0 hp (by omega) c fun z k => ?_⟩
  have e := ev_add (p := p) (b := b) h.clean.nd fun e => if e = k then 1 else 0
  rw [z] at e
  have e := eq0 e
  rw [z, e, ev_at h.clean.nd, ev_at h'.clean.nd]
  have b1 := at0_le (k := k) h.co
  have b2 := at0_le (k := k) h'.co
  have b3 := Int.natAbs_add_le (at0 a k) (at0 b k)
  have b4 : 2 ^ (s + 1) = 2 * 2 ^ s := by rw [Nat.pow_succ, Nat.mul_comm]
  omega
theorem FormOk.sca (h0 : 0 ≤ p) (hp : p ≤ 19) (h5 : 5 ≤ s + r) (h : FormOk p l d s a) (ht : t.natAbs ≤ 2 ^ r) : FormOk p l d (s + r) (scaT p a t) := by
  have c : CleanF p (scaT p a t) := dropZ_clean h0 (by rw [sca_keys]; exact h.clean.nd)
  refine ⟨c, HomF.drop (by rw [HomF, sca_keys]; exact h.hom), co_of h0 hp h5 c fun z k => ?_⟩
  have e := ev_sca (p := p) (a := a) (t := t) fun e => if e = k then 1 else 0
  rw [z] at e
  have e := eq0 e
  rw [z, e, ev_at h.clean.nd, Int.natAbs_mul, Nat.pow_add, Nat.mul_comm]
  exact Nat.mul_le_mul (at0_le h.co) ht
theorem FormOk.mul (h0 : 0 ≤ p) (hp : p ≤ 19) (h : FormOk p l d s a) (h' : FormOk p l e r b) (hd : lowD l d) (he : lowD l e) : FormOk p l (d + e) (s + r + 20) (mulT p a b) := by
  have c : CleanF p (mulT p a b) := dropZ_clean h0 times_nd
  refine ⟨c, ?_, co_of h0 hp (by omega) c fun z k => ?_⟩
  · have := (h.hom.times (g := (· + ·)) h'.hom).drop (p := p)
    rwa [← Int.natCast_add] at this
  have q := ev_mul (p := p) (a := a) (b := b) fun e => if e = k then 1 else 0
  rw [z] at q
  have q := eq0 q
  rw [z, q]
  have b1 : ∀ e' : List Int, (evF (fun f => if zs e' f = k then (1 : Int) else 0) b).natAbs ≤ 1000 * (2 ^ r * 1) := fun e' => Nat.le_trans (ev_le h'.co fun f => by show (if zs e' f = k then (1 : Int) else 0).natAbs ≤ 1; split <;> decide) (Nat.mul_le_mul (h'.few he) (Nat.le_refl _))
  have b2 := Nat.le_trans (ev_le h.co b1) (Nat.mul_le_mul (h.few hd) (Nat.le_refl _))
  refine Nat.le_trans b2 ?_
  rw [show 2 ^ (s + r + 20) = 2 ^ s * 2 ^ r * 2 ^ 20 by rw [Nat.pow_add, Nat.pow_add]]
  have w : ∀ A B : Nat, 1000 * (A * (1000 * (B * 1))) = A * B * 1000000 := fun A B => by
    rw [Nat.mul_one, Nat.mul_left_comm A, ← Nat.mul_assoc 1000, Nat.mul_comm (A * B)]
  rw [w]
  exact Nat.mul_le_mul_left _ (by decide)
theorem zs_comm (x y : List Int) : zs x y = zs y x := by
  rw [zs, zs, List.zipWith_comm]
  congr 1
  funext a b
  exact Int.add_comm b a
theorem zs_assoc : ∀ x y z : List Int, zs (zs x y) z = zs x (zs y z)
  | [], _, _ => rfl
  | _ :: _, [], z => by cases z <;> rfl
  | _ :: _, _ :: _, [] => rfl
  | x :: xs, y :: ys, z :: zs' => by
    show (x + y + z) :: zs (zs xs ys) zs' = (x + (y + z)) :: zs xs (zs ys zs')
    rw [zs_assoc, Int.add_assoc]
/-- a sum of sums under a map of two places -/
abbrev ev2 (ψ : List Int → List Int → Int) (a b : CQ) : Int := evF (fun e => evF (fun e' => ψ e e') b) a
theorem ev_cg : ∀ {a : CQ}, (∀ e, Cg p (φ e) (ψ e)) → Cg p (evF φ a) (evF ψ a)
  | [], _ => Cg.refl p _
  | q :: a, h => ((h q.1).mul q.2).add (ev_cg h)
end
end TD
set_option Elab.async false
set_option linter.all false
set_option maxRecDepth 100000
set_option maxHeartbeats 1100000
namespace K05
open PySem L2 TD PySem.Spec PyProof.Rows
def top (i : Nat) : Stmt := PySem.Challenge.pw_tangentrows_k05_whole_sums_and_products.main.body.getD i (.Pass ⟨0, 0, 0, 0⟩)
/-- a statement of a class's body -/
def inCls (st : Stmt) (j : Nat) : Stmt := match st with
  | .ClassDef _ _ _ rows _ _ _ _ _ _ _ => rows.getD j (.Pass ⟨0, 0, 0, 0⟩)
  | _ => .Pass ⟨0, 0, 0, 0⟩
variable [TabW]
structure Cn where
  tg : Tok
  td : Tok
  ts : Tok
  aP : Addr
  cl : Addr
structure Txt (K : PySem.W.Frag) (mg : Str → Option Value) (Y : Cn) : Prop where
  z_abs : mg "abs" = none
  z_all : mg "all" = none
  z_bool : mg "bool" = none
  z_dict : mg "dict" = none
  z_int : mg "int" = none
  z_isinstance : mg "isinstance" = none
  z_iter : mg "iter" = none
  z_len : mg "len" = none
  z_list : mg "list" = none
  z_max : mg "max" = none
  z_min : mg "min" = none
  z_range : mg "range" = none
  z_sorted : mg "sorted" = none
  z_str : mg "str" = none
  z_sum : mg "sum" = none
  z_tuple : mg "tuple" = none
  z_zip : mg "zip" = none
  ins : InsK K Y.cl
  k_Form : mg "Form" = some (.ref Y.cl)
  iself : PySem.W.kitOne K (.ref Y.cl) (.ref Y.cl) = some true
  kI : PySem.W.kitOne K (.type "int") (.ref Y.cl) = some false
  nx : PySem.W.findIn K (.ref Y.cl) "__ne__" = some (some (.builtin "object.__ne__"))
  sf : PySem.W.selfFirst K Y.cl = true
  im : IntR K Y.cl "mul"
  m_prime : NoAttr K Y.cl "_prime"
  m_letters : NoAttr K Y.cl "_letters"
  m_table : NoAttr K Y.cl "_table"
  c_TOO_GREAT : mg "TOO_GREAT" = some (.int Num.big Y.tg)
  c_MAX_DEGREE : mg "MAX_DEGREE" = some (.int 40 Y.td)
  c_SPAN : mg "SPAN" = some (.int 65536 Y.ts)
  c_PRIMES : mg "PRIMES" = some (.ref Y.aP)
  q_PRIMES : ∀ H, SqT K H Y.aP (Num.primes.map V.int)
/-- functions of one datum, of two, of three: how the data look, when, what comes back -/
def f1 {α : Type} (a : α → Dt) (P : α → Prop) (g : α → Dt) : FR := fun as β r β' => ∃ x, as = [.imm (a x)] ∧ P x ∧ r = g x ∧ β = none ∧ β' = none
def f2 {α α' : Type} (a : α → Dt) (a' : α' → Dt) (P : α → α' → Prop) (g : α → α' → Dt) : FR := fun as β r β' => ∃ x y, as = [.imm (a x), .imm (a' y)] ∧ P x y ∧ r = g x y ∧ β = none ∧ β' = none
def f3 {α α' α'' : Type} (a : α → Dt) (a' : α' → Dt) (a'' : α'' → Dt) (P : α → α' → α'' → Prop) (g : α → α' → α'' → Dt) : FR := fun as β r β' => ∃ x y z, as = [.imm (a x), .imm (a' y), .imm (a'' z)] ∧ P x y z ∧ r = g x y z ∧ β = none ∧ β' = none
theorem st_sq {K : PySem.W.Frag} {tu tw : TS} {ρ ρ1 : Rho} {β β2 : Bag} {o : Out} (h : StB K tu ρ β (.nx ρ1) β) (h' : StB K tw ρ1 β o β2) : StB K (tSeq tu tw) ρ β o β2 := st_seq h h'
abbrev anyD : Dt → Dt := fun d => d
section
variable {K : PySem.W.Frag} {ρ : Rho} {β β1 β2 β3 : Bag} {ta tb tc : TE} {E : XK} {α α' α'' : Type} {a : α → Dt} {a' : α' → Dt} {a'' : α'' → Dt} {x : α} {y : α'} {z : α''}
theorem c_f1 {P : α → Prop} {g : α → Dt} (h : EvB K ta ρ β (a x) β1) (hp : P x) : EvB K (tCall (spR K (f1 a P g)) [] E (tCons ta tNil)) ρ β (g x) β1 := d_call0 (a_con h a_nil) ⟨x, rfl, hp, rfl, rfl, rfl⟩
theorem c_f2 {P : α → α' → Prop} {g : α → α' → Dt} (h : EvB K ta ρ β (a x) β1) (h' : EvB K tb ρ β1 (a' y) β2) (hp : P x y) : EvB K (tCall (spR K (f2 a a' P g)) [] E (tCons ta (tCons tb tNil))) ρ β (g x y) β2 := d_call0 (a_con h (a_con h' a_nil)) ⟨x, y, rfl, hp, rfl, rfl, rfl⟩
theorem c_f3 {P : α → α' → α'' → Prop} {g : α → α' → α'' → Dt} (h : EvB K ta ρ β (a x) β1) (h' : EvB K tb ρ β1 (a' y) β2) (h'' : EvB K tc ρ β2 (a'' z) β3) (hp : P x y z) : EvB K (tCall (spR K (f3 a a' a'' P g)) [] E (tCons ta (tCons tb (tCons tc tNil)))) ρ β (g x y z) β3 := d_call0 (a_con h (a_con h' (a_con h'' a_nil))) ⟨x, y, z, rfl, hp, rfl, rfl, rfl⟩
end
local macro_rules | `(tactic| walk_at "side") => `(tactic| first | trivial | assumption | omega | rfl | decide | (refine .inl ?_; walk_at "side") | (refine .inr ?_; walk_at "side") | (refine And.intro ?_ ?_ <;> walk_at "side"))
local macro_rules | `(tactic| walk_at "ev") => `(tactic| first
  | ((with_reducible refine' d_var ?h1); (case h1 => exact rfl))
  | with_reducible exact d_int | with_reducible exact d_bl | with_reducible exact d_non | with_reducible exact d_str
  | ((with_reducible refine' d_ref ?h1); (case h1 => assumption))
  | ((with_reducible refine' d_add ?e1 ?e2); (case e1 => walk_at "ev"); (case e2 => walk_at "ev"))
  | ((with_reducible refine' d_sub ?e1 ?e2); (case e1 => walk_at "ev"); (case e2 => walk_at "ev"))
  | ((with_reducible refine' d_lt ?e1 ?e2); (case e1 => walk_at "ev"); (case e2 => walk_at "ev"))
  | ((with_reducible refine' d_le ?e1 ?e2); (case e1 => walk_at "ev"); (case e2 => walk_at "ev"))
  | ((with_reducible refine' d_gt ?e1 ?e2); (case e1 => walk_at "ev"); (case e2 => walk_at "ev"))
  | ((with_reducible refine' d_ge ?e1 ?e2); (case e1 => walk_at "ev"); (case e2 => walk_at "ev"))
  | ((with_reducible refine' d_eqI ?e1 ?e2); (case e1 => walk_at "ev"); (case e2 => walk_at "ev"))
  | ((with_reducible refine' d_neI ?e1 ?e2); (case e1 => walk_at "ev"); (case e2 => walk_at "ev"))
  | ((with_reducible refine' d_eqS ?e1 ?e2); (case e1 => walk_at "ev"); (case e2 => walk_at "ev"))
  | ((with_reducible refine' d_neS ?e1 ?e2); (case e1 => walk_at "ev"); (case e2 => walk_at "ev"))
  | ((with_reducible refine' d_neg ?e1); (case e1 => walk_at "ev"))
  | ((with_reducible refine' d_mul ?e1 ?e2 ?c1); (case e1 => walk_at "ev"); (case e2 => walk_at "ev"); (case c1 => walk_at "side"))
  | ((with_reducible refine' d_mod ?e1 ?e2 ?c1); (case e1 => walk_at "ev"); (case e2 => walk_at "ev"); (case c1 => walk_at "side"))
  | ((with_reducible refine' d_div ?e1 ?e2 ?c1); (case e1 => walk_at "ev"); (case e2 => walk_at "ev"); (case c1 => walk_at "side"))
  | ((with_reducible refine' d_pow ?e1 ?e2 ?c1); (case e1 => walk_at "ev"); (case e2 => walk_at "ev"); (case c1 => walk_at "side"))
  | ((with_reducible refine' d_fdiv ?e1 ?e2 ?c1); (case e1 => walk_at "ev"); (case e2 => walk_at "ev"); (case c1 => walk_at "side"))
  | ((with_reducible refine' d_eqTT ?e1 ?e2); (case e1 => walk_at "ev"); (case e2 => walk_at "ev"))
  | ((with_reducible refine' d_neTT ?e1 ?e2); (case e1 => walk_at "ev"); (case e2 => walk_at "ev"))
  | ((with_reducible refine' d_eqLL ?e1 ?e2); (case e1 => walk_at "ev"); (case e2 => walk_at "ev"))
  | ((with_reducible refine' d_neLL ?e1 ?e2); (case e1 => walk_at "ev"); (case e2 => walk_at "ev"))
  | ((with_reducible refine' d_anyT ?e1); (case e1 => walk_at "ev"))
  | ((with_reducible refine' d_chLtLt ?e1 ?e2 ?e3); (case e1 => walk_at "ev"); (case e2 => walk_at "ev"); (case e3 => walk_at "ev"))
  | ((with_reducible refine' d_chLeLt ?e1 ?e2 ?e3); (case e1 => walk_at "ev"); (case e2 => walk_at "ev"); (case e3 => walk_at "ev"))
  | ((with_reducible refine' d_chLeLe ?e1 ?e2 ?e3); (case e1 => walk_at "ev"); (case e2 => walk_at "ev"); (case e3 => walk_at "ev"))
  | ((with_reducible refine' d_abs ?e1); (case e1 => walk_at "ev"))
  | ((with_reducible refine' d_intI ?e1); (case e1 => walk_at "ev"))
  | ((with_reducible refine' d_intB ?e1); (case e1 => walk_at "ev"))
  | ((with_reducible refine' d_max2 ?e1 ?e2); (case e1 => walk_at "ev"); (case e2 => walk_at "ev"))
  | ((with_reducible refine' d_min2 ?e1 ?e2); (case e1 => walk_at "ev"); (case e2 => walk_at "ev"))
  | ((with_reducible refine' d_gcd ?e1 ?e2); (case e1 => walk_at "ev"); (case e2 => walk_at "ev"))
  | ((with_reducible refine' d_isInt ?e1); (case e1 => walk_at "ev"))
  | ((with_reducible refine' d_isBool ?e1); (case e1 => walk_at "ev"))
  | ((with_reducible refine' d_isTup ?e1); (case e1 => walk_at "ev"))
  | ((with_reducible refine' d_isStr ?e1); (case e1 => walk_at "ev"))
  | ((with_reducible refine' d_reprB ?e1); (case e1 => walk_at "ev"))
  | ((with_reducible refine' d_len ?e1 ?c1); (case e1 => walk_at "ev"); (case c1 => first | exact .inl rfl | exact .inr rfl))
  | ((with_reducible refine' d_listOf ?e1 ?c1); (case e1 => walk_at "ev"); (case c1 => first | exact .inl rfl | exact .inr rfl))
  | ((with_reducible refine' d_tupleOf ?e1); (case e1 => walk_at "ev"))
  | ((with_reducible refine' d_sum ?e1); (case e1 => walk_at "ev"))
  | ((with_reducible refine' d_not ?e1); (case e1 => walk_at "ev"))
  | ((with_reducible refine' d_andF (EvB.to ?e1 ?q1)); (case e1 => walk_at "ev"); (case q1 => exact rfl))
  | ((with_reducible refine' d_andT (EvB.to ?e1 ?q1) ?e2); (case e1 => walk_at "ev"); (case q1 => exact rfl); (case e2 => walk_at "ev"))
  | ((with_reducible refine' d_and ?e1 ?e2); (case e1 => walk_at "ev"); (case e2 => intro hp; walk_at "ev"))
  | ((with_reducible refine' d_orT (EvB.to ?e1 ?q1)); (case e1 => walk_at "ev"); (case q1 => exact rfl))
  | ((with_reducible refine' d_orF (EvB.to ?e1 ?q1) ?e2); (case e1 => walk_at "ev"); (case q1 => exact rfl); (case e2 => walk_at "ev"))
  | ((with_reducible refine' d_or ?e1 ?e2); (case e1 => walk_at "ev"); (case e2 => intro hp; walk_at "ev"))
  | ((with_reducible refine' d_inK ?h1 ?e1); (case h1 => assumption); (case e1 => walk_at "ev"))
  | ((with_reducible refine' d_inI ?e1 ?e2 ?c1); (case e1 => walk_at "ev"); (case e2 => walk_at "ev"); (case c1 => first | exact .inl rfl | exact .inr rfl))
  | ((with_reducible refine' d_tup ?e1 ?c1 ?c2); (case e1 => walk_at "ea"); (case c1 => exact rfl); (case c2 => walk_at "side"))
  | ((with_reducible refine' d_lst ?e1 ?c1 ?c2); (case e1 => walk_at "ea"); (case c1 => exact rfl); (case c2 => walk_at "side"))
  | ((with_reducible refine' c_f1 ?e1 ?c1); (case e1 => walk_at "ev"); (case c1 => walk_at "side"))
  | ((with_reducible refine' c_f2 ?e1 ?e2 ?c1); (case e1 => walk_at "ev"); (case e2 => walk_at "ev"); (case c1 => walk_at "side"))
  | ((with_reducible refine' c_f3 ?e1 ?e2 ?e3 ?c1); (case e1 => walk_at "ev"); (case e2 => walk_at "ev"); (case e3 => walk_at "ev"); (case c1 => walk_at "side")))
local macro_rules | `(tactic| walk_at "ea") => `(tactic| first
  | with_reducible exact a_nil
  | ((with_reducible refine' a_con ?e1 ?e2); (case e1 => walk_at "ev"); (case e2 => walk_at "ea")))
local macro_rules | `(tactic| walk_at "tt") => `(tactic| first
  | ((with_reducible refine' t_test ?e1); (case e1 => walk_at "ev"))
  | ((with_reducible refine' t_B ?e1); (case e1 => walk_at "ev"))
  | ((with_reducible refine' t_not ?e1); (case e1 => walk_at "tt"))
  | ((with_reducible refine' t_andF (TtB.to ?e1 ?q1)); (case e1 => walk_at "tt"); (case q1 => exact rfl))
  | ((with_reducible refine' t_andT (TtB.to ?e1 ?q1) ?e2); (case e1 => walk_at "tt"); (case q1 => exact rfl); (case e2 => walk_at "tt"))
  | ((with_reducible refine' t_and ?e1 ?e2); (case e1 => walk_at "tt"); (case e2 => intro hp; walk_at "tt"))
  | ((with_reducible refine' t_orT (TtB.to ?e1 ?q1)); (case e1 => walk_at "tt"); (case q1 => exact rfl))
  | ((with_reducible refine' t_orF (TtB.to ?e1 ?q1) ?e2); (case e1 => walk_at "tt"); (case q1 => exact rfl); (case e2 => walk_at "tt"))
  | ((with_reducible refine' t_or ?e1 ?e2); (case e1 => walk_at "tt"); (case e2 => intro hp; walk_at "tt"))
  | ((with_reducible refine' t_truthI ?e1); (case e1 => walk_at "ev")))
local macro_rules | `(tactic| walk_at "to") => `(tactic| (refine' EvB.to ?e ?q; (case e => walk_at "ev")))
local macro_rules | `(tactic| walk_at "ret") => `(tactic| (refine' .ret (st_ret (EvB.to ?e ?q)); (case e => walk_at "ev")))
abbrev s_is_integer : Stmt := top 12
theorem sc_is_integer : FnScope ["value"] ["value"] (defScope s_is_integer) := ⟨rfl, rfl, rfl, by decide +kernel, rfl, by decide +kernel, by decide +kernel⟩
abbrev R_is_integer : FR := f1 anyD (fun _ => True) fun d => .bool (Num.isInteger d)
theorem ok_is_integer {P : Program} {w : World} {K : PySem.W.Frag} {mg : Str → Option Value} {base : Heap} {Y : Cn} (F : DefAt K "is_integer" s_is_integer) (hX : K.In base) (hG : base.Ns mainGlobals mg) (T : Txt K mg Y)  : FnG P w K mg base 1 "is_integer" ["value"] R_is_integer := by
  have nd := sc_is_integer.nd
  refine fn_mk F hX hG sc_is_integer (fun as β r β' h => by first | exact FR.len h | (obtain ⟨_, rfl, _⟩ := h; rfl) | (obtain ⟨_, _, rfl, _⟩ := h; rfl) | (obtain ⟨_, _, _, rfl, _⟩ := h; rfl) | (obtain ⟨_, _, _, _, rfl, _⟩ := h; rfl) | (obtain ⟨_, _, _, _, _, rfl, _⟩ := h; rfl)) (fun _ _ _ _ _ _ _ us hl => match us, hl with | [_], _ => rfl) (fun f cdv A outer s H E hr => ⟨_, (pss_one (ps_ret (pe_and (pe_callB (call_isiK (K := K)) (by rfl) T.z_isinstance bo_isinstance (pa_cons (pv 0) (pa_cons (pe_bltn (v := .ty "int") (by rfl) T.z_int bo_int rfl) pa_nil))) (pe_and (pe_not (pe_callB (call_isiK (K := K)) (by rfl) T.z_isinstance bo_isinstance (pa_cons (pv 0) (pa_cons (pe_bltn (v := .ty "bool") (by rfl) T.z_bool bo_bool rfl) pa_nil)))) (pe_one (pe_chain op_lt op_lt (pe_un un_neg (pe_glob (v := .int _) (by rfl) T.c_TOO_GREAT ⟨_, rfl⟩)) (pv 0) (pe_glob (v := .int _) (by rfl) T.c_TOO_GREAT ⟨_, rfl⟩))))))), fun as β r β' hR => ?_⟩)
  obtain ⟨d, rfl, _, rfl, rfl, rfl⟩ := hR
  dsimp only [cxOf, Cx.nox, Cx.wish]
  cases d with
  | none => walk_at "ret"; rfl
  | int i => walk_at "ret"; rfl
  | _ => walk_at "ret"; rfl
abbrev s_is_prime : Stmt := top 13
theorem sc_is_prime : FnScope ["value"] ["value"] (defScope s_is_prime) := ⟨rfl, rfl, rfl, by decide +kernel, rfl, by decide +kernel, by decide +kernel⟩
abbrev R_is_prime : FR := f1 anyD (fun _ => True) fun d => .bool (Num.isPrime d)
theorem ok_is_prime {P : Program} {w : World} {K : PySem.W.Frag} {mg : Str → Option Value} {base : Heap} {Y : Cn} (F : DefAt K "is_prime" s_is_prime) (hX : K.In base) (hG : base.Ns mainGlobals mg) (T : Txt K mg Y) (G_is_integer : FnG P w K mg base 1 "is_integer" ["value"] R_is_integer) : FnG P w K mg base 2 "is_prime" ["value"] R_is_prime := by
  have nd := sc_is_prime.nd
  refine fn_mk F hX hG sc_is_prime (fun as β r β' h => by first | exact FR.len h | (obtain ⟨_, rfl, _⟩ := h; rfl) | (obtain ⟨_, _, rfl, _⟩ := h; rfl) | (obtain ⟨_, _, _, rfl, _⟩ := h; rfl) | (obtain ⟨_, _, _, _, rfl, _⟩ := h; rfl) | (obtain ⟨_, _, _, _, _, rfl, _⟩ := h; rfl)) (fun _ _ _ _ _ _ _ us hl => match us, hl with | [_], _ => rfl) (fun f cdv A outer s H E hr => ⟨_, (pss_one (ps_ret (pe_and (pe_fn G_is_integer (hr.mono (by decide)) (pa_cons (pv 0) pa_nil)) (pe_one (pe_or (pe_cmpR op_eq (pv 0) pe_int (nomark _)) (pe_one (pe_cmpR op_in_seq (pv 0) (pe_glob (v := .ref _) (by rfl) T.c_PRIMES rfl) (by rfl)))))))), fun as β r β' hR => ?_⟩)
  obtain ⟨d, rfl, _, rfl, rfl, rfl⟩ := hR
  dsimp only [cxOf, Cx.nox, Cx.wish]
  have qP := T.q_PRIMES
  cases d with
  | int p => walk_at "ret"; rw [Num.isPrime_int]
  | none => walk_at "ret"; rfl
  | _ => walk_at "ret"; rfl
abbrev s_need_prime : Stmt := top 14
theorem sc_need_prime : FnScope ["prime"] ["prime"] (defScope s_need_prime) := ⟨rfl, rfl, rfl, by decide +kernel, rfl, by decide +kernel, by decide +kernel⟩
abbrev R_need_prime : FR := f1 anyD (fun d => Num.isPrime d = true) fun _ => .none
theorem ok_need_prime {P : Program} {w : World} {K : PySem.W.Frag} {mg : Str → Option Value} {base : Heap} {Y : Cn} (F : DefAt K "need_prime" s_need_prime) (hX : K.In base) (hG : base.Ns mainGlobals mg) (T : Txt K mg Y) (G_is_prime : FnG P w K mg base 2 "is_prime" ["value"] R_is_prime) : FnG P w K mg base 3 "need_prime" ["prime"] R_need_prime := by
  have nd := sc_need_prime.nd
  refine fn_mk F hX hG sc_need_prime (fun as β r β' h => by first | exact FR.len h | (obtain ⟨_, rfl, _⟩ := h; rfl) | (obtain ⟨_, _, rfl, _⟩ := h; rfl) | (obtain ⟨_, _, _, rfl, _⟩ := h; rfl) | (obtain ⟨_, _, _, _, rfl, _⟩ := h; rfl) | (obtain ⟨_, _, _, _, _, rfl, _⟩ := h; rfl)) (fun _ _ _ _ _ _ _ us hl => match us, hl with | [_], _ => rfl) (fun f cdv A outer s H E hr => ⟨_, (pss_one (ps_if (pt_not (pt_val (pe_fn G_is_prime (hr.mono (by decide)) (pa_cons (pv 0) pa_nil)))) (pss_one ps_never) pss_nil)), fun as β r β' hR => ?_⟩)
  obtain ⟨d, rfl, hd, rfl, rfl, rfl⟩ := hR
  dsimp only [cxOf, Cx.nox, Cx.wish]
  have hc : EvB K (tCall (spR K R_is_prime) [] E0 (tCons (tVar 0) tNil)) (startR ["prime"] [.imm d]) none (.bool (Num.isPrime d)) none := c_f1 (d_var rfl) trivial
  exact .fall _ (st_ifF ((t_not (t_B hc)).to (by rw [hd] <;> rfl)) st_next) rfl
theorem int_is {n : Int} (h : -Num.big < n ∧ n < Num.big) : Num.isInteger (.int n) = true := by
  show (decide _ && decide _) = true
  rw [decide_eq_true h.1, decide_eq_true h.2]
  rfl
abbrev s_need_between : Stmt := top 15
theorem sc_need_between : FnScope ["number", "least", "most"] ["number", "least", "most"] (defScope s_need_between) := ⟨rfl, rfl, rfl, by decide +kernel, rfl, by decide +kernel, by decide +kernel⟩
abbrev R_need_between : FR := f3 PyData.int PyData.int PyData.int (fun n a b => (-Num.big < n ∧ n < Num.big) ∧ a ≤ n ∧ n ≤ b) fun _ _ _ => .none
theorem ok_need_between {P : Program} {w : World} {K : PySem.W.Frag} {mg : Str → Option Value} {base : Heap} {Y : Cn} (F : DefAt K "need_between" s_need_between) (hX : K.In base) (hG : base.Ns mainGlobals mg) (T : Txt K mg Y) (G_is_integer : FnG P w K mg base 1 "is_integer" ["value"] R_is_integer) : FnG P w K mg base 2 "need_between" ["number", "least", "most"] R_need_between := by
  have nd := sc_need_between.nd
  refine fn_mk F hX hG sc_need_between (fun as β r β' h => by first | exact FR.len h | (obtain ⟨_, rfl, _⟩ := h; rfl) | (obtain ⟨_, _, rfl, _⟩ := h; rfl) | (obtain ⟨_, _, _, rfl, _⟩ := h; rfl) | (obtain ⟨_, _, _, _, rfl, _⟩ := h; rfl) | (obtain ⟨_, _, _, _, _, rfl, _⟩ := h; rfl)) (fun _ _ _ _ _ _ _ us hl => match us, hl with | [_, _, _], _ => rfl) (fun f cdv A outer s H E hr => ⟨_, (pss_one (ps_if (PW.pt (pw_or (pt_not (pt_val (pe_fn G_is_integer (hr.mono (by decide)) (pa_cons (pv 0) pa_nil)))) (pw_or1 (pt_not (pt_chain op_le op_le (pv 1) (pv 0) (pv 2)))))) (pss_one ps_never) pss_nil)), fun as β r β' hR => ?_⟩)
  obtain ⟨n, a, b, rfl, ⟨hn, ha, hb⟩, rfl, rfl, rfl⟩ := hR
  dsimp only [cxOf, Cx.nox, Cx.wish]
  have hc : EvB K (tCall (spR K R_is_integer) [] E0 (tCons (tVar 0) tNil)) (startR ["number", "least", "most"] [.imm (.int n), .imm (.int a), .imm (.int b)]) none (.bool (Num.isInteger (.int n))) none := c_f1 (d_var rfl) trivial
  exact .fall _ (st_ifF (t_orF ((t_not (t_B hc)).to (by rw [int_is hn] <;> rfl)) ((t_not (t_test (d_chLeLe (d_var rfl) (d_var rfl) (d_var rfl)))).to (by rw [decide_eq_true ha, decide_eq_true hb] <;> rfl))) st_next) rfl
abbrev s_fits : Stmt := top 16
theorem sc_fits : FnScope ["prime", "value"] ["prime", "value"] (defScope s_fits) := ⟨rfl, rfl, rfl, by decide +kernel, rfl, by decide +kernel, by decide +kernel⟩
abbrev R_fits : FR := f2 PyData.int anyD (fun _ _ => True) fun p d => .bool (Num.fits p d)
theorem ok_fits {P : Program} {w : World} {K : PySem.W.Frag} {mg : Str → Option Value} {base : Heap} {Y : Cn} (F : DefAt K "fits" s_fits) (hX : K.In base) (hG : base.Ns mainGlobals mg) (T : Txt K mg Y) (G_is_integer : FnG P w K mg base 1 "is_integer" ["value"] R_is_integer) : FnG P w K mg base 2 "fits" ["prime", "value"] R_fits := by
  have nd := sc_fits.nd
  refine fn_mk F hX hG sc_fits (fun as β r β' h => by first | exact FR.len h | (obtain ⟨_, rfl, _⟩ := h; rfl) | (obtain ⟨_, _, rfl, _⟩ := h; rfl) | (obtain ⟨_, _, _, rfl, _⟩ := h; rfl) | (obtain ⟨_, _, _, _, rfl, _⟩ := h; rfl) | (obtain ⟨_, _, _, _, _, rfl, _⟩ := h; rfl)) (fun _ _ _ _ _ _ _ us hl => match us, hl with | [_, _], _ => rfl) (fun f cdv A outer s H E hr => ⟨_, (pss_one (ps_ret (pe_and (pe_fn G_is_integer (hr.mono (by decide)) (pa_cons (pv 1) pa_nil)) (pe_one (pe_or (pe_cmpR op_eq (pv 0) pe_int (nomark _)) (pe_one (pe_chain op_le op_lt pe_int (pv 1) (pv 0)))))))), fun as β r β' hR => ?_⟩)
  obtain ⟨p, d, rfl, _, rfl, rfl, rfl⟩ := hR
  dsimp only [cxOf, Cx.nox, Cx.wish]
  cases d with
  | int p => walk_at "ret"; rfl
  | none => walk_at "ret"; rfl
  | _ => walk_at "ret"; rfl
abbrev s_all_fit : Stmt := top 17
theorem sc_all_fit : FnScope ["prime", "value", "many", "one"] ["prime", "value", "many"] (defScope s_all_fit) := ⟨rfl, rfl, rfl, by decide +kernel, rfl, by decide +kernel, by decide +kernel⟩
abbrev R_all_fit : FR := f3 PyData.int anyD PyData.int (fun _ _ n => n ≤ 1000) fun p d n => .bool (Num.allFit p n d)
theorem ok_all_fit {P : Program} {w : World} {K : PySem.W.Frag} {mg : Str → Option Value} {base : Heap} {Y : Cn} (F : DefAt K "all_fit" s_all_fit) (hX : K.In base) (hG : base.Ns mainGlobals mg) (T : Txt K mg Y) (G_fits : FnG P w K mg base 2 "fits" ["prime", "value"] R_fits) : FnG P w K mg base 3 "all_fit" ["prime", "value", "many"] R_all_fit := by
  have nd := sc_all_fit.nd
  refine fn_mk F hX hG sc_all_fit (fun as β r β' h => by first | exact FR.len h | (obtain ⟨_, rfl, _⟩ := h; rfl) | (obtain ⟨_, _, rfl, _⟩ := h; rfl) | (obtain ⟨_, _, _, rfl, _⟩ := h; rfl) | (obtain ⟨_, _, _, _, rfl, _⟩ := h; rfl) | (obtain ⟨_, _, _, _, _, rfl, _⟩ := h; rfl)) (fun _ _ _ _ _ _ _ us hl => match us, hl with | [_, _, _], _ => rfl) (fun f cdv A outer s H E hr => ⟨_, (pss_one (ps_ret (pe_and (pe_callB (call_isiK (K := K)) (by rfl) T.z_isinstance bo_isinstance (pa_cons (pv 1) (pa_cons (pe_bltn (v := .ty "tuple") (by rfl) T.z_tuple bo_tuple rfl) pa_nil))) (pe_and (pe_cmpR op_eq (pe_callB (c_lenK (K := K)) (by rfl) T.z_len bo_len (pa_cons (pv 1) pa_nil)) (pv 2) (nomark _)) (pe_one (pe_callB (cr_all rfl) (by rfl) T.z_all bo_all (pa_cons (pe_lc (own := [("one", 3)]) rfl nd (pi_tup (pv 1)) (blkOk_by (N := ["prime", "value", "many", "one"]) (sc := defScope s_all_fit) (by decide +kernel)) (fun _ _ _ _ _ => by exact (pg_name (i := 3) nd rfl (Or.inl rfl))) (fun _ _ _ _ _ => by exact pts_nil) (fun _ _ _ _ _ => by exact (pe_fn G_fits (hr.mono (by decide)) (pa_cons (pv 0) (pa_cons (pv 3) pa_nil))))) pa_nil))))))), fun as β r β' hR => ?_⟩)
  obtain ⟨p, d, n, rfl, hn, rfl, rfl, rfl⟩ := hR
  dsimp only [cxOf, Cx.nox, Cx.wish]
  cases d with
  | tuple ds =>
    refine' .ret (st_ret (EvB.to (d_andT (EvB.to ?e1 ?q1) (d_and ?e2 fun hp => d_all (bs := ds.map (Num.fits p)) ?e3)) ?q))
    case e1 => walk_at "ev"
    case q1 => rfl
    case e2 => walk_at "ev"
    case e3 =>
      have hl : ds.length ≤ 1000 := by
        have := of_decide_eq_true hp
        omega
      refine d_lcT (rs := ds.map fun d => .bool (Num.fits p d)) (d_var rfl) ?_ (by rw [List.length_map]; omega) (wipe_ok (by decide)) |>.to (by rw [List.map_map]; rfl)
      refine LcR.map (fun d => .bool (Num.fits p d)) fun d _ => ?_
      walk_at "ev"
    case q =>
      show PyData.bool _ = PyData.bool _
      rw [List.all_map]
      rfl
  | none => walk_at "ret"; rfl
  | _ => walk_at "ret"; rfl
end K05
set_option Elab.async false
set_option linter.all false
set_option maxRecDepth 100000
set_option maxHeartbeats 1100000
namespace K05
open PySem L2 TD PySem.Spec PyProof.Rows
open Evl (Ex ex_l ex_t fresh_back sq_of st_of sz_of sz_lt)
variable [TabW]
abbrev keyOk (l : Nat) (k : List Int) : Prop := k.length = l ∧ ∀ x ∈ k, 0 ≤ x ∧ x ≤ 100
theorem keyOk.ok3 {l : Nat} {k : List Int} (h : keyOk l k) : Ok3 0 101 l k := by
  refine ⟨h.1, fun m hm => ?_⟩
  obtain ⟨n, hn, rfl⟩ := List.mem_map.mp hm
  have := h.2 n hn
  show 0 ≤ n + 0 ∧ n + 0 < 101
  omega
/-- a table that the program's defs take -/
structure TabOk (l : Nat) (T : CQ) : Prop where
  nd : (kyF T).Nodup
  few : T.length ≤ 1000
  l23 : l = 2 ∨ l = 3
  key : ∀ k ∈ kyF T, keyOk l k
theorem dcr_map {K : PySem.W.Frag} {ρ : Rho} {β : Bag} {tk tv : TE} {j : Nat} (v : List Int → Dt) : ∀ {ns : List (List Int)}, (∀ x ∈ ns, EvB K tk (ρ.set j (some (Slot.imm (tupJ x)))) β (tupD x) β ∧ EvB K tv (ρ.set j (some (Slot.imm (tupJ x)))) β (v x) β) → DcR K j tk tv (ns.map tupJ) ρ β (ns.map fun x => (x, v x)) β
  | [], _ => .nil ρ β
  | x :: ns, h => .cons (h x List.mem_cons_self).1 (h x List.mem_cons_self).2 (dcr_map v fun y hy => h y (List.mem_cons_of_mem _ hy))
abbrev s_degree_of : Stmt := top 22
theorem sc_degree_of : FnScope ["table", "exponents"] ["table"] (defScope s_degree_of) := ⟨rfl, rfl, rfl, by decide +kernel, rfl, by decide +kernel, by decide +kernel⟩
abbrev R_degree_of : FR := fun as β r β' => ∃ T, as = [.imm (dT (cD T))] ∧ True ∧ r = (match T with | [] => .none | q :: _ => .int q.1.sum) ∧ β = none ∧ β' = none
theorem ok_degree_of {P : Program} {w : World} {K : PySem.W.Frag} {mg : Str → Option Value} {base : Heap} {Y : Cn} (F : DefAt K "degree_of" s_degree_of) (hX : K.In base) (hG : base.Ns mainGlobals mg) (T : Txt K mg Y)  : FnG P w K mg base 1 "degree_of" ["table"] R_degree_of := by
  have nd := sc_degree_of.nd
  refine fn_mk F hX hG sc_degree_of (fun as β r β' h => by first | exact FR.len h | (obtain ⟨_, rfl, _⟩ := h; rfl) | (obtain ⟨_, _, rfl, _⟩ := h; rfl) | (obtain ⟨_, _, _, rfl, _⟩ := h; rfl) | (obtain ⟨_, _, _, _, rfl, _⟩ := h; rfl) | (obtain ⟨_, _, _, _, _, rfl, _⟩ := h; rfl)) (fun _ _ _ _ _ _ _ us hl => match us, hl with | [_], _ => rfl) (fun f cdv A outer s H E hr => ⟨_, (pss_cons (ps_un (ps_for PassesOwn.never rfl (pi_keysW (pv 0)) (pg_name (i := 1) nd rfl (Or.inl rfl)) (pss_one (ps_ret (pe_callB (cr_sumT rfl) (by rfl) T.z_sum bo_sum (pa_cons (pv 1) pa_nil)))))) (pss_one (ps_ret pe_non))), fun as β r β' hR => ?_⟩)
  obtain ⟨T, rfl, _, rfl, rfl, rfl⟩ := hR
  dsimp only [cxOf, Cx.nox, Cx.wish]
  cases T with
  | nil => exact .ret (st_sq (st_forW (qs := []) (wk_keys 1) (d_var rfl) (.nil _ _)) (st_ret d_non))
  | cons q T => exact .ret (st_seqR (st_forW (qs := cD (q :: T)) (wk_keys 1) (d_var rfl) (.ret (st_ret (d_sumT (ns := q.1) (d_var rfl))))))
abbrev s_are_exponents : Stmt := top 24
theorem sc_are_exponents : FnScope ["letters", "value"] ["letters", "value"] (defScope s_are_exponents) := ⟨rfl, rfl, rfl, by decide +kernel, rfl, by decide +kernel, by decide +kernel⟩
abbrev R_are_exponents : FR := fun as β r β' => ∃ (l : Nat) (k : List Int), as = [.imm (.int l), .imm (tupD k)] ∧ ((l = 2 ∨ l = 3) ∧ keyOk l k) ∧ r = .bool true ∧ β = none ∧ β' = none
theorem ok_are_exponents {P : Program} {w : World} {K : PySem.W.Frag} {mg : Str → Option Value} {base : Heap} {Y : Cn} (F : DefAt K "are_exponents" s_are_exponents) (hX : K.In base) (hG : base.Ns mainGlobals mg) (T : Txt K mg Y) (G_all_fit : FnG P w K mg base 3 "all_fit" ["prime", "value", "many"] R_all_fit) : FnG P w K mg base 4 "are_exponents" ["letters", "value"] R_are_exponents := by
  have nd := sc_are_exponents.nd
  refine fn_mk F hX hG sc_are_exponents (fun as β r β' h => by first | exact FR.len h | (obtain ⟨_, rfl, _⟩ := h; rfl) | (obtain ⟨_, _, rfl, _⟩ := h; rfl) | (obtain ⟨_, _, _, rfl, _⟩ := h; rfl) | (obtain ⟨_, _, _, _, rfl, _⟩ := h; rfl) | (obtain ⟨_, _, _, _, _, rfl, _⟩ := h; rfl)) (fun _ _ _ _ _ _ _ us hl => match us, hl with | [_, _], _ => rfl) (fun f cdv A outer s H E hr => ⟨_, (pss_one (ps_ret (pe_and (pe_fn G_all_fit (hr.mono (by decide)) (pa_cons pe_int (pa_cons (pv 1) (pa_cons (pv 0) pa_nil)))) (pe_one (pe_cmpR op_ge (pe_callB (cr_minT hr rfl) (by rfl) T.z_min bo_min (pa_cons (pv 1) pa_nil)) pe_int (nomark _)))))), fun as β r β' hR => ?_⟩)
  obtain ⟨l, k, rfl, ⟨hl, hk⟩, rfl, rfl, rfl⟩ := hR
  dsimp only [cxOf, Cx.nox, Cx.wish]
  have fit : Num.allFit 0 l (tupD k) = true := by
    show (decide (((k.map PyData.int).length : Int) = l) && (k.map PyData.int).all (Num.fits 0)) = true
    rw [List.length_map, hk.1, decide_eq_true rfl, Bool.true_and, List.all_map]
    refine List.all_eq_true.mpr fun x hx => ?_
    have := hk.2 x hx
    show ((decide (-Num.big < x) && decide (x < Num.big)) && (decide ((0 : Int) = 0) || _)) = true
    rw [decide_eq_true (show -Num.big < x by unfold Num.big; omega), decide_eq_true (show x < Num.big by unfold Num.big; omega)]
    rfl
  have hl2 : (l : Int) ≤ 1000 := by omega
  cases k with
  | nil => exact absurd hk.1 (by show 0 ≠ l; omega)
  | cons n ns =>
    have low := hk.2 _ (TD.minOf_mem n ns)
    exact .ret (st_ret ((d_andT ((c_f3 (a := PyData.int) (a' := anyD) (a'' := PyData.int) (x := 0) (y := tupD (n :: ns)) (z := (l : Int)) d_int (d_var rfl) (d_var rfl) hl2).to (congrArg PyData.bool fit)) (d_ge (d_minT (d_var rfl)) d_int)).to (congrArg PyData.bool (decide_eq_true low.1))))
abbrev s_descending : Stmt := top 26
theorem sc_descending : FnScope ["table", "exponents"] ["table"] (defScope s_descending) := ⟨rfl, rfl, rfl, by decide +kernel, rfl, by decide +kernel, by decide +kernel⟩
abbrev R_descending : FR := fun as β r β' => ∃ l T, as = [.imm (dT (cD T))] ∧ TabOk l T ∧ r = dT (cD (descF T)) ∧ β = none ∧ β' = none
theorem ok_descending {P : Program} {w : World} {K : PySem.W.Frag} {mg : Str → Option Value} {base : Heap} {Y : Cn} (F : DefAt K "descending" s_descending) (hX : K.In base) (hG : base.Ns mainGlobals mg) (T : Txt K mg Y)  : FnG P w K mg base 1 "descending" ["table"] R_descending := by
  have nd := sc_descending.nd
  refine fn_mk F hX hG sc_descending (fun as β r β' h => by first | exact FR.len h | (obtain ⟨_, rfl, _⟩ := h; rfl) | (obtain ⟨_, _, rfl, _⟩ := h; rfl) | (obtain ⟨_, _, _, rfl, _⟩ := h; rfl) | (obtain ⟨_, _, _, _, rfl, _⟩ := h; rfl) | (obtain ⟨_, _, _, _, _, rfl, _⟩ := h; rfl)) (fun _ _ _ _ _ _ _ us hl => match us, hl with | [_], _ => rfl) (fun f cdv A outer s H E hr => ⟨_, (pss_one (ps_ret (pe_dcP (own := [("exponents", 1)]) (o0 := .dT []) (.inr rfl) (unitsU hr) rfl nd (pi_list (pe_callBK (cr_sortedDTRx rfl) (by rfl) T.z_sorted bo_sorted (pa_cons (pv 0) pa_nil) (pk_cons pe_bl pk_nil))) (blkOk_by (N := ["table", "exponents"]) (sc := defScope s_descending) (by decide +kernel)) (fun _ _ _ _ _ => by exact (pg_name (i := 1) nd rfl (Or.inl rfl))) (fun _ _ _ _ _ => by exact pts_nil) (fun _ _ _ _ _ => by exact (pv 1)) (fun _ _ _ _ _ => by exact (pe_dget (unitsD hr) (pv 0) (pv 1) (fun _ _ => rfl)))))), fun as β r β' hR => ?_⟩)
  obtain ⟨l, T, rfl, hT, rfl, rfl, rfl⟩ := hR
  dsimp only [cxOf, Cx.nox, Cx.wish]
  have hl : 1 ≤ l := by have := hT.l23; omega
  have ks : (cD T).map (·.1) = kyF T := by rw [List.map_map] <;> rfl
  refine .ret (st_ret ((d_dcL (qs := ((sortX (kyF T)).reverse).map fun x => (x, PyData.int (at0 T x))) ((d_sortDTRx (qs := cD T) (dd := l) (S := 0) (B := 101) (d_var rfl) hl fun q hq => ?_).to (by rw [ks])) ?_ ?_ ?_ (wipe_ok (by decide))).to ?_))
  · obtain ⟨r, hr, rfl⟩ := List.mem_map.mp hq
    exact (hT.key r.1 (List.mem_map_of_mem hr)).ok3
  · refine dcr_map (fun x => .int (at0 T x)) fun x hx => ⟨d_var rfl, t_dget (d_var rfl) (d_var rfl) ?_⟩
    obtain ⟨n, e, _⟩ := getT_mem ((sortX_perm _).mem_iff.mp (List.mem_reverse.mp hx))
    rw [getT_cD, e]
    show some (PyData.int n) = some (.int ((getT T x).getD 0))
    rw [e]
    rfl
  · rw [List.map_map]
    show (((sortX (kyF T)).reverse).map fun x => x).Nodup
    rw [List.map_id']
    exact ((List.reverse_perm _).trans (sortX_perm _)).nodup_iff.mpr hT.nd
  · rw [List.length_map, List.length_reverse, sortX_len, List.length_map]
    exact hT.few
  · refine congrArg dT ?_
    show _ = List.map (fun q : List Int × Int => (q.1, PyData.int q.2)) (List.map (fun k => (k, at0 T k)) (sortX (kyF T)).reverse)
    rw [List.map_map]
    rfl
abbrev s_without_zeros : Stmt := top 27
theorem sc_without_zeros : FnScope ["prime", "sums", "exponents", "number"] ["prime", "sums"] (defScope s_without_zeros) := ⟨rfl, rfl, rfl, by decide +kernel, rfl, by decide +kernel, by decide +kernel⟩
abbrev R_without_zeros : FR := fun as β r β' => ∃ p T, as = [.imm (.int p), .imm (dT (cD T))] ∧ (0 ≤ p ∧ (kyF T).Nodup ∧ T.length ≤ 1000) ∧ r = dT (cD (dropZ p T)) ∧ β = none ∧ β' = none
theorem ok_without_zeros {P : Program} {w : World} {K : PySem.W.Frag} {mg : Str → Option Value} {base : Heap} {Y : Cn} (F : DefAt K "without_zeros" s_without_zeros) (hX : K.In base) (hG : base.Ns mainGlobals mg) (T : Txt K mg Y)  : FnG P w K mg base 1 "without_zeros" ["prime", "sums"] R_without_zeros := by
  have nd := sc_without_zeros.nd
  refine fn_mk F hX hG sc_without_zeros (fun as β r β' h => by first | exact FR.len h | (obtain ⟨_, rfl, _⟩ := h; rfl) | (obtain ⟨_, _, rfl, _⟩ := h; rfl) | (obtain ⟨_, _, _, rfl, _⟩ := h; rfl) | (obtain ⟨_, _, _, _, rfl, _⟩ := h; rfl) | (obtain ⟨_, _, _, _, _, rfl, _⟩ := h; rfl)) (fun _ _ _ _ _ _ _ us hl => match us, hl with | [_, _], _ => rfl) (fun f cdv A outer s H E hr => ⟨_, (pss_cons (ps_if (pt_tru (pv 0)) (pss_one (ps_ret (pe_un isB_dc (pe_dcP (own := [("exponents", 2), ("number", 3)]) (o0 := .dT []) (.inr rfl) (unitsU hr) rfl nd (pi_itemsW (pv 1)) (blkOk_by (N := ["prime", "sums", "exponents", "number"]) (sc := defScope s_without_zeros) (by decide +kernel)) (fun _ _ _ _ _ => by exact (pg_tupK (K := K) (n := 2) rfl (pgs_cons (pg_name (i := 2) nd rfl (Or.inl rfl)) (pgs_cons (pg_name (i := 3) nd rfl (Or.inl rfl)) pgs_nil)))) (fun _ _ _ _ _ => by exact (pts_one (pt_cmpR op_ne (pe_op op_mod (pv 3) (pv 0)) pe_int (nomark _)))) (fun _ _ _ _ _ => by exact (pv 2)) (fun _ _ _ _ _ => by exact (pe_op op_mod (pv 3) (pv 0))))))) pss_nil) (pss_one (ps_ret (pe_un isB_dc (pe_dcP (own := [("exponents", 2), ("number", 3)]) (o0 := .dT []) (.inr rfl) (unitsU hr) rfl nd (pi_itemsW (pv 1)) (blkOk_by (N := ["prime", "sums", "exponents", "number"]) (sc := defScope s_without_zeros) (by decide +kernel)) (fun _ _ _ _ _ => by exact (pg_tupK (K := K) (n := 2) rfl (pgs_cons (pg_name (i := 2) nd rfl (Or.inl rfl)) (pgs_cons (pg_name (i := 3) nd rfl (Or.inl rfl)) pgs_nil)))) (fun _ _ _ _ _ => by exact (pts_one (pt_cmpR op_ne (pv 3) pe_int (nomark _)))) (fun _ _ _ _ _ => by exact (pv 2)) (fun _ _ _ _ _ => by exact (pv 3))))))), fun as β r β' hR => ?_⟩)
  obtain ⟨p, T, rfl, ⟨hp, nd, few⟩, rfl, rfl, rfl⟩ := hR
  dsimp only [cxOf, Cx.nox, Cx.wish]
  have whole : ∀ q ∈ cD T, q.2 = PyData.int (Num.toI q.2) := fun q hq => by
    obtain ⟨r, hr, rfl⟩ := List.mem_map.mp hq
    rfl
  have few2 : ∀ f : QD → Bool, (List.filter f (cD T)).length ≤ 1000 := fun f => Nat.le_trans (List.length_filter_le _ _) (by rw [List.length_map]; exact few)
  have nd2 : ∀ (f : QD → Bool) (g : QD → QD), (∀ q, (g q).1 = q.1) → (((List.filter f (cD T)).map g).map (·.1)).Nodup := fun f g hg => by
    rw [List.map_map, show (fun q : QD => q.1) ∘ g = fun q => q.1 from funext hg]
    have ks : (cD T).map (·.1) = kyF T := by rw [List.map_map] <;> rfl
    exact (show ((cD T).map (·.1)).Nodup from ks ▸ nd).sublist ((List.filter_sublist (p := f)).map _)
  by_cases z : p = 0
  · subst z
    refine .ret (st_sq (st_ifF ((t_truthI (d_var rfl)).to rfl) st_next) (st_ret ((d_dcW (wk_items 2 3) (qs := cD T) (d_var rfl) (DcF.pure (fun q => decide (Num.toI q.2 ≠ 0)) (fun q => q.1) (fun q => q.2) (fun q hq => ?_) (fun q hq _ => d_var rfl) fun q hq _ => d_var rfl) (nd2 _ _ fun _ => rfl) (by rw [List.length_map]; exact few2 _)).to ?_)))
    · exact (t_test (d_neI ((d_var (d := q.2) rfl).to (whole q hq)) d_int)).to (by rw [decide_not])
    · refine congrArg dT ?_
      unfold dropZ
      rw [if_pos rfl, List.filter_map, List.map_map]
      rfl
  · have pos : 0 < p := by omega
    refine .ret (st_seqR (st_ifT ((t_truthI (d_var rfl)).to (by rw [bne_iff_ne]; exact z)) (st_ret ((d_dcW (wk_items 2 3) (qs := cD T) (d_var rfl) (DcF.pure (fun q => decide (Num.toI q.2 % p ≠ 0)) (fun q => q.1) (fun q => .int (Num.toI q.2 % p)) (fun q hq => ?_) (fun q hq _ => d_var rfl) fun q hq _ => ?_) (nd2 _ _ fun _ => rfl) (by rw [List.length_map]; exact few2 _)).to ?_))))
    · exact (t_test (d_neI (d_mod ((d_var (d := q.2) rfl).to (whole q hq)) (d_var rfl) pos) d_int)).to (by rw [decide_not])
    · exact d_mod ((d_var (d := q.2) rfl).to (whole q hq)) (d_var rfl) pos
    · refine congrArg dT ?_
      unfold dropZ
      rw [if_neg z, List.filter_map, List.map_map]
      show _ = List.map (fun q : List Int × Int => (q.1, PyData.int q.2)) (List.map (fun q => (q.1, q.2 % p)) (List.filter (fun q => decide (q.2 % p ≠ 0)) T))
      rw [List.map_map]
      rfl
end K05
set_option Elab.async false
set_option linter.all false
set_option maxRecDepth 100000
set_option maxHeartbeats 4100800
namespace TD
open PySem L2 PySem.Spec PyProof.Rows
open Evl (Ex ex_l ex_t fresh_back sq_of st_of sz_of sz_lt)
abbrev GS := List (List Int × Addr × List V)
abbrev GD := List (List Int × List Dt)
abbrev gK (gs : GS) : List (List Int × V) := gs.map fun g => (g.1, V.ref g.2.1)
def appG : GS → List Int → V → GS
  | [], _, _ => []
  | g :: gs, k, y => if g.1 = k then (g.1, g.2.1, g.2.2 ++ [y]) :: gs else g :: appG gs k y
def appD : GD → List Int → Dt → GD
  | [], _, _ => []
  | q :: qs, k, x => if q.1 = k then (q.1, q.2 ++ [x]) :: qs else q :: appD qs k x
def gAt : GS → List Int → Option (Addr × List V)
  | [], _ => none
  | g :: gs, k => if g.1 = k then some g.2 else gAt gs k
theorem gK_app (k : List Int) (y : V) : ∀ gs : GS, gK (appG gs k y) = gK gs
  | [] => rfl
  | g :: gs => by
    unfold appG
    split
    · rfl
    · show (g.1, V.ref g.2.1) :: gK (appG gs k y) = _
      rw [gK_app k y gs]
      rfl
theorem adr_app (k : List Int) (y : V) : ∀ gs : GS, (appG gs k y).map (·.2.1) = gs.map (·.2.1)
  | [] => rfl
  | g :: gs => by
    unfold appG
    split
    · rfl
    · rw [List.map_cons, adr_app k y gs]
      rfl
theorem gAt_mem {k : List Int} {a : Addr} {xs : List V} : ∀ {gs : GS}, gAt gs k = some (a, xs) → (k, a, xs) ∈ gs
  | g :: gs, h => by
    unfold gAt at h
    split at h
    · rename_i e
      have h := Option.some.inj h
      rw [← e, ← h]
      exact List.mem_cons_self
    · exact List.mem_cons_of_mem _ (gAt_mem h)
theorem appG_mem {k : List Int} {a : Addr} {xs : List V} {y : V} : ∀ {gs : GS}, (gs.map (·.2.1)).Nodup → gAt gs k = some (a, xs) → ∀ g ∈ appG gs k y, (g.2.1 = a ∧ g.2.2 = xs ++ [y]) ∨ (g ∈ gs ∧ g.2.1 ≠ a)
  | q :: gs, hn, h, g, hg => by
    (rw [List.map_cons, List.nodup_cons] at hn)
    unfold gAt at h
    unfold appG at hg
    split at h
    · rename_i e
      rw [if_pos e] at hg
      have h := Option.some.inj h
      (rcases List.mem_cons.mp hg with rfl | hg)
      · left
        rw [h]
        exact ⟨rfl, rfl⟩
      · right
        refine ⟨List.mem_cons_of_mem _ hg, fun z => hn.1 ?_⟩
        rw [h, ← z]
        exact List.mem_map_of_mem (f := fun g : List Int × Addr × List V => g.2.1) hg
    · rename_i e
      rw [if_neg e] at hg
      have ha := List.mem_map_of_mem (f := fun g : List Int × Addr × List V => g.2.1) (gAt_mem h)
      (rcases List.mem_cons.mp hg with rfl | hg)
      · right
        exact ⟨List.mem_cons_self, fun z => hn.1 (by rw [z]; exact ha)⟩
      · rcases appG_mem hn.2 h g hg with z | ⟨z1, z2⟩
        · exact .inl z
        · exact .inr ⟨List.mem_cons_of_mem _ z1, z2⟩
inductive DenG (K : PySem.W.Frag) (G : Hp) : GS → GD → Prop
  | nil : DenG K G [] []
  | cons {k : List Int} {a : Addr} {xs : List V} {ds : List Dt} {gs : GS} {qs : GD} : DenL K G xs ds → DenG K G gs qs → DenG K G ((k, a, xs) :: gs) ((k, ds) :: qs)
section
variable {K : PySem.W.Frag} {G G' : Hp}
theorem DenG.mono (e : Ex G G') : ∀ {gs : GS} {qs : GD}, DenG K G gs qs → DenG K G' gs qs
  | _, _, .nil => .nil
  | _, _, .cons h t => .cons (h.mono e) (t.mono e)
theorem DenG.app {k : List Int} {y : V} {x : Dt} (hy : Den K G y x) : ∀ {gs : GS} {qs : GD}, DenG K G gs qs → DenG K G (appG gs k y) (appD qs k x)
  | _, _, .nil => .nil
  | _, _, .cons (k := k') h t => by
    unfold appG appD
    dsimp only
    split
    · exact .cons (h.append (.cons hy .nil)) t
    · exact .cons h (t.app hy)
theorem DenG.keys : ∀ {gs : GS} {qs : GD}, DenG K G gs qs → gs.map (·.1) = qs.map (·.1)
  | _, _, .nil => rfl
  | _, _, .cons h t => by rw [List.map_cons, List.map_cons, t.keys]
theorem DenG.at_ {k : List Int} {a : Addr} {xs : List V} : ∀ {gs : GS} {qs : GD}, DenG K G gs qs → gAt gs k = some (a, xs) → ∃ ds, (k, ds) ∈ qs ∧ xs.length = ds.length
  | _, _, .nil, h => nomatch h
  | _, _, .cons (k := k') (ds := ds) h t, z => by
    unfold gAt at z
    dsimp only at z
    split at z
    · rename_i e
      cases z
      subst e
      exact ⟨ds, List.mem_cons_self, h.length⟩
    · obtain ⟨d, h1, h2⟩ := t.at_ z
      exact ⟨d, List.mem_cons_of_mem _ h1, h2⟩
end
/-- slot i holds a dict at p that nothing else knows, whose values are lists that nothing else knows -/
structure OwnG [TabW] (K : PySem.W.Frag) (b : Addr) (β : Bag) (i : Nat) (p : Addr) (H0 : Hp) (gs : GS) (G H : Hp) (σ : L2.St) (ρ : Rho) (qs : GD) : Prop where
  env : EnvD K b β G H σ ρ
  slot : ρ[i]? = some none
  at_ : σ[i]? = some (some (.ref p))
  free : G p = none
  nb : β.isSome = true → p ≠ b
  gn : Gone H0 p
  val : H p = some (.dT (keysT (gK gs)))
  one : ∀ g ∈ gs, G g.2.1 = none ∧ H g.2.1 = some (.lst g.2.2) ∧ g.2.1 ≠ p ∧ (β.isSome = true → g.2.1 ≠ b) ∧ Gone H0 g.2.1
  nd : (gs.map (·.2.1)).Nodup
  den : DenG K G gs qs
theorem ntT {ks : List (List Key × V)} : NoT (HO.dT ks) := ⟨fun _ z => (nomatch z), fun _ z => (nomatch z)⟩
section
variable [TabW] {K : PySem.W.Frag} {b : Addr} {ρ ρ1 ρ2 : Rho} {β β1 β2 β3 : Bag} {te tk tx tl : TE} {ts tu tw : TS} {x : Dt} {o : Out} {i j : Nat} {G H G0 H0 G1 H1 G2 H2 : Hp} {σ : L2.St} {p : Addr} {gs : GS} {qs qs1 qs2 : GD} {k : List Int}
theorem OwnG.step (w : OwnG K b β i p H0 gs G H σ ρ qs) (s : Step b β.isSome G H G1 H1) (hb : BagOk b β1 G1 H1) (hm : β1.isSome = β.isSome) : OwnG K b β1 i p H0 gs G1 H1 σ ρ qs :=
  ⟨w.env.step s hb, w.slot, w.at_, s.fresh p _ w.free ntT w.val, fun z => w.nb (hm ▸ z), w.gn, s.keep p _ w.nb ntT w.val, fun g hg => by
    obtain ⟨h1, h2, h3, h4, h5⟩ := w.one g hg
    exact ⟨s.fresh _ _ h1 NoT.lst h2, s.keep _ _ h4 NoT.lst h2, h3, fun z => h4 (hm ▸ z), h5⟩, w.nd, w.den.mono s.g⟩
theorem OwnG.asFn (w : OwnG K b β i p H0 gs G H σ ρ qs) : EnvD K b β G H σ (ρ.set i (some (.fn p))) := by
  have E := w.env.setFn (i := i) (f := p)
  have e : σ.set i (some (.ref p)) = σ := by
    apply List.ext_getElem?
    intro n
    by_cases q : i = n
    · (subst q)
      (rw [List.getElem?_set_self (List.getElem?_eq_some_iff.mp w.at_).1, w.at_])
    · rw [List.getElem?_set_ne q]
  rw [e] at E
  exact E
theorem OwnG.setJ {v : V} (w : OwnG K b β i p H0 gs G H σ ρ qs) (hij : i ≠ j) (h : Den K G v x) : OwnG K b β i p H0 gs G H (σ.set j (some v)) (ρ.set j (some (.imm x))) qs :=
  ⟨w.env.set h, by rw [List.getElem?_set_ne (Ne.symm hij)]; exact w.slot, by rw [List.getElem?_set_ne (Ne.symm hij)]; exact w.at_, w.free, w.nb, w.gn, w.val, w.one, w.nd, w.den⟩
/-- a new thing beside it -/
theorem OwnG.new {q : Addr} {u : HO} (w : OwnG K b β i p H0 gs G H σ ρ qs) (hq : H q = none) : OwnG K b β i p H0 gs G (upd H q u) σ ρ qs := by
  have gq : G q = none := fresh_back w.env.sub hq
  have nb : β.isSome = true → q ≠ b := bag_ne w.env.bagk rfl hq
  refine ⟨w.env.mutM gq nb (MuAt.none hq), w.slot, w.at_, w.free, w.nb, w.gn, by rw [upd_ne (ne_of_none w.val hq)]; exact w.val, fun g hg => ?_, w.nd, w.den⟩
  obtain ⟨h1, h2, h3⟩ := w.one g hg
  exact ⟨h1, by rw [upd_ne (ne_of_none h2 hq)]; exact h2, h3⟩
/-- one more at the end of the list at k -/
theorem OwnG.app {a : Addr} {xs : List V} {y : V} (w : OwnG K b β i p H0 gs G H σ ρ qs) (ha : gAt gs k = some (a, xs)) (hy : Den K G y x) : OwnG K b β i p H0 (appG gs k y) G (upd H a (.lst (xs ++ [y]))) σ ρ (appD qs k x) := by
  obtain ⟨h1, h2, h3, h4, h5⟩ := w.one _ (gAt_mem ha)
  refine ⟨w.env.mutM h1 h4 (MuAt.lst h2), w.slot, w.at_, w.free, w.nb, w.gn, by rw [upd_ne (Ne.symm h3), gK_app]; exact w.val, fun g hg => ?_, by rw [adr_app]; exact w.nd, w.den.app hy⟩
  rcases appG_mem w.nd ha g hg with ⟨e1, e2⟩ | ⟨e1, e2⟩
  · rw [e1, e2, upd_same]
    exact ⟨h1, rfl, h3, h4, h5⟩
  · obtain ⟨g1, g2, g3⟩ := w.one g e1
    exact ⟨g1, by rw [upd_ne e2]; exact g2, g3⟩
end
end TD
set_option Elab.async false
set_option linter.all false
set_option maxRecDepth 100000
set_option maxHeartbeats 4100900
namespace TD
open PySem L2
end TD
set_option Elab.async false
set_option linter.all false
set_option maxRecDepth 100000
namespace Num
open PySem
end Num
set_option Elab.async false
set_option linter.all false
set_option maxRecDepth 100000
set_option maxHeartbeats 4000100
namespace TD
open PySem L2
end TD
set_option Elab.async false
set_option linter.all false
set_option maxRecDepth 100000
set_option maxHeartbeats 4000100
namespace TD
open PySem L2
variable [TabW]
abbrev T3 := Nat × Nat × Nat
def c3 (x : T3) : List Int := [(x.1 : Int), (x.2.1 : Int), (x.2.2 : Int)]
end TD
set_option Elab.async false
set_option linter.all false
set_option maxRecDepth 100000
set_option maxHeartbeats 4000100
namespace TD
open PySem L2
end TD
set_option Elab.async false
set_option linter.all false
set_option maxRecDepth 100000
set_option maxHeartbeats 4100700
namespace TD
open PySem L2
end TD
set_option linter.all false
namespace Det
abbrev Mat := Nat → Nat → Int
def setRow (A : Mat) (r : Nat) (u : Nat → Int) : Mat := fun i j => if i = r then u j else A i j
def swap (A : Mat) (a b : Nat) : Mat := fun i j => A (if i = a then b else if i = b then a else i) j
theorem set_comm {A : Mat} {a b : Nat} (h : a ≠ b) (u v : Nat → Int) : setRow (setRow A a u) b v = setRow (setRow A b v) a u := by
  funext i j
  unfold setRow
  by_cases h1 : i = b
  · rw [if_pos h1, if_neg (fun z => h (z.symm.trans h1)), if_pos h1]
  · rw [if_neg h1]
    by_cases h2 : i = a
    · rw [if_pos h2, if_pos h2]
    · rw [if_neg h2, if_neg h2, if_neg h1]
theorem set_set (A : Mat) (a : Nat) (u v : Nat → Int) : setRow (setRow A a u) a v = setRow A a v := by
  funext i j
  unfold setRow
  by_cases h : i = a
  · rw [if_pos h, if_pos h]
  · rw [if_neg h, if_neg h, if_neg h]
end Det
set_option linter.all false
set_option Elab.async false
set_option linter.all false
set_option maxRecDepth 100000
namespace Num
open PySem
def det3 (a b c d e f g h i : Int) : Int := a * (e * i - f * h) - b * (d * i - f * g) + c * (d * h - e * g)
end Num
set_option linter.all false
namespace Num
open PySem
end Num
set_option Elab.async false
set_option linter.all false
set_option maxRecDepth 100000
set_option maxHeartbeats 4000100
namespace Num
open PySem
def detT : List (List Int) → Int
  | [[a, b, c], [d, e, f], [g, h, i]] => det3 a b c d e f g h i
  | _ => 0
/-- a table that can be undone, with numbers that are not great -/
structure TabG (p : Int) (T : List (List Int)) : Prop where
  sq : ∃ a b c d e f g h i : Int, T = [[a, b, c], [d, e, f], [g, h, i]]
  sz : ∀ r ∈ T, ∀ n ∈ r, n.natAbs ≤ 10000
  rng : p ≠ 0 → ∀ r ∈ T, ∀ n ∈ r, 0 ≤ n ∧ n < p
  det : UnitI p (detT T)
section
variable {p : Int} {T : List (List Int)} {l m : List Int}
theorem TabG.len (hT : TabG p T) : T.length = 3 := by
  obtain ⟨a, b, c, d, e, f, g, h, i, rfl⟩ := hT.sq
  rfl
end
end Num
set_option Elab.async false
set_option linter.all false
set_option maxRecDepth 100000
set_option maxHeartbeats 4101000
namespace TD
open PySem L2
end TD
set_option Elab.async false
set_option linter.all false
set_option maxRecDepth 100000
set_option maxHeartbeats 4101100
namespace TD
open PySem L2
end TD
set_option Elab.async false
set_option linter.all false
set_option maxRecDepth 100000
set_option maxHeartbeats 4101200
namespace TD
open PySem L2
end TD
set_option Elab.async false
set_option linter.all false
set_option maxRecDepth 100000
set_option maxHeartbeats 4101300
namespace TD
open PySem L2 PySem.Spec PyProof.Rows
open Evl (Ex ex_l ex_t fresh_back sq_of st_of sz_of sz_lt)
section
variable [TabW] {K : PySem.W.Frag} {ρ : Rho} {β β1 β2 β3 : Bag} {td ty tx : TE} {d x : Dt} {qs : List QD} {k : List Int}
theorem d_dget2 (ha : EvB K td ρ β (dT qs) β1) (hb : EvB K ty ρ β1 (tupD k) β2) (hx : EvB K tx ρ β2 x β3) : EvB K (tDGet2 td ty tx) ρ β ((getT qs k).getD x) β3 := by
  refine ⟨hx.som.trans (hb.som.trans ha.som), fun b G H σ Q E kk => ha.run b G H σ _ E fun v G1 H1 s1 k1 d1 => ?_⟩
  obtain ⟨a, kvs, rfl, hs, hq⟩ := den_dT d1
  have E1 := E.step s1 k1
  refine ⟨a, rfl, .inr ⟨_, rd_ex s1.s hs⟩, hb.run b G1 H1 σ _ E1 fun y G2 H2 s2 k2 d2 => hx.run b G2 H2 σ _ (E1.step s2 k2) fun z G3 H3 s3 k3 d3 => ?_⟩
  rw [ha.som] at s2
  rw [hb.som, ha.som] at s3
  have s23 := s2.trans s3
  obtain ⟨c, rfl, hc⟩ := den_key (d2.mono s3.g)
  refine ⟨getT kvs k, .inr ⟨keysT kvs, keyL k, c, rd_ex s3.s (rd_ex s23.g hs), rfl, s3.s _ _ hc, (keysT_val k kvs).symm⟩, ?_⟩
  rcases hq.val k with ⟨e1, e2⟩ | ⟨v, d', e1, e2, e3⟩
  · rw [e2] at kk
    rw [e1]
    exact kk z G3 H3 (s1.trans s23) k3 d3
  · rw [e2] at kk
    rw [e1]
    exact kk v G3 H3 (s1.trans s23) k3 (e3.mono s23.g)
end
variable [TabW]
end TD
set_option Elab.async false
set_option linter.all false
set_option maxRecDepth 100000
set_option maxHeartbeats 1100000
namespace K05
open PySem L2 TD PySem.Spec PyProof.Rows
open Evl (Ex ex_l ex_t fresh_back sq_of st_of sz_of sz_lt)
variable [TabW]
theorem log_le {n a : Nat} (h : n < 2 ^ a) : n.log2 ≤ a := by
  by_cases z : n = 0
  · rw [z]
    exact Nat.zero_le _
  · exact Nat.le_of_lt ((Nat.log2_lt z).mpr h)
theorem mulW {i j : Int} {a b : Nat} (h : i.natAbs < 2 ^ a) (h' : j.natAbs < 2 ^ b) (s : a + b < 1000000) : CMulW i j := by
  have h1 := log_le h
  have h2 := log_le h'
  show i.natAbs.log2 + j.natAbs.log2 < 1000000
  omega
theorem cD_put (T : CQ) (k : List Int) (v : Int) : putT (cD T) k (.int v) = cD (putT T k v) := by
  have e : ((cD T).any fun q => decide (q.1 = k)) = (T.any fun q => decide (q.1 = k)) := by
    rw [List.any_map]
    rfl
  unfold putT
  rw [e]
  split
  · show List.map _ (List.map _ T) = List.map _ (List.map _ T)
    (rw [List.map_map, List.map_map])
    refine List.map_congr_left fun q _ => ?_
    show (if q.1 = k then (q.1, PyData.int v) else (q.1, PyData.int q.2)) = _
    show _ = ((if q.1 = k then (q.1, v) else q).1, PyData.int (if q.1 = k then (q.1, v) else q).2)
    split <;> rfl
  · show List.map _ T ++ _ = List.map _ (T ++ [(k, v)])
    rw [List.map_append]
    rfl
theorem cD_at (T : CQ) (k : List Int) : (getT (cD T) k).getD (.int 0) = .int (at0 T k) := by
  rw [getT_cD]
  show _ = PyData.int ((getT T k).getD 0)
  cases getT T k <;> rfl
abbrev FIt (i j : Nat) : QD → Rho → Rho := fun q ρ => (ρ.set i (some (.imm (tupJ q.1)))).set j (some (.imm q.2))
/-- one dict added to the own one, entry by entry -/
theorem add_loop {K : PySem.W.Frag} {P A B : Option Slot} {l d : Nat} (hd : lowD l d) : ∀ (b acc : CQ) (x y : Option Slot), (kyF acc).Nodup → HomF l d acc → HomF l d b → ∃ x' y', ForFW K 3 (FIt 4 5) (sDPut (tVar 3) (tVar 4) (tOp (rI0 fun i j => V.int (i + j)) (tDGet2 (tVar 3) (tVar 4) (tC (V.int 0))) (tVar 5))) (cD b) [P, A, B, none, x, y] none (dT (cD acc)) (.nx [P, A, B, none, x', y']) none (dT (cD (plusF (· + ·) acc b)))
  | [], acc, x, y, _, _, _ => ⟨x, y, .nil _ _ _⟩
  | q :: b, acc, x, y, nd, ha, hb => by
    have here : HomF l d (putT acc q.1 (at0 acc q.1 + q.2)) := fun k hk => (put_key.mp hk).elim (fun e => e ▸ hb q.1 List.mem_cons_self) (ha k)
    obtain ⟨x', y', rest⟩ := add_loop hd b (putT acc q.1 (at0 acc q.1 + q.2)) (some (.imm (tupJ q.1))) (some (.imm (.int q.2))) (put_nd nd) here fun k hk => hb k (List.mem_cons_of_mem _ hk)
    refine ⟨x', y', .nx ?_ rest⟩
    rw [← cD_put]
    have few := hom_few hd nd ha
    exact sw_putT (x := .int (at0 acc q.1 + q.2)) (ns := q.1) (ew_frz (d_add ((d_dget2 (qs := cD acc) (k := q.1) (d_var rfl) (d_var rfl) d_int).to (cD_at acc q.1)) (d_var rfl)) rfl) (ew_plain fun _ => d_var rfl) (by rw [List.length_map]; exact few)
theorem le_sum : ∀ {k : List Int}, (∀ x ∈ k, 0 ≤ x) → ∀ x ∈ k, x ≤ k.sum
  | y :: k, h, x, hx => by
    have rest := le_sum (k := k) fun z hz => h z (List.mem_cons_of_mem _ hz)
    have h0 : 0 ≤ k.sum := by
      clear hx rest
      induction k with
      | nil => exact Int.le_refl _
      | cons z k ih =>
        have a := h z (List.mem_cons_of_mem _ List.mem_cons_self)
        have b := ih fun w hw => h w ((List.mem_cons.mp hw).elim (fun e => e ▸ List.mem_cons_self) fun q => List.mem_cons_of_mem _ (List.mem_cons_of_mem _ q))
        show 0 ≤ z + k.sum
        omega
    have hy := h y List.mem_cons_self
    show x ≤ y + k.sum
    (rcases List.mem_cons.mp hx with rfl | hx)
    · omega
    · have := rest x hx
      omega
/-- exponents in one number -/
def packF (k : List Int) : Int := k.foldl (fun c e => c * 65536 + e) 0
abbrev s_are_terms : Stmt := top 25
theorem sc_are_terms : FnScope ["prime", "letters", "most", "value", "exponents", "number", "degrees"] ["prime", "letters", "most", "value"] (defScope s_are_terms) := ⟨rfl, rfl, rfl, by decide +kernel, rfl, by decide +kernel, by decide +kernel⟩
abbrev R_are_terms : FR := fun as β r β' => ∃ (p : Int) (l : Nat) (T : CQ), as = [.imm (.int p), .imm (.int l), .imm (.int 40), .imm (dT (cD T))] ∧ (0 ≤ p ∧ ∃ d s, lowD l d ∧ s ≤ 100 ∧ FormOk p l d s T) ∧ r = .bool true ∧ β = none ∧ β' = none
theorem ok_are_terms {P : Program} {w : World} {K : PySem.W.Frag} {mg : Str → Option Value} {base : Heap} {Y : Cn} (F : DefAt K "are_terms" s_are_terms) (hX : K.In base) (hG : base.Ns mainGlobals mg) (T : Txt K mg Y) (G_are_exponents : FnG P w K mg base 4 "are_exponents" ["letters", "value"] R_are_exponents) (G_fits : FnG P w K mg base 2 "fits" ["prime", "value"] R_fits) : FnG P w K mg base 5 "are_terms" ["prime", "letters", "most", "value"] R_are_terms := by
  have nd := sc_are_terms.nd
  refine fn_mk F hX hG sc_are_terms (fun as β r β' h => by first | exact FR.len h | (obtain ⟨_, rfl, _⟩ := h; rfl) | (obtain ⟨_, _, rfl, _⟩ := h; rfl) | (obtain ⟨_, _, _, rfl, _⟩ := h; rfl) | (obtain ⟨_, _, _, _, rfl, _⟩ := h; rfl) | (obtain ⟨_, _, _, _, _, rfl, _⟩ := h; rfl)) (fun _ _ _ _ _ _ _ us hl => match us, hl with | [_, _, _, _], _ => rfl) (fun f cdv A outer s H E hr => ⟨_, (pss_cons (ps_if (PW.pt (pw_or (pt_not (pt_val (pe_callB (call_isiK (K := K)) (by rfl) T.z_isinstance bo_isinstance (pa_cons (pv 3) (pa_cons (pe_bltn (v := .ty "dict") (by rfl) T.z_dict bo_dict rfl) pa_nil))))) (pw_or1 (pt_not (pt_val (pe_callB (cr_all rfl) (by rfl) T.z_all bo_all (pa_cons (pe_un isB_lc (pe_lc (own := [("exponents", 4)]) rfl nd (pi_keysW (pv 3)) (blkOk_by (N := ["prime", "letters", "most", "value", "exponents", "number", "degrees"]) (sc := defScope s_are_terms) (by decide +kernel)) (fun _ _ _ _ _ => by exact (pg_name (i := 4) nd rfl (Or.inl rfl))) (fun _ _ _ _ _ => by exact pts_nil) (fun _ _ _ _ _ => by exact (pe_fn G_are_exponents (hr.mono (by decide)) (pa_cons (pv 1) (pa_cons (pv 4) pa_nil)))))) pa_nil))))))) (pss_one (ps_ret pe_bl)) pss_nil) (pss_cons (ps_if (pt_not (pt_val (pe_callB (cr_all rfl) (by rfl) T.z_all bo_all (pa_cons (pe_un isB_lc (pe_lc (own := [("number", 5)]) rfl nd (pi_valsW (pv 3)) (blkOk_by (N := ["prime", "letters", "most", "value", "exponents", "number", "degrees"]) (sc := defScope s_are_terms) (by decide +kernel)) (fun _ _ _ _ _ => by exact (pg_name (i := 5) nd rfl (Or.inl rfl))) (fun _ _ _ _ _ => by exact pts_nil) (fun _ _ _ _ _ => by exact (pe_and (pe_fn G_fits (hr.mono (by decide)) (pa_cons (pv 0) (pa_cons (pv 5) pa_nil))) (pe_one (pe_cmpR op_ne (pv 5) pe_int (nomark _))))))) pa_nil)))) (pss_one (ps_ret pe_bl)) pss_nil) (pss_cons (ps_unA isB_lc (ps_setLc (i := 6) (own := [("exponents", 4)]) rfl nd rfl rfl (sw_true rfl rfl rfl (by decide +kernel)) (pi_keysW (pv 3)) (blkOk_by (N := ["prime", "letters", "most", "value", "exponents", "number", "degrees"]) (sc := defScope s_are_terms) (by decide +kernel)) (fun _ _ _ _ _ => by exact (pg_name (i := 4) nd rfl (Or.inl rfl))) (fun _ _ _ _ _ => by exact pts_nil) (fun _ _ _ _ _ => by exact (pe_callB (c_ofK (K := K) (r := rSumT) (cr_sumT rfl)) (by rfl) T.z_sum bo_sum (pa_cons (pv 4) pa_nil))))) (pss_one (ps_ret (pe_or (pe_notT (pv 6)) (pe_one (pe_chain op_eq op_le (pe_callB (cr_min rfl) (by rfl) T.z_min bo_min (pa_cons (pv 6) pa_nil)) (pe_callB (cr_max rfl) (by rfl) T.z_max bo_max (pa_cons (pv 6) pa_nil)) (pv 2))))))))), fun as β r β' hR => ?_⟩)
  obtain ⟨p, l, T, rfl, ⟨hp, d, s, hd, hs, hT⟩, rfl, rfl, rfl⟩ := hR
  try dsimp only [cxOf, Cx.nox, Cx.wish]
  have few := hT.few hd
  have l23 := hd.l
  have kx : ∀ q ∈ cD T, keyOk l q.1 := fun q hq => by
    obtain ⟨r, hr, rfl⟩ := List.mem_map.mp hq
    obtain ⟨h1, h2, h3⟩ := hT.hom r.1 (List.mem_map_of_mem hr)
    refine ⟨h1, fun x hx => ⟨h2 x hx, ?_⟩⟩
    have le := le_sum h2 x hx
    have top : d ≤ 40 := by rcases hd with ⟨_, h⟩ | ⟨_, h⟩ <;> omega
    omega
  have fewD : (cD T).length ≤ 1000 := by rw [List.length_map]; exact few
  have a1 : EvB K (tCB (rAll K) (tCons (TD.tUn Itkt (tVar 3) fun wi => tLc wi (gName 4) tYes (tCall (spR K R_are_exponents) [] E0 (tCons (tVar 1) (tCons (tVar 4) tNil))) [4]) tNil)) (startR ["prime", "letters", "most", "value", "exponents", "number", "degrees"] [.imm (.int p), .imm (.int l), .imm (.int 40), .imm (dT (cD T))]) none (.bool true) none := by
    refine (d_all (bs := (cD T).map fun _ => true) ((d_lcW (wk_keys 4) (d_var rfl) (LcF.map (fun _ => .bool true) fun q hq => d_call0 (a_con (d_var rfl) (a_con (d_var rfl) a_nil)) ⟨l, q.1, rfl, ⟨l23, kx q hq⟩, rfl, rfl, rfl⟩) (by rw [List.length_map]; omega)).to (by exact congrArg PyData.list List.map_map.symm))).to ?_
    refine congrArg PyData.bool (List.all_eq_true.mpr fun c hc => ?_)
    obtain ⟨q, hq, rfl⟩ := List.mem_map.mp hc
    rfl
  have num : ∀ q ∈ T, Num.fits p (.int q.2) = true ∧ q.2 ≠ 0 := fun q hq => by
    have small : q.2.natAbs ≤ 2 ^ 100 := Nat.le_trans (hT.co q hq) (Nat.pow_le_pow_right (by decide) hs)
    have big : (2 : Nat) ^ 100 < 10 ^ 60 := by decide
    have b1 : -Num.big < q.2 ∧ q.2 < Num.big := by unfold Num.big; omega
    refine ⟨?_, hT.clean.ne q hq⟩
    show ((decide (-Num.big < q.2) && decide (q.2 < Num.big)) && (decide (p = 0) || (decide (0 ≤ q.2) && decide (q.2 < p)))) = true
    rw [decide_eq_true b1.1, decide_eq_true b1.2]
    by_cases z : p = 0
    · rw [decide_eq_true z]
      rfl
    · have := hT.clean.fit z q hq
      rw [decide_eq_true this.1, decide_eq_true this.2, Bool.and_self, Bool.or_true]
      rfl
  have a2 : EvB K (tCB (rAll K) (tCons (TD.tUn Itdt (tVar 3) fun wi => tLc wi (gName 5) tYes (tAndV (tCall (spR K R_fits) [] E0 (tCons (tVar 0) (tCons (tVar 5) tNil))) (tOp rNe (tVar 5) (tC (V.int 0)))) [5]) tNil)) (startR ["prime", "letters", "most", "value", "exponents", "number", "degrees"] [.imm (.int p), .imm (.int l), .imm (.int 40), .imm (dT (cD T))]) none (.bool true) none := by
    refine (d_all (bs := (cD T).map fun _ => true) ((d_lcW (wk_vals 5) (d_var rfl) (LcF.map (fun _ => .bool true) fun q hq => ?_) (by rw [List.length_map]; omega)).to (by exact congrArg PyData.list List.map_map.symm))).to ?_
    · obtain ⟨r, hr, rfl⟩ := List.mem_map.mp hq
      have := num r hr
      exact d_andT ((c_f2 (a := PyData.int) (a' := anyD) (x := p) (y := PyData.int r.2) (d_var rfl) (d_var rfl) trivial).to (congrArg PyData.bool this.1)) ((d_neI (d_var rfl) d_int).to (by rw [decide_eq_false this.2] <;> rfl))
    · refine congrArg PyData.bool (List.all_eq_true.mpr fun c hc => ?_)
      obtain ⟨q, hq, rfl⟩ := List.mem_map.mp hc
      rfl
  have a3 : EvB K (TD.tUn Itkt (tVar 3) fun wi => tLc wi (gName 4) tYes (tCB (rSumT K) (tCons (tVar 4) tNil)) [4]) (startR ["prime", "letters", "most", "value", "exponents", "number", "degrees"] [.imm (.int p), .imm (.int l), .imm (.int 40), .imm (dT (cD T))]) none (.list ((T.map fun _ => (d : Int)).map PyData.int)) none := by
    refine (d_lcW (wk_keys 4) (d_var rfl) (LcF.map (fun _ => .int d) fun q hq => ?_) (by rw [List.length_map]; omega)).to ?_
    · obtain ⟨r, hr, rfl⟩ := List.mem_map.mp hq
      exact (d_sumT (ns := r.1) (d_var rfl)).to (by rw [(hT.hom r.1 (List.mem_map_of_mem hr)).2.2])
    · rw [List.map_map, List.map_map]
      rfl
  refine .ret (st_sq (st_ifF ((t_orF (TtB.to (t_not (t_B (d_isDict (d_var rfl)))) rfl) (t_not (t_B a1))).to rfl) st_next) (st_sq (st_ifF ((t_not (t_B a2)).to rfl) st_next) (st_sq (st_asg a3) (st_ret ?_))))
  cases T with
  | nil => exact d_orT ((d_notL (ds := []) (d_var rfl)).to rfl)
  | cons q T =>
    have mem : (d : Int) ∈ ((q :: T).map fun _ => (d : Int)) := List.mem_cons_self
    have all : ∀ y ∈ ((q :: T).map fun _ => (d : Int)), y = d := fun y hy => by
      obtain ⟨_, _, e⟩ := List.mem_map.mp hy
      exact e.symm
    have top : (d : Int) ≤ 40 := by rcases hd with ⟨_, h⟩ | ⟨_, h⟩ <;> omega
    refine d_orF ((d_notL (ds := ((q :: T).map fun _ => (d : Int)).map PyData.int) (d_var rfl)).to rfl) (((d_chEqLe (d_minL (ns := (q :: T).map fun _ => (d : Int)) (M := d) (d_var rfl) mem fun y hy => by rw [all y hy]; exact Int.le_refl _) (d_max (ns := (q :: T).map fun _ => (d : Int)) (M := d) (d_var rfl) mem fun y hy => by rw [all y hy]; exact Int.le_refl _) (d_var rfl)).to (by rw [decide_eq_true rfl, decide_eq_true top] <;> rfl)))
abbrev s_scaled : Stmt := top 28
theorem sc_scaled : FnScope ["prime", "table", "times", "exponents", "number"] ["prime", "table", "times"] (defScope s_scaled) := ⟨rfl, rfl, rfl, by decide +kernel, rfl, by decide +kernel, by decide +kernel⟩
abbrev R_scaled : FR := fun as β r β' => ∃ (p t : Int) (T : CQ), as = [.imm (.int p), .imm (dT (cD T)), .imm (.int t)] ∧ (0 ≤ p ∧ (kyF T).Nodup ∧ T.length ≤ 1000 ∧ ∀ q ∈ T, CMulW q.2 t) ∧ r = dT (cD (scaT p T t)) ∧ β = none ∧ β' = none
theorem ok_scaled {P : Program} {w : World} {K : PySem.W.Frag} {mg : Str → Option Value} {base : Heap} {Y : Cn} (F : DefAt K "scaled" s_scaled) (hX : K.In base) (hG : base.Ns mainGlobals mg) (T : Txt K mg Y) (G_without_zeros : FnG P w K mg base 1 "without_zeros" ["prime", "sums"] R_without_zeros) : FnG P w K mg base 2 "scaled" ["prime", "table", "times"] R_scaled := by
  have nd := sc_scaled.nd
  refine fn_mk F hX hG sc_scaled (fun as β r β' h => by first | exact FR.len h | (obtain ⟨_, rfl, _⟩ := h; rfl) | (obtain ⟨_, _, rfl, _⟩ := h; rfl) | (obtain ⟨_, _, _, rfl, _⟩ := h; rfl) | (obtain ⟨_, _, _, _, rfl, _⟩ := h; rfl) | (obtain ⟨_, _, _, _, _, rfl, _⟩ := h; rfl)) (fun _ _ _ _ _ _ _ us hl => match us, hl with | [_, _, _], _ => rfl) (fun f cdv A outer s H E hr => ⟨_, (pss_one (ps_ret (pe_fn G_without_zeros (hr.mono (by decide)) (pa_cons (pv 0) (pa_cons (pe_un isB_dc (pe_dcP (own := [("exponents", 3), ("number", 4)]) (o0 := .dT []) (.inr rfl) (unitsU hr) rfl nd (pi_itemsW (pv 1)) (blkOk_by (N := ["prime", "table", "times", "exponents", "number"]) (sc := defScope s_scaled) (by decide +kernel)) (fun _ _ _ _ _ => by exact (pg_tupK (K := K) (n := 2) rfl (pgs_cons (pg_name (i := 3) nd rfl (Or.inl rfl)) (pgs_cons (pg_name (i := 4) nd rfl (Or.inl rfl)) pgs_nil)))) (fun _ _ _ _ _ => by exact pts_nil) (fun _ _ _ _ _ => by exact (pv 3)) (fun _ _ _ _ _ => by exact (pe_op op_mulW (pv 4) (pv 2))))) pa_nil))))), fun as β r β' hR => ?_⟩)
  obtain ⟨p, t, T, rfl, ⟨hp, nd, few, hm⟩, rfl, rfl, rfl⟩ := hR
  try dsimp only [cxOf, Cx.nox, Cx.wish]
  have fewD : (cD T).length ≤ 1000 := by rw [List.length_map]; exact few
  have ev : EvB K (TD.tUn Itit (tVar 1) fun wi => tDcP (HO.dT []) wi (gTup K 2 (gCons (gName 3) (gCons (gName 4) gNil))) tYes (tVar 3) (tOp (rI CMulW fun i j => V.int (i * j)) (tVar 4) (tVar 2)) [3, 4]) (startR ["prime", "table", "times", "exponents", "number"] [.imm (.int p), .imm (dT (cD T)), .imm (.int t)]) none (dT (cD (T.map fun q => (q.1, q.2 * t)))) none := by
    refine (d_dcW (wk_items 3 4) (qs := cD T) (d_var rfl) (DcF.map (fun q => q.1) (fun q => .int (Num.toI q.2 * t)) (fun q hq => d_var rfl) fun q hq => ?_) ?_ (by rw [List.length_map]; exact fewD)).to ?_
    · obtain ⟨r, hr, rfl⟩ := List.mem_map.mp hq
      exact d_mul (d_var rfl) (d_var rfl) (hm r hr)
    · rw [List.map_map, List.map_map]
      exact nd
    · refine congrArg dT ?_
      show List.map _ (List.map _ T) = List.map _ (List.map _ T)
      (rw [List.map_map, List.map_map])
      rfl
  exact .ret (st_ret (d_call0 (a_con (d_var rfl) (a_con ev a_nil)) ⟨p, T.map fun q => (q.1, q.2 * t), rfl, ⟨hp, by rw [sca_keys]; exact nd, by rw [List.length_map]; exact few⟩, rfl, rfl, rfl⟩))
abbrev s_added : Stmt := top 29
theorem sc_added : FnScope ["prime", "one", "other", "sums", "exponents", "number"] ["prime", "one", "other"] (defScope s_added) := ⟨rfl, rfl, rfl, by decide +kernel, rfl, by decide +kernel, by decide +kernel⟩
abbrev R_added : FR := fun as β r β' => ∃ (p : Int) (a b : CQ), as = [.imm (.int p), .imm (dT (cD a)), .imm (dT (cD b))] ∧ (0 ≤ p ∧ (kyF a).Nodup ∧ (kyF b).Nodup ∧ (∃ l d, lowD l d ∧ HomF l d a ∧ HomF l d b)) ∧ r = dT (cD (addT p a b)) ∧ β = none ∧ β' = none
theorem ok_added {P : Program} {w : World} {K : PySem.W.Frag} {mg : Str → Option Value} {base : Heap} {Y : Cn} (F : DefAt K "added" s_added) (hX : K.In base) (hG : base.Ns mainGlobals mg) (T : Txt K mg Y) (G_without_zeros : FnG P w K mg base 1 "without_zeros" ["prime", "sums"] R_without_zeros) : FnG P w K mg base 2 "added" ["prime", "one", "other"] R_added := by
  have nd := sc_added.nd
  refine fn_mk F hX hG sc_added (fun as β r β' h => by first | exact FR.len h | (obtain ⟨_, rfl, _⟩ := h; rfl) | (obtain ⟨_, _, rfl, _⟩ := h; rfl) | (obtain ⟨_, _, _, rfl, _⟩ := h; rfl) | (obtain ⟨_, _, _, _, rfl, _⟩ := h; rfl) | (obtain ⟨_, _, _, _, _, rfl, _⟩ := h; rfl)) (fun _ _ _ _ _ _ _ us hl => match us, hl with | [_, _, _], _ => rfl) (fun f cdv A outer s H E hr => ⟨_, (pss_cons (ps_unA isB_dc (ps_setDc (i := 3) (own := [("exponents", 4), ("number", 5)]) (o0 := .dT []) rfl rfl (sw_dc rfl rfl rfl (by decide +kernel)) (.inr rfl) (unitsU hr) rfl nd (pi_itemsW (pv 1)) (blkOk_by (N := ["prime", "one", "other", "sums", "exponents", "number"]) (sc := defScope s_added) (by decide +kernel)) (fun _ _ _ _ _ => by exact (pg_tupK (K := K) (n := 2) rfl (pgs_cons (pg_name (i := 4) nd rfl (Or.inl rfl)) (pgs_cons (pg_name (i := 5) nd rfl (Or.inl rfl)) pgs_nil)))) (fun _ _ _ _ _ => by exact pts_nil) (fun _ _ _ _ _ => by exact (pv 4)) (fun _ _ _ _ _ => by exact (pv 5)))) (pss_cons (ps_un (ps_for PassesOwn.never rfl (pi_itemsW (pv 2)) (pg_tupK (K := K) (n := 2) rfl (pgs_cons (pg_name (i := 4) nd rfl (Or.inl rfl)) (pgs_cons (pg_name (i := 5) nd rfl (Or.inl rfl)) pgs_nil))) (pss_one (ps_dput (unitsD hr) (pv 3) (pv 4) (pe_op op_add (pe_dget2 (unitsD hr) (pv 3) (pv 4) pe_int ⟨rfl, rfl, rfl, rfl⟩) (pv 5)) (by rfl))))) (pss_one (ps_ret (pe_fn G_without_zeros (hr.mono (by decide)) (pa_cons (pv 0) (pa_cons (pv 3) pa_nil))))))), fun as β r β' hR => ?_⟩)
  obtain ⟨p, a, b, rfl, ⟨hp, na, nb, l, d, hd, ha, hb⟩, rfl, rfl, rfl⟩ := hR
  try dsimp only [cxOf, Cx.nox, Cx.wish]
  have fa := hom_few hd na ha
  have copy : EvN K (TD.tUn Itit (tVar 1) fun wi => tDcP (HO.dT []) wi (gTup K 2 (gCons (gName 4) (gCons (gName 5) gNil))) tYes (tVar 4) (tVar 5) [4, 5]) (startR ["prime", "one", "other", "sums", "exponents", "number"] [.imm (.int p), .imm (dT (cD a)), .imm (dT (cD b))]) none (dT (cD a)) none := by
    have h := en_dcW (K := K) (wk_items 4 5) (tt := tYes) (tk := tVar 4) (tv := tVar 5) (td := tVar 1) (ρ := startR ["prime", "one", "other", "sums", "exponents", "number"] [.imm (.int p), .imm (dT (cD a)), .imm (dT (cD b))]) (β := none) (β1 := none) (qs := cD a) (vs := [4, 5]) (d_var rfl) (DcF.map (fun q => q.1) (fun q => q.2) (fun q hq => d_var rfl) fun q hq => d_var rfl) (by rw [List.map_map, List.map_map]; exact na) (by rw [List.length_map, List.length_map]; exact fa)
    rw [show (cD a).map (fun q : QD => (q.1, q.2)) = cD a from List.map_id _] at h
    exact h
  obtain ⟨x, y, loop⟩ := add_loop (K := K) (P := some (.imm (.int p))) (A := some (.imm (dT (cD a)))) (B := some (.imm (dT (cD b)))) hd b a none none na ha hb
  have hom := ha.plus (g := (· + ·)) hb
  have nd := plus_nd (b := b) na
  exact .ret (st_own (by show 3 < 6; decide) copy (sp_seq (sw_forW (wk_items 4 5) (by decide) (fun q ρ h => by rw [List.getElem?_set_ne (by decide), List.getElem?_set_ne (by decide)]; exact h) (ew_plain fun _ => d_var rfl) loop) (sp_end (st_ret (d_call0 (a_con (d_var rfl) (a_con (d_var rfl) a_nil)) ⟨p, plusF (· + ·) a b, rfl, ⟨hp, nd, hom_few hd nd hom⟩, rfl, rfl, rfl⟩)))))
abbrev s_packed : Stmt := top 30
theorem sc_packed : FnScope ["exponents", "code", "exponent"] ["exponents"] (defScope s_packed) := ⟨rfl, rfl, rfl, by decide +kernel, rfl, by decide +kernel, by decide +kernel⟩
abbrev R_packed : FR := fun as β r β' => ∃ (k : List Int), as = [.imm (tupD k)] ∧ ((k.length = 2 ∨ k.length = 3) ∧ ∀ x ∈ k, 0 ≤ x ∧ x < 65536) ∧ r = .int (packF k) ∧ β = none ∧ β' = none
theorem ok_packed {P : Program} {w : World} {K : PySem.W.Frag} {mg : Str → Option Value} {base : Heap} {Y : Cn} (F : DefAt K "packed" s_packed) (hX : K.In base) (hG : base.Ns mainGlobals mg) (T : Txt K mg Y)  : FnG P w K mg base 1 "packed" ["exponents"] R_packed := by
  have nd := sc_packed.nd
  refine fn_mk F hX hG sc_packed (fun as β r β' h => by first | exact FR.len h | (obtain ⟨_, rfl, _⟩ := h; rfl) | (obtain ⟨_, _, rfl, _⟩ := h; rfl) | (obtain ⟨_, _, _, rfl, _⟩ := h; rfl) | (obtain ⟨_, _, _, _, rfl, _⟩ := h; rfl) | (obtain ⟨_, _, _, _, _, rfl, _⟩ := h; rfl)) (fun _ _ _ _ _ _ _ us hl => match us, hl with | [_], _ => rfl) (fun f cdv A outer s H E hr => ⟨_, (pss_cons (ps_set (i := 1) nd rfl (Or.inl rfl) pe_int) (pss_cons (ps_for PassesOwn.never rfl (pi_tup (pv 0)) (pg_name (i := 2) nd rfl (Or.inl rfl)) (pss_one (ps_set (i := 1) nd rfl (Or.inl rfl) (pe_op op_add (pe_op op_mulW (pv 1) (pe_glob (v := .int _) (by rfl) T.c_SPAN ⟨_, rfl⟩)) (pv 2))))) (pss_one (ps_ret (pv 1))))), fun as β r β' hR => ?_⟩)
  obtain ⟨k, rfl, ⟨hl, hk⟩, rfl, rfl, rfl⟩ := hR
  try dsimp only [cxOf, Cx.nox, Cx.wish]
  have go : ∀ (a b : Int), (0 ≤ a ∧ a < 65536) → (0 ≤ b ∧ b < 65536) → ∀ rest o, (ForR K 2 (tAsg (tOp (rI0 fun i j => V.int (i + j)) (tOp (rI CMulW fun i j => V.int (i * j)) (tVar 1) (tC (V.int 65536))) (tVar 2)) (gName 1)) rest [some (.imm (tupD k)), some (.imm (.int ((0 * 65536 + a) * 65536 + b))), some (.imm (.int b))] none o none) →
      ForR K 2 (tAsg (tOp (rI0 fun i j => V.int (i + j)) (tOp (rI CMulW fun i j => V.int (i * j)) (tVar 1) (tC (V.int 65536))) (tVar 2)) (gName 1)) (.int a :: .int b :: rest) [some (.imm (tupD k)), some (.imm (.int 0)), none] none o none := fun a b ha hb rest o h =>
    .nx (st_asg (d_add (d_mul (d_var rfl) d_int (mulW (a := 40) (b := 20) (by decide) (by decide) (by decide))) (d_var rfl))) (.nx (st_asg (d_add (d_mul (d_var rfl) d_int (mulW (i := 0 * 65536 + a) (a := 40) (b := 20) (by omega) (by decide) (by decide))) (d_var rfl))) h)
  rcases hl with hl | hl
  · match k, hl with
    | [a, b], _ =>
      exact .ret (st_sq (st_asg d_int) (st_sq (st_forT (ds := [.int a, .int b]) (d_var rfl) (go a b (hk a (by simp)) (hk b (by simp)) [] _ (.nil _ _))) (st_ret (d_var rfl))))
  · match k, hl with
    | [a, b, c], _ =>
      have ha := hk a (by simp)
      have hb := hk b (by simp)
      exact .ret (st_sq (st_asg d_int) (st_sq (st_forT (ds := [.int a, .int b, .int c]) (d_var rfl) (go a b ha hb [.int c] _ (.nx (st_asg (d_add (d_mul (d_var rfl) d_int (mulW (i := (0 * 65536 + a) * 65536 + b) (a := 40) (b := 20) (by omega) (by decide) (by decide))) (d_var rfl))) (.nil _ _)))) (st_ret (d_var rfl))))
abbrev s_unpacked : Stmt := top 31
theorem sc_unpacked : FnScope ["letters", "code"] ["letters", "code"] (defScope s_unpacked) := ⟨rfl, rfl, rfl, by decide +kernel, rfl, by decide +kernel, by decide +kernel⟩
abbrev R_unpacked : FR := fun as β r β' => ∃ (l : Nat) (k : List Int), as = [.imm (.int l), .imm (.int (packF k))] ∧ ((l = 2 ∨ l = 3) ∧ k.length = l ∧ ∀ x ∈ k, 0 ≤ x ∧ x < 65536) ∧ r = tupD k ∧ β = none ∧ β' = none
theorem ok_unpacked {P : Program} {w : World} {K : PySem.W.Frag} {mg : Str → Option Value} {base : Heap} {Y : Cn} (F : DefAt K "unpacked" s_unpacked) (hX : K.In base) (hG : base.Ns mainGlobals mg) (T : Txt K mg Y)  : FnG P w K mg base 1 "unpacked" ["letters", "code"] R_unpacked := by
  have nd := sc_unpacked.nd
  refine fn_mk F hX hG sc_unpacked (fun as β r β' h => by first | exact FR.len h | (obtain ⟨_, rfl, _⟩ := h; rfl) | (obtain ⟨_, _, rfl, _⟩ := h; rfl) | (obtain ⟨_, _, _, rfl, _⟩ := h; rfl) | (obtain ⟨_, _, _, _, rfl, _⟩ := h; rfl) | (obtain ⟨_, _, _, _, _, rfl, _⟩ := h; rfl)) (fun _ _ _ _ _ _ _ us hl => match us, hl with | [_, _], _ => rfl) (fun f cdv A outer s H E hr => ⟨_, (pss_cons (ps_if (pt_cmpR op_eq (pv 0) pe_int (nomark _)) (pss_one (ps_ret (pe_tup (pa_cons (pe_op op_fdivV (pv 1) (pe_glob (v := .int _) (by rfl) T.c_SPAN ⟨_, rfl⟩)) (pa_cons (pe_op op_mod (pv 1) (pe_glob (v := .int _) (by rfl) T.c_SPAN ⟨_, rfl⟩)) pa_nil))))) pss_nil) (pss_one (ps_ret (pe_tup (pa_cons (pe_op op_fdivV (pe_op op_fdivV (pv 1) (pe_glob (v := .int _) (by rfl) T.c_SPAN ⟨_, rfl⟩)) (pe_glob (v := .int _) (by rfl) T.c_SPAN ⟨_, rfl⟩)) (pa_cons (pe_op op_mod (pe_op op_fdivV (pv 1) (pe_glob (v := .int _) (by rfl) T.c_SPAN ⟨_, rfl⟩)) (pe_glob (v := .int _) (by rfl) T.c_SPAN ⟨_, rfl⟩)) (pa_cons (pe_op op_mod (pv 1) (pe_glob (v := .int _) (by rfl) T.c_SPAN ⟨_, rfl⟩)) pa_nil))))))), fun as β r β' hR => ?_⟩)
  obtain ⟨l, k, rfl, ⟨hl, hk, hx⟩, rfl, rfl, rfl⟩ := hR
  try dsimp only [cxOf, Cx.nox, Cx.wish]
  have dv : CDivV 0 65536 := ⟨by decide, by decide⟩
  have ev : ∀ {i : Int} {te : TE} {ρ : Rho}, EvB K te ρ none (.int i) none → EvB K (tOp (rI CDivV fun i j => V.int (i.fdiv j)) te (tC (V.int 65536))) ρ none (.int (i / 65536)) none := fun {i te ρ} h => (d_fdiv h d_int (C := CDivV) dv).to (by rw [Int.fdiv_eq_ediv_of_nonneg _ (by decide)])
  rcases hl with rfl | rfl
  · match k, hk with
    | [a, b], _ =>
      have ha := hx a (by simp)
      have hb := hx b (by simp)
      have e1 : packF [a, b] / 65536 = a := by
        show ((0 * 65536 + a) * 65536 + b) / 65536 = a
        omega
      have e2 : packF [a, b] % 65536 = b := by
        show ((0 * 65536 + a) * 65536 + b) % 65536 = b
        omega
      refine .ret (st_seqR (st_ifT ((t_test (d_eqI (d_var rfl) d_int)).to rfl) (st_ret ((d_tup (ds := [.int (packF [a, b] / 65536), .int (packF [a, b] % 65536)]) (a_con (ev (d_var rfl)) (a_con (d_mod (d_var rfl) d_int (by decide)) a_nil)) rfl (by show 2 ≤ 100000; decide)).to ?_))))
      rw [e1, e2]
      rfl
  · match k, hk with
    | [a, b, c], _ =>
      have ha := hx a (by simp)
      have hb := hx b (by simp)
      have hc := hx c (by simp)
      have e1 : packF [a, b, c] / 65536 / 65536 = a := by
        show (((0 * 65536 + a) * 65536 + b) * 65536 + c) / 65536 / 65536 = a
        omega
      have e2 : packF [a, b, c] / 65536 % 65536 = b := by
        show (((0 * 65536 + a) * 65536 + b) * 65536 + c) / 65536 % 65536 = b
        omega
      have e3 : packF [a, b, c] % 65536 = c := by
        show (((0 * 65536 + a) * 65536 + b) * 65536 + c) % 65536 = c
        omega
      refine .ret (st_sq (st_ifF ((t_test (d_eqI (d_var rfl) d_int)).to rfl) st_next) (st_ret ((d_tup (ds := [.int (packF [a, b, c] / 65536 / 65536), .int (packF [a, b, c] / 65536 % 65536), .int (packF [a, b, c] % 65536)]) (a_con (ev (ev (d_var rfl))) (a_con (d_mod (ev (d_var rfl)) d_int (by decide)) (a_con (d_mod (d_var rfl) d_int (by decide)) a_nil))) rfl (by show 3 ≤ 100000; decide)).to ?_)))
      rw [e1, e2, e3]
      rfl
abbrev s_unit : Stmt := top 33
theorem sc_unit : FnScope ["letters"] ["letters"] (defScope s_unit) := ⟨rfl, rfl, rfl, by decide +kernel, rfl, by decide +kernel, by decide +kernel⟩
abbrev R_unit : FR := fun as β r β' => ∃ (l : Nat), as = [.imm (.int l)] ∧ (l = 2 ∨ l = 3) ∧ r = dT (cD [(List.replicate l 0, 1)]) ∧ β = none ∧ β' = none
theorem ok_unit {P : Program} {w : World} {K : PySem.W.Frag} {mg : Str → Option Value} {base : Heap} {Y : Cn} (F : DefAt K "unit" s_unit) (hX : K.In base) (hG : base.Ns mainGlobals mg) (T : Txt K mg Y)  : FnG P w K mg base 1 "unit" ["letters"] R_unit := by
  have nd := sc_unit.nd
  refine fn_mk F hX hG sc_unit (fun as β r β' h => by first | exact FR.len h | (obtain ⟨_, rfl, _⟩ := h; rfl) | (obtain ⟨_, _, rfl, _⟩ := h; rfl) | (obtain ⟨_, _, _, rfl, _⟩ := h; rfl) | (obtain ⟨_, _, _, _, rfl, _⟩ := h; rfl) | (obtain ⟨_, _, _, _, _, rfl, _⟩ := h; rfl)) (fun _ _ _ _ _ _ _ us hl => match us, hl with | [_], _ => rfl) (fun f cdv A outer s H E hr => ⟨_, (pss_one (ps_ret (pe_dispT hr (pps_cons (pe_op op_repT (pe_tup (pa_cons pe_int pa_nil)) (pv 0)) pe_int pps_nil) (by rfl) (by rfl) (by simp) (by decide)))), fun as β r β' hR => ?_⟩)
  obtain ⟨l, rfl, hl, rfl, rfl, rfl⟩ := hR
  try dsimp only [cxOf, Cx.nox, Cx.wish]
  have big : (2 : Int) ≤ (l : Int) ∧ (l : Int) ≤ 1000 := by omega
  refine .ret (st_ret (d_dispT (qs := [(List.replicate l 0, .int 1)]) (.cons ((d_repT (ds := [.int 0]) (d_tup (a_con d_int a_nil) rfl (by decide)) (d_var rfl) (by simp) big.1 big.2 (by decide)).to ?_) d_int .nil) (by simp) (by show 1 ≤ 15; decide)))
  rcases hl with rfl | rfl <;> rfl
end K05
set_option Elab.async false
set_option linter.all false
set_option maxRecDepth 100000
set_option maxHeartbeats 2000100
namespace TD
open PySem L2 PySem.Spec PyProof.Rows
open Evl (Ex ex_l ex_t fresh_back sq_of st_of sz_of sz_lt)
inductive ForU [TabW] (K : PySem.W.Frag) (is : List Nat) (tu : TS) : List (List Dt) → Rho → Bag → Rho → Bag → Prop
  | nil (ρ : Rho) (β : Bag) : ForU K is tu [] ρ β ρ β
  | nx {r : List Dt} {rs : List (List Dt)} {ρ ρ1 ρ2 : Rho} {β β1 β2 : Bag} : StB K tu (setR ρ is r) β (.nx ρ1) β1 → ForU K is tu rs ρ1 β1 ρ2 β2 → ForU K is tu (r :: rs) ρ β ρ2 β2
section
variable [TabW] {K : PySem.W.Frag} {ρ ρ2 : Rho} {β β1 β2 : Bag} {tl : TE} {tu : TS} {is : List Nat} {n : Nat} {rows : List (List Dt)}
theorem ForU.som (h : ForU K is tu rows ρ β ρ2 β2) : β2.isSome = β.isSome := by
  induction h with
  | nil => rfl
  | nx h _ ih => exact ih.trans h.som
end
end TD
set_option Elab.async false
set_option linter.all false
set_option maxRecDepth 100000
set_option maxHeartbeats 4100300
namespace TD
open PySem L2 PySem.Spec PyProof.Rows
open Evl (Ex ex_l ex_t fresh_back sq_of st_of sz_of sz_lt)
inductive ForWP [TabW] (K : PySem.W.Frag) (i j l : Nat) (tu : TS) : List (Dt × Dt) → Rho → Bag → Dt → Rho → Bag → Dt → Prop
  | nil (ρ : Rho) (β : Bag) (d : Dt) : ForWP K i j l tu [] ρ β d ρ β d
  | nx {q : Dt × Dt} {qs : List (Dt × Dt)} {ρ ρ1 ρ2 : Rho} {β β1 β2 : Bag} {d d1 d2 : Dt} : StW K i tu ((ρ.set j (some (.imm q.1))).set l (some (.imm q.2))) β d (.nx ρ1) β1 d1 → ForWP K i j l tu qs ρ1 β1 d1 ρ2 β2 d2 → ForWP K i j l tu (q :: qs) ρ β d ρ2 β2 d2
section
variable [TabW] {K : PySem.W.Frag} {b : Addr} {ρ ρ2 : Rho} {β β1 β2 : Bag} {tl : TE} {tu : TS} {d d2 : Dt} {i j l : Nat} {qs : List (Dt × Dt)}
theorem ForWP.som (h : ForWP K i j l tu qs ρ β d ρ2 β2 d2) : β2.isSome = β.isSome := by
  induction h with
  | nil => rfl
  | nx h _ ih => exact ih.trans h.som
abbrev pairO (q : Dt × Dt) : Dt := .tuple [q.1, q.2]
theorem sw_forP (hij : i ≠ j) (hil : i ≠ l) (hl : EvW K i tl ρ β d (.list (qs.map pairO)) β1) (h : ForWP K i j l tu qs ρ β1 d ρ2 β2 d2) : StW K i (tFor (iList K tl) (gTup K 2 (gCons (gName j) (gCons (gName l) gNil))) tu) ρ β d (.nx ρ2) β2 d2 := by
  refine ⟨h.som.trans hl.som, fun b G0 H0 G H σ p D gn s w k => hl.run b G H σ p _ w fun v G1 H1 s1 w1 dv => ?_⟩
  cases dv with
  | @lst a xs _ hs hd =>
    obtain ⟨Hb, gb, sb, sc⟩ := w1.base gn (s.trans s1)
    have kb := k.of sb
    have some_ : β1.isSome = β.isSome := hl.som
    refine ⟨a, rfl, ⟨xs, sq_of (w1.env.sub _ _ hs)⟩, for_list (K := K) (a := a) (xs := xs) (fun n σ' H' => ∃ G' ρ' β' d', Step b β.isSome G1 Hb G' H' ∧ β'.isSome = β.isSome ∧ OwnW K b β' i p G' H' σ' ρ' d' ∧ ForWP K i j l tu (qs.drop n) ρ' β' d' ρ2 β2 d2) ⟨G1, ρ, β1, d, sc, some_, w1, h⟩ ?_ ?_ ?_⟩
    · rintro n σ' H' _ ⟨G', ρ', β', d', s', _, w', _⟩
      exact sq_of (w'.env.sub _ _ (s'.g _ _ hs))
    · rintro n v σ' H' at_ ⟨G', ρ', β', d', s', m', w', r'⟩
      obtain ⟨y, e1, dy⟩ := hd.get at_
      have lt : n < qs.length := by
        have := (List.getElem?_eq_some_iff.mp e1).1
        rwa [List.length_map] at this
      rw [List.getElem?_map, List.getElem?_eq_getElem lt] at e1
      obtain rfl : pairO qs[n] = y := Option.some.inj e1
      rw [List.drop_eq_getElem_cons lt] at r'
      have dy := dy.mono s'.g
      generalize qs[n] = q at dy r'
      cases r' with
      | nx one rest =>
        cases dy with
        | @tup c ys _ hc hy =>
          cases hy with
          | cons d1 hy =>
            cases hy with
            | cons d2 hy =>
              cases hy
              refine ⟨c, _, rfl, ex_t w'.env.sub (st_of (K := K) hc), rfl, _, _, rfl, _, _, rfl, rfl, ?_⟩
              exact one.run b G1 Hb G' H' _ p _ gb (m' ▸ s') ((w'.setJ hij d1).setJ hil d2) fun σ3 G3 H3 s3 w3 => ⟨G3, _, _, _, m' ▸ s3, one.som.trans m', w3, rest⟩
    · rintro σ' H' ⟨G', ρ', β', d', s', m', w', r'⟩
      rw [hd.length, List.length_map, List.drop_length] at r'
      cases r'
      exact kb σ' G' H' s' w'
end
section
variable [TabW] {K : PySem.W.Frag} {ρ : Rho} {β β1 β2 β3 : Bag} {td ty tx : TE} {x : Dt} {qs : List (Int × Dt)} {i : Int}
/-- d.get(i, x) -/
theorem d_dget2I (ha : EvB K td ρ β (dI qs) β1) (hb : EvB K ty ρ β1 (.int i) β2) (hx : EvB K tx ρ β2 x β3) : EvB K (tDGet2 td ty tx) ρ β ((getI qs i).getD x) β3 := by
  refine ⟨hx.som.trans (hb.som.trans ha.som), fun b G H σ Q E kk => ha.run b G H σ _ E fun v G1 H1 s1 k1 d1 => ?_⟩
  obtain ⟨a, kvs, rfl, hs, hq⟩ := den_dI d1
  have E1 := E.step s1 k1
  refine ⟨a, rfl, .inl ⟨_, rd_ex s1.s hs⟩, hb.run b G1 H1 σ _ E1 fun y G2 H2 s2 k2 d2 => hx.run b G2 H2 σ _ (E1.step s2 k2) fun z G3 H3 s3 k3 d3 => ?_⟩
  rw [ha.som] at s2
  rw [hb.som, ha.som] at s3
  have s23 := s2.trans s3
  cases d2
  refine ⟨getI kvs i, .inl ⟨keysO kvs, Sum.inl i, rd_ex s3.s (rd_ex s23.g hs), rfl, (keys_val ..).symm⟩, ?_⟩
  rcases hq.val i with ⟨e1, e2⟩ | ⟨v, d', e1, e2, e3⟩
  · rw [e2] at kk
    rw [e1]
    exact kk z G3 H3 (s1.trans s23) k3 d3
  · rw [e2] at kk
    rw [e1]
    exact kk v G3 H3 (s1.trans s23) k3 (e3.mono s23.g)
end
end TD
set_option Elab.async false
set_option linter.all false
set_option maxRecDepth 100000
set_option maxHeartbeats 1100000
namespace K05
open PySem L2 TD PySem.Spec PyProof.Rows
open Evl (Ex ex_l ex_t fresh_back sq_of st_of sz_of sz_lt)
variable [TabW]
/-- a table under codes -/
abbrev pkF (T : CQ) : List QI := T.map fun q => (packF q.1, PyData.int q.2)
abbrev inSpan (l : Nat) (k : List Int) : Prop := (l = 2 ∨ l = 3) ∧ k.length = l ∧ ∀ x ∈ k, 0 ≤ x ∧ x < 65536
theorem pack_inj {l : Nat} {k m : List Int} (h : inSpan l k) (h' : inSpan l m) (e : packF k = packF m) : k = m := by
  obtain ⟨hl, h1, h2⟩ := h
  obtain ⟨_, h3, h4⟩ := h'
  rcases hl with rfl | rfl
  · match k, h1, m, h3 with
    | [a, b], _, [c, d], _ =>
      have ha := h2 a (by simp)
      have hb := h2 b (by simp)
      have hc := h4 c (by simp)
      have hd := h4 d (by simp)
      have e : (0 * 65536 + a) * 65536 + b = (0 * 65536 + c) * 65536 + d := e
      have e1 : a = c := by omega
      have e2 : b = d := by omega
      rw [e1, e2]
  · match k, h1, m, h3 with
    | [a, b, x], _, [c, d, y], _ =>
      have ha := h2 a (by simp)
      have hb := h2 b (by simp)
      have hx := h2 x (by simp)
      have hc := h4 c (by simp)
      have hd := h4 d (by simp)
      have hy := h4 y (by simp)
      have e : ((0 * 65536 + a) * 65536 + b) * 65536 + x = ((0 * 65536 + c) * 65536 + d) * 65536 + y := e
      have e1 : a = c := by omega
      have e2 : b = d := by omega
      have e3 : x = y := by omega
      rw [e1, e2, e3]
theorem pack_zs {l : Nat} {k m : List Int} (hl : l = 2 ∨ l = 3) (h1 : k.length = l) (h3 : m.length = l) : packF (zs k m) = packF k + packF m := by
  rcases hl with rfl | rfl
  · match k, h1, m, h3 with
    | [a, b], _, [c, d], _ =>
      show (0 * 65536 + (a + c)) * 65536 + (b + d) = ((0 * 65536 + a) * 65536 + b) + ((0 * 65536 + c) * 65536 + d)
      omega
  · match k, h1, m, h3 with
    | [a, b, x], _, [c, d, y], _ =>
      show ((0 * 65536 + (a + c)) * 65536 + (b + d)) * 65536 + (x + y) = (((0 * 65536 + a) * 65536 + b) * 65536 + x) + (((0 * 65536 + c) * 65536 + d) * 65536 + y)
      omega
theorem pk_dec {l : Nat} {k m : List Int} (h : inSpan l k) (h' : inSpan l m) : decide (packF k = packF m) = decide (k = m) := by
  by_cases e : k = m
  · rw [e, decide_eq_true rfl, decide_eq_true rfl]
  · rw [decide_eq_false e, decide_eq_false fun z => e (pack_inj h h' z)]
theorem pk_find {l : Nat} {k : List Int} (hk : inSpan l k) : ∀ {T : CQ}, (∀ m ∈ kyF T, inSpan l m) → (pkF T).find? (fun q => decide (q.1 = packF k)) = (T.find? fun q => decide (q.1 = k)).map fun q => (packF q.1, PyData.int q.2)
  | [], _ => rfl
  | q :: T, h => by
    show List.find? _ ((packF q.1, PyData.int q.2) :: pkF T) = _
    rw [List.find?_cons, List.find?_cons]
    show (match decide (packF q.1 = packF k) with | true => some (packF q.1, PyData.int q.2) | false => _) = _
    rw [pk_dec (h q.1 List.mem_cons_self) hk]
    cases decide (q.1 = k) with
    | true => rfl
    | false => exact pk_find hk fun m hm => h m (List.mem_cons_of_mem _ hm)
theorem pk_at {l : Nat} {k : List Int} (hk : inSpan l k) {T : CQ} (h : ∀ m ∈ kyF T, inSpan l m) : (getI (pkF T) (packF k)).getD (.int 0) = .int (at0 T k) := by
  show (((pkF T).find? fun q => decide (q.1 = packF k)).map (·.2)).getD (.int 0) = .int (((T.find? fun q => decide (q.1 = k)).map (·.2)).getD 0)
  rw [pk_find hk h]
  cases T.find? fun q => decide (q.1 = k) <;> rfl
theorem pk_any {l : Nat} {k : List Int} (hk : inSpan l k) : ∀ {T : CQ}, (∀ m ∈ kyF T, inSpan l m) → ((pkF T).any fun q => decide (q.1 = packF k)) = (T.any fun q => decide (q.1 = k))
  | [], _ => rfl
  | q :: T, h => by
    show (decide (packF q.1 = packF k) || (pkF T).any _) = (decide (q.1 = k) || T.any _)
    rw [pk_dec (h q.1 List.mem_cons_self) hk, pk_any hk fun m hm => h m (List.mem_cons_of_mem _ hm)]
theorem pk_put {l : Nat} {k : List Int} (hk : inSpan l k) {T : CQ} (h : ∀ m ∈ kyF T, inSpan l m) (v : Int) : putI (pkF T) (packF k) (.int v) = pkF (putT T k v) := by
  unfold putI putT
  rw [pk_any hk h]
  split
  · show List.map _ (List.map _ T) = List.map _ (List.map _ T)
    (rw [List.map_map, List.map_map])
    refine List.map_congr_left fun q hq => ?_
    show (if packF q.1 = packF k then (packF q.1, PyData.int v) else (packF q.1, PyData.int q.2)) = (packF (if q.1 = k then (q.1, v) else q).1, PyData.int (if q.1 = k then (q.1, v) else q).2)
    by_cases e : q.1 = k
    · rw [if_pos e, if_pos (by rw [e])]
    · rw [if_neg e, if_neg fun z => e (pack_inj (h q.1 (List.mem_map_of_mem hq)) hk z)]
  · show List.map _ T ++ _ = List.map _ (T ++ [(k, v)])
    rw [List.map_append]
    rfl
theorem span_of {l d : Nat} (hd : lowD l d) {k : List Int} (h : HomK l d k) : inSpan l k := by
  obtain ⟨h1, h2, h3⟩ := h
  refine ⟨hd.l, h1, fun x hx => ⟨h2 x hx, ?_⟩⟩
  have le := le_sum h2 x hx
  have top : d ≤ 40 := by rcases hd with ⟨_, h⟩ | ⟨_, h⟩ <;> omega
  omega
abbrev tuIn : TS := sDPut (tVar 7) (tOp (rI0 fun i j => V.int (i + j)) (tVar 9) (tVar 10)) (tOp (rI0 fun i j => V.int (i + j)) (tDGet2 (tVar 7) (tOp (rI0 fun i j => V.int (i + j)) (tVar 9) (tVar 10)) (tC (V.int 0))) (tOp (rI CMulW fun i j => V.int (i * j)) (tVar 8) (tVar 6)))
abbrev pairsF (b : CQ) : List (Dt × Dt) := b.map fun y => (.int (packF y.1), .int y.2)
theorem mul_in {K : PySem.W.Frag} {P L A B C S T U : Option Slot} {l d e : Nat} (hd : lowD l (d + e)) {x : List Int × Int} (hx : HomK l d x.1) : ∀ (b acc : CQ) (y z : Option Slot), (kyF acc).Nodup → HomF l ((d + e : Nat) : Int) acc → HomF l e b → (∀ q ∈ b, CMulW x.2 q.2) →
    ∃ y' z', ForWP K 7 10 6 tuIn (pairsF b) [P, L, A, B, C, S, y, none, some (.imm (.int x.2)), some (.imm (.int (packF x.1))), z, T, U] none (dI (pkF acc)) [P, L, A, B, C, S, y', none, some (.imm (.int x.2)), some (.imm (.int (packF x.1))), z', T, U] none (dI (pkF (timesIn (· + ·) x b acc)))
  | [], acc, y, z, _, _, _, _ => ⟨y, z, .nil _ _ _⟩
  | q :: b, acc, y, z, nd, ha, hb, hm => by
    have key : HomK l ((d + e : Nat) : Int) (zs x.1 q.1) := by
      rw [Int.natCast_add]
      exact hx.zs (hb q.1 List.mem_cons_self)
    have hacc : HomF l ((d + e : Nat) : Int) (putT acc (zs x.1 q.1) (at0 acc (zs x.1 q.1) + x.2 * q.2)) := fun k hk => (put_key.mp hk).elim (fun z => z ▸ key) (ha k)
    obtain ⟨y', z', rest⟩ := mul_in hd hx b (putT acc (zs x.1 q.1) (at0 acc (zs x.1 q.1) + x.2 * q.2)) (some (.imm (.int q.2))) (some (.imm (.int (packF q.1)))) (put_nd nd) hacc (fun k hk => hb k (List.mem_cons_of_mem _ hk)) fun r hr => hm r (List.mem_cons_of_mem _ hr)
    refine ⟨y', z', .nx ?_ rest⟩
    have spans : ∀ m ∈ kyF acc, inSpan l m := fun m hm => span_of hd (ha m hm)
    rw [← pk_put (span_of hd key) spans]
    have few := hom_few hd nd ha
    have sum : packF x.1 + packF q.1 = packF (zs x.1 q.1) := (pack_zs hd.l hx.1 (hb q.1 List.mem_cons_self).1).symm
    exact sw_putD (x := .int (at0 acc (zs x.1 q.1) + x.2 * q.2)) (i := packF (zs x.1 q.1)) (ew_frz (d_add ((d_dget2I (qs := pkF acc) (i := packF (zs x.1 q.1)) (d_var rfl) ((d_add (d_var rfl) (d_var rfl)).to (by rw [sum])) d_int).to (pk_at (span_of hd key) spans)) (d_mul (d_var rfl) (d_var rfl) (hm q List.mem_cons_self))) rfl) (ew_plain fun _ => (d_add (d_var rfl) (d_var rfl)).to (by rw [sum])) (by rw [List.length_map]; exact few)
theorem timesIn_hom {l d e : Nat} {x : List Int × Int} {b acc : CQ} (hx : HomK l d x.1) (ha : HomF l ((d + e : Nat) : Int) acc) (hb : HomF l e b) : HomF l ((d + e : Nat) : Int) (timesIn (· + ·) x b acc) := fun k hk => (timesIn_key hk).elim (ha k) fun ⟨y, hy, z⟩ => by
  rw [z, Int.natCast_add]
  exact hx.zs (hb y hy)
theorem timesIn_nd {x : List Int × Int} {b acc : CQ} (nd : (kyF acc).Nodup) : (kyF (timesIn (· + ·) x b acc)).Nodup := (ev_timesIn (p := 0) (g := (· + ·)) (fun n m => Cg.refl 0 _) x b nd).1
theorem mul_loop {K : PySem.W.Frag} {P L A B T U : Option Slot} {l d e : Nat} (hd : lowD l (d + e)) {tpk : TE} {b : CQ} (hb : HomF l e b)
    (pk : ∀ (k : List Int) (ρ : Rho), inSpan l k → ρ[5]? = some (some (.imm (tupD k))) → EvB K tpk ρ none (.int (packF k)) none) : ∀ (a acc : CQ) (s y w v z : Option Slot), (kyF acc).Nodup → HomF l ((d + e : Nat) : Int) acc → HomF l d a → (∀ x ∈ a, ∀ q ∈ b, CMulW x.2 q.2) →
    ∃ s' y' w' v' z', ForFW K 7 (FIt 5 8) (tSeq (tAsg tpk (gName 9)) (tFor (iList K (tVar 4)) (gTup K 2 (gCons (gName 10) (gCons (gName 6) gNil))) tuIn)) (cD a) [P, L, A, B, some (.imm (.list ((pairsF b).map pairO))), s, y, none, w, v, z, T, U] none (dI (pkF acc)) (.nx [P, L, A, B, some (.imm (.list ((pairsF b).map pairO))), s', y', none, w', v', z', T, U]) none (dI (pkF (timesF (· + ·) a b acc)))
  | [], acc, s, y, w, v, z, _, _, _, _ => ⟨s, y, w, v, z, .nil _ _ _⟩
  | x :: a, acc, s, y, w, v, z, nd, hacc, ha, hm => by
    have hx := ha x.1 List.mem_cons_self
    have low : lowD l d := by
      rcases hd with ⟨h1, h2⟩ | ⟨h1, h2⟩
      · exact .inl ⟨h1, by omega⟩
      · exact .inr ⟨h1, by omega⟩
    obtain ⟨y1, z1, inner⟩ := mul_in (K := K) (P := P) (L := L) (A := A) (B := B) (C := some (.imm (.list ((pairsF b).map pairO)))) (S := some (.imm (tupJ x.1))) (T := T) (U := U) hd hx b acc y z nd hacc hb (hm x List.mem_cons_self)
    obtain ⟨s', y', w', v', z', rest⟩ := mul_loop hd hb pk a (timesIn (· + ·) x b acc) (some (.imm (tupJ x.1))) y1 (some (.imm (.int x.2))) (some (.imm (.int (packF x.1)))) z1 (timesIn_nd nd) (timesIn_hom hx hacc hb) (fun k hk => ha k (List.mem_cons_of_mem _ hk)) fun r hr => hm r (List.mem_cons_of_mem _ hr)
    refine ⟨s', y', w', v', z', .nx ?_ rest⟩
    exact sw_seq (sw_asg (by decide) (ew_plain fun _ => pk x.1 _ (span_of low hx) rfl)) (sw_forP (by decide) (by decide) (ew_plain fun _ => d_var rfl) inner)
theorem nodup_on {f : List Int → Int} : ∀ {ks : List (List Int)}, (∀ k ∈ ks, ∀ m ∈ ks, f k = f m → k = m) → ks.Nodup → (ks.map f).Nodup
  | [], _, _ => List.nodup_nil
  | k :: ks, h, nd => by
    obtain ⟨h1, h2⟩ := List.nodup_cons.mp nd
    refine List.nodup_cons.mpr ⟨fun z => ?_, nodup_on (fun m hm n hn => h m (List.mem_cons_of_mem _ hm) n (List.mem_cons_of_mem _ hn)) h2⟩
    obtain ⟨m, hm, e⟩ := List.mem_map.mp z
    exact h1 (h m (List.mem_cons_of_mem _ hm) k List.mem_cons_self e ▸ hm)
/-- codes taken apart again -/
theorem dcg_unpack {K : PySem.W.Frag} {l : Nat} : ∀ (T : CQ) {ρ : Rho}, (∀ k ∈ kyF T, inSpan l k) → ρ[1]? = some (some (.imm (.int l))) → ρ.length = 13 → DcG K tupD (FI2 12 6) tYes (tCall (spR K R_unpacked) [] E0 (tCons (tVar 1) (tCons (tVar 12) tNil))) (tVar 6) (pkF T) ρ none (cD T) none
  | [], ρ, _, _, _ => .nil _ _
  | q :: T, ρ, h, h1, hl => by
    have hk := h q.1 List.mem_cons_self
    have s12 : (FI2 12 6 (packF q.1, PyData.int q.2) ρ)[12]? = some (some (.imm (.int (packF q.1)))) := by
      show ((ρ.set 12 _).set 6 _)[12]? = _
      rw [List.getElem?_set_ne (by decide), List.getElem?_set_self (by omega)]
    have s6 : (FI2 12 6 (packF q.1, PyData.int q.2) ρ)[6]? = some (some (.imm (.int q.2))) := by
      show ((ρ.set 12 _).set 6 _)[6]? = _
      rw [List.getElem?_set_self (by rw [List.length_set]; omega)]
    have s1 : (FI2 12 6 (packF q.1, PyData.int q.2) ρ)[1]? = some (some (.imm (.int l))) := by
      show ((ρ.set 12 _).set 6 _)[1]? = _
      rw [List.getElem?_set_ne (by decide), List.getElem?_set_ne (by decide)]
      exact h1
    exact .yes t_yes0 (d_call0 (a_con (d_var s1) (a_con (d_var s12) a_nil)) ⟨l, q.1, rfl, hk, rfl, rfl, rfl⟩) (d_var s6) (dcg_unpack T (fun m hm => h m (List.mem_cons_of_mem _ hm)) h1 hl)
/-- what a product asks of its tables -/
structure MulOk (p : Int) (l : Nat) (a b : CQ) : Prop where
  ex : ∃ d e s t : Nat, lowD l (d + e) ∧ HomF l d a ∧ HomF l e b ∧ CoF s a ∧ CoF t b ∧ s + t ≤ 1000
  na : (kyF a).Nodup
  nb : (kyF b).Nodup
abbrev s_without_zerosI : Stmt := top 27
theorem sc_without_zerosI : FnScope ["prime", "sums", "exponents", "number"] ["prime", "sums"] (defScope s_without_zerosI) := ⟨rfl, rfl, rfl, by decide +kernel, rfl, by decide +kernel, by decide +kernel⟩
abbrev R_without_zerosI : FR := fun as β r β' => ∃ p T, as = [.imm (.int p), .imm (dI (pkF T))] ∧ (0 ≤ p ∧ (T.map fun q => packF q.1).Nodup ∧ T.length ≤ 1000) ∧ r = dI (pkF (dropZ p T)) ∧ β = none ∧ β' = none
theorem ok_without_zerosI {P : Program} {w : World} {K : PySem.W.Frag} {mg : Str → Option Value} {base : Heap} {Y : Cn} (F : DefAt K "without_zeros" s_without_zerosI) (hX : K.In base) (hG : base.Ns mainGlobals mg) (T : Txt K mg Y)  : FnG P w K mg base 1 "without_zeros" ["prime", "sums"] R_without_zerosI := by
  have nd := sc_without_zerosI.nd
  refine fn_mk F hX hG sc_without_zerosI (fun as β r β' h => by first | exact FR.len h | (obtain ⟨_, rfl, _⟩ := h; rfl) | (obtain ⟨_, _, rfl, _⟩ := h; rfl) | (obtain ⟨_, _, _, rfl, _⟩ := h; rfl) | (obtain ⟨_, _, _, _, rfl, _⟩ := h; rfl) | (obtain ⟨_, _, _, _, _, rfl, _⟩ := h; rfl)) (fun _ _ _ _ _ _ _ us hl => match us, hl with | [_, _], _ => rfl) (fun f cdv A outer s H E hr => ⟨_, (pss_cons (ps_if (pt_tru (pv 0)) (pss_one (ps_ret (pe_unI isB_dc (pe_dcP (own := [("exponents", 2), ("number", 3)]) (o0 := .dK []) (.inl rfl) (unitsU hr) rfl nd (pi_itemsI (pv 1)) (blkOk_by (N := ["prime", "sums", "exponents", "number"]) (sc := defScope s_without_zerosI) (by decide +kernel)) (fun _ _ _ _ _ => by exact (pg_tupK (K := K) (n := 2) rfl (pgs_cons (pg_name (i := 2) nd rfl (Or.inl rfl)) (pgs_cons (pg_name (i := 3) nd rfl (Or.inl rfl)) pgs_nil)))) (fun _ _ _ _ _ => by exact (pts_one (pt_cmpR op_ne (pe_op op_mod (pv 3) (pv 0)) pe_int (nomark _)))) (fun _ _ _ _ _ => by exact (pv 2)) (fun _ _ _ _ _ => by exact (pe_op op_mod (pv 3) (pv 0))))))) pss_nil) (pss_one (ps_ret (pe_unI isB_dc (pe_dcP (own := [("exponents", 2), ("number", 3)]) (o0 := .dK []) (.inl rfl) (unitsU hr) rfl nd (pi_itemsI (pv 1)) (blkOk_by (N := ["prime", "sums", "exponents", "number"]) (sc := defScope s_without_zerosI) (by decide +kernel)) (fun _ _ _ _ _ => by exact (pg_tupK (K := K) (n := 2) rfl (pgs_cons (pg_name (i := 2) nd rfl (Or.inl rfl)) (pgs_cons (pg_name (i := 3) nd rfl (Or.inl rfl)) pgs_nil)))) (fun _ _ _ _ _ => by exact (pts_one (pt_cmpR op_ne (pv 3) pe_int (nomark _)))) (fun _ _ _ _ _ => by exact (pv 2)) (fun _ _ _ _ _ => by exact (pv 3))))))), fun as β r β' hR => ?_⟩)
  obtain ⟨p, T, rfl, ⟨hp, nd, few⟩, rfl, rfl, rfl⟩ := hR
  dsimp only [cxOf, Cx.nox, Cx.wish]
  have whole : ∀ q ∈ pkF T, q.2 = PyData.int (Num.toI q.2) := fun q hq => by
    obtain ⟨r, hr, rfl⟩ := List.mem_map.mp hq
    rfl
  have few2 : ∀ f : QI → Bool, (List.filter f (pkF T)).length ≤ 1000 := fun f => Nat.le_trans (List.length_filter_le _ _) (by rw [List.length_map]; exact few)
  have nd2 : ∀ (f : QI → Bool) (g : QI → QI), (∀ q, (g q).1 = q.1) → (((List.filter f (pkF T)).map g).map (·.1)).Nodup := fun f g hg => by
    rw [List.map_map, show (fun q : QI => q.1) ∘ g = fun q => q.1 from funext hg]
    have ks : (pkF T).map (·.1) = T.map fun q => packF q.1 := by rw [List.map_map] <;> rfl
    exact (show ((pkF T).map (·.1)).Nodup from ks ▸ nd).sublist ((List.filter_sublist (p := f)).map _)
  by_cases z : p = 0
  · subst z
    refine .ret (st_sq (st_ifF ((t_truthI (d_var rfl)).to rfl) st_next) (st_ret ((d_dcII (i := 2) (j := 3) (qs := pkF T) (d_var rfl) (DcG.pure (fun q => decide (Num.toI q.2 ≠ 0)) (fun q => q.1) (fun q => q.2) (fun q hq => ?_) (fun q hq _ => d_var rfl) fun q hq _ => d_var rfl) (nd2 _ _ fun _ => rfl) (by rw [List.length_map]; exact few2 _)).to ?_)))
    · exact (t_test (d_neI ((d_var (d := q.2) rfl).to (whole q hq)) d_int)).to (by rw [decide_not])
    · refine congrArg dI ?_
      unfold dropZ
      rw [if_pos rfl, List.filter_map, List.map_map]
      rfl
  · have pos : 0 < p := by omega
    refine .ret (st_seqR (st_ifT ((t_truthI (d_var rfl)).to (by rw [bne_iff_ne]; exact z)) (st_ret ((d_dcII (i := 2) (j := 3) (qs := pkF T) (d_var rfl) (DcG.pure (fun q => decide (Num.toI q.2 % p ≠ 0)) (fun q => q.1) (fun q => .int (Num.toI q.2 % p)) (fun q hq => ?_) (fun q hq _ => d_var rfl) fun q hq _ => ?_) (nd2 _ _ fun _ => rfl) (by rw [List.length_map]; exact few2 _)).to ?_))))
    · exact (t_test (d_neI (d_mod ((d_var (d := q.2) rfl).to (whole q hq)) (d_var rfl) pos) d_int)).to (by rw [decide_not])
    · exact d_mod ((d_var (d := q.2) rfl).to (whole q hq)) (d_var rfl) pos
    · refine congrArg dI ?_
      unfold dropZ
      rw [if_neg z, List.filter_map, List.map_map]
      show _ = List.map (fun q : List Int × Int => (packF q.1, PyData.int q.2)) (List.map (fun q => (q.1, q.2 % p)) (List.filter (fun q => decide (q.2 % p ≠ 0)) T))
      rw [List.map_map]
      rfl
abbrev s_multiplied : Stmt := top 32
theorem sc_multiplied : FnScope ["prime", "letters", "one", "other", "pairs", "exponents", "number", "sums", "times", "start", "shift", "kept", "code"] ["prime", "letters", "one", "other"] (defScope s_multiplied) := ⟨rfl, rfl, rfl, by decide +kernel, rfl, by decide +kernel, by decide +kernel⟩
abbrev R_multiplied : FR := fun as β r β' => ∃ (p : Int) (l : Nat) (a b : CQ), as = [.imm (.int p), .imm (.int l), .imm (dT (cD a)), .imm (dT (cD b))] ∧ (0 ≤ p ∧ MulOk p l a b) ∧ r = dT (cD (mulT p a b)) ∧ β = none ∧ β' = none
theorem ok_multiplied {P : Program} {w : World} {K : PySem.W.Frag} {mg : Str → Option Value} {base : Heap} {Y : Cn} (F : DefAt K "multiplied" s_multiplied) (hX : K.In base) (hG : base.Ns mainGlobals mg) (T : Txt K mg Y) (G_without_zerosI : FnG P w K mg base 1 "without_zeros" ["prime", "sums"] R_without_zerosI) (G_packed : FnG P w K mg base 1 "packed" ["exponents"] R_packed) (G_unpacked : FnG P w K mg base 1 "unpacked" ["letters", "code"] R_unpacked) : FnG P w K mg base 2 "multiplied" ["prime", "letters", "one", "other"] R_multiplied := by
  have nd := sc_multiplied.nd
  refine fn_mk F hX hG sc_multiplied (fun as β r β' h => by first | exact FR.len h | (obtain ⟨_, rfl, _⟩ := h; rfl) | (obtain ⟨_, _, rfl, _⟩ := h; rfl) | (obtain ⟨_, _, _, rfl, _⟩ := h; rfl) | (obtain ⟨_, _, _, _, rfl, _⟩ := h; rfl) | (obtain ⟨_, _, _, _, _, rfl, _⟩ := h; rfl)) (fun _ _ _ _ _ _ _ us hl => match us, hl with | [_, _, _, _], _ => rfl) (fun f cdv A outer s H E hr => ⟨_, (pss_cons (ps_unA isB_lc (ps_setLc (i := 4) (own := [("exponents", 5), ("number", 6)]) rfl nd rfl rfl (sw_true rfl rfl rfl (by decide +kernel)) (pi_itemsW (pv 3)) (blkOk_by (N := ["prime", "letters", "one", "other", "pairs", "exponents", "number", "sums", "times", "start", "shift", "kept", "code"]) (sc := defScope s_multiplied) (by decide +kernel)) (fun _ _ _ _ _ => by exact (pg_tupK (K := K) (n := 2) rfl (pgs_cons (pg_name (i := 5) nd rfl (Or.inl rfl)) (pgs_cons (pg_name (i := 6) nd rfl (Or.inl rfl)) pgs_nil)))) (fun _ _ _ _ _ => by exact pts_nil) (fun _ _ _ _ _ => by exact (pe_tup (pa_cons (pe_fn G_packed (hr.mono (by decide)) (pa_cons (pv 5) pa_nil)) (pa_cons (pv 6) pa_nil)))))) (pss_cons (ps_set (i := 7) nd rfl (Or.inl rfl) pe_dnewK) (pss_cons (ps_un (ps_for PassesOwn.never rfl (pi_itemsW (pv 2)) (pg_tupK (K := K) (n := 2) rfl (pgs_cons (pg_name (i := 5) nd rfl (Or.inl rfl)) (pgs_cons (pg_name (i := 8) nd rfl (Or.inl rfl)) pgs_nil))) (pss_cons (ps_set (i := 9) nd rfl (Or.inl rfl) (pe_fn G_packed (hr.mono (by decide)) (pa_cons (pv 5) pa_nil))) (pss_one (ps_for PassesOwn.never rfl (pi_list (pv 4)) (pg_tupK (K := K) (n := 2) rfl (pgs_cons (pg_name (i := 10) nd rfl (Or.inl rfl)) (pgs_cons (pg_name (i := 6) nd rfl (Or.inl rfl)) pgs_nil))) (pss_one (ps_dput (unitsD hr) (pv 7) (pe_op op_add (pv 9) (pv 10)) (pe_op op_add (pe_dget2 (unitsD hr) (pv 7) (pe_op op_add (pv 9) (pv 10)) pe_int ⟨rfl, rfl, rfl, rfl⟩) (pe_op op_mulW (pv 8) (pv 6))) (by rfl)))))))) (pss_cons (ps_set (i := 11) nd rfl (Or.inl rfl) (pe_fn G_without_zerosI (hr.mono (by decide)) (pa_cons (pv 0) (pa_cons (pv 7) pa_nil)))) (pss_one (ps_ret (pe_unI isB_dc (pe_dcP (own := [("code", 12), ("number", 6)]) (o0 := .dT []) (.inr rfl) (unitsU hr) rfl nd (pi_itemsI (pv 11)) (blkOk_by (N := ["prime", "letters", "one", "other", "pairs", "exponents", "number", "sums", "times", "start", "shift", "kept", "code"]) (sc := defScope s_multiplied) (by decide +kernel)) (fun _ _ _ _ _ => by exact (pg_tupK (K := K) (n := 2) rfl (pgs_cons (pg_name (i := 12) nd rfl (Or.inl rfl)) (pgs_cons (pg_name (i := 6) nd rfl (Or.inl rfl)) pgs_nil)))) (fun _ _ _ _ _ => by exact pts_nil) (fun _ _ _ _ _ => by exact (pe_fn G_unpacked (hr.mono (by decide)) (pa_cons (pv 1) (pa_cons (pv 12) pa_nil)))) (fun _ _ _ _ _ => by exact (pv 6)))))))))), fun as β r β' hR => ?_⟩)
  obtain ⟨p, l, a, b, rfl, ⟨hp, hM⟩, rfl, rfl, rfl⟩ := hR
  try dsimp only [cxOf, Cx.nox, Cx.wish]
  obtain ⟨d, e, u, v, hd, ha, hb, sa, sb, hst⟩ := hM.ex
  have part : ∀ {m : Nat}, m ≤ d + e → lowD l m := fun {m} h => hd.imp (fun ⟨h1, h2⟩ => ⟨h1, by omega⟩) fun ⟨h1, h2⟩ => ⟨h1, by omega⟩
  have lowe : lowD l e := part (by omega)
  have fewB := hom_few lowe hM.nb hb
  have pk : ∀ (k : List Int) (ρ : Rho), inSpan l k → ρ[5]? = some (some (.imm (tupD k))) → EvB K (tCall (spR K R_packed) [] E0 (tCons (tVar 5) tNil)) ρ none (.int (packF k)) none := fun k ρ h e5 => d_call0 (a_con (d_var e5) a_nil) ⟨k, rfl, ⟨h.1.imp (fun z => h.2.1.trans z) fun z => h.2.1.trans z, h.2.2⟩, rfl, rfl, rfl⟩
  have a1 : EvB K (TD.tUn Itit (tVar 3) fun wi => tLc wi (gTup K 2 (gCons (gName 5) (gCons (gName 6) gNil))) tYes (tTup (tCons (tCall (spR K R_packed) [] E0 (tCons (tVar 5) tNil)) (tCons (tVar 6) tNil))) [5, 6]) (startR ["prime", "letters", "one", "other", "pairs", "exponents", "number", "sums", "times", "start", "shift", "kept", "code"] [.imm (.int p), .imm (.int l), .imm (dT (cD a)), .imm (dT (cD b))]) none (.list ((pairsF b).map pairO)) none := by
    refine (d_lcW (wk_items 5 6) (qs := cD b) (d_var rfl) (LcF.map (fun q => .tuple [.int (packF q.1), q.2]) fun q hq => ?_) (by rw [List.length_map, List.length_map]; omega)).to ?_
    · obtain ⟨r, hr, rfl⟩ := List.mem_map.mp hq
      exact d_tup (ds := [.int (packF r.1), .int r.2]) (a_con (pk r.1 _ (span_of lowe (hb r.1 (List.mem_map_of_mem hr))) rfl) (a_con (d_var rfl) a_nil)) rfl (by show 2 ≤ 100000; decide)
    · show PyData.list (List.map _ (List.map _ b)) = PyData.list (List.map _ (List.map _ b))
      (rw [List.map_map, List.map_map])
      rfl
  have hm : ∀ x ∈ a, ∀ q ∈ b, CMulW x.2 q.2 := fun x hx q hq => by
    have h1 : x.2.natAbs < 2 ^ (u + 1) := Nat.lt_of_le_of_lt (sa x hx) (Nat.pow_lt_pow_right (by decide) (Nat.lt_succ_self u))
    have h2 : q.2.natAbs < 2 ^ (v + 1) := Nat.lt_of_le_of_lt (sb q hq) (Nat.pow_lt_pow_right (by decide) (Nat.lt_succ_self v))
    exact mulW h1 h2 (by omega)
  obtain ⟨y1, y2, y3, y4, y5, loop⟩ := mul_loop (K := K) (P := some (.imm (.int p))) (L := some (.imm (.int l))) (A := some (.imm (dT (cD a)))) (B := some (.imm (dT (cD b)))) (T := none) (U := none) hd hb pk a [] none none none none none List.nodup_nil (fun _ z => nomatch z) ha hm
  have hom : HomF l ((d + e : Nat) : Int) (timesF (· + ·) a b []) := by
    have := ha.times (g := (· + ·)) hb
    rwa [← Int.natCast_add] at this
  have few := hom_few hd (times_nd (a := a) (b := b)) hom
  have codes : ((timesF (· + ·) a b []).map fun q => packF q.1).Nodup := by
    have h := times_nd (a := a) (b := b)
    rw [show ((timesF (· + ·) a b []).map fun q => packF q.1) = (kyF (timesF (· + ·) a b [])).map packF by rw [List.map_map] <;> rfl]
    exact nodup_on (fun k hk m hm z => pack_inj (span_of hd (hom k hk)) (span_of hd (hom m hm)) z) h
  have spans : ∀ k ∈ kyF (mulT p a b), inSpan l k := fun k hk => span_of hd (hom k (dropZ_key hk))
  have ndM : (kyF (mulT p a b)).Nodup := dropZ_nd times_nd
  have fewM : (mulT p a b).length ≤ 1000 := hom_few hd ndM hom.drop
  exact .ret (st_sq (st_asg a1) (st_own (by show 7 < 13; decide) en_dict0 (sp_seq (sw_forW (wk_items 5 8) (by decide) (fun q ρ h => by rw [List.getElem?_set_ne (by decide), List.getElem?_set_ne (by decide)]; exact h) (ew_plain fun _ => d_var rfl) loop) (sp_end (st_sq (st_asg (d_call0 (a_con (d_var rfl) (a_con (d_var rfl) a_nil)) ⟨p, timesF (· + ·) a b [], rfl, ⟨hp, codes, few⟩, rfl, rfl, rfl⟩)) (st_ret (d_dcIT (i := 12) (j := 6) (qs := pkF (mulT p a b)) (ks := cD (mulT p a b)) (d_var rfl) (dcg_unpack (mulT p a b) spans rfl rfl) (by rw [cD_keys]; exact ndM) (by rw [List.length_map]; exact fewM))))))))
end K05
set_option Elab.async false
set_option linter.all false
set_option maxRecDepth 100000
set_option maxHeartbeats 4000100
namespace TD
open PySem L2 PySem.Spec PyProof.Rows
section
variable [TabW] {K : PySem.W.Frag} {ρ : Rho} {β β1 β2 : Bag} {ta tb te : TE} {d : Dt}
theorem d_neB {p q : Bool} (ha : EvB K ta ρ β (.bool p) β1) (hb : EvB K tb ρ β1 (.bool q) β2) : EvB K (tOp rNe ta tb) ρ β (.bool (!decide (p = q))) β2 := d_op ha hb fun b G H v w Q e h1 h2 k => by
  cases h1
  cases h2
  exact ⟨rfl, (by
    have := k (.bl (!decide (p = q))) G H (Step.refl e) (.bl _)
    cases p <;> cases q <;> exact this)⟩
theorem d_notN (h : EvB K te ρ β d β1) (hd : d ≠ .none) : EvB K (tOp rNotN te (tC .non)) ρ β (.bool true) β1 := ⟨h.som, fun b G H σ Q E k => h.run b G H σ _ E fun v G1 H1 s1 k1 d1 => ⟨rfl, by
  have := k (.bl true) G1 H1 s1 k1 (.bl _)
  have e : decide (v = V.non) = false := decide_eq_false fun z => by
    subst z
    cases d1
    exact hd rfl
  rw [e]
  exact this⟩⟩
theorem d_notN0 (h : EvB K te ρ β .none β1) : EvB K (tOp rNotN te (tC .non)) ρ β (.bool false) β1 := ⟨h.som, fun b G H σ Q E k => h.run b G H σ _ E fun v G1 H1 s1 k1 d1 => ⟨rfl, by
  have := k (.bl false) G1 H1 s1 k1 (.bl _)
  cases d1
  exact this⟩⟩
end
end TD
set_option Elab.async false
set_option linter.all false
set_option maxRecDepth 100000
set_option maxHeartbeats 1100000
namespace K05
open PySem L2 TD PySem.Spec PyProof.Rows
open Evl (Ex ex_l ex_t fresh_back sq_of st_of sz_of sz_lt)
variable [TabW]
abbrev formF (p : Int) (l : Nat) (T : CQ) : List (Dt × Dt) := [(.str "_prime", .int p), (.str "_letters", .int l), (.str "_table", dT (cD T))]
abbrev formD (C : Addr) (p : Int) (l : Nat) (T : CQ) : Dt := oD C (formF p l T)
/-- what may be told as the table of a new form -/
def InTab (p : Int) (l : Nat) (x : Dt) (T : CQ) : Prop := (x = .none ∧ T = []) ∨ (x = dT (cD T) ∧ ∃ d s, lowD l d ∧ s ≤ 100 ∧ FormOk p l d s T)
def degF (T : CQ) : Dt := match T with | [] => .none | q :: _ => .int q.1.sum
abbrev SumF (d : Nat) (T : CQ) : Prop := ∀ k ∈ kyF T, k.sum = (d : Int)
theorem d_newT {K : PySem.W.Frag} {ρ : Rho} {β : Bag} : EvB K tDNewT ρ β (dT []) β := ⟨rfl, fun b G H σ Q E k => fun p hp => by
  have n := Step.new (b := b) (m := β.isSome) (o := .dT []) E.sub hp
  have n0 := Step.new (b := b) (m := false) (o := .dT []) E.sub hp
  exact k (.ref p) _ _ n (E.bagk.same n0) (.dcT (kvs := []) (.inl upd_same) .nil)⟩
theorem prime_is {p : Int} (h : Num.PrimeI p) : Num.isPrime (.int p) = true := by
  show (decide (p = 0) || decide (p ∈ Num.primes)) = true
  rcases h with h | h
  · rw [decide_eq_true h]
    rfl
  · rw [decide_eq_true h, Bool.or_true]
theorem tab_of {p : Int} {l d s : Nat} {T : CQ} (h : FormOk p l d s T) (hd : lowD l d) : TabOk l T := ⟨h.clean.nd, h.few hd, hd.l, fun k hk => by
  obtain ⟨h1, h2, h3⟩ := h.hom k hk
  refine ⟨h1, fun x hx => ⟨h2 x hx, ?_⟩⟩
  have le := le_sum h2 x hx
  have top : d ≤ 40 := by rcases hd with ⟨_, h⟩ | ⟨_, h⟩ <;> omega
  omega⟩
theorem desc_nil : descF [] = [] := by
  show (sortX []).reverse.map _ = []
  rw [sortX, List.mergeSort_nil]
  rfl
theorem flat_cD {T : CQ} : ∀ q ∈ cD T, flatD q.2 = true ∧ SeqAt.shaped q.2 = true := fun q hq => by
  obtain ⟨r, hr, rfl⟩ := List.mem_map.mp hq
  exact ⟨rfl, rfl⟩
theorem TabOk.nil {l : Nat} (h : l = 2 ∨ l = 3) : TabOk l [] := ⟨List.nodup_nil, Nat.zero_le _, h, fun _ z => nomatch z⟩
abbrev s_need_letters : Stmt := top 50
theorem sc_need_letters : FnScope ["letters"] ["letters"] (defScope s_need_letters) := ⟨rfl, rfl, rfl, by decide +kernel, rfl, by decide +kernel, by decide +kernel⟩
abbrev R_need_letters : FR := fun as β r β' => ∃ (l : Nat), as = [.imm (.int l)] ∧ (l = 2 ∨ l = 3) ∧ r = .none ∧ β = none ∧ β' = none
theorem ok_need_letters {P : Program} {w : World} {K : PySem.W.Frag} {mg : Str → Option Value} {base : Heap} {Y : Cn} (F : DefAt K "need_letters" s_need_letters) (hX : K.In base) (hG : base.Ns mainGlobals mg) (T : Txt K mg Y) (G_is_integer : FnG P w K mg base 1 "is_integer" ["value"] R_is_integer) : FnG P w K mg base 2 "need_letters" ["letters"] R_need_letters := by
  have nd := sc_need_letters.nd
  refine fn_mk F hX hG sc_need_letters (fun as β r β' h => by first | exact FR.len h | (obtain ⟨_, rfl, _⟩ := h; rfl) | (obtain ⟨_, _, rfl, _⟩ := h; rfl) | (obtain ⟨_, _, _, rfl, _⟩ := h; rfl) | (obtain ⟨_, _, _, _, rfl, _⟩ := h; rfl) | (obtain ⟨_, _, _, _, _, rfl, _⟩ := h; rfl)) (fun _ _ _ _ _ _ _ us hl => match us, hl with | [_], _ => rfl) (fun f cdv A outer s H E hr => ⟨_, (pss_one (ps_if (PW.pt (pw_or (pt_not (pt_val (pe_fn G_is_integer (hr.mono (by decide)) (pa_cons (pv 0) pa_nil)))) (pw_or1 (pt_cmpR op_notIn_seq (pv 0) (pe_tup (pa_cons pe_int (pa_cons pe_int pa_nil))) (by rfl))))) (pss_one ps_never) pss_nil)), fun as β r β' hR => ?_⟩)
  obtain ⟨l, rfl, hl, rfl, rfl, rfl⟩ := hR
  try dsimp only [cxOf, Cx.nox, Cx.wish]
  have hc : EvB K (tCall (spR K R_is_integer) [] E0 (tCons (tVar 0) tNil)) (startR ["letters"] [.imm (.int l)]) none (.bool true) none := (c_f1 (x := PyData.int l) (d_var rfl) trivial).to (congrArg PyData.bool (int_is (by unfold Num.big; omega)))
  exact .fall _ (st_ifF (t_orF ((t_not (t_B hc)).to rfl) ((t_test (d_notInI (n := (l : Int)) (ns := [2, 3]) (d_var rfl) (d_tup (ds := [.int 2, .int 3]) (a_con d_int (a_con d_int a_nil)) rfl (by show 2 ≤ 100000; decide)) (.inr rfl))).to (by rcases hl with rfl | rfl <;> rfl))) st_next) rfl
abbrev s_Form_init : Stmt := inCls (top 57) 0
theorem sc_Form_init : FnScope ["self", "prime", "letters", "table"] ["self", "prime", "letters", "table"] (defScope s_Form_init) := ⟨rfl, rfl, rfl, by decide +kernel, rfl, by decide +kernel, by decide +kernel⟩
abbrev R_Form_init (Y : Cn) : FI := fun as β r β' => ∃ (p : Int) (l : Nat) (x : Dt) (T : CQ), as = [.imm (.int p), .imm (.int l), .imm x] ∧ (Num.PrimeI p ∧ (l = 2 ∨ l = 3) ∧ InTab p l x T) ∧ r = .ok (formF p l (descF T)) ∧ β = none ∧ β' = none
theorem ok_Form_init {P : Program} {w : World} {K : PySem.W.Frag} {mg : Str → Option Value} {base : Heap} {Y : Cn} (F : InitAtD K "Form" Y.cl "Form.__init__" s_Form_init) (hX : K.In base) (hG : base.Ns mainGlobals mg) (T : Txt K mg Y) (G_need_prime : FnG P w K mg base 3 "need_prime" ["prime"] R_need_prime) (G_need_letters : FnG P w K mg base 2 "need_letters" ["letters"] R_need_letters) (G_descending : FnG P w K mg base 1 "descending" ["table"] R_descending) (G_are_terms : FnG P w K mg base 5 "are_terms" ["prime", "letters", "most", "value"] R_are_terms) : FnID P w K mg base 6 "Form" Y.cl ["self", "prime", "letters", "table"] (R_Form_init Y) := by
  have nd := sc_Form_init.nd
  refine initD_mk F hX hG sc_Form_init (fun as β r β' h => by first | (obtain ⟨_, rfl, _⟩ := h; rfl) | (obtain ⟨_, _, rfl, _⟩ := h; rfl) | (obtain ⟨_, _, _, rfl, _⟩ := h; rfl) | (obtain ⟨_, _, _, _, rfl, _⟩ := h; rfl) | (obtain ⟨_, _, _, _, _, rfl, _⟩ := h; rfl) | (obtain ⟨_, _, _, _, _, _, rfl, _⟩ := h; rfl)) (n := 3) rfl (fun j T kV doc pm an cdv ct us its hj hl hi => match j, us, its, hj, hl, hi with | 0, [_, _, _], [_], _, _, _ => ⟨_, rfl, rfl⟩ | 1, [_, _, _, _], [_], _, _, _ => ⟨_, rfl, rfl⟩) (fun f cdv A outer s H E hr => ⟨_, (pss_cons (ps_expr (pe_fn G_need_prime (hr.mono (by decide)) (pa_cons (pv 1) pa_nil))) (pss_cons (ps_expr (pe_fn G_need_letters (hr.mono (by decide)) (pa_cons (pv 2) pa_nil))) (pss_cons (ps_if (PW.pt (pw_and (pt_cmpR op_notN (pv 3) pe_non (nomark _)) (pw_and1 (pt_not (pt_val (pe_fn G_are_terms (hr.mono (by decide)) (pa_cons (pv 1) (pa_cons (pv 2) (pa_cons (pe_glob (v := .int _) (by rfl) T.c_MAX_DEGREE ⟨_, rfl⟩) (pa_cons (pv 3) pa_nil)))))))))) (pss_one ps_never) pss_nil) (pss_cons (ps_fld (pv 0) (pv 1) (by rfl)) (pss_cons (ps_fld (pv 0) (pv 2) (by rfl)) (pss_one (ps_fld (pv 0) (pe_fn G_descending (hr.mono (by decide)) (pa_cons (pe_orR (pv 3) tru_dTN (pe_one pe_dnewT)) pa_nil)) (by rfl)))))))), fun as β r β' hR => ?_⟩)
  obtain ⟨p, l, x, T', rfl, ⟨hp, hl, hx⟩, rfl, rfl, rfl⟩ := hR
  try dsimp only [cxOf, Cx.nox, Cx.wish]
  have np : ∀ q, StB K (tDrop (tCall (spR K R_need_prime) [] E0 (tCons (tVar 1) tNil))) ((startI ["self", "prime", "letters", "table"] [.imm (.int p), .imm (.int l), .imm x]).set 0 (some (.fn q))) none (.nx ((startI ["self", "prime", "letters", "table"] [.imm (.int p), .imm (.int l), .imm x]).set 0 (some (.fn q)))) none := fun q => st_drop (c_f1 (x := PyData.int p) (d_var rfl) (prime_is hp))
  have nl : ∀ q, StB K (tDrop (tCall (spR K R_need_letters) [] E0 (tCons (tVar 2) tNil))) ((startI ["self", "prime", "letters", "table"] [.imm (.int p), .imm (.int l), .imm x]).set 0 (some (.fn q))) none (.nx ((startI ["self", "prime", "letters", "table"] [.imm (.int p), .imm (.int l), .imm x]).set 0 (some (.fn q)))) none := fun q => st_drop (d_call0 (a_con (d_var rfl) a_nil) ⟨l, rfl, hl, rfl, rfl, rfl⟩)
  have al : ∀ q, TtB K (tAnd (tTest (tOp rNotN (tVar 3) (tC .non))) (tNot (tB (tCall (spR K R_are_terms) [] E0 (tCons (tVar 1) (tCons (tVar 2) (tCons (tC (.int 40)) (tCons (tVar 3) tNil)))))))) ((startI ["self", "prime", "letters", "table"] [.imm (.int p), .imm (.int l), .imm x]).set 0 (some (.fn q))) none false none := fun q => by
    rcases hx with ⟨rfl, rfl⟩ | ⟨rfl, d, s, hd, hs, hT⟩
    · exact t_andF (t_test (d_notN0 (d_var rfl)))
    · exact t_andT (t_test (d_notN (d_var rfl) fun z => nomatch z)) ((t_not (t_B (d_call0 (a_con (d_var rfl) (a_con (d_var rfl) (a_con d_int (a_con (d_var rfl) a_nil)))) ⟨p, l, T', rfl, ⟨hp.small.1, d, s, hd, hs, hT⟩, rfl, rfl, rfl⟩))).to rfl)
  have tab : TabOk l T' := by
    rcases hx with ⟨rfl, rfl⟩ | ⟨rfl, d, s, hd, hs, hT⟩
    · exact .nil hl
    · exact tab_of hT hd
  have ev : ∀ q, EvB K (tOrR rTruDN (tVar 3) tDNewT) ((startI ["self", "prime", "letters", "table"] [.imm (.int p), .imm (.int l), .imm x]).set 0 (some (.fn q))) none (dT (cD T')) none := fun q => by
    rcases hx with ⟨rfl, rfl⟩ | ⟨rfl, d, s, hd, hs, hT⟩
    · exact d_orN (d_var rfl) d_newT
    · cases T' with
      | nil => exact d_orE (d_var rfl) d_newT
      | cons t T' => exact d_orD (ps := cD (t :: T')) (d_var rfl) fun z => nomatch z
  exact .ok (ρ' := startI ["self", "prime", "letters", "table"] [.imm (.int p), .imm (.int l), .imm x]) (sw_seq (sw_plain (ρ1 := startI ["self", "prime", "letters", "table"] [.imm (.int p), .imm (.int l), .imm x]) rfl np) (sw_seq (sw_plain (ρ1 := startI ["self", "prime", "letters", "table"] [.imm (.int p), .imm (.int l), .imm x]) rfl nl) (sw_seq (sw_ifF (tw_plain fun q => al q) sw_next)
    (sw_seq (sw_fld (ew_plain fun q => d_var rfl) T.m_prime rfl (by show 0 < 1000; decide)) (sw_seq (sw_fld (ew_plain fun q => d_var rfl) T.m_letters (by rfl) (by show 1 < 1000; decide)) (sw_fld (d := dT (cD (descF T'))) (ew_plain fun q => d_call0 (a_con (ev q) a_nil) ⟨l, T', rfl, tab, rfl, rfl, rfl⟩) T.m_table (by rfl) (by show 2 < 1000; decide)))))))
abbrev s_Form_prime : Stmt := inCls (top 57) 2
theorem sc_Form_prime : FnScope ["self"] ["self"] (defScope s_Form_prime) := ⟨rfl, rfl, rfl, by decide +kernel, rfl, by decide +kernel, by decide +kernel⟩
abbrev R_Form_prime (Y : Cn) : FR := fun as β r β' => ∃ p l T, as = [.imm (formD Y.cl p l T)] ∧ r = .int p ∧ β = none ∧ β' = none
theorem ok_Form_prime {P : Program} {w : World} {K : PySem.W.Frag} {mg : Str → Option Value} {base : Heap} {Y : Cn} (F : PropAt K Y.cl "prime" "Form.prime" s_Form_prime) (hX : K.In base) (hG : base.Ns mainGlobals mg) (T : Txt K mg Y)  : FnP P w K mg base 1 Y.cl "prime" (R_Form_prime Y) := by
  have nd := sc_Form_prime.nd
  refine prop_mk F sc_Form_prime (fun as β r β' h => by first | (obtain ⟨_, rfl, _⟩ := h; rfl) | (obtain ⟨_, _, rfl, _⟩ := h; rfl) | (obtain ⟨_, _, _, rfl, _⟩ := h; rfl) | (obtain ⟨_, _, _, _, rfl, _⟩ := h; rfl) | (obtain ⟨_, _, _, _, _, rfl, _⟩ := h; rfl) | (obtain ⟨_, _, _, _, _, _, rfl, _⟩ := h; rfl)) (fun _ _ _ _ _ _ _ us hl => match us, hl with | [_], _ => rfl) (fun f cdv A outer s H E hr => ⟨_, (pss_one (ps_ret (pe_fld (pv 0) (by rfl)))), fun as β r β' hR => ?_⟩)
  obtain ⟨p, l, T', rfl, rfl, rfl, rfl⟩ := hR
  exact .ret (st_ret (d_fld (d_var rfl) T.m_prime rfl))
abbrev s_Form_letters : Stmt := inCls (top 57) 3
theorem sc_Form_letters : FnScope ["self"] ["self"] (defScope s_Form_letters) := ⟨rfl, rfl, rfl, by decide +kernel, rfl, by decide +kernel, by decide +kernel⟩
abbrev R_Form_letters (Y : Cn) : FR := fun as β r β' => ∃ p l T, as = [.imm (formD Y.cl p l T)] ∧ r = .int (l : Nat) ∧ β = none ∧ β' = none
theorem ok_Form_letters {P : Program} {w : World} {K : PySem.W.Frag} {mg : Str → Option Value} {base : Heap} {Y : Cn} (F : PropAt K Y.cl "letters" "Form.letters" s_Form_letters) (hX : K.In base) (hG : base.Ns mainGlobals mg) (T : Txt K mg Y)  : FnP P w K mg base 1 Y.cl "letters" (R_Form_letters Y) := by
  have nd := sc_Form_letters.nd
  refine prop_mk F sc_Form_letters (fun as β r β' h => by first | (obtain ⟨_, rfl, _⟩ := h; rfl) | (obtain ⟨_, _, rfl, _⟩ := h; rfl) | (obtain ⟨_, _, _, rfl, _⟩ := h; rfl) | (obtain ⟨_, _, _, _, rfl, _⟩ := h; rfl) | (obtain ⟨_, _, _, _, _, rfl, _⟩ := h; rfl) | (obtain ⟨_, _, _, _, _, _, rfl, _⟩ := h; rfl)) (fun _ _ _ _ _ _ _ us hl => match us, hl with | [_], _ => rfl) (fun f cdv A outer s H E hr => ⟨_, (pss_one (ps_ret (pe_fld (pv 0) (by rfl)))), fun as β r β' hR => ?_⟩)
  obtain ⟨p, l, T', rfl, rfl, rfl, rfl⟩ := hR
  exact .ret (st_ret (d_fld (d_var rfl) T.m_letters rfl))
abbrev s_Form_degree : Stmt := inCls (top 57) 4
theorem sc_Form_degree : FnScope ["self"] ["self"] (defScope s_Form_degree) := ⟨rfl, rfl, rfl, by decide +kernel, rfl, by decide +kernel, by decide +kernel⟩
abbrev R_Form_degree (Y : Cn) : FR := fun as β r β' => ∃ p l T, as = [.imm (formD Y.cl p l T)] ∧ r = degF T ∧ β = none ∧ β' = none
theorem ok_Form_degree {P : Program} {w : World} {K : PySem.W.Frag} {mg : Str → Option Value} {base : Heap} {Y : Cn} (F : PropAt K Y.cl "degree" "Form.degree" s_Form_degree) (hX : K.In base) (hG : base.Ns mainGlobals mg) (T : Txt K mg Y) (G_degree_of : FnG P w K mg base 1 "degree_of" ["table"] R_degree_of) : FnP P w K mg base 2 Y.cl "degree" (R_Form_degree Y) := by
  have nd := sc_Form_degree.nd
  refine prop_mk F sc_Form_degree (fun as β r β' h => by first | (obtain ⟨_, rfl, _⟩ := h; rfl) | (obtain ⟨_, _, rfl, _⟩ := h; rfl) | (obtain ⟨_, _, _, rfl, _⟩ := h; rfl) | (obtain ⟨_, _, _, _, rfl, _⟩ := h; rfl) | (obtain ⟨_, _, _, _, _, rfl, _⟩ := h; rfl) | (obtain ⟨_, _, _, _, _, _, rfl, _⟩ := h; rfl)) (fun _ _ _ _ _ _ _ us hl => match us, hl with | [_], _ => rfl) (fun f cdv A outer s H E hr => ⟨_, (pss_one (ps_ret (pe_fn G_degree_of (hr.mono (by decide)) (pa_cons (pe_fld (pv 0) (by rfl)) pa_nil)))), fun as β r β' hR => ?_⟩)
  obtain ⟨p, l, T', rfl, rfl, rfl, rfl⟩ := hR
  exact .ret (st_ret (d_call0 (a_con (d_fld (d_var rfl) T.m_table rfl) a_nil) ⟨T', rfl, trivial, rfl, rfl, rfl⟩))
abbrev s_Form_table : Stmt := inCls (top 57) 5
theorem sc_Form_table : FnScope ["self", "exponents"] ["self"] (defScope s_Form_table) := ⟨rfl, rfl, rfl, by decide +kernel, rfl, by decide +kernel, by decide +kernel⟩
abbrev R_Form_table (Y : Cn) : FR := fun as β r β' => ∃ p l T, as = [.imm (formD Y.cl p l T)] ∧ TabOk l T ∧ r = dT (cD (ascF T)) ∧ β = none ∧ β' = none
theorem ok_Form_table {P : Program} {w : World} {K : PySem.W.Frag} {mg : Str → Option Value} {base : Heap} {Y : Cn} (F : PropAt K Y.cl "table" "Form.table" s_Form_table) (hX : K.In base) (hG : base.Ns mainGlobals mg) (T : Txt K mg Y)  : FnP P w K mg base 1 Y.cl "table" (R_Form_table Y) := by
  have nd := sc_Form_table.nd
  refine prop_mk F sc_Form_table (fun as β r β' h => by first | (obtain ⟨_, rfl, _⟩ := h; rfl) | (obtain ⟨_, _, rfl, _⟩ := h; rfl) | (obtain ⟨_, _, _, rfl, _⟩ := h; rfl) | (obtain ⟨_, _, _, _, rfl, _⟩ := h; rfl) | (obtain ⟨_, _, _, _, _, rfl, _⟩ := h; rfl) | (obtain ⟨_, _, _, _, _, _, rfl, _⟩ := h; rfl)) (fun _ _ _ _ _ _ _ us hl => match us, hl with | [_], _ => rfl) (fun f cdv A outer s H E hr => ⟨_, (pss_one (ps_ret (pe_dcP (own := [("exponents", 1)]) (o0 := .dT []) (.inr rfl) (unitsU hr) rfl nd (pi_list (pe_callB (cr_sortedDTx rfl) (by rfl) T.z_sorted bo_sorted (pa_cons (pe_fld (pv 0) (by rfl)) pa_nil))) (blkOk_by (N := ["self", "exponents"]) (sc := defScope s_Form_table) (by decide +kernel)) (fun _ _ _ _ _ => by exact (pg_name (i := 1) nd rfl (Or.inl rfl))) (fun _ _ _ _ _ => by exact pts_nil) (fun _ _ _ _ _ => by exact (pv 1)) (fun _ _ _ _ _ => by exact (pe_dget (unitsD hr) (pe_fldK (K := K) (pv 0) (by rfl)) (pv 1) (fun _ _ => rfl)))))), fun as β r β' hR => ?_⟩)
  obtain ⟨p, l, T', rfl, hT, rfl, rfl, rfl⟩ := hR
  have hl : 1 ≤ l := by have := hT.l23; omega
  have ks : (cD T').map (·.1) = kyF T' := by rw [List.map_map] <;> rfl
  refine .ret (st_ret ((d_dcL (qs := (sortX (kyF T')).map fun x => (x, PyData.int (at0 T' x))) ((d_sortDTx (qs := cD T') (dd := l) (S := 0) (B := 101) (d_fld (d_var rfl) T.m_table rfl) hl fun q hq => ?_).to (by rw [ks])) ?_ ?_ ?_ (wipe_ok (by decide))).to ?_))
  · obtain ⟨r, hr, rfl⟩ := List.mem_map.mp hq
    exact (hT.key r.1 (List.mem_map_of_mem hr)).ok3
  · refine dcr_map (fun x => .int (at0 T' x)) fun x hx => ⟨d_var rfl, t_dget (d_fld (d_var rfl) T.m_table rfl) (d_var rfl) ?_⟩
    obtain ⟨n, e, _⟩ := getT_mem ((sortX_perm _).mem_iff.mp hx)
    rw [getT_cD, e]
    show some (PyData.int n) = some (.int ((getT T' x).getD 0))
    rw [e]
    rfl
  · rw [List.map_map]
    show ((sortX (kyF T')).map fun x => x).Nodup
    rw [List.map_id']
    exact (sortX_perm _).nodup_iff.mpr hT.nd
  · rw [List.length_map, sortX_len, List.length_map]
    exact hT.few
  · refine congrArg dT ?_
    show _ = List.map (fun q : List Int × Int => (q.1, PyData.int q.2)) (List.map (fun k => (k, at0 T' k)) (sortX (kyF T')))
    rw [List.map_map]
    rfl
abbrev s_Form_bool : Stmt := inCls (top 57) 20
theorem sc_Form_bool : FnScope ["self"] ["self"] (defScope s_Form_bool) := ⟨rfl, rfl, rfl, by decide +kernel, rfl, by decide +kernel, by decide +kernel⟩
abbrev R_Form_bool (Y : Cn) : FR := fun as β r β' => ∃ p l T, as = [.imm (formD Y.cl p l T)] ∧ r = .bool (!(cD T).isEmpty) ∧ β = none ∧ β' = none
theorem ok_Form_bool {P : Program} {w : World} {K : PySem.W.Frag} {mg : Str → Option Value} {base : Heap} {Y : Cn} (F : MethAt K Y.cl "__bool__" "Form.__bool__" s_Form_bool) (hX : K.In base) (hG : base.Ns mainGlobals mg) (T : Txt K mg Y)  : FnM P w K mg base 1 Y.cl "__bool__" ["self"] (R_Form_bool Y) := by
  have nd := sc_Form_bool.nd
  refine meth_mk F sc_Form_bool (fun as β r β' h => by first | (obtain ⟨_, rfl, _⟩ := h; rfl) | (obtain ⟨_, _, rfl, _⟩ := h; rfl) | (obtain ⟨_, _, _, rfl, _⟩ := h; rfl) | (obtain ⟨_, _, _, _, rfl, _⟩ := h; rfl) | (obtain ⟨_, _, _, _, _, rfl, _⟩ := h; rfl) | (obtain ⟨_, _, _, _, _, _, rfl, _⟩ := h; rfl)) (fun _ _ _ _ _ _ _ us hl => match us, hl with | [_], _ => rfl) (fun f cdv A outer s H E hr => ⟨_, (pss_one (ps_ret (pe_callTy cr_boolD (by rfl) T.z_bool bo_bool (pa_cons (pe_fld (pv 0) (by rfl)) pa_nil)))), fun as β r β' hR => ?_⟩)
  obtain ⟨p, l, T', rfl, rfl, rfl, rfl⟩ := hR
  exact .ret (st_ret (d_boolD (d_fld (d_var rfl) T.m_table rfl)))
abbrev s_need_alike : Stmt := top 52
theorem sc_need_alike : FnScope ["form", "other"] ["form", "other"] (defScope s_need_alike) := ⟨rfl, rfl, rfl, by decide +kernel, rfl, by decide +kernel, by decide +kernel⟩
abbrev R_need_alike (Y : Cn) : FR := fun as β r β' => ∃ p l a b, as = [.imm (formD Y.cl p l a), .imm (formD Y.cl p l b)] ∧ r = .none ∧ β = none ∧ β' = none
theorem ok_need_alike {P : Program} {w : World} {K : PySem.W.Frag} {mg : Str → Option Value} {base : Heap} {Y : Cn} (F : DefAt K "need_alike" s_need_alike) (hX : K.In base) (hG : base.Ns mainGlobals mg) (T : Txt K mg Y) (G_Form_prime : FnP P w K mg base 1 Y.cl "prime" (R_Form_prime Y)) (G_Form_letters : FnP P w K mg base 1 Y.cl "letters" (R_Form_letters Y)) : FnG P w K mg base 3 "need_alike" ["form", "other"] (R_need_alike Y) := by
  have nd := sc_need_alike.nd
  refine fn_mk F hX hG sc_need_alike (fun as β r β' h => by first | exact FR.len h | (obtain ⟨_, rfl, _⟩ := h; rfl) | (obtain ⟨_, _, rfl, _⟩ := h; rfl) | (obtain ⟨_, _, _, rfl, _⟩ := h; rfl) | (obtain ⟨_, _, _, _, rfl, _⟩ := h; rfl) | (obtain ⟨_, _, _, _, _, rfl, _⟩ := h; rfl)) (fun _ _ _ _ _ _ _ us hl => match us, hl with | [_, _], _ => rfl) (fun f cdv A outer s H E hr => ⟨_, (pss_one (ps_if (PW.pt (pw_or (pt_cmpR op_ne (pe_p G_Form_prime (hr.mono (by decide)) (pv 0)) (pe_p G_Form_prime (hr.mono (by decide)) (pv 1)) (nomark _)) (pw_or1 (pt_cmpR op_ne (pe_p G_Form_letters (hr.mono (by decide)) (pv 0)) (pe_p G_Form_letters (hr.mono (by decide)) (pv 1)) (nomark _))))) (pss_one ps_never) pss_nil)), fun as β r β' hR => ?_⟩)
  obtain ⟨p, l, a, b, rfl, rfl, rfl, rfl⟩ := hR
  try dsimp only [cxOf, Cx.nox, Cx.wish]
  exact .fall _ (st_ifF (t_orF ((t_test (d_neI (i := p) (j := p) (d_prop (d_var rfl) ⟨p, l, a, rfl, rfl, rfl, rfl⟩) (d_prop (d_var rfl) ⟨p, l, b, rfl, rfl, rfl, rfl⟩))).to (by rw [decide_eq_true rfl] <;> rfl)) ((t_test (d_neI (i := (l : Int)) (j := (l : Int)) (d_prop (d_var rfl) ⟨p, l, a, rfl, rfl, rfl, rfl⟩) (d_prop (d_var rfl) ⟨p, l, b, rfl, rfl, rfl, rfl⟩))).to (by rw [decide_eq_true rfl] <;> rfl))) st_next) rfl
abbrev s_need_addable : Stmt := top 53
theorem sc_need_addable : FnScope ["form", "other"] ["form", "other"] (defScope s_need_addable) := ⟨rfl, rfl, rfl, by decide +kernel, rfl, by decide +kernel, by decide +kernel⟩
abbrev R_need_addable (Y : Cn) : FR := fun as β r β' => ∃ p l a b, as = [.imm (formD Y.cl p l a), .imm (formD Y.cl p l b)] ∧ (∃ d, SumF d a ∧ SumF d b) ∧ r = .none ∧ β = none ∧ β' = none
theorem ok_need_addable {P : Program} {w : World} {K : PySem.W.Frag} {mg : Str → Option Value} {base : Heap} {Y : Cn} (F : DefAt K "need_addable" s_need_addable) (hX : K.In base) (hG : base.Ns mainGlobals mg) (T : Txt K mg Y) (G_need_alike : FnG P w K mg base 3 "need_alike" ["form", "other"] (R_need_alike Y)) (G_Form_degree : FnP P w K mg base 2 Y.cl "degree" (R_Form_degree Y)) (G_Form_bool : FnM P w K mg base 1 Y.cl "__bool__" ["self"] (R_Form_bool Y)) : FnG P w K mg base 5 "need_addable" ["form", "other"] (R_need_addable Y) := by
  have nd := sc_need_addable.nd
  refine fn_mk F hX hG sc_need_addable (fun as β r β' h => by first | exact FR.len h | (obtain ⟨_, rfl, _⟩ := h; rfl) | (obtain ⟨_, _, rfl, _⟩ := h; rfl) | (obtain ⟨_, _, _, rfl, _⟩ := h; rfl) | (obtain ⟨_, _, _, _, rfl, _⟩ := h; rfl) | (obtain ⟨_, _, _, _, _, rfl, _⟩ := h; rfl)) (fun _ _ _ _ _ _ _ us hl => match us, hl with | [_, _], _ => rfl) (fun f cdv A outer s H E hr => ⟨_, (pss_cons (ps_expr (pe_fn G_need_alike (hr.mono (by decide)) (pa_cons (pv 0) (pa_cons (pv 1) pa_nil)))) (pss_one (ps_if (PW.pt (pw_and (pt_truthR (pv 0) (tru_own G_Form_bool (hr.mono (by decide))) (fun _ => rfl)) (pw_and (pt_truthR (pv 1) (tru_own G_Form_bool (hr.mono (by decide))) (fun _ => rfl)) (pw_and1 (pt_cmpR op_ne (pe_p G_Form_degree (hr.mono (by decide)) (pv 0)) (pe_p G_Form_degree (hr.mono (by decide)) (pv 1)) (nomark _)))))) (pss_one ps_never) pss_nil))), fun as β r β' hR => ?_⟩)
  obtain ⟨p, l, a, b, rfl, ⟨d, ha, hb⟩, rfl, rfl, rfl⟩ := hR
  try dsimp only [cxOf, Cx.nox, Cx.wish]
  have ta : TtB K (fun σ H Q => tVar 0 σ H fun x H' => rTruO Y.cl (spR K (R_Form_bool Y)) x H' Q) (startR ["form", "other"] [.imm (formD Y.cl p l a), .imm (formD Y.cl p l b)]) none (!(cD a).isEmpty) none := t_truO (d_var rfl) ⟨p, l, a, rfl, rfl, rfl, rfl⟩
  have tb : TtB K (fun σ H Q => tVar 1 σ H fun x H' => rTruO Y.cl (spR K (R_Form_bool Y)) x H' Q) (startR ["form", "other"] [.imm (formD Y.cl p l a), .imm (formD Y.cl p l b)]) none (!(cD b).isEmpty) none := t_truO (d_var rfl) ⟨p, l, b, rfl, rfl, rfl, rfl⟩
  refine .fall _ (st_sq (st_drop (d_call0 (a_con (d_var rfl) (a_con (d_var rfl) a_nil)) ⟨p, l, a, b, rfl, rfl, rfl, rfl⟩)) (st_ifF ?_ st_next)) rfl
  cases a with
  | nil => exact t_andF ta
  | cons q a =>
    cases b with
    | nil => exact t_andT ta (t_andF tb)
    | cons r b =>
      have e1 : q.1.sum = (d : Int) := ha q.1 List.mem_cons_self
      have e2 : r.1.sum = (d : Int) := hb r.1 List.mem_cons_self
      exact t_andT ta (t_andT tb ((t_test (d_neI (i := q.1.sum) (j := r.1.sum) (d_prop (d_var rfl) ⟨p, l, q :: a, rfl, rfl, rfl, rfl⟩) (d_prop (d_var rfl) ⟨p, l, r :: b, rfl, rfl, rfl, rfl⟩))).to (by rw [e1, e2, decide_eq_true rfl] <;> rfl)))
abbrev s_made : Stmt := top 55
theorem sc_made : FnScope ["prime", "letters", "table", "form"] ["prime", "letters", "table"] (defScope s_made) := ⟨rfl, rfl, rfl, by decide +kernel, rfl, by decide +kernel, by decide +kernel⟩
abbrev R_made (Y : Cn) : FR := fun as β r β' => ∃ p l T, as = [.imm (.int p), .imm (.int (l : Nat)), .imm (dT (cD T))] ∧ (Num.PrimeI p ∧ TabOk l T) ∧ r = formD Y.cl p l (descF T) ∧ β = none ∧ β' = none
theorem ok_made {P : Program} {w : World} {K : PySem.W.Frag} {mg : Str → Option Value} {base : Heap} {Y : Cn} (F : DefAt K "made" s_made) (hX : K.In base) (hG : base.Ns mainGlobals mg) (T : Txt K mg Y) (G_Form_init : FnID P w K mg base 6 "Form" Y.cl ["self", "prime", "letters", "table"] (R_Form_init Y)) (G_descending : FnG P w K mg base 1 "descending" ["table"] R_descending) : FnG P w K mg base 8 "made" ["prime", "letters", "table"] (R_made Y) := by
  have nd := sc_made.nd
  refine fn_mk F hX hG sc_made (fun as β r β' h => by first | exact FR.len h | (obtain ⟨_, rfl, _⟩ := h; rfl) | (obtain ⟨_, _, rfl, _⟩ := h; rfl) | (obtain ⟨_, _, _, rfl, _⟩ := h; rfl) | (obtain ⟨_, _, _, _, rfl, _⟩ := h; rfl) | (obtain ⟨_, _, _, _, _, rfl, _⟩ := h; rfl)) (fun _ _ _ _ _ _ _ us hl => match us, hl with | [_, _, _], _ => rfl) (fun f cdv A outer s H E hr => ⟨_, (pss_cons (ps_set (i := 3) nd rfl (Or.inl rfl) (pe_newB (E := E0) G_Form_init (hr.mono (by decide)) passL (pa_cons (pv 0) (pa_cons (pv 1) pa_nil)))) (pss_cons (ps_fld (pv 3) (pe_fn G_descending (hr.mono (by decide)) (pa_cons (pv 2) pa_nil)) (by rfl)) (pss_one (ps_ret (pv 3))))), fun as β r β' hR => ?_⟩)
  obtain ⟨p, l, T', rfl, ⟨hp, hT⟩, rfl, rfl, rfl⟩ := hR
  try dsimp only [cxOf, Cx.nox, Cx.wish]
  exact .ret (st_own (by show 3 < 4; decide) (en_newB (a_con (d_var rfl) (a_con (d_var rfl) a_nil)) ⟨p, l, .none, [], rfl, ⟨hp, hT.l23, .inl ⟨rfl, rfl⟩⟩, rfl, rfl, rfl⟩ (by rw [desc_nil] <;> rfl)) (sp_seq (sw_fldA (d := dT (cD (descF T'))) (ew_plain fun _ => d_call0 (a_con (d_var rfl) a_nil) ⟨l, T', rfl, hT, rfl, rfl, rfl⟩) T.m_table (by show 3 < 1000; decide)) (sp_end (st_ret (d_var rfl)))))
abbrev s_Form_eq : Stmt := inCls (top 57) 21
theorem sc_Form_eq : FnScope ["self", "other"] ["self", "other"] (defScope s_Form_eq) := ⟨rfl, rfl, rfl, by decide +kernel, rfl, by decide +kernel, by decide +kernel⟩
abbrev R_Form_eq (Y : Cn) : FR := fun as β r β' => ∃ p l a b, as = [.imm (formD Y.cl p l a), .imm (formD Y.cl p l b)] ∧ r = .bool ((cD a).length == (cD b).length && eqT (cD a) (cD b)) ∧ β = none ∧ β' = none
theorem ok_Form_eq {P : Program} {w : World} {K : PySem.W.Frag} {mg : Str → Option Value} {base : Heap} {Y : Cn} (F : MethAt K Y.cl "__eq__" "Form.__eq__" s_Form_eq) (hX : K.In base) (hG : base.Ns mainGlobals mg) (T : Txt K mg Y)  : FnM P w K mg base 1 Y.cl "__eq__" ["self", "other"] (R_Form_eq Y) := by
  have nd := sc_Form_eq.nd
  refine meth_mk F sc_Form_eq (fun as β r β' h => by first | (obtain ⟨_, rfl, _⟩ := h; rfl) | (obtain ⟨_, _, rfl, _⟩ := h; rfl) | (obtain ⟨_, _, _, rfl, _⟩ := h; rfl) | (obtain ⟨_, _, _, _, rfl, _⟩ := h; rfl) | (obtain ⟨_, _, _, _, _, rfl, _⟩ := h; rfl) | (obtain ⟨_, _, _, _, _, _, rfl, _⟩ := h; rfl)) (fun _ _ _ _ _ _ _ us hl => match us, hl with | [_, _], _ => rfl) (fun f cdv A outer s H E hr => ⟨_, (pss_cons (ps_if (pt_not (pt_val (pe_callB (call_isiK (K := K)) (by rfl) T.z_isinstance bo_isinstance (pa_cons (pv 1) (pa_cons (pe_glob (v := .ref _) (by rfl) T.k_Form rfl) pa_nil))))) (pss_one (ps_ret pe_bl)) pss_nil) (pss_one (ps_ret (pe_and (pe_cmpR op_eq (pe_fld (pv 0) (by rfl)) (pe_fld (pv 1) (by rfl)) (nomark _)) (pe_and (pe_cmpR op_eq (pe_fld (pv 0) (by rfl)) (pe_fld (pv 1) (by rfl)) (nomark _)) (pe_one (pe_cmpR (op_eqDT hr) (pe_fld (pv 0) (by rfl)) (pe_fld (pv 1) (by rfl)) (nomark _)))))))), fun as β r β' hR => ?_⟩)
  obtain ⟨p, l, a, b, rfl, rfl, rfl, rfl⟩ := hR
  try dsimp only [cxOf, Cx.nox, Cx.wish]
  exact .ret (st_sq (st_ifF ((t_not (t_B (d_isC (d_var rfl) T.iself))).to rfl) st_next) (st_ret (d_andT ((d_eqI (i := p) (j := p) (d_fld (d_var rfl) T.m_prime rfl) (d_fld (d_var rfl) T.m_prime rfl)).to (by rw [decide_eq_true rfl])) (d_andT ((d_eqI (i := (l : Int)) (j := (l : Int)) (d_fld (d_var rfl) T.m_letters rfl) (d_fld (d_var rfl) T.m_letters rfl)).to (by rw [decide_eq_true rfl])) (d_eqDT (d_fld (d_var rfl) T.m_table rfl) (d_fld (d_var rfl) T.m_table rfl) flat_cD flat_cD)))))
end K05
set_option Elab.async false
set_option linter.all false
set_option maxRecDepth 100000
set_option maxHeartbeats 4100000
namespace TD
open PySem L2 PySem.Spec PyProof.Rows
open Evl (Ex ex_l ex_t fresh_back sq_of st_of sz_of sz_lt)
section
variable [TabW] {K : PySem.W.Frag} {ρ : Rho} {β β1 : Bag} {te : TE} {C : Addr}
theorem d_isInt0 {i : Int} (h : EvB K te ρ β (.int i) β1) (hk : PySem.W.kitOne K (.type "int") (.ref C) = some false) : EvB K (tCB (rIsiR K) (tCons te (tCons (tC (.ref C)) tNil))) ρ β (.bool false) β1 := ⟨h.som, fun b G H σ Q E k => h.run b G H σ _ E fun v G1 H1 s1 k1 d1 => by
  cases d1
  exact ⟨_, .ref C, _, .ref C, false, rfl, .own C, .ty (.base (.int i)), hk, k _ G1 H1 s1 k1 (.bl false)⟩⟩
end
end TD
set_option Elab.async false
set_option linter.all false
set_option maxRecDepth 100000
set_option maxHeartbeats 1100000
namespace K05
open PySem L2 TD PySem.Spec PyProof.Rows
open Evl (Ex ex_l ex_t fresh_back sq_of st_of sz_of sz_lt)
variable [TabW]
theorem sum_of {l d : Nat} {T : CQ} (h : HomF l (d : Int) T) : SumF d T := fun k hk => (h k hk).2.2
theorem co_lt {p : Int} {l d s : Nat} {T : CQ} (h : FormOk p l d s T) : ∀ q ∈ T, q.2.natAbs < 2 ^ (s + 1) := fun q hq => Nat.lt_of_le_of_lt (h.co q hq) (Nat.pow_lt_pow_right (by decide) (Nat.lt_succ_self s))
theorem low_of {l d m : Nat} (hd : lowD l d) (h : m ≤ d) : lowD l m := hd.imp (fun ⟨h1, h2⟩ => ⟨h1, by omega⟩) fun ⟨h1, h2⟩ => ⟨h1, by omega⟩
theorem low_40 {l d : Nat} (hd : lowD l d) : d ≤ 40 := by rcases hd with ⟨_, h⟩ | ⟨_, h⟩ <;> omega
theorem mul_ok {p : Int} {l d e s t : Nat} {a b : CQ} (hd : lowD l (d + e)) (ha : FormOk p l d s a) (hb : FormOk p l e t b) (hst : s + t ≤ 1000) : MulOk p l a b := ⟨⟨d, e, s, t, hd, ha.hom, hb.hom, ha.co, hb.co, hst⟩, ha.clean.nd, hb.clean.nd⟩
/-- the powers of a table -/
def oneT (l : Nat) : CQ := [(List.replicate l 0, 1)]
def powT (p : Int) (l : Nat) (a : CQ) : Nat → CQ
  | 0 => oneT l
  | m + 1 => mulT p (powT p l a m) a
theorem zero_sum : ∀ l : Nat, (List.replicate l (0 : Int)).sum = 0
  | 0 => rfl
  | l + 1 => by
    show 0 + (List.replicate l (0 : Int)).sum = 0
    rw [zero_sum l]
    rfl
theorem one_ok {p : Int} (hp : Num.PrimeI p) (l : Nat) : FormOk p l 0 5 (oneT l) := by
  refine ⟨⟨List.nodup_cons.mpr ⟨by simp, List.nodup_nil⟩, fun q hq => ?_, fun h q hq => ?_⟩, fun k hk => ?_, fun q hq => ?_⟩
  · (rcases List.mem_singleton.mp hq with rfl)
    show (1 : Int) ≠ 0
    decide
  · (rcases List.mem_singleton.mp hq with rfl)
    show (0 : Int) ≤ 1 ∧ 1 < p
    rcases hp with h0 | h0
    · exact absurd h0 h
    · have : ∀ p ∈ Num.primes, (1 : Int) < p := by decide
      exact ⟨by decide, this p h0⟩
  · rcases List.mem_singleton.mp hk with rfl
    refine ⟨List.length_replicate, fun x hx => ?_, ?_⟩
    · rw [(List.mem_replicate.mp hx).2]
      exact Int.le_refl _
    · exact zero_sum l
  · (rcases List.mem_singleton.mp hq with rfl)
    show (1 : Nat) ≤ 2 ^ 5
    decide
theorem pow_ok {p : Int} (hp : Num.PrimeI p) {l d s : Nat} {a : CQ} (ha : FormOk p l d s a) (hd : lowD l d) : ∀ m : Nat, lowD l (m * d) → FormOk p l (m * d) (5 + m * (s + 20)) (powT p l a m) := by
  have hs := hp.small
  intro m
  induction m with
  | zero =>
    intro _
    rw [Nat.zero_mul, Nat.zero_mul]
    exact one_ok hp l
  | succ m ih =>
    intro h
    rw [Nat.succ_mul] at h ⊢
    have h2 := (ih (low_of h (by omega))).mul hs.1 hs.2 ha (low_of h (by omega)) hd
    rw [show 5 + (m + 1) * (s + 20) = 5 + m * (s + 20) + s + 20 by rw [Nat.succ_mul]; omega]
    exact h2
abbrev s_Form_add : Stmt := inCls (top 57) 6
theorem sc_Form_add : FnScope ["self", "other"] ["self", "other"] (defScope s_Form_add) := ⟨rfl, rfl, rfl, by decide +kernel, rfl, by decide +kernel, by decide +kernel⟩
abbrev R_Form_add (Y : Cn) : FR := fun as β r β' => ∃ p l a b, as = [.imm (formD Y.cl p l a), .imm (formD Y.cl p l b)] ∧ (Num.PrimeI p ∧ ∃ d s, 5 ≤ s ∧ lowD l d ∧ FormOk p l d s a ∧ FormOk p l d s b) ∧ r = formD Y.cl p l (descF (addT p a b)) ∧ β = none ∧ β' = none
theorem ok_Form_add {P : Program} {w : World} {K : PySem.W.Frag} {mg : Str → Option Value} {base : Heap} {Y : Cn} (F : MethAt K Y.cl "__add__" "Form.__add__" s_Form_add) (hX : K.In base) (hG : base.Ns mainGlobals mg) (T : Txt K mg Y) (G_need_addable : FnG P w K mg base 5 "need_addable" ["form", "other"] (R_need_addable Y)) (G_made : FnG P w K mg base 8 "made" ["prime", "letters", "table"] (R_made Y)) (G_added : FnG P w K mg base 2 "added" ["prime", "one", "other"] R_added) : FnM P w K mg base 9 Y.cl "__add__" ["self", "other"] (R_Form_add Y) := by
  have nd := sc_Form_add.nd
  refine meth_mk F sc_Form_add (fun as β r β' h => by first | (obtain ⟨_, rfl, _⟩ := h; rfl) | (obtain ⟨_, _, rfl, _⟩ := h; rfl) | (obtain ⟨_, _, _, rfl, _⟩ := h; rfl) | (obtain ⟨_, _, _, _, rfl, _⟩ := h; rfl) | (obtain ⟨_, _, _, _, _, rfl, _⟩ := h; rfl) | (obtain ⟨_, _, _, _, _, _, rfl, _⟩ := h; rfl)) (fun _ _ _ _ _ _ _ us hl => match us, hl with | [_, _], _ => rfl) (fun f cdv A outer s H E hr => ⟨_, (pss_cons (ps_if (pt_not (pt_val (pe_callB (call_isiK (K := K)) (by rfl) T.z_isinstance bo_isinstance (pa_cons (pv 1) (pa_cons (pe_glob (v := .ref _) (by rfl) T.k_Form rfl) pa_nil))))) pss_never pss_nil) (pss_cons (ps_expr (pe_fn G_need_addable (hr.mono (by decide)) (pa_cons (pv 0) (pa_cons (pv 1) pa_nil)))) (pss_one (ps_ret (pe_fn G_made (hr.mono (by decide)) (pa_cons (pe_fld (pv 0) (by rfl)) (pa_cons (pe_fld (pv 0) (by rfl)) (pa_cons (pe_fn G_added (hr.mono (by decide)) (pa_cons (pe_fld (pv 0) (by rfl)) (pa_cons (pe_fld (pv 0) (by rfl)) (pa_cons (pe_fld (pv 1) (by rfl)) pa_nil)))) pa_nil)))))))), fun as β r β' hR => ?_⟩)
  obtain ⟨p, l, a, b, rfl, ⟨hp, d, s, h5, hd, ha, hb⟩, rfl, rfl, rfl⟩ := hR
  try dsimp only [cxOf, Cx.nox, Cx.wish]
  have hs := hp.small
  exact .ret (st_sq (st_ifF ((t_not (t_B (d_isC (d_var rfl) T.iself))).to rfl) st_next) (st_sq (st_drop (d_call0 (a_con (d_var rfl) (a_con (d_var rfl) a_nil)) ⟨p, l, a, b, rfl, ⟨d, sum_of ha.hom, sum_of hb.hom⟩, rfl, rfl, rfl⟩))
    (st_ret (d_call0 (a_con (d_fld (d_var rfl) T.m_prime rfl) (a_con (d_fld (d_var rfl) T.m_letters rfl) (a_con (d_call0 (a_con (d_fld (d_var rfl) T.m_prime rfl) (a_con (d_fld (d_var rfl) T.m_table rfl) (a_con (d_fld (d_var rfl) T.m_table rfl) a_nil))) ⟨p, a, b, rfl, ⟨hs.1, ha.clean.nd, hb.clean.nd, l, d, hd, ha.hom, hb.hom⟩, rfl, rfl, rfl⟩) a_nil))) ⟨p, l, addT p a b, rfl, ⟨hp, tab_of (ha.add hs.1 hs.2 h5 hb) hd⟩, rfl, rfl, rfl⟩))))
abbrev s_Form_neg : Stmt := inCls (top 57) 8
theorem sc_Form_neg : FnScope ["self"] ["self"] (defScope s_Form_neg) := ⟨rfl, rfl, rfl, by decide +kernel, rfl, by decide +kernel, by decide +kernel⟩
abbrev R_Form_neg (Y : Cn) : FR := fun as β r β' => ∃ p l a, as = [.imm (formD Y.cl p l a)] ∧ (Num.PrimeI p ∧ ∃ d s, 5 ≤ s ∧ s ≤ 1000 ∧ lowD l d ∧ FormOk p l d s a) ∧ r = formD Y.cl p l (descF (scaT p a (-1))) ∧ β = none ∧ β' = none
theorem ok_Form_neg {P : Program} {w : World} {K : PySem.W.Frag} {mg : Str → Option Value} {base : Heap} {Y : Cn} (F : MethAt K Y.cl "__neg__" "Form.__neg__" s_Form_neg) (hX : K.In base) (hG : base.Ns mainGlobals mg) (T : Txt K mg Y) (G_made : FnG P w K mg base 8 "made" ["prime", "letters", "table"] (R_made Y)) (G_scaled : FnG P w K mg base 2 "scaled" ["prime", "table", "times"] R_scaled) : FnM P w K mg base 9 Y.cl "__neg__" ["self"] (R_Form_neg Y) := by
  have nd := sc_Form_neg.nd
  refine meth_mk F sc_Form_neg (fun as β r β' h => by first | (obtain ⟨_, rfl, _⟩ := h; rfl) | (obtain ⟨_, _, rfl, _⟩ := h; rfl) | (obtain ⟨_, _, _, rfl, _⟩ := h; rfl) | (obtain ⟨_, _, _, _, rfl, _⟩ := h; rfl) | (obtain ⟨_, _, _, _, _, rfl, _⟩ := h; rfl) | (obtain ⟨_, _, _, _, _, _, rfl, _⟩ := h; rfl)) (fun _ _ _ _ _ _ _ us hl => match us, hl with | [_], _ => rfl) (fun f cdv A outer s H E hr => ⟨_, (pss_one (ps_ret (pe_fn G_made (hr.mono (by decide)) (pa_cons (pe_fld (pv 0) (by rfl)) (pa_cons (pe_fld (pv 0) (by rfl)) (pa_cons (pe_fn G_scaled (hr.mono (by decide)) (pa_cons (pe_fld (pv 0) (by rfl)) (pa_cons (pe_fld (pv 0) (by rfl)) (pa_cons (pe_un un_neg pe_int) pa_nil)))) pa_nil)))))), fun as β r β' hR => ?_⟩)
  obtain ⟨p, l, a, rfl, ⟨hp, d, s, h5, h6, hd, ha⟩, rfl, rfl, rfl⟩ := hR
  try dsimp only [cxOf, Cx.nox, Cx.wish]
  have hs := hp.small
  exact .ret (st_ret (d_call0 (a_con (d_fld (d_var rfl) T.m_prime rfl) (a_con (d_fld (d_var rfl) T.m_letters rfl) (a_con (d_call0 (a_con (d_fld (d_var rfl) T.m_prime rfl) (a_con (d_fld (d_var rfl) T.m_table rfl) (a_con (d_neg d_int) a_nil))) ⟨p, -1, a, rfl, ⟨hs.1, ha.clean.nd, ha.few hd, fun q hq => mulW (b := 2) (co_lt ha q hq) (by decide) (by omega)⟩, rfl, rfl, rfl⟩) a_nil))) ⟨p, l, scaT p a (-1), rfl, ⟨hp, tab_of (ha.sca (r := 0) hs.1 hs.2 h5 (by decide)) hd⟩, rfl, rfl, rfl⟩))
abbrev s_Form_sub : Stmt := inCls (top 57) 7
theorem sc_Form_sub : FnScope ["self", "other", "less"] ["self", "other"] (defScope s_Form_sub) := ⟨rfl, rfl, rfl, by decide +kernel, rfl, by decide +kernel, by decide +kernel⟩
abbrev R_Form_sub (Y : Cn) : FR := fun as β r β' => ∃ p l a b, as = [.imm (formD Y.cl p l a), .imm (formD Y.cl p l b)] ∧ (Num.PrimeI p ∧ ∃ d s, 5 ≤ s ∧ s ≤ 1000 ∧ lowD l d ∧ FormOk p l d s a ∧ FormOk p l d s b) ∧ r = formD Y.cl p l (descF (addT p a (scaT p b (-1)))) ∧ β = none ∧ β' = none
theorem ok_Form_sub {P : Program} {w : World} {K : PySem.W.Frag} {mg : Str → Option Value} {base : Heap} {Y : Cn} (F : MethAt K Y.cl "__sub__" "Form.__sub__" s_Form_sub) (hX : K.In base) (hG : base.Ns mainGlobals mg) (T : Txt K mg Y) (G_need_addable : FnG P w K mg base 5 "need_addable" ["form", "other"] (R_need_addable Y)) (G_scaled : FnG P w K mg base 2 "scaled" ["prime", "table", "times"] R_scaled) (G_made : FnG P w K mg base 8 "made" ["prime", "letters", "table"] (R_made Y)) (G_added : FnG P w K mg base 2 "added" ["prime", "one", "other"] R_added) : FnM P w K mg base 9 Y.cl "__sub__" ["self", "other"] (R_Form_sub Y) := by
  have nd := sc_Form_sub.nd
  refine meth_mk F sc_Form_sub (fun as β r β' h => by first | (obtain ⟨_, rfl, _⟩ := h; rfl) | (obtain ⟨_, _, rfl, _⟩ := h; rfl) | (obtain ⟨_, _, _, rfl, _⟩ := h; rfl) | (obtain ⟨_, _, _, _, rfl, _⟩ := h; rfl) | (obtain ⟨_, _, _, _, _, rfl, _⟩ := h; rfl) | (obtain ⟨_, _, _, _, _, _, rfl, _⟩ := h; rfl)) (fun _ _ _ _ _ _ _ us hl => match us, hl with | [_, _], _ => rfl) (fun f cdv A outer s H E hr => ⟨_, (pss_cons (ps_if (pt_not (pt_val (pe_callB (call_isiK (K := K)) (by rfl) T.z_isinstance bo_isinstance (pa_cons (pv 1) (pa_cons (pe_glob (v := .ref _) (by rfl) T.k_Form rfl) pa_nil))))) pss_never pss_nil) (pss_cons (ps_expr (pe_fn G_need_addable (hr.mono (by decide)) (pa_cons (pv 0) (pa_cons (pv 1) pa_nil)))) (pss_cons (ps_set (i := 2) nd rfl (Or.inl rfl) (pe_fn G_scaled (hr.mono (by decide)) (pa_cons (pe_fld (pv 0) (by rfl)) (pa_cons (pe_fld (pv 1) (by rfl)) (pa_cons (pe_un un_neg pe_int) pa_nil))))) (pss_one (ps_ret (pe_fn G_made (hr.mono (by decide)) (pa_cons (pe_fld (pv 0) (by rfl)) (pa_cons (pe_fld (pv 0) (by rfl)) (pa_cons (pe_fn G_added (hr.mono (by decide)) (pa_cons (pe_fld (pv 0) (by rfl)) (pa_cons (pe_fld (pv 0) (by rfl)) (pa_cons (pv 2) pa_nil)))) pa_nil))))))))), fun as β r β' hR => ?_⟩)
  obtain ⟨p, l, a, b, rfl, ⟨hp, d, s, h5, h6, hd, ha, hb⟩, rfl, rfl, rfl⟩ := hR
  try dsimp only [cxOf, Cx.nox, Cx.wish]
  have hs := hp.small
  have hc := hb.sca (r := 0) (t := -1) hs.1 hs.2 h5 (by decide)
  exact .ret (st_sq (st_ifF ((t_not (t_B (d_isC (d_var rfl) T.iself))).to rfl) st_next) (st_sq (st_drop (d_call0 (a_con (d_var rfl) (a_con (d_var rfl) a_nil)) ⟨p, l, a, b, rfl, ⟨d, sum_of ha.hom, sum_of hb.hom⟩, rfl, rfl, rfl⟩))
    (st_sq (st_asg (d_call0 (a_con (d_fld (d_var rfl) T.m_prime rfl) (a_con (d_fld (d_var rfl) T.m_table rfl) (a_con (d_neg d_int) a_nil))) ⟨p, -1, b, rfl, ⟨hs.1, hb.clean.nd, hb.few hd, fun q hq => mulW (b := 2) (co_lt hb q hq) (by decide) (by omega)⟩, rfl, rfl, rfl⟩))
    (st_ret (d_call0 (a_con (d_fld (d_var rfl) T.m_prime rfl) (a_con (d_fld (d_var rfl) T.m_letters rfl) (a_con (d_call0 (a_con (d_fld (d_var rfl) T.m_prime rfl) (a_con (d_fld (d_var rfl) T.m_table rfl) (a_con (d_var rfl) a_nil))) ⟨p, a, scaT p b (-1), rfl, ⟨hs.1, ha.clean.nd, hc.clean.nd, l, d, hd, ha.hom, hc.hom⟩, rfl, rfl, rfl⟩) a_nil))) ⟨p, l, addT p a (scaT p b (-1)), rfl, ⟨hp, tab_of (ha.add hs.1 hs.2 h5 hc) hd⟩, rfl, rfl, rfl⟩)))))
abbrev s_Form_mul : Stmt := inCls (top 57) 9
theorem sc_Form_mul : FnScope ["self", "other"] ["self", "other"] (defScope s_Form_mul) := ⟨rfl, rfl, rfl, by decide +kernel, rfl, by decide +kernel, by decide +kernel⟩
abbrev R_Form_mul (Y : Cn) : FR := fun as β r β' => ∃ p l a x, as = [.imm (formD Y.cl p l a), .imm x] ∧ (Num.PrimeI p ∧ ((∃ b d e s t, x = formD Y.cl p l b ∧ lowD l (d + e) ∧ d + e ≤ 40 ∧ s + t ≤ 900 ∧ FormOk p l d s a ∧ FormOk p l e t b ∧ r = formD Y.cl p l (descF (mulT p a b))) ∨ (∃ n d s t, x = .int n ∧ lowD l d ∧ s + t ≤ 900 ∧ 5 ≤ s + t ∧ FormOk p l d s a ∧ n.natAbs ≤ 2 ^ t ∧ Num.fits p (.int n) = true ∧ r = formD Y.cl p l (descF (scaT p a n))))) ∧ β = none ∧ β' = none
theorem ok_Form_mul {P : Program} {w : World} {K : PySem.W.Frag} {mg : Str → Option Value} {base : Heap} {Y : Cn} (F : MethAt K Y.cl "__mul__" "Form.__mul__" s_Form_mul) (hX : K.In base) (hG : base.Ns mainGlobals mg) (T : Txt K mg Y) (G_made : FnG P w K mg base 8 "made" ["prime", "letters", "table"] (R_made Y)) (G_need_alike : FnG P w K mg base 3 "need_alike" ["form", "other"] (R_need_alike Y)) (G_fits : FnG P w K mg base 2 "fits" ["prime", "value"] R_fits) (G_scaled : FnG P w K mg base 2 "scaled" ["prime", "table", "times"] R_scaled) (G_multiplied : FnG P w K mg base 2 "multiplied" ["prime", "letters", "one", "other"] R_multiplied) (G_Form_degree : FnP P w K mg base 2 Y.cl "degree" (R_Form_degree Y)) (G_Form_bool : FnM P w K mg base 1 Y.cl "__bool__" ["self"] (R_Form_bool Y)) : FnM P w K mg base 9 Y.cl "__mul__" ["self", "other"] (R_Form_mul Y) := by
  have nd := sc_Form_mul.nd
  refine meth_mk F sc_Form_mul (fun as β r β' h => by first | (obtain ⟨_, rfl, _⟩ := h; rfl) | (obtain ⟨_, _, rfl, _⟩ := h; rfl) | (obtain ⟨_, _, _, rfl, _⟩ := h; rfl) | (obtain ⟨_, _, _, _, rfl, _⟩ := h; rfl) | (obtain ⟨_, _, _, _, _, rfl, _⟩ := h; rfl) | (obtain ⟨_, _, _, _, _, _, rfl, _⟩ := h; rfl)) (fun _ _ _ _ _ _ _ us hl => match us, hl with | [_, _], _ => rfl) (fun f cdv A outer s H E hr => ⟨_, (pss_cons (ps_if (pt_val (pe_callB (call_isiK (K := K)) (by rfl) T.z_isinstance bo_isinstance (pa_cons (pv 1) (pa_cons (pe_glob (v := .ref _) (by rfl) T.k_Form rfl) pa_nil)))) (pss_cons (ps_expr (pe_fn G_need_alike (hr.mono (by decide)) (pa_cons (pv 0) (pa_cons (pv 1) pa_nil)))) (pss_cons (ps_if (PW.pt (pw_and (pt_truthR (pv 0) (tru_own G_Form_bool (hr.mono (by decide))) (fun _ => rfl)) (pw_and (pt_truthR (pv 1) (tru_own G_Form_bool (hr.mono (by decide))) (fun _ => rfl)) (pw_and1 (pt_cmpR op_gt (pe_op op_add (pe_p G_Form_degree (hr.mono (by decide)) (pv 0)) (pe_p G_Form_degree (hr.mono (by decide)) (pv 1))) (pe_glob (v := .int _) (by rfl) T.c_MAX_DEGREE ⟨_, rfl⟩) (nomark _)))))) (pss_one ps_never) pss_nil) (pss_one (ps_ret (pe_fn G_made (hr.mono (by decide)) (pa_cons (pe_fld (pv 0) (by rfl)) (pa_cons (pe_fld (pv 0) (by rfl)) (pa_cons (pe_fn G_multiplied (hr.mono (by decide)) (pa_cons (pe_fld (pv 0) (by rfl)) (pa_cons (pe_fld (pv 0) (by rfl)) (pa_cons (pe_fld (pv 0) (by rfl)) (pa_cons (pe_fld (pv 1) (by rfl)) pa_nil))))) pa_nil)))))))) pss_nil) (pss_cons (ps_if (PW.pt (pw_or (pt_not (pt_val (pe_callB (call_isiK (K := K)) (by rfl) T.z_isinstance bo_isinstance (pa_cons (pv 1) (pa_cons (pe_bltn (v := .ty "int") (by rfl) T.z_int bo_int rfl) pa_nil))))) (pw_or1 (pt_val (pe_callB (call_isiK (K := K)) (by rfl) T.z_isinstance bo_isinstance (pa_cons (pv 1) (pa_cons (pe_bltn (v := .ty "bool") (by rfl) T.z_bool bo_bool rfl) pa_nil))))))) pss_never pss_nil) (pss_cons (ps_if (pt_not (pt_val (pe_fn G_fits (hr.mono (by decide)) (pa_cons (pe_fld (pv 0) (by rfl)) (pa_cons (pv 1) pa_nil))))) (pss_one ps_never) pss_nil) (pss_one (ps_ret (pe_fn G_made (hr.mono (by decide)) (pa_cons (pe_fld (pv 0) (by rfl)) (pa_cons (pe_fld (pv 0) (by rfl)) (pa_cons (pe_fn G_scaled (hr.mono (by decide)) (pa_cons (pe_fld (pv 0) (by rfl)) (pa_cons (pe_fld (pv 0) (by rfl)) (pa_cons (pv 1) pa_nil)))) pa_nil))))))))), fun as β r β' hR => ?_⟩)
  obtain ⟨p, l, a, x, rfl, ⟨hp, hx⟩, rfl, rfl⟩ := hR
  try dsimp only [cxOf, Cx.nox, Cx.wish]
  have hs := hp.small
  rcases hx with ⟨b, d, e, s, t, rfl, hd, h40, hst, ha, hb, rfl⟩ | ⟨n, d, s, t, rfl, hd, hst, h5, ha, hn, hf, rfl⟩
  · have ta : TtB K (fun σ H Q => tVar 0 σ H fun x H' => rTruO Y.cl (spR K (R_Form_bool Y)) x H' Q) (startR ["self", "other"] [.imm (formD Y.cl p l a), .imm (formD Y.cl p l b)]) none (!(cD a).isEmpty) none := t_truO (d_var rfl) ⟨p, l, a, rfl, rfl, rfl, rfl⟩
    have tb : TtB K (fun σ H Q => tVar 1 σ H fun x H' => rTruO Y.cl (spR K (R_Form_bool Y)) x H' Q) (startR ["self", "other"] [.imm (formD Y.cl p l a), .imm (formD Y.cl p l b)]) none (!(cD b).isEmpty) none := t_truO (d_var rfl) ⟨p, l, b, rfl, rfl, rfl, rfl⟩
    have low : TtB K (tAnd (fun σ H Q => tVar 0 σ H fun x H' => rTruO Y.cl (spR K (R_Form_bool Y)) x H' Q) (tAnd (fun σ H Q => tVar 1 σ H fun x H' => rTruO Y.cl (spR K (R_Form_bool Y)) x H' Q) (tTest (tOp (rI0 fun i j => V.bl (decide (j < i))) (tOp (rI0 fun i j => V.int (i + j)) (tProp Y.cl (spR K (R_Form_degree Y)) [] E0 (tVar 0)) (tProp Y.cl (spR K (R_Form_degree Y)) [] E0 (tVar 1))) (tC (V.int 40)))))) (startR ["self", "other"] [.imm (formD Y.cl p l a), .imm (formD Y.cl p l b)]) none false none := by
      cases a with
      | nil => exact t_andF ta
      | cons q a =>
        cases b with
        | nil => exact t_andT ta (t_andF tb)
        | cons r b =>
          have e1 : q.1.sum = (d : Int) := sum_of ha.hom q.1 List.mem_cons_self
          have e2 : r.1.sum = (e : Int) := sum_of hb.hom r.1 List.mem_cons_self
          exact t_andT ta (t_andT tb ((t_test (d_gt (d_add (i := q.1.sum) (j := r.1.sum) (d_prop (d_var rfl) ⟨p, l, q :: a, rfl, rfl, rfl, rfl⟩) (d_prop (d_var rfl) ⟨p, l, r :: b, rfl, rfl, rfl, rfl⟩)) d_int)).to (by rw [e1, e2]; exact decide_eq_false (by omega))))
    have hM := ha.mul hs.1 hs.2 hb (low_of hd (by omega)) (low_of hd (by omega))
    exact .ret (st_seqR (st_ifT (t_B (d_isC (d_var rfl) T.iself)) (st_sq (st_drop (d_call0 (a_con (d_var rfl) (a_con (d_var rfl) a_nil)) ⟨p, l, a, b, rfl, rfl, rfl, rfl⟩)) (st_sq (st_ifF low st_next)
      (st_ret (d_call0 (a_con (d_fld (d_var rfl) T.m_prime rfl) (a_con (d_fld (d_var rfl) T.m_letters rfl) (a_con (d_call0 (a_con (d_fld (d_var rfl) T.m_prime rfl) (a_con (d_fld (d_var rfl) T.m_letters rfl) (a_con (d_fld (d_var rfl) T.m_table rfl) (a_con (d_fld (d_var rfl) T.m_table rfl) a_nil)))) ⟨p, l, a, b, rfl, ⟨hs.1, mul_ok hd ha hb (by omega)⟩, rfl, rfl, rfl⟩) a_nil))) ⟨p, l, mulT p a b, rfl, ⟨hp, tab_of hM hd⟩, rfl, rfl, rfl⟩))))))
  · have hS := ha.sca (t := n) hs.1 hs.2 h5 hn
    have hn2 : n.natAbs < 2 ^ (t + 1) := Nat.lt_of_le_of_lt hn (Nat.pow_lt_pow_right (by decide) (Nat.lt_succ_self t))
    have fit : EvB K (tCall (spR K R_fits) [] E0 (tCons (tFld K (tVar 0) "_prime") (tCons (tVar 1) tNil))) (startR ["self", "other"] [.imm (formD Y.cl p l a), .imm (.int n)]) none (.bool true) none := (c_f2 (a := PyData.int) (a' := anyD) (x := p) (y := PyData.int n) (d_fld (d_var rfl) T.m_prime rfl) (d_var rfl) trivial).to (congrArg PyData.bool hf)
    exact .ret (st_sq (st_ifF (t_B (d_isInt0 (d_var rfl) T.kI)) st_next) (st_sq (st_ifF (t_orF ((t_not (t_B (d_isInt (d_var rfl)))).to rfl) ((t_B (d_isBool (d_var rfl))).to rfl)) st_next) (st_sq (st_ifF ((t_not (t_B fit)).to rfl) st_next)
      (st_ret (d_call0 (a_con (d_fld (d_var rfl) T.m_prime rfl) (a_con (d_fld (d_var rfl) T.m_letters rfl) (a_con (d_call0 (a_con (d_fld (d_var rfl) T.m_prime rfl) (a_con (d_fld (d_var rfl) T.m_table rfl) (a_con (d_var rfl) a_nil))) ⟨p, n, a, rfl, ⟨hs.1, ha.clean.nd, ha.few hd, fun q hq => mulW (co_lt ha q hq) hn2 (by omega)⟩, rfl, rfl, rfl⟩) a_nil))) ⟨p, l, scaT p a n, rfl, ⟨hp, tab_of hS hd⟩, rfl, rfl, rfl⟩)))))
abbrev s_Form_power : Stmt := inCls (top 57) 10
theorem sc_Form_power : FnScope ["self", "many", "table", "_"] ["self", "many"] (defScope s_Form_power) := ⟨rfl, rfl, rfl, by decide +kernel, rfl, by decide +kernel, by decide +kernel⟩
abbrev R_Form_power (Y : Cn) : FR := fun as β r β' => ∃ p l a m, as = [.imm (formD Y.cl p l a), .imm (.int (m : Nat))] ∧ (Num.PrimeI p ∧ m ≤ 3 ∧ ∃ d s, lowD l d ∧ lowD l (m * d) ∧ s ≤ 100 ∧ FormOk p l d s a) ∧ r = formD Y.cl p l (descF (powT p l a m)) ∧ β = none ∧ β' = none
theorem ok_Form_power {P : Program} {w : World} {K : PySem.W.Frag} {mg : Str → Option Value} {base : Heap} {Y : Cn} (F : MethAt K Y.cl "power" "Form.power" s_Form_power) (hX : K.In base) (hG : base.Ns mainGlobals mg) (T : Txt K mg Y) (G_need_between : FnG P w K mg base 2 "need_between" ["number", "least", "most"] R_need_between) (G_unit : FnG P w K mg base 1 "unit" ["letters"] R_unit) (G_made : FnG P w K mg base 8 "made" ["prime", "letters", "table"] (R_made Y)) (G_multiplied : FnG P w K mg base 2 "multiplied" ["prime", "letters", "one", "other"] R_multiplied) (G_Form_degree : FnP P w K mg base 2 Y.cl "degree" (R_Form_degree Y)) (G_Form_bool : FnM P w K mg base 1 Y.cl "__bool__" ["self"] (R_Form_bool Y)) : FnM P w K mg base 9 Y.cl "power" ["self", "many"] (R_Form_power Y) := by
  have nd := sc_Form_power.nd
  refine meth_mk F sc_Form_power (fun as β r β' h => by first | (obtain ⟨_, rfl, _⟩ := h; rfl) | (obtain ⟨_, _, rfl, _⟩ := h; rfl) | (obtain ⟨_, _, _, rfl, _⟩ := h; rfl) | (obtain ⟨_, _, _, _, rfl, _⟩ := h; rfl) | (obtain ⟨_, _, _, _, _, rfl, _⟩ := h; rfl) | (obtain ⟨_, _, _, _, _, _, rfl, _⟩ := h; rfl)) (fun _ _ _ _ _ _ _ us hl => match us, hl with | [_, _], _ => rfl) (fun f cdv A outer s H E hr => ⟨_, (pss_cons (ps_expr (pe_fn G_need_between (hr.mono (by decide)) (pa_cons (pv 1) (pa_cons pe_int (pa_cons (pe_glob (v := .int _) (by rfl) T.c_MAX_DEGREE ⟨_, rfl⟩) pa_nil))))) (pss_cons (ps_if (PW.pt (pw_and (pt_truthR (pv 0) (tru_own G_Form_bool (hr.mono (by decide))) (fun _ => rfl)) (pw_and1 (pt_cmpR op_gt (pe_op op_mulW (pe_p G_Form_degree (hr.mono (by decide)) (pv 0)) (pv 1)) (pe_glob (v := .int _) (by rfl) T.c_MAX_DEGREE ⟨_, rfl⟩) (nomark _))))) (pss_one ps_never) pss_nil) (pss_cons (ps_set (i := 2) nd rfl (Or.inl rfl) (pe_fn G_unit (hr.mono (by decide)) (pa_cons (pe_fld (pv 0) (by rfl)) pa_nil))) (pss_cons (ps_for PassesOwn.never rfl (pi_range1 (by rfl) T.z_range (pa_cons (pv 1) pa_nil)) (pg_name (i := 3) nd rfl (Or.inl rfl)) (pss_one (ps_set (i := 2) nd rfl (Or.inl rfl) (pe_fn G_multiplied (hr.mono (by decide)) (pa_cons (pe_fld (pv 0) (by rfl)) (pa_cons (pe_fld (pv 0) (by rfl)) (pa_cons (pv 2) (pa_cons (pe_fld (pv 0) (by rfl)) pa_nil)))))))) (pss_one (ps_ret (pe_fn G_made (hr.mono (by decide)) (pa_cons (pe_fld (pv 0) (by rfl)) (pa_cons (pe_fld (pv 0) (by rfl)) (pa_cons (pv 2) pa_nil)))))))))), fun as β r β' hR => ?_⟩)
  obtain ⟨p, l, a, m, rfl, ⟨hp, h3, d, s, hd1, hd, hs, ha⟩, rfl, rfl, rfl⟩ := hR
  try dsimp only [cxOf, Cx.nox, Cx.wish]
  have sm := hp.small
  have ta : TtB K (fun σ H Q => tVar 0 σ H fun x H' => rTruO Y.cl (spR K (R_Form_bool Y)) x H' Q) (startR ["self", "many", "table", "_"] [.imm (formD Y.cl p l a), .imm (.int m)]) none (!(cD a).isEmpty) none := t_truO (d_var rfl) ⟨p, l, a, rfl, rfl, rfl, rfl⟩
  have low : TtB K (tAnd (fun σ H Q => tVar 0 σ H fun x H' => rTruO Y.cl (spR K (R_Form_bool Y)) x H' Q) (tTest (tOp (rI0 fun i j => V.bl (decide (j < i))) (tOp (rI CMulW fun i j => V.int (i * j)) (tProp Y.cl (spR K (R_Form_degree Y)) [] E0 (tVar 0)) (tVar 1)) (tC (V.int 40))))) (startR ["self", "many", "table", "_"] [.imm (formD Y.cl p l a), .imm (.int m)]) none false none := by
    cases a with
    | nil => exact t_andF ta
    | cons q a =>
      have e1 : q.1.sum = (d : Int) := sum_of ha.hom q.1 List.mem_cons_self
      have d40 := low_40 hd1
      have md40 := low_40 hd
      have prod : (d : Int) * (m : Int) ≤ 40 := by
        rw [← Int.natCast_mul, Nat.mul_comm]
        omega
      exact t_andT ta ((t_test (d_gt (d_mul (i := q.1.sum) (j := (m : Int)) (d_prop (d_var rfl) ⟨p, l, q :: a, rfl, rfl, rfl, rfl⟩) (d_var rfl) (mulW (a := 10) (b := 10) (by rw [e1]; omega) (by omega) (by decide))) d_int)).to (by rw [e1]; exact decide_eq_false (by omega)))
  have step : ∀ (j : Nat) (y : Option TD.Slot), j < m → StB K (tAsg (tCall (spR K R_multiplied) [] E0 (tCons (tFld K (tVar 0) "_prime") (tCons (tFld K (tVar 0) "_letters") (tCons (tVar 2) (tCons (tFld K (tVar 0) "_table") tNil))))) (gName 2)) [some (.imm (formD Y.cl p l a)), some (.imm (.int m)), some (.imm (dT (cD (powT p l a j)))), y] none (.nx [some (.imm (formD Y.cl p l a)), some (.imm (.int m)), some (.imm (dT (cD (powT p l a (j + 1))))), y]) none := fun j y hj => by
    have le : (j + 1) * d ≤ m * d := Nat.mul_le_mul_right d hj
    rw [Nat.succ_mul] at le
    have hj3 : j * (s + 20) ≤ 3 * (s + 20) := Nat.mul_le_mul_right _ (by omega)
    have hP := pow_ok hp ha hd1 j (low_of hd (by omega))
    exact st_asg (d_call0 (a_con (d_fld (d_var rfl) T.m_prime rfl) (a_con (d_fld (d_var rfl) T.m_letters rfl) (a_con (d_var rfl) (a_con (d_fld (d_var rfl) T.m_table rfl) a_nil)))) ⟨p, l, powT p l a j, a, rfl, ⟨sm.1, mul_ok (low_of hd (by omega)) hP ha (by omega)⟩, rfl, rfl, rfl⟩)
  have l23 := hd1.l
  have tab := tab_of (pow_ok hp ha hd1 m hd) hd
  have nb : EvB K (tCall (spR K R_need_between) [] E0 (tCons (tVar 1) (tCons (tC (.int 0)) (tCons (tC (.int 40)) tNil)))) (startR ["self", "many", "table", "_"] [.imm (formD Y.cl p l a), .imm (.int m)]) none .none none := c_f3 (x := (m : Int)) (y := 0) (z := 40) (d_var rfl) d_int d_int ⟨⟨by unfold Num.big; omega, by unfold Num.big; omega⟩, by omega, by omega⟩
  have fin : ∀ y : Option TD.Slot, StB K (tRet (tCall (spR K (R_made Y)) [] E0 (tCons (tFld K (tVar 0) "_prime") (tCons (tFld K (tVar 0) "_letters") (tCons (tVar 2) tNil))))) [some (.imm (formD Y.cl p l a)), some (.imm (.int m)), some (.imm (dT (cD (powT p l a m)))), y] none (.ret (formD Y.cl p l (descF (powT p l a m)))) none := fun y => st_ret (d_call0 (a_con (d_fld (d_var rfl) T.m_prime rfl) (a_con (d_fld (d_var rfl) T.m_letters rfl) (a_con (d_var rfl) a_nil))) ⟨p, l, powT p l a m, rfl, ⟨hp, tab⟩, rfl, rfl, rfl⟩)
  have lp : ∃ y, ForR K 3 (tAsg (tCall (spR K R_multiplied) [] E0 (tCons (tFld K (tVar 0) "_prime") (tCons (tFld K (tVar 0) "_letters") (tCons (tVar 2) (tCons (tFld K (tVar 0) "_table") tNil))))) (gName 2)) (rng 0 m) [some (.imm (formD Y.cl p l a)), some (.imm (.int m)), some (.imm (dT (cD (powT p l a 0)))), none] none (.nx [some (.imm (formD Y.cl p l a)), some (.imm (.int m)), some (.imm (dT (cD (powT p l a m)))), y]) none := by
    obtain rfl | rfl | rfl | rfl : m = 0 ∨ m = 1 ∨ m = 2 ∨ m = 3 := by omega
    · exact ⟨_, .nil _ _⟩
    · exact ⟨_, .nx (step 0 _ (by decide)) (.nil _ _)⟩
    · exact ⟨_, .nx (step 0 _ (by decide)) (.nx (step 1 _ (by decide)) (.nil _ _))⟩
    · exact ⟨_, .nx (step 0 _ (by decide)) (.nx (step 1 _ (by decide)) (.nx (step 2 _ (by decide)) (.nil _ _)))⟩
  obtain ⟨y, lp⟩ := lp
  exact .ret (st_sq (st_drop nb) (st_sq (st_ifF low st_next) (st_sq (st_asg (d_call0 (a_con (d_fld (d_var rfl) T.m_letters rfl) a_nil) ⟨l, rfl, l23, rfl, rfl, rfl⟩)) (st_sq (st_forR1 (i := (m : Int)) (d_var rfl) (by omega) lp) (fin y)))))
end K05
set_option Elab.async false
set_option linter.all false
set_option maxRecDepth 100000
set_option maxHeartbeats 4100300
namespace TD
open PySem L2 PySem.Spec PyProof.Rows
open Evl (Ex ex_l ex_t fresh_back sq_of st_of sz_of sz_lt)
section
variable [TabW] {K : PySem.W.Frag} {b : Addr} {ρ : Rho} {β β2 : Bag} {ta tb tc te : TE} {tt : TT} {tu : TS} {o : Out} {j : Nat} {lo hi : Int} {rs : List Dt} {vs : List Nat}
abbrev downs (lo hi : Int) : List Dt := rngC lo (-1) (lo - hi).toNat
theorem downs_end : (downs lo hi).drop (lo - hi).toNat = [] := List.drop_eq_nil_iff.mpr (Nat.le_of_eq (rngC_length ..))
theorem st_forDown (h1 : EvB K ta ρ β (.int lo) β) (h2 : EvB K tb ρ β (.int hi) β) (h3 : EvB K tc ρ β (.int (-1)) β) (hb : -(2 ^ 62) ≤ lo ∧ lo < 2 ^ 62 ∧ -(2 ^ 62) ≤ hi ∧ hi < 2 ^ 62) (h : ForR K j tu (downs lo hi) ρ β o β2) : StB K (tFor (iRng3 (tCons ta (tCons tb (tCons tc tNil)))) (gName j) tu) ρ β o β2 := by
  refine ⟨h.som, fun b G H σ D E k => h1.run b G H σ _ E fun v1 G1 H1 s1 k1 d1 => h2.run b G1 H1 σ _ (E.step s1 k1) fun v2 G2 H2 s2 k2 d2 => h3.run b G2 H2 σ _ ((E.step s1 k1).step s2 k2) fun v3 G3 H3 s3 k3 d3 => ?_⟩
  have s03 := (s1.trans s2).trans s3
  have E3 := ((E.step s1 k1).step s2 k2).step s3 k3
  cases d1
  cases d2
  cases d3
  refine ⟨lo, hi, -1, (lo - hi).toNat, rfl, RgC.neg hb.1 hb.2.1 hb.2.2.1 hb.2.2.2, for_rangeC (lo := lo) (c := -1) (n := (lo - hi).toNat) (fun m σ' H' => ∃ G' ρ' β', Step b β.isSome G3 H3 G' H' ∧ β'.isSome = β.isSome ∧ EnvD K b β' G' H' σ' ρ' ∧ ForR K j tu ((downs lo hi).drop m) ρ' β' o β2) ⟨G3, ρ, β, Step.refl s3.s, rfl, E3, h⟩ ?_ ?_⟩
  · rintro m σ' H' hm ⟨G', ρ', β', s', m', E', r'⟩
    rw [rngC_drop hm] at r'
    exact for_turn m'.symm r' E' (.int _) s' (k.of (D' := D) s03) fun σ2 G2 H2 ρ2 β2' s2 m2 E2 r2 => ⟨G2, ρ2, β2', s2, m2, E2, r2⟩
  · rintro σ' H' ⟨G', ρ', β', s', m', E', r'⟩
    rw [downs_end] at r'
    cases r'
    exact k σ' G' H' (s03.trans s') E'
theorem d_lcDown (h1 : EvB K ta ρ β (.int lo) β) (h2 : EvB K tb ρ β (.int hi) β) (h3 : EvB K tc ρ β (.int (-1)) β) (hb : -(2 ^ 62) ≤ lo ∧ lo < 2 ^ 62 ∧ -(2 ^ 62) ≤ hi ∧ hi < 2 ^ 62) (h : LcR K j tt te (downs lo hi) (wipeR ρ vs) β rs β2) (hz : rs.length ≤ 100000)
    (hw : ∀ (σ : L2.St) x, wipe ((wipe σ vs).set j (some x)) vs = wipe σ vs) : EvB K (tLc (iRng3 (tCons ta (tCons tb (tCons tc tNil)))) (gName j) tt te vs) ρ β (.list rs) β2 := by
  refine ⟨h.som, fun b G H σ Q E k => h1.run b G H σ _ E fun v1 G1 H1 s1 k1 d1 => h2.run b G1 H1 σ _ (E.step s1 k1) fun v2 G2 H2 s2 k2 d2 => h3.run b G2 H2 σ _ ((E.step s1 k1).step s2 k2) fun v3 G3 H3 s3 k3 d3 => ?_⟩
  have s03 := (s1.trans s2).trans s3
  have E3 := ((E.step s1 k1).step s2 k2).step s3 k3
  cases d1
  cases d2
  cases d3
  refine ⟨lo, hi, -1, (lo - hi).toNat, rfl, RgC.neg hb.1 hb.2.1 hb.2.2.1 hb.2.2.2, fun Dl hD => ?_⟩
  have nb := bag_ne k3 rfl hD
  refine ⟨fun i m H' => m + i = (lo - hi).toNat ∧ LcW K b β.isSome G3 H3 Dl rs β2 (fun rest β' => LcR K j tt te ((downs lo hi).drop i) (wipeR ρ vs) β' rest β2) H', ⟨(lo - hi).toNat, rfl, lc_start s3.s hD k3 rfl nb h⟩, ?_⟩
  rintro i m H' ⟨sum, w'⟩
  cases m with
  | zero =>
    obtain rfl : i = (lo - hi).toNat := by omega
    rw [downs_end] at w'
    exact .inl ⟨Nat.le_refl _, lc_end s3.s hD nb w' fun v G' H'' s' kb' dv => k v G' H'' (s03.trans s') kb' dv⟩
  | succ m =>
    have lt : i < (lo - hi).toNat := by omega
    refine .inr ⟨lt, fun H' => LcW K b β.isSome G3 H3 Dl rs β2 (fun rest β' => LcR K j tt te ((downs lo hi).drop (i + 1)) (wipeR ρ vs) β' rest β2) H', fun _ z => ⟨m, Nat.lt_succ_self m, by omega, z⟩, ?_⟩
    rintro x H2 ⟨rfl, rfl⟩
    rw [rngC_drop lt] at w'
    exact ⟨hw σ _, lc_turn hD nb hz (fun G' H' β' s' kb' => (E3.wipe vs).step s' kb') (.int _) w'⟩
end
/-- the numbers n, n - 1, .., 0 -/
theorem downs_cons {n : Nat} : downs ((n + 1 : Nat) : Int) (-1) = .int ((n + 1 : Nat) : Int) :: downs (n : Int) (-1) := by
  have e1 : (((n + 1 : Nat) : Int) - -1).toNat = n + 1 + 1 := by omega
  have e2 : ((n : Int) - -1).toNat = n + 1 := by omega
  unfold downs rngC
  rw [e1, e2, List.range_succ_eq_map, List.map_cons, List.map_map]
  have head : PyData.int (((n + 1 : Nat) : Int) + ((0 : Nat) : Int) * -1) = .int ((n + 1 : Nat) : Int) := congrArg PyData.int (by omega)
  rw [head]
  refine congrArg _ (List.map_congr_left fun i _ => ?_)
  show PyData.int (((n + 1 : Nat) : Int) + ((i + 1 : Nat) : Int) * -1) = PyData.int ((n : Int) + ((i : Nat) : Int) * -1)
  (exact congrArg PyData.int (by omega))
end TD
set_option Elab.async false
set_option linter.all false
set_option maxRecDepth 100000
set_option maxHeartbeats 1100000
namespace K05
open PySem L2 TD PySem.Spec PyProof.Rows
open Evl (Ex ex_l ex_t fresh_back sq_of st_of sz_of sz_lt)
variable [TabW]
def fD {α : Type} (a : α → List Slot) (P : α → Prop) (g : α → List Int → Dt × List Int) : FR := fun as β r β' => ∃ x n ns, as = .bag :: a x ∧ P x ∧ Num.BagI n ns ∧ r = (g x ns).1 ∧ β = some ns ∧ β' = some (g x ns).2
section
variable {K : PySem.W.Frag} {ρ : Rho} {β β1 β2 β3 : Bag} {ta tb tc : TE} {t : TA} {E : XK} {α : Type}
theorem c_fD {a : α → List Slot} {P : α → Prop} {g : α → List Int → Dt × List Int} {x : α} {n : Int} {ns : List Int} (h : EvA K t ρ (some ns) (.bag :: a x) (some ns)) (hp : P x) (hb : Num.BagI n ns) : EvB K (tCall (spR K (fD a P g)) [] E t) ρ (some ns) (g x ns).1 (some (g x ns).2) := d_call h ⟨x, n, ns, rfl, hp, hb, rfl, rfl, rfl⟩ rfl
end
theorem grab_pos {t a m c : Int} (h : 0 < a) : Num.grabF t [a, m, c] = (a % t, [a.fdiv t, m, c]) := if_pos h
theorem grab_neg {t a m c : Int} (h : ¬ 0 < a) : Num.grabF t [a, m, c] = ((((((m + 1048627 * (c + 1)) % 2305843009213693951 * ((m + 1048627 * (c + 1)) % 2305843009213693951) % 2305843009213693723 * ((m + 1048627 * (c + 1)) % 2305843009213693951) + 8147 * (c + 1)) % 2305843009213693921).fdiv 16384) % t), [a, m, c + 1]) := if_neg h
theorem getD_int {ns : List Int} {i : Nat} (h : i < ns.length) : (ns.map PyData.int).getD i .none = .int (ns.getD i 0) := by
  rw [List.getD_eq_getElem?_getD, List.getD_eq_getElem?_getD, List.getElem?_map, List.getElem?_eq_getElem h]
  rfl
abbrev s_law_grab : Stmt := top 60
theorem sc_law_grab : FnScope ["_law_bag_here", "_law_total", "_law_found", "_law_one", "_law_two"] ["_law_bag_here", "_law_total"] (defScope s_law_grab) := ⟨rfl, rfl, rfl, by decide +kernel, rfl, by decide +kernel, by decide +kernel⟩
abbrev R_law_grab : FR := fD (fun t : Int => [.imm (.int t)]) (fun t => 0 < t ∧ t.natAbs < 2 ^ 3000) fun t ns => (.int (Num.grabF t ns).1, (Num.grabF t ns).2)
theorem ok_law_grab {P : Program} {w : World} {K : PySem.W.Frag} {mg : Str → Option Value} {base : Heap} {Y : Cn} (F : DefAt K "_law_grab" s_law_grab) (hX : K.In base) (hG : base.Ns mainGlobals mg) (T : Txt K mg Y)  : FnG P w K mg base 1 "_law_grab" ["_law_bag_here", "_law_total"] R_law_grab := by
  have nd := sc_law_grab.nd
  refine fn_mk F hX hG sc_law_grab (fun as β r β' h => by first | exact FR.len h | (obtain ⟨_, rfl, _⟩ := h; rfl) | (obtain ⟨_, _, rfl, _⟩ := h; rfl) | (obtain ⟨_, _, _, rfl, _⟩ := h; rfl) | (obtain ⟨_, _, _, _, rfl, _⟩ := h; rfl) | (obtain ⟨_, _, _, _, _, rfl, _⟩ := h; rfl)) (fun _ _ _ _ _ _ _ us hl => match us, hl with | [_, _], _ => rfl) (fun f cdv A outer s H E hr => ⟨_, (pss_cons (ps_if (pt_cmpR op_gt (pe_ix ix_list (pv 0) pe_int (fun _ _ => rfl)) pe_int (nomark _)) (pss_cons (ps_set (i := 2) nd rfl (Or.inl rfl) (pe_op op_mod (pe_callTy c_int (by rfl) T.z_int bo_int (pa_cons (pe_ix ix_list (pv 0) pe_int (fun _ _ => rfl)) pa_nil)) (pv 1))) (pss_cons (ps_asg (pe_op op_fdivV (pe_ix ix_list (pv 0) pe_int (fun _ _ => rfl)) (pv 1)) (pg_sub (pv 0) pe_int set_list)) (pss_one (ps_ret (pv 2))))) pss_nil) (pss_cons (ps_asg (pe_op op_add (pe_ix ix_list (pv 0) pe_int (fun _ _ => rfl)) pe_int) (pg_sub (pv 0) pe_int set_list)) (pss_cons (ps_set (i := 3) nd rfl (Or.inl rfl) (pe_op op_mod (pe_callTy c_int (by rfl) T.z_int bo_int (pa_cons (pe_op op_add (pe_ix ix_list (pv 0) pe_int (fun _ _ => rfl)) (pe_op op_mul pe_int (pe_ix ix_list (pv 0) pe_int (fun _ _ => rfl)))) pa_nil)) pe_int)) (pss_cons (ps_set (i := 4) nd rfl (Or.inl rfl) (pe_op op_add (pe_op op_mulW (pe_op op_mod (pe_callTy c_int (by rfl) T.z_int bo_int (pa_cons (pe_op op_mulW (pv 3) (pv 3)) pa_nil)) pe_int) (pv 3)) (pe_op op_mul pe_int (pe_ix ix_list (pv 0) pe_int (fun _ _ => rfl))))) (pss_one (ps_ret (pe_op op_mod (pe_callTy c_int (by rfl) T.z_int bo_int (pa_cons (pe_op op_fdivV (pe_op op_mod (pe_callTy c_int (by rfl) T.z_int bo_int (pa_cons (pv 4) pa_nil)) pe_int) pe_int) pa_nil)) (pv 1)))))))), fun as β r β' hR => ?_⟩)
  obtain ⟨t, n, ns, rfl, ⟨ht, hz⟩, hb, rfl, rfl, rfl⟩ := hR
  dsimp only [cxOf, Cx.nox, Cx.wish]
  obtain ⟨a, m, c, rfl, h1, h2, h3, h4, h5, h6⟩ := hb.ex
  have hdv : CDivV a t := ⟨by omega, Num.log_lt3 hz⟩
  by_cases h : 0 < a
  · rw [grab_pos h]
    refine .ret (st_seqR (st_ifT ((t_test (d_gt (d_ixB rfl d_int rfl) d_int)).to (decide_eq_true h)) (st_seq (st_asg (d_mod (d_intI (d_ixB rfl d_int rfl)) (d_var rfl) ht)) (st_seq (st_setB (j := 0) (d_fdiv (d_ixB rfl d_int rfl) (d_var rfl) hdv) rfl rfl) (st_ret (d_var rfl))))))
  · rw [grab_neg h]
    have e1 : (0 : Int) ≤ (m + 1048627 * (c + 1)) % 2305843009213693951 := Int.emod_nonneg _ (by decide)
    have e2 : (m + 1048627 * (c + 1)) % 2305843009213693951 < 2305843009213693951 := Int.emod_lt_of_pos _ (by decide)
    have w1 : CMulW ((m + 1048627 * (c + 1)) % 2305843009213693951) ((m + 1048627 * (c + 1)) % 2305843009213693951) := wide_mul (a := 62) (b := 62) (by omega) (by omega) (by decide) (by decide) (by decide)
    have w2 : ∀ z : Int, CMulW (z % 2305843009213693723) ((m + 1048627 * (c + 1)) % 2305843009213693951) := fun z => wide_mul (a := 62) (b := 62) (by have := Int.emod_nonneg z (show (2305843009213693723 : Int) ≠ 0 by decide); have := Int.emod_lt_of_pos z (show (0 : Int) < 2305843009213693723 by decide); omega) (by omega) (by decide) (by decide) (by decide)
    refine .ret (st_sq (st_ifF ((t_test (d_gt (d_ixB rfl d_int rfl) d_int)).to (decide_eq_false h)) st_next) (st_seq (st_setB (j := 2) (d_add (d_ixB rfl d_int rfl) d_int) rfl rfl) (st_sq (st_asg (d_mod (d_intI (d_add (d_ixB rfl d_int rfl) (d_mul d_int (d_ixB rfl d_int rfl) (.inl (by decide))))) d_int (by decide))) (st_sq (st_asg (d_add (d_mul (d_mod (d_intI (d_mul (d_var rfl) (d_var rfl) w1)) d_int (by decide)) (d_var rfl) (w2 _)) (d_mul d_int (d_ixB rfl d_int rfl) (.inl (by decide))))) (st_ret (d_mod (d_intI (d_fdiv (d_mod (d_intI (d_var rfl)) d_int (by decide)) d_int ⟨by decide, by decide⟩)) (d_var rfl) ht))))))
abbrev s_law_one_of : Stmt := top 61
theorem sc_law_one_of : FnScope ["_law_bag_here", "_law_items"] ["_law_bag_here", "_law_items"] (defScope s_law_one_of) := ⟨rfl, rfl, rfl, by decide +kernel, rfl, by decide +kernel, by decide +kernel⟩
abbrev R_law_one_of : FR := fD (fun ds : List Dt => [.imm (.list ds)]) (fun ds => ds ≠ [] ∧ ds.length ≤ 1000) fun ds ns => (ds.getD (Num.grabF (ds.length : Int) ns).1.toNat .none, (Num.grabF (ds.length : Int) ns).2)
theorem ok_law_one_of {P : Program} {w : World} {K : PySem.W.Frag} {mg : Str → Option Value} {base : Heap} {Y : Cn} (F : DefAt K "_law_one_of" s_law_one_of) (hX : K.In base) (hG : base.Ns mainGlobals mg) (T : Txt K mg Y) (G_law_grab : FnG P w K mg base 1 "_law_grab" ["_law_bag_here", "_law_total"] R_law_grab) : FnG P w K mg base 2 "_law_one_of" ["_law_bag_here", "_law_items"] R_law_one_of := by
  have nd := sc_law_one_of.nd
  refine fn_mk F hX hG sc_law_one_of (fun as β r β' h => by first | exact FR.len h | (obtain ⟨_, rfl, _⟩ := h; rfl) | (obtain ⟨_, _, rfl, _⟩ := h; rfl) | (obtain ⟨_, _, _, rfl, _⟩ := h; rfl) | (obtain ⟨_, _, _, _, rfl, _⟩ := h; rfl) | (obtain ⟨_, _, _, _, _, rfl, _⟩ := h; rfl)) (fun _ _ _ _ _ _ _ us hl => match us, hl with | [_, _], _ => rfl) (fun f cdv A outer s H E hr => ⟨_, (pss_one (ps_ret (pe_ix ix_list (pv 1) (pe_fn G_law_grab (hr.mono (by decide)) (pa_cons (pv 0) (pa_cons (pe_callB (c_lenK (K := K)) (by rfl) T.z_len bo_len (pa_cons (pv 1) pa_nil)) pa_nil))) (fun _ _ => rfl)))), fun as β r β' hR => ?_⟩)
  obtain ⟨ds, n, ns, rfl, ⟨h0, hl⟩, hb, rfl, rfl, rfl⟩ := hR
  dsimp only [cxOf, Cx.nox, Cx.wish]
  have hp : 0 < ds.length := List.length_pos_iff.mpr h0
  have hg := Num.grab_rng (t := (ds.length : Int)) (by omega) ns
  refine .ret (st_ret (d_ixL (d_var rfl) (c_fD (x := (ds.length : Int)) (a_bg rfl (a_con (d_len (d_var rfl) (.inl rfl)) a_nil)) ⟨by omega, Nat.lt_of_le_of_lt (m := 1000) (by omega) (by decide)⟩ hb) ?_))
  show atI ds (Num.grabF (ds.length : Int) ns).1 = some _
  have e : (Num.grabF (ds.length : Int) ns).1 = (((Num.grabF (ds.length : Int) ns).1.toNat : Nat) : Int) := by omega
  have hlt : (Num.grabF (ds.length : Int) ns).1.toNat < ds.length := by omega
  rw [e]
  refine atI_nat ?_
  rw [List.getElem?_eq_getElem hlt, List.getD_eq_getElem?_getD, Int.toNat_natCast, List.getElem?_eq_getElem hlt]
  rfl
abbrev s_law_prime : Stmt := top 62
theorem sc_law_prime : FnScope ["_law_bag_here"] ["_law_bag_here"] (defScope s_law_prime) := ⟨rfl, rfl, rfl, by decide +kernel, rfl, by decide +kernel, by decide +kernel⟩
abbrev R_law_prime : FR := fD (fun _ : Unit => []) (fun _ => True) fun _ ns => (.int (Num.primeF ns).1, (Num.primeF ns).2)
theorem ok_law_prime {P : Program} {w : World} {K : PySem.W.Frag} {mg : Str → Option Value} {base : Heap} {Y : Cn} (F : DefAt K "_law_prime" s_law_prime) (hX : K.In base) (hG : base.Ns mainGlobals mg) (T : Txt K mg Y) (G_law_one_of : FnG P w K mg base 2 "_law_one_of" ["_law_bag_here", "_law_items"] R_law_one_of) : FnG P w K mg base 3 "_law_prime" ["_law_bag_here"] R_law_prime := by
  have nd := sc_law_prime.nd
  refine fn_mk F hX hG sc_law_prime (fun as β r β' h => by first | exact FR.len h | (obtain ⟨_, rfl, _⟩ := h; rfl) | (obtain ⟨_, _, rfl, _⟩ := h; rfl) | (obtain ⟨_, _, _, rfl, _⟩ := h; rfl) | (obtain ⟨_, _, _, _, rfl, _⟩ := h; rfl) | (obtain ⟨_, _, _, _, _, rfl, _⟩ := h; rfl)) (fun _ _ _ _ _ _ _ us hl => match us, hl with | [_], _ => rfl) (fun f cdv A outer s H E hr => ⟨_, (pss_one (ps_ret (pe_fn G_law_one_of (hr.mono (by decide)) (pa_cons (pv 0) (pa_cons (pe_lst (pa_cons pe_int (pa_cons pe_int (pa_cons pe_int (pa_cons pe_int (pa_cons pe_int (pa_cons pe_int (pa_cons pe_int (pa_cons pe_int (pa_cons pe_int (pa_cons pe_int pa_nil))))))))))) pa_nil))))), fun as β r β' hR => ?_⟩)
  obtain ⟨_, n, ns, rfl, _, hb, rfl, rfl, rfl⟩ := hR
  dsimp only [cxOf, Cx.nox, Cx.wish]
  refine .ret (st_ret ((c_fD (x := Num.drawnPrimes.map PyData.int) (a_bg rfl (a_con (d_lst (a_con d_int (a_con d_int (a_con d_int (a_con d_int (a_con d_int (a_con d_int (a_con d_int (a_con d_int (a_con d_int (a_con d_int a_nil)))))))))) rfl (by decide)) a_nil)) ⟨by decide, by decide⟩ hb).to ?_))
  show ((Num.drawnPrimes.map PyData.int).getD _ .none) = PyData.int (Num.drawnPrimes.getD _ 0)
  exact getD_int (by have := Num.grab_rng (t := 10) (by decide) ns; show (Num.grabF 10 ns).1.toNat < 10; omega)
abbrev s_law_low : Stmt := top 63
theorem sc_law_low : FnScope ["_law_prime_here", "_law_number_here"] ["_law_prime_here", "_law_number_here"] (defScope s_law_low) := ⟨rfl, rfl, rfl, by decide +kernel, rfl, by decide +kernel, by decide +kernel⟩
abbrev R_law_low : FR := f2 PyData.int PyData.int (fun p _ => 0 ≤ p) fun p n => .int (Num.settled p n)
theorem ok_law_low {P : Program} {w : World} {K : PySem.W.Frag} {mg : Str → Option Value} {base : Heap} {Y : Cn} (F : DefAt K "_law_low" s_law_low) (hX : K.In base) (hG : base.Ns mainGlobals mg) (T : Txt K mg Y)  : FnG P w K mg base 1 "_law_low" ["_law_prime_here", "_law_number_here"] R_law_low := by
  have nd := sc_law_low.nd
  refine fn_mk F hX hG sc_law_low (fun as β r β' h => by first | exact FR.len h | (obtain ⟨_, rfl, _⟩ := h; rfl) | (obtain ⟨_, _, rfl, _⟩ := h; rfl) | (obtain ⟨_, _, _, rfl, _⟩ := h; rfl) | (obtain ⟨_, _, _, _, rfl, _⟩ := h; rfl) | (obtain ⟨_, _, _, _, _, rfl, _⟩ := h; rfl)) (fun _ _ _ _ _ _ _ us hl => match us, hl with | [_, _], _ => rfl) (fun f cdv A outer s H E hr => ⟨_, (pss_one (ps_ret (pe_ifExp (pt_cmpR op_eq (pv 0) pe_int (nomark _)) (pe_callTy c_int (by rfl) T.z_int bo_int (pa_cons (pv 1) pa_nil)) (pe_op op_mod (pe_callTy c_int (by rfl) T.z_int bo_int (pa_cons (pv 1) pa_nil)) (pv 0))))), fun as β r β' hR => ?_⟩)
  obtain ⟨p, n, rfl, hp, rfl, rfl, rfl⟩ := hR
  dsimp only [cxOf, Cx.nox, Cx.wish]
  by_cases h : p = 0
  · subst h
    exact .ret (st_ret (d_ifT ((t_test (d_eqI (d_var rfl) d_int)).to rfl) (d_intI (d_var rfl))))
  · refine .ret (st_ret (d_ifF ((t_test (d_eqI (d_var rfl) d_int)).to (decide_eq_false h)) ((d_mod (d_intI (d_var rfl)) (d_var rfl) (by show 0 < p; omega)).to ?_)))
    unfold Num.settled
    rw [if_pos h]
abbrev s_law_number : Stmt := top 64
theorem sc_law_number : FnScope ["_law_bag_here", "_law_prime_here", "_law_spread"] ["_law_bag_here", "_law_prime_here", "_law_spread"] (defScope s_law_number) := ⟨rfl, rfl, rfl, by decide +kernel, rfl, by decide +kernel, by decide +kernel⟩
abbrev R_law_number : FR := fD (fun q : Int × Int => [.imm (.int q.1), .imm (.int q.2)]) (fun q => Num.PrimeI q.1 ∧ 0 ≤ q.2 ∧ q.2 ≤ 2 ^ 40) fun q ns => (.int (Num.numberF q.1 q.2 ns).1, (Num.numberF q.1 q.2 ns).2)
theorem ok_law_number {P : Program} {w : World} {K : PySem.W.Frag} {mg : Str → Option Value} {base : Heap} {Y : Cn} (F : DefAt K "_law_number" s_law_number) (hX : K.In base) (hG : base.Ns mainGlobals mg) (T : Txt K mg Y) (G_law_grab : FnG P w K mg base 1 "_law_grab" ["_law_bag_here", "_law_total"] R_law_grab) : FnG P w K mg base 2 "_law_number" ["_law_bag_here", "_law_prime_here", "_law_spread"] R_law_number := by
  have nd := sc_law_number.nd
  refine fn_mk F hX hG sc_law_number (fun as β r β' h => by first | exact FR.len h | (obtain ⟨_, rfl, _⟩ := h; rfl) | (obtain ⟨_, _, rfl, _⟩ := h; rfl) | (obtain ⟨_, _, _, rfl, _⟩ := h; rfl) | (obtain ⟨_, _, _, _, rfl, _⟩ := h; rfl) | (obtain ⟨_, _, _, _, _, rfl, _⟩ := h; rfl)) (fun _ _ _ _ _ _ _ us hl => match us, hl with | [_, _, _], _ => rfl) (fun f cdv A outer s H E hr => ⟨_, (pss_one (ps_ret (pe_ifExp (pt_cmpR op_eq (pv 1) pe_int (nomark _)) (pe_op op_sub (pe_fn G_law_grab (hr.mono (by decide)) (pa_cons (pv 0) (pa_cons (pe_op op_add (pe_op op_mul pe_int (pv 2)) pe_int) pa_nil))) (pv 2)) (pe_fn G_law_grab (hr.mono (by decide)) (pa_cons (pv 0) (pa_cons (pv 1) pa_nil)))))), fun as β r β' hR => ?_⟩)
  obtain ⟨⟨p, s⟩, n, ns, rfl, ⟨hp, h1, h2⟩, hb, rfl, rfl, rfl⟩ := hR
  dsimp only [cxOf, Cx.nox, Cx.wish] at *
  by_cases h : p = 0
  · subst h
    exact .ret (st_ret (d_ifT ((t_test (d_eqI (d_var rfl) d_int)).to rfl) (d_sub (c_fD (x := 2 * s + 1) (a_bg rfl (a_con (d_add (d_mul d_int (d_var rfl) (.inl (by decide))) d_int) a_nil)) ⟨by omega, Nat.lt_of_lt_of_le (m := 2 ^ 50) (by omega) (Nat.pow_le_pow_right (by decide) (by decide))⟩ hb) (d_var rfl))))
  · have h3 := Num.prime_pos hp h
    have e : Num.numberF p s ns = Num.grabF p ns := if_neg h
    rw [e]
    exact .ret (st_ret (d_ifF ((t_test (d_eqI (d_var rfl) d_int)).to (decide_eq_false h)) (c_fD (x := p) (a_bg rfl (a_con (d_var rfl) a_nil)) ⟨by omega, Nat.lt_of_lt_of_le (m := 2 ^ 50) (by omega) (Nat.pow_le_pow_right (by decide) (by decide))⟩ hb)))
theorem downF_succ (n : Nat) : downF (n + 1) = ((n + 1 : Nat) : Int) :: downF n := by
  unfold downF
  rw [List.range_succ, List.reverse_append]
  rfl
theorem downs_downF : ∀ n : Nat, downs (n : Int) (-1) = (downF n).map PyData.int
  | 0 => rfl
  | n + 1 => by rw [downs_cons, downF_succ, List.map_cons, downs_downF n]
theorem downF_len (n : Nat) : (downF n).length = n + 1 := by
  unfold downF
  rw [List.length_map, List.length_reverse, List.length_range]
abbrev subE (i j : Nat) : TE := tOp (rI0 fun i j => V.int (i - j)) (tVar i) (tVar j)
abbrev negE : TE := L2.tUn (rU fun i => V.int (-i)) (tC (V.int 1))
abbrev tuMono (K : PySem.W.Frag) : TS := tIfS (tTest (tOp rEq (tVar 0) (tC (V.int 2)))) (tDrop (tBM K "list" rAppend (tVar 2) (tCons (tTup (tCons (tVar 3) (tCons (subE 1 3) tNil))) tNil))) (tAsg (tOp rCat (tVar 2) (tLc (iRng3 (tCons (subE 1 3) (tCons negE (tCons negE tNil)))) (gName 4) tYes (tTup (tCons (tVar 3) (tCons (tVar 4) (tCons (tOp (rI0 fun i j => V.int (i - j)) (subE 1 3) (tVar 4)) tNil)))) [4])) (gName 2))
theorem d_negE {K : PySem.W.Frag} {ρ : Rho} : EvB K negE ρ none (.int (-1)) none := d_neg d_int
abbrev mono2 (d : Nat) (i : Int) : List Int := [i, (d : Int) - i]
abbrev mono3 (d : Nat) (i : Int) : List (List Int) := (downF (d - i.toNat)).map fun j => [i, j, (d : Int) - i - j]
theorem turn2 {K : PySem.W.Frag} {d n : Nat} {x y : Option TD.Slot} {acc : List (List Int)} (hz : acc.length ≤ 1000) : StW K 2 (tuMono K) [some (.imm (.int 2)), some (.imm (.int d)), none, some (.imm (.int (n : Nat))), y] none (.list (acc.map tupJ)) (.nx [some (.imm (.int 2)), some (.imm (.int d)), none, some (.imm (.int (n : Nat))), y]) none (.list ((acc ++ [mono2 d n]).map tupJ)) := by
  rw [List.map_append]
  exact sw_ifT (tw_plain fun _ => (t_test (d_eqI (d_var rfl) d_int)).to rfl) (sw_app (d_tup (ds := [.int (n : Nat), .int ((d : Int) - (n : Nat))]) (a_con (d_var rfl) (a_con (d_sub (d_var rfl) (d_var rfl)) a_nil)) rfl (by show 2 ≤ 100000; decide)) (by rw [List.length_map]; omega))
theorem loop2 {K : PySem.W.Frag} {d : Nat} {y : Option TD.Slot} : ∀ (n : Nat) (acc : List (List Int)) (x : Option TD.Slot), acc.length + n ≤ 900 → ∃ x', ForW K 2 3 (tuMono K) (downs (n : Int) (-1)) [some (.imm (.int 2)), some (.imm (.int d)), none, x, y] none (.list (acc.map tupJ)) (.nx [some (.imm (.int 2)), some (.imm (.int d)), none, x', y]) none (.list ((acc ++ (downF n).map (mono2 d)).map tupJ))
  | 0, acc, x, hz => ⟨_, .nx (turn2 (n := 0) (x := x) (by omega)) (.nil _ _ _)⟩
  | n + 1, acc, x, hz => by
    obtain ⟨x', rest⟩ := loop2 (K := K) (d := d) (y := y) n (acc ++ [mono2 d ((n + 1 : Nat) : Int)]) (some (.imm (.int ((n + 1 : Nat) : Int)))) (by rw [List.length_append]; show acc.length + 1 + n ≤ 900; omega)
    rw [downs_cons, downF_succ, List.map_cons]
    rw [List.append_assoc] at rest
    exact ⟨x', .nx (turn2 (n := n + 1) (x := x) (by omega)) rest⟩
theorem turn3 {K : PySem.W.Frag} {d n : Nat} (hn : n ≤ d) (hd : d ≤ 30) {y : Option TD.Slot} {acc : List (List Int)} (hz : acc.length ≤ 2000) : StB K (tuMono K) [some (.imm (.int 3)), some (.imm (.int d)), some (.imm (.list (acc.map tupJ))), some (.imm (.int (n : Nat))), y] none (.nx [some (.imm (.int 3)), some (.imm (.int d)), some (.imm (.list ((acc ++ mono3 d n).map tupJ))), some (.imm (.int (n : Nat))), y]) none := by
  have lo : (d : Int) - (n : Nat) = ((d - n : Nat) : Int) := by omega
  have tn : ((n : Nat) : Int).toNat = n := by omega
  have len : (mono3 d n).length ≤ 31 := by
    rw [List.length_map, downF_len, tn]
    omega
  have row : EvB K (tLc (iRng3 (tCons (subE 1 3) (tCons negE (tCons negE tNil)))) (gName 4) tYes (tTup (tCons (tVar 3) (tCons (tVar 4) (tCons (tOp (rI0 fun i j => V.int (i - j)) (subE 1 3) (tVar 4)) tNil)))) [4]) [some (.imm (.int 3)), some (.imm (.int d)), some (.imm (.list (acc.map tupJ))), some (.imm (.int (n : Nat))), y] none (.list ((mono3 d n).map tupJ)) none := by
    refine (d_lcDown (lo := ((d - n : Nat) : Int)) (hi := -1) (rs := (downs ((d - n : Nat) : Int) (-1)).map fun q => .tuple [.int (n : Nat), q, .int ((d : Int) - (n : Nat) - Num.toI q)]) ((d_sub (d_var rfl) (d_var rfl)).to (congrArg PyData.int lo)) d_negE d_negE (by omega) ?_ ?_ (wipe_ok (by decide))).to ?_
    · rw [downs_downF]
      refine LcR.map _ fun q hq => ?_
      obtain ⟨j, hj, rfl⟩ := List.mem_map.mp hq
      exact d_tup (ds := [.int (n : Nat), .int j, .int ((d : Int) - (n : Nat) - j)]) (a_con (d_var rfl) (a_con (d_var rfl) (a_con (d_sub (d_sub (d_var rfl) (d_var rfl)) (d_var rfl)) a_nil))) rfl (by show 3 ≤ 100000; decide)
    · rw [downs_downF, List.length_map, List.length_map, downF_len]
      omega
    · rw [downs_downF]
      show PyData.list (List.map _ (List.map _ (downF (d - n)))) = PyData.list (List.map _ (List.map _ (downF (d - ((n : Nat) : Int).toNat))))
      rw [List.map_map, List.map_map, tn]
      rfl
  refine st_ifF ((t_test (d_eqI (d_var rfl) d_int)).to rfl) (st_asg ((d_cat (d_var rfl) row ?_).to ?_))
  · rw [List.length_map, List.length_map]
    omega
  · rw [List.map_append]
theorem loop3 {K : PySem.W.Frag} {d : Nat} (hd : d ≤ 30) {y : Option TD.Slot} : ∀ (n : Nat), n ≤ d → ∀ (acc : List (List Int)) (x : Option TD.Slot), acc.length + (n + 1) * 31 ≤ 2000 → ∃ x', ForR K 3 (tuMono K) (downs (n : Int) (-1)) [some (.imm (.int 3)), some (.imm (.int d)), some (.imm (.list (acc.map tupJ))), x, y] none (.nx [some (.imm (.int 3)), some (.imm (.int d)), some (.imm (.list ((acc ++ (downF n).flatMap (mono3 d)).map tupJ))), x', y]) none
  | 0, hn, acc, x, hz => by
    have e : (downF 0).flatMap (mono3 d) = mono3 d ((0 : Nat) : Int) := by
      show mono3 d ((0 : Nat) : Int) ++ [] = _
      rw [List.append_nil]
    rw [e]
    exact ⟨_, .nx (turn3 (n := 0) hn hd (by omega)) (.nil _ _)⟩
  | n + 1, hn, acc, x, hz => by
    have len : (mono3 d ((n + 1 : Nat) : Int)).length ≤ 31 := by
      rw [List.length_map, downF_len]
      omega
    obtain ⟨x', rest⟩ := loop3 (K := K) hd (y := y) n (by omega) (acc ++ mono3 d ((n + 1 : Nat) : Int)) (some (.imm (.int ((n + 1 : Nat) : Int)))) (by rw [List.length_append]; omega)
    rw [downs_cons, downF_succ, List.flatMap_cons]
    rw [List.append_assoc] at rest
    exact ⟨x', .nx (turn3 (n := n + 1) hn hd (by omega)) rest⟩
abbrev s_law_monos : Stmt := top 65
theorem sc_law_monos : FnScope ["_law_letters", "_law_degree", "_law_found", "_law_one", "_law_other"] ["_law_letters", "_law_degree"] (defScope s_law_monos) := ⟨rfl, rfl, rfl, by decide +kernel, rfl, by decide +kernel, by decide +kernel⟩
abbrev R_law_monos : FR := fun as β r β' => ∃ (l d : Nat), as = [.imm (.int l), .imm (.int d)] ∧ ((l = 2 ∨ l = 3) ∧ d ≤ 30) ∧ r = .list ((monoF l d).map tupJ) ∧ β = none ∧ β' = none
theorem ok_law_monos {P : Program} {w : World} {K : PySem.W.Frag} {mg : Str → Option Value} {base : Heap} {Y : Cn} (F : DefAt K "_law_monos" s_law_monos) (hX : K.In base) (hG : base.Ns mainGlobals mg) (T : Txt K mg Y)  : FnG P w K mg base 1 "_law_monos" ["_law_letters", "_law_degree"] R_law_monos := by
  have nd := sc_law_monos.nd
  refine fn_mk F hX hG sc_law_monos (fun as β r β' h => by first | exact FR.len h | (obtain ⟨_, rfl, _⟩ := h; rfl) | (obtain ⟨_, _, rfl, _⟩ := h; rfl) | (obtain ⟨_, _, _, rfl, _⟩ := h; rfl) | (obtain ⟨_, _, _, _, rfl, _⟩ := h; rfl) | (obtain ⟨_, _, _, _, _, rfl, _⟩ := h; rfl)) (fun _ _ _ _ _ _ _ us hl => match us, hl with | [_, _], _ => rfl) (fun f cdv A outer s H E hr => ⟨_, (pss_cons (ps_set (i := 2) nd rfl (Or.inl rfl) (pe_lst pa_nil)) (pss_cons (ps_for PassesOwn.never rfl (pi_range3 (by rfl) T.z_range (pa_cons (pv 1) (pa_cons (pe_un un_neg pe_int) (pa_cons (pe_un un_neg pe_int) pa_nil)))) (pg_name (i := 3) nd rfl (Or.inr rfl)) (pss_one (ps_if (pt_cmpR op_eq (pv 0) pe_int (nomark _)) (pss_one (ps_expr (pe_castBM (K := K) (pe_bm PySem.F.plainAttrs_list PySem.F.slot_list_append PySem.F.type_list_append mt_append (pv 2) (pa_cons (pe_tup (pa_cons (pv 3) (pa_cons (pe_op op_sub (pv 1) (pv 3)) pa_nil))) pa_nil))))) (pss_one (ps_set (i := 2) nd rfl (Or.inl rfl) (pe_op op_cat (pv 2) (pe_lc (own := [("_law_other", 4)]) rfl nd (pi_range3 (by rfl) T.z_range (pa_cons (pe_op op_sub (pv 1) (pv 3)) (pa_cons (pe_un un_neg pe_int) (pa_cons (pe_un un_neg pe_int) pa_nil)))) (blkOk_by (N := ["_law_letters", "_law_degree", "_law_found", "_law_one", "_law_other"]) (sc := defScope s_law_monos) (by decide +kernel)) (fun _ _ _ _ _ => by exact (pg_name (i := 4) nd rfl (Or.inl rfl))) (fun _ _ _ _ _ => by exact pts_nil) (fun _ _ _ _ _ => by exact (pe_tup (pa_cons (pv 3) (pa_cons (pv 4) (pa_cons (pe_op op_sub (pe_op op_sub (pv 1) (pv 3)) (pv 4)) pa_nil)))))))))))) (pss_one (ps_ret (pv 2))))), fun as β r β' hR => ?_⟩)
  obtain ⟨l, d, rfl, ⟨hl, hd⟩, rfl, rfl, rfl⟩ := hR
  try dsimp only [cxOf, Cx.nox, Cx.wish]
  rcases hl with rfl | rfl
  · obtain ⟨x', loop⟩ := loop2 (K := K) (d := d) (y := none) d [] none (by show 0 + d ≤ 900; omega)
    exact .ret ((st_own (by show 2 < 5; decide) (en_lst (ds := []) a_nil (by decide)) (sp_seq (sw_forDown (lo := (d : Int)) (hi := -1) (by decide) (ew_plain fun _ => d_var rfl) (ew_plain fun _ => d_negE) (ew_plain fun _ => d_negE) (by omega) loop) (sp_end (st_ret (d_var rfl))))))
  · obtain ⟨x', loop⟩ := loop3 (K := K) hd (y := none) d (Nat.le_refl d) [] none (by show 0 + (d + 1) * 31 ≤ 2000; omega)
    exact .ret (st_sq (st_asg (d_lst (ds := []) a_nil rfl (by decide))) (st_sq (st_forDown (lo := (d : Int)) (hi := -1) (d_var rfl) d_negE d_negE (by omega) loop) (st_ret (d_var rfl))))
abbrev s_law_entry : Stmt := top 66
theorem sc_law_entry : FnScope ["_law_bag_here", "_law_prime_here", "_law_spread"] ["_law_bag_here", "_law_prime_here", "_law_spread"] (defScope s_law_entry) := ⟨rfl, rfl, rfl, by decide +kernel, rfl, by decide +kernel, by decide +kernel⟩
abbrev a_law_entry (q : Int × Int) : List Slot := [.imm (.int q.1), .imm (.int q.2)]
abbrev Pre_law_entry (q : Int × Int) : Prop := Num.PrimeI q.1 ∧ 1 ≤ q.2 ∧ q.2 ≤ 2 ^ 30
abbrev Post_law_entry (q : Int × Int) (d : Dt) : Prop := ∃ n : Int, d = .int n ∧ n ≠ 0 ∧ (q.1 ≠ 0 → 0 ≤ n ∧ n < q.1) ∧ n.natAbs ≤ 2 ^ 31
theorem ok_law_entry {P : Program} {w : World} {K : PySem.W.Frag} {mg : Str → Option Value} {base : Heap} {Y : Cn} (F : DefAt K "_law_entry" s_law_entry) (hX : K.In base) (hG : base.Ns mainGlobals mg) (T : Txt K mg Y) (G_law_one_of : FnG P w K mg base 2 "_law_one_of" ["_law_bag_here", "_law_items"] R_law_one_of) (G_law_grab : FnG P w K mg base 1 "_law_grab" ["_law_bag_here", "_law_total"] R_law_grab) : ∃ F_law_entry, FnD P w K mg base 3 "_law_entry" ["_law_bag_here", "_law_prime_here", "_law_spread"] a_law_entry Pre_law_entry Post_law_entry F_law_entry := by
  have nd := sc_law_entry.nd
  let key : ∀ (f : Addr) (cdv : Value) (A : Around) (outer : List PySem.Env) (s : Shared) (H : Hp) (E : XK), Room 2 (A.deeper (envOfC "_law_entry" (defScope s_law_entry) s.heap.objs.size f cdv)) → {t : TS // PSs (cxOf CX0 P w K mg base ["_law_bag_here", "_law_prime_here", "_law_spread"] "_law_entry" (defScope s_law_entry) f cdv A outer s H E).nox (defBody s_law_entry) t} := fun f cdv A outer s H E hr => ⟨_, (pss_cons (ps_if (pt_cmpR op_ne (pv 1) pe_int (nomark _)) (pss_one (ps_ret (pe_op op_add pe_int (pe_fn G_law_grab (hr.mono (by decide)) (pa_cons (pv 0) (pa_cons (pe_op op_sub (pv 1) pe_int) pa_nil)))))) pss_nil) (pss_one (ps_ret (pe_op op_mulW (pe_op op_add pe_int (pe_fn G_law_grab (hr.mono (by decide)) (pa_cons (pv 0) (pa_cons (pv 2) pa_nil)))) (pe_fn G_law_one_of (hr.mono (by decide)) (pa_cons (pv 0) (pa_cons (pe_lst (pa_cons pe_int (pa_cons pe_int (pa_cons (pe_un un_neg pe_int) pa_nil)))) pa_nil)))))))⟩
  refine fnD_mk F hX hG sc_law_entry (fun _ => rfl) (fun _ _ _ _ _ _ _ us hl => match us, hl with | [_, _, _], _ => rfl) (fun f cdv A outer s H E hr => by have h := (key f cdv A outer s H E hr).2; dsimp only [key, cxOf, Cx.nox, Cx.wish] at h; exact h) (fun y n ns hp hb => ?_)
  clear key
  obtain ⟨p, s⟩ := y
  obtain ⟨hp, h1, h2⟩ := hp
  dsimp only at hp h1 h2
  by_cases h : p = 0
  · subst h
    have r1 := Num.grab_rng (t := s) (by omega) ns
    have b1 := Num.grab_bag (t := s) (by omega) hb
    have b2 := Num.grab_bag (t := 3) (by decide) b1
    have r2 := Num.grab_rng (t := 3) (by decide) (Num.grabF s ns).2
    obtain ⟨u, hu, hv⟩ : ∃ u : Int, ([1, 1, -1] : List Int).getD (Num.grabF 3 (Num.grabF s ns).2).1.toNat 0 = u ∧ (u = 1 ∨ u = -1) := by
      obtain ⟨j, hj⟩ : ∃ j, j = (Num.grabF 3 (Num.grabF s ns).2).1.toNat := ⟨_, rfl⟩
      have : j < 3 := by omega
      rw [← hj]
      obtain rfl | rfl | rfl : j = 0 ∨ j = 1 ∨ j = 2 := by omega
      · exact ⟨1, rfl, .inl rfl⟩
      · exact ⟨1, rfl, .inl rfl⟩
      · exact ⟨-1, rfl, .inr rfl⟩
    have one : EvB K (tCall (spR K R_law_one_of) [] E0 (tCons (tVar 0) (tCons (tLst (tCons (tC (V.int 1)) (tCons (tC (V.int 1)) (tCons negE tNil)))) tNil))) (startR ["_law_bag_here", "_law_prime_here", "_law_spread"] [.bag, .imm (.int 0), .imm (.int s)]) (some (Num.grabF s ns).2) (.int u) (some (Num.grabF 3 (Num.grabF s ns).2).2) := by
      refine (c_fD (x := ([1, 1, -1] : List Int).map PyData.int) (a_bg rfl (a_con (d_lst (ds := [.int 1, .int 1, .int (-1)]) (a_con d_int (a_con d_int (a_con (d_neg d_int) a_nil))) rfl (by show 3 ≤ 100000; decide)) a_nil)) ⟨by decide, by decide⟩ b1).to ?_
      exact (getD_int (ns := ([1, 1, -1] : List Int)) (by show (Num.grabF 3 (Num.grabF s ns).2).1.toNat < 3; omega)).trans (congrArg PyData.int hu)
    have mulU : CMulW (1 + (Num.grabF s ns).1) u := mulW (a := 40) (b := 2) (by omega) (by omega) (by decide)
    refine ⟨.int ((1 + (Num.grabF s ns).1) * u), _, _, ⟨_, rfl, ?_, fun z => absurd rfl z, ?_⟩, b2, .ret (st_sq (st_ifF ((t_test (d_neI (d_var rfl) d_int)).to rfl) st_next) (st_ret (d_mul (d_add d_int (c_fD (x := s) (a_bg rfl (a_con (d_var rfl) a_nil)) ⟨by omega, Nat.lt_of_lt_of_le (m := 2 ^ 50) (by omega) (Nat.pow_le_pow_right (by decide) (by decide))⟩ hb)) one mulU)))⟩
    · rcases hv with rfl | rfl <;> omega
    · rcases hv with rfl | rfl <;> omega
  · have two : 2 ≤ p := by
      rcases hp with h0 | h0
      · exact absurd h0 h
      · have : ∀ p ∈ Num.primes, (2 : Int) ≤ p := by decide
        exact this p h0
    have top := hp.small.2
    have r1 := Num.grab_rng (t := p - 1) (by omega) ns
    have b1 := Num.grab_bag (t := p - 1) (by omega) hb
    exact ⟨.int (1 + (Num.grabF (p - 1) ns).1), _, _, ⟨_, rfl, by omega, fun _ => by dsimp only; omega, by omega⟩, b1, .ret (st_seqR (st_ifT ((t_test (d_neI (d_var rfl) d_int)).to (by rw [decide_eq_false h] <;> rfl)) (st_ret (d_add d_int (c_fD (x := p - 1) (a_bg rfl (a_con (d_sub (d_var rfl) d_int) a_nil)) ⟨by omega, Nat.lt_of_lt_of_le (m := 2 ^ 50) (by omega) (Nat.pow_le_pow_right (by decide) (by decide))⟩ hb)))))⟩
/-- some of the exponents, as the bag says -/
theorem lc_some {K : PySem.W.Frag} {ρ : Rho} (h0 : ρ[0]? = some (some .bag)) (h6 : 6 < ρ.length) : ∀ (ks : List (List Int)) {n : Int} {ns : List Int}, Num.BagI n ns → ∃ (ks' : List (List Int)) (ms : List Int) (m : Int), ks'.Sublist ks ∧ Num.BagI m ms ∧ LcR K 6 (tTest (tOp rEq (tCall (spR K R_law_grab) [] E0 (tCons (tVar 0) (tCons (tC (V.int 2)) tNil))) (tC (V.int 0)))) (tVar 6) (ks.map tupJ) ρ (some ns) (ks'.map tupJ) (some ms)
  | [], n, ns, hb => ⟨[], ns, n, .slnil, hb, .nil _ _⟩
  | k :: ks, n, ns, hb => by
    obtain ⟨ks', ms, m, sub, hm, rest⟩ := lc_some h0 h6 ks (Num.grab_bag (t := 2) (by decide) hb)
    have at0' : (ρ.set 6 (some (.imm (tupJ k))))[0]? = some (some .bag) := by rw [List.getElem?_set_ne (by decide)]; exact h0
    have at6 : (ρ.set 6 (some (.imm (tupJ k))))[6]? = some (some (.imm (tupJ k))) := List.getElem?_set_self h6
    have ask : TtB K (tTest (tOp rEq (tCall (spR K R_law_grab) [] E0 (tCons (tVar 0) (tCons (tC (V.int 2)) tNil))) (tC (V.int 0)))) (ρ.set 6 (some (.imm (tupJ k)))) (some ns) (decide ((Num.grabF 2 ns).1 = 0)) (some (Num.grabF 2 ns).2) := t_test (d_eqI (c_fD (x := 2) (a_bg at0' (a_con d_int a_nil)) ⟨by decide, Nat.lt_of_lt_of_le (m := 2 ^ 50) (by decide) (Nat.pow_le_pow_right (by decide) (by decide))⟩ hb) d_int)
    by_cases c : (Num.grabF 2 ns).1 = 0
    · rw [decide_eq_true c] at ask
      exact ⟨k :: ks', ms, m, sub.cons₂ k, hm, .yes ask (d_var at6) rest⟩
    · rw [decide_eq_false c] at ask
      exact ⟨ks', ms, m, sub.cons k, hm, .no ask rest⟩
theorem mono_nd : ∀ d < 6, (monoF 2 d).Nodup ∧ (monoF 3 d).Nodup := by decide +kernel
abbrev s_law_terms : Stmt := top 67
theorem sc_law_terms : FnScope ["_law_bag_here", "_law_prime_here", "_law_letters", "_law_degree", "_law_spread", "_law_told", "_law_exponents"] ["_law_bag_here", "_law_prime_here", "_law_letters", "_law_degree", "_law_spread"] (defScope s_law_terms) := ⟨rfl, rfl, rfl, by decide +kernel, rfl, by decide +kernel, by decide +kernel⟩
abbrev a_law_terms (q : Int × Nat × Nat × Int) : List Slot := [.imm (.int q.1), .imm (.int q.2.1), .imm (.int q.2.2.1), .imm (.int q.2.2.2)]
abbrev Pre_law_terms (q : Int × Nat × Nat × Int) : Prop := Num.PrimeI q.1 ∧ (q.2.1 = 2 ∨ q.2.1 = 3) ∧ q.2.2.1 ≤ 5 ∧ 1 ≤ q.2.2.2 ∧ q.2.2.2 ≤ 2 ^ 30
abbrev Post_law_terms (q : Int × Nat × Nat × Int) (x : Dt) : Prop := ∃ T : CQ, x = dT (cD T) ∧ FormOk q.1 q.2.1 q.2.2.1 31 T
theorem ok_law_terms {P : Program} {w : World} {K : PySem.W.Frag} {mg : Str → Option Value} {base : Heap} {Y : Cn} (F : DefAt K "_law_terms" s_law_terms) (hX : K.In base) (hG : base.Ns mainGlobals mg) (T : Txt K mg Y) (G_law_monos : FnG P w K mg base 1 "_law_monos" ["_law_letters", "_law_degree"] R_law_monos) (G_law_grab : FnG P w K mg base 1 "_law_grab" ["_law_bag_here", "_law_total"] R_law_grab) {F_law_entry : _} (G_law_entry : FnD P w K mg base 3 "_law_entry" ["_law_bag_here", "_law_prime_here", "_law_spread"] a_law_entry Pre_law_entry Post_law_entry F_law_entry) : ∃ F_law_terms, FnD P w K mg base 4 "_law_terms" ["_law_bag_here", "_law_prime_here", "_law_letters", "_law_degree", "_law_spread"] a_law_terms Pre_law_terms Post_law_terms F_law_terms := by
  have nd := sc_law_terms.nd
  let key : ∀ (f : Addr) (cdv : Value) (A : Around) (outer : List PySem.Env) (s : Shared) (H : Hp) (E : XK), Room 3 (A.deeper (envOfC "_law_terms" (defScope s_law_terms) s.heap.objs.size f cdv)) → {t : TS // PSs (cxOf CX0 P w K mg base ["_law_bag_here", "_law_prime_here", "_law_letters", "_law_degree", "_law_spread", "_law_told", "_law_exponents"] "_law_terms" (defScope s_law_terms) f cdv A outer s H E).nox (defBody s_law_terms) t} := fun f cdv A outer s H E hr => ⟨_, (pss_cons (ps_setLc (i := 5) (own := [("_law_exponents", 6)]) rfl nd rfl rfl (sw_true rfl rfl rfl (by decide +kernel)) (pi_list (pe_fn G_law_monos (hr.mono (by decide)) (pa_cons (pv 2) (pa_cons (pv 3) pa_nil)))) (blkOk_by (N := ["_law_bag_here", "_law_prime_here", "_law_letters", "_law_degree", "_law_spread", "_law_told", "_law_exponents"]) (sc := defScope s_law_terms) (by decide +kernel)) (fun _ _ _ _ _ => by exact (pg_name (i := 6) nd rfl (Or.inl rfl))) (fun _ _ _ _ _ => by exact (pts_one (pt_cmpR op_eq (pe_fn G_law_grab (hr.mono (by decide)) (pa_cons (pv 0) (pa_cons pe_int pa_nil))) pe_int (nomark _)))) (fun _ _ _ _ _ => by exact (pv 6))) (pss_one (ps_ret (pe_callTy (c_dictT (K := K) hr rfl) (by rfl) T.z_dict bo_dict (pa_cons (pe_lc (own := [("_law_exponents", 6)]) rfl nd (pi_list (pv 5)) (blkOk_by (N := ["_law_bag_here", "_law_prime_here", "_law_letters", "_law_degree", "_law_spread", "_law_told", "_law_exponents"]) (sc := defScope s_law_terms) (by decide +kernel)) (fun _ _ _ _ _ => by exact (pg_name (i := 6) nd rfl (Or.inl rfl))) (fun _ _ _ _ _ => by exact pts_nil) (fun _ _ _ _ _ => by exact (pe_tup (pa_cons (pv 6) (pa_cons (pe_fn G_law_entry.fn (hr.mono (by decide)) (pa_cons (pv 0) (pa_cons (pv 1) (pa_cons (pv 4) pa_nil)))) pa_nil))))) pa_nil)))))⟩
  refine fnD_mk F hX hG sc_law_terms (fun _ => rfl) (fun _ _ _ _ _ _ _ us hl => match us, hl with | [_, _, _, _, _], _ => rfl) (fun f cdv A outer s H E hr => by have h := (key f cdv A outer s H E hr).2; dsimp only [key, cxOf, Cx.nox, Cx.wish] at h; exact h) (fun y n ns hp hb => ?_)
  clear key
  obtain ⟨p, l, d, s⟩ := y
  obtain ⟨hp, hl, hd, h1, h2⟩ := hp
  dsimp only at hp hl hd h1 h2
  have nd0 : (monoF l d).Nodup := by
    have := mono_nd d (by omega)
    rcases hl with rfl | rfl
    · exact this.1
    · exact this.2
  have low : lowD l d := by
    rcases hl with rfl | rfl
    · exact .inl ⟨rfl, by omega⟩
    · exact .inr ⟨rfl, by omega⟩
  have few0 : (monoF l d).length ≤ 1000 := by
    rcases hl with rfl | rfl
    · exact mono_few.1 d (by omega)
    · exact mono_few.2 d (by omega)
  obtain ⟨ks, ms, m, sub, hm, l1⟩ := lc_some (K := K) (ρ := wipeR (startR ["_law_bag_here", "_law_prime_here", "_law_letters", "_law_degree", "_law_spread", "_law_told", "_law_exponents"] [.bag, .imm (.int p), .imm (.int l), .imm (.int d), .imm (.int s)]) [6]) rfl (by show 6 < 7; decide) (monoF l d) hb
  have fewk : ks.length ≤ 1000 := Nat.le_trans sub.length_le few0
  have go : ∀ (ks : List (List Int)) (ρ : Rho) {n : Int} {ns : List Int}, ρ[0]? = some (some .bag) → ρ[1]? = some (some (.imm (.int p))) → ρ[4]? = some (some (.imm (.int s))) → 6 < ρ.length → Num.BagI n ns → ∃ (T : CQ) (ms : List Int) (m : Int), kyF T = ks ∧ (∀ q ∈ T, q.2 ≠ 0 ∧ (p ≠ 0 → 0 ≤ q.2 ∧ q.2 < p) ∧ q.2.natAbs ≤ 2 ^ 31) ∧ Num.BagI m ms ∧
      LcR K 6 tYes (tTup (tCons (tVar 6) (tCons (tCall (spR K (fB a_law_entry Pre_law_entry F_law_entry)) [] E0 (tCons (tVar 0) (tCons (tVar 1) (tCons (tVar 4) tNil)))) tNil))) (ks.map tupJ) ρ (some ns) (T.map fun q => .tuple [tupJ q.1, .int q.2]) (some ms) := by
    intro ks ρ
    induction ks with
    | nil => exact fun {n ns} _ _ _ _ hb => ⟨[], ns, n, rfl, (fun _ z => nomatch z), hb, .nil _ _⟩
    | cons k ks ih =>
      intro n ns g0 g1 g4 g6 hb
      have at0' : (ρ.set 6 (some (.imm (tupJ k))))[0]? = some (some .bag) := by rw [List.getElem?_set_ne (by decide)]; exact g0
      have at1' : (ρ.set 6 (some (.imm (tupJ k))))[1]? = some (some (.imm (.int p))) := by rw [List.getElem?_set_ne (by decide)]; exact g1
      have at4' : (ρ.set 6 (some (.imm (tupJ k))))[4]? = some (some (.imm (.int s))) := by rw [List.getElem?_set_ne (by decide)]; exact g4
      have at6 : (ρ.set 6 (some (.imm (tupJ k))))[6]? = some (some (.imm (tupJ k))) := List.getElem?_set_self g6
      obtain ⟨x, ms1, m1, ⟨v, rfl, v1, v2, v3⟩, hm1, ev⟩ := G_law_entry.call (K := K) (E := E0) (ρ := ρ.set 6 (some (.imm (tupJ k)))) (t := tCons (tVar 0) (tCons (tVar 1) (tCons (tVar 4) tNil))) (y := (p, s)) (a_bg at0' (a_con (d_var at1') (a_con (d_var at4') a_nil))) ⟨hp, h1, h2⟩ hb
      obtain ⟨T, ms2, m2, e, hT, hm2, rest⟩ := ih g0 g1 g4 g6 hm1
      refine ⟨(k, v) :: T, ms2, m2, congrArg (k :: ·) e, fun q hq => ?_, hm2, .yes t_yes0 (d_tup (ds := [tupJ k, .int v]) (a_con (d_var at6) (a_con ev a_nil)) rfl (by show 2 ≤ 100000; decide)) rest⟩
      (rcases List.mem_cons.mp hq with rfl | hq)
      · exact ⟨v1, v2, v3⟩
      · exact hT q hq
  obtain ⟨T, ms2, m2, e, hT, hm2, l2⟩ := go ks (wipeR [some .bag, some (.imm (.int p)), some (.imm (.int l)), some (.imm (.int d)), some (.imm (.int s)), some (.imm (.list (ks.map tupJ))), none] [6]) rfl rfl rfl (by show 6 < 7; decide) hm
  have ndT : (kyF T).Nodup := e ▸ nd0.sublist sub
  have lenT : T.length = ks.length := by rw [← e, List.length_map]
  refine ⟨dT (cD T), ms2, m2, ⟨T, rfl, ⟨⟨ndT, fun q hq => (hT q hq).1, fun z q hq => (hT q hq).2.1 z⟩, fun k hk => (mono_mem hl).mp (sub.subset (e ▸ hk)), fun q hq => (hT q hq).2.2⟩⟩, hm2, ?_⟩
  refine .ret (st_seq (st_asg (d_lcL (ds := (monoF l d).map tupJ) (d_call0 (a_con (d_var rfl) (a_con (d_var rfl) a_nil)) ⟨l, d, rfl, ⟨hl, by omega⟩, rfl, rfl, rfl⟩) l1 (by rw [List.length_map]; omega) (wipe_ok (by decide)))) (st_ret (d_dictT (qs := cD T) ((d_lcL (ds := ks.map tupJ) (d_var rfl) l2 (by rw [List.length_map]; omega) (wipe_ok (by decide))).to ?_) (by rw [cD_keys]; exact ndT))))
  show PyData.list (List.map _ T) = PyData.list (List.map _ (List.map _ T))
  rw [List.map_map]
  rfl
end K05
set_option Elab.async false
set_option linter.all false
set_option maxRecDepth 100000
set_option maxHeartbeats 4100200
namespace TD
open PySem L2 PySem.Spec PyProof.Rows
open Evl (Ex ex_l ex_t fresh_back sq_of st_of sz_of sz_lt)
/-- where a zip of the tuple at a and the list at b stands -/
structure ZmSt (z TI TO i1 i2 a b : Addr) (i : Nat) (h : Heap) : Prop where
  zip_ : IsZip h z TI TO .none
  its : IsTupOf2 h TI (.ref i1) (.ref i2)
  out : ∃ x y, IsTupOf2 h TO x y
  left : h.IsTupleIter i1 a i
  right : h.IsListIter i2 b i
theorem mem_five {z TI TO i1 i2 c : Addr} (hc : c ∈ [z, TI, TO, i1, i2]) : c = z ∨ c = TI ∨ c = TO ∨ c = i1 ∨ c = i2 := by
  simpa using hc
theorem ZmSt.lt {z TI TO i1 i2 a b c : Addr} {i : Nat} {h : Heap} (st : ZmSt z TI TO i1 i2 a b i h) (hc : c ∈ [z, TI, TO, i1, i2]) : c < h.objs.size := by
  rcases mem_five hc with rfl | rfl | rfl | rfl | rfl
  · exact Heap.lt_size st.zip_
  · exact Heap.lt_size st.its
  · exact st.out.elim fun _ q => q.elim fun _ q => Heap.lt_size q
  · exact st.left.elim fun _ q => Heap.lt_size q.1
  · exact st.right.elim fun _ q => Heap.lt_size q.1
end TD
set_option Elab.async false
set_option linter.all false
set_option maxRecDepth 100000
set_option maxHeartbeats 4100200
namespace TD
open PySem L2 PySem.Spec PyProof.Rows
open Evl (Ex ex_l ex_t fresh_back sq_of st_of sz_of sz_lt)
/-- where a zip of the list at a and the tuple at b stands -/
structure ZlSt (z TI TO i1 i2 a b : Addr) (i : Nat) (h : Heap) : Prop where
  zip_ : IsZip h z TI TO .none
  its : IsTupOf2 h TI (.ref i1) (.ref i2)
  out : ∃ x y, IsTupOf2 h TO x y
  left : h.IsListIter i1 a i
  right : h.IsTupleIter i2 b i
theorem ZlSt.lt {z TI TO i1 i2 a b c : Addr} {i : Nat} {h : Heap} (st : ZlSt z TI TO i1 i2 a b i h) (hc : c ∈ [z, TI, TO, i1, i2]) : c < h.objs.size := by
  rcases mem_five hc with rfl | rfl | rfl | rfl | rfl
  · exact Heap.lt_size st.zip_
  · exact Heap.lt_size st.its
  · exact st.out.elim fun _ q => q.elim fun _ q => Heap.lt_size q
  · exact st.left.elim fun _ q => Heap.lt_size q.1
  · exact st.right.elim fun _ q => Heap.lt_size q.1
end TD
set_option Elab.async false
set_option linter.all false
set_option maxRecDepth 100000
set_option maxHeartbeats 1000100
namespace TD
open PySem L2
section
variable {φ ψ : List Int → Int} {T U a b c : CQ} {k : List Int} {p v n m f t : Int} {l d e s r : Nat}
abbrev LowF (p : Int) (T : CQ) : Prop := p ≠ 0 → ∀ q ∈ T, 0 ≤ q.2 ∧ q.2 < p
theorem clI_low (h0 : 0 ≤ p) (hp : p ≠ 0) (n : Int) : 0 ≤ clI p n ∧ clI p n < p := by
  unfold clI
  rw [if_neg hp]
  exact ⟨Int.emod_nonneg _ hp, Int.emod_lt_of_pos _ (by omega)⟩
theorem put_low (h : LowF p T) (hv : p ≠ 0 → 0 ≤ v ∧ v < p) : LowF p (putT T k v) := fun hp q hq => by
  unfold putT at hq
  split at hq
  · obtain ⟨r, hr, e⟩ := List.mem_map.mp hq
    rw [← e]
    split
    · exact hv hp
    · exact h hp r hr
  · (rcases List.mem_append.mp hq with hq | hq)
    · exact h hp q hq
    · (obtain rfl := List.mem_singleton.mp hq)
      exact hv hp
theorem plus_low {g : Int → Int → Int} (hg : ∀ n m, p ≠ 0 → 0 ≤ g n m ∧ g n m < p) : ∀ {b a : CQ}, LowF p a → LowF p (plusF g a b)
  | [], a, h => h
  | q :: b, a, h => plus_low hg (b := b) (a := putT a q.1 (g (at0 a q.1) q.2)) (put_low h (hg _ _))
theorem timesIn_low {g : Int → Int → Int} (hg : ∀ n m, p ≠ 0 → 0 ≤ g n m ∧ g n m < p) {x : List Int × Int} : ∀ {b acc : CQ}, LowF p acc → LowF p (timesIn g x b acc)
  | [], acc, h => h
  | y :: b, acc, h => timesIn_low hg (x := x) (b := b) (put_low h (hg _ _))
theorem times_low {g : Int → Int → Int} (hg : ∀ n m, p ≠ 0 → 0 ≤ g n m ∧ g n m < p) : ∀ {a acc : CQ}, LowF p acc → LowF p (timesF g a b acc)
  | [], acc, h => h
  | x :: a, acc, h => times_low hg (a := a) (timesIn_low hg h)
theorem drop0_clean (nd : (kyF T).Nodup) (low : LowF p T) : CleanF p (dropZ 0 T) := by
  have e : dropZ 0 T = T.filter fun q => decide (q.2 ≠ 0) := by
    unfold dropZ
    exact if_pos rfl
  rw [e]
  exact ⟨filter_keys _ nd, fun q hq => of_decide_eq_true (List.mem_filter.mp hq).2, fun hp q hq => low hp q (List.mem_filter.mp hq).1⟩
theorem ev_drop0 (p : Int) (T : CQ) : EqF p (dropZ 0 T) T := fun φ => by
  have h := ev_dropZ 0 T φ
  rw [eq0 h]
  exact Cg.refl p _
abbrev fsumT (p f : Int) (a b : CQ) : CQ := dropZ 0 (plusF (fun n m => clI p (n + f * m)) a b)
abbrev fmulT (p : Int) (a b : CQ) : CQ := dropZ 0 (timesF (fun n m => clI p (n + m)) a b [])
theorem ev_fsum (nd : (kyF a).Nodup) (φ : List Int → Int) : Cg p (evF φ (fsumT p f a b)) (evF φ a + f * evF φ b) := (ev_drop0 p _ φ).trans ((ev_plus (p := p) (f := f) (g := fun n m => clI p (n + f * m)) (fun n m => clI_cg p _) b nd).2 φ)
theorem ev_fmul (φ : List Int → Int) : Cg p (evF φ (fmulT p a b)) (ev2 (fun e e' => φ (zs e e')) a b) := by
  have h := (ev_times (p := p) (g := fun n m => clI p (n + m)) (fun n m => clI_cg p _) b a (acc := []) List.nodup_nil).2 φ
  rw [show evF φ [] = 0 from rfl, Int.zero_add] at h
  exact (ev_drop0 p _ φ).trans h
theorem fsum_clean (h0 : 0 ≤ p) (ha : CleanF p a) : CleanF p (fsumT p f a b) := drop0_clean (ev_plus (p := p) (f := f) (g := fun n m => clI p (n + f * m)) (fun n m => clI_cg p _) b ha.nd).1 (plus_low (fun n m hp => clI_low h0 hp _) ha.fit)
theorem fmul_clean (h0 : 0 ≤ p) : CleanF p (fmulT p a b) := drop0_clean (ev_times (p := p) (g := fun n m => clI p (n + m)) (fun n m => clI_cg p _) b a (acc := []) List.nodup_nil).1 (times_low (fun n m hp => clI_low h0 hp _) fun _ _ z => nomatch z)
theorem fmul_ok (h0 : 0 ≤ p) (hp : p ≤ 19) (h : FormOk p l d s a) (h' : FormOk p l e r b) (hd : lowD l d) (he : lowD l e) : FormOk p l (d + e) (s + r + 20) (fmulT p a b) := by
  have c : CleanF p (fmulT p a b) := fmul_clean h0
  refine ⟨c, ?_, co_of h0 hp (by omega) c fun z k => ?_⟩
  · have := (h.hom.times (g := fun n m => clI p (n + m)) h'.hom).drop (p := 0)
    rwa [← Int.natCast_add] at this
  have q := ev_fmul (p := p) (a := a) (b := b) fun e => if e = k then 1 else 0
  rw [z] at q
  have q := eq0 q
  rw [z, q]
  have b1 : ∀ e' : List Int, (evF (fun f => if zs e' f = k then (1 : Int) else 0) b).natAbs ≤ 1000 * (2 ^ r * 1) := fun e' => Nat.le_trans (ev_le h'.co fun f => by show (if zs e' f = k then (1 : Int) else 0).natAbs ≤ 1; split <;> decide) (Nat.mul_le_mul (h'.few he) (Nat.le_refl _))
  have b2 := Nat.le_trans (ev_le h.co b1) (Nat.mul_le_mul (h.few hd) (Nat.le_refl _))
  refine Nat.le_trans b2 ?_
  rw [show 2 ^ (s + r + 20) = 2 ^ s * 2 ^ r * 2 ^ 20 by rw [Nat.pow_add, Nat.pow_add]]
  have w : ∀ A B : Nat, 1000 * (A * (1000 * (B * 1))) = A * B * 1000000 := fun A B => by
    rw [Nat.mul_one, Nat.mul_left_comm A, ← Nat.mul_assoc 1000, Nat.mul_comm (A * B)]
  rw [w]
  exact Nat.mul_le_mul_left _ (by decide)
/-- two clean tables of the same sums are equal as dicts -/
theorem same_tab (h0 : 0 ≤ p) (c : CleanF p T) (d : CleanF p U) (A : (List Int → Int) → Int) (h : ∀ φ, Cg p (evF φ T) (A φ)) (h' : ∀ φ, Cg p (evF φ U) (A φ)) : ((cD T).length == (cD U).length && eqT (cD T) (cD U)) = true := clean_eq h0 c d fun φ => (h φ).trans (h' φ).symm
theorem CleanF.perm (h : CleanF p T) (e : U.Perm T) : CleanF p U := ⟨(e.map (·.1)).nodup_iff.mpr h.nd, fun q hq => h.ne q (e.mem_iff.mp hq), fun hp q hq => h.fit hp q (e.mem_iff.mp hq)⟩
theorem CleanF.desc (h : CleanF p T) : CleanF p (descF T) := h.perm (desc_perm h.nd)
theorem CleanF.asc (h : CleanF p T) : CleanF p (ascF T) := h.perm (asc_perm h.nd)
end
end TD
set_option Elab.async false
set_option linter.all false
set_option maxRecDepth 100000
set_option maxHeartbeats 1100000
namespace K05
open PySem L2 TD PySem.Spec PyProof.Rows
open Evl (Ex ex_l ex_t fresh_back sq_of st_of sz_of sz_lt)
variable [TabW]
theorem settled_cl (p n : Int) : Num.settled p n = clI p n := by
  unfold Num.settled clI
  by_cases h : p = 0
  · rw [if_neg (by simpa using h), if_pos h]
  · rw [if_pos h, if_neg h]
def fpowT (p : Int) (l : Nat) (a : CQ) : Nat → CQ
  | 0 => oneT l
  | m + 1 => fmulT p (fpowT p l a m) a
theorem fpow_ok {p : Int} (hp : Num.PrimeI p) {l d s : Nat} {a : CQ} (ha : FormOk p l d s a) (hd : lowD l d) : ∀ m : Nat, lowD l (m * d) → FormOk p l (m * d) (5 + m * (s + 20)) (fpowT p l a m) := by
  have hs := hp.small
  intro m
  induction m with
  | zero =>
    intro _
    rw [Nat.zero_mul, Nat.zero_mul]
    exact one_ok hp l
  | succ m ih =>
    intro h
    rw [Nat.succ_mul] at h ⊢
    have h2 := fmul_ok hs.1 hs.2 (ih (low_of h (by omega))) ha (low_of h (by omega)) hd
    rw [show 5 + (m + 1) * (s + 20) = 5 + m * (s + 20) + s + 20 by rw [Nat.succ_mul]; omega]
    exact h2
/-- dict([(e, d[e]) for e in d if d[e] != 0]) -/
theorem kept {K : PySem.W.Frag} {ρ : Rho} {i j : Nat} {M : CQ} (h0 : ρ[i]? = some (some (.imm (dT (cD M))))) (hi : ∀ y : TD.Slot, ((wipeR ρ [j]).set j (some y))[i]? = some (some (.imm (dT (cD M))))) (hj : ∀ y : TD.Slot, ((wipeR ρ [j]).set j (some y))[j]? = some (some y)) (nd : (kyF M).Nodup) (few : M.length ≤ 1000) :
    EvB K (tCB (rDictT K) (tCons (TD.tUn Itkt (tVar i) fun wi => tLc wi (gName j) (tTest (tOp rNe (tDGet (tVar i) (tVar j)) (tC (V.int 0)))) (tTup (tCons (tVar j) (tCons (tDGet (tVar i) (tVar j)) tNil))) [j]) tNil)) ρ none (dT (cD (dropZ 0 M))) none := by
  have at_ : ∀ q ∈ cD M, getT (cD M) q.1 = some (.int (Num.toI q.2)) := fun q hq => by
    obtain ⟨r, hr, rfl⟩ := List.mem_map.mp hq
    exact getT_nd (by rw [cD_keys]; exact nd) (List.mem_map_of_mem (f := fun q : List Int × Int => (q.1, PyData.int q.2)) hr)
  refine d_dictT (qs := cD (dropZ 0 M)) ((d_lcW (wk_keys j) (qs := cD M) (d_var h0) (LcF.pure (fun q => decide (Num.toI q.2 ≠ 0)) (fun q => .tuple [tupJ q.1, .int (Num.toI q.2)]) (fun q hq => (t_test (d_neI (t_dget (d_var (hi _)) (d_var (hj _)) (at_ q hq)) d_int)).to (by rw [decide_not])) fun q hq _ => d_tup (ds := [tupJ q.1, .int (Num.toI q.2)]) (a_con (d_var (hj _)) (a_con (t_dget (d_var (hi _)) (d_var (hj _)) (at_ q hq)) a_nil)) rfl (by show 2 ≤ 100000; decide)) ?_ (by intro z hz; exact hz)).to ?_) (by rw [cD_keys]; exact dropZ_nd nd)
  · rw [List.length_map]
    exact Nat.le_trans (List.length_filter_le _ _) (by rw [List.length_map]; omega)
  · refine congrArg PyData.list ?_
    unfold dropZ
    rw [if_pos rfl, List.filter_map, List.map_map]
    show _ = List.map (fun q : QD => PyData.tuple [tupJ q.1, q.2]) (List.map (fun q : List Int × Int => (q.1, PyData.int q.2)) _)
    rw [List.map_map]
    rfl
abbrev FK (j : Nat) : QD → Rho → Rho := fun q ρ => ρ.set j (some (.imm (tupJ q.1)))
abbrev addE : TE → TE → TE := tOp (rI0 fun i j => V.int (i + j))
abbrev mulE : TE → TE → TE := tOp (rI CMulW fun i j => V.int (i * j))
theorem at_told {b : CQ} (nb : (kyF b).Nodup) {q : List Int × Int} (h : q ∈ b) : getT (cD b) q.1 = some (.int q.2) := getT_nd (by rw [cD_keys]; exact nb) (List.mem_map_of_mem (f := fun q : List Int × Int => (q.1, PyData.int q.2)) h)
theorem sum_loop {K : PySem.W.Frag} {p f : Int} {A : Option TD.Slot} {l d : Nat} (hp : 0 ≤ p) (hd : lowD l d) {b : CQ} (nb : (kyF b).Nodup) (hb : HomF l d b) (hm : ∀ q ∈ b, CMulW f q.2) : ∀ (c acc : CQ) (x : Option TD.Slot), (∀ q ∈ c, q ∈ b) → (kyF acc).Nodup → HomF l d acc →
    ∃ x', ForFW K 4 (FK 5) (sDPut (tVar 4) (tVar 5) (tCall (spR K R_law_low) [] E0 (tCons (tVar 0) (tCons (addE (tDGet2 (tVar 4) (tVar 5) (tC (V.int 0))) (mulE (tVar 3) (tDGet (tVar 2) (tVar 5)))) tNil)))) (cD c) [some (.imm (.int p)), A, some (.imm (dT (cD b))), some (.imm (.int f)), none, x] none (dT (cD acc)) (.nx [some (.imm (.int p)), A, some (.imm (dT (cD b))), some (.imm (.int f)), none, x']) none (dT (cD (plusF (fun n m => clI p (n + f * m)) acc c)))
  | [], acc, x, _, _, _ => ⟨x, .nil _ _ _⟩
  | q :: c, acc, x, hc, nd, ha => by
    have hq := hc q List.mem_cons_self
    have hom : HomF l d (putT acc q.1 (clI p (at0 acc q.1 + f * q.2))) := fun k hk => (put_key.mp hk).elim (fun e => e ▸ hb q.1 (List.mem_map_of_mem hq)) (ha k)
    obtain ⟨x', rest⟩ := sum_loop (K := K) (A := A) hp hd nb hb hm c (putT acc q.1 (clI p (at0 acc q.1 + f * q.2))) (some (.imm (tupJ q.1))) (fun r hr => hc r (List.mem_cons_of_mem _ hr)) (put_nd nd) hom
    refine ⟨x', .nx ?_ rest⟩
    rw [← cD_put]
    have few := hom_few hd nd ha
    exact sw_putT (x := .int (clI p (at0 acc q.1 + f * q.2))) (ns := q.1) (ew_frz ((c_f2 (a := PyData.int) (a' := PyData.int) (x := p) (y := at0 acc q.1 + f * q.2) (d_var rfl) (d_add ((d_dget2 (qs := cD acc) (k := q.1) (d_var rfl) (d_var rfl) d_int).to (cD_at acc q.1)) (d_mul (d_var rfl) (t_dget (d_var rfl) (d_var rfl) (at_told nb hq)) (hm q hq))) hp).to (congrArg PyData.int (settled_cl p _))) rfl) (ew_plain fun _ => d_var rfl) (by rw [List.length_map]; exact few)
abbrev tuPr (K : PySem.W.Frag) : TS := tSeq (tAsg (tCB (rTupleOf K) (tCons (tLc (RZ.iZipA K (tCons (tVar 4) (tCons (tVar 5) tNil))) (gTup K 2 (gCons (gName 7) (gCons (gName 8) gNil))) tYes (addE (tVar 7) (tVar 8)) [7, 8]) tNil)) (gName 6)) (sDPut (tVar 3) (tVar 6) (tCall (spR K R_law_low) [] E0 (tCons (tVar 0) (tCons (addE (tDGet2 (tVar 3) (tVar 6) (tC (V.int 0))) (mulE (tDGet (tVar 1) (tVar 4)) (tDGet (tVar 2) (tVar 5)))) tNil))))
abbrev rowP (p : Int) (a b : CQ) (s4 s5 s6 : Option TD.Slot) : Rho := [some (.imm (.int p)), some (.imm (dT (cD a))), some (.imm (dT (cD b))), none, s4, s5, s6, none, none, none]
theorem zip_zs : ∀ x y : List Int, ((x.zip y).map fun q => PyData.int (q.1 + q.2)) = (zs x y).map PyData.int
  | [], _ => rfl
  | _ :: _, [] => rfl
  | a :: x, b :: y => by
    exact congrArg (PyData.int (a + b) :: ·) (zip_zs x y)
theorem d_both {K : PySem.W.Frag} {p : Int} {a b : CQ} {x y : List Int} {s6 : Option TD.Slot} (hl : x.length = y.length) (h3 : x.length ≤ 3) {q : Addr} : EvB K (tCB (rTupleOf K) (tCons (tLc (RZ.iZipA K (tCons (tVar 4) (tCons (tVar 5) tNil))) (gTup K 2 (gCons (gName 7) (gCons (gName 8) gNil))) tYes (addE (tVar 7) (tVar 8)) [7, 8]) tNil)) ((rowP p a b (some (.imm (tupJ x))) (some (.imm (tupJ y))) s6).set 3 (some (.fn q))) none (tupJ (zs x y)) none := by
  have h := d_lcZT (K := K) (i := 7) (j := 8) (vs := [7, 8]) (tt := tYes) (te := addE (tVar 7) (tVar 8)) (ta := tVar 4) (tb := tVar 5) (β := none) (ρ := (rowP p a b (some (.imm (tupJ x))) (some (.imm (tupJ y))) s6).set 3 (some (.fn q))) (xs := x.map PyData.int) (ys := y.map PyData.int) (rs := (x.zip y).map fun q => PyData.int (q.1 + q.2)) (β1 := none) (β2 := none) (β3 := none) (d_var rfl) (d_var rfl) (by rw [List.length_map, List.length_map]; exact hl) ?_ (by rw [List.length_map, List.length_zip]; omega) (show 7 ∈ [7, 8] by decide) (show 8 ∈ [7, 8] by decide)
  · rw [zip_zs] at h
    exact d_tupleOf h
  · rw [List.zip_map]
    exact LcZ.ints (fun n m => .int (n + m)) fun n m _ _ => d_add (d_var rfl) (d_var rfl)
theorem pr_in {K : PySem.W.Frag} {p : Int} {l d e : Nat} (hp : 0 ≤ p) (hd : lowD l (d + e)) {a b : CQ} (na : (kyF a).Nodup) (nb : (kyF b).Nodup) (ha : HomF l d a) (hb : HomF l e b) {x : List Int × Int} (hx : x ∈ a) (hm : ∀ q ∈ b, CMulW x.2 q.2) : ∀ (c acc : CQ) (s5 s6 : Option TD.Slot), (∀ q ∈ c, q ∈ b) → (kyF acc).Nodup → HomF l ((d + e : Nat) : Int) acc →
    ∃ t5 t6, ForFW K 3 (FK 5) (tuPr K) (cD c) (rowP p a b (some (.imm (tupJ x.1))) s5 s6) none (dT (cD acc)) (.nx (rowP p a b (some (.imm (tupJ x.1))) t5 t6)) none (dT (cD (timesIn (fun n m => clI p (n + m)) x c acc)))
  | [], acc, s5, s6, _, _, _ => ⟨s5, s6, .nil _ _ _⟩
  | q :: c, acc, s5, s6, hc, nd, hacc => by
    have hq := hc q List.mem_cons_self
    have kx := ha x.1 (List.mem_map_of_mem hx)
    have kq := hb q.1 (List.mem_map_of_mem hq)
    have key : HomK l ((d + e : Nat) : Int) (zs x.1 q.1) := by
      rw [Int.natCast_add]
      exact kx.zs kq
    have l3 := hd.l
    have hom : HomF l ((d + e : Nat) : Int) (putT acc (zs x.1 q.1) (clI p (at0 acc (zs x.1 q.1) + x.2 * q.2))) := fun k hk => (put_key.mp hk).elim (fun z => z ▸ key) (hacc k)
    obtain ⟨t5, t6, rest⟩ := pr_in (K := K) hp hd na nb ha hb hx hm c (putT acc (zs x.1 q.1) (clI p (at0 acc (zs x.1 q.1) + x.2 * q.2))) (some (.imm (tupJ q.1))) (some (.imm (tupJ (zs x.1 q.1)))) (fun r hr => hc r (List.mem_cons_of_mem _ hr)) (put_nd nd) hom
    refine ⟨t5, t6, .nx ?_ rest⟩
    rw [← cD_put]
    have few := hom_few hd nd hacc
    exact sw_seq (sw_asg (by decide) (ew_plain fun _ => d_both (kx.1.trans kq.1.symm) (by have := kx.1; omega))) (sw_putT (x := .int (clI p (at0 acc (zs x.1 q.1) + x.2 * q.2))) (ns := zs x.1 q.1) (ew_frz ((c_f2 (a := PyData.int) (a' := PyData.int) (x := p) (y := at0 acc (zs x.1 q.1) + x.2 * q.2) (d_var rfl) (d_add ((d_dget2 (qs := cD acc) (k := zs x.1 q.1) (d_var rfl) (d_var rfl) d_int).to (cD_at acc _)) (d_mul (t_dget (d_var rfl) (d_var rfl) (at_told na hx)) (t_dget (d_var rfl) (d_var rfl) (at_told nb hq)) (hm q hq))) hp).to (congrArg PyData.int (settled_cl p _))) rfl) (ew_plain fun _ => d_var rfl) (by rw [List.length_map]; exact few))
theorem pr_loop {K : PySem.W.Frag} {Z : Cx} {p : Int} {l d e : Nat} (hp : 0 ≤ p) (hd : lowD l (d + e)) {a b : CQ} (na : (kyF a).Nodup) (nb : (kyF b).Nodup) (ha : HomF l d a) (hb : HomF l e b) (hm : ∀ x ∈ a, ∀ q ∈ b, CMulW x.2 q.2) : ∀ (c acc : CQ) (s4 s5 s6 : Option TD.Slot), (∀ q ∈ c, q ∈ a) → (kyF acc).Nodup → HomF l ((d + e : Nat) : Int) acc →
    ∃ t4 t5 t6, ForFW K 3 (FK 4) (tForU Z Itkt (tVar 2) (gName 5) (tuPr K)) (cD c) (rowP p a b s4 s5 s6) none (dT (cD acc)) (.nx (rowP p a b t4 t5 t6)) none (dT (cD (timesF (fun n m => clI p (n + m)) c b acc)))
  | [], acc, s4, s5, s6, _, _, _ => ⟨s4, s5, s6, .nil _ _ _⟩
  | x :: c, acc, s4, s5, s6, hc, nd, hacc => by
    have hx := hc x List.mem_cons_self
    have kx := ha x.1 (List.mem_map_of_mem hx)
    obtain ⟨t5, t6, inner⟩ := pr_in (K := K) hp hd na nb ha hb hx (hm x hx) b acc s5 s6 (fun _ z => z) nd hacc
    have nd1 : (kyF (timesIn (fun n m => clI p (n + m)) x b acc)).Nodup := (ev_timesIn (p := p) (g := fun n m => clI p (n + m)) (fun n m => clI_cg p _) x b nd).1
    have h1 : HomF l ((d + e : Nat) : Int) (timesIn (fun n m => clI p (n + m)) x b acc) := fun k hk => (timesIn_key hk).elim (hacc k) fun ⟨y, hy, z⟩ => by
      rw [z, Int.natCast_add]
      exact kx.zs (hb y hy)
    obtain ⟨u4, u5, u6, rest⟩ := pr_loop (K := K) (Z := Z) hp hd na nb ha hb hm c (timesIn (fun n m => clI p (n + m)) x b acc) (some (.imm (tupJ x.1))) t5 t6 (fun r hr => hc r (List.mem_cons_of_mem _ hr)) nd1 h1
    refine ⟨u4, u5, u6, .nx ?_ rest⟩
    exact sw_forW (wk_keys 5) (by decide) (fun q ρ h => by rw [List.getElem?_set_ne (by decide)]; exact h) (ew_plain fun _ => d_var rfl) inner
abbrev s_law_fsum : Stmt := top 68
theorem sc_law_fsum : FnScope ["_law_prime_here", "_law_one", "_law_other", "_law_factor", "_law_found", "_law_exponents"] ["_law_prime_here", "_law_one", "_law_other", "_law_factor"] (defScope s_law_fsum) := ⟨rfl, rfl, rfl, by decide +kernel, rfl, by decide +kernel, by decide +kernel⟩
abbrev R_law_fsum : FR := fun as β r β' => ∃ p f a b, as = [.imm (.int p), .imm (dT (cD a)), .imm (dT (cD b)), .imm (.int f)] ∧ (0 ≤ p ∧ (kyF a).Nodup ∧ (kyF b).Nodup ∧ (∃ l d, lowD l d ∧ HomF l d a ∧ HomF l d b) ∧ ∀ q ∈ b, CMulW f q.2) ∧ r = dT (cD (fsumT p f a b)) ∧ β = none ∧ β' = none
theorem ok_law_fsum {P : Program} {w : World} {K : PySem.W.Frag} {mg : Str → Option Value} {base : Heap} {Y : Cn} (F : DefAt K "_law_fsum" s_law_fsum) (hX : K.In base) (hG : base.Ns mainGlobals mg) (T : Txt K mg Y) (G_law_low : FnG P w K mg base 1 "_law_low" ["_law_prime_here", "_law_number_here"] R_law_low) : FnG P w K mg base 2 "_law_fsum" ["_law_prime_here", "_law_one", "_law_other", "_law_factor"] R_law_fsum := by
  have nd := sc_law_fsum.nd
  refine fn_mk F hX hG sc_law_fsum (fun as β r β' h => by first | exact FR.len h | (obtain ⟨_, rfl, _⟩ := h; rfl) | (obtain ⟨_, _, rfl, _⟩ := h; rfl) | (obtain ⟨_, _, _, rfl, _⟩ := h; rfl) | (obtain ⟨_, _, _, _, rfl, _⟩ := h; rfl) | (obtain ⟨_, _, _, _, _, rfl, _⟩ := h; rfl)) (fun _ _ _ _ _ _ _ us hl => match us, hl with | [_, _, _, _], _ => rfl) (fun f cdv A outer s H E hr => ⟨_, (pss_cons (ps_set (i := 4) nd rfl (Or.inr rfl) (pe_callTy (c_dictT (K := K) hr rfl) (by rfl) T.z_dict bo_dict (pa_cons (pe_callTy (cr_listI rfl) (by rfl) T.z_list bo_list (pa_cons (pe_itemsV (pv 1)) pa_nil)) pa_nil))) (pss_cons (ps_un (ps_for PassesOwn.never rfl (pi_keysW (pv 2)) (pg_name (i := 5) nd rfl (Or.inl rfl)) (pss_one (ps_dput (unitsD hr) (pv 4) (pv 5) (pe_fn G_law_low (hr.mono (by decide)) (pa_cons (pv 0) (pa_cons (pe_op op_add (pe_dget2 (unitsD hr) (pv 4) (pv 5) pe_int ⟨rfl, rfl, rfl, rfl⟩) (pe_op op_mulW (pv 3) (pe_dget (unitsD hr) (pv 2) (pv 5) (fun _ _ => rfl)))) pa_nil))) (by rfl))))) (pss_one (ps_ret (pe_callTy (c_dictT (K := K) hr rfl) (by rfl) T.z_dict bo_dict (pa_cons (pe_un isB_lc (pe_lc (own := [("_law_exponents", 5)]) rfl nd (pi_keysW (pv 4)) (blkOk_by (N := ["_law_prime_here", "_law_one", "_law_other", "_law_factor", "_law_found", "_law_exponents"]) (sc := defScope s_law_fsum) (by decide +kernel)) (fun _ _ _ _ _ => by exact (pg_name (i := 5) nd rfl (Or.inl rfl))) (fun _ _ _ _ _ => by exact (pts_one (pt_cmpR op_ne (pe_dget (unitsD hr) (pv 4) (pv 5) (fun _ _ => rfl)) pe_int (nomark _)))) (fun _ _ _ _ _ => by exact (pe_tup (pa_cons (pv 5) (pa_cons (pe_dget (unitsD hr) (pv 4) (pv 5) (fun _ _ => rfl)) pa_nil)))))) pa_nil)))))), fun as β r β' hR => ?_⟩)
  obtain ⟨p, f', a, b, rfl, ⟨hp, na, nb, ⟨l, d, hd, ha, hb⟩, hm⟩, rfl, rfl, rfl⟩ := hR
  try dsimp only [cxOf, Cx.nox, Cx.wish]
  have copy : EvN K (tCB (rDictT K) (tCons (tCB rListI (tCons (tView itmsO (tVar 1)) tNil)) tNil)) (startR ["_law_prime_here", "_law_one", "_law_other", "_law_factor", "_law_found", "_law_exponents"] [.imm (.int p), .imm (dT (cD a)), .imm (dT (cD b)), .imm (.int f')]) none (dT (cD a)) none := en_dictT (d_listI (qs := cD a) (d_var rfl)) (by rw [cD_keys]; exact na)
  obtain ⟨x, loop⟩ := sum_loop (K := K) (A := some (.imm (dT (cD a)))) hp hd nb hb hm b a none (fun _ z => z) na ha
  have ndM : (kyF (plusF (fun n m => clI p (n + f' * m)) a b)).Nodup := (ev_plus (p := p) (f := f') (g := fun n m => clI p (n + f' * m)) (fun n m => clI_cg p _) b na).1
  have fewM := hom_few hd ndM (ha.plus (g := fun n m => clI p (n + f' * m)) hb)
  exact .ret (st_own (by show 4 < 6; decide) copy (sp_seq (sw_forW (wk_keys 5) (by decide) (fun q ρ h => by rw [List.getElem?_set_ne (by decide)]; exact h) (ew_plain fun _ => d_var rfl) loop) (sp_end (st_ret (kept (i := 4) (j := 5) rfl (fun _ => rfl) (fun _ => rfl) ndM fewM)))))
abbrev s_law_fproduct : Stmt := top 69
theorem sc_law_fproduct : FnScope ["_law_prime_here", "_law_one", "_law_other", "_law_found", "_law_left", "_law_right_here", "_law_both", "_law_first", "_law_second", "_law_exponents"] ["_law_prime_here", "_law_one", "_law_other"] (defScope s_law_fproduct) := ⟨rfl, rfl, rfl, by decide +kernel, rfl, by decide +kernel, by decide +kernel⟩
abbrev R_law_fproduct : FR := fun as β r β' => ∃ p l a b, as = [.imm (.int p), .imm (dT (cD a)), .imm (dT (cD b))] ∧ (0 ≤ p ∧ MulOk p l a b) ∧ r = dT (cD (fmulT p a b)) ∧ β = none ∧ β' = none
theorem ok_law_fproduct {P : Program} {w : World} {K : PySem.W.Frag} {mg : Str → Option Value} {base : Heap} {Y : Cn} (F : DefAt K "_law_fproduct" s_law_fproduct) (hX : K.In base) (hG : base.Ns mainGlobals mg) (T : Txt K mg Y) (G_law_low : FnG P w K mg base 1 "_law_low" ["_law_prime_here", "_law_number_here"] R_law_low) : FnG P w K mg base 2 "_law_fproduct" ["_law_prime_here", "_law_one", "_law_other"] R_law_fproduct := by
  have nd := sc_law_fproduct.nd
  refine fn_mk F hX hG sc_law_fproduct (fun as β r β' h => by first | exact FR.len h | (obtain ⟨_, rfl, _⟩ := h; rfl) | (obtain ⟨_, _, rfl, _⟩ := h; rfl) | (obtain ⟨_, _, _, rfl, _⟩ := h; rfl) | (obtain ⟨_, _, _, _, rfl, _⟩ := h; rfl) | (obtain ⟨_, _, _, _, _, rfl, _⟩ := h; rfl)) (fun _ _ _ _ _ _ _ us hl => match us, hl with | [_, _, _], _ => rfl) (fun f cdv A outer s H E hr => ⟨_, (pss_cons (ps_set (i := 3) nd rfl (Or.inr rfl) pe_dnewT) (pss_cons (ps_un (ps_for PassesOwn.never rfl (pi_keysW (pv 1)) (pg_name (i := 4) nd rfl (Or.inl rfl)) (pss_one (ps_un (ps_for PassesOwn.never rfl (pi_keysW (pv 2)) (pg_name (i := 5) nd rfl (Or.inl rfl)) (pss_cons (ps_set (i := 6) nd rfl (Or.inl rfl) (pe_callTy c_tuple (by rfl) T.z_tuple bo_tuple (pa_cons (pe_lc (own := [("_law_first", 7), ("_law_second", 8)]) rfl nd (RZ.pi_zipA (by rfl) T.z_zip (pa_cons (pv 4) (pa_cons (pv 5) pa_nil))) (blkOk_by (N := ["_law_prime_here", "_law_one", "_law_other", "_law_found", "_law_left", "_law_right_here", "_law_both", "_law_first", "_law_second", "_law_exponents"]) (sc := defScope s_law_fproduct) (by decide +kernel)) (fun _ _ _ _ _ => by exact (pg_tupK (K := K) (n := 2) rfl (pgs_cons (pg_name (i := 7) nd rfl (Or.inl rfl)) (pgs_cons (pg_name (i := 8) nd rfl (Or.inl rfl)) pgs_nil)))) (fun _ _ _ _ _ => by exact pts_nil) (fun _ _ _ _ _ => by exact (pe_op op_add (pv 7) (pv 8)))) pa_nil))) (pss_one (ps_dput (unitsD hr) (pv 3) (pv 6) (pe_fn G_law_low (hr.mono (by decide)) (pa_cons (pv 0) (pa_cons (pe_op op_add (pe_dget2 (unitsD hr) (pv 3) (pv 6) pe_int ⟨rfl, rfl, rfl, rfl⟩) (pe_op op_mulW (pe_dget (unitsD hr) (pv 1) (pv 4) (fun _ _ => rfl)) (pe_dget (unitsD hr) (pv 2) (pv 5) (fun _ _ => rfl)))) pa_nil))) (by rfl))))))))) (pss_one (ps_ret (pe_callTy (c_dictT (K := K) hr rfl) (by rfl) T.z_dict bo_dict (pa_cons (pe_un isB_lc (pe_lc (own := [("_law_exponents", 9)]) rfl nd (pi_keysW (pv 3)) (blkOk_by (N := ["_law_prime_here", "_law_one", "_law_other", "_law_found", "_law_left", "_law_right_here", "_law_both", "_law_first", "_law_second", "_law_exponents"]) (sc := defScope s_law_fproduct) (by decide +kernel)) (fun _ _ _ _ _ => by exact (pg_name (i := 9) nd rfl (Or.inl rfl))) (fun _ _ _ _ _ => by exact (pts_one (pt_cmpR op_ne (pe_dget (unitsD hr) (pv 3) (pv 9) (fun _ _ => rfl)) pe_int (nomark _)))) (fun _ _ _ _ _ => by exact (pe_tup (pa_cons (pv 9) (pa_cons (pe_dget (unitsD hr) (pv 3) (pv 9) (fun _ _ => rfl)) pa_nil)))))) pa_nil)))))), fun as β r β' hR => ?_⟩)
  obtain ⟨p, l, a, b, rfl, ⟨hp, hM⟩, rfl, rfl, rfl⟩ := hR
  try dsimp only [cxOf, Cx.nox, Cx.wish]
  obtain ⟨d, e, u, v, hd, ha, hb, sa, sb, hst⟩ := hM.ex
  have hm : ∀ x ∈ a, ∀ q ∈ b, CMulW x.2 q.2 := fun x hx q hq => by
    have h1 : x.2.natAbs < 2 ^ (u + 1) := Nat.lt_of_le_of_lt (sa x hx) (Nat.pow_lt_pow_right (by decide) (Nat.lt_succ_self u))
    have h2 : q.2.natAbs < 2 ^ (v + 1) := Nat.lt_of_le_of_lt (sb q hq) (Nat.pow_lt_pow_right (by decide) (Nat.lt_succ_self v))
    exact mulW h1 h2 (by omega)
  have ndM : (kyF (timesF (fun n m => clI p (n + m)) a b [])).Nodup := (ev_times (p := p) (g := fun n m => clI p (n + m)) (fun n m => clI_cg p _) b a (acc := []) List.nodup_nil).1
  have hom : HomF l ((d + e : Nat) : Int) (timesF (fun n m => clI p (n + m)) a b []) := by
    have := ha.times (g := fun n m => clI p (n + m)) hb
    rwa [← Int.natCast_add] at this
  have fewM := hom_few hd ndM hom
  obtain ⟨t4, t5, t6, loop⟩ := pr_loop (K := K) (Z := _) hp hd hM.na hM.nb ha hb hm a [] none none none (fun _ z => z) List.nodup_nil (fun _ z => nomatch z)
  exact .ret (st_own (by show 3 < 10; decide) en_dictT0 (sp_seq (sw_forW (wk_keys 4) (by decide) (fun q ρ h => by rw [List.getElem?_set_ne (by decide)]; exact h) (ew_plain fun _ => d_var rfl) loop) (sp_end (st_ret (kept (i := 3) (j := 9) rfl (fun _ => rfl) (fun _ => rfl) ndM fewM)))))
abbrev s_law_fpower : Stmt := top 70
theorem sc_law_fpower : FnScope ["_law_prime_here", "_law_letters", "_law_one", "_law_many", "_law_found", "_law_turn"] ["_law_prime_here", "_law_letters", "_law_one", "_law_many"] (defScope s_law_fpower) := ⟨rfl, rfl, rfl, by decide +kernel, rfl, by decide +kernel, by decide +kernel⟩
abbrev R_law_fpower : FR := fun as β r β' => ∃ p l a m, as = [.imm (.int p), .imm (.int (l : Nat)), .imm (dT (cD a)), .imm (.int (m : Nat))] ∧ (Num.PrimeI p ∧ m ≤ 3 ∧ ∃ d s, lowD l d ∧ lowD l (m * d) ∧ s ≤ 100 ∧ FormOk p l d s a) ∧ r = dT (cD (fpowT p l a m)) ∧ β = none ∧ β' = none
theorem ok_law_fpower {P : Program} {w : World} {K : PySem.W.Frag} {mg : Str → Option Value} {base : Heap} {Y : Cn} (F : DefAt K "_law_fpower" s_law_fpower) (hX : K.In base) (hG : base.Ns mainGlobals mg) (T : Txt K mg Y) (G_law_fproduct : FnG P w K mg base 2 "_law_fproduct" ["_law_prime_here", "_law_one", "_law_other"] R_law_fproduct) : FnG P w K mg base 3 "_law_fpower" ["_law_prime_here", "_law_letters", "_law_one", "_law_many"] R_law_fpower := by
  have nd := sc_law_fpower.nd
  refine fn_mk F hX hG sc_law_fpower (fun as β r β' h => by first | exact FR.len h | (obtain ⟨_, rfl, _⟩ := h; rfl) | (obtain ⟨_, _, rfl, _⟩ := h; rfl) | (obtain ⟨_, _, _, rfl, _⟩ := h; rfl) | (obtain ⟨_, _, _, _, rfl, _⟩ := h; rfl) | (obtain ⟨_, _, _, _, _, rfl, _⟩ := h; rfl)) (fun _ _ _ _ _ _ _ us hl => match us, hl with | [_, _, _, _], _ => rfl) (fun f cdv A outer s H E hr => ⟨_, (pss_cons (ps_set (i := 4) nd rfl (Or.inl rfl) (pe_callTy (c_dictT (K := K) hr rfl) (by rfl) T.z_dict bo_dict (pa_cons (pe_lst (pa_cons (pe_tup (pa_cons (pe_op op_repT (pe_tup (pa_cons pe_int pa_nil)) (pv 1)) (pa_cons pe_int pa_nil))) pa_nil)) pa_nil))) (pss_cons (ps_for PassesOwn.never rfl (pi_range1 (by rfl) T.z_range (pa_cons (pv 3) pa_nil)) (pg_name (i := 5) nd rfl (Or.inl rfl)) (pss_one (ps_set (i := 4) nd rfl (Or.inl rfl) (pe_fn G_law_fproduct (hr.mono (by decide)) (pa_cons (pv 0) (pa_cons (pv 4) (pa_cons (pv 2) pa_nil))))))) (pss_one (ps_ret (pv 4))))), fun as β r β' hR => ?_⟩)
  obtain ⟨p, l, a, m, rfl, ⟨hp, h3, d, s, hd1, hd, hs, ha⟩, rfl, rfl, rfl⟩ := hR
  try dsimp only [cxOf, Cx.nox, Cx.wish]
  have sm := hp.small
  have l23 := hd1.l
  have lb : (2 : Int) ≤ (l : Int) ∧ (l : Int) ≤ 1000 := by omega
  have flat : (List.replicate ((l : Int)).toNat [PyData.int 0]).flatten = (List.replicate l (0 : Int)).map PyData.int := by rcases l23 with rfl | rfl <;> rfl
  have one : EvB K (tCB (rDictT K) (tCons (tLst (tCons (tTup (tCons (tOp (rRepT K) (tTup (tCons (tC (V.int 0)) tNil)) (tVar 1)) (tCons (tC (V.int 1)) tNil))) tNil)) tNil)) (startR ["_law_prime_here", "_law_letters", "_law_one", "_law_many", "_law_found", "_law_turn"] [.imm (.int p), .imm (.int l), .imm (dT (cD a)), .imm (.int m)]) none (dT (cD (oneT l))) none :=
    d_dictT (qs := cD (oneT l)) (d_lst (ds := [.tuple [tupJ (List.replicate l 0), .int 1]]) (a_con (d_tup (ds := [tupJ (List.replicate l 0), .int 1]) (a_con ((d_repT (ds := [.int 0]) (d_tup (a_con d_int a_nil) rfl (by decide)) (d_var rfl) (by simp) lb.1 lb.2 (by decide)).to (congrArg PyData.tuple flat)) (a_con d_int a_nil)) rfl (by show 2 ≤ 100000; decide)) a_nil) rfl (by show 1 ≤ 100000; decide)) (by rw [cD_keys]; exact (one_ok hp l).clean.nd)
  have step : ∀ (j : Nat) (y : Option TD.Slot), j < m → StB K (tAsg (tCall (spR K R_law_fproduct) [] E0 (tCons (tVar 0) (tCons (tVar 4) (tCons (tVar 2) tNil)))) (gName 4)) [some (.imm (.int p)), some (.imm (.int l)), some (.imm (dT (cD a))), some (.imm (.int m)), some (.imm (dT (cD (fpowT p l a j)))), y] none (.nx [some (.imm (.int p)), some (.imm (.int l)), some (.imm (dT (cD a))), some (.imm (.int m)), some (.imm (dT (cD (fpowT p l a (j + 1))))), y]) none := fun j y hj => by
    have le : (j + 1) * d ≤ m * d := Nat.mul_le_mul_right d hj
    rw [Nat.succ_mul] at le
    have hj3 : j * (s + 20) ≤ 3 * (s + 20) := Nat.mul_le_mul_right _ (by omega)
    have hP := fpow_ok hp ha hd1 j (low_of hd (by omega))
    exact st_asg (d_call0 (a_con (d_var rfl) (a_con (d_var rfl) (a_con (d_var rfl) a_nil))) ⟨p, l, fpowT p l a j, a, rfl, ⟨sm.1, mul_ok (low_of hd (by omega)) hP ha (by omega)⟩, rfl, rfl, rfl⟩)
  have lp : ∃ y, ForR K 5 (tAsg (tCall (spR K R_law_fproduct) [] E0 (tCons (tVar 0) (tCons (tVar 4) (tCons (tVar 2) tNil)))) (gName 4)) (rng 0 m) [some (.imm (.int p)), some (.imm (.int l)), some (.imm (dT (cD a))), some (.imm (.int m)), some (.imm (dT (cD (fpowT p l a 0)))), none] none (.nx [some (.imm (.int p)), some (.imm (.int l)), some (.imm (dT (cD a))), some (.imm (.int m)), some (.imm (dT (cD (fpowT p l a m)))), y]) none := by
    obtain rfl | rfl | rfl | rfl : m = 0 ∨ m = 1 ∨ m = 2 ∨ m = 3 := by omega
    · exact ⟨_, .nil _ _⟩
    · exact ⟨_, .nx (step 0 _ (by decide)) (.nil _ _)⟩
    · exact ⟨_, .nx (step 0 _ (by decide)) (.nx (step 1 _ (by decide)) (.nil _ _))⟩
    · exact ⟨_, .nx (step 0 _ (by decide)) (.nx (step 1 _ (by decide)) (.nx (step 2 _ (by decide)) (.nil _ _)))⟩
  obtain ⟨y, lp⟩ := lp
  exact .ret (st_sq (st_asg one) (st_sq (st_forR1 (i := (m : Int)) (d_var rfl) (by omega) lp) (st_ret (d_var rfl))))
theorem intab_nd {p : Int} {l : Nat} {T : CQ} (h : InTab p l (dT (cD T)) T) : (kyF T).Nodup := by
  rcases h with ⟨h, _⟩ | ⟨_, d, s, _, _, h⟩
  · exact nomatch h
  · exact h.clean.nd
abbrev s_law_form : Stmt := top 71
theorem sc_law_form : FnScope ["_law_prime_here", "_law_letters", "_law_table"] ["_law_prime_here", "_law_letters", "_law_table"] (defScope s_law_form) := ⟨rfl, rfl, rfl, by decide +kernel, rfl, by decide +kernel, by decide +kernel⟩
abbrev R_law_form (Y : Cn) : FR := fun as β r β' => ∃ p l T, as = [.imm (.int p), .imm (.int (l : Nat)), .imm (dT (cD T))] ∧ (Num.PrimeI p ∧ (l = 2 ∨ l = 3) ∧ InTab p l (dT (cD T)) T) ∧ r = formD Y.cl p l (descF T) ∧ β = none ∧ β' = none
theorem ok_law_form {P : Program} {w : World} {K : PySem.W.Frag} {mg : Str → Option Value} {base : Heap} {Y : Cn} (F : DefAt K "_law_form" s_law_form) (hX : K.In base) (hG : base.Ns mainGlobals mg) (T : Txt K mg Y) (G_Form_init : FnID P w K mg base 6 "Form" Y.cl ["self", "prime", "letters", "table"] (R_Form_init Y)) : FnG P w K mg base 8 "_law_form" ["_law_prime_here", "_law_letters", "_law_table"] (R_law_form Y) := by
  have nd := sc_law_form.nd
  refine fn_mk F hX hG sc_law_form (fun as β r β' h => by first | exact FR.len h | (obtain ⟨_, rfl, _⟩ := h; rfl) | (obtain ⟨_, _, rfl, _⟩ := h; rfl) | (obtain ⟨_, _, _, rfl, _⟩ := h; rfl) | (obtain ⟨_, _, _, _, rfl, _⟩ := h; rfl) | (obtain ⟨_, _, _, _, _, rfl, _⟩ := h; rfl)) (fun _ _ _ _ _ _ _ us hl => match us, hl with | [_, _, _], _ => rfl) (fun f cdv A outer s H E hr => ⟨_, (pss_one (ps_ret (pe_newA (E := E0) G_Form_init (hr.mono (by decide)) passL (pa_cons (pv 0) (pa_cons (pv 1) (pa_cons (pe_callTy (c_dictT (K := K) hr rfl) (by rfl) T.z_dict bo_dict (pa_cons (pe_callTy (cr_listI rfl) (by rfl) T.z_list bo_list (pa_cons (pe_itemsV (pv 2)) pa_nil)) pa_nil)) pa_nil)))))), fun as β r β' hR => ?_⟩)
  obtain ⟨p, l, T', rfl, ⟨hp, hl, hT⟩, rfl, rfl, rfl⟩ := hR
  try dsimp only [cxOf, Cx.nox, Cx.wish]
  exact .ret (st_ret (x_new (a_con (d_var rfl) (a_con (d_var rfl) (a_con (d_dictT (qs := cD T') (d_listI (qs := cD T') (d_var rfl)) (by rw [cD_keys]; exact (intab_nd hT))) a_nil))) ⟨p, l, dT (cD T'), T', rfl, ⟨hp, hl, hT⟩, rfl, rfl, rfl⟩))
end K05
set_option Elab.async false
set_option linter.all false
set_option maxRecDepth 100000
set_option maxHeartbeats 1000100
namespace TD
open PySem L2
section
variable {φ : List Int → Int} {T U a b : CQ} {p : Int} {l d e : Nat}
theorem zs_max : ∀ {x y u v : List Int}, x.length = u.length → y.length = v.length → x.length = y.length → leL x u = true → leL y v = true → zs x y = zs u v → x = u ∧ y = v
  | [], [], [], [], _, _, _, _, _, _ => ⟨rfl, rfl⟩
  | x :: xs, y :: ys, u :: us, v :: vs, h1, h2, h3, g1, g2, e => by
    rw [leL_cons] at g1 g2
    have e1 : x + y = u + v := (List.cons.inj e).1
    have e2 : zs xs ys = zs us vs := (List.cons.inj e).2
    have ex : x = u := by omega
    have ey : y = v := by omega
    have g1 := (g1.resolve_left (by omega)).2
    have g2 := (g2.resolve_left (by omega)).2
    obtain ⟨r1, r2⟩ := zs_max (by simpa using h1) (by simpa using h2) (by simpa using h3) g1 g2 e2
    exact ⟨by rw [ex, r1], by rw [ey, r2]⟩
theorem top_key : ∀ {T : CQ}, T ≠ [] → ∃ q ∈ T, ∀ r ∈ T, leL r.1 q.1 = true
  | [], h => absurd rfl h
  | [q], _ => ⟨q, List.mem_cons_self, fun r hr => by rw [List.mem_singleton.mp hr]; exact leL_refl _⟩
  | q :: r :: T, _ => by
    obtain ⟨t, ht, hm⟩ := top_key (T := r :: T) (fun z => nomatch z)
    rcases leL_total q.1 t.1 with h | h
    · exact ⟨t, List.mem_cons_of_mem _ ht, fun s hs => (List.mem_cons.mp hs).elim (fun e => e ▸ h) (hm s)⟩
    · exact ⟨q, List.mem_cons_self, fun s hs => (List.mem_cons.mp hs).elim (fun e => e ▸ leL_refl _) fun hs => leL_trans (hm s hs) h⟩
theorem prime_mul : ∀ p ∈ ([2, 3, 5, 7, 11, 13, 17, 19] : List Nat), ∀ i < p, ∀ j < p, i ≠ 0 → j ≠ 0 → (i * j) % p ≠ 0 := by decide +kernel
theorem unit_mul {x y : Int} (hp : Num.PrimeI p) (hx : x ≠ 0) (hy : y ≠ 0) (fx : p ≠ 0 → 0 ≤ x ∧ x < p) (fy : p ≠ 0 → 0 ≤ y ∧ y < p) : ¬ p ∣ y * x := by
  rintro ⟨c, h⟩
  by_cases z : p = 0
  · rw [z, Int.zero_mul] at h
    rcases Int.mul_eq_zero.mp h with h | h
    · exact hy h
    · exact hx h
  · have hm : p.toNat ∈ ([2, 3, 5, 7, 11, 13, 17, 19] : List Nat) := by
      rcases hp with h0 | h0
      · exact absurd h0 z
      · have : ∀ p ∈ Num.primes, p.toNat ∈ ([2, 3, 5, 7, 11, 13, 17, 19] : List Nat) := by decide
        exact this p h0
    have bx := fx z
    have by_ := fy z
    refine prime_mul p.toNat hm y.toNat (by omega) x.toNat (by omega) (by omega) (by omega) ?_
    have e : ((y.toNat * x.toNat : Nat) : Int) = p * c := by
      rw [Int.natCast_mul, Int.toNat_of_nonneg by_.1, Int.toNat_of_nonneg bx.1, h]
    have e2 : (((y.toNat * x.toNat) % p.toNat : Nat) : Int) = 0 := by
      rw [Int.natCast_emod, e, Int.toNat_of_nonneg (by omega), Int.mul_emod_right]
    omega
theorem top_ev (na : (kyF a).Nodup) (nb : (kyF b).Nodup) (ha : HomF l d a) (hb : HomF l e b) {q r : List Int × Int} (hq : q ∈ a) (hr : r ∈ b) (mq : ∀ s ∈ a, leL s.1 q.1 = true) (mr : ∀ s ∈ b, leL s.1 r.1 = true) :
    ev2 (fun x y => if zs x y = zs q.1 r.1 then (1 : Int) else 0) a b = r.2 * q.2 := by
  have hit : ∀ x ∈ kyF a, ∀ y ∈ kyF b, (if zs x y = zs q.1 r.1 then (1 : Int) else 0) = if x = q.1 then (if y = r.1 then 1 else 0) else 0 := fun x hx y hy => by
    obtain ⟨s, hs, rfl⟩ := List.mem_map.mp hx
    obtain ⟨t, ht, rfl⟩ := List.mem_map.mp hy
    have lq := (ha q.1 (List.mem_map_of_mem hq)).1
    have ls := (ha s.1 hx).1
    have lr := (hb r.1 (List.mem_map_of_mem hr)).1
    have lt := (hb t.1 hy).1
    by_cases c : zs s.1 t.1 = zs q.1 r.1
    · obtain ⟨e1, e2⟩ := zs_max (ls.trans lq.symm) (lt.trans lr.symm) (ls.trans lt.symm) (mq s hs) (mr t ht) c
      rw [if_pos c, if_pos e1, if_pos e2]
    · rw [if_neg c]
      by_cases e1 : s.1 = q.1
      · rw [if_pos e1, if_neg fun e2 => c (by rw [e1, e2])]
      · rw [if_neg e1]
  have inner : ∀ x ∈ kyF a, evF (fun y => if zs x y = zs q.1 r.1 then (1 : Int) else 0) b = r.2 * (if x = q.1 then 1 else 0) := fun x hx => by
    have e1 : evF (fun y => if zs x y = zs q.1 r.1 then (1 : Int) else 0) b = evF (fun y => if x = q.1 then (if y = r.1 then (1 : Int) else 0) else 0) b := evF_congr fun t ht => hit x hx t.1 (List.mem_map_of_mem ht)
    rw [e1]
    by_cases c : x = q.1
    · have e2 : evF (fun y => if x = q.1 then (if y = r.1 then (1 : Int) else 0) else 0) b = evF (fun y => if y = r.1 then (1 : Int) else 0) b := evF_congr fun t _ => if_pos c
      rw [e2, ev_at nb, if_pos c, Int.mul_one]
      show (getT b r.1).getD 0 = r.2
      rw [getT_nd nb hr]
      rfl
    · have e2 : evF (fun y => if x = q.1 then (if y = r.1 then (1 : Int) else 0) else 0) b = evF (fun _ => 0) b := evF_congr fun t _ => if_neg c
      rw [e2, evF_zero, if_neg c, Int.mul_zero]
  have outer : ev2 (fun x y => if zs x y = zs q.1 r.1 then (1 : Int) else 0) a b = evF (fun x => r.2 * (if x = q.1 then 1 else 0)) a := evF_congr fun s hs => inner s.1 (List.mem_map_of_mem hs)
  rw [outer, evF_mul, ev_at na]
  show r.2 * (getT a q.1).getD 0 = r.2 * q.2
  rw [getT_nd na hq]
  rfl
/-- a product of two tables that hold something holds something -/
theorem mul_full (hp : Num.PrimeI p) (ca : CleanF p a) (cb : CleanF p b) (ha : HomF l d a) (hb : HomF l e b) (fa : a ≠ []) (fb : b ≠ []) (h : ∀ φ, Cg p (evF φ U) (ev2 (fun x y => φ (zs x y)) a b)) : U ≠ [] := by
  intro z
  obtain ⟨q, hq, mq⟩ := top_key fa
  obtain ⟨r, hr, mr⟩ := top_key fb
  have g := h fun k => if k = zs q.1 r.1 then 1 else 0
  rw [z, top_ev ca.nd cb.nd ha hb hq hr mq mr] at g
  have g := g.symm
  refine unit_mul hp (ca.ne q hq) (cb.ne r hr) (fun z => ca.fit z q hq) (fun z => cb.fit z r hr) ?_
  rwa [Cg, show evF (fun k => if k = zs q.1 r.1 then (1 : Int) else 0) [] = 0 from rfl, Int.sub_zero] at g
end
end TD
set_option Elab.async false
set_option linter.all false
set_option maxRecDepth 100000
set_option maxHeartbeats 1100000
namespace K05
open PySem L2 TD PySem.Spec PyProof.Rows
open Evl (Ex ex_l ex_t fresh_back sq_of st_of sz_of sz_lt)
variable [TabW]
/-- an expression that comes to a form of which is told what it is -/
def FE (K : PySem.W.Frag) (Y : Cn) (p : Int) (l d s : Nat) (te : TE) (ρ : Rho) (A : (List Int → Int) → Int) : Prop := ∃ T, EvB K te ρ none (formD Y.cl p l T) none ∧ FormOk p l d s T ∧ ∀ φ, Cg p (evF φ T) (A φ)
section
variable {K : PySem.W.Frag} {Y : Cn} {p : Int} {l d e s r : Nat} {te tf : TE} {ρ : Rho} {A B : (List Int → Int) → Int}
theorem FE.wider (h : FE K Y p l d s te ρ A) (hs : s ≤ r) : FE K Y p l d r te ρ A := by
  obtain ⟨T, h1, h2, h3⟩ := h
  exact ⟨T, h1, h2.wider hs, h3⟩
theorem FE.to (h : FE K Y p l d s te ρ A) (e : ∀ φ, A φ = B φ) : FE K Y p l d s te ρ B := by
  obtain ⟨T, h1, h2, h3⟩ := h
  exact ⟨T, h1, h2, fun φ => e φ ▸ h3 φ⟩
theorem fe_var {i : Nat} {T : CQ} (h : ρ[i]? = some (some (.imm (formD Y.cl p l (descF T))))) (hT : FormOk p l d s T) : FE K Y p l d s (tVar i) ρ fun φ => evF φ T := ⟨descF T, d_var h, hT.desc, ev_desc hT.clean.nd p⟩
theorem fe_add (hp : Num.PrimeI p) (hd : lowD l d) (h5 : 5 ≤ s) (h : FE K Y p l d s te ρ A) (h' : FE K Y p l d s tf ρ B) : FE K Y p l d (s + 1) (tOp (rBinO Y.cl (spR K (R_Form_add Y))) te tf) ρ fun φ => A φ + B φ := by
  obtain ⟨a, h1, h2, h3⟩ := h
  obtain ⟨b, g1, g2, g3⟩ := h'
  have sm := hp.small
  have ok := h2.add sm.1 sm.2 h5 g2
  exact ⟨descF (addT p a b), d_binO h1 g1 ⟨p, l, a, b, rfl, ⟨hp, d, s, h5, hd, h2, g2⟩, rfl, rfl, rfl⟩, ok.desc, fun φ => (ev_desc ok.clean.nd p φ).trans ((ev_add h2.clean.nd φ).trans ((h3 φ).add (g3 φ)))⟩
theorem fe_neg (hp : Num.PrimeI p) (hd : lowD l d) (h5 : 5 ≤ s) (h6 : s ≤ 1000) (h : FE K Y p l d s te ρ A) : FE K Y p l d s (L2.tUn (rNegO Y.cl (spR K (R_Form_neg Y))) te) ρ fun φ => -1 * A φ := by
  obtain ⟨a, h1, h2, h3⟩ := h
  have sm := hp.small
  have ok := h2.sca (r := 0) (t := -1) sm.1 sm.2 h5 (by decide)
  exact ⟨descF (scaT p a (-1)), d_negO h1 ⟨p, l, a, rfl, ⟨hp, d, s, h5, h6, hd, h2⟩, rfl, rfl, rfl⟩, ok.desc, fun φ => (ev_desc ok.clean.nd p φ).trans ((ev_sca φ).trans ((h3 φ).mul (-1)))⟩
theorem fe_sub (hp : Num.PrimeI p) (hd : lowD l d) (h5 : 5 ≤ s) (h6 : s ≤ 1000) (h : FE K Y p l d s te ρ A) (h' : FE K Y p l d s tf ρ B) : FE K Y p l d (s + 1) (tOp (rBinO Y.cl (spR K (R_Form_sub Y))) te tf) ρ fun φ => A φ + -1 * B φ := by
  obtain ⟨a, h1, h2, h3⟩ := h
  obtain ⟨b, g1, g2, g3⟩ := h'
  have sm := hp.small
  have neg := g2.sca (r := 0) (t := -1) sm.1 sm.2 h5 (by decide)
  have ok := h2.add sm.1 sm.2 h5 neg
  exact ⟨descF (addT p a (scaT p b (-1))), d_binO h1 g1 ⟨p, l, a, b, rfl, ⟨hp, d, s, h5, h6, hd, h2, g2⟩, rfl, rfl, rfl⟩, ok.desc, fun φ => (ev_desc ok.clean.nd p φ).trans ((ev_add h2.clean.nd φ).trans ((h3 φ).add ((ev_sca φ).trans ((g3 φ).mul (-1)))))⟩
theorem fe_mul (hp : Num.PrimeI p) (hd : lowD l (d + e)) (hs : s + r ≤ 900) (h : FE K Y p l d s te ρ A) (h' : FE K Y p l e r tf ρ B) : FE K Y p l (d + e) (s + r + 20) (tOp (rBinO Y.cl (spR K (R_Form_mul Y))) te tf) ρ fun φ => A fun x => B fun y => φ (zs x y) := by
  obtain ⟨a, h1, h2, h3⟩ := h
  obtain ⟨b, g1, g2, g3⟩ := h'
  have sm := hp.small
  have ok := h2.mul sm.1 sm.2 g2 (low_of hd (by omega)) (low_of hd (by omega))
  exact ⟨descF (mulT p a b), d_binO h1 g1 ⟨p, l, a, formD Y.cl p l b, rfl, ⟨hp, .inl ⟨b, d, e, s, r, rfl, hd, low_40 hd, hs, h2, g2, rfl⟩⟩, rfl, rfl⟩, ok.desc, fun φ => (ev_desc ok.clean.nd p φ).trans ((ev_mul φ).trans ((ev_cg fun x => g3 _).trans (h3 _)))⟩
theorem fe_times {n : Int} (hp : Num.PrimeI p) (hd : lowD l d) (hs : s + r ≤ 900) (h5 : 5 ≤ s + r) (hn : n.natAbs ≤ 2 ^ r) (hf : Num.fits p (.int n) = true) (h : FE K Y p l d s te ρ A) (h' : EvB K tf ρ none (.int n) none) : FE K Y p l d (s + r) (tOp (rBinI Y.cl (spR K (R_Form_mul Y))) te tf) ρ fun φ => n * A φ := by
  obtain ⟨a, h1, h2, h3⟩ := h
  have sm := hp.small
  have ok := h2.sca (t := n) sm.1 sm.2 h5 hn
  exact ⟨descF (scaT p a n), d_binI h1 h' ⟨p, l, a, .int n, rfl, ⟨hp, .inr ⟨n, d, s, r, rfl, hd, hs, h5, h2, hn, hf, rfl⟩⟩, rfl, rfl⟩, ok.desc, fun φ => (ev_desc ok.clean.nd p φ).trans ((ev_sca φ).trans ((h3 φ).mul n))⟩
/-- == and != of two forms of the same sums -/
theorem fe_eq (hp : Num.PrimeI p) (h : FE K Y p l d s te ρ A) (h' : FE K Y p l e r tf ρ B) (same : ∀ φ, Cg p (A φ) (B φ)) : EvB K (tOp (rEqO K Y.cl (spR K (R_Form_eq Y))) te tf) ρ none (.bool true) none := by
  obtain ⟨a, h1, h2, h3⟩ := h
  obtain ⟨b, g1, g2, g3⟩ := h'
  exact d_eqO h1 g1 (.own _) ⟨p, l, a, b, rfl, by rw [same_tab hp.small.1 h2.clean g2.clean A h3 fun φ => (g3 φ).trans (same φ).symm], rfl, rfl⟩
theorem fe_ne (hp : Num.PrimeI p) (h : FE K Y p l d s te ρ A) (h' : FE K Y p l e r tf ρ B) (same : ∀ φ, Cg p (A φ) (B φ)) : TtB K (tTest (tOp (rNeO K Y.cl (spR K (R_Form_eq Y))) te tf)) ρ none false none := by
  obtain ⟨a, h1, h2, h3⟩ := h
  obtain ⟨b, g1, g2, g3⟩ := h'
  exact t_test (d_neO (c := true) h1 g1 (.own _) ⟨p, l, a, b, rfl, by rw [same_tab hp.small.1 h2.clean g2.clean A h3 fun φ => (g3 φ).trans (same φ).symm], rfl, rfl⟩)
/-- a form's table -/
theorem fe_table (hd : lowD l d) (h : FE K Y p l d s te ρ A) : ∃ U, EvB K (tProp Y.cl (spR K (R_Form_table Y)) [] E0 te) ρ none (dT (cD U)) none ∧ CleanF p U ∧ ∀ φ, Cg p (evF φ U) (A φ) := by
  obtain ⟨a, h1, h2, h3⟩ := h
  exact ⟨ascF a, d_prop h1 ⟨p, l, a, rfl, tab_of h2 hd, rfl, rfl, rfl⟩, h2.clean.asc, fun φ => (ev_asc h2.clean.nd p φ).trans (h3 φ)⟩
theorem fe_tabNe (hp : Num.PrimeI p) (hd : lowD l d) (h : FE K Y p l d s te ρ A) {U : CQ} (hU : EvB K tf ρ none (dT (cD U)) none) (c : CleanF p U) (same : ∀ φ, Cg p (evF φ U) (A φ)) : TtB K (tTest (tOp (rNeDT K) (tProp Y.cl (spR K (R_Form_table Y)) [] E0 te) tf)) ρ none false none := by
  obtain ⟨V, h1, h2, h3⟩ := fe_table hd h
  exact t_test ((d_neDT h1 hU flat_cD flat_cD).to (by rw [same_tab hp.small.1 h2 c A h3 same] <;> rfl))
theorem fe_tabEq (hp : Num.PrimeI p) (hd : lowD l d) (h : FE K Y p l d s te ρ A) {U : CQ} (hU : EvB K tf ρ none (dT (cD U)) none) (c : CleanF p U) (same : ∀ φ, Cg p (evF φ U) (A φ)) : EvB K (tOp (rEqDT K) (tProp Y.cl (spR K (R_Form_table Y)) [] E0 te) tf) ρ none (.bool true) none := by
  obtain ⟨V, h1, h2, h3⟩ := fe_table hd h
  exact (d_eqDT h1 hU flat_cD flat_cD).to (by rw [same_tab hp.small.1 h2 c A h3 same])
/-- a form of no sums is empty -/
theorem fe_nil (hp : Num.PrimeI p) (h : FE K Y p l d s te ρ A) (zero : ∀ φ, Cg p (A φ) 0) : EvB K te ρ none (formD Y.cl p l []) none := by
  obtain ⟨a, h1, h2, h3⟩ := h
  have len := clean_len hp.small.1 h2.clean (.nil p) fun φ => (h3 φ).trans (zero φ)
  cases a with
  | nil => exact h1
  | cons => exact nomatch len
/-- the form of a told table -/
theorem fe_form {i j k : Nat} {T : CQ} (hp : Num.PrimeI p) (hl : l = 2 ∨ l = 3) (hd : lowD l d) (hs : s ≤ 100) (hT : FormOk p l d s T) (hi : ρ[i]? = some (some (.imm (.int p)))) (hj : ρ[j]? = some (some (.imm (.int l)))) (hk : ρ[k]? = some (some (.imm (dT (cD T))))) : EvB K (tCall (spR K (R_law_form Y)) [] E0 (tCons (tVar i) (tCons (tVar j) (tCons (tVar k) tNil)))) ρ none (formD Y.cl p l (descF T)) none :=
  d_call0 (a_con (d_var hi) (a_con (d_var hj) (a_con (d_var hk) a_nil))) ⟨p, l, T, rfl, ⟨hp, hl, .inr ⟨rfl, d, s, hd, hs, hT⟩⟩, rfl, rfl, rfl⟩
theorem fsum_ev {f : Int} {ta tb tc td : TE} {a b : CQ} (hp : Num.PrimeI p) (hd : lowD l d) (ha : FormOk p l d s a) (hb : FormOk p l d r b) (hr : r ≤ 900) (hf : f.natAbs < 2 ^ 50) (e1 : EvB K ta ρ none (.int p) none) (e2 : EvB K tb ρ none (dT (cD a)) none) (e3 : EvB K tc ρ none (dT (cD b)) none) (e4 : EvB K td ρ none (.int f) none) : EvB K (tCall (spR K R_law_fsum) [] E0 (tCons ta (tCons tb (tCons tc (tCons td tNil))))) ρ none (dT (cD (fsumT p f a b))) none :=
  d_call0 (a_con e1 (a_con e2 (a_con e3 (a_con e4 a_nil)))) ⟨p, f, a, b, rfl, ⟨hp.small.1, ha.clean.nd, hb.clean.nd, ⟨l, d, hd, ha.hom, hb.hom⟩, fun q hq => mulW hf (co_lt hb q hq) (by omega)⟩, rfl, rfl, rfl⟩
end
theorem t_or0 {K : PySem.W.Frag} {ρ : Rho} {tt tu : TT} (h : TtB K tt ρ none false none) (h' : TtB K tu ρ none false none) : TtB K (tOr tt tu) ρ none false none := t_orF h h'
theorem d_and0 {K : PySem.W.Frag} {ρ : Rho} {ta tb : TE} (h : EvB K ta ρ none (.bool true) none) (h' : EvB K tb ρ none (.bool true) none) : EvB K (tAndV ta tb) ρ none (.bool true) none := d_andT h h'
theorem cg_zero {p : Int} (x : Int) : Cg p (x + -1 * x) 0 := Cg.of (by omega)
abbrev s_law_sums_right : Stmt := top 72
theorem sc_law_sums_right : FnScope ["_law_prime_here", "_law_letters", "_law_one", "_law_other", "_law_first", "_law_second", "_law_zero"] ["_law_prime_here", "_law_letters", "_law_one", "_law_other"] (defScope s_law_sums_right) := ⟨rfl, rfl, rfl, by decide +kernel, rfl, by decide +kernel, by decide +kernel⟩
abbrev R_law_sums_right (Y : Cn) : FR := fun as β r β' => ∃ p l a b, as = [.imm (.int p), .imm (.int (l : Nat)), .imm (dT (cD a)), .imm (dT (cD b))] ∧ (Num.PrimeI p ∧ ∃ d, lowD l d ∧ FormOk p l d 31 a ∧ FormOk p l d 31 b) ∧ r = .bool true ∧ β = none ∧ β' = none
theorem ok_law_sums_right {P : Program} {w : World} {K : PySem.W.Frag} {mg : Str → Option Value} {base : Heap} {Y : Cn} (F : DefAt K "_law_sums_right" s_law_sums_right) (hX : K.In base) (hG : base.Ns mainGlobals mg) (T : Txt K mg Y) (G_Form_init : FnID P w K mg base 6 "Form" Y.cl ["self", "prime", "letters", "table"] (R_Form_init Y)) (G_law_form : FnG P w K mg base 8 "_law_form" ["_law_prime_here", "_law_letters", "_law_table"] (R_law_form Y)) (G_Form_table : FnP P w K mg base 1 Y.cl "table" (R_Form_table Y)) (G_law_fsum : FnG P w K mg base 2 "_law_fsum" ["_law_prime_here", "_law_one", "_law_other", "_law_factor"] R_law_fsum) (G_Form_add : FnM P w K mg base 9 Y.cl "__add__" ["self", "other"] (R_Form_add Y)) (G_Form_sub : FnM P w K mg base 9 Y.cl "__sub__" ["self", "other"] (R_Form_sub Y)) (G_Form_degree : FnP P w K mg base 2 Y.cl "degree" (R_Form_degree Y)) (G_Form_eq : FnM P w K mg base 1 Y.cl "__eq__" ["self", "other"] (R_Form_eq Y)) (G_Form_neg : FnM P w K mg base 9 Y.cl "__neg__" ["self"] (R_Form_neg Y)) (G_Form_bool : FnM P w K mg base 1 Y.cl "__bool__" ["self"] (R_Form_bool Y)) : FnG P w K mg base 13 "_law_sums_right" ["_law_prime_here", "_law_letters", "_law_one", "_law_other"] (R_law_sums_right Y) := by
  have nd := sc_law_sums_right.nd
  refine fn_mk F hX hG sc_law_sums_right (fun as β r β' h => by first | exact FR.len h | (obtain ⟨_, rfl, _⟩ := h; rfl) | (obtain ⟨_, _, rfl, _⟩ := h; rfl) | (obtain ⟨_, _, _, rfl, _⟩ := h; rfl) | (obtain ⟨_, _, _, _, rfl, _⟩ := h; rfl) | (obtain ⟨_, _, _, _, _, rfl, _⟩ := h; rfl)) (fun _ _ _ _ _ _ _ us hl => match us, hl with | [_, _, _, _], _ => rfl) (fun f cdv A outer s H E hr => ⟨_, (pss_cons (ps_par (i := 4) (j := 5) rfl nd rfl rfl (by decide) rfl rfl (pa_cons (pe_fn G_law_form (hr.mono (by decide)) (pa_cons (pv 0) (pa_cons (pv 1) (pa_cons (pv 2) pa_nil)))) (pa_cons (pe_fn G_law_form (hr.mono (by decide)) (pa_cons (pv 0) (pa_cons (pv 1) (pa_cons (pv 3) pa_nil)))) pa_nil)) (by rfl)) (pss_cons (ps_if (PW.pt (pw_or (pt_cmpR (op_neDT hr) (pe_p G_Form_table (hr.mono (by decide)) (pe_op (op_binO G_Form_add (hr.mono (by decide)) T.sf) (pv 4) (pv 5))) (pe_fn G_law_fsum (hr.mono (by decide)) (pa_cons (pv 0) (pa_cons (pv 2) (pa_cons (pv 3) (pa_cons pe_int pa_nil))))) (nomark _)) (pw_or1 (pt_cmpR (op_neO G_Form_eq (hr.mono (by decide)) T.nx) (pe_op (op_binO G_Form_add (hr.mono (by decide)) T.sf) (pv 4) (pv 5)) (pe_op (op_binO G_Form_add (hr.mono (by decide)) T.sf) (pv 5) (pv 4)) (nomark _))))) (pss_one (ps_ret pe_bl)) pss_nil) (pss_cons (ps_if (PW.pt (pw_or (pt_cmpR (op_neDT hr) (pe_p G_Form_table (hr.mono (by decide)) (pe_op (op_binO G_Form_sub (hr.mono (by decide)) T.sf) (pv 4) (pv 5))) (pe_fn G_law_fsum (hr.mono (by decide)) (pa_cons (pv 0) (pa_cons (pv 2) (pa_cons (pv 3) (pa_cons (pe_un un_neg pe_int) pa_nil))))) (nomark _)) (pw_or1 (pt_cmpR (op_neO G_Form_eq (hr.mono (by decide)) T.nx) (pe_op (op_binO G_Form_sub (hr.mono (by decide)) T.sf) (pv 4) (pv 5)) (pe_un (un_negO G_Form_neg (hr.mono (by decide))) (pe_op (op_binO G_Form_sub (hr.mono (by decide)) T.sf) (pv 5) (pv 4))) (nomark _))))) (pss_one (ps_ret pe_bl)) pss_nil) (pss_cons (ps_set (i := 6) nd rfl (Or.inl rfl) (pe_newB (E := E0) G_Form_init (hr.mono (by decide)) passL (pa_cons (pv 0) (pa_cons (pv 1) pa_nil)))) (pss_cons (ps_if (PW.pt (pw_or (pt_cmpR (op_neO G_Form_eq (hr.mono (by decide)) T.nx) (pe_op (op_binO G_Form_sub (hr.mono (by decide)) T.sf) (pv 4) (pv 4)) (pv 6) (nomark _)) (pw_or (pt_val (pe_callTy (cr_boolO G_Form_bool (hr.mono (by decide))) (by rfl) T.z_bool bo_bool (pa_cons (pe_op (op_binO G_Form_sub (hr.mono (by decide)) T.sf) (pv 4) (pv 4)) pa_nil))) (pw_or (pt_cmpR op_notN (pe_p G_Form_degree (hr.mono (by decide)) (pe_op (op_binO G_Form_sub (hr.mono (by decide)) T.sf) (pv 4) (pv 4))) pe_non (nomark _)) (pw_or1 (pt_cmpR (op_neO G_Form_eq (hr.mono (by decide)) T.nx) (pe_op (op_binO G_Form_add (hr.mono (by decide)) T.sf) (pv 4) (pv 6)) (pv 4) (nomark _))))))) (pss_one (ps_ret pe_bl)) pss_nil) (pss_cons (ps_if (PW.pt (pw_or (pt_cmpR (op_neO G_Form_eq (hr.mono (by decide)) T.nx) (pe_op (op_binO G_Form_sub (hr.mono (by decide)) T.sf) (pv 6) (pv 4)) (pe_un (un_negO G_Form_neg (hr.mono (by decide))) (pv 4)) (nomark _)) (pw_or (pt_cmpR (op_neO G_Form_eq (hr.mono (by decide)) T.nx) (pe_un (un_negO G_Form_neg (hr.mono (by decide))) (pe_un (un_negO G_Form_neg (hr.mono (by decide))) (pv 4))) (pv 4) (nomark _)) (pw_or1 (pt_cmpR (op_neDT hr) (pe_p G_Form_table (hr.mono (by decide)) (pe_un (un_negO G_Form_neg (hr.mono (by decide))) (pv 4))) (pe_fn G_law_fsum (hr.mono (by decide)) (pa_cons (pv 0) (pa_cons pe_dnewT (pa_cons (pv 2) (pa_cons (pe_un un_neg pe_int) pa_nil))))) (nomark _)))))) (pss_one (ps_ret pe_bl)) pss_nil) (pss_one (ps_ret (pe_and (pe_cmpR (op_eqDT hr) (pe_p G_Form_table (hr.mono (by decide)) (pv 4)) (pv 2) (nomark _)) (pe_one (pe_cmpR (op_eqDT hr) (pe_p G_Form_table (hr.mono (by decide)) (pv 5)) (pv 3) (nomark _)))))))))))), fun as β r β' hR => ?_⟩)
  obtain ⟨p, l, a, b, rfl, ⟨hp, d, hd, ha, hb⟩, rfl, rfl, rfl⟩ := hR
  try dsimp only [cxOf, Cx.nox, Cx.wish]
  have l23 := hd.l
  have h5 : 5 ≤ 31 := by decide
  have z0 : FormOk p l d 31 [] := .nil
  have fa : ∀ ρ : Rho, ρ[4]? = some (some (.imm (formD Y.cl p l (descF a)))) → FE K Y p l d 31 (tVar 4) ρ fun φ => evF φ a := fun ρ h => fe_var h ha
  have fb : ∀ ρ : Rho, ρ[5]? = some (some (.imm (formD Y.cl p l (descF b)))) → FE K Y p l d 31 (tVar 5) ρ fun φ => evF φ b := fun ρ h => fe_var h hb
  have fz : ∀ ρ : Rho, ρ[6]? = some (some (.imm (formD Y.cl p l (descF [])))) → FE K Y p l d 31 (tVar 6) ρ fun φ => evF φ [] := fun ρ h => fe_var h z0
  have f1 : EvB K (tMake Y.cl (spI K Y.cl (R_Form_init Y)) [V.non] E0 (tCons (tVar 0) (tCons (tVar 1) tNil))) [some (.imm (.int p)), some (.imm (.int l)), some (.imm (dT (cD a))), some (.imm (dT (cD b))), some (.imm (formD Y.cl p l (descF a))), some (.imm (formD Y.cl p l (descF b))), none] none (formD Y.cl p l (descF [])) none := x_newB (a_con (d_var rfl) (a_con (d_var rfl) a_nil)) ⟨p, l, .none, [], rfl, ⟨hp, l23, .inl ⟨rfl, rfl⟩⟩, rfl, rfl, rfl⟩
  have A := fa
  refine .ret (st_sq (st_par (fe_form hp l23 hd (by decide) ha rfl rfl rfl) (fe_form hp l23 hd (by decide) hb rfl rfl rfl)) (st_sq (st_ifF (t_or0 ?t1 ?t2) st_next) (st_sq (st_ifF (t_or0 ?t3 ?t4) st_next) (st_sq (st_asg f1) (st_sq (st_ifF (t_or0 ?t5 (t_or0 ?t6 (t_or0 ?t7 ?t8))) st_next) (st_sq (st_ifF (t_or0 ?t9 (t_or0 ?t10 ?t11)) st_next) (st_ret (d_and0 ?t12 ?t13))))))))
  case t1 => exact fe_tabNe hp hd (fe_add hp hd h5 (fa _ rfl) (fb _ rfl)) (fsum_ev hp hd ha hb (by decide) (by decide) (d_var rfl) (d_var rfl) (d_var rfl) d_int) (fsum_clean hp.small.1 ha.clean) fun φ => (ev_fsum ha.clean.nd φ).trans (Cg.of (by rw [Int.one_mul]))
  case t2 => exact fe_ne hp (fe_add hp hd h5 (fa _ rfl) (fb _ rfl)) (fe_add hp hd h5 (fb _ rfl) (fa _ rfl)) fun φ => Cg.of (Int.add_comm _ _)
  case t3 => exact fe_tabNe hp hd (fe_sub hp hd h5 (by decide) (fa _ rfl) (fb _ rfl)) (fsum_ev hp hd ha hb (by decide) (by decide) (d_var rfl) (d_var rfl) (d_var rfl) (d_neg d_int)) (fsum_clean hp.small.1 ha.clean) fun φ => ev_fsum ha.clean.nd φ
  case t4 => exact fe_ne hp (fe_sub hp hd h5 (by decide) (fa _ rfl) (fb _ rfl)) (fe_neg hp hd (by decide) (by decide) (fe_sub hp hd h5 (by decide) (fb _ rfl) (fa _ rfl))) fun φ => Cg.of (by omega)
  case t5 => exact fe_ne hp (fe_sub hp hd h5 (by decide) (fa _ rfl) (fa _ rfl)) (fz _ rfl) fun φ => cg_zero _
  case t6 => exact (t_B (d_boolO (c := false) (fe_nil hp (fe_sub hp hd h5 (by decide) (fa _ rfl) (fa _ rfl)) fun φ => cg_zero _) ⟨p, l, [], rfl, rfl, rfl, rfl⟩))
  case t7 => exact t_test (d_notN0 (d_prop (fe_nil hp (fe_sub hp hd h5 (by decide) (fa _ rfl) (fa _ rfl)) fun φ => cg_zero _) ⟨p, l, [], rfl, rfl, rfl, rfl⟩))
  case t8 => exact fe_ne hp (fe_add hp hd h5 (fa _ rfl) (fz _ rfl)) (fa _ rfl) fun φ => Cg.of (by show evF φ a + 0 = evF φ a; omega)
  case t9 => exact fe_ne hp (fe_sub hp hd h5 (by decide) (fz _ rfl) (fa _ rfl)) (fe_neg hp hd h5 (by decide) (fa _ rfl)) fun φ => Cg.of (by show 0 + -1 * evF φ a = _; omega)
  case t10 => exact fe_ne hp (fe_neg hp hd h5 (by decide) (fe_neg hp hd h5 (by decide) (fa _ rfl))) (fa _ rfl) fun φ => Cg.of (by omega)
  case t11 => exact fe_tabNe hp hd (fe_neg hp hd h5 (by decide) (fa _ rfl)) (fsum_ev (a := []) hp hd z0 ha (by decide) (by decide) (d_var rfl) d_newT (d_var rfl) (d_neg d_int)) (fsum_clean hp.small.1 z0.clean) fun φ => (ev_fsum z0.clean.nd φ).trans (Cg.of (by show 0 + -1 * evF φ a = _; omega))
  case t12 => exact fe_tabEq hp hd (fa _ rfl) (d_var rfl) ha.clean fun φ => Cg.refl p _
  case t13 => exact fe_tabEq hp hd (fb _ rfl) (d_var rfl) hb.clean fun φ => Cg.refl p _
theorem fits_small {p : Int} (hp : Num.PrimeI p) : Num.fits p (.int 1) = true ∧ Num.fits p (.int 0) = true := by
  rcases hp with rfl | h
  · exact ⟨rfl, rfl⟩
  · have : ∀ p ∈ Num.primes, Num.fits p (.int 1) = true ∧ Num.fits p (.int 0) = true := by decide
    exact this p h
theorem deg_of {p : Int} {l d s : Nat} {T : CQ} (h : FormOk p l d s T) (ne : T ≠ []) : degF T = .int d := by
  cases T with
  | nil => exact absurd rfl ne
  | cons q T =>
    show PyData.int q.1.sum = .int d
    rw [(h.hom q.1 List.mem_cons_self).2.2]
theorem ne_nil (a : CQ) : (!((cD a).length == (cD []).length && eqT (cD a) (cD []))) = !a.isEmpty := by
  cases a <;> rfl
theorem zero_of {p : Int} (hp : Num.PrimeI p) {T : CQ} (c : CleanF p T) (h : ∀ φ, Cg p (evF φ T) 0) : T = [] := by
  have len := clean_len hp.small.1 c (.nil p) h
  cases T with
  | nil => rfl
  | cons => exact nomatch len
theorem ne_desc {T : CQ} (nd : (kyF T).Nodup) (h : T ≠ []) : descF T ≠ [] := fun z => h (by
  have := (desc_perm nd).length_eq
  rw [z] at this
  cases T with
  | nil => rfl
  | cons => exact nomatch this)
abbrev s_law_products_right : Stmt := top 73
theorem sc_law_products_right : FnScope ["_law_prime_here", "_law_letters", "_law_one", "_law_other", "_law_number_here", "_law_first", "_law_second", "_law_both"] ["_law_prime_here", "_law_letters", "_law_one", "_law_other", "_law_number_here"] (defScope s_law_products_right) := ⟨rfl, rfl, rfl, by decide +kernel, rfl, by decide +kernel, by decide +kernel⟩
abbrev R_law_products_right (Y : Cn) : FR := fun as β r β' => ∃ p l a b n, as = [.imm (.int p), .imm (.int (l : Nat)), .imm (dT (cD a)), .imm (dT (cD b)), .imm (.int n)] ∧ (Num.PrimeI p ∧ n.natAbs ≤ 2 ^ 41 ∧ Num.fits p (.int n) = true ∧ ∃ d e, lowD l (d + e) ∧ FormOk p l d 31 a ∧ FormOk p l e 31 b) ∧ r = .bool true ∧ β = none ∧ β' = none
theorem ok_law_products_right {P : Program} {w : World} {K : PySem.W.Frag} {mg : Str → Option Value} {base : Heap} {Y : Cn} (F : DefAt K "_law_products_right" s_law_products_right) (hX : K.In base) (hG : base.Ns mainGlobals mg) (T : Txt K mg Y) (G_Form_mul : FnM P w K mg base 9 Y.cl "__mul__" ["self", "other"] (R_Form_mul Y)) (G_law_form : FnG P w K mg base 8 "_law_form" ["_law_prime_here", "_law_letters", "_law_table"] (R_law_form Y)) (G_Form_table : FnP P w K mg base 1 Y.cl "table" (R_Form_table Y)) (G_law_fproduct : FnG P w K mg base 2 "_law_fproduct" ["_law_prime_here", "_law_one", "_law_other"] R_law_fproduct) (G_law_fsum : FnG P w K mg base 2 "_law_fsum" ["_law_prime_here", "_law_one", "_law_other", "_law_factor"] R_law_fsum) (G_Form_degree : FnP P w K mg base 2 Y.cl "degree" (R_Form_degree Y)) (G_Form_eq : FnM P w K mg base 1 Y.cl "__eq__" ["self", "other"] (R_Form_eq Y)) (G_Form_bool : FnM P w K mg base 1 Y.cl "__bool__" ["self"] (R_Form_bool Y)) : FnG P w K mg base 10 "_law_products_right" ["_law_prime_here", "_law_letters", "_law_one", "_law_other", "_law_number_here"] (R_law_products_right Y) := by
  have nd := sc_law_products_right.nd
  refine fn_mk F hX hG sc_law_products_right (fun as β r β' h => by first | exact FR.len h | (obtain ⟨_, rfl, _⟩ := h; rfl) | (obtain ⟨_, _, rfl, _⟩ := h; rfl) | (obtain ⟨_, _, _, rfl, _⟩ := h; rfl) | (obtain ⟨_, _, _, _, rfl, _⟩ := h; rfl) | (obtain ⟨_, _, _, _, _, rfl, _⟩ := h; rfl)) (fun _ _ _ _ _ _ _ us hl => match us, hl with | [_, _, _, _, _], _ => rfl) (fun f cdv A outer s H E hr => ⟨_, (pss_cons (ps_par (i := 5) (j := 6) rfl nd rfl rfl (by decide) rfl rfl (pa_cons (pe_fn G_law_form (hr.mono (by decide)) (pa_cons (pv 0) (pa_cons (pv 1) (pa_cons (pv 2) pa_nil)))) (pa_cons (pe_fn G_law_form (hr.mono (by decide)) (pa_cons (pv 0) (pa_cons (pv 1) (pa_cons (pv 3) pa_nil)))) pa_nil)) (by rfl)) (pss_cons (ps_set (i := 7) nd rfl (Or.inl rfl) (pe_op (op_binO G_Form_mul (hr.mono (by decide)) T.sf) (pv 5) (pv 6))) (pss_cons (ps_if (PW.pt (pw_or (pt_cmpR (op_neDT hr) (pe_p G_Form_table (hr.mono (by decide)) (pv 7)) (pe_fn G_law_fproduct (hr.mono (by decide)) (pa_cons (pv 0) (pa_cons (pv 2) (pa_cons (pv 3) pa_nil)))) (nomark _)) (pw_or1 (pt_cmpR (op_neO G_Form_eq (hr.mono (by decide)) T.nx) (pv 7) (pe_op (op_binO G_Form_mul (hr.mono (by decide)) T.sf) (pv 6) (pv 5)) (nomark _))))) (pss_one (ps_ret pe_bl)) pss_nil) (pss_cons (ps_if (PW.pt (pw_or (pt_cmpR op_ne (pe_callTy (cr_boolO G_Form_bool (hr.mono (by decide))) (by rfl) T.z_bool bo_bool (pa_cons (pv 7) pa_nil)) (pe_and (pe_cmpR (op_neDT hr) (pv 2) pe_dnewT (nomark _)) (pe_one (pe_cmpR (op_neDT hr) (pv 3) pe_dnewT (nomark _)))) (nomark _)) (pw_or1 (PW.pt (pw_and (pt_truthR (pv 7) (tru_own G_Form_bool (hr.mono (by decide))) (fun _ => rfl)) (pw_and1 (pt_cmpR op_ne (pe_p G_Form_degree (hr.mono (by decide)) (pv 7)) (pe_op op_add (pe_p G_Form_degree (hr.mono (by decide)) (pv 5)) (pe_p G_Form_degree (hr.mono (by decide)) (pv 6))) (nomark _)))))))) (pss_one (ps_ret pe_bl)) pss_nil) (pss_cons (ps_if (PW.pt (pw_or (pt_cmpR (op_neDT hr) (pe_p G_Form_table (hr.mono (by decide)) (pe_op (op_binI G_Form_mul (hr.mono (by decide)) T.sf T.im) (pv 5) (pv 4))) (pe_fn G_law_fsum (hr.mono (by decide)) (pa_cons (pv 0) (pa_cons pe_dnewT (pa_cons (pv 2) (pa_cons (pv 4) pa_nil))))) (nomark _)) (pw_or (pt_cmpR (op_neO G_Form_eq (hr.mono (by decide)) T.nx) (pe_op (op_binI G_Form_mul (hr.mono (by decide)) T.sf T.im) (pv 5) pe_int) (pv 5) (nomark _)) (pw_or1 (pt_val (pe_callTy (cr_boolO G_Form_bool (hr.mono (by decide))) (by rfl) T.z_bool bo_bool (pa_cons (pe_op (op_binI G_Form_mul (hr.mono (by decide)) T.sf T.im) (pv 5) pe_int) pa_nil))))))) (pss_one (ps_ret pe_bl)) pss_nil) (pss_one (ps_ret (pe_and (pe_cmpR (op_eqO G_Form_eq (hr.mono (by decide))) (pe_op (op_binO G_Form_mul (hr.mono (by decide)) T.sf) (pe_op (op_binI G_Form_mul (hr.mono (by decide)) T.sf T.im) (pv 5) (pv 4)) (pv 6)) (pe_op (op_binO G_Form_mul (hr.mono (by decide)) T.sf) (pe_op (op_binI G_Form_mul (hr.mono (by decide)) T.sf T.im) (pv 6) (pv 4)) (pv 5)) (nomark _)) (pe_one (pe_cmpR (op_eqDT hr) (pe_p G_Form_table (hr.mono (by decide)) (pv 5)) (pv 2) (nomark _))))))))))), fun as β r β' hR => ?_⟩)
  obtain ⟨p, l, a, b, n, rfl, ⟨hp, hn, hf, d, e, hd, ha, hb⟩, rfl, rfl, rfl⟩ := hR
  try dsimp only [cxOf, Cx.nox, Cx.wish]
  have l23 := hd.l
  have sm := hp.small
  have h5 : 5 ≤ 31 := by decide
  have ld : lowD l d := low_of hd (by omega)
  have le : lowD l e := low_of hd (by omega)
  have z0 : FormOk p l d 31 [] := .nil
  have fa : ∀ ρ : Rho, ρ[5]? = some (some (.imm (formD Y.cl p l (descF a)))) → FE K Y p l d 31 (tVar 5) ρ fun φ => evF φ a := fun ρ h => fe_var h ha
  have fb : ∀ ρ : Rho, ρ[6]? = some (some (.imm (formD Y.cl p l (descF b)))) → FE K Y p l e 31 (tVar 6) ρ fun φ => evF φ b := fun ρ h => fe_var h hb
  obtain ⟨M, eM, okM, evM⟩ := fe_mul (tf := tVar 6) hp hd (by decide) (fa [some (.imm (.int p)), some (.imm (.int l)), some (.imm (dT (cD a))), some (.imm (dT (cD b))), some (.imm (.int n)), some (.imm (formD Y.cl p l (descF a))), some (.imm (formD Y.cl p l (descF b))), none] rfl) (fb _ rfl)
  have fm : ∀ ρ : Rho, ρ[7]? = some (some (.imm (formD Y.cl p l M))) → FE K Y p l (d + e) (31 + 31 + 20) (tVar 7) ρ fun φ => ev2 (fun x y => φ (zs x y)) a b := fun ρ h => ⟨M, d_var h, okM, evM⟩
  have swap : ∀ φ : List Int → Int, ev2 (fun x y => φ (zs x y)) a b = evF (fun x => evF (fun y => φ (zs x y)) a) b := fun φ => by
    rw [ev2, evF_swap]
    refine evF_congr fun q _ => evF_congr fun r _ => ?_
    rw [zs_comm]
  have full : a ≠ [] → b ≠ [] → M ≠ [] := fun na nb => mul_full hp ha.clean hb.clean ha.hom hb.hom na nb evM
  have empty : a = [] ∨ b = [] → M = [] := fun h => zero_of hp okM.clean fun φ => (evM φ).trans (Cg.of (by
    rcases h with rfl | rfl
    · rfl
    · exact evF_zero a))
  have both : (!(cD M).isEmpty) = (!a.isEmpty && !b.isEmpty) := by
    by_cases na : a = []
    · rw [empty (.inl na), na]
      rfl
    · by_cases nb : b = []
      · rw [empty (.inr nb), nb]
        cases a <;> rfl
      · have nm := full na nb
        cases a with
        | nil => exact absurd rfl na
        | cons =>
          cases b with
          | nil => exact absurd rfl nb
          | cons =>
            cases M with
            | nil => exact absurd rfl nm
            | cons => rfl
  refine .ret (st_sq (st_par (fe_form hp l23 ld (by decide) ha rfl rfl rfl) (fe_form hp l23 le (by decide) hb rfl rfl rfl)) (st_sq (st_asg eM) (st_sq (st_ifF (t_or0 ?t1 ?t2) st_next) (st_sq (st_ifF (t_or0 ?t3 ?t4) st_next) (st_sq (st_ifF (t_or0 ?t5 (t_or0 ?t6 ?t7)) st_next) (st_ret (d_and0 ?t8 ?t9)))))))
  case t1 => exact fe_tabNe hp hd (fm _ rfl) (d_call0 (a_con (d_var rfl) (a_con (d_var rfl) (a_con (d_var rfl) a_nil))) ⟨p, l, a, b, rfl, ⟨sm.1, mul_ok hd ha hb (by decide)⟩, rfl, rfl, rfl⟩) (fmul_clean sm.1) fun φ => ev_fmul φ
  case t2 => exact fe_ne hp (fm _ rfl) (fe_mul hp (by rwa [Nat.add_comm]) (by decide) (fb _ rfl) (fa _ rfl)) fun φ => Cg.of (swap φ)
  case t3 =>
    have one : ∀ {i : Nat} {T : CQ} {ρ : Rho}, ρ[i]? = some (some (.imm (dT (cD T)))) → EvB K (tOp (rNeDT K) (tVar i) tDNewT) ρ none (.bool (!T.isEmpty)) none := fun {i T ρ} h => (d_neDT (qs := []) (d_var h) d_newT flat_cD (fun _ z => nomatch z)).to (congrArg PyData.bool (ne_nil T))
    exact (t_test (d_neB (d_boolO (c := !(cD M).isEmpty) (d_var rfl) ⟨p, l, M, rfl, rfl, rfl, rfl⟩) (d_and (one rfl) fun _ => one rfl))).to (by rw [both, decide_eq_true rfl] <;> rfl)
  case t4 =>
    by_cases nm : M = []
    · refine t_andF ((t_truO (d_var rfl) ⟨p, l, M, rfl, rfl, rfl, rfl⟩).to ?_)
      rw [nm]
      rfl
    · have na : a ≠ [] := fun z => nm (empty (.inl z))
      have nb : b ≠ [] := fun z => nm (empty (.inr z))
      have tr : (!(cD M).isEmpty) = true := by
        cases M with
        | nil => exact absurd rfl nm
        | cons => rfl
      exact t_andT ((t_truO (d_var rfl) ⟨p, l, M, rfl, rfl, rfl, rfl⟩).to tr) ((t_test (d_neI (i := ((d + e : Nat) : Int)) (j := (d : Int) + (e : Int)) (d_prop (d_var rfl) ⟨p, l, M, rfl, (deg_of okM nm).symm, rfl, rfl⟩) (d_add (d_prop (d_var rfl) ⟨p, l, descF a, rfl, (deg_of ha.desc (ne_desc ha.clean.nd na)).symm, rfl, rfl⟩) (d_prop (d_var rfl) ⟨p, l, descF b, rfl, (deg_of hb.desc (ne_desc hb.clean.nd nb)).symm, rfl, rfl⟩)))).to (by rw [decide_eq_true (Int.natCast_add d e)] <;> rfl))
  case t5 => exact fe_tabNe hp ld (fe_times (r := 41) hp ld (by decide) (by decide) hn hf (fa _ rfl) (d_var rfl)) (fsum_ev (a := []) hp ld z0 ha (by decide) (by omega) (d_var rfl) d_newT (d_var rfl) (d_var rfl)) (fsum_clean sm.1 z0.clean) fun φ => (ev_fsum z0.clean.nd φ).trans (Cg.of (by show 0 + n * evF φ a = _; omega))
  case t6 => exact fe_ne hp (fe_times (r := 0) hp ld (by decide) (by decide) (by decide) (fits_small hp).1 (fa _ rfl) d_int) (fa _ rfl) fun φ => Cg.of (Int.one_mul _)
  case t7 => exact t_B (d_boolO (c := false) (fe_nil hp (fe_times (r := 0) hp ld (by decide) (by decide) (by decide) (fits_small hp).2 (fa _ rfl) d_int) fun φ => Cg.of (Int.zero_mul _)) ⟨p, l, [], rfl, rfl, rfl, rfl⟩)
  case t8 =>
    refine fe_eq hp (fe_mul hp hd (by decide) (fe_times (r := 41) hp ld (by decide) (by decide) hn hf (fa _ rfl) (d_var rfl)) (fb _ rfl)) (fe_mul hp (by rwa [Nat.add_comm]) (by decide) (fe_times (r := 41) hp le (by decide) (by decide) hn hf (fb _ rfl) (d_var rfl)) (fa _ rfl)) fun φ => Cg.of ?_
    show n * ev2 (fun x y => φ (zs x y)) a b = n * evF (fun x => evF (fun y => φ (zs x y)) a) b
    rw [swap]
  case t9 => exact fe_tabEq hp ld (fa _ rfl) (d_var rfl) ha.clean fun φ => Cg.refl p _
abbrev s_law_rules_right : Stmt := top 74
theorem sc_law_rules_right : FnScope ["_law_prime_here", "_law_letters", "_law_tables", "_law_far", "_law_one", "_law_two", "_law_three", "_law_table", "_law_other"] ["_law_prime_here", "_law_letters", "_law_tables", "_law_far"] (defScope s_law_rules_right) := ⟨rfl, rfl, rfl, by decide +kernel, rfl, by decide +kernel, by decide +kernel⟩
abbrev R_law_rules_right (Y : Cn) : FR := fun as β r β' => ∃ (p : Int) (l : Nat) (ts : List CQ) (f : CQ), as = [.imm (.int p), .imm (.int (l : Nat)), .imm (.list (ts.map fun T => dT (cD T))), .imm (dT (cD f))] ∧ (Num.PrimeI p ∧ ts.length = 3 ∧ ∃ d e, lowD l (d + d + e) ∧ (∀ T ∈ ts, FormOk p l d 31 T) ∧ FormOk p l e 31 f) ∧ r = .bool true ∧ β = none ∧ β' = none
theorem ok_law_rules_right {P : Program} {w : World} {K : PySem.W.Frag} {mg : Str → Option Value} {base : Heap} {Y : Cn} (F : DefAt K "_law_rules_right" s_law_rules_right) (hX : K.In base) (hG : base.Ns mainGlobals mg) (T : Txt K mg Y) (G_law_form : FnG P w K mg base 8 "_law_form" ["_law_prime_here", "_law_letters", "_law_table"] (R_law_form Y)) (G_Form_mul : FnM P w K mg base 9 Y.cl "__mul__" ["self", "other"] (R_Form_mul Y)) (G_Form_sub : FnM P w K mg base 9 Y.cl "__sub__" ["self", "other"] (R_Form_sub Y)) (G_Form_add : FnM P w K mg base 9 Y.cl "__add__" ["self", "other"] (R_Form_add Y)) (G_Form_eq : FnM P w K mg base 1 Y.cl "__eq__" ["self", "other"] (R_Form_eq Y)) : FnG P w K mg base 10 "_law_rules_right" ["_law_prime_here", "_law_letters", "_law_tables", "_law_far"] (R_law_rules_right Y) := by
  have nd := sc_law_rules_right.nd
  refine fn_mk F hX hG sc_law_rules_right (fun as β r β' h => by first | exact FR.len h | (obtain ⟨_, rfl, _⟩ := h; rfl) | (obtain ⟨_, _, rfl, _⟩ := h; rfl) | (obtain ⟨_, _, _, rfl, _⟩ := h; rfl) | (obtain ⟨_, _, _, _, rfl, _⟩ := h; rfl) | (obtain ⟨_, _, _, _, _, rfl, _⟩ := h; rfl)) (fun _ _ _ _ _ _ _ us hl => match us, hl with | [_, _, _, _], _ => rfl) (fun f cdv A outer s H E hr => ⟨_, (pss_cons (ps_asg (pe_lc (own := [("_law_table", 7)]) rfl nd (pi_list (pv 2)) (blkOk_by (N := ["_law_prime_here", "_law_letters", "_law_tables", "_law_far", "_law_one", "_law_two", "_law_three", "_law_table", "_law_other"]) (sc := defScope s_law_rules_right) (by decide +kernel)) (fun _ _ _ _ _ => by exact (pg_name (i := 7) nd rfl (Or.inl rfl))) (fun _ _ _ _ _ => by exact pts_nil) (fun _ _ _ _ _ => by exact (pe_fn G_law_form (hr.mono (by decide)) (pa_cons (pv 0) (pa_cons (pv 1) (pa_cons (pv 7) pa_nil)))))) (pg_unl rfl (pgs_cons (pg_name (i := 4) nd rfl (Or.inl rfl)) (pgs_cons (pg_name (i := 5) nd rfl (Or.inl rfl)) (pgs_cons (pg_name (i := 6) nd rfl (Or.inl rfl)) pgs_nil))))) (pss_cons (ps_set (i := 8) nd rfl (Or.inl rfl) (pe_fn G_law_form (hr.mono (by decide)) (pa_cons (pv 0) (pa_cons (pv 1) (pa_cons (pv 3) pa_nil))))) (pss_cons (ps_if (PW.pt (pw_or (pt_cmpR (op_neO G_Form_eq (hr.mono (by decide)) T.nx) (pe_op (op_binO G_Form_add (hr.mono (by decide)) T.sf) (pe_op (op_binO G_Form_add (hr.mono (by decide)) T.sf) (pv 4) (pv 5)) (pv 6)) (pe_op (op_binO G_Form_add (hr.mono (by decide)) T.sf) (pv 4) (pe_op (op_binO G_Form_add (hr.mono (by decide)) T.sf) (pv 5) (pv 6))) (nomark _)) (pw_or1 (pt_cmpR (op_neO G_Form_eq (hr.mono (by decide)) T.nx) (pe_op (op_binO G_Form_mul (hr.mono (by decide)) T.sf) (pe_op (op_binO G_Form_mul (hr.mono (by decide)) T.sf) (pv 4) (pv 5)) (pv 8)) (pe_op (op_binO G_Form_mul (hr.mono (by decide)) T.sf) (pv 4) (pe_op (op_binO G_Form_mul (hr.mono (by decide)) T.sf) (pv 5) (pv 8))) (nomark _))))) (pss_one (ps_ret pe_bl)) pss_nil) (pss_cons (ps_if (PW.pt (pw_or (pt_cmpR (op_neO G_Form_eq (hr.mono (by decide)) T.nx) (pe_op (op_binO G_Form_mul (hr.mono (by decide)) T.sf) (pe_op (op_binO G_Form_add (hr.mono (by decide)) T.sf) (pv 4) (pv 5)) (pv 8)) (pe_op (op_binO G_Form_add (hr.mono (by decide)) T.sf) (pe_op (op_binO G_Form_mul (hr.mono (by decide)) T.sf) (pv 4) (pv 8)) (pe_op (op_binO G_Form_mul (hr.mono (by decide)) T.sf) (pv 5) (pv 8))) (nomark _)) (pw_or1 (pt_cmpR (op_neO G_Form_eq (hr.mono (by decide)) T.nx) (pe_op (op_binO G_Form_mul (hr.mono (by decide)) T.sf) (pv 8) (pe_op (op_binO G_Form_sub (hr.mono (by decide)) T.sf) (pv 4) (pv 6))) (pe_op (op_binO G_Form_sub (hr.mono (by decide)) T.sf) (pe_op (op_binO G_Form_mul (hr.mono (by decide)) T.sf) (pv 8) (pv 4)) (pe_op (op_binO G_Form_mul (hr.mono (by decide)) T.sf) (pv 8) (pv 6))) (nomark _))))) (pss_one (ps_ret pe_bl)) pss_nil) (pss_one (ps_ret (pe_cmpR (op_eqO G_Form_eq (hr.mono (by decide))) (pe_op (op_binO G_Form_mul (hr.mono (by decide)) T.sf) (pe_op (op_binO G_Form_add (hr.mono (by decide)) T.sf) (pv 4) (pv 5)) (pe_op (op_binO G_Form_sub (hr.mono (by decide)) T.sf) (pv 4) (pv 5))) (pe_op (op_binO G_Form_sub (hr.mono (by decide)) T.sf) (pe_op (op_binO G_Form_mul (hr.mono (by decide)) T.sf) (pv 4) (pv 4)) (pe_op (op_binO G_Form_mul (hr.mono (by decide)) T.sf) (pv 5) (pv 5))) (nomark _)))))))), fun as β r β' hR => ?_⟩)
  obtain ⟨p, l, ts, f, rfl, ⟨hp, h3, d, e, hd, ht, hf⟩, rfl, rfl, rfl⟩ := hR
  try dsimp only [cxOf, Cx.nox, Cx.wish]
  match ts, h3 with
  | [a, b, c], _ =>
    have l23 := hd.l
    have sm := hp.small
    have h5 : 5 ≤ 31 := by decide
    have ld : lowD l d := low_of hd (by omega)
    have le : lowD l e := low_of hd (by omega)
    have ldd : lowD l (d + d) := low_of hd (by omega)
    have lde : lowD l (d + e) := low_of hd (by omega)
    have led : lowD l (e + d) := low_of hd (by omega)
    have ha := ht a (by simp)
    have hb := ht b (by simp)
    have hc := ht c (by simp)
    have fa : ∀ ρ : Rho, ρ[4]? = some (some (.imm (formD Y.cl p l (descF a)))) → FE K Y p l d 31 (tVar 4) ρ fun φ => evF φ a := fun ρ h => fe_var h ha
    have fb : ∀ ρ : Rho, ρ[5]? = some (some (.imm (formD Y.cl p l (descF b)))) → FE K Y p l d 31 (tVar 5) ρ fun φ => evF φ b := fun ρ h => fe_var h hb
    have fc : ∀ ρ : Rho, ρ[6]? = some (some (.imm (formD Y.cl p l (descF c)))) → FE K Y p l d 31 (tVar 6) ρ fun φ => evF φ c := fun ρ h => fe_var h hc
    have ff : ∀ ρ : Rho, ρ[8]? = some (some (.imm (formD Y.cl p l (descF f)))) → FE K Y p l e 31 (tVar 8) ρ fun φ => evF φ f := fun ρ h => fe_var h hf
    refine .ret (st_sq (st_unpackL (is := [4, 5, 6]) (n := 3) (ds := [formD Y.cl p l (descF a), formD Y.cl p l (descF b), formD Y.cl p l (descF c)]) (d_lcL (ds := [dT (cD a), dT (cD b), dT (cD c)]) (d_var rfl) (.yes t_yes0 (fe_form hp l23 ld (by decide) ha rfl rfl rfl) (.yes t_yes0 (fe_form hp l23 ld (by decide) hb rfl rfl rfl) (.yes t_yes0 (fe_form hp l23 ld (by decide) hc rfl rfl rfl) (.nil _ _)))) (by show 3 ≤ 100000; decide) (wipe_ok (by decide))) rfl rfl) (st_sq (st_asg (fe_form hp l23 le (by decide) hf rfl rfl rfl)) (st_sq (st_ifF (t_or0 ?t1 ?t2) st_next) (st_sq (st_ifF (t_or0 ?t3 ?t4) st_next) (st_ret ?t5)))))
    case t1 => exact fe_ne hp (fe_add hp ld (by decide) (fe_add hp ld h5 (fa _ rfl) (fb _ rfl)) ((fc _ rfl).wider (by decide))) (fe_add hp ld (by decide) ((fa _ rfl).wider (by decide)) (fe_add hp ld h5 (fb _ rfl) (fc _ rfl))) fun φ => Cg.of (Int.add_assoc _ _ _)
    case t2 =>
      refine fe_ne hp (fe_mul hp hd (by decide) (fe_mul hp ldd (by decide) (fa _ rfl) (fb _ rfl)) (ff _ rfl)) (fe_mul hp (by rwa [← Nat.add_assoc]) (by decide) (fa _ rfl) (fe_mul hp lde (by decide) (fb _ rfl) (ff _ rfl))) fun φ => Cg.of ?_
      refine evF_congr fun q _ => evF_congr fun r _ => evF_congr fun t _ => ?_
      rw [zs_assoc]
    case t3 => exact fe_ne hp (fe_mul hp lde (by decide) (fe_add hp ld h5 (fa _ rfl) (fb _ rfl)) (ff _ rfl)) (fe_add hp lde (by decide) (fe_mul hp lde (by decide) (fa _ rfl) (ff _ rfl)) (fe_mul hp lde (by decide) (fb _ rfl) (ff _ rfl))) fun φ => Cg.refl p _
    case t4 =>
      refine fe_ne hp (fe_mul hp led (by decide) (ff _ rfl) (fe_sub hp ld h5 (by decide) (fa _ rfl) (fc _ rfl))) (fe_sub hp led (by decide) (by decide) (fe_mul hp led (by decide) (ff _ rfl) (fa _ rfl)) (fe_mul hp led (by decide) (ff _ rfl) (fc _ rfl))) fun φ => Cg.of ?_
      rw [evF_add, evF_mul]
    case t5 =>
      refine fe_eq hp (fe_mul hp ldd (by decide) (fe_add hp ld h5 (fa _ rfl) (fb _ rfl)) (fe_sub hp ld h5 (by decide) (fa _ rfl) (fb _ rfl))) (fe_sub hp ldd (by decide) (by decide) (fe_mul hp ldd (by decide) (fa _ rfl) (fa _ rfl)) (fe_mul hp ldd (by decide) (fb _ rfl) (fb _ rfl))) fun φ => Cg.of ?_
      have swap : evF (fun x => evF (fun y => φ (zs x y)) a) b = evF (fun x => evF (fun y => φ (zs x y)) b) a := by
        rw [evF_swap]
        refine evF_congr fun q _ => evF_congr fun r _ => ?_
        rw [zs_comm]
      rw [evF_add, evF_mul, evF_add, evF_mul, swap]
      omega
end K05
set_option Elab.async false
set_option linter.all false
set_option maxRecDepth 100000
set_option maxHeartbeats 4100000
namespace TD
open PySem L2 PySem.Spec PyProof.Rows
open PySem.SeqAt (EqIn)
open Evl (Ex ex_l ex_t fresh_back sq_of st_of sz_of sz_lt)
section
variable {prog : Program} {w : World} {xs ys : Array Value} {l b : Addr}
/-- from the place i on all are equal: the walk says so -/
theorem same_from {A : Around} {R : Result → Shared → Prop} {hp : Heap} {gs : Array GenState} {dr : Drawn} {tk : Nat} {os : OsState} {d1 d2 : Option Addr} {s1 s2 : Array (Option Value)} {m n : Nat}
    (one : hp.get? l = some { cls := .type "list", dict := d1, data := .seq xs m, slots := s1 }) (two : hp.get? b = some { cls := .type "list", dict := d2, data := .seq ys n, slots := s2 }) (alike : xs.size = ys.size)
    (each : ∀ j (h1 : j < xs.size) (h2 : j < ys.size), EqIn prog w A.in1 ⟨hp, gs, dr, tk, os⟩ xs[j] ys[j] true) (told : R (.ok (.ret (.bool false))) ⟨hp, gs, dr, tk, os⟩) :
    ∀ (k i : Nat), i + k = xs.size → codeAny (model prog w) A (.builtin "list.__eq__.loop" ⟨[.ref l, .ref b, rawInt i, rawInt 3], []⟩) R ⟨hp, gs, dr, tk, os⟩ := by
  intro k
  induction k with
  | zero =>
    intro i sum
    have out1 : xs[((i : Nat) : Int).toNat]? = none := Array.getElem?_eq_none (by omega)
    have out2 : ys[((i : Nat) : Int).toNat]? = none := Array.getElem?_eq_none (by omega)
    refine codeAny_builtin PySem.MeetsSeq3.entry_eq_loop ?_
    rw [Around.under_plainId PySem.MeetsSeq3.plain_eq_loop _]
    unfold Builtin.«list.__eq__.loop»
    wp_walk using PySem.AutoSeq1.wpAny_loadPart' one, PySem.AutoSeq1.wpAny_loadPart' two
    rw [out1, out2]
    wp_walk using PySem.AutoSeq1.wpAny_loadPart' one, PySem.AutoSeq1.wpAny_loadPart' two
    show R (.ok (.ret (.bool (xs.size != ys.size)))) _
    rw [alike, bne_self_eq_false]
    exact told
  | succ k ih =>
    intro i sum
    have lt1 : i < xs.size := by omega
    have lt2 : i < ys.size := by omega
    have in1 : xs[((i : Nat) : Int).toNat]? = some xs[i] := Array.getElem?_eq_getElem lt1
    have in2 : ys[((i : Nat) : Int).toNat]? = some ys[i] := Array.getElem?_eq_getElem lt2
    refine codeAny_builtin PySem.MeetsSeq3.entry_eq_loop ?_
    rw [Around.under_plainId PySem.MeetsSeq3.plain_eq_loop _]
    unfold Builtin.«list.__eq__.loop»
    wp_walk using PySem.AutoSeq1.wpAny_loadPart' one, PySem.AutoSeq1.wpAny_loadPart' two
    rw [in1, in2]
    refine wpAny_bind (each i lt1 lt2 _ _ ?_)
    wp_walk
    have next := ih (i + 1) (by omega)
    rw [show ((i + 1 : Nat) : Int) = (i : Int) + 1 by omega] at next
    exact ⟨plainId_quiet PySem.MeetsSeq3.plain_eq_loop _, next⟩
/-- two lists whose things are equal are not unequal -/
theorem ne_alike {A : Around} {E : Value → Shared → Prop} {s : Shared} {Q : Value → Shared → Prop} (one : s.heap.IsList l xs) (two : s.heap.IsList b ys) (alike : xs.size = ys.size) (room : A.units < cLine) (each : ∀ j (h1 : j < xs.size) (h2 : j < ys.size), EqIn prog w A.in1 s xs[j] ys[j] true) (q : Q (.bool false) s) : wpAny (model prog w) A (compareOp .NotEq (.ref l) (.ref b)) Q E s := by
  obtain ⟨⟨c1, d1, dat1, s1⟩, at1, k1, m, e1⟩ := id one
  obtain ⟨⟨c2, d2, dat2, s2⟩, at2, k2, n, e2⟩ := id two
  simp only at k1 e1 k2 e2
  subst k1 e1 k2 e2
  have walk : MeetsIn prog w (Builtin.«list.__ne__» ⟨[.ref l, .ref b], []⟩) (fun A' R t => t = s ∧ A'.in1 = A.in1 ∧ R (.ok (.ret (.bool false))) t) := by
    rintro A' R t ⟨rfl, same, told⟩
    obtain ⟨hp, gs, dr, tk, os⟩ := t
    have lists := PySem.AutoSeq1.sub_list_list
    have sizes : ¬ (xs.size != ys.size) = true := by rw [alike, bne_self_eq_false]; exact Bool.false_ne_true
    wp_walk using PySem.AutoSeq1.wpAny_loadPart' at1, PySem.AutoSeq1.wpAny_loadPart' at2
    exact ⟨plainId_quiet PySem.MeetsSeq3.plain_eq_loop _, same_from at1 at2 alike (fun j h1 h2 => same ▸ each j h1 h2) told xs.size 0 (Nat.zero_add _)⟩
  exact wpAny_richCompare_same_room (T := "list") (op := .NotEq) ⟨_, at1, rfl⟩ ⟨_, at2, rfl⟩ PySem.F.slot_list_ne (call_meetsIn PySem.F.slot_list_ne ⟨_, at1, rfl⟩ PySem.F.entry_list_ne (PySem.F.args_list_ne_2 _ _) walk ⟨rfl, rfl, show Value.bool false ≠ Value.notImplemented ∧ Q (.bool false) s from ⟨(fun z => nomatch z), q⟩⟩) room
end
/-- two dicts that are equal -/
def SameD (K : PySem.W.Frag) (H : Hp) (c e : Addr) : Prop := ∃ (ka kb : List (List Key × V)) (bs : List Bool), Rd H c (.dT ka) ∧ Rd H e (.dT kb) ∧ bs.length = ka.length ∧ (∀ (i : Nat) (k : List Key) (v : V), ka[i]? = some (k, v) → ∃ c, bs[i]? = some c ∧ SaysV K H kb k v c) ∧ (ka.length == kb.length && bs.all id) = true
/-- lists of dicts that are equal one by one, under != -/
def rNeLD (K : PySem.W.Frag) : R2 := fun x y H Q => ∃ (a b : Addr) (cs es : List Addr), x = .ref a ∧ y = .ref b ∧ SqL K H a (cs.map V.ref) ∧ SqL K H b (es.map V.ref) ∧ cs.length = es.length ∧ (∀ (i : Nat) (c e : Addr), cs[i]? = some c → es[i]? = some e → SameD K H c e) ∧ Q (.bl false) H
theorem vals_refs : ∀ {cs : List Addr} {its : List Value}, Vals (cs.map V.ref) its → its = cs.map Value.ref
  | [], _, h => by cases h; rfl
  | c :: cs, _, h => by
    cases h with
    | cons h t =>
      cases h
      rw [vals_refs t]
      rfl
theorem op_neLD {X : Cx} {n : Nat} (hr : Room n X.A) : OpR X (compareOp .NotEq) (rNeLD X.K) := by
  have hu := hr.un
  rintro pins s σ H x y v u Q I rx ry ⟨a, b, cs, es, rfl, rfl, ha, hb, len, same, q⟩
  cases rx
  cases ry
  obtain ⟨is1, r1, p1, _⟩ := I.list ha
  obtain ⟨is2, r2, p2, _⟩ := I.list hb
  obtain rfl := vals_refs r1
  obtain rfl := vals_refs r2
  refine ne_alike p1.isList p2.isList (by simpa using len) (by omega) (fun j h1 h2 => ?_) ⟨.bl false, H, I, rfl, q⟩
  have l1 : j < cs.length := by simpa using h1
  have l2 : j < es.length := by simpa using h2
  obtain ⟨ka, kb, bs, ea, eb, hl, hs, eq⟩ := same j cs[j] es[j] (List.getElem?_eq_getElem l1) (List.getElem?_eq_getElem l2)
  have e1 : (cs.map Value.ref).toArray[j] = Value.ref cs[j] := by simp
  have e2 : (es.map Value.ref).toArray[j] = Value.ref es[j] := by simp
  rw [e1, e2]
  by_cases z : cs[j] = es[j]
  · rw [z]
    exact (PySem.SeqAt.EqAt.same _).inModel _ _
  · obtain ⟨_, na, xs, ra, da⟩ := dt_rd I.hok ea
    obtain ⟨_, nb, ys, rb, db⟩ := dt_rd I.hok eb
    have la : ka.length = xs.length := Paired.length ra
    have lb : kb.length = ys.length := Paired.length rb
    refine PySem.SeqAt.EqIn.of_refs z fun E Q' q' => eq_dicts (A := X.A.in1) (bs := bs) na nb da db (by show X.A.units + 1 + 1 < cLine; omega) (fun _ i x hx => ?_) (hl.trans la) (by rw [← la, ← lb, eq]; exact q')
    have hi : i < ka.length := la ▸ (List.getElem?_eq_some_iff.mp hx).1
    obtain ⟨x', hx', f1, _, rv⟩ := paired_get ra (List.getElem?_eq_getElem hi)
    cases hx.symm.trans hx'
    obtain ⟨c, hc, sv⟩ := hs i _ _ (List.getElem?_eq_getElem hi)
    exact ⟨c, hc, SaysV.says I (by show X.A.units + 1 + 1 + 64 < cLine; omega) rb rv (f1 ▸ sv)⟩
section
variable [TabW] {K : PySem.W.Frag} {G H : Hp} {ρ : Rho} {β β1 β2 : Bag} {ta tb : TE}
theorem den_dicts : ∀ {Ts : List (List QD)} {vs : List V}, DenL K G vs (Ts.map dT) → ∃ cs : List Addr, vs = cs.map V.ref ∧ cs.length = Ts.length ∧ ∀ (i : Nat) (c : Addr) (T : List QD), cs[i]? = some c → Ts[i]? = some T → Den K G (.ref c) (dT T)
  | [], _, h => by
    cases h
    exact ⟨[], rfl, rfl, fun i c T z => by simp at z⟩
  | T :: Ts, _, h => by
    cases h with
    | cons h t =>
      obtain ⟨cs, rfl, len, at_⟩ := den_dicts t
      obtain ⟨c, ka, rfl, _, _⟩ := den_dT h
      refine ⟨c :: cs, rfl, congrArg (· + 1) len, fun i c' T' z1 z2 => ?_⟩
      cases i with
      | zero =>
        cases z1
        cases z2
        exact h
      | succ i => exact at_ i c' T' z1 z2
theorem d_neLD {Ts Us : List (List QD)} (ha : EvB K ta ρ β (.list (Ts.map dT)) β1) (hb : EvB K tb ρ β1 (.list (Us.map dT)) β2) (len : Ts.length = Us.length) (same : ∀ (i : Nat) (T U : List QD), Ts[i]? = some T → Us[i]? = some U → (T.length == U.length && eqT T U) = true ∧ (∀ q ∈ T, flatD q.2 = true ∧ SeqAt.shaped q.2 = true) ∧ ∀ q ∈ U, flatD q.2 = true ∧ SeqAt.shaped q.2 = true) :
    EvB K (tOp (rNeLD K) ta tb) ρ β (.bool false) β2 := d_op ha hb fun b G H v w Q e h1 h2 k => by
  cases h1 with
  | @lst a xs _ hs hd =>
    cases h2 with
    | @lst c ys _ hs' hd' =>
      obtain ⟨cs, rfl, l1, at1⟩ := den_dicts hd
      obtain ⟨es, rfl, l2, at2⟩ := den_dicts hd'
      refine ⟨a, c, cs, es, rfl, rfl, sq_of (e _ _ hs), sq_of (e _ _ hs'), l1.trans (len.trans l2.symm), fun i x y hx hy => ?_, k _ G H (Step.refl e) (.bl _)⟩
      have i1 : i < Ts.length := l1 ▸ (List.getElem?_eq_some_iff.mp hx).1
      have i2 : i < Us.length := l2 ▸ (List.getElem?_eq_some_iff.mp hy).1
      obtain ⟨eqq, fT, fU⟩ := same i Ts[i] Us[i] (List.getElem?_eq_getElem i1) (List.getElem?_eq_getElem i2)
      obtain ⟨_, ka, z1, sa, qa⟩ := den_dT (at1 i x _ hx (List.getElem?_eq_getElem i1))
      obtain ⟨_, kb, z2, sb, qb⟩ := den_dT (at2 i y _ hy (List.getElem?_eq_getElem i2))
      cases z1
      cases z2
      generalize Ts[i] = T at *
      generalize Us[i] = U at *
      have la : (keysT ka).length = T.length := (List.length_map _).trans qa.length
      have lb : (keysT kb).length = U.length := (List.length_map _).trans qb.length
      refine ⟨keysT ka, keysT kb, T.map (hasEq U), rd_ex e sa, rd_ex e sb, (List.length_map _).trans la.symm, fun m k v hm => ?_, by rw [la, lb, ← eqT_map]; exact eqq⟩
      obtain ⟨q, hq, rfl, dq⟩ := qa.at_ hm
      exact ⟨_, by rw [List.getElem?_map, hq] <;> rfl, says_of e qb fU dq (fT q (List.mem_of_getElem? hq))⟩
end
end TD
set_option Elab.async false
set_option linter.all false
set_option maxRecDepth 100000
set_option maxHeartbeats 1100000
namespace K05
open PySem L2 TD PySem.Spec PyProof.Rows
open Evl (Ex ex_l ex_t fresh_back sq_of st_of sz_of sz_lt)
variable [TabW]
theorem zs_zero : ∀ (l : Nat) (y : List Int), y.length = l → zs (List.replicate l 0) y = y
  | 0, [], _ => rfl
  | l + 1, y :: ys, h => by
    show (0 + y) :: zs (List.replicate l 0) ys = y :: ys
    rw [zs_zero l ys (by simpa using h), Int.zero_add]
theorem one_ev {l : Nat} {d : Int} {a : CQ} (ha : HomF l d a) (φ : List Int → Int) : ev2 (fun x y => φ (zs x y)) (oneT l) a = evF φ a := by
  show 1 * evF (fun y => φ (zs (List.replicate l 0) y)) a + 0 = evF φ a
  rw [Int.one_mul, Int.add_zero]
  refine evF_congr fun q hq => ?_
  rw [zs_zero l q.1 (ha q.1 (List.mem_map_of_mem hq)).1]
theorem pow_same {p : Int} {l : Nat} {a : CQ} (nd : (kyF a).Nodup) : ∀ (j : Nat) (φ : List Int → Int), Cg p (evF φ (powT p l (descF a) j)) (evF φ (fpowT p l a j))
  | 0, φ => Cg.refl p _
  | j + 1, φ => by
    have inner : ∀ ψ : List Int → Int, evF ψ (descF a) = evF ψ a := fun ψ => evF_perm (desc_perm nd)
    refine (ev_mul φ).trans (Cg.trans ?_ (ev_fmul φ).symm)
    have e : ev2 (fun x y => φ (zs x y)) (powT p l (descF a) j) (descF a) = ev2 (fun x y => φ (zs x y)) (powT p l (descF a) j) a := evF_congr fun q _ => inner _
    show Cg p (ev2 (fun x y => φ (zs x y)) (powT p l (descF a) j) (descF a)) _
    rw [e]
    exact pow_same nd j _
abbrev s_law_powers_right : Stmt := top 75
theorem sc_law_powers_right : FnScope ["_law_prime_here", "_law_letters", "_law_table", "_law_form_here", "_law_powers", "_law_many", "_law_power"] ["_law_prime_here", "_law_letters", "_law_table"] (defScope s_law_powers_right) := ⟨rfl, rfl, rfl, by decide +kernel, rfl, by decide +kernel, by decide +kernel⟩
abbrev R_law_powers_right (Y : Cn) : FR := fun as β r β' => ∃ p l a, as = [.imm (.int p), .imm (.int (l : Nat)), .imm (dT (cD a))] ∧ (Num.PrimeI p ∧ ∃ d, lowD l (3 * d) ∧ FormOk p l d 31 a) ∧ r = .bool true ∧ β = none ∧ β' = none
theorem ok_law_powers_right {P : Program} {w : World} {K : PySem.W.Frag} {mg : Str → Option Value} {base : Heap} {Y : Cn} (F : DefAt K "_law_powers_right" s_law_powers_right) (hX : K.In base) (hG : base.Ns mainGlobals mg) (T : Txt K mg Y) (G_law_form : FnG P w K mg base 8 "_law_form" ["_law_prime_here", "_law_letters", "_law_table"] (R_law_form Y)) (G_Form_power : FnM P w K mg base 9 Y.cl "power" ["self", "many"] (R_Form_power Y)) (G_Form_table : FnP P w K mg base 1 Y.cl "table" (R_Form_table Y)) (G_law_fpower : FnG P w K mg base 3 "_law_fpower" ["_law_prime_here", "_law_letters", "_law_one", "_law_many"] R_law_fpower) (G_Form_mul : FnM P w K mg base 9 Y.cl "__mul__" ["self", "other"] (R_Form_mul Y)) (G_Form_degree : FnP P w K mg base 2 Y.cl "degree" (R_Form_degree Y)) (G_Form_eq : FnM P w K mg base 1 Y.cl "__eq__" ["self", "other"] (R_Form_eq Y)) : FnG P w K mg base 10 "_law_powers_right" ["_law_prime_here", "_law_letters", "_law_table"] (R_law_powers_right Y) := by
  have nd := sc_law_powers_right.nd
  refine fn_mk F hX hG sc_law_powers_right (fun as β r β' h => by first | exact FR.len h | (obtain ⟨_, rfl, _⟩ := h; rfl) | (obtain ⟨_, _, rfl, _⟩ := h; rfl) | (obtain ⟨_, _, _, rfl, _⟩ := h; rfl) | (obtain ⟨_, _, _, _, rfl, _⟩ := h; rfl) | (obtain ⟨_, _, _, _, _, rfl, _⟩ := h; rfl)) (fun _ _ _ _ _ _ _ us hl => match us, hl with | [_, _, _], _ => rfl) (fun f cdv A outer s H E hr => ⟨_, (pss_cons (ps_set (i := 3) nd rfl (Or.inr rfl) (pe_fn G_law_form (hr.mono (by decide)) (pa_cons (pv 0) (pa_cons (pv 1) (pa_cons (pv 2) pa_nil))))) (pss_cons (ps_setLc (i := 4) (own := [("_law_many", 5)]) rfl nd rfl rfl (sw_true rfl rfl rfl (by decide +kernel)) (pi_range1 (by rfl) T.z_range (pa_cons pe_int pa_nil)) (blkOk_by (N := ["_law_prime_here", "_law_letters", "_law_table", "_law_form_here", "_law_powers", "_law_many", "_law_power"]) (sc := defScope s_law_powers_right) (by decide +kernel)) (fun _ _ _ _ _ => by exact (pg_name (i := 5) nd rfl (Or.inl rfl))) (fun _ _ _ _ _ => by exact pts_nil) (fun _ _ _ _ _ => by exact (pe_m G_Form_power (hr.mono (by decide)) (pv 3) (pa_cons (pv 5) pa_nil)))) (pss_cons (ps_if (pt_cmpR (op_neLD hr) (pe_lc (own := [("_law_power", 6)]) rfl nd (pi_list (pv 4)) (blkOk_by (N := ["_law_prime_here", "_law_letters", "_law_table", "_law_form_here", "_law_powers", "_law_many", "_law_power"]) (sc := defScope s_law_powers_right) (by decide +kernel)) (fun _ _ _ _ _ => by exact (pg_name (i := 6) nd rfl (Or.inl rfl))) (fun _ _ _ _ _ => by exact pts_nil) (fun _ _ _ _ _ => by exact (pe_p G_Form_table (hr.mono (by decide)) (pv 6)))) (pe_lc (own := [("_law_many", 5)]) rfl nd (pi_range1 (by rfl) T.z_range (pa_cons pe_int pa_nil)) (blkOk_by (N := ["_law_prime_here", "_law_letters", "_law_table", "_law_form_here", "_law_powers", "_law_many", "_law_power"]) (sc := defScope s_law_powers_right) (by decide +kernel)) (fun _ _ _ _ _ => by exact (pg_name (i := 5) nd rfl (Or.inl rfl))) (fun _ _ _ _ _ => by exact pts_nil) (fun _ _ _ _ _ => by exact (pe_fn G_law_fpower (hr.mono (by decide)) (pa_cons (pv 0) (pa_cons (pv 1) (pa_cons (pv 2) (pa_cons (pv 5) pa_nil))))))) (nomark _)) (pss_one (ps_ret pe_bl)) pss_nil) (pss_one (ps_ret (pe_and (pe_cmpR (op_eqO G_Form_eq (hr.mono (by decide))) (pe_op (op_binO G_Form_mul (hr.mono (by decide)) T.sf) (pe_ix ix_list (pv 4) pe_int (fun _ _ => rfl)) (pe_ix ix_list (pv 4) pe_int (fun _ _ => rfl))) (pe_ix ix_list (pv 4) pe_int (fun _ _ => rfl)) (nomark _)) (pe_and (pe_cmpR op_eq (pe_p G_Form_degree (hr.mono (by decide)) (pe_ix ix_list (pv 4) pe_int (fun _ _ => rfl))) pe_int (nomark _)) (pe_one (pe_cmpR (op_eqDT hr) (pe_p G_Form_table (hr.mono (by decide)) (pv 3)) (pv 2) (nomark _)))))))))), fun as β r β' hR => ?_⟩)
  obtain ⟨p, l, a, rfl, ⟨hp, d, hd, ha⟩, rfl, rfl, rfl⟩ := hR
  try dsimp only [cxOf, Cx.nox, Cx.wish]
  have ld : lowD l d := low_of hd (by omega)
  have l23 := ld.l
  have sm := hp.small
  have hc := ha.desc
  have ljd : ∀ j : Nat, j ≤ 3 → lowD l (j * d) := fun j hj => low_of hd (Nat.mul_le_mul_right d hj)
  have okP : ∀ j : Nat, j ≤ 3 → FormOk p l (j * d) (5 + j * (31 + 20)) (descF (powT p l (descF a) j)) := fun j hj => (pow_ok hp hc ld j (ljd j hj)).desc
  have okQ : ∀ j : Nat, j ≤ 3 → FormOk p l (j * d) (5 + j * (31 + 20)) (fpowT p l a j) := fun j hj => fpow_ok hp ha ld j (ljd j hj)
  have evP : ∀ (j : Nat), j ≤ 3 → ∀ φ, Cg p (evF φ (descF (powT p l (descF a) j))) (evF φ (fpowT p l a j)) := fun j hj φ => (ev_desc (pow_ok hp hc ld j (ljd j hj)).clean.nd p φ).trans (pow_same ha.clean.nd j φ)
  have pw : ∀ (j : Nat) (ρ : Rho), j ≤ 3 → ρ[3]? = some (some (.imm (formD Y.cl p l (descF a)))) → ρ[5]? = some (some (.imm (.int (j : Nat)))) → EvB K (tMeth Y.cl "power" (spR K (R_Form_power Y)) [] E0 (tVar 3) (tCons (tVar 5) tNil)) ρ none (formD Y.cl p l (descF (powT p l (descF a) j))) none := fun j ρ hj h3 h5 => d_meth (d_var h3) rfl (a_con (d_var h5) a_nil) ⟨p, l, descF a, j, rfl, ⟨hp, hj, d, 31, ld, ljd j hj, by decide, hc⟩, rfl, rfl, rfl⟩
  have qw : ∀ (j : Nat) (ρ : Rho), j ≤ 3 → ρ[0]? = some (some (.imm (.int p))) → ρ[1]? = some (some (.imm (.int l))) → ρ[2]? = some (some (.imm (dT (cD a)))) → ρ[5]? = some (some (.imm (.int (j : Nat)))) → EvB K (tCall (spR K R_law_fpower) [] E0 (tCons (tVar 0) (tCons (tVar 1) (tCons (tVar 2) (tCons (tVar 5) tNil))))) ρ none (dT (cD (fpowT p l a j))) none := fun j ρ hj h0 h1 h2 h5 => d_call0 (a_con (d_var h0) (a_con (d_var h1) (a_con (d_var h2) (a_con (d_var h5) a_nil)))) ⟨p, l, a, j, rfl, ⟨hp, hj, d, 31, ld, ljd j hj, by decide, ha⟩, rfl, rfl, rfl⟩
  have tw : ∀ (j : Nat) (ρ : Rho), j ≤ 3 → ρ[6]? = some (some (.imm (formD Y.cl p l (descF (powT p l (descF a) j))))) → EvB K (tProp Y.cl (spR K (R_Form_table Y)) [] E0 (tVar 6)) ρ none (dT (cD (ascF (descF (powT p l (descF a) j))))) none := fun j ρ hj h6 => d_prop (d_var h6) ⟨p, l, descF (powT p l (descF a) j), rfl, tab_of (okP j hj) (ljd j hj), rfl, rfl, rfl⟩
  have same : ∀ j : Nat, j ≤ 3 → ((cD (ascF (descF (powT p l (descF a) j)))).length == (cD (fpowT p l a j)).length && eqT (cD (ascF (descF (powT p l (descF a) j)))) (cD (fpowT p l a j))) = true := fun j hj => clean_eq sm.1 (okP j hj).clean.asc (okQ j hj).clean fun φ => (ev_asc (okP j hj).clean.nd p φ).trans (evP j hj φ)
  have forms : List Dt := [formD Y.cl p l (descF (powT p l (descF a) 0)), formD Y.cl p l (descF (powT p l (descF a) 1)), formD Y.cl p l (descF (powT p l (descF a) 2)), formD Y.cl p l (descF (powT p l (descF a) 3))]
  have at_ : ∀ (j : Nat) (ρ : Rho), j ≤ 3 → ρ[4]? = some (some (.imm (.list [formD Y.cl p l (descF (powT p l (descF a) 0)), formD Y.cl p l (descF (powT p l (descF a) 1)), formD Y.cl p l (descF (powT p l (descF a) 2)), formD Y.cl p l (descF (powT p l (descF a) 3))]))) → EvB K (tOp (rIxL K) (tVar 4) (tC (V.int (j : Nat)))) ρ none (formD Y.cl p l (descF (powT p l (descF a) j))) none := fun j ρ hj h4 => d_ixL (d_var h4) d_int (atI_nat (j := j) (by
    obtain rfl | rfl | rfl | rfl : j = 0 ∨ j = 1 ∨ j = 2 ∨ j = 3 := by omega
    all_goals rfl))
  have fe : ∀ (j : Nat) (ρ : Rho), j ≤ 3 → ρ[4]? = some (some (.imm (.list [formD Y.cl p l (descF (powT p l (descF a) 0)), formD Y.cl p l (descF (powT p l (descF a) 1)), formD Y.cl p l (descF (powT p l (descF a) 2)), formD Y.cl p l (descF (powT p l (descF a) 3))]))) → FE K Y p l (j * d) (5 + j * (31 + 20)) (tOp (rIxL K) (tVar 4) (tC (V.int (j : Nat)))) ρ fun φ => evF φ (fpowT p l a j) := fun j ρ hj h4 => ⟨_, at_ j ρ hj h4, okP j hj, evP j hj⟩
  refine .ret (st_sq (st_asg (fe_form hp l23 ld (by decide) ha rfl rfl rfl)) (st_sq (st_asg (d_lcR1 (i := 4) (rs := [formD Y.cl p l (descF (powT p l (descF a) 0)), formD Y.cl p l (descF (powT p l (descF a) 1)), formD Y.cl p l (descF (powT p l (descF a) 2)), formD Y.cl p l (descF (powT p l (descF a) 3))]) d_int (by decide) (.yes t_yes0 (pw 0 _ (by decide) rfl rfl) (.yes t_yes0 (pw 1 _ (by decide) rfl rfl) (.yes t_yes0 (pw 2 _ (by decide) rfl rfl) (.yes t_yes0 (pw 3 _ (by decide) rfl rfl) (.nil _ _))))) (by show 4 ≤ 100000; decide) (wipe_ok (by decide)))) (st_sq (st_ifF ?t1 st_next) (st_ret (d_and0 ?t2 (d_and0 ?t3 ?t4))))))
  case t1 =>
    refine t_test (d_neLD (Ts := [cD (ascF (descF (powT p l (descF a) 0))), cD (ascF (descF (powT p l (descF a) 1))), cD (ascF (descF (powT p l (descF a) 2))), cD (ascF (descF (powT p l (descF a) 3)))]) (Us := [cD (fpowT p l a 0), cD (fpowT p l a 1), cD (fpowT p l a 2), cD (fpowT p l a 3)])
      (d_lcL (ds := [formD Y.cl p l (descF (powT p l (descF a) 0)), formD Y.cl p l (descF (powT p l (descF a) 1)), formD Y.cl p l (descF (powT p l (descF a) 2)), formD Y.cl p l (descF (powT p l (descF a) 3))]) (d_var rfl) (.yes t_yes0 (tw 0 _ (by decide) rfl) (.yes t_yes0 (tw 1 _ (by decide) rfl) (.yes t_yes0 (tw 2 _ (by decide) rfl) (.yes t_yes0 (tw 3 _ (by decide) rfl) (.nil _ _))))) (by show 4 ≤ 100000; decide) (wipe_ok (by decide)))
      (d_lcR1 (i := 4) d_int (by decide) (.yes t_yes0 (qw 0 _ (by decide) rfl rfl rfl rfl) (.yes t_yes0 (qw 1 _ (by decide) rfl rfl rfl rfl) (.yes t_yes0 (qw 2 _ (by decide) rfl rfl rfl rfl) (.yes t_yes0 (qw 3 _ (by decide) rfl rfl rfl rfl) (.nil _ _))))) (by show 4 ≤ 100000; decide) (wipe_ok (by decide))) rfl fun i T U hT hU => ?_)
    match i, hT, hU with
    | 0, hT, hU => cases hT; cases hU; exact ⟨same 0 (by decide), flat_cD, flat_cD⟩
    | 1, hT, hU => cases hT; cases hU; exact ⟨same 1 (by decide), flat_cD, flat_cD⟩
    | 2, hT, hU => cases hT; cases hU; exact ⟨same 2 (by decide), flat_cD, flat_cD⟩
    | 3, hT, hU => cases hT; cases hU; exact ⟨same 3 (by decide), flat_cD, flat_cD⟩
    | n + 4, hT, hU => simp at hT
  case t2 =>
    refine fe_eq hp (fe_mul hp (by rw [← Nat.add_mul]; exact ljd 3 (by decide)) (by decide) (fe 1 _ (by decide) rfl) (fe 2 _ (by decide) rfl)) (fe 3 _ (by decide) rfl) fun φ => ?_
    have one : ∀ ψ : List Int → Int, Cg p (evF ψ (fpowT p l a 1)) (evF ψ a) := fun ψ => (ev_fmul ψ).trans (Cg.of (one_ev ha.hom ψ))
    have e : evF (fun x => evF (fun y => φ (zs x y)) (fpowT p l a 2)) a = ev2 (fun x y => φ (zs x y)) (fpowT p l a 2) a := by
      rw [ev2, evF_swap]
      refine evF_congr fun q _ => evF_congr fun r _ => ?_
      rw [zs_comm]
    exact (one _).trans ((Cg.of e).trans (ev_fmul φ).symm)
  case t3 =>
    have ne0 : descF (oneT l) ≠ [] := ne_desc (one_ok hp l).clean.nd fun z => nomatch z
    have dg : degF (descF (oneT l)) = .int 0 := deg_of (one_ok hp l).desc ne0
    exact (d_eqI (i := 0) (j := 0) ((d_prop (at_ 0 _ (by decide) rfl) ⟨p, l, descF (oneT l), rfl, rfl, rfl, rfl⟩).to dg) d_int).to rfl
  case t4 => exact fe_tabEq hp ld (fe_var rfl ha) (d_var rfl) ha.clean fun φ => Cg.refl p _
end K05
set_option Elab.async false
set_option linter.all false
set_option maxRecDepth 100000
set_option maxHeartbeats 1100000
namespace K05
open PySem L2 TD PySem.Spec PyProof.Rows
open Evl (Ex ex_l ex_t fresh_back sq_of st_of sz_of sz_lt)
variable [TabW]
theorem t_orB {K : PySem.W.Frag} {ρ : Rho} {β : Bag} {tt tu : TT} (h : TtB K tt ρ β false β) (h' : TtB K tu ρ β false β) : TtB K (tOr tt tu) ρ β false β := t_orF h h'
theorem d_andB {K : PySem.W.Frag} {ρ : Rho} {β : Bag} {ta tb : TE} (h : EvB K ta ρ β (.bool true) β) (h' : EvB K tb ρ β (.bool true) β) : EvB K (tAndV ta tb) ρ β (.bool true) β := d_andT h h'
theorem t_notB {K : PySem.W.Frag} {ρ : Rho} {β : Bag} {te : TE} (h : EvB K te ρ β (.bool true) β) : TtB K (tNot (tB te)) ρ β false β := (t_not (t_B h)).to rfl
theorem num_fits {p s : Int} (hp : Num.PrimeI p) (hs : 0 ≤ s) (hb : s ≤ 2 ^ 40) (ns : List Int) : (Num.numberF p s ns).1.natAbs ≤ 2 ^ 41 ∧ Num.fits p (.int (Num.numberF p s ns).1) = true := by
  obtain ⟨h1, h2, h3, h4⟩ := Num.number_rng hp hs ns
  generalize (Num.numberF p s ns).1 = n at *
  have bd : n ≤ 2 ^ 40 := by
    have : max s 19 ≤ 2 ^ 40 := by omega
    omega
  refine ⟨by omega, ?_⟩
  show ((decide (-Num.big < n) && decide (n < Num.big)) && (decide (p = 0) || (decide (0 ≤ n) && decide (n < p)))) = true
  rw [decide_eq_true (show -Num.big < n by unfold Num.big; omega), decide_eq_true (show n < Num.big by unfold Num.big; omega)]
  by_cases z : p = 0
  · rw [decide_eq_true z]
    rfl
  · have := h3 z
    rw [decide_eq_true this.1, decide_eq_true this.2, Bool.and_self, Bool.or_true]
    rfl
abbrev s_law_right : Stmt := top 76
theorem sc_law_right : FnScope ["_law_bag_here", "_law_prime_here", "_law_letters", "_law_degree", "_law_high", "_law_tables", "_law_turn", "_law_far", "_law_number_here", "_law_low_here"] ["_law_bag_here"] (defScope s_law_right) := ⟨rfl, rfl, rfl, by decide +kernel, rfl, by decide +kernel, by decide +kernel⟩
abbrev a_law_right (_ : Unit) : List Slot := []
abbrev Pre_law_right (_ : Unit) : Prop := True
abbrev Post_law_right (_ : Unit) (d : Dt) : Prop := d = .bool true
theorem ok_law_right {P : Program} {w : World} {K : PySem.W.Frag} {mg : Str → Option Value} {base : Heap} {Y : Cn} (F : DefAt K "_law_right" s_law_right) (hX : K.In base) (hG : base.Ns mainGlobals mg) (T : Txt K mg Y) {F_law_terms : _} (G_law_terms : FnD P w K mg base 4 "_law_terms" ["_law_bag_here", "_law_prime_here", "_law_letters", "_law_degree", "_law_spread"] a_law_terms Pre_law_terms Post_law_terms F_law_terms) (G_law_prime : FnG P w K mg base 3 "_law_prime" ["_law_bag_here"] R_law_prime) (G_law_grab : FnG P w K mg base 1 "_law_grab" ["_law_bag_here", "_law_total"] R_law_grab) (G_law_number : FnG P w K mg base 2 "_law_number" ["_law_bag_here", "_law_prime_here", "_law_spread"] R_law_number) (G_law_powers_right : FnG P w K mg base 10 "_law_powers_right" ["_law_prime_here", "_law_letters", "_law_table"] (R_law_powers_right Y)) (G_law_sums_right : FnG P w K mg base 13 "_law_sums_right" ["_law_prime_here", "_law_letters", "_law_one", "_law_other"] (R_law_sums_right Y)) (G_law_products_right : FnG P w K mg base 10 "_law_products_right" ["_law_prime_here", "_law_letters", "_law_one", "_law_other", "_law_number_here"] (R_law_products_right Y)) (G_law_rules_right : FnG P w K mg base 10 "_law_rules_right" ["_law_prime_here", "_law_letters", "_law_tables", "_law_far"] (R_law_rules_right Y)) : ∃ F_law_right, FnD P w K mg base 14 "_law_right" ["_law_bag_here"] a_law_right Pre_law_right Post_law_right F_law_right := by
  have nd := sc_law_right.nd
  let key : ∀ (f : Addr) (cdv : Value) (A : Around) (outer : List PySem.Env) (s : Shared) (H : Hp) (E : XK), Room 13 (A.deeper (envOfC "_law_right" (defScope s_law_right) s.heap.objs.size f cdv)) → {t : TS // PSs (cxOf CX0 P w K mg base ["_law_bag_here", "_law_prime_here", "_law_letters", "_law_degree", "_law_high", "_law_tables", "_law_turn", "_law_far", "_law_number_here", "_law_low_here"] "_law_right" (defScope s_law_right) f cdv A outer s H E).nox (defBody s_law_right) t} := fun f cdv A outer s H E hr => ⟨_, (pss_cons (ps_asg (pe_tup (pa_cons (pe_fn G_law_prime (hr.mono (by decide)) (pa_cons (pv 0) pa_nil)) (pa_cons (pe_op op_add pe_int (pe_fn G_law_grab (hr.mono (by decide)) (pa_cons (pv 0) (pa_cons pe_int pa_nil)))) pa_nil))) (pg_tupK (K := K) (n := 2) rfl (pgs_cons (pg_name (i := 1) nd rfl (Or.inr rfl)) (pgs_cons (pg_name (i := 2) nd rfl (Or.inr rfl)) pgs_nil)))) (pss_cons (ps_asg (pe_tup (pa_cons (pe_fn G_law_grab (hr.mono (by decide)) (pa_cons (pv 0) (pa_cons pe_int pa_nil))) (pa_cons (pe_fn G_law_grab (hr.mono (by decide)) (pa_cons (pv 0) (pa_cons pe_int pa_nil))) pa_nil))) (pg_tupK (K := K) (n := 2) rfl (pgs_cons (pg_name (i := 3) nd rfl (Or.inr rfl)) (pgs_cons (pg_name (i := 4) nd rfl (Or.inl rfl)) pgs_nil)))) (pss_cons (ps_setLc (i := 5) (own := [("_law_turn", 6)]) rfl nd rfl rfl (sw_true rfl rfl rfl (by decide +kernel)) (pi_range1 (by rfl) T.z_range (pa_cons pe_int pa_nil)) (blkOk_by (N := ["_law_bag_here", "_law_prime_here", "_law_letters", "_law_degree", "_law_high", "_law_tables", "_law_turn", "_law_far", "_law_number_here", "_law_low_here"]) (sc := defScope s_law_right) (by decide +kernel)) (fun _ _ _ _ _ => by exact (pg_name (i := 6) nd rfl (Or.inl rfl))) (fun _ _ _ _ _ => by exact pts_nil) (fun _ _ _ _ _ => by exact (pe_fn G_law_terms.fn (hr.mono (by decide)) (pa_cons (pv 0) (pa_cons (pv 1) (pa_cons (pv 2) (pa_cons (pv 3) (pa_cons pe_int pa_nil)))))))) (pss_cons (ps_par (i := 7) (j := 8) rfl nd rfl rfl (by decide) rfl rfl (pa_cons (pe_fn G_law_terms.fn (hr.mono (by decide)) (pa_cons (pv 0) (pa_cons (pv 1) (pa_cons (pv 2) (pa_cons (pv 4) (pa_cons (pe_op op_powW pe_int pe_int) pa_nil)))))) (pa_cons (pe_fn G_law_number (hr.mono (by decide)) (pa_cons (pv 0) (pa_cons (pv 1) (pa_cons (pe_op op_powW pe_int pe_int) pa_nil)))) pa_nil)) (by rfl)) (pss_cons (ps_if (PW.pt (pw_or (pt_not (pt_val (pe_fn G_law_sums_right (hr.mono (by decide)) (pa_cons (pv 1) (pa_cons (pv 2) (pa_cons (pe_ix ix_list (pv 5) pe_int (fun _ _ => rfl)) (pa_cons (pe_ix ix_list (pv 5) pe_int (fun _ _ => rfl)) pa_nil))))))) (pw_or1 (pt_not (pt_val (pe_fn G_law_sums_right (hr.mono (by decide)) (pa_cons (pv 1) (pa_cons (pv 2) (pa_cons (pe_ix ix_list (pv 5) pe_int (fun _ _ => rfl)) (pa_cons pe_dnewT pa_nil)))))))))) (pss_one (ps_ret pe_bl)) pss_nil) (pss_cons (ps_if (PW.pt (pw_or (pt_not (pt_val (pe_fn G_law_products_right (hr.mono (by decide)) (pa_cons (pv 1) (pa_cons (pv 2) (pa_cons (pe_ix ix_list (pv 5) pe_int (fun _ _ => rfl)) (pa_cons (pv 7) (pa_cons (pv 8) pa_nil)))))))) (pw_or1 (pt_not (pt_val (pe_fn G_law_rules_right (hr.mono (by decide)) (pa_cons (pv 1) (pa_cons (pv 2) (pa_cons (pv 5) (pa_cons (pv 7) pa_nil)))))))))) (pss_one (ps_ret pe_bl)) pss_nil) (pss_cons (ps_set (i := 9) nd rfl (Or.inl rfl) (pe_fn G_law_terms.fn (hr.mono (by decide)) (pa_cons (pv 0) (pa_cons (pv 1) (pa_cons (pv 2) (pa_cons (pe_fn G_law_grab (hr.mono (by decide)) (pa_cons (pv 0) (pa_cons pe_int pa_nil))) (pa_cons pe_int pa_nil))))))) (pss_one (ps_ret (pe_and (pe_fn G_law_powers_right (hr.mono (by decide)) (pa_cons (pv 1) (pa_cons (pv 2) (pa_cons (pv 9) pa_nil)))) (pe_one (pe_fn G_law_sums_right (hr.mono (by decide)) (pa_cons (pv 1) (pa_cons (pv 2) (pa_cons (pv 7) (pa_cons (pv 7) pa_nil))))))))))))))))⟩
  refine fnD_mk F hX hG sc_law_right (fun _ => rfl) (fun _ _ _ _ _ _ _ us hl => match us, hl with | [_], _ => rfl) (fun f cdv A outer s H E hr => by have h := (key f cdv A outer s H E hr).2; dsimp only [key, cxOf, Cx.nox, Cx.wish] at h; exact h) (fun y n ns hp hb => ?_)
  clear key
  clear hp
  have hp := Num.primeF_ok ns
  have b1 : Num.BagI (n + 1) (Num.primeF ns).2 := Num.grab_bag (t := 10) (by decide) hb
  have e1 : EvB K (tCall (spR K R_law_prime) [] E0 (tCons (tVar 0) tNil)) (startR ["_law_bag_here", "_law_prime_here", "_law_letters", "_law_degree", "_law_high", "_law_tables", "_law_turn", "_law_far", "_law_number_here", "_law_low_here"] [.bag]) (some ns) (.int (Num.primeF ns).1) (some (Num.primeF ns).2) := c_fD (x := ()) (a_bg rfl a_nil) trivial hb
  generalize (Num.primeF ns).1 = p at hp e1
  generalize (Num.primeF ns).2 = ns1 at b1 e1
  have cap : ∀ t : Int, 0 < t → t ≤ 10 → 0 < t ∧ t.natAbs < 2 ^ 3000 := fun t h1 h2 => ⟨h1, Nat.lt_of_lt_of_le (m := 2 ^ 50) (by omega) (Nat.pow_le_pow_right (by decide) (by decide))⟩
  have gr : ∀ (t : Int) {m : Int} {ms : List Int} (ρ : Rho), 0 < t → t ≤ 10 → ρ[0]? = some (some .bag) → Num.BagI m ms → ∃ (g : Nat) (ms' : List Int), (g : Int) < t ∧ Num.BagI (m + 1) ms' ∧ EvB K (tCall (spR K R_law_grab) [] E0 (tCons (tVar 0) (tCons (tC (V.int t)) tNil))) ρ (some ms) (.int g) (some ms') := fun t m ms ρ h1 h2 h0 hm => by
    have r := Num.grab_rng (t := t) h1 ms
    exact ⟨(Num.grabF t ms).1.toNat, (Num.grabF t ms).2, by omega, Num.grab_bag h1 hm, (c_fD (x := t) (a_bg h0 (a_con d_int a_nil)) (cap t h1 h2) hm).to (congrArg PyData.int (by omega))⟩
  obtain ⟨g, ns2, hg, b2, e2⟩ := gr 2 (startR ["_law_bag_here", "_law_prime_here", "_law_letters", "_law_degree", "_law_high", "_law_tables", "_law_turn", "_law_far", "_law_number_here", "_law_low_here"] [.bag]) (by decide) (by decide) rfl b1
  obtain ⟨l, hl⟩ : ∃ l : Nat, l = 2 + g := ⟨_, rfl⟩
  have l23 : l = 2 ∨ l = 3 := by omega
  have e2' := (d_add (d_int (i := 2)) e2).to (show PyData.int (2 + (g : Int)) = .int (l : Nat) from congrArg PyData.int (by omega))
  obtain ⟨D, ns3, hD, b3, e3⟩ := gr 5 [some .bag, some (.imm (.int p)), some (.imm (.int (l : Nat))), none, none, none, none, none, none, none] (by decide) (by decide) rfl b2
  obtain ⟨U, ns4, hU, b4, e4⟩ := gr 4 [some .bag, some (.imm (.int p)), some (.imm (.int (l : Nat))), none, none, none, none, none, none, none] (by decide) (by decide) rfl b3
  have tm : ∀ {m : Int} {ms : List Int} (ρ : Rho) (i : Nat) (te : TE) (d : Nat) (s : Int), Num.BagI m ms → ρ[0]? = some (some .bag) → ρ[1]? = some (some (.imm (.int p))) → ρ[2]? = some (some (.imm (.int (l : Nat)))) → ρ[i]? = some (some (.imm (.int (d : Nat)))) → d ≤ 5 → 1 ≤ s ∧ s ≤ 2 ^ 30 → EvB K te ρ (some ms) (.int s) (some ms) → ∃ (T : CQ) (ms' : List Int) (m' : Int), FormOk p l d 31 T ∧ Num.BagI m' ms' ∧ EvB K (tCall (spR K (fB a_law_terms Pre_law_terms F_law_terms)) [] E0 (tCons (tVar 0) (tCons (tVar 1) (tCons (tVar 2) (tCons (tVar i) (tCons te tNil)))))) ρ (some ms) (dT (cD T)) (some ms') := fun {m ms} ρ i te d s hm h0 h1 h2 h3 hd hs ev => by
    obtain ⟨x, ms', m', ⟨T, rfl, ok⟩, hm', e⟩ := G_law_terms.call (K := K) (E := E0) (ρ := ρ) (t := tCons (tVar 0) (tCons (tVar 1) (tCons (tVar 2) (tCons (tVar i) (tCons te tNil))))) (y := (p, l, d, s)) (a_bg h0 (a_con (d_var h1) (a_con (d_var h2) (a_con (d_var h3) (a_con ev a_nil))))) ⟨hp, l23, hd, hs.1, hs.2⟩ hm
    exact ⟨T, ms', m', ok, hm', e⟩
  obtain ⟨A, ns5, n5, okA, b5, eA⟩ := tm [some .bag, some (.imm (.int p)), some (.imm (.int (l : Nat))), some (.imm (.int (D : Nat))), some (.imm (.int (U : Nat))), none, some (.imm (.int (0 + ((0 : Nat) : Int)))), none, none, none] 3 (tC (V.int 9)) D 9 b4 rfl rfl rfl rfl (by omega) (by decide) d_int
  obtain ⟨B, ns6, n6, okB, b6, eB⟩ := tm [some .bag, some (.imm (.int p)), some (.imm (.int (l : Nat))), some (.imm (.int (D : Nat))), some (.imm (.int (U : Nat))), none, some (.imm (.int (0 + ((1 : Nat) : Int)))), none, none, none] 3 (tC (V.int 9)) D 9 b5 rfl rfl rfl rfl (by omega) (by decide) d_int
  obtain ⟨C, ns7, n7, okC, b7, eC⟩ := tm [some .bag, some (.imm (.int p)), some (.imm (.int (l : Nat))), some (.imm (.int (D : Nat))), some (.imm (.int (U : Nat))), none, some (.imm (.int (0 + ((2 : Nat) : Int)))), none, none, none] 3 (tC (V.int 9)) D 9 b6 rfl rfl rfl rfl (by omega) (by decide) d_int
  have pow : ∀ {ρ : Rho} {β : Bag} (k : Int), CPowW 10 k → EvB K (tOp (rI CPowW fun i j => V.int (i ^ j.toNat)) (tC (V.int 10)) (tC (V.int k))) ρ β (.int (10 ^ k.toNat)) β := fun k h => d_pow d_int d_int h
  have p9 : CPowW 10 9 := ⟨by decide, by decide⟩
  have p12 : CPowW 10 12 := ⟨by decide, by decide⟩
  obtain ⟨Z, ns8, n8, okZ, b8, eZ⟩ := tm [some .bag, some (.imm (.int p)), some (.imm (.int (l : Nat))), some (.imm (.int (D : Nat))), some (.imm (.int (U : Nat))), some (.imm (.list [dT (cD A), dT (cD B), dT (cD C)])), none, none, none, none] 4 (tOp (rI CPowW fun i j => V.int (i ^ j.toNat)) (tC (V.int 10)) (tC (V.int 9))) U (10 ^ (9 : Int).toNat) b7 rfl rfl rfl rfl (by omega) (by decide) (pow 9 p9)
  have eN : EvB K (tCall (spR K R_law_number) [] E0 (tCons (tVar 0) (tCons (tVar 1) (tCons (tOp (rI CPowW fun i j => V.int (i ^ j.toNat)) (tC (V.int 10)) (tC (V.int 12))) tNil)))) [some .bag, some (.imm (.int p)), some (.imm (.int (l : Nat))), some (.imm (.int (D : Nat))), some (.imm (.int (U : Nat))), some (.imm (.list [dT (cD A), dT (cD B), dT (cD C)])), none, none, none, none] (some ns8) (.int (Num.numberF p (10 ^ (12 : Int).toNat) ns8).1) (some (Num.numberF p (10 ^ (12 : Int).toNat) ns8).2) := c_fD (x := (p, 10 ^ (12 : Int).toNat)) (a_bg rfl (a_con (d_var rfl) (a_con (pow 12 p12) a_nil))) ⟨hp, by show (0 : Int) ≤ 10 ^ (12 : Int).toNat; decide, by show (10 : Int) ^ (12 : Int).toNat ≤ 2 ^ 40; decide⟩ b8
  have b9 := Num.number_bag (s := 10 ^ (12 : Int).toNat) hp (by decide) b8
  have fN := num_fits (s := 10 ^ (12 : Int).toNat) hp (by decide) (by decide) ns8
  generalize (Num.numberF p (10 ^ (12 : Int).toNat) ns8).1 = v at eN fN
  generalize (Num.numberF p (10 ^ (12 : Int).toNat) ns8).2 = ns9 at eN b9
  have low : ∀ {m : Nat}, m ≤ 30 → lowD l m := fun {m} h => l23.imp (fun z => ⟨z, by omega⟩) fun z => ⟨z, h⟩
  obtain ⟨W, ns10, hW, b10, e10⟩ := gr 3 [some .bag, some (.imm (.int p)), some (.imm (.int (l : Nat))), some (.imm (.int (D : Nat))), some (.imm (.int (U : Nat))), some (.imm (.list [dT (cD A), dT (cD B), dT (cD C)])), none, some (.imm (dT (cD Z))), some (.imm (.int v)), none] (by decide) (by decide) rfl b9
  obtain ⟨x, ns11, n11, ⟨L, rfl, okL⟩, b11, eL⟩ := G_law_terms.call' (K := K) (E := E0) (ρ := [some .bag, some (.imm (.int p)), some (.imm (.int (l : Nat))), some (.imm (.int (D : Nat))), some (.imm (.int (U : Nat))), some (.imm (.list [dT (cD A), dT (cD B), dT (cD C)])), none, some (.imm (dT (cD Z))), some (.imm (.int v)), none]) (t := tCons (tVar 0) (tCons (tVar 1) (tCons (tVar 2) (tCons (tCall (spR K R_law_grab) [] E0 (tCons (tVar 0) (tCons (tC (V.int 3)) tNil))) (tCons (tC (V.int 5)) tNil))))) (y := (p, l, W, 5)) (a_bg rfl (a_con (d_var rfl) (a_con (d_var rfl) (a_con e10 (a_con d_int a_nil))))) ⟨hp, l23, by show W ≤ 5; omega, by show (1 : Int) ≤ 5; decide, by show (5 : Int) ≤ 2 ^ 30; decide⟩ b10
  refine ⟨.bool true, ns11, n11, rfl, b11, .ret (st_seq (st_unpack (is := [1, 2]) (n := 2) (d_tup (ds := [.int p, .int (l : Nat)]) (a_con e1 (a_con e2' a_nil)) rfl (by show 2 ≤ 100000; decide)) rfl rfl) (st_seq (st_unpack (is := [3, 4]) (n := 2) (d_tup (ds := [.int (D : Nat), .int (U : Nat)]) (a_con e3 (a_con e4 a_nil)) rfl (by show 2 ≤ 100000; decide)) rfl rfl)
    (st_seq (st_asg (d_lcR1 (i := 3) d_int (by decide) (.yes t_yes0 eA (.yes t_yes0 eB (.yes t_yes0 eC (.nil _ _)))) (by show 3 ≤ 100000; decide) (wipe_ok (by decide)))) (st_seq (st_par eZ eN) (st_seq (st_ifF (t_orB (t_notB ?s1) (t_notB ?s2)) st_next) (st_seq (st_ifF (t_orB (t_notB ?p1) (t_notB ?r1)) st_next) (st_seq (st_asg eL) (st_ret (d_andB ?w1 ?s3)))))))))⟩
  case s1 => exact d_call0 (a_con (d_var rfl) (a_con (d_var rfl) (a_con (d_ixL (d_var rfl) d_int (atI_nat (j := 0) rfl)) (a_con (d_ixL (d_var rfl) d_int (atI_nat (j := 1) rfl)) a_nil)))) ⟨p, l, A, B, rfl, ⟨hp, D, low (by omega), okA, okB⟩, rfl, rfl, rfl⟩
  case s2 => exact d_call0 (a_con (d_var rfl) (a_con (d_var rfl) (a_con (d_ixL (d_var rfl) d_int (atI_nat (j := 2) rfl)) (a_con d_newT a_nil)))) ⟨p, l, C, [], rfl, ⟨hp, D, low (by omega), okC, .nil⟩, rfl, rfl, rfl⟩
  case p1 => exact d_call0 (a_con (d_var rfl) (a_con (d_var rfl) (a_con (d_ixL (d_var rfl) d_int (atI_nat (j := 0) rfl)) (a_con (d_var rfl) (a_con (d_var rfl) a_nil))))) ⟨p, l, A, Z, v, rfl, ⟨hp, fN.1, fN.2, D, U, low (by omega), okA, okZ⟩, rfl, rfl, rfl⟩
  case r1 => exact d_call0 (a_con (d_var rfl) (a_con (d_var rfl) (a_con (d_var rfl) (a_con (d_var rfl) a_nil)))) ⟨p, l, [A, B, C], Z, rfl, ⟨hp, rfl, D, U, low (by omega), (fun T hT => by
    (rcases List.mem_cons.mp hT with rfl | hT)
    · exact okA
    · (rcases List.mem_cons.mp hT with rfl | hT)
      · exact okB
      · obtain rfl := List.mem_singleton.mp hT
        exact okC), okZ⟩, rfl, rfl, rfl⟩
  case w1 => exact d_call0 (a_con (d_var rfl) (a_con (d_var rfl) (a_con (d_var rfl) a_nil))) ⟨p, l, L, rfl, ⟨hp, W, low (by omega), okL⟩, rfl, rfl, rfl⟩
  case s3 => exact d_call0 (a_con (d_var rfl) (a_con (d_var rfl) (a_con (d_var rfl) (a_con (d_var rfl) a_nil)))) ⟨p, l, Z, Z, rfl, ⟨hp, U, low (by omega), okZ, okZ⟩, rfl, rfl, rfl⟩
end K05
set_option Elab.async false
set_option linter.all false
set_option maxRecDepth 100000
set_option maxHeartbeats 1100000
namespace K05
open PySem L2 TD PySem.Spec PyProof.Rows
open Evl (Ex ex_l ex_t fresh_back sq_of st_of sz_of sz_lt rMax2)
variable [TabW]
abbrev s_law_bag : Stmt := top 59
theorem sc_law_bag : FnScope ["_law_script", "_law_spot", "_law_cell", "_law_great", "_law_mixed"] ["_law_script", "_law_spot"] (defScope s_law_bag) := ⟨rfl, rfl, rfl, by decide +kernel, rfl, by decide +kernel, by decide +kernel⟩
abbrev R_law_bag : PySem.W.Frag → Sp := spBag
theorem ok_law_bag {P : Program} {w : World} {K : PySem.W.Frag} {mg : Str → Option Value} {base : Heap}  (F : DefAt K "_law_bag" s_law_bag) (hX : K.In base) (hG : base.Ns mainGlobals mg) {Y : Cn} (T : Txt K mg Y)   : FnS P w K mg base 1 "_law_bag" ["_law_script", "_law_spot"] (R_law_bag K) := by
  have nd := sc_law_bag.nd
  refine fnS_mk F hX hG sc_law_bag ?len (fun _ _ _ _ _ _ _ us hl => match us, hl with | [_, _], _ => rfl) (fun f cdv A outer s H E hr => ⟨_, (pss_cons (ps_set (i := 2) nd rfl (Or.inl rfl) (pe_ifExp (pt_cmpR op_lt (pv 1) (pe_callB (c_lenK (K := K)) (by rfl) T.z_len bo_len (pa_cons (pv 0) pa_nil)) (nomark _)) (pe_ix ix_list (pv 0) (pv 1) (fun _ _ => rfl)) (pe_op op_add (pe_op op_add (pe_callB (cr_sum rfl) (by rfl) T.z_sum bo_sum (pa_cons (pe_slice sl_list (pv 0) po_none (po_some pe_int)) pa_nil)) (pe_op op_mul pe_int (pv 1))) pe_int))) (pss_cons (ps_set (i := 3) nd rfl (Or.inl rfl) (pe_op op_mod (pe_callTy c_int (by rfl) T.z_int bo_int (pa_cons (pe_callB c_abs (by rfl) T.z_abs bo_abs (pa_cons (pv 2) pa_nil)) pa_nil)) (pe_op op_powW (pe_op op_powW pe_int pe_int) pe_int))) (pss_cons (ps_set (i := 4) nd rfl (Or.inl rfl) (pe_op op_add (pe_op op_add (pe_op op_add (pe_op op_mul (pe_op op_mod (pe_callTy c_int (by rfl) T.z_int bo_int (pa_cons (pv 3) pa_nil)) pe_int) pe_int) (pe_op op_mul pe_int (pv 1))) (pe_op op_mul pe_int (pe_callTy c_int (by rfl) T.z_int bo_int (pa_cons (pe_cmpR op_lt (pv 2) pe_int (nomark _)) pa_nil)))) pe_int)) (pss_one (ps_ret (pe_lst (pa_cons (pe_callB (c_max2 rfl) (by rfl) T.z_max bo_max (pa_cons pe_int (pa_cons (pe_op op_sub (pv 3) (pe_op op_powW pe_int pe_int)) pa_nil))) (pa_cons (pe_op op_mod (pe_callTy c_int (by rfl) T.z_int bo_int (pa_cons (pv 4) pa_nil)) pe_int) (pa_cons pe_int pa_nil))))))))), fun vs H Q E hsp => ?run⟩)
  case len =>
    rintro vs H Q E ⟨a, ns, spot, G, rfl, _⟩
    rfl
  case run =>
    dsimp only [cxOf, Cx.nox, Cx.wish]
    obtain ⟨a, ns, spot, G, rfl, e, tb, hS, h0, h10, k⟩ := hsp
    have hb : ∀ (b : Addr) (c : Int) (G' H' : Hp), Step b false G H G' H' → EnvD K b none G' H' [some (.ref a), some (.int spot), some (.int c), none, none] [none, some (.imm (.int spot)), some (.imm (.int c)), none, none] := fun b c G' H' s' => by
      refine ⟨s'.s, (fun _ z => nomatch z), rfl, fun i d hi => ?_, fun i hi => ?_, s'.tabs tb, fun i a hi => ?_⟩
      · match i, hi with
        | 0, hi => cases hi
        | 1, hi => cases hi; exact ⟨_, rfl, .int _⟩
        | 2, hi => cases hi; exact ⟨_, rfl, .int _⟩
        | 3, hi => cases hi
        | 4, hi => cases hi
        | n + 5, hi => cases hi
      · match i, hi with
        | 0, hi => cases hi
        | 1, hi => cases hi
        | 2, hi => cases hi
        | 3, hi => cases hi
        | 4, hi => cases hi
        | n + 5, hi => cases hi
      · match i, hi with
        | 0, hi => cases hi
        | 1, hi => cases hi
        | 2, hi => cases hi
        | 3, hi => cases hi
        | 4, hi => cases hi
        | n + 5, hi => cases hi
    have tail : ∀ (b : Addr) (c : Int) (G' H' : Hp) (D : Ends), D.rt = Q → Step b false G H G' H' → (tSeq (tAsg (tOp (rI (fun _ j => 0 < j) fun i j => .int (i % j)) (tCB rInt1 (tCons (tCB rAbs (tCons (tVar 2) tNil)) tNil)) (tOp (rI CPowW fun i j => .int (i ^ j.toNat)) (tOp (rI CPowW fun i j => .int (i ^ j.toNat)) (tC (.int 10)) (tC (.int 45))) (tC (.int 13)))) (gName 3)) (tSeq (tAsg (tOp (rI0 fun i j => .int (i + j)) (tOp (rI0 fun i j => .int (i + j)) (tOp (rI0 fun i j => .int (i + j)) (tOp (rI CMul fun i j => .int (i * j)) (tOp (rI (fun _ j => 0 < j) fun i j => .int (i % j)) (tCB rInt1 (tCons (tVar 3) tNil)) (tC (.int 2305843009213693723))) (tC (.int 1000403))) (tOp (rI CMul fun i j => .int (i * j)) (tC (.int 9041)) (tVar 1))) (tOp (rI CMul fun i j => .int (i * j)) (tC (.int 47)) (tCB rInt1 (tCons (tOp (rI0 fun i j => .bl (decide (i < j))) (tVar 2) (tC (.int 0))) tNil)))) (tC (.int 31))) (gName 4))
        (tRet (tLst (tCons (tCB rMax2 (tCons (tC (.int 0)) (tCons (tOp (rI0 fun i j => .int (i - j)) (tVar 3) (tOp (rI CPowW fun i j => .int (i ^ j.toNat)) (tC (.int 10)) (tC (.int 18)))) tNil))) (tCons (tOp (rI (fun _ j => 0 < j) fun i j => .int (i % j)) (tCB rInt1 (tCons (tVar 4) tNil)) (tC (.int 2305843009213693951))) (tCons (tC (.int 0)) tNil))))))) D [some (.ref a), some (.int spot), some (.int c), none, none] H' := by
      intro b c G' H' D hD s'
      have hpp : (0 : Int) < (10 ^ (45 : Int).toNat) ^ (13 : Int).toNat := by decide
      have cp : CPowW (10 ^ (45 : Int).toNat) 13 := ⟨by decide, by decide⟩
      refine (st_asg (d_mod (d_intI (d_abs (d_var rfl))) (d_pow (d_pow d_int d_int ⟨by decide, by decide⟩) d_int cp) hpp)).run b G' H' _ _ (hb b c G' H' s') fun σ2 G2 H2 s2 E2 => ?_
      refine (st_asg (d_add (d_add (d_add (d_mul (d_mod (d_intI (d_var rfl)) d_int (by decide)) d_int (.inr (by decide))) (d_mul d_int (d_var rfl) (.inl (by decide)))) (d_mul d_int (d_intB (d_lt (d_var rfl) d_int)) (.inl (by decide)))) d_int)).run b G2 H2 _ _ E2 fun σ3 G3 H3 s3 E3 => ?_
      dsimp only [tRet]
      unfold tLst
      refine' EvA.run (as := imms (List.map PyData.int [if (TD.absI c % (10 ^ 45) ^ 13 - 10 ^ 18) > 0 then TD.absI c % (10 ^ 45) ^ 13 - 10 ^ 18 else 0, (((TD.absI c % (10 ^ 45) ^ 13) % 2305843009213693723 * 1000403 + 9041 * spot) + 47 * (if decide (c < 0) = true then 1 else 0) + 31) % 2305843009213693951, 0])) (β' := none) ?ea b G3 H3 σ3 _ E3 fun vs G4 H4 s4 k4 d4 => ?_
      case ea => exact a_con (β1 := none) (d_max2 (β1 := none) d_int (d_sub (β1 := none) (d_var rfl) (d_pow (β1 := none) d_int d_int ⟨by decide, by decide⟩))) (a_con (β1 := none) (d_mod (β1 := none) (d_intI (d_var rfl)) d_int (by show (0 : Int) < 2305843009213693951; decide)) (a_con (β1 := none) d_int a_nil))
      have s := ((s'.trans s2).trans s3).trans s4
      have dl := DenSs.imm (ds := List.map PyData.int [if (TD.absI c % (10 ^ 45) ^ 13 - 10 ^ 18) > 0 then TD.absI c % (10 ^ 45) ^ 13 - 10 ^ 18 else 0, (((TD.absI c % (10 ^ 45) ^ 13) % 2305843009213693723 * 1000403 + 9041 * spot) + 47 * (if decide (c < 0) = true then 1 else 0) + 31) % 2305843009213693951, 0]) d4
      have ev := dl.ints
      subst ev
      refine ⟨by show 3 ≤ sizeLine; decide, fun p hp => ?_⟩
      have gp : G4 p = none := fresh_back s.s hp
      have hp0 : Gone H p := fun o t z => by
        obtain ⟨o', _, z2⟩ := s.stay p o t z
        rw [hp] at z2
        cases z2
      have sm : ∀ xs : List V, Step p false G H G4 (upd H4 p (.lst xs)) := fun xs => by
        have sm : Step b false G H G4 (upd H4 p (.lst xs)) := s.mut hp0 gp (LstAt.none hp)
        exact ⟨sm.g, sm.s, sm.fresh, fun x o _ t h => sm.keep x o (fun z => nomatch z) t h, sm.stay, sm.tabs⟩
      rw [hD]
      exact k p G4 _ _ (sm _) gp upd_same (bag_ok h0)
    have hSH := ex_l e hS
    refine ⟨_, rfl, _, rfl, a, ns.map V.int, rfl, .inl hSH, spot, _, rfl, rfl, _, rfl, ?_⟩
    by_cases hlt : spot < ((ns.map V.int).length : Int)
    · dsimp only []
      rw [if_pos (decide_eq_true hlt)]
      obtain ⟨m, hm⟩ : ∃ m : Nat, spot = (m : Int) := ⟨spot.toNat, by omega⟩
      subst hm
      have hlt' : m < ns.length := by rw [List.length_map] at hlt; omega
      exact ⟨_, rfl, _, rfl, a, ns.map V.int, (m : Int), V.int ns[m], rfl, rfl, hSH, atI_nat (by rw [List.getElem?_map, List.getElem?_eq_getElem hlt']; rfl), tail 0 _ G H _ rfl (Step.refl e)⟩
    · dsimp only []
      rw [if_neg (by rw [decide_eq_false hlt]; decide)]
      refine ⟨_, rfl, 1, rfl, a, ns.map V.int, rfl, hSH, fun p hp => ?_⟩
      have n := Step.new (b := 0) (m := false) (o := .lst (cutV (ns.map V.int) none (some 1))) e hp
      have ec : cutV (ns.map V.int) none (some 1) = ((ns.drop (HT.sIx ns.length 0 none)).take (HT.sIx ns.length ns.length (some 1) - HT.sIx ns.length 0 none)).map V.int := by
        unfold cutV
        rw [List.map_take, List.map_drop, List.length_map]
      exact ⟨p, _, rfl, sq_of (by rw [upd_same, ec]), _, rfl, 127, spot, rfl, rfl, .inl (by decide), _, _, rfl, rfl, _, _, rfl, rfl, tail 0 _ _ _ _ rfl n⟩
end K05
set_option Elab.async false
set_option linter.all false
set_option maxRecDepth 100000
set_option maxHeartbeats 1100000
namespace K05
open PySem L2 TD PySem.Spec PyProof.Rows
open Evl (Ex ex_l ex_t fresh_back sq_of st_of sz_of sz_lt rMax2)
variable [TabW]
theorem un_call {K : PySem.W.Frag} {tt : TT} {ρ : Rho} {β β' : Bag} {c : Bool} {p : Addr} {G H : Hp} {σ : L2.St} {Z : Prop} {Q : Bool → Hp → Prop} (e : TtB K tt ρ β c β') (E5 : EnvD K p β G H σ ρ) (hz : tt σ H Q → Z) (k : ∀ G2 H2, TD.Step p β.isSome G H G2 H2 → BagOk p β' G2 H2 → Q c H2) : Z := hz (e.run p G H σ Q E5 k)
theorem d_isN0 {K : PySem.W.Frag} {te : TE} {ρ : Rho} {β β1 : Bag} (h : EvB K te ρ β .none β1) : EvB K (tOp (fun x y H Q => y = V.non ∧ Q (V.bl (decide (x = V.non))) H) te (tC .non)) ρ β (.bool true) β1 := ⟨h.som, fun b G H σ Q E k => h.run b G H σ _ E fun v G1 H1 s1 k1 d1 => ⟨rfl, by
  have := k (.bl true) G1 H1 s1 k1 (.bl _)
  cases d1
  rw [decide_eq_true rfl]
  exact this⟩⟩
theorem pr3 : Num.PrimeI 3 := by unfold Num.PrimeI Num.primes; simp
theorem pr0 : Num.PrimeI 0 := by unfold Num.PrimeI Num.primes; simp
def oneA : CQ := [([1, 0], 1), ([0, 1], 1)]
def twoA : CQ := [([1, 0], 1), ([0, 1], 2)]
def bothA : CQ := [([2, 0], 1), ([0, 2], 2)]
def cubeA : CQ := [([3, 0], 1), ([0, 3], 1)]
def farA : CQ := [([20, 0], 1)]
theorem oneA_ok : FormOk 3 2 1 2 oneA := ⟨⟨by decide, by decide, by decide⟩, by unfold HomF HomK; decide, by unfold CoF; decide⟩
theorem twoA_ok : FormOk 3 2 1 2 twoA := ⟨⟨by decide, by decide, by decide⟩, by unfold HomF HomK; decide, by unfold CoF; decide⟩
theorem bothA_ok : FormOk 3 2 2 2 bothA := ⟨⟨by decide, by decide, by decide⟩, by unfold HomF HomK; decide, by unfold CoF; decide⟩
theorem cubeA_ok : FormOk 3 2 3 2 cubeA := ⟨⟨by decide, by decide, by decide⟩, by unfold HomF HomK; decide, by unfold CoF; decide⟩
theorem farA_ok : FormOk 0 2 20 5 farA := ⟨⟨by decide, by decide, by decide⟩, by unfold HomF HomK; decide, by unfold CoF; decide⟩
theorem low2 {d : Nat} (h : d ≤ 40) : lowD 2 d := .inl ⟨rfl, h⟩
theorem both_ev (φ : List Int → Int) : Cg 3 (evF φ bothA) (evF (fun x => evF (fun y => φ (zs x y)) twoA) oneA) := by
  show (3 : Int) ∣ (1 * φ [2, 0] + (2 * φ [0, 2] + 0)) - (1 * (1 * φ [2, 0] + (2 * φ [1, 1] + 0)) + (1 * (1 * φ [1, 1] + (2 * φ [0, 2] + 0)) + 0))
  omega
theorem cube_is : fpowT 3 2 oneA 3 = cubeA := by decide +kernel
theorem far_is : fpowT 0 2 farA 2 = [([40, 0], 1)] := by decide +kernel
abbrev s_law : Stmt := top 77
theorem sc_law : FnScope ["_law_script", "_law_spot", "_law_one", "_law_other", "_law_far"] ["_law_script"] (defScope s_law) := ⟨rfl, rfl, rfl, by decide +kernel, rfl, by decide +kernel, by decide +kernel⟩
abbrev R_law : PySem.W.Frag → Sp := spLaw
theorem ok_law {P : Program} {w : World} {K : PySem.W.Frag} {mg : Str → Option Value} {base : Heap}  (F : DefAt K "law" s_law) (hX : K.In base) (hG : base.Ns mainGlobals mg) {Y : Cn} (T : Txt K mg Y)  (G_Form_init : FnID P w K mg base 6 "Form" Y.cl ["self", "prime", "letters", "table"] (R_Form_init Y)) {F_law_right : _} (G_law_right : FnD P w K mg base 14 "_law_right" ["_law_bag_here"] a_law_right Pre_law_right Post_law_right F_law_right) (G_Form_table : FnP P w K mg base 1 Y.cl "table" (R_Form_table Y)) (G_Form_degree : FnP P w K mg base 2 Y.cl "degree" (R_Form_degree Y)) (G_Form_mul : FnM P w K mg base 9 Y.cl "__mul__" ["self", "other"] (R_Form_mul Y)) (G_law_bag : FnS P w K mg base 1 "_law_bag" ["_law_script", "_law_spot"] (R_law_bag K)) (G_Form_power : FnM P w K mg base 9 Y.cl "power" ["self", "many"] (R_Form_power Y)) (G_Form_eq : FnM P w K mg base 1 Y.cl "__eq__" ["self", "other"] (R_Form_eq Y)) : FnSG P w K mg base 15 "law" ["_law_script"] (R_law K) := by
  have nd := sc_law.nd
  refine fnSG_mk F hX hG sc_law ?len (fun _ _ _ _ _ _ _ us hl => match us, hl with | [_], _ => rfl) (fun f cdv A outer s H E hr => ⟨_, (pss_cons (ps_for PassesOwn.never rfl (pi_range1 (by rfl) T.z_range (pa_cons (pe_callB (c_max2 rfl) (by rfl) T.z_max bo_max (pa_cons pe_int (pa_cons (pe_callB (c_min2 rfl) (by rfl) T.z_min bo_min (pa_cons pe_int (pa_cons (pe_callB (c_lenK (K := K)) (by rfl) T.z_len bo_len (pa_cons (pv 0) pa_nil)) pa_nil))) pa_nil))) pa_nil)) (pg_name (i := 1) nd rfl (Or.inl rfl)) (pss_one (ps_if (pt_not (pt_val (pe_fn G_law_right.fn (hr.toRoom.mono (by decide)) (pa_cons (pe_fnS G_law_bag (hr.toRoom.mono (by decide)) (pa_cons (pv 0) (pa_cons (pv 1) pa_nil))) pa_nil)))) (pss_one (ps_ret pe_bl)) pss_nil))) (pss_cons (ps_par (i := 2) (j := 3) rfl nd rfl rfl (by decide) rfl rfl (pa_cons (pe_newA (E := E0) G_Form_init (hr.toRoom.mono (by decide)) passL (pa_cons pe_int (pa_cons pe_int (pa_cons (pe_dispT hr.toRoom (pps_cons (pe_tup (pa_cons pe_int (pa_cons pe_int pa_nil))) pe_int (pps_cons (pe_tup (pa_cons pe_int (pa_cons pe_int pa_nil))) pe_int pps_nil)) (by rfl) (by rfl) (by simp) (by decide)) pa_nil)))) (pa_cons (pe_newA (E := E0) G_Form_init (hr.toRoom.mono (by decide)) passL (pa_cons pe_int (pa_cons pe_int (pa_cons (pe_dispT hr.toRoom (pps_cons (pe_tup (pa_cons pe_int (pa_cons pe_int pa_nil))) pe_int (pps_cons (pe_tup (pa_cons pe_int (pa_cons pe_int pa_nil))) pe_int pps_nil)) (by rfl) (by rfl) (by simp) (by decide)) pa_nil)))) pa_nil)) (by rfl)) (pss_cons (ps_if (PW.pt (pw_or (pt_cmpR (op_neDT hr.toRoom) (pe_p G_Form_table (hr.toRoom.mono (by decide)) (pe_op (op_binO G_Form_mul (hr.toRoom.mono (by decide)) T.sf) (pv 2) (pv 3))) (pe_dispT hr.toRoom (pps_cons (pe_tup (pa_cons pe_int (pa_cons pe_int pa_nil))) pe_int (pps_cons (pe_tup (pa_cons pe_int (pa_cons pe_int pa_nil))) pe_int pps_nil)) (by rfl) (by rfl) (by simp) (by decide)) (nomark _)) (pw_or1 (pt_cmpR (op_neDT hr.toRoom) (pe_p G_Form_table (hr.toRoom.mono (by decide)) (pe_m G_Form_power (hr.toRoom.mono (by decide)) (pv 2) (pa_cons pe_int pa_nil))) (pe_dispT hr.toRoom (pps_cons (pe_tup (pa_cons pe_int (pa_cons pe_int pa_nil))) pe_int (pps_cons (pe_tup (pa_cons pe_int (pa_cons pe_int pa_nil))) pe_int pps_nil)) (by rfl) (by rfl) (by simp) (by decide)) (nomark _))))) (pss_one (ps_ret pe_bl)) pss_nil) (pss_cons (ps_set (i := 4) nd rfl (Or.inl rfl) (pe_newA (E := E0) G_Form_init (hr.toRoom.mono (by decide)) passL (pa_cons pe_int (pa_cons pe_int (pa_cons (pe_dispT hr.toRoom (pps_cons (pe_tup (pa_cons pe_int (pa_cons pe_int pa_nil))) pe_int pps_nil) (by rfl) (by rfl) (by simp) (by decide)) pa_nil))))) (pss_one (ps_ret (pe_and (pe_cmpR op_eq (pe_p G_Form_degree (hr.toRoom.mono (by decide)) (pe_op (op_binO G_Form_mul (hr.toRoom.mono (by decide)) T.sf) (pv 4) (pv 4))) pe_int (nomark _)) (pe_and (pe_cmpR (op_eqO G_Form_eq (hr.toRoom.mono (by decide))) (pe_m G_Form_power (hr.toRoom.mono (by decide)) (pv 4) (pa_cons pe_int pa_nil)) (pe_op (op_binO G_Form_mul (hr.toRoom.mono (by decide)) T.sf) (pv 4) (pv 4)) (nomark _)) (pe_one (pe_cmpR op_isN (pe_p G_Form_degree (hr.toRoom.mono (by decide)) (pe_op (op_binO G_Form_mul (hr.toRoom.mono (by decide)) T.sf) (pe_op (op_binO G_Form_mul (hr.toRoom.mono (by decide)) T.sf) (pe_op (op_binO G_Form_mul (hr.toRoom.mono (by decide)) T.sf) (pe_newB (E := E0) G_Form_init (hr.toRoom.mono (by decide)) passL (pa_cons pe_int (pa_cons pe_int pa_nil))) (pv 4)) (pv 4)) (pv 4))) pe_non (nomark _))))))))))), fun vs H Q E hsp => ?run⟩)
  case len =>
    rintro vs H Q E ⟨a, ns, G, rfl, _⟩
    rfl
  case run =>
    dsimp only [cxOf, Cx.nox, Cx.wish]
    obtain ⟨a, ns, G, rfl, eG, tbG, hS, hl, k⟩ := hsp
    refine ⟨_, rfl, a, ns.map V.int, rfl, .inl (ex_l eG hS), ?_⟩
    refine ⟨3, _, rfl, ?_⟩
    refine ⟨1, _, rfl, ?_⟩
    refine ⟨_, rfl, ?_, ?_, ?_⟩
    · split <;> split <;> omega
    · rw [List.length_map]; split <;> split <;> omega
    refine for_range (lo := 0) (n := _) (fun i σ' H' => ∃ G', Ex G' H' ∧ TabsOk G' H' ∧ σ'.length = 5 ∧ σ'[0]? = some (some (.ref a)) ∧ SqL K G' a (ns.map V.int)) ⟨G, eG, tbG, rfl, rfl, hS⟩ ?_ ?_
    · rintro i σ' H' hi ⟨G', e, tb, hl6, h0, hS'⟩
      have hi3 : i < 3 := by
        have : (if (if ((ns.map V.int).length : Int) < 3 then ((ns.map V.int).length : Int) else 3) > 1 then (if ((ns.map V.int).length : Int) < 3 then ((ns.map V.int).length : Int) else 3) else 1) ≤ (3 : Int) := by split <;> split <;> omega
        omega
      have q0 : (σ'.set 1 (some (V.int (0 + (i : Int)))))[0]? = some (some (.ref a)) := by rw [List.getElem?_set_ne (by decide)]; exact h0
      have q1 : (σ'.set 1 (some (V.int (0 + (i : Int)))))[1]? = some (some (.int (0 + (i : Int)))) := List.getElem?_set_self (by omega)
      refine ⟨_, q0, _, q1, a, ns, 0 + (i : Int), G', rfl, e, tb, hS', by omega, by omega, fun p G2 H2 bag s2 gp hp hbag => ?_⟩
      have E5 : EnvD K p (some bag) G2 H2 [none, none, some (V.ref p), none, none] [none, none, some .bag, none, none] := by
        refine ⟨s2.s, fun ms em => (by cases em; exact ⟨hp, gp⟩), rfl, fun j d hj => ?_, fun j hj => ?_, s2.tabs tb, fun j a hj => ?_⟩
        all_goals
          match j, hj with
          | 0, hj => cases hj
          | 1, hj => cases hj
          | 2, hj => first | exact rfl | cases hj
          | 3, hj => cases hj
          | 4, hj => cases hj
          | n + 5, hj => cases hj
      obtain ⟨d2, bag2, n2, rfl, hb2, e2⟩ := G_law_right.call (K := K) (E := E0) (t := tCons (tVar 2) tNil) (ρ := [none, none, some .bag, none, none]) (y := ()) (a_bg rfl a_nil) trivial hbag
      apply un_call (t_B e2) E5
      case hz =>
        intro h
        obtain ⟨v, hv, h⟩ := h
        cases hv
        exact h
      case k =>
        intro G5 H5 s5 k5
        dsimp only []
        rw [if_neg (by decide)]
        exact ⟨G5, s5.s, s5.tabs (s2.tabs tb), by rw [List.length_set]; exact hl6, q0, ex_l (s2.g.trans s5.g) hS'⟩
    · rintro σ' H' ⟨G', e, tb, hl6, h0, hS'⟩
      have E5 : EnvD K 0 none G' H' σ' [none, none, none, none, none] := by
        refine ⟨e, (fun _ z => nomatch z), hl6, fun j d hj => ?_, fun j hj => ?_, tb, fun j a hj => ?_⟩
        all_goals
          match j, hj with
          | 0, hj => cases hj
          | 1, hj => cases hj
          | 2, hj => cases hj
          | 3, hj => cases hj
          | 4, hj => cases hj
          | n + 5, hj => cases hj
      dsimp only []
      refine StB.run (o := .ret (.bool true)) (β' := none) ?st 0 G' H' σ' _ E5 fun v G2 H2 s2 k2 d2 => ?_
      case st =>
        have p2 : ∀ {ρ : Rho} (a b : Int), EvB K (tTup (tCons (tC (.int a)) (tCons (tC (.int b)) tNil))) ρ none (tupJ [a, b]) none := fun a b => d_tup (ds := [.int a, .int b]) (a_con d_int (a_con d_int a_nil)) rfl (show 2 ≤ 100000 by decide)
        have mk : ∀ {ρ : Rho} {te : TE} (p : Int) (T : CQ) (d s : Nat), Num.PrimeI p → FormOk p 2 d s T → d ≤ 40 → s ≤ 100 → EvB K te ρ none (dT (cD T)) none → EvB K (tMake Y.cl (spI K Y.cl (R_Form_init Y)) [] E0 (tCons (tC (V.int p)) (tCons (tC (V.int 2)) (tCons te tNil)))) ρ none (formD Y.cl p 2 (descF T)) none := fun p T d s hp ok hd hs e => x_new (ps := formF p 2 (descF T)) (a_con d_int (a_con d_int (a_con e a_nil))) ⟨p, 2, dT (cD T), T, rfl, ⟨hp, .inl rfl, .inr ⟨rfl, d, s, low2 hd, hs, ok⟩⟩, rfl, rfl, rfl⟩
        have ds2 : ∀ {ρ : Rho} (a b n a' b' n' : Int), [a, b] ≠ [a', b'] → EvB K (tDispT [(tTup (tCons (tC (V.int a)) (tCons (tC (V.int b)) tNil)), tC (V.int n)), (tTup (tCons (tC (V.int a')) (tCons (tC (V.int b')) tNil)), tC (V.int n'))]) ρ none (dT (cD [([a, b], n), ([a', b'], n')])) none := fun a b n a' b' n' h => d_dispT (.cons (p2 a b) d_int (.cons (p2 a' b') d_int .nil)) (List.nodup_cons.mpr ⟨(fun z => h (List.mem_singleton.mp z)), List.nodup_cons.mpr ⟨(fun z => nomatch z), List.nodup_nil⟩⟩) (by show 2 ≤ 15; decide)
        refine st_sq (st_par (mk 3 oneA 1 2 pr3 oneA_ok (by decide) (by decide) (ds2 1 0 1 0 1 1 (by decide))) (mk 3 twoA 1 2 pr3 twoA_ok (by decide) (by decide) (ds2 1 0 1 0 1 2 (by decide)))) ?_
        show StB K _ [none, none, some (.imm (formD Y.cl 3 2 (descF oneA))), some (.imm (formD Y.cl 3 2 (descF twoA))), none] none _ _
        refine st_sq (st_ifF (t_orF (fe_tabNe pr3 (low2 (d := 1 + 1) (by decide)) (fe_mul pr3 (low2 (by decide)) (by decide) (fe_var rfl oneA_ok) (fe_var rfl twoA_ok)) (ds2 2 0 1 0 2 2 (by decide)) bothA_ok.clean both_ev) (fe_tabNe pr3 (low2 (d := 3 * 1) (by decide)) (A := fun φ => evF φ cubeA) ⟨descF (powT 3 2 (descF oneA) 3), d_meth (d_var rfl) rfl (a_con d_int a_nil) ⟨3, 2, descF oneA, 3, rfl, ⟨pr3, by decide, 1, 2, low2 (by decide), low2 (by decide), by decide, oneA_ok.desc⟩, rfl, rfl, rfl⟩, (pow_ok pr3 oneA_ok.desc (low2 (by decide)) 3 (low2 (by decide))).desc, fun φ => ((ev_desc (pow_ok pr3 oneA_ok.desc (low2 (by decide)) 3 (low2 (by decide))).clean.nd 3 φ).trans (pow_same oneA_ok.clean.nd 3 φ)).trans (Cg.of (by rw [cube_is]))⟩ (ds2 3 0 1 0 3 1 (by decide)) cubeA_ok.clean fun φ => Cg.refl 3 _)) st_next) ?_
        refine st_sq (st_asg (mk 0 farA 20 5 pr0 farA_ok (by decide) (by decide) (d_dispT (.cons (p2 20 0) d_int .nil) (List.nodup_cons.mpr ⟨(fun z => nomatch z), List.nodup_nil⟩) (by show 1 ≤ 15; decide)))) ?_
        show StB K _ [none, none, some (.imm (formD Y.cl 3 2 (descF oneA))), some (.imm (formD Y.cl 3 2 (descF twoA))), some (.imm (formD Y.cl 0 2 (descF farA)))] none _ _
        generalize hρ : ([none, none, some (.imm (formD Y.cl 3 2 (descF oneA))), some (.imm (formD Y.cl 3 2 (descF twoA))), some (.imm (formD Y.cl 0 2 (descF farA)))] : Rho) = ρ
        have h4 : ρ[4]? = some (some (.imm (formD Y.cl 0 2 (descF farA)))) := by subst hρ; rfl
        have far : FE K Y 0 2 20 5 (tVar 4) ρ fun φ => evF φ farA := fe_var h4 farA_ok
        have ff := fe_mul (K := K) (Y := Y) pr0 (low2 (d := 20 + 20) (by decide)) (by decide) far far
        have zf : ∀ {te : TE}, EvB K te ρ none (formD Y.cl 0 2 []) none → EvB K (tOp (rBinO Y.cl (spR K (R_Form_mul Y))) te (tVar 4)) ρ none (formD Y.cl 0 2 []) none := fun h => fe_nil pr0 (fe_mul (d := 0) (s := 5) (A := fun _ => 0) pr0 (low2 (d := 0 + 20) (by decide)) (by decide) ⟨[], h, .nil, fun φ => Cg.refl 0 _⟩ far) fun φ => Cg.refl 0 _
        refine st_ret (d_andT (β1 := none) ?g1 (d_andT (β := none) (β1 := none) ?g2 ?g3))
        case g1 =>
          obtain ⟨T, e1, ok, ev⟩ := ff
          have ne : T ≠ [] := fun z => by
            subst z
            have := ev fun _ => 1
            exact absurd (Int.zero_dvd.mp this) (by decide)
          exact (d_eqI (i := 40) (j := 40) ((d_prop e1 ⟨0, 2, T, rfl, rfl, rfl, rfl⟩).to (deg_of ok ne)) d_int).to rfl
        case g2 => exact fe_eq (A := fun φ => evF φ (fpowT 0 2 farA 2)) pr0 ⟨descF (powT 0 2 (descF farA) 2), d_meth (d_var h4) rfl (a_con d_int a_nil) ⟨0, 2, descF farA, 2, rfl, ⟨pr0, by decide, 20, 5, low2 (by decide), low2 (by decide), by decide, farA_ok.desc⟩, rfl, rfl, rfl⟩, (pow_ok pr0 farA_ok.desc (low2 (by decide)) 2 (low2 (by decide))).desc, fun φ => (ev_desc (pow_ok pr0 farA_ok.desc (low2 (by decide)) 2 (low2 (by decide))).clean.nd 0 φ).trans (pow_same farA_ok.clean.nd 2 φ)⟩ ff fun φ => by rw [far_is]; exact ⟨0, by show (1 * φ [40, 0] + 0) - (1 * (1 * φ [40, 0] + 0) + 0) = 0 * 0; omega⟩
        case g3 =>
          have z0 : EvB K (tMake Y.cl (spI K Y.cl (R_Form_init Y)) [V.non] E0 (tCons (tC (V.int 0)) (tCons (tC (V.int 2)) tNil))) ρ none (formD Y.cl 0 2 []) none := x_newB (ps := formF 0 2 []) (a_con d_int (a_con d_int a_nil)) ⟨0, 2, .none, [], rfl, ⟨pr0, .inl rfl, .inl ⟨rfl, rfl⟩⟩, by rw [desc_nil], rfl, rfl⟩
          exact d_isN0 ((d_prop (zf (zf (zf z0))) ⟨0, 2, [], rfl, rfl, rfl, rfl⟩).to rfl)
      · cases d2
        exact k H2
end K05
set_option Elab.async false
set_option linter.all false
set_option maxRecDepth 100000
set_option maxHeartbeats 5000000
namespace K05
open PySem L2 TD PySem.Spec PyProof.Rows
structure DefsAt (K : PySem.W.Frag) (cl : Addr) : Prop where
  d_is_integer : DefAt K "is_integer" s_is_integer
  d_degree_of : DefAt K "degree_of" s_degree_of
  d_descending : DefAt K "descending" s_descending
  d_without_zeros : DefAt K "without_zeros" s_without_zeros
  d_packed : DefAt K "packed" s_packed
  d_unpacked : DefAt K "unpacked" s_unpacked
  d_unit : DefAt K "unit" s_unit
  d_law_bag : DefAt K "_law_bag" s_law_bag
  d_law_grab : DefAt K "_law_grab" s_law_grab
  d_law_low : DefAt K "_law_low" s_law_low
  d_law_monos : DefAt K "_law_monos" s_law_monos
  d_Form_prime : PropAt K cl "prime" "Form.prime" s_Form_prime
  d_Form_letters : PropAt K cl "letters" "Form.letters" s_Form_letters
  d_Form_table : PropAt K cl "table" "Form.table" s_Form_table
  d_Form_bool : MethAt K cl "__bool__" "Form.__bool__" s_Form_bool
  d_Form_eq : MethAt K cl "__eq__" "Form.__eq__" s_Form_eq
  d_is_prime : DefAt K "is_prime" s_is_prime
  d_need_between : DefAt K "need_between" s_need_between
  d_fits : DefAt K "fits" s_fits
  d_scaled : DefAt K "scaled" s_scaled
  d_added : DefAt K "added" s_added
  d_multiplied : DefAt K "multiplied" s_multiplied
  d_need_letters : DefAt K "need_letters" s_need_letters
  d_law_one_of : DefAt K "_law_one_of" s_law_one_of
  d_law_number : DefAt K "_law_number" s_law_number
  d_law_fsum : DefAt K "_law_fsum" s_law_fsum
  d_law_fproduct : DefAt K "_law_fproduct" s_law_fproduct
  d_Form_degree : PropAt K cl "degree" "Form.degree" s_Form_degree
  d_need_prime : DefAt K "need_prime" s_need_prime
  d_all_fit : DefAt K "all_fit" s_all_fit
  d_need_alike : DefAt K "need_alike" s_need_alike
  d_law_prime : DefAt K "_law_prime" s_law_prime
  d_law_entry : DefAt K "_law_entry" s_law_entry
  d_law_fpower : DefAt K "_law_fpower" s_law_fpower
  d_are_exponents : DefAt K "are_exponents" s_are_exponents
  d_law_terms : DefAt K "_law_terms" s_law_terms
  d_are_terms : DefAt K "are_terms" s_are_terms
  d_need_addable : DefAt K "need_addable" s_need_addable
  d_Form_init : InitAtD K "Form" cl "Form.__init__" s_Form_init
  d_made : DefAt K "made" s_made
  d_law_form : DefAt K "_law_form" s_law_form
  d_Form_add : MethAt K cl "__add__" "Form.__add__" s_Form_add
  d_Form_sub : MethAt K cl "__sub__" "Form.__sub__" s_Form_sub
  d_Form_neg : MethAt K cl "__neg__" "Form.__neg__" s_Form_neg
  d_Form_mul : MethAt K cl "__mul__" "Form.__mul__" s_Form_mul
  d_Form_power : MethAt K cl "power" "Form.power" s_Form_power
  d_law_products_right : DefAt K "_law_products_right" s_law_products_right
  d_law_rules_right : DefAt K "_law_rules_right" s_law_rules_right
  d_law_powers_right : DefAt K "_law_powers_right" s_law_powers_right
  d_law_sums_right : DefAt K "_law_sums_right" s_law_sums_right
  d_law_right : DefAt K "_law_right" s_law_right
  d_law : DefAt K "law" s_law
theorem all_mk [iT : TabW] {l : PySem.W.OpenLaw} {w : World} {K : PySem.W.Frag} {h : Heap} {mg : Str → Option Value} {fa aP cl : Addr} {tg td ts : Tok} (X : K.In h) (G : h.Ns mainGlobals mg) (hfa : mg "law" = some (.ref fa)) (I_cl : InsK K cl) (D : DefsAt K cl)
    (z_abs : PySem.W.nsIn K mainGlobals "abs" = some none)
    (z_all : PySem.W.nsIn K mainGlobals "all" = some none)
    (z_bool : PySem.W.nsIn K mainGlobals "bool" = some none)
    (z_dict : PySem.W.nsIn K mainGlobals "dict" = some none)
    (z_int : PySem.W.nsIn K mainGlobals "int" = some none)
    (z_isinstance : PySem.W.nsIn K mainGlobals "isinstance" = some none)
    (z_iter : PySem.W.nsIn K mainGlobals "iter" = some none)
    (z_len : PySem.W.nsIn K mainGlobals "len" = some none)
    (z_list : PySem.W.nsIn K mainGlobals "list" = some none)
    (z_max : PySem.W.nsIn K mainGlobals "max" = some none)
    (z_min : PySem.W.nsIn K mainGlobals "min" = some none)
    (z_range : PySem.W.nsIn K mainGlobals "range" = some none)
    (z_sorted : PySem.W.nsIn K mainGlobals "sorted" = some none)
    (z_str : PySem.W.nsIn K mainGlobals "str" = some none)
    (z_sum : PySem.W.nsIn K mainGlobals "sum" = some none)
    (z_tuple : PySem.W.nsIn K mainGlobals "tuple" = some none)
    (z_zip : PySem.W.nsIn K mainGlobals "zip" = some none)
    (k_Form : PySem.W.nsIn K mainGlobals "Form" = some (some (.ref cl)))
    (kI : PySem.W.kitOne K (.type "int") (.ref cl) = some false)
    (nx : PySem.W.findIn K (.ref cl) "__ne__" = some (some (.builtin "object.__ne__")))
    (sf : PySem.W.selfFirst K cl = true)
    (im : IntR K cl "mul")
    (m_prime : PySem.W.findIn K (.ref cl) "_prime" = some none)
    (m_letters : PySem.W.findIn K (.ref cl) "_letters" = some none)
    (m_table : PySem.W.findIn K (.ref cl) "_table" = some none)
    (c_TOO_GREAT : PySem.W.nsIn K mainGlobals "TOO_GREAT" = some (some (.int 1000000000000000000000000000000000000000000000000000000000000 tg)))
    (c_MAX_DEGREE : PySem.W.nsIn K mainGlobals "MAX_DEGREE" = some (some (.int 40 td)))
    (c_SPAN : PySem.W.nsIn K mainGlobals "SPAN" = some (some (.int 65536 ts)))
    (c_PRIMES : PySem.W.nsIn K mainGlobals "PRIMES" = some (some (.ref aP)))
    (q_PRIMES : ∀ H, SqT K H aP (Num.primes.map V.int))
     :
    ∃ fd : FuncData, (∀ (s : Shared) (v : Value), BindsTo s fd ⟨[v], []⟩ [("_law_script", v)]) ∧ ∀ base : Heap, K.In base → base.Ns mainGlobals mg → (∀ p ∈ ([] : List (Addr × Addr)), LamX.TabB base mg p.1 p.2) → FnOkG l.prog w K mg base CX0 15 fa fd ["_law_script"] (spLaw K) := by
  have T : Txt K mg ⟨tg, td, ts, aP, cl⟩ := {
    z_abs := PySem.W.mg_none_of X G z_abs
    z_all := PySem.W.mg_none_of X G z_all
    z_bool := PySem.W.mg_none_of X G z_bool
    z_dict := PySem.W.mg_none_of X G z_dict
    z_int := PySem.W.mg_none_of X G z_int
    z_isinstance := PySem.W.mg_none_of X G z_isinstance
    z_iter := PySem.W.mg_none_of X G z_iter
    z_len := PySem.W.mg_none_of X G z_len
    z_list := PySem.W.mg_none_of X G z_list
    z_max := PySem.W.mg_none_of X G z_max
    z_min := PySem.W.mg_none_of X G z_min
    z_range := PySem.W.mg_none_of X G z_range
    z_sorted := PySem.W.mg_none_of X G z_sorted
    z_str := PySem.W.mg_none_of X G z_str
    z_sum := PySem.W.mg_none_of X G z_sum
    z_tuple := PySem.W.mg_none_of X G z_tuple
    z_zip := PySem.W.mg_none_of X G z_zip
    ins := I_cl
    k_Form := PySem.W.mg_of X G k_Form
    iself := I_cl.ic.me
    kI := kI
    nx := nx
    sf := sf
    im := im
    m_prime := m_prime
    m_letters := m_letters
    m_table := m_table
    c_TOO_GREAT := PySem.W.mg_of X G c_TOO_GREAT
    c_MAX_DEGREE := PySem.W.mg_of X G c_MAX_DEGREE
    c_SPAN := PySem.W.mg_of X G c_SPAN
    c_PRIMES := PySem.W.mg_of X G c_PRIMES
    q_PRIMES := q_PRIMES }
  have all : ∀ base : Heap, K.In base → base.Ns mainGlobals mg → (∀ p ∈ ([] : List (Addr × Addr)), LamX.TabB base mg p.1 p.2) → FnSG l.prog w K mg base 15 "law" ["_law_script"] (spLaw K) := by
    intro base hX hG hTB
    have G_is_integer := ok_is_integer (P := l.prog) (w := w) D.d_is_integer hX hG T 
    have G_degree_of := ok_degree_of (P := l.prog) (w := w) D.d_degree_of hX hG T 
    have G_descending := ok_descending (P := l.prog) (w := w) D.d_descending hX hG T 
    have G_without_zeros := ok_without_zeros (P := l.prog) (w := w) D.d_without_zeros hX hG T
    have G_without_zerosI := ok_without_zerosI (P := l.prog) (w := w) D.d_without_zeros hX hG T
    have G_packed := ok_packed (P := l.prog) (w := w) D.d_packed hX hG T 
    have G_unpacked := ok_unpacked (P := l.prog) (w := w) D.d_unpacked hX hG T 
    have G_unit := ok_unit (P := l.prog) (w := w) D.d_unit hX hG T 
    have G_law_bag := ok_law_bag (P := l.prog) (w := w) D.d_law_bag hX hG T 
    have G_law_grab := ok_law_grab (P := l.prog) (w := w) D.d_law_grab hX hG T 
    have G_law_low := ok_law_low (P := l.prog) (w := w) D.d_law_low hX hG T 
    have G_law_monos := ok_law_monos (P := l.prog) (w := w) D.d_law_monos hX hG T 
    have G_Form_prime := ok_Form_prime (P := l.prog) (w := w) D.d_Form_prime hX hG T 
    have G_Form_letters := ok_Form_letters (P := l.prog) (w := w) D.d_Form_letters hX hG T 
    have G_Form_table := ok_Form_table (P := l.prog) (w := w) D.d_Form_table hX hG T 
    have G_Form_bool := ok_Form_bool (P := l.prog) (w := w) D.d_Form_bool hX hG T 
    have G_Form_eq := ok_Form_eq (P := l.prog) (w := w) D.d_Form_eq hX hG T 
    have G_is_prime := ok_is_prime (P := l.prog) (w := w) D.d_is_prime hX hG T (G_is_integer := G_is_integer)
    have G_need_between := ok_need_between (P := l.prog) (w := w) D.d_need_between hX hG T (G_is_integer := G_is_integer)
    have G_fits := ok_fits (P := l.prog) (w := w) D.d_fits hX hG T (G_is_integer := G_is_integer)
    have G_scaled := ok_scaled (P := l.prog) (w := w) D.d_scaled hX hG T (G_without_zeros := G_without_zeros)
    have G_added := ok_added (P := l.prog) (w := w) D.d_added hX hG T (G_without_zeros := G_without_zeros)
    have G_multiplied := ok_multiplied (P := l.prog) (w := w) D.d_multiplied hX hG T (G_without_zerosI := G_without_zerosI) (G_packed := G_packed) (G_unpacked := G_unpacked)
    have G_need_letters := ok_need_letters (P := l.prog) (w := w) D.d_need_letters hX hG T (G_is_integer := G_is_integer)
    have G_law_one_of := ok_law_one_of (P := l.prog) (w := w) D.d_law_one_of hX hG T (G_law_grab := G_law_grab)
    have G_law_number := ok_law_number (P := l.prog) (w := w) D.d_law_number hX hG T (G_law_grab := G_law_grab)
    have G_law_fsum := ok_law_fsum (P := l.prog) (w := w) D.d_law_fsum hX hG T (G_law_low := G_law_low)
    have G_law_fproduct := ok_law_fproduct (P := l.prog) (w := w) D.d_law_fproduct hX hG T (G_law_low := G_law_low)
    have G_Form_degree := ok_Form_degree (P := l.prog) (w := w) D.d_Form_degree hX hG T (G_degree_of := G_degree_of)
    have G_need_prime := ok_need_prime (P := l.prog) (w := w) D.d_need_prime hX hG T (G_is_prime := G_is_prime)
    have G_all_fit := ok_all_fit (P := l.prog) (w := w) D.d_all_fit hX hG T (G_fits := G_fits)
    have G_need_alike := ok_need_alike (P := l.prog) (w := w) D.d_need_alike hX hG T (G_Form_prime := G_Form_prime) (G_Form_letters := G_Form_letters)
    have G_law_prime := ok_law_prime (P := l.prog) (w := w) D.d_law_prime hX hG T (G_law_one_of := G_law_one_of)
    obtain ⟨F_law_entry, G_law_entry⟩ := ok_law_entry (P := l.prog) (w := w) D.d_law_entry hX hG T (G_law_one_of := G_law_one_of) (G_law_grab := G_law_grab)
    have G_law_fpower := ok_law_fpower (P := l.prog) (w := w) D.d_law_fpower hX hG T (G_law_fproduct := G_law_fproduct)
    have G_are_exponents := ok_are_exponents (P := l.prog) (w := w) D.d_are_exponents hX hG T (G_all_fit := G_all_fit)
    obtain ⟨F_law_terms, G_law_terms⟩ := ok_law_terms (P := l.prog) (w := w) D.d_law_terms hX hG T (G_law_monos := G_law_monos) (G_law_grab := G_law_grab) (G_law_entry := G_law_entry)
    have G_are_terms := ok_are_terms (P := l.prog) (w := w) D.d_are_terms hX hG T (G_are_exponents := G_are_exponents) (G_fits := G_fits)
    have G_need_addable := ok_need_addable (P := l.prog) (w := w) D.d_need_addable hX hG T (G_need_alike := G_need_alike) (G_Form_degree := G_Form_degree) (G_Form_bool := G_Form_bool)
    have G_Form_init := ok_Form_init (P := l.prog) (w := w) D.d_Form_init hX hG T (G_need_prime := G_need_prime) (G_need_letters := G_need_letters) (G_descending := G_descending) (G_are_terms := G_are_terms)
    have G_made := ok_made (P := l.prog) (w := w) D.d_made hX hG T (G_Form_init := G_Form_init) (G_descending := G_descending)
    have G_law_form := ok_law_form (P := l.prog) (w := w) D.d_law_form hX hG T (G_Form_init := G_Form_init)
    have G_Form_add := ok_Form_add (P := l.prog) (w := w) D.d_Form_add hX hG T (G_need_addable := G_need_addable) (G_made := G_made) (G_added := G_added)
    have G_Form_sub := ok_Form_sub (P := l.prog) (w := w) D.d_Form_sub hX hG T (G_need_addable := G_need_addable) (G_scaled := G_scaled) (G_made := G_made) (G_added := G_added)
    have G_Form_neg := ok_Form_neg (P := l.prog) (w := w) D.d_Form_neg hX hG T (G_made := G_made) (G_scaled := G_scaled)
    have G_Form_mul := ok_Form_mul (P := l.prog) (w := w) D.d_Form_mul hX hG T (G_made := G_made) (G_need_alike := G_need_alike) (G_fits := G_fits) (G_scaled := G_scaled) (G_multiplied := G_multiplied) (G_Form_degree := G_Form_degree) (G_Form_bool := G_Form_bool)
    have G_Form_power := ok_Form_power (P := l.prog) (w := w) D.d_Form_power hX hG T (G_need_between := G_need_between) (G_unit := G_unit) (G_made := G_made) (G_multiplied := G_multiplied) (G_Form_degree := G_Form_degree) (G_Form_bool := G_Form_bool)
    have G_law_products_right := ok_law_products_right (P := l.prog) (w := w) D.d_law_products_right hX hG T (G_Form_mul := G_Form_mul) (G_law_form := G_law_form) (G_Form_table := G_Form_table) (G_law_fproduct := G_law_fproduct) (G_law_fsum := G_law_fsum) (G_Form_degree := G_Form_degree) (G_Form_eq := G_Form_eq) (G_Form_bool := G_Form_bool)
    have G_law_rules_right := ok_law_rules_right (P := l.prog) (w := w) D.d_law_rules_right hX hG T (G_law_form := G_law_form) (G_Form_mul := G_Form_mul) (G_Form_sub := G_Form_sub) (G_Form_add := G_Form_add) (G_Form_eq := G_Form_eq)
    have G_law_powers_right := ok_law_powers_right (P := l.prog) (w := w) D.d_law_powers_right hX hG T (G_law_form := G_law_form) (G_Form_power := G_Form_power) (G_Form_table := G_Form_table) (G_law_fpower := G_law_fpower) (G_Form_mul := G_Form_mul) (G_Form_degree := G_Form_degree) (G_Form_eq := G_Form_eq)
    have G_law_sums_right := ok_law_sums_right (P := l.prog) (w := w) D.d_law_sums_right hX hG T (G_Form_init := G_Form_init) (G_law_form := G_law_form) (G_Form_table := G_Form_table) (G_law_fsum := G_law_fsum) (G_Form_add := G_Form_add) (G_Form_sub := G_Form_sub) (G_Form_degree := G_Form_degree) (G_Form_eq := G_Form_eq) (G_Form_neg := G_Form_neg) (G_Form_bool := G_Form_bool)
    obtain ⟨F_law_right, G_law_right⟩ := ok_law_right (P := l.prog) (w := w) D.d_law_right hX hG T (G_law_terms := G_law_terms) (G_law_prime := G_law_prime) (G_law_grab := G_law_grab) (G_law_number := G_law_number) (G_law_powers_right := G_law_powers_right) (G_law_sums_right := G_law_sums_right) (G_law_products_right := G_law_products_right) (G_law_rules_right := G_law_rules_right)
    have G_law := ok_law (P := l.prog) (w := w) D.d_law hX hG T (G_Form_init := G_Form_init) (G_law_right := G_law_right) (G_Form_table := G_Form_table) (G_Form_degree := G_Form_degree) (G_Form_mul := G_Form_mul) (G_law_bag := G_law_bag) (G_Form_power := G_Form_power) (G_Form_eq := G_Form_eq)
    exact G_law
  obtain ⟨f, fd, ha, hF⟩ := D.d_law.ex
  have e := hfa.symm.trans (PySem.W.mg_of X G ha)
  cases e
  obtain ⟨oc, od, kV, doc, pm, an, cdv, ct, osl, efd, hlk, _⟩ := hF.ex
  refine ⟨fd, fun s v => ?_, fun base hX hG hTB => ?_⟩
  · subst efd
    exact .of_eq rfl
  · obtain ⟨f', fd', hm', hok, oc', od', osl', hlk'⟩ := (all base hX hG hTB).ex
    have e := hfa.symm.trans hm'
    cases e
    rw [hlk] at hlk'
    cases hlk'
    exact hok
end K05
set_option Elab.async false
set_option linter.all false
set_option maxRecDepth 100000
set_option maxHeartbeats 4100500
namespace TD
open PySem L2 PySem.Spec PyProof.Rows
open Evl (Ex ex_l ex_t fresh_back sq_of st_of sz_of sz_lt)
end TD
set_option Elab.async false
set_option linter.all false
set_option maxRecDepth 100000
set_option maxHeartbeats 3000000
namespace TD
open PySem L2 PySem.Spec PyProof.Rows
namespace Hk
/-- looks that go together: facts, and defs told by the library's DefA -/
structure Ck where
  fa : List (PySem.W.Frag → Bool)
  fn : List He5.DefA
abbrev Al : Type := Bool × He.AlD
def Ck.obs (c : Ck) (K : PySem.W.Frag) : Al := (c.fa.all fun f => f K, He5.obsA [] c.fn K)
def Ck.val (c : Ck) : Al := (true, He5.valA c.fn)
abbrev Ok (c : Ck) (K : PySem.W.Frag) : Prop := c.obs K = c.val
def hookC (as ts : List Addr) (cs : List Ck) : PySem.W.Hook where
  α := List Al × List (Option Obj)
  obs := fun s => (cs.map fun c => c.obs (He.frG s.heap.get? as), ts.map s.heap.get?)
  val := fun _ => (cs.map Ck.val, ts.map fun _ => some TD.emptyTab)
  says := fun _ h => ∃ K : PySem.W.Frag, K.In h ∧ (∀ c ∈ cs, Ok c K) ∧ (∀ t ∈ ts, h.get? t = some TD.emptyTab) ∧ ∀ a, a ∉ as → K.lookup a = none
  of := fun w s e => by
    (have e1 := congrArg Prod.fst e)
    have e2 := congrArg Prod.snd e
    refine ⟨_, He.frG_in, List.map_inj_left.mp e1, List.map_inj_left.mp e2, fun a ha => ?_⟩
    cases q : (He.frG s.heap.get? as).lookup a with
    | none => rfl
    | some o =>
      exfalso
      have go : ∀ as : List Addr, (He.frG s.heap.get? as).lookup a = some o → a ∈ as := by
        intro as
        induction as with
        | nil => exact fun z => nomatch (show (none : Option Obj) = some o from z)
        | cons b r ih =>
          intro z
          unfold He.frG at z
          rw [List.filterMap_cons] at z
          cases hb : s.heap.get? b with
          | none =>
            rw [hb] at z
            exact List.mem_cons_of_mem _ (ih z)
          | some ob =>
            rw [hb] at z
            have z : (match a == b with | true => some ob | false => (He.frG s.heap.get? r).lookup a) = some o := z
            cases y : a == b with
            | true => rw [beq_iff_eq.mp y]; exact List.mem_cons_self
            | false =>
              rw [y] at z
              exact List.mem_cons_of_mem _ (ih z)
      exact ha (go as q)
  keeps := fun _ _ _ ⟨K, h1, h2, h3, h4⟩ k => ⟨K, PySem.W.Frag.In.keeps h1 k, h2, fun t ht => k _ _ (h3 t ht), h4⟩
def obC (as ts : List Addr) (cs : List Ck) (s : PySem.W.SharedT) : List Al × List (Option Obj) := (cs.map fun c => c.obs (He.frG (HandSHeadRun.getT s) as), ts.map (HandSHeadRun.getT s))
theorem obC_eq (as ts : List Addr) (cs : List Ck) (s : PySem.W.SharedT) : obC as ts cs s = (hookC as ts cs).obs s.abs := by
  have e : HandSHeadRun.getT s = s.abs.heap.get? := funext (HandSHeadRun.getT_eq s)
  unfold obC
  rw [e]
  rfl
section
open HandSHeadRun PySem.W
variable {r : PySem.W.OpenRow} {q : Program} {M : Nat} {loose : List Str} {w : World} {as ts : List Addr} {cs : List Ck}
/-- the run, its looks shown one by one -/
abbrev RunS (r : PySem.W.OpenRow) (M : Nat) (w : World) {β : Type} (f : PySem.W.SharedT → β) (v : β) : Prop := ∀ os : OsState, (endF (stepQ (denQ tabQ) r.prog w) M r.prog w os).map f = some v
theorem run_of (h1 : RunS r M w (fun s => looksF r.prog (boot_heap w.params) s.abs) true) (h2 : RunS r M w (fun s => seenQ q loose (importedModules r.prog.main.body) (fun s => xlAt q [] s && recOk r.toRowW.records s) s.abs) (openGood q loose))
    (h3 : ∀ c ∈ cs, RunS r M w (fun s => c.obs (He.frG (HandSHeadRun.getT s) as)) c.val) (h4 : RunS r M w (fun s => ts.map (HandSHeadRun.getT s)) (ts.map fun _ => some TD.emptyTab)) : RunEq r q (hookC as ts cs) (obC as ts cs) M loose w := by
  intro os
  have h1 := h1 os
  have h2 := h2 os
  have h4 := h4 os
  have h3 : ∀ c ∈ cs, (endF (stepQ (denQ tabQ) r.prog w) M r.prog w os).map (fun s => c.obs (He.frG (HandSHeadRun.getT s) as)) = some c.val := fun c hc => h3 c hc os
  revert h1 h2 h3 h4
  generalize endF (stepQ (denQ tabQ) r.prog w) M r.prog w os = e
  intro h1 h2 h4 h3
  cases e with
  | none => exact nomatch h1
  | some s =>
    have e1 := Option.some.inj h1
    have e2 := Option.some.inj h2
    have e4 := Option.some.inj h4
    dsimp only at e1 e2 e4
    show some (looksF r.prog (boot_heap w.params) s.abs, seenQ q loose (importedModules r.prog.main.body) (fun s => xlAt q [] s && recOk r.toRowW.records s) s.abs, obC as ts cs s) = some (true, openGood q loose, (cs.map Ck.val, ts.map fun _ => some TD.emptyTab))
    rw [e1, e2]
    unfold obC
    rw [e4, List.map_inj_left.mpr fun c hc => Option.some.inj (h3 c hc)]
theorem run_nil {f : PySem.W.SharedT → Bool} (h : RunS r M w f true) : RunS r M w (fun s => ([] : List Addr).map (HandSHeadRun.getT s)) (([] : List Addr).map fun _ => some TD.emptyTab) := fun os => by
  have h := h os
  revert h
  generalize endF (stepQ (denQ tabQ) r.prog w) M r.prog w os = e
  intro h
  cases e with
  | none => exact nomatch h
  | some s => rfl
end
section
variable {K : PySem.W.Frag}
variable {h : Heap} {mg : Str → Option Value}
/-- a def as it was looked at -/
def Told (K : PySem.W.Frag) (d : He5.DefA) : Prop := ∃ fd, FunD K d.name d.qual d.params d.body d.scope (d.dvs K) (d.kws K) (d.at_ K) fd
theorem Ok.fact {c : Ck} (k : Ok c K) (i : Nat) {f : PySem.W.Frag → Bool} (h : c.fa[i]? = some f := by rfl) : f K = true := List.all_eq_true.mp (congrArg Prod.fst k) f (List.mem_of_getElem? h)
theorem Ok.def_ {c : Ck} (k : Ok c K) (i : Nat) {d : He5.DefA} (h : c.fn[i]? = some d := by rfl) : Told K d := He5.SaysA.def_ (congrArg Prod.snd k) i h
/-- the int on the right of an own thing is asked of the own class's method -/
def intRB (K : PySem.W.Frag) (C : Addr) (nm : String) : Bool := He.eqO (PySem.W.findIn K (.ref C) (PySem.dunderR nm)) (some none) && ((PySem.W.findIn K (.type "int") (PySem.dunder nm)).isSome && ((PySem.W.findIn K (.type "int") (PySem.dunderR nm)).isSome && decide (PySem.W.subIn K (.type "int") (.ref C) = some false)))
theorem intR_of {C : Addr} {nm : String} (h : intRB K C nm = true) : IntR K C nm :=
  have p := He.ba h
  have q := He.ba p.2
  have r := He.ba q.2
  ⟨He.eqO_ok p.1, Option.isSome_iff_exists.mp q.1, Option.isSome_iff_exists.mp r.1, of_decide_eq_true r.2⟩
def gloB (K : PySem.W.Frag) (x : Str) : Bool := He.eqO (PySem.W.nsIn K mainGlobals x) (some (some (.ref (He.ga K x))))
theorem gloB_ok {x : Str} (h : gloB K x = true) : PySem.W.nsIn K mainGlobals x = some (some (.ref (He.ga K x))) := He.eqO_ok h
/-- a def st at p, named x, qualified q, with the defaults dfl -/
def ddA (p : PySem.W.Frag → Addr) (x q : Str) (st : Stmt) (dfl : List He.Dv := []) : He5.DefA := { at_ := p, name := x, qual := q, params := defArgs st, body := defBody st, scope := defScope st, dfl := dfl }
theorem Told.fun_ {p : PySem.W.Frag → Addr} {x q : Str} {st : Stmt} (h : Told K (ddA p x q st)) : ∃ fd, Fun K x q st (p K) fd := let ⟨fd, F⟩ := h; ⟨fd, He5.fun_of F⟩
/-- a def of the module; under another name -/
abbrev ddG (x : Str) (st : Stmt) : He5.DefA := ddA (fun K => He.ga K x) x x st
theorem def_of {x : Str} {st : Stmt} (h : Told K (ddG x st)) (hb : gloB K x = true) : DefAt K x st := let ⟨fd, F⟩ := h.fun_; ⟨_, fd, gloB_ok hb, F⟩
/-- a class of one's own -/
def insB (K : PySem.W.Frag) (C : Addr) : Bool := PySem.W.plainGet K C Str.empty && (PySem.W.hasDictIn K C && (PySem.W.plainOver K C && (He.eqO (PySem.W.findIn K (.ref C) "__setattr__") (some (some (.builtin "object.__setattr__"))) &&
  (He.eqO (PySem.W.findIn K (.ref C) "__class__") (some (some (.builtin "object.__class__"))) && (He.eqO (PySem.W.specialIn K (.builtin "object.__class__") "__get__") (some (some (.builtin "getset_descriptor.__get__"))) && (decide (PySem.W.takesIn K (.builtin "object.__class__") = some true) &&
  (decide (PySem.W.mroIn K C (.type "object") = some true) && (decide (PySem.W.kitOne K (.ref C) (.ref C) = some true) && tyNames.all fun T => decide (PySem.W.kitOne K (.ref C) (.type T) = some false)))))))))
theorem insB_ok {C : Addr} (h : insB K C = true) : InsK K C :=
  have p1 := He.ba h
  have p2 := He.ba p1.2
  have p3 := He.ba p2.2
  have p4 := He.ba p3.2
  have p5 := He.ba p4.2
  have p6 := He.ba p5.2
  have p7 := He.ba p6.2
  have p8 := He.ba p7.2
  have p9 := He.ba p8.2
  ⟨⟨⟨p1.1, p2.1, p3.1, He.eqO_ok p4.1⟩, He.eqO_ok p5.1, He.eqO_ok p6.1, of_decide_eq_true p7.1, of_decide_eq_true p8.1, of_decide_eq_true p9.1⟩, fun T hT => of_decide_eq_true (List.all_eq_true.mp p9.2 T hT)⟩
/-- its methods, its __init__, its properties -/
abbrev ddM (x m q : Str) (st : Stmt) : He5.DefA := ddA (fun K => He.ma K (He.ga K x) m) m q st
def methB (K : PySem.W.Frag) (x m : Str) : Bool := He.eqO (PySem.W.findIn K (.ref (He.ga K x)) m) (some (some (.ref (He.ma K (He.ga K x) m)))) && (PySem.W.isFn K (.ref (He.ma K (He.ga K x) m)) && PySem.W.keepIn K (.ref (He.ma K (He.ga K x) m)))
theorem meth_of {x m q : Str} {st : Stmt} (I : InsK K (He.ga K x)) (h : Told K (ddM x m q st)) (hb : methB K x m = true) : MethAt K (He.ga K x) m q st :=
  have p1 := He.ba hb
  have p2 := He.ba p1.2
  let ⟨fd, F⟩ := h.fun_
  ⟨⟨_, fd, ⟨He.eqO_ok p1.1, p2.1, p2.2⟩, F⟩, I⟩
def mkB (K : PySem.W.Frag) (x : Str) : Bool := gloB K x && (PySem.W.makesIn K (He.ga K x) && (He.eqO (PySem.W.findIn K (.ref (He.ga K x)) "__init__") (some (some (.ref (He.ma K (He.ga K x) "__init__")))) && (PySem.W.isFn K (.ref (He.ma K (He.ga K x) "__init__")) && PySem.W.keepIn K (.ref (He.ga K x)))))
theorem mkB_ok {x : Str} (h : mkB K x = true) : PySem.W.nsIn K mainGlobals x = some (some (.ref (He.ga K x))) ∧ L2.Mk K (He.ga K x) (He.ma K (He.ga K x) "__init__") :=
  have p1 := He.ba h
  have p2 := He.ba p1.2
  have p3 := He.ba p2.2
  have p4 := He.ba p3.2
  ⟨gloB_ok p1.1, p2.1, He.eqO_ok p3.1, p4.1, p4.2⟩
/-- with one default, None -/
abbrev ddD (x q : Str) (st : Stmt) : He5.DefA := ddA (fun K => He.ma K (He.ga K x) "__init__") "__init__" q st [.non]
theorem initD_of {x q : Str} {st : Stmt} (I : InsK K (He.ga K x)) (h : Told K (ddD x q st)) (hb : mkB K x = true) : InitAtD K x (He.ga K x) q st :=
  let ⟨fd, F⟩ := h
  ⟨⟨_, fd, (mkB_ok hb).1, (mkB_ok hb).2, F⟩, I⟩
def pf (K : PySem.W.Frag) (x m : Str) : Addr := match PySem.W.recIn K (He.ma K (He.ga K x) m) "property" with
  | some (.ref f :: _) => f
  | _ => 0
abbrev ddP (x m q : Str) (st : Stmt) : He5.DefA := ddA (fun K => pf K x m) m q st
def propB (K : PySem.W.Frag) (x m : Str) : Bool := He.eqO (PySem.W.findIn K (.ref (He.ga K x)) m) (some (some (.ref (He.ma K (He.ga K x) m)))) && (He.eqO (PySem.W.specialIn K (.ref (He.ma K (He.ga K x) m)) "__get__") (some (some (.builtin "property.__get__"))) && (decide (PySem.W.takesIn K (.ref (He.ma K (He.ga K x) m)) = some true) &&
  (match PySem.W.recIn K (He.ma K (He.ga K x) m) "property" with | some (.ref _ :: _) => true | _ => false)))
theorem prop_of {x m q : Str} {st : Stmt} (I : InsK K (He.ga K x)) (h : Told K (ddP x m q st)) (hb : propB K x m = true) : PropAt K (He.ga K x) m q st := by
  have p1 := He.ba hb
  have p2 := He.ba p1.2
  have p3 := He.ba p2.2
  obtain ⟨fd, F⟩ := h.fun_
  refine ⟨⟨_, pf K x m, fd, ⟨He.eqO_ok p1.1, He.eqO_ok p2.1, of_decide_eq_true p3.1, ?_⟩, F⟩, I⟩
  have z := p3.2
  unfold pf
  split at z
  · rename_i f rest e
    rw [e]
    exact ⟨rest, rfl⟩
  · cases z
/-- an int of the module, its token -/
def tk (K : PySem.W.Frag) (x : Str) : Tok := match PySem.W.nsIn K mainGlobals x with
  | some (some (.int _ t)) => t
  | _ => 0
end
end Hk
/-- a law's end over a head by facts -/
theorem walkH [TabW] {l : PySem.W.OpenLaw} {k : Nat} {q : Program} {loose : List Str} {XP : (Str → Option Value) → Heap → Prop} {YP : World → Heap → Prop} {d : DefRec} {x : Str} (cs : List (Addr × Addr)) (hw : ∀ Q y, TabW.w Q y → Q ∈ cs.map (·.2))
    (hn : l.most = some 63) (hdf : d.params.defaults = []) (hr : Room k callerA)
    (F : ∀ (w : World) (mg : Str → Option Value) (g : Addr) (h : Heap), YP w h → h.Ns mainGlobals mg → mg d.name = some (.ref g) → ∃ K : PySem.W.Frag, K.In h ∧
      (∀ p ∈ cs, h.get? p.2 = some TD.emptyTab ∧ K.lookup p.2 = none ∧ PySem.W.codeHdIn K p.1 p.2 = true) ∧ ∃ fd : FuncData, (∀ (s : Shared) (u : Value), BindsTo s fd ⟨[u], []⟩ [(x, u)]) ∧
      ∀ base : Heap, K.In base → base.Ns mainGlobals mg → (∀ p ∈ cs, LamX.TabB base mg p.1 p.2) → FnOkG l.prog w K mg base CX0 k g fd [x] (spLaw K)) :
    PySem.W.WalkO q loose XP YP l.row.toRowW d [] (fun f us => PySem.call f us) :=
  Att.attach_callB hn hdf fun w _ _ mg _ fa _ _ _ _ _ _ _ G Y _ _ _ hmg hobj hints hlen _ hg => by
    obtain ⟨K, KX, hc, fd, hb, hF⟩ := F w mg fa _ Y G.T.g hmg
    exact call_lawG KX G.T.g G.T.b G.T.builtins G.T.nolimit hg (fun p hp => (hc p hp).1) (fun p hp => (hc p hp).2.1) (fun p hp => PySem.W.codeHd_of_K KX (hc p hp).2.2) hw G.T.bmain hobj hints hlen hr hF hb
end TD
set_option Elab.async false
set_option linter.all false
set_option maxRecDepth 100000
set_option maxHeartbeats 0
namespace K05
open PySem L2 TD PySem.Spec PyProof.Rows
def loose0 : List Str := [Str.ofString "_wall", Str.ofString "TangentError", Str.ofString "InvalidForm", Str.ofString "InvalidOperation", Str.ofString "ParseError", Str.ofString "InvalidNumber", Str.ofString "TooMany", Str.ofString "Refused", Str.ofString "PRIMES", Str.ofString "TOO_GREAT", Str.ofString "is_integer", Str.ofString "is_prime", Str.ofString "need_prime", Str.ofString "need_between", Str.ofString "fits", Str.ofString "all_fit", Str.ofString "settled", Str.ofString "inverse_of", Str.ofString "SPAN", Str.ofString "degree_of", Str.ofString "exponents_of", Str.ofString "are_exponents", Str.ofString "are_terms", Str.ofString "descending", Str.ofString "without_zeros", Str.ofString "scaled", Str.ofString "added", Str.ofString "packed", Str.ofString "unpacked", Str.ofString "multiplied"]
def loose1 : List Str := [Str.ofString "unit", Str.ofString "value_of", Str.ofString "quotient", Str.ofString "divided", Str.ofString "MOST_DIGITS", Str.ofString "CHUNK", Str.ofString "DIGITS", Str.ofString "digits_of", Str.ofString "write_term", Str.ofString "write_terms", Str.ofString "digits_at", Str.ofString "read_term", Str.ofString "read_terms", Str.ofString "MAX_DEGREE", Str.ofString "LETTERS", Str.ofString "need_letters", Str.ofString "need_form", Str.ofString "need_alike", Str.ofString "need_addable", Str.ofString "need_divisor", Str.ofString "made", Str.ofString "table_told", Str.ofString "Form", Str.ofString "_law_bag", Str.ofString "_law_grab", Str.ofString "_law_one_of", Str.ofString "_law_prime", Str.ofString "_law_low", Str.ofString "_law_number", Str.ofString "_law_monos"]
def loose2 : List Str := [Str.ofString "_law_entry", Str.ofString "_law_terms", Str.ofString "_law_fsum", Str.ofString "_law_fproduct", Str.ofString "_law_fpower", Str.ofString "_law_form", Str.ofString "_law_sums_right", Str.ofString "_law_products_right", Str.ofString "_law_rules_right", Str.ofString "_law_powers_right", Str.ofString "_law_right"]
def loose : List Str := loose0 ++ loose1 ++ loose2
abbrev RO : PySem.W.OpenRow := PySem.W.OpenLaw.row PySem.Challenge.rw_tangentrows_k05_whole_sums_and_products
def asK : List Addr := (List.range 1400)
def look0 : Hk.Ck := ⟨[
  fun K => He.eqO (PySem.W.nsIn K mainGlobals "abs") (some none),
  fun K => He.eqO (PySem.W.nsIn K mainGlobals "all") (some none),
  fun K => He.eqO (PySem.W.nsIn K mainGlobals "bool") (some none),
  fun K => He.eqO (PySem.W.nsIn K mainGlobals "dict") (some none),
  fun K => He.eqO (PySem.W.nsIn K mainGlobals "int") (some none),
  fun K => He.eqO (PySem.W.nsIn K mainGlobals "isinstance") (some none),
  fun K => He.eqO (PySem.W.nsIn K mainGlobals "iter") (some none),
  fun K => He.eqO (PySem.W.nsIn K mainGlobals "len") (some none),
  fun K => He.eqO (PySem.W.nsIn K mainGlobals "list") (some none),
  fun K => He.eqO (PySem.W.nsIn K mainGlobals "max") (some none),
  fun K => He.eqO (PySem.W.nsIn K mainGlobals "min") (some none),
  fun K => He.eqO (PySem.W.nsIn K mainGlobals "range") (some none),
  fun K => He.eqO (PySem.W.nsIn K mainGlobals "sorted") (some none),
  fun K => He.eqO (PySem.W.nsIn K mainGlobals "str") (some none),
  fun K => He.eqO (PySem.W.nsIn K mainGlobals "sum") (some none),
  fun K => He.eqO (PySem.W.nsIn K mainGlobals "tuple") (some none),
  fun K => He.eqO (PySem.W.nsIn K mainGlobals "zip") (some none),
  fun K => Hk.gloB K "Form",
  fun K => decide (PySem.W.kitOne K (.type "int") (.ref (He.ga K "Form")) = some false),
  fun K => decide (PySem.W.findIn K (.ref (He.ga K "Form")) "__ne__" = some (some (.builtin "object.__ne__"))),
  fun K => decide (PySem.W.selfFirst K (He.ga K "Form") = true),
  fun K => Hk.intRB K (He.ga K "Form") "mul",
  fun K => He.eqO (PySem.W.findIn K (.ref (He.ga K "Form")) "_prime") (some none),
  fun K => He.eqO (PySem.W.findIn K (.ref (He.ga K "Form")) "_letters") (some none),
  fun K => He.eqO (PySem.W.findIn K (.ref (He.ga K "Form")) "_table") (some none),
  fun K => He.eqO (PySem.W.nsIn K mainGlobals "TOO_GREAT") (some (some (.int 1000000000000000000000000000000000000000000000000000000000000 (Hk.tk K "TOO_GREAT")))),
  fun K => He.eqO (PySem.W.nsIn K mainGlobals "MAX_DEGREE") (some (some (.int 40 (Hk.tk K "MAX_DEGREE"))))],
 [Hk.ddG "is_integer" s_is_integer,
  Hk.ddG "degree_of" s_degree_of,
  Hk.ddG "descending" s_descending,
  Hk.ddG "without_zeros" s_without_zeros,
  Hk.ddG "packed" s_packed,
  Hk.ddG "unpacked" s_unpacked,
  Hk.ddG "unit" s_unit,
  Hk.ddG "_law_bag" s_law_bag,
  Hk.ddG "_law_grab" s_law_grab,
  Hk.ddG "_law_low" s_law_low,
  Hk.ddG "_law_monos" s_law_monos,
  Hk.ddP "Form" "prime" "Form.prime" s_Form_prime,
  Hk.ddP "Form" "letters" "Form.letters" s_Form_letters,
  Hk.ddP "Form" "table" "Form.table" s_Form_table,
  Hk.ddM "Form" "__bool__" "Form.__bool__" s_Form_bool,
  Hk.ddM "Form" "__eq__" "Form.__eq__" s_Form_eq,
  Hk.ddG "is_prime" s_is_prime]⟩
def look1 : Hk.Ck := ⟨[
  fun K => He.eqO (PySem.W.nsIn K mainGlobals "SPAN") (some (some (.int 65536 (Hk.tk K "SPAN")))),
  fun K => Hk.gloB K "PRIMES",
  fun K => He.tupB K "PRIMES" [.int 2, .int 3, .int 5, .int 7, .int 11, .int 13, .int 17, .int 19],
  fun K => Hk.insB K (He.ga K "Form"),
  fun K => Hk.gloB K "is_integer",
  fun K => Hk.gloB K "degree_of",
  fun K => Hk.gloB K "descending",
  fun K => Hk.gloB K "without_zeros",
  fun K => Hk.gloB K "packed",
  fun K => Hk.gloB K "unpacked",
  fun K => Hk.gloB K "unit",
  fun K => Hk.gloB K "_law_bag",
  fun K => Hk.gloB K "_law_grab",
  fun K => Hk.gloB K "_law_low",
  fun K => Hk.gloB K "_law_monos",
  fun K => Hk.propB K "Form" "prime",
  fun K => Hk.propB K "Form" "letters",
  fun K => Hk.propB K "Form" "table",
  fun K => Hk.methB K "Form" "__bool__",
  fun K => Hk.methB K "Form" "__eq__",
  fun K => Hk.gloB K "is_prime",
  fun K => Hk.gloB K "need_between",
  fun K => Hk.gloB K "fits",
  fun K => Hk.gloB K "scaled",
  fun K => Hk.gloB K "added",
  fun K => Hk.gloB K "multiplied",
  fun K => Hk.gloB K "need_letters",
  fun K => Hk.gloB K "_law_one_of"],
 [Hk.ddG "need_between" s_need_between,
  Hk.ddG "fits" s_fits,
  Hk.ddG "scaled" s_scaled,
  Hk.ddG "added" s_added,
  Hk.ddG "multiplied" s_multiplied,
  Hk.ddG "need_letters" s_need_letters,
  Hk.ddG "_law_one_of" s_law_one_of,
  Hk.ddG "_law_number" s_law_number,
  Hk.ddG "_law_fsum" s_law_fsum,
  Hk.ddG "_law_fproduct" s_law_fproduct,
  Hk.ddP "Form" "degree" "Form.degree" s_Form_degree,
  Hk.ddG "need_prime" s_need_prime,
  Hk.ddG "all_fit" s_all_fit,
  Hk.ddG "need_alike" s_need_alike,
  Hk.ddG "_law_prime" s_law_prime,
  Hk.ddG "_law_entry" s_law_entry,
  Hk.ddG "_law_fpower" s_law_fpower]⟩
def look2 : Hk.Ck := ⟨[
  fun K => Hk.gloB K "_law_number",
  fun K => Hk.gloB K "_law_fsum",
  fun K => Hk.gloB K "_law_fproduct",
  fun K => Hk.propB K "Form" "degree",
  fun K => Hk.gloB K "need_prime",
  fun K => Hk.gloB K "all_fit",
  fun K => Hk.gloB K "need_alike",
  fun K => Hk.gloB K "_law_prime",
  fun K => Hk.gloB K "_law_entry",
  fun K => Hk.gloB K "_law_fpower",
  fun K => Hk.gloB K "are_exponents",
  fun K => Hk.gloB K "_law_terms",
  fun K => Hk.gloB K "are_terms",
  fun K => Hk.gloB K "need_addable",
  fun K => Hk.mkB K "Form",
  fun K => Hk.gloB K "made",
  fun K => Hk.gloB K "_law_form",
  fun K => Hk.methB K "Form" "__add__",
  fun K => Hk.methB K "Form" "__sub__",
  fun K => Hk.methB K "Form" "__neg__",
  fun K => Hk.methB K "Form" "__mul__",
  fun K => Hk.methB K "Form" "power",
  fun K => Hk.gloB K "_law_products_right",
  fun K => Hk.gloB K "_law_rules_right",
  fun K => Hk.gloB K "_law_powers_right",
  fun K => Hk.gloB K "_law_sums_right",
  fun K => Hk.gloB K "_law_right",
  fun K => Hk.gloB K "law"],
 [Hk.ddG "are_exponents" s_are_exponents,
  Hk.ddG "_law_terms" s_law_terms,
  Hk.ddG "are_terms" s_are_terms,
  Hk.ddG "need_addable" s_need_addable,
  Hk.ddD "Form" "Form.__init__" s_Form_init,
  Hk.ddG "made" s_made,
  Hk.ddG "_law_form" s_law_form,
  Hk.ddM "Form" "__add__" "Form.__add__" s_Form_add,
  Hk.ddM "Form" "__sub__" "Form.__sub__" s_Form_sub,
  Hk.ddM "Form" "__neg__" "Form.__neg__" s_Form_neg,
  Hk.ddM "Form" "__mul__" "Form.__mul__" s_Form_mul,
  Hk.ddM "Form" "power" "Form.power" s_Form_power,
  Hk.ddG "_law_products_right" s_law_products_right,
  Hk.ddG "_law_rules_right" s_law_rules_right,
  Hk.ddG "_law_powers_right" s_law_powers_right,
  Hk.ddG "_law_sums_right" s_law_sums_right,
  Hk.ddG "_law_right" s_law_right,
  Hk.ddG "law" s_law]⟩
open HandSHeadRun PySem.W in
theorem run_looks (w : World) : Hk.RunS RO 20000 w (fun s => looksF RO.prog (boot_heap w.params) s.abs) true := by
  intro os
  kernel_rfl
open HandSHeadRun PySem.W in
theorem run_seen (w : World) : Hk.RunS RO 20000 w (fun s => seenQ (PySem.W.view RO.prog [77]) loose (importedModules RO.prog.main.body) (fun s => xlAt (PySem.W.view RO.prog [77]) [] s && recOk RO.toRowW.records s) s.abs) (openGood (PySem.W.view RO.prog [77]) loose) := by
  intro os
  kernel_rfl
theorem run_0 (w : World) : Hk.RunS RO 20000 w (fun s => look0.obs (He.frG (HandSHeadRun.getT s) asK)) look0.val := by
  intro os
  kernel_rfl
theorem run_1 (w : World) : Hk.RunS RO 20000 w (fun s => look1.obs (He.frG (HandSHeadRun.getT s) asK)) look1.val := by
  intro os
  kernel_rfl
theorem run_2 (w : World) : Hk.RunS RO 20000 w (fun s => look2.obs (He.frG (HandSHeadRun.getT s) asK)) look2.val := by
  intro os
  kernel_rfl
theorem run_tabs (w : World) : Hk.RunS RO 20000 w (fun s => ([] : List Addr).map (HandSHeadRun.getT s)) (([] : List Addr).map fun _ => some TD.emptyTab) := Hk.run_nil (r := RO) (M := 20000) (w := w) (run_looks w)
theorem run (w : World) : HandSHeadRun.RunEq RO (PySem.W.view RO.prog [77]) (Hk.hookC asK [] [look0, look1, look2]) (Hk.obC asK [] [look0, look1, look2]) 20000 loose w := by
  refine Hk.run_of (run_looks w) (run_seen w) (fun c hc => ?_) (run_tabs w)
  simp only [List.mem_cons, List.not_mem_nil, or_false] at hc
  rcases hc with rfl | rfl | rfl
  · exact run_0 w
  · exact run_1 w
  · exact run_2 w
theorem facts [iT : TabW] {w : World} {K : PySem.W.Frag} {h : Heap} {mg : Str → Option Value} {fa : Addr} (KX : K.In h) (G : h.Ns mainGlobals mg) (hmg : mg "law" = some (.ref fa)) (c : ∀ c ∈ [look0, look1, look2], Hk.Ok c K)
     :
    ∃ fd : FuncData, (∀ (s : Shared) (v : Value), BindsTo s fd ⟨[v], []⟩ [("_law_script", v)]) ∧ ∀ base : Heap, K.In base → base.Ns mainGlobals mg → (∀ p ∈ ([] : List (Addr × Addr)), LamX.TabB base mg p.1 p.2) → FnOkG PySem.Challenge.rw_tangentrows_k05_whole_sums_and_products.prog w K mg base CX0 15 fa fd ["_law_script"] (spLaw K) := by
  have k0 : Hk.Ok look0 K := c look0 (by simp)
  have k1 : Hk.Ok look1 K := c look1 (by simp)
  have k2 : Hk.Ok look2 K := c look2 (by simp)
  have F0 : (He.eqO (PySem.W.nsIn K mainGlobals "abs") (some none)) = true := k0.fact 0
  have F1 : (He.eqO (PySem.W.nsIn K mainGlobals "all") (some none)) = true := k0.fact 1
  have F2 : (He.eqO (PySem.W.nsIn K mainGlobals "bool") (some none)) = true := k0.fact 2
  have F3 : (He.eqO (PySem.W.nsIn K mainGlobals "dict") (some none)) = true := k0.fact 3
  have F4 : (He.eqO (PySem.W.nsIn K mainGlobals "int") (some none)) = true := k0.fact 4
  have F5 : (He.eqO (PySem.W.nsIn K mainGlobals "isinstance") (some none)) = true := k0.fact 5
  have F6 : (He.eqO (PySem.W.nsIn K mainGlobals "iter") (some none)) = true := k0.fact 6
  have F7 : (He.eqO (PySem.W.nsIn K mainGlobals "len") (some none)) = true := k0.fact 7
  have F8 : (He.eqO (PySem.W.nsIn K mainGlobals "list") (some none)) = true := k0.fact 8
  have F9 : (He.eqO (PySem.W.nsIn K mainGlobals "max") (some none)) = true := k0.fact 9
  have F10 : (He.eqO (PySem.W.nsIn K mainGlobals "min") (some none)) = true := k0.fact 10
  have F11 : (He.eqO (PySem.W.nsIn K mainGlobals "range") (some none)) = true := k0.fact 11
  have F12 : (He.eqO (PySem.W.nsIn K mainGlobals "sorted") (some none)) = true := k0.fact 12
  have F13 : (He.eqO (PySem.W.nsIn K mainGlobals "str") (some none)) = true := k0.fact 13
  have F14 : (He.eqO (PySem.W.nsIn K mainGlobals "sum") (some none)) = true := k0.fact 14
  have F15 : (He.eqO (PySem.W.nsIn K mainGlobals "tuple") (some none)) = true := k0.fact 15
  have F16 : (He.eqO (PySem.W.nsIn K mainGlobals "zip") (some none)) = true := k0.fact 16
  have F17 : (Hk.gloB K "Form") = true := k0.fact 17
  have F18 : (decide (PySem.W.kitOne K (.type "int") (.ref (He.ga K "Form")) = some false)) = true := k0.fact 18
  have F19 : (decide (PySem.W.findIn K (.ref (He.ga K "Form")) "__ne__" = some (some (.builtin "object.__ne__")))) = true := k0.fact 19
  have F20 : (decide (PySem.W.selfFirst K (He.ga K "Form") = true)) = true := k0.fact 20
  have F21 : (Hk.intRB K (He.ga K "Form") "mul") = true := k0.fact 21
  have F22 : (He.eqO (PySem.W.findIn K (.ref (He.ga K "Form")) "_prime") (some none)) = true := k0.fact 22
  have F23 : (He.eqO (PySem.W.findIn K (.ref (He.ga K "Form")) "_letters") (some none)) = true := k0.fact 23
  have F24 : (He.eqO (PySem.W.findIn K (.ref (He.ga K "Form")) "_table") (some none)) = true := k0.fact 24
  have F25 : (He.eqO (PySem.W.nsIn K mainGlobals "TOO_GREAT") (some (some (.int 1000000000000000000000000000000000000000000000000000000000000 (Hk.tk K "TOO_GREAT"))))) = true := k0.fact 25
  have F26 : (He.eqO (PySem.W.nsIn K mainGlobals "MAX_DEGREE") (some (some (.int 40 (Hk.tk K "MAX_DEGREE"))))) = true := k0.fact 26
  have F27 : (He.eqO (PySem.W.nsIn K mainGlobals "SPAN") (some (some (.int 65536 (Hk.tk K "SPAN"))))) = true := k1.fact 0
  have F28 : (Hk.gloB K "PRIMES") = true := k1.fact 1
  have F29 : (He.tupB K "PRIMES" [.int 2, .int 3, .int 5, .int 7, .int 11, .int 13, .int 17, .int 19]) = true := k1.fact 2
  have F30 : (Hk.insB K (He.ga K "Form")) = true := k1.fact 3
  have F31 : (Hk.gloB K "is_integer") = true := k1.fact 4
  have F32 : (Hk.gloB K "degree_of") = true := k1.fact 5
  have F33 : (Hk.gloB K "descending") = true := k1.fact 6
  have F34 : (Hk.gloB K "without_zeros") = true := k1.fact 7
  have F35 : (Hk.gloB K "packed") = true := k1.fact 8
  have F36 : (Hk.gloB K "unpacked") = true := k1.fact 9
  have F37 : (Hk.gloB K "unit") = true := k1.fact 10
  have F38 : (Hk.gloB K "_law_bag") = true := k1.fact 11
  have F39 : (Hk.gloB K "_law_grab") = true := k1.fact 12
  have F40 : (Hk.gloB K "_law_low") = true := k1.fact 13
  have F41 : (Hk.gloB K "_law_monos") = true := k1.fact 14
  have F42 : (Hk.propB K "Form" "prime") = true := k1.fact 15
  have F43 : (Hk.propB K "Form" "letters") = true := k1.fact 16
  have F44 : (Hk.propB K "Form" "table") = true := k1.fact 17
  have F45 : (Hk.methB K "Form" "__bool__") = true := k1.fact 18
  have F46 : (Hk.methB K "Form" "__eq__") = true := k1.fact 19
  have F47 : (Hk.gloB K "is_prime") = true := k1.fact 20
  have F48 : (Hk.gloB K "need_between") = true := k1.fact 21
  have F49 : (Hk.gloB K "fits") = true := k1.fact 22
  have F50 : (Hk.gloB K "scaled") = true := k1.fact 23
  have F51 : (Hk.gloB K "added") = true := k1.fact 24
  have F52 : (Hk.gloB K "multiplied") = true := k1.fact 25
  have F53 : (Hk.gloB K "need_letters") = true := k1.fact 26
  have F54 : (Hk.gloB K "_law_one_of") = true := k1.fact 27
  have F55 : (Hk.gloB K "_law_number") = true := k2.fact 0
  have F56 : (Hk.gloB K "_law_fsum") = true := k2.fact 1
  have F57 : (Hk.gloB K "_law_fproduct") = true := k2.fact 2
  have F58 : (Hk.propB K "Form" "degree") = true := k2.fact 3
  have F59 : (Hk.gloB K "need_prime") = true := k2.fact 4
  have F60 : (Hk.gloB K "all_fit") = true := k2.fact 5
  have F61 : (Hk.gloB K "need_alike") = true := k2.fact 6
  have F62 : (Hk.gloB K "_law_prime") = true := k2.fact 7
  have F63 : (Hk.gloB K "_law_entry") = true := k2.fact 8
  have F64 : (Hk.gloB K "_law_fpower") = true := k2.fact 9
  have F65 : (Hk.gloB K "are_exponents") = true := k2.fact 10
  have F66 : (Hk.gloB K "_law_terms") = true := k2.fact 11
  have F67 : (Hk.gloB K "are_terms") = true := k2.fact 12
  have F68 : (Hk.gloB K "need_addable") = true := k2.fact 13
  have F69 : (Hk.mkB K "Form") = true := k2.fact 14
  have F70 : (Hk.gloB K "made") = true := k2.fact 15
  have F71 : (Hk.gloB K "_law_form") = true := k2.fact 16
  have F72 : (Hk.methB K "Form" "__add__") = true := k2.fact 17
  have F73 : (Hk.methB K "Form" "__sub__") = true := k2.fact 18
  have F74 : (Hk.methB K "Form" "__neg__") = true := k2.fact 19
  have F75 : (Hk.methB K "Form" "__mul__") = true := k2.fact 20
  have F76 : (Hk.methB K "Form" "power") = true := k2.fact 21
  have F77 : (Hk.gloB K "_law_products_right") = true := k2.fact 22
  have F78 : (Hk.gloB K "_law_rules_right") = true := k2.fact 23
  have F79 : (Hk.gloB K "_law_powers_right") = true := k2.fact 24
  have F80 : (Hk.gloB K "_law_sums_right") = true := k2.fact 25
  have F81 : (Hk.gloB K "_law_right") = true := k2.fact 26
  have F82 : (Hk.gloB K "law") = true := k2.fact 27
  have D0 := k0.def_ 0 (d := Hk.ddG "is_integer" s_is_integer)
  have D1 := k0.def_ 1 (d := Hk.ddG "degree_of" s_degree_of)
  have D2 := k0.def_ 2 (d := Hk.ddG "descending" s_descending)
  have D3 := k0.def_ 3 (d := Hk.ddG "without_zeros" s_without_zeros)
  have D4 := k0.def_ 4 (d := Hk.ddG "packed" s_packed)
  have D5 := k0.def_ 5 (d := Hk.ddG "unpacked" s_unpacked)
  have D6 := k0.def_ 6 (d := Hk.ddG "unit" s_unit)
  have D7 := k0.def_ 7 (d := Hk.ddG "_law_bag" s_law_bag)
  have D8 := k0.def_ 8 (d := Hk.ddG "_law_grab" s_law_grab)
  have D9 := k0.def_ 9 (d := Hk.ddG "_law_low" s_law_low)
  have D10 := k0.def_ 10 (d := Hk.ddG "_law_monos" s_law_monos)
  have D11 := k0.def_ 11 (d := Hk.ddP "Form" "prime" "Form.prime" s_Form_prime)
  have D12 := k0.def_ 12 (d := Hk.ddP "Form" "letters" "Form.letters" s_Form_letters)
  have D13 := k0.def_ 13 (d := Hk.ddP "Form" "table" "Form.table" s_Form_table)
  have D14 := k0.def_ 14 (d := Hk.ddM "Form" "__bool__" "Form.__bool__" s_Form_bool)
  have D15 := k0.def_ 15 (d := Hk.ddM "Form" "__eq__" "Form.__eq__" s_Form_eq)
  have D16 := k0.def_ 16 (d := Hk.ddG "is_prime" s_is_prime)
  have D17 := k1.def_ 0 (d := Hk.ddG "need_between" s_need_between)
  have D18 := k1.def_ 1 (d := Hk.ddG "fits" s_fits)
  have D19 := k1.def_ 2 (d := Hk.ddG "scaled" s_scaled)
  have D20 := k1.def_ 3 (d := Hk.ddG "added" s_added)
  have D21 := k1.def_ 4 (d := Hk.ddG "multiplied" s_multiplied)
  have D22 := k1.def_ 5 (d := Hk.ddG "need_letters" s_need_letters)
  have D23 := k1.def_ 6 (d := Hk.ddG "_law_one_of" s_law_one_of)
  have D24 := k1.def_ 7 (d := Hk.ddG "_law_number" s_law_number)
  have D25 := k1.def_ 8 (d := Hk.ddG "_law_fsum" s_law_fsum)
  have D26 := k1.def_ 9 (d := Hk.ddG "_law_fproduct" s_law_fproduct)
  have D27 := k1.def_ 10 (d := Hk.ddP "Form" "degree" "Form.degree" s_Form_degree)
  have D28 := k1.def_ 11 (d := Hk.ddG "need_prime" s_need_prime)
  have D29 := k1.def_ 12 (d := Hk.ddG "all_fit" s_all_fit)
  have D30 := k1.def_ 13 (d := Hk.ddG "need_alike" s_need_alike)
  have D31 := k1.def_ 14 (d := Hk.ddG "_law_prime" s_law_prime)
  have D32 := k1.def_ 15 (d := Hk.ddG "_law_entry" s_law_entry)
  have D33 := k1.def_ 16 (d := Hk.ddG "_law_fpower" s_law_fpower)
  have D34 := k2.def_ 0 (d := Hk.ddG "are_exponents" s_are_exponents)
  have D35 := k2.def_ 1 (d := Hk.ddG "_law_terms" s_law_terms)
  have D36 := k2.def_ 2 (d := Hk.ddG "are_terms" s_are_terms)
  have D37 := k2.def_ 3 (d := Hk.ddG "need_addable" s_need_addable)
  have D38 := k2.def_ 4 (d := Hk.ddD "Form" "Form.__init__" s_Form_init)
  have D39 := k2.def_ 5 (d := Hk.ddG "made" s_made)
  have D40 := k2.def_ 6 (d := Hk.ddG "_law_form" s_law_form)
  have D41 := k2.def_ 7 (d := Hk.ddM "Form" "__add__" "Form.__add__" s_Form_add)
  have D42 := k2.def_ 8 (d := Hk.ddM "Form" "__sub__" "Form.__sub__" s_Form_sub)
  have D43 := k2.def_ 9 (d := Hk.ddM "Form" "__neg__" "Form.__neg__" s_Form_neg)
  have D44 := k2.def_ 10 (d := Hk.ddM "Form" "__mul__" "Form.__mul__" s_Form_mul)
  have D45 := k2.def_ 11 (d := Hk.ddM "Form" "power" "Form.power" s_Form_power)
  have D46 := k2.def_ 12 (d := Hk.ddG "_law_products_right" s_law_products_right)
  have D47 := k2.def_ 13 (d := Hk.ddG "_law_rules_right" s_law_rules_right)
  have D48 := k2.def_ 14 (d := Hk.ddG "_law_powers_right" s_law_powers_right)
  have D49 := k2.def_ 15 (d := Hk.ddG "_law_sums_right" s_law_sums_right)
  have D50 := k2.def_ 16 (d := Hk.ddG "_law_right" s_law_right)
  have D51 := k2.def_ 17 (d := Hk.ddG "law" s_law)
  have I_cl := Hk.insB_ok F30
  
  exact K05.all_mk (l := PySem.Challenge.rw_tangentrows_k05_whole_sums_and_products) (tg := (Hk.tk K "TOO_GREAT")) (td := (Hk.tk K "MAX_DEGREE")) (ts := (Hk.tk K "SPAN")) (aP := (He.ga K "PRIMES")) (cl := (He.ga K "Form")) KX G hmg I_cl ⟨(Hk.def_of D0 F31), (Hk.def_of D1 F32), (Hk.def_of D2 F33), (Hk.def_of D3 F34), (Hk.def_of D4 F35), (Hk.def_of D5 F36), (Hk.def_of D6 F37), (Hk.def_of D7 F38), (Hk.def_of D8 F39), (Hk.def_of D9 F40), (Hk.def_of D10 F41), (Hk.prop_of I_cl D11 F42), (Hk.prop_of I_cl D12 F43), (Hk.prop_of I_cl D13 F44), (Hk.meth_of I_cl D14 F45), (Hk.meth_of I_cl D15 F46), (Hk.def_of D16 F47), (Hk.def_of D17 F48), (Hk.def_of D18 F49), (Hk.def_of D19 F50), (Hk.def_of D20 F51), (Hk.def_of D21 F52), (Hk.def_of D22 F53), (Hk.def_of D23 F54), (Hk.def_of D24 F55), (Hk.def_of D25 F56), (Hk.def_of D26 F57), (Hk.prop_of I_cl D27 F58), (Hk.def_of D28 F59), (Hk.def_of D29 F60), (Hk.def_of D30 F61), (Hk.def_of D31 F62), (Hk.def_of D32 F63), (Hk.def_of D33 F64), (Hk.def_of D34 F65), (Hk.def_of D35 F66), (Hk.def_of D36 F67), (Hk.def_of D37 F68), (Hk.initD_of I_cl D38 F69), (Hk.def_of D39 F70), (Hk.def_of D40 F71), (Hk.meth_of I_cl D41 F72), (Hk.meth_of I_cl D42 F73), (Hk.meth_of I_cl D43 F74), (Hk.meth_of I_cl D44 F75), (Hk.meth_of I_cl D45 F76), (Hk.def_of D46 F77), (Hk.def_of D47 F78), (Hk.def_of D48 F79), (Hk.def_of D49 F80), (Hk.def_of D50 F81), (Hk.def_of D51 F82)⟩ (He.eqO_ok F0) (He.eqO_ok F1) (He.eqO_ok F2) (He.eqO_ok F3) (He.eqO_ok F4) (He.eqO_ok F5) (He.eqO_ok F6) (He.eqO_ok F7) (He.eqO_ok F8) (He.eqO_ok F9) (He.eqO_ok F10) (He.eqO_ok F11) (He.eqO_ok F12) (He.eqO_ok F13) (He.eqO_ok F14) (He.eqO_ok F15) (He.eqO_ok F16) (Hk.gloB_ok F17) (of_decide_eq_true F18) (of_decide_eq_true F19) (of_decide_eq_true F20) (Hk.intR_of F21) (He.eqO_ok F22) (He.eqO_ok F23) (He.eqO_ok F24) (He.eqO_ok F25) (He.eqO_ok F26) (He.eqO_ok F27) (Hk.gloB_ok F28) (fun H => He.tupB_ok (vs := [.int 2, .int 3, .int 5, .int 7, .int 11, .int 13, .int 17, .int 19]) F29 H)
end K05
open PySem PySem.W PySem.Calls PyProof.Rows
set_option maxRecDepth 100000 in
set_option maxHeartbeats 0 in
theorem PySem.Challenge.cw_tangentrows_k05_whole_sums_and_products_holds : PySem.Challenge.rw_tangentrows_k05_whole_sums_and_products.Holds := by
  w_on; o_law
  refine HandSHeadRun.head_any (r := OpenLaw.row PySem.Challenge.rw_tangentrows_k05_whole_sums_and_products) (q := view (OpenLaw.row PySem.Challenge.rw_tangentrows_k05_whole_sums_and_products).prog [77]) (H := TD.Hk.hookC K05.asK [] [K05.look0, K05.look1, K05.look2]) (ob := TD.Hk.obC K05.asK [] [K05.look0, K05.look1, K05.look2]) (M := 20000) (loose := K05.loose) (d := HandSHeadRun.topDef (OpenLaw.row PySem.Challenge.rw_tangentrows_k05_whole_sums_and_products).prog 77) (kwd := []) (TD.Hk.obC_eq _ _ _)
    (by kernel_rfl) (fun s => by kernel_rfl) K05.run (by kernel_rfl) (by kernel_rfl) (by kernel_rfl) (by rfl) (by first | assumption | decide +kernel) (by decide +kernel) ⟨rfl, rfl, rfl, rfl, rfl, by decide +kernel⟩ ?hw ?hc
  case hw => w_witness2
  case hc =>
    refine @TD.walkH ⟨fun _ _ => False⟩ PySem.Challenge.rw_tangentrows_k05_whole_sums_and_products 15 _ _ _ _ _ "_law_script" [] (fun Q q h => h.elim) rfl (by kernel_rfl) ⟨rfl, by decide, by decide⟩ ?F
    intro w mg fa h Y G hmg0
    obtain ⟨K, KX, c, ht, hl⟩ := Y
    have hmg : mg ("law" : PySem.Str) = some (.ref fa) := by
      have e : (HandSHeadRun.topDef (OpenLaw.row PySem.Challenge.rw_tangentrows_k05_whole_sums_and_products).prog 77).name = ("law" : PySem.Str) := by kernel_rfl
      rw [← e]
      exact hmg0
    exact ⟨K, KX, fun p hp => (nomatch hp), @K05.facts ⟨fun _ _ => False⟩ w K h mg fa KX G hmg c⟩
