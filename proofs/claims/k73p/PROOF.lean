import PyProof.Rows.All
import Wide.All
import OpenK.AllK
import Wide.FinOn
import HandS.ForMost
import HandS.Evl
import HandS.Lambda
import HandS.Codes
import HandS.IsInst
import HandS.Gcd
import HandS.Wide
import HandS.Deep
import HandS.Zip
import HandS.Ends
import HandS.NoneIn
import HandS.TupSets
import PySem.PyData
import PyProof.Lay0
import HandS.TupAny
import HandS.Style
import HandS.Exc
import HandS.TryMany
import HandS.ExcField
import HandS.ExcOwn
import HandS.WordsExc
import KE.KExcInit
import HandS.EndTab
import HandS.Conv
import HandS.TupMul
import KE.KSortedM
import HandS.Dict
import HandS.Property
import HandS.Words
import HandS.More
import HandS.SortKw
import HandS.Iter
import HandS.Walk
import KE.GoesMore
import HandS.DictComp
import HandS.SetFor
import PyProof.WalksMore
import KE.KOpsOwn
import HandS.Star
import HandS.GenBody
import HandS.GenYield
import HandS.GenList
import PyProof.ForAny
import PyProof.GenComp
import HandS.OwnEq
import KE.KCallOwn
import HandS.OwnIter
import PyProof.Rows.TupIter
import PyProof.DictValues
import KE.KDictWalk
import HandS.FStr
import HandS.ClsMeth
import HandS.Text
import PySem.Challenge.RW_tangentrows_k73_webs_as_values_and_error
import HandS.Steps
import HandS.CallLocal
import PyProof.Rows.SumAny
import HandS.Defaults
import HandS.Records
import HandS.Head0
import HandS.Head1
import HandS.Head2
import HandS.Head3
import HandS.HeadHook1
import HandS.HeadHook2
import HandS.HeadNt
set_option Elab.async false
set_option linter.all false
set_option maxRecDepth 100000
set_option maxHeartbeats 3000000
namespace TD
open PySem L2
open Evl (Ex ex_l ex_t fresh_back sq_of st_of sz_of sz_lt)
abbrev Dt := PyData
/-- the builtin types that isinstance is asked about -/
abbrev tyNames : List String := ["int", "bool", "tuple", "str", "list", "dict"]
/-- a class of one's own whose objects are told -/
structure InsK (K : PySem.W.Frag) (C : Addr) : Prop where
  ic : C8.InsC K C
  no : ∀ T ∈ tyNames, PySem.W.kitOne K (.ref C) (.type T) = some false
mutual
inductive Den (K : PySem.W.Frag) (G : Hp) : V → Dt → Prop
  | non : Den K G .non .none
  | bl (b : Bool) : Den K G (.bl b) (.bool b)
  | int (i : Int) : Den K G (.int i) (.int i)
  | str (x : Str) : Den K G (.str x) (.str x)
  | lst {a : Addr} {xs : List V} {ds : List Dt} : G a = some (.lst xs) → DenL K G xs ds → Den K G (.ref a) (.list ds)
  | tup {a : Addr} {xs : List V} {ds : List Dt} : G a = some (.tup xs) → DenL K G xs ds → Den K G (.ref a) (.tuple ds)
  | dct {a : Addr} {kvs : List (Key × V)} : Rd G a (.dK kvs) → Den K G (.ref a) (.dict [])
  | dcE {a t : Addr} {k : Str} {i j : Int} : G a = some (.dK [(.inr k, .ref t)]) → SqT K G t [.int i, .int j] → Den K G (.ref a) (.dict [(.str k, .tuple [.int i, .int j])])
  | dcI {a : Addr} {kvs : List (Int × V)} {ps : List (Dt × Dt)} : Rd G a (.dK (kvs.map fun q => (Sum.inl q.1, q.2))) → DenP K G kvs ps → Den K G (.ref a) (.dict ((.none, .none) :: ps))
  | dcT {a : Addr} {kvs : List (List Key × V)} {ps : List (Dt × Dt)} : Rd G a (.dT kvs) → DenT K G kvs ps → Den K G (.ref a) (.dict ((.none, .bool true) :: ps))
  | ins {a C dx : Addr} {fs : List (Str × V)} {ps : List (Dt × Dt)} : InsK K C → G a = some (.ins C dx fs) → DenF K G fs ps → Den K G (.ref a) (.dict ((.none, .int ((C : Nat) : Int)) :: ps))
/-- a dict whose keys are tuples of ints -/
inductive DenT (K : PySem.W.Frag) (G : Hp) : List (List Key × V) → List (Dt × Dt) → Prop
  | nil : DenT K G [] []
  | cons {ns : List Int} {v : V} {kvs : List (List Key × V)} {d : Dt} {ps : List (Dt × Dt)} : Den K G v d → DenT K G kvs ps → DenT K G ((ns.map Sum.inl, v) :: kvs) ((.tuple (ns.map PyData.int), d) :: ps)
/-- the attributes of an object -/
inductive DenF (K : PySem.W.Frag) (G : Hp) : List (Str × V) → List (Dt × Dt) → Prop
  | nil : DenF K G [] []
  | cons {f : Str} {v : V} {fs : List (Str × V)} {d : Dt} {ps : List (Dt × Dt)} : Den K G v d → DenF K G fs ps → DenF K G ((f, v) :: fs) ((.str f, d) :: ps)
inductive DenP (K : PySem.W.Frag) (G : Hp) : List (Int × V) → List (Dt × Dt) → Prop
  | nil : DenP K G [] []
  | cons {i : Int} {v : V} {kvs : List (Int × V)} {d : Dt} {ps : List (Dt × Dt)} : Den K G v d → DenP K G kvs ps → DenP K G ((i, v) :: kvs) ((.int i, d) :: ps)
inductive DenL (K : PySem.W.Frag) (G : Hp) : List V → List Dt → Prop
  | nil : DenL K G [] []
  | cons {v : V} {vs : List V} {d : Dt} {ds : List Dt} : Den K G v d → DenL K G vs ds → DenL K G (v :: vs) (d :: ds)
end
theorem rd_ex {G G' : Hp} {a : Addr} {u : HO} (e : Ex G G') (h : Rd G a u) : Rd G' a u := h.elim (fun h => .inl (e _ _ h)) fun ⟨o, h⟩ => .inr ⟨o, e _ _ h⟩
section
variable {K : PySem.W.Frag} {G G' : Hp}
mutual
theorem Den.mono (e : Ex G G') : ∀ {d : Dt} {v : V}, Den K G v d → Den K G' v d
  | .none, _, h => by cases h; exact .non
  | .bool b, _, h => by cases h; exact .bl b
  | .int i, _, h => by cases h; exact .int i
  | .str x, _, h => by cases h; exact .str x
  | .list ds, _, h => by
    cases h with
    | lst hs hd => exact .lst (e _ _ hs) (DenL.mono e hd)
  | .tuple ds, _, h => by
    cases h with
    | tup hs hd => exact .tup (e _ _ hs) (DenL.mono e hd)
  | .dict kvs, _, h => by
    cases h with
    | dct hs => exact .dct (rd_ex e hs)
    | dcE hs ht => exact .dcE (e _ _ hs) (ex_t e ht)
    | dcI hs hp => exact .dcI (rd_ex e hs) (DenP.mono e hp)
    | dcT hs hp => exact .dcT (rd_ex e hs) (DenT.mono e hp)
    | ins hc hs hp => exact .ins hc (e _ _ hs) (DenF.mono e hp)
theorem DenT.mono (e : Ex G G') : ∀ {ps : List (Dt × Dt)} {kvs : List (List Key × V)}, DenT K G kvs ps → DenT K G' kvs ps
  | [], _, h => by cases h; exact .nil
  | q :: ps, _, h => by
    cases h with
    | cons h1 h2 => exact .cons (Den.mono e h1) (DenT.mono e h2)
theorem DenF.mono (e : Ex G G') : ∀ {ps : List (Dt × Dt)} {fs : List (Str × V)}, DenF K G fs ps → DenF K G' fs ps
  | [], _, h => by cases h; exact .nil
  | q :: ps, _, h => by
    cases h with
    | cons h1 h2 => exact .cons (Den.mono e h1) (DenF.mono e h2)
theorem DenP.mono (e : Ex G G') : ∀ {ps : List (Dt × Dt)} {kvs : List (Int × V)}, DenP K G kvs ps → DenP K G' kvs ps
  | [], _, h => by cases h; exact .nil
  | q :: ps, _, h => by
    cases h with
    | cons h1 h2 => exact .cons (Den.mono e h1) (DenP.mono e h2)
theorem DenL.mono (e : Ex G G') : ∀ {ds : List Dt} {vs : List V}, DenL K G vs ds → DenL K G' vs ds
  | [], _, h => by cases h; exact .nil
  | d :: ds, _, h => by
    cases h with
    | cons h1 h2 => exact .cons (Den.mono e h1) (DenL.mono e h2)
end
theorem DenL.length : ∀ {vs : List V} {ds : List Dt}, DenL K G vs ds → vs.length = ds.length
  | [], [], _ => rfl
  | [], _ :: _, h => nomatch h
  | _ :: _, [], h => nomatch h
  | _ :: _, _ :: _, .cons _ h => congrArg (· + 1) h.length
theorem DenL.get : ∀ {vs : List V} {ds : List Dt} {i : Nat} {v : V}, DenL K G vs ds → vs[i]? = some v → ∃ d, ds[i]? = some d ∧ Den K G v d
  | [], [], _, _, _, h => by simp at h
  | [], _ :: _, _, _, h, _ => nomatch h
  | _ :: _, [], _, _, h, _ => nomatch h
  | _ :: _, d :: _, 0, _, .cons h1 _, h => by simp at h; subst h; exact ⟨d, rfl, h1⟩
  | _ :: _, _ :: _, i + 1, v, .cons _ h2, h => by
    obtain ⟨d, h3, h4⟩ := DenL.get (i := i) (v := v) h2 (by simpa using h)
    exact ⟨d, by simpa using h3, h4⟩
theorem DenL.get' : ∀ {vs : List V} {ds : List Dt} {i : Nat} {d : Dt}, DenL K G vs ds → ds[i]? = some d → ∃ v, vs[i]? = some v ∧ Den K G v d
  | [], [], _, _, _, h => by simp at h
  | [], _ :: _, _, _, h, _ => nomatch h
  | _ :: _, [], _, _, h, _ => nomatch h
  | v :: _, d :: _, 0, _, .cons h1 _, h => by simp at h; subst h; exact ⟨v, rfl, h1⟩
  | _ :: _, _ :: _, i + 1, d, .cons _ h2, h => by
    obtain ⟨v, h3, h4⟩ := DenL.get' (i := i) (d := d) h2 (by simpa using h)
    exact ⟨v, by simpa using h3, h4⟩
theorem DenL.append : ∀ {vs ws : List V} {ds es : List Dt}, DenL K G vs ds → DenL K G ws es → DenL K G (vs ++ ws) (ds ++ es)
  | [], _, [], _, _, h => h
  | [], _, _ :: _, _, h, _ => nomatch h
  | _ :: _, _, [], _, h, _ => nomatch h
  | _ :: _, _, _ :: _, _, .cons h1 h2, h => .cons h1 (DenL.append h2 h)
theorem DenL.drop : ∀ (n : Nat) {vs : List V} {ds : List Dt}, DenL K G vs ds → DenL K G (vs.drop n) (ds.drop n)
  | 0, _, _, h => h
  | _ + 1, [], [], _ => .nil
  | _ + 1, [], _ :: _, h => nomatch h
  | _ + 1, _ :: _, [], h => nomatch h
  | n + 1, _ :: _, _ :: _, .cons _ h => DenL.drop n h
theorem DenL.take : ∀ (n : Nat) {vs : List V} {ds : List Dt}, DenL K G vs ds → DenL K G (vs.take n) (ds.take n)
  | 0, _, _, _ => .nil
  | _ + 1, [], [], _ => .nil
  | _ + 1, [], _ :: _, h => nomatch h
  | _ + 1, _ :: _, [], h => nomatch h
  | n + 1, _ :: _, _ :: _, .cons h1 h => .cons h1 (DenL.take n h)
theorem DenL.ints : ∀ {vs : List V} {ns : List Int}, DenL K G vs (ns.map PyData.int) → vs = ns.map V.int
  | [], [], _ => rfl
  | [], _ :: _, h => nomatch h
  | _ :: _, [], h => nomatch h
  | _ :: _, n :: ns, .cons h1 h2 => by
    cases h1
    rw [DenL.ints h2]
    rfl
theorem DenL.of_ints : ∀ (ns : List Int), DenL K G (ns.map V.int) (ns.map PyData.int)
  | [] => .nil
  | n :: ns => .cons (.int n) (DenL.of_ints ns)
theorem DenL.bls : ∀ {vs : List V} {ns : List Bool}, DenL K G vs (ns.map PyData.bool) → vs = ns.map V.bl
  | [], [], _ => rfl
  | [], _ :: _, h => nomatch h
  | _ :: _, [], h => nomatch h
  | _ :: _, n :: ns, .cons h1 h2 => by
    cases h1
    rw [DenL.bls h2]
    rfl
end
/-- the tables of code objects that the text's lambdas write: where they stand, the name of their code objects -/
class TabW where
  w : Addr → Str → Prop
def NoTabs (G : Hp) : Prop := ∀ x ps, G x ≠ some (.tbl ps)
structure TabsOk [TabW] (G H : Hp) : Prop where
  tab : ∀ P q, TabW.w P q → LamX.TabS H P q
  free : NoTabs G
def NoTb (o : HO) : Prop := ∀ ps, o ≠ .tbl ps
/-- a thing that may change: neither a table nor a tuple -/
def NoT (o : HO) : Prop := NoTb o ∧ ∀ xs, o ≠ .tup xs
theorem NoT.lst {xs : List V} : NoT (.lst xs) := ⟨fun _ z => (by cases z), fun _ z => (by cases z)⟩
inductive Slot where
  | imm (d : Dt)
  | bag
  | fn (a : Addr)
abbrev Rho := List (Option Slot)
/-- the bag's numbers, where there is a bag -/
abbrev Bag := Option (List Int)
def BagOk (b : Addr) (β : Bag) (G H : Hp) : Prop := ∀ ns, β = some ns → H b = some (.lst (ns.map V.int)) ∧ G b = none
structure EnvD [TabW] (K : PySem.W.Frag) (b : Addr) (β : Bag) (G H : Hp) (σ : L2.St) (ρ : Rho) : Prop where
  sub : Ex G H
  bagk : BagOk b β G H
  len : σ.length = ρ.length
  imm : ∀ (i : Nat) (d : Dt), ρ[i]? = some (some (Slot.imm d)) → ∃ v, σ[i]? = some (some v) ∧ Den K G v d
  bagv : ∀ (i : Nat), ρ[i]? = some (some Slot.bag) → σ[i]? = some (some (V.ref b))
  tabs : TabsOk G H
  fnv : ∀ (i : Nat) (a : Addr), ρ[i]? = some (some (Slot.fn a)) → σ[i]? = some (some (V.ref a))
/-- m: there is a bag, which may change -/
structure Step [TabW] (b : Addr) (m : Bool) (G H G' H' : Hp) : Prop where
  g : Ex G G'
  s : Ex G' H'
  fresh : ∀ x o, G x = none → NoT o → H x = some o → G' x = none
  keep : ∀ x o, (m = true → x ≠ b) → NoT o → H x = some o → H' x = some o
  stay : ∀ x o, NoT o → H x = some o → ∃ o', NoT o' ∧ H' x = some o'
  tabs : TabsOk G H → TabsOk G' H'
section
variable [TabW] {K : PySem.W.Frag} {b : Addr} {m : Bool} {β β' : Bag} {G H G1 H1 G2 H2 : Hp} {σ : L2.St} {ρ : Rho}
theorem Step.refl (e : Ex G H) : Step b m G H G H := ⟨Ex.refl G, e, fun _ _ h _ _ => h, fun _ _ _ _ h => h, fun _ o t h => ⟨o, t, h⟩, fun h => h⟩
theorem Step.trans (x : Step b m G H G1 H1) (y : Step b m G1 H1 G2 H2) : Step b m G H G2 H2 :=
  ⟨x.g.trans y.g, y.s, fun a o h1 t h2 => let ⟨o', t', h'⟩ := x.stay a o t h2; y.fresh a o' (x.fresh a o h1 t h2) t' h', fun a o n t h => y.keep a o n t (x.keep a o n t h), fun a o t h => let ⟨o', t', h'⟩ := x.stay a o t h; y.stay a o' t' h', fun h => y.tabs (x.tabs h)⟩
theorem Step.up (x : Step b false G H G1 H1) : Step b m G H G1 H1 := ⟨x.g, x.s, x.fresh, fun a o _ t h => x.keep a o (fun z => by cases z) t h, x.stay, x.tabs⟩
/-- a new object -/
theorem Step.new {p : Addr} {o : HO} (e : Ex G H) (hp : H p = none) (nt : NoTb o := by intro _ z; cases z) : Step b m G H (upd G p o) (upd H p o) := by
  have gp : G p = none := fresh_back e hp
  refine ⟨Ex.new gp, fun a u h => ?_, fun a u h1 t h2 => ?_, fun a u _ _ h => ?_, fun a u t h => ?_, fun h => ⟨fun P q w => (h.tab P q w).ext fun a u z => ?_, fun x ps z => ?_⟩⟩
  · by_cases z : a = p
    · subst z; rw [upd_same] at h ⊢; exact h
    · rw [upd_ne z] at h ⊢; exact e a u h
  · rw [upd_ne (ne_of_none h2 hp)]; exact h1
  · rw [upd_ne (ne_of_none h hp)]; exact h
  · exact ⟨u, t, by rw [upd_ne (ne_of_none h hp)]; exact h⟩
  · rw [upd_ne (ne_of_none z hp)]; exact z
  · by_cases q : x = p
    · rw [q, upd_same] at z; exact nt ps (Option.some.inj z)
    · rw [upd_ne q] at z; exact h.free x ps z
theorem BagOk.step {m} (x : Step b m G H G1 H1) (h : BagOk b β G H) (hm : β.isSome = true → m = true → False ∨ H1 b = H b) : BagOk b β G1 H1 := fun ns e => by
  obtain ⟨h1, h2⟩ := h ns e
  refine ⟨?_, x.fresh b _ h2 NoT.lst h1⟩
  cases m with
  | false => exact x.keep b _ (fun z => by cases z) NoT.lst h1
  | true =>
    rcases hm (by rw [e]; rfl) rfl with z | z
    · exact z.elim
    · rw [z]; exact h1
theorem BagOk.same (x : Step b false G H G1 H1) (h : BagOk b β G H) : BagOk b β G1 H1 := BagOk.step x h fun _ z => by cases z
theorem EnvD.step (E : EnvD K b β G H σ ρ) (x : Step b m G H G1 H1) (hb : BagOk b β' G1 H1) : EnvD K b β' G1 H1 σ ρ :=
  ⟨x.s, hb, E.len, fun i d h => let ⟨v, h1, h2⟩ := E.imm i d h; ⟨v, h1, h2.mono x.g⟩, E.bagv, x.tabs E.tabs, E.fnv⟩
theorem EnvD.same (E : EnvD K b β G H σ ρ) (x : Step b false G H G1 H1) : EnvD K b β G1 H1 σ ρ := E.step x (E.bagk.same x)
theorem EnvD.set {i : Nat} {v : V} {d : Dt} (E : EnvD K b β G H σ ρ) (h : Den K G v d) : EnvD K b β G H (σ.set i (some v)) (ρ.set i (some (.imm d))) := by
  refine ⟨E.sub, E.bagk, by rw [List.length_set, List.length_set]; exact E.len, fun j e hj => ?_, fun j hj => ?_, E.tabs, fun j a hj => ?_⟩
  · by_cases z : i = j
    · subst z
      have hl : i < ρ.length := by
        have := (List.getElem?_eq_some_iff.mp hj).1
        rw [List.length_set] at this
        exact this
      rw [List.getElem?_set_self hl] at hj
      cases hj
      exact ⟨v, List.getElem?_set_self (by rw [E.len]; exact hl), h⟩
    · rw [List.getElem?_set_ne z] at hj
      rw [List.getElem?_set_ne z]
      exact E.imm j e hj
  · by_cases z : i = j
    · subst z
      have hl : i < ρ.length := by
        have := (List.getElem?_eq_some_iff.mp hj).1
        rw [List.length_set] at this
        exact this
      rw [List.getElem?_set_self hl] at hj
      cases hj
    · rw [List.getElem?_set_ne z] at hj
      rw [List.getElem?_set_ne z]
      exact E.bagv j hj
  · by_cases z : i = j
    · subst z
      have hl : i < ρ.length := by
        have := (List.getElem?_eq_some_iff.mp hj).1
        rw [List.length_set] at this
        exact this
      rw [List.getElem?_set_self hl] at hj
      cases hj
    · rw [List.getElem?_set_ne z] at hj
      rw [List.getElem?_set_ne z]
      exact E.fnv j a hj
theorem EnvD.setBag {i : Nat} (E : EnvD K b β G H σ ρ) : EnvD K b β G H (σ.set i (some (.ref b))) (ρ.set i (some .bag)) := by
  refine ⟨E.sub, E.bagk, by rw [List.length_set, List.length_set]; exact E.len, fun j e hj => ?_, fun j hj => ?_, E.tabs, fun j a hj => ?_⟩
  · by_cases z : i = j
    · subst z
      have hl : i < ρ.length := by
        have := (List.getElem?_eq_some_iff.mp hj).1
        rw [List.length_set] at this
        exact this
      rw [List.getElem?_set_self hl] at hj
      cases hj
    · rw [List.getElem?_set_ne z] at hj
      rw [List.getElem?_set_ne z]
      exact E.imm j e hj
  · by_cases z : i = j
    · subst z
      have hl : i < ρ.length := by
        have := (List.getElem?_eq_some_iff.mp hj).1
        rw [List.length_set] at this
        exact this
      exact List.getElem?_set_self (by rw [E.len]; exact hl)
    · rw [List.getElem?_set_ne z] at hj
      rw [List.getElem?_set_ne z]
      exact E.bagv j hj
  · by_cases z : i = j
    · subst z
      have hl : i < ρ.length := by
        have := (List.getElem?_eq_some_iff.mp hj).1
        rw [List.length_set] at this
        exact this
      rw [List.getElem?_set_self hl] at hj
      cases hj
    · rw [List.getElem?_set_ne z] at hj
      rw [List.getElem?_set_ne z]
      exact E.fnv j a hj
theorem EnvD.setFn {i : Nat} {f : Addr} (E : EnvD K b β G H σ ρ) : EnvD K b β G H (σ.set i (some (.ref f))) (ρ.set i (some (.fn f))) := by
  refine ⟨E.sub, E.bagk, by rw [List.length_set, List.length_set]; exact E.len, fun j e hj => ?_, fun j hj => ?_, E.tabs, fun j a hj => ?_⟩
  · by_cases z : i = j
    · subst z
      have hl : i < ρ.length := by
        have := (List.getElem?_eq_some_iff.mp hj).1
        rw [List.length_set] at this
        exact this
      rw [List.getElem?_set_self hl] at hj
      cases hj
    · rw [List.getElem?_set_ne z] at hj
      rw [List.getElem?_set_ne z]
      exact E.imm j e hj
  · by_cases z : i = j
    · subst z
      have hl : i < ρ.length := by
        have := (List.getElem?_eq_some_iff.mp hj).1
        rw [List.length_set] at this
        exact this
      rw [List.getElem?_set_self hl] at hj
      cases hj
    · rw [List.getElem?_set_ne z] at hj
      rw [List.getElem?_set_ne z]
      exact E.bagv j hj
  · by_cases z : i = j
    · subst z
      have hl : i < ρ.length := by
        have := (List.getElem?_eq_some_iff.mp hj).1
        rw [List.length_set] at this
        exact this
      rw [List.getElem?_set_self hl] at hj
      cases hj
      exact List.getElem?_set_self (by rw [E.len]; exact hl)
    · rw [List.getElem?_set_ne z] at hj
      rw [List.getElem?_set_ne z]
      exact E.fnv j a hj
theorem EnvD.unset {i : Nat} (E : EnvD K b β G H σ ρ) : EnvD K b β G H (σ.set i none) (ρ.set i none) := by
  refine ⟨E.sub, E.bagk, by rw [List.length_set, List.length_set]; exact E.len, fun j e hj => ?_, fun j hj => ?_, E.tabs, fun j a hj => ?_⟩
  · by_cases z : i = j
    · subst z
      have hl : i < ρ.length := by
        have := (List.getElem?_eq_some_iff.mp hj).1
        rw [List.length_set] at this
        exact this
      rw [List.getElem?_set_self hl] at hj
      cases hj
    · rw [List.getElem?_set_ne z] at hj
      rw [List.getElem?_set_ne z]
      exact E.imm j e hj
  · by_cases z : i = j
    · subst z
      have hl : i < ρ.length := by
        have := (List.getElem?_eq_some_iff.mp hj).1
        rw [List.length_set] at this
        exact this
      rw [List.getElem?_set_self hl] at hj
      cases hj
    · rw [List.getElem?_set_ne z] at hj
      rw [List.getElem?_set_ne z]
      exact E.bagv j hj
  · by_cases z : i = j
    · subst z
      have hl : i < ρ.length := by
        have := (List.getElem?_eq_some_iff.mp hj).1
        rw [List.length_set] at this
        exact this
      rw [List.getElem?_set_self hl] at hj
      cases hj
    · rw [List.getElem?_set_ne z] at hj
      rw [List.getElem?_set_ne z]
      exact E.fnv j a hj
def wipeR (ρ : Rho) : List Nat → Rho
  | [] => ρ
  | v :: vs => (wipeR ρ vs).set v none
theorem EnvD.wipe (E : EnvD K b β G H σ ρ) : ∀ vs : List Nat, EnvD K b β G H (L2.wipe σ vs) (wipeR ρ vs)
  | [] => E
  | v :: vs => (EnvD.wipe E vs).unset
end
/-- an expression: the datum d, the bag behind it β' -/
structure EvB [TabW] (K : PySem.W.Frag) (te : TE) (ρ : Rho) (β : Bag) (d : Dt) (β' : Bag) : Prop where
  som : β'.isSome = β.isSome
  run : ∀ (b : Addr) (G H : Hp) (σ : L2.St) (Q : VK), EnvD K b β G H σ ρ → (∀ v G' H', Step b β.isSome G H G' H' → BagOk b β' G' H' → Den K G' v d → Q v H') → te σ H Q
structure TtB [TabW] (K : PySem.W.Frag) (tt : TT) (ρ : Rho) (β : Bag) (c : Bool) (β' : Bag) : Prop where
  som : β'.isSome = β.isSome
  run : ∀ (b : Addr) (G H : Hp) (σ : L2.St) (Q : Bool → Hp → Prop), EnvD K b β G H σ ρ → (∀ G' H', Step b β.isSome G H G' H' → BagOk b β' G' H' → Q c H') → tt σ H Q
/-- arguments: data, or the bag itself -/
def DenS (K : PySem.W.Frag) (b : Addr) (G : Hp) (v : V) : Slot → Prop
  | .imm d => Den K G v d
  | .bag => v = .ref b
  | .fn a => v = .ref a
inductive DenSs (K : PySem.W.Frag) (b : Addr) (G : Hp) : List V → List Slot → Prop
  | nil : DenSs K b G [] []
  | cons {v : V} {vs : List V} {a : Slot} {as : List Slot} : DenS K b G v a → DenSs K b G vs as → DenSs K b G (v :: vs) (a :: as)
structure EvS [TabW] (K : PySem.W.Frag) (te : TE) (ρ : Rho) (β : Bag) (a : Slot) (β' : Bag) : Prop where
  som : β'.isSome = β.isSome
  run : ∀ (b : Addr) (G H : Hp) (σ : L2.St) (Q : VK), EnvD K b β G H σ ρ → (∀ v G' H', Step b β.isSome G H G' H' → BagOk b β' G' H' → DenS K b G' v a → Q v H') → te σ H Q
structure EvA [TabW] (K : PySem.W.Frag) (ta : TA) (ρ : Rho) (β : Bag) (as : List Slot) (β' : Bag) : Prop where
  som : β'.isSome = β.isSome
  run : ∀ (b : Addr) (G H : Hp) (σ : L2.St) (Q : List V → Hp → Prop), EnvD K b β G H σ ρ → (∀ vs G' H', Step b β.isSome G H G' H' → BagOk b β' G' H' → DenSs K b G' vs as → Q vs H') → ta σ H Q
inductive Out where
  | nx (ρ : Rho)
  | ret (d : Dt)
  | brk (ρ : Rho)
  | ct (ρ : Rho)
def OutOk [TabW] (K : PySem.W.Frag) (b : Addr) (m : Bool) (β' : Bag) (G H : Hp) (D : Ends) : Out → Prop
  | .nx ρ' => ∀ σ' G' H', Step b m G H G' H' → EnvD K b β' G' H' σ' ρ' → D.nx σ' H'
  | .brk ρ' => ∀ σ' G' H', Step b m G H G' H' → EnvD K b β' G' H' σ' ρ' → D.bk σ' H'
  | .ct ρ' => ∀ σ' G' H', Step b m G H G' H' → EnvD K b β' G' H' σ' ρ' → D.ct σ' H'
  | .ret d => ∀ v G' H', Step b m G H G' H' → BagOk b β' G' H' → Den K G' v d → D.rt v H'
structure StB [TabW] (K : PySem.W.Frag) (ts : TS) (ρ : Rho) (β : Bag) (o : Out) (β' : Bag) : Prop where
  som : β'.isSome = β.isSome
  run : ∀ (b : Addr) (G H : Hp) (σ : L2.St) (D : Ends), EnvD K b β G H σ ρ → OutOk K b β.isSome β' G H D o → ts D σ H
end TD
set_option Elab.async false
set_option linter.all false
set_option maxRecDepth 100000
set_option maxHeartbeats 3000000
namespace TD
open PySem L2
open Evl (Ex ex_l ex_t fresh_back sq_of st_of sz_of sz_lt rMax2)
section
variable [TabW] {K : PySem.W.Frag} {b : Addr} {ρ : Rho} {β β1 β2 β3 : Bag} {ta tb te tc : TE} {tt tu : TT} {x y z d : Dt} {G H G1 H1 G2 H2 : Hp} {σ : L2.St}
/-- the leaf: the state as it stands -/
theorem ev_now (h : ∀ b G H σ, EnvD K b β G H σ ρ → ∀ Q : VK, (∀ v, Den K G v d → Q v H) → te σ H Q) : EvB K te ρ β d β :=
  ⟨rfl, fun b G H σ Q E k => h b G H σ E Q fun v hv => k v G H (Step.refl E.sub) E.bagk hv⟩
theorem d_var {i : Nat} (h : ρ[i]? = some (some (Slot.imm d))) : EvB K (tVar i) ρ β d β := ev_now fun b G H σ E Q k => by
  obtain ⟨v, h1, h2⟩ := E.imm i d h
  exact ⟨v, h1, k v h2⟩
theorem d_int {i : Int} : EvB K (tC (.int i)) ρ β (.int i) β := ev_now fun _ _ _ _ _ _ k => k _ (.int i)
theorem d_bl {c : Bool} : EvB K (tC (.bl c)) ρ β (.bool c) β := ev_now fun _ _ _ _ _ _ k => k _ (.bl c)
theorem d_non : EvB K (tC .non) ρ β .none β := ev_now fun _ _ _ _ _ _ k => k _ .non
theorem d_str {s : Str} : EvB K (tC (.str s)) ρ β (.str s) β := ev_now fun _ _ _ _ _ _ k => k _ (.str s)
/-- a constant of the module, a tuple or list of the written part -/
theorem d_ref {a : Addr} (h : ∀ G, Den K G (.ref a) d) : EvB K (tC (.ref a)) ρ β d β := ev_now fun _ G _ _ _ _ k => k _ (h G)
theorem EvB.to {d' : Dt} (h : EvB K te ρ β d β1) (e : d = d') : EvB K te ρ β d' β1 := e ▸ h
theorem TtB.to {c c' : Bool} (h : TtB K tt ρ β c β1) (e : c = c') : TtB K tt ρ β c' β1 := e ▸ h
theorem d_op {r : R2} (ha : EvB K ta ρ β x β1) (hb : EvB K tb ρ β1 y β2)
    (hr : ∀ (b : Addr) (G H : Hp) (v w : V) (Q : VK), Ex G H → Den K G v x → Den K G w y → (∀ u G' H', Step b false G H G' H' → Den K G' u z → Q u H') → r v w H Q) : EvB K (tOp r ta tb) ρ β z β2 := by
  refine ⟨hb.som.trans ha.som, fun b G H σ Q E k => ?_⟩
  refine ha.run b G H σ _ E fun v G1 H1 s1 k1 d1 => ?_
  refine hb.run b G1 H1 σ _ (E.step s1 k1) fun w G2 H2 s2 k2 d2 => ?_
  rw [ha.som] at s2
  exact hr b G2 H2 v w Q s2.s (d1.mono s2.g) d2 fun u G3 H3 s3 d3 => k u G3 H3 ((s1.trans s2).trans s3.up) (k2.same s3) d3
theorem d_un {r : V → Hp → VK → Prop} (ha : EvB K ta ρ β x β1) (hr : ∀ (b : Addr) (G H : Hp) (v : V) (Q : VK), Ex G H → Den K G v x → (∀ u G' H', Step b false G H G' H' → Den K G' u z → Q u H') → r v H Q) : EvB K (tUn r ta) ρ β z β1 := by
  refine ⟨ha.som, fun b G H σ Q E k => ?_⟩
  refine ha.run b G H σ _ E fun v G1 H1 s1 k1 d1 => ?_
  exact hr b G1 H1 v Q s1.s d1 fun u G3 H3 s3 d3 => k u G3 H3 (s1.trans s3.up) (k1.same s3) d3
theorem d_rI0 {g : Int → Int → V} {i j : Int} (ha : EvB K ta ρ β (.int i) β1) (hb : EvB K tb ρ β1 (.int j) β2) (hz : ∀ G, Den K G (g i j) z) : EvB K (tOp (rI0 g) ta tb) ρ β z β2 :=
  d_op ha hb fun b G H v w Q e h1 h2 k => by
    cases h1
    cases h2
    exact ⟨i, j, rfl, rfl, k _ G H (Step.refl e) (hz G)⟩
theorem d_rI {C : Int → Int → Prop} {g : Int → Int → V} {i j : Int} (ha : EvB K ta ρ β (.int i) β1) (hb : EvB K tb ρ β1 (.int j) β2) (hc : C i j) (hz : ∀ G, Den K G (g i j) z) : EvB K (tOp (rI C g) ta tb) ρ β z β2 :=
  d_op ha hb fun b G H v w Q e h1 h2 k => by
    cases h1
    cases h2
    exact ⟨i, j, rfl, rfl, hc, k _ G H (Step.refl e) (hz G)⟩
theorem d_add {i j : Int} (ha : EvB K ta ρ β (.int i) β1) (hb : EvB K tb ρ β1 (.int j) β2) : EvB K (tOp (rI0 fun i j => .int (i + j)) ta tb) ρ β (.int (i + j)) β2 := d_rI0 ha hb fun _ => .int _
theorem d_sub {i j : Int} (ha : EvB K ta ρ β (.int i) β1) (hb : EvB K tb ρ β1 (.int j) β2) : EvB K (tOp (rI0 fun i j => .int (i - j)) ta tb) ρ β (.int (i - j)) β2 := d_rI0 ha hb fun _ => .int _
theorem d_lt {i j : Int} (ha : EvB K ta ρ β (.int i) β1) (hb : EvB K tb ρ β1 (.int j) β2) : EvB K (tOp (rI0 fun i j => .bl (decide (i < j))) ta tb) ρ β (.bool (decide (i < j))) β2 := d_rI0 ha hb fun _ => .bl _
theorem d_le {i j : Int} (ha : EvB K ta ρ β (.int i) β1) (hb : EvB K tb ρ β1 (.int j) β2) : EvB K (tOp (rI0 fun i j => .bl (decide (i ≤ j))) ta tb) ρ β (.bool (decide (i ≤ j))) β2 := d_rI0 ha hb fun _ => .bl _
theorem d_gt {i j : Int} (ha : EvB K ta ρ β (.int i) β1) (hb : EvB K tb ρ β1 (.int j) β2) : EvB K (tOp (rI0 fun i j => .bl (decide (j < i))) ta tb) ρ β (.bool (decide (j < i))) β2 := d_rI0 ha hb fun _ => .bl _
theorem d_ge {i j : Int} (ha : EvB K ta ρ β (.int i) β1) (hb : EvB K tb ρ β1 (.int j) β2) : EvB K (tOp (rI0 fun i j => .bl (decide (j ≤ i))) ta tb) ρ β (.bool (decide (j ≤ i))) β2 := d_rI0 ha hb fun _ => .bl _
theorem d_mul {i j : Int} {C : Int → Int → Prop} (ha : EvB K ta ρ β (.int i) β1) (hb : EvB K tb ρ β1 (.int j) β2) (hc : C i j) : EvB K (tOp (rI C fun i j => .int (i * j)) ta tb) ρ β (.int (i * j)) β2 := d_rI ha hb hc fun _ => .int _
theorem d_mod {i j : Int} {C : Int → Int → Prop} (ha : EvB K ta ρ β (.int i) β1) (hb : EvB K tb ρ β1 (.int j) β2) (hc : C i j) : EvB K (tOp (rI C fun i j => .int (i % j)) ta tb) ρ β (.int (i % j)) β2 := d_rI ha hb hc fun _ => .int _
theorem d_div {i j : Int} {C : Int → Int → Prop} (ha : EvB K ta ρ β (.int i) β1) (hb : EvB K tb ρ β1 (.int j) β2) (hc : C i j) : EvB K (tOp (rI C fun i j => .int (i / j)) ta tb) ρ β (.int (i / j)) β2 := d_rI ha hb hc fun _ => .int _
theorem d_pow {i j : Int} {C : Int → Int → Prop} (ha : EvB K ta ρ β (.int i) β1) (hb : EvB K tb ρ β1 (.int j) β2) (hc : C i j) : EvB K (tOp (rI C fun i j => .int (i ^ j.toNat)) ta tb) ρ β (.int (i ^ j.toNat)) β2 := d_rI ha hb hc fun _ => .int _
theorem d_neg {i : Int} (ha : EvB K ta ρ β (.int i) β1) : EvB K (tUn (rU fun i => .int (-i)) ta) ρ β (.int (-i)) β1 := d_un ha fun b G H v Q e h1 k => by
  cases h1
  exact ⟨i, rfl, k _ G H (Step.refl e) (.int _)⟩
theorem d_eqI {i j : Int} (ha : EvB K ta ρ β (.int i) β1) (hb : EvB K tb ρ β1 (.int j) β2) : EvB K (tOp rEq ta tb) ρ β (.bool (decide (i = j))) β2 := d_op ha hb fun b G H v w Q e h1 h2 k => by
  cases h1
  cases h2
  have q : decide (V.int i = V.int j) = decide (i = j) := by
    by_cases z : i = j
    · subst z; simp
    · rw [decide_eq_false z]; exact decide_eq_false fun q => z (V.int.inj q)
  exact ⟨rfl, by rw [q]; exact k _ G H (Step.refl e) (.bl _)⟩
theorem d_neI {i j : Int} (ha : EvB K ta ρ β (.int i) β1) (hb : EvB K tb ρ β1 (.int j) β2) : EvB K (tOp rNe ta tb) ρ β (.bool (!decide (i = j))) β2 := d_op ha hb fun b G H v w Q e h1 h2 k => by
  cases h1
  cases h2
  have q : decide (V.int i = V.int j) = decide (i = j) := by
    by_cases z : i = j
    · subst z; simp
    · rw [decide_eq_false z]; exact decide_eq_false fun q => z (V.int.inj q)
  exact ⟨rfl, by rw [q]; exact k _ G H (Step.refl e) (.bl _)⟩
theorem str_dec (i j : Str) : decide (V.str i = V.str j) = decide (i = j) := by
  by_cases z : i = j
  · subst z; simp
  · rw [decide_eq_false z]; exact decide_eq_false fun q => z (V.str.inj q)
theorem d_eqS {i j : Str} (ha : EvB K ta ρ β (.str i) β1) (hb : EvB K tb ρ β1 (.str j) β2) : EvB K (tOp rEq ta tb) ρ β (.bool (decide (i = j))) β2 := d_op ha hb fun b G H v w Q e h1 h2 k => by
  cases h1
  cases h2
  exact ⟨rfl, by rw [str_dec]; exact k _ G H (Step.refl e) (.bl _)⟩
theorem d_neS {i j : Str} (ha : EvB K ta ρ β (.str i) β1) (hb : EvB K tb ρ β1 (.str j) β2) : EvB K (tOp rNe ta tb) ρ β (.bool (!decide (i = j))) β2 := d_op ha hb fun b G H v w Q e h1 h2 k => by
  cases h1
  cases h2
  exact ⟨rfl, by rw [str_dec]; exact k _ G H (Step.refl e) (.bl _)⟩
mutual
def flatD : Dt → Bool
  | .dict _ => false
  | .list xs => flatL xs
  | .tuple xs => flatL xs
  | _ => true
def flatL : List Dt → Bool
  | [] => true
  | d :: ds => flatD d && flatL ds
end
mutual
theorem Den.dp : ∀ {d : Dt} {v : V}, Ex G H → Den K G v d → flatD d = true → Dp K H v d
  | .none, _, _, h, _ => by cases h; exact .non
  | .bool c, _, _, h, _ => by cases h; exact .bl c
  | .int i, _, _, h, _ => by cases h; exact .int i
  | .str s, _, _, h, _ => by cases h; exact .str s
  | .list ds, _, e, h, f => by
    cases h with
    | lst hs hd => exact .lst (sq_of (e _ _ hs)) (DenL.dp e hd (by unfold flatD at f; exact f))
  | .tuple ds, _, e, h, f => by
    cases h with
    | tup hs hd => exact .tup (st_of (e _ _ hs)) (DenL.dp e hd (by unfold flatD at f; exact f))
  | .dict _, _, _, _, f => by unfold flatD at f; cases f
theorem DenL.dp : ∀ {ds : List Dt} {vs : List V}, Ex G H → DenL K G vs ds → flatL ds = true → DpAll K H vs ds
  | [], _, _, h, _ => by cases h; exact .nil
  | d :: ds, _, e, h, f => by
    unfold flatL at f
    rw [Bool.and_eq_true] at f
    cases h with
    | cons h1 h2 => exact .cons (Den.dp e h1 f.1) (DenL.dp e h2 f.2)
end
theorem d_eqD (ha : EvB K ta ρ β x β1) (hb : EvB K tb ρ β1 y β2) (fx : flatD x = true) (fy : flatD y = true) (sx : SeqAt.shaped x = true) (sy : SeqAt.shaped y = true) : EvB K (tOp (rEqD K) ta tb) ρ β (.bool (PyData.eqv x y)) β2 :=
  d_op ha hb fun b G H v w Q e h1 h2 k => ⟨x, y, h1.dp e fx, h2.dp e fy, sx, sy, k _ G H (Step.refl e) (.bl _)⟩
theorem d_neD (ha : EvB K ta ρ β x β1) (hb : EvB K tb ρ β1 y β2) (fx : flatD x = true) (fy : flatD y = true) (sx : SeqAt.shaped x = true) (sy : SeqAt.shaped y = true) : EvB K (tOp (rNeD K) ta tb) ρ β (.bool (!PyData.eqv x y)) β2 :=
  d_op ha hb fun b G H v w Q e h1 h2 k => ⟨x, y, h1.dp e fx, h2.dp e fy, sx, sy, k _ G H (Step.refl e) (.bl _)⟩
theorem den_at {xs : List V} {ds : List Dt} {i : Int} {d : Dt} (h : DenL K G xs ds) (ha : atI ds i = some d) : ∃ v, atI xs i = some v ∧ Den K G v d := by
  unfold atI at ha ⊢
  obtain ⟨n, h1, h2⟩ := Option.bind_eq_some_iff.mp ha
  obtain ⟨v, h3, h4⟩ := h.get' h2
  exact ⟨v, by rw [h.length, h1]; exact h3, h4⟩
theorem d_ixL {ds : List Dt} {i : Int} (ha : EvB K ta ρ β (.list ds) β1) (hb : EvB K tb ρ β1 (.int i) β2) (hi : atI ds i = some d) : EvB K (tOp (rIxL K) ta tb) ρ β d β2 := d_op ha hb fun b G H v w Q e h1 h2 k => by
  cases h2
  cases h1 with
  | lst hs hd =>
    obtain ⟨u, h3, h4⟩ := den_at hd hi
    exact ⟨_, _, i, u, rfl, rfl, sq_of (e _ _ hs), h3, k u G H (Step.refl e) h4⟩
theorem d_ixT {ds : List Dt} {i : Int} (ha : EvB K ta ρ β (.tuple ds) β1) (hb : EvB K tb ρ β1 (.int i) β2) (hi : atI ds i = some d) : EvB K (tOp (rIxT K) ta tb) ρ β d β2 := d_op ha hb fun b G H v w Q e h1 h2 k => by
  cases h2
  cases h1 with
  | tup hs hd =>
    have hs := st_of (K := K) hs
    obtain ⟨u, h3, h4⟩ := den_at hd hi
    exact ⟨_, _, i, u, rfl, rfl, ex_t e hs, h3, k u G H (Step.refl e) h4⟩
def EvO (K : PySem.W.Frag) (to : TO) (ρ : Rho) (β : Bag) (o : Option Int) (β' : Bag) : Prop := β'.isSome = β.isSome ∧ ∀ (b : Addr) (G H : Hp) (σ : L2.St) (Q : Option Int → Hp → Prop), EnvD K b β G H σ ρ → (∀ G' H', Step b β.isSome G H G' H' → BagOk b β' G' H' → Q o H') → to σ H Q
theorem o_none : EvO K tNoPart ρ β none β := ⟨rfl, fun b G H σ Q E k => k G H (Step.refl E.sub) E.bagk⟩
theorem o_some {i : Int} (h : EvB K te ρ β (.int i) β1) : EvO K (tPart te) ρ β (some i) β1 := ⟨h.som, fun b G H σ Q E k => h.run b G H σ _ E fun v G1 H1 s1 k1 d1 => by
  cases d1
  exact ⟨i, rfl, k G1 H1 s1 k1⟩⟩
def cutD (xs : List Dt) (lo hi : Option Int) : List Dt := (xs.drop (HT.sIx xs.length 0 lo)).take (HT.sIx xs.length xs.length hi - HT.sIx xs.length 0 lo)
theorem den_cut {xs : List V} {ds : List Dt} {lo hi : Option Int} (h : DenL K G xs ds) : DenL K G (cutV xs lo hi) (cutD ds lo hi) := by
  unfold cutV cutD
  rw [h.length]
  exact (h.drop _).take _
theorem d_slL {tl th : TO} {ds : List Dt} {lo hi : Option Int} (ha : EvB K te ρ β (.list ds) β1) (h1 : EvO K tl ρ β1 lo β2) (h2 : EvO K th ρ β2 hi β3) : EvB K (tSl (rSlL K) te tl th) ρ β (.list (cutD ds lo hi)) β3 := by
  refine ⟨h2.1.trans (h1.1.trans ha.som), fun b G H σ Q E k => ?_⟩
  refine ha.run b G H σ _ E fun v G1 H1 s1 k1 d1 => ?_
  have E1 := E.step s1 k1
  refine h1.2 b G1 H1 σ _ E1 fun G2 H2 s2 k2 => ?_
  have E2 := E1.step s2 k2
  refine h2.2 b G2 H2 σ _ E2 fun G3 H3 s3 k3 => ?_
  rw [h1.1, ha.som] at s3
  rw [ha.som] at s2
  have d3 := (d1.mono s2.g).mono s3.g
  cases d3 with
  | @lst a xs _ hs hd =>
    refine ⟨_, _, rfl, sq_of (s3.s _ _ hs), fun p hp => ?_⟩
    have n := Step.new (b := b) (m := false) (o := .lst (cutV xs lo hi)) s3.s hp
    exact k (.ref p) _ _ (((s1.trans s2).trans s3).trans n.up) (k3.same n) (.lst upd_same ((den_cut hd).mono n.g))
theorem s_imm (h : EvB K te ρ β d β1) : EvS K te ρ β (.imm d) β1 := ⟨h.som, fun b G H σ Q E k => h.run b G H σ Q E k⟩
theorem DenS.mono {a : Slot} {v : V} (e : Ex G G1) (h : DenS K b G v a) : DenS K b G1 v a := by
  cases a with
  | imm d => exact Den.mono e h
  | bag => exact h
  | fn a => exact h
theorem DenSs.mono {as : List Slot} {vs : List V} (e : Ex G G1) (h : DenSs K b G vs as) : DenSs K b G1 vs as := by
  induction h with
  | nil => exact .nil
  | cons h _ ih => exact .cons (h.mono e) ih
theorem a_nil : EvA K tNil ρ β [] β := ⟨rfl, fun b G H σ Q E k => k [] G H (Step.refl E.sub) E.bagk .nil⟩
theorem a_cons {tr : TA} {a : Slot} {as : List Slot} (h : EvS K te ρ β a β1) (hr : EvA K tr ρ β1 as β2) : EvA K (tCons te tr) ρ β (a :: as) β2 := by
  refine ⟨hr.som.trans h.som, fun b G H σ Q E k => ?_⟩
  refine h.run b G H σ _ E fun v G1 H1 s1 k1 d1 => ?_
  refine hr.run b G1 H1 σ _ (E.step s1 k1) fun vs G2 H2 s2 k2 d2 => ?_
  rw [h.som] at s2
  exact k _ G2 H2 (s1.trans s2) k2 (.cons (d1.mono s2.g) d2)
theorem a_con {tr : TA} {as : List Slot} (h : EvB K te ρ β d β1) (hr : EvA K tr ρ β1 as β2) : EvA K (tCons te tr) ρ β (.imm d :: as) β2 := a_cons (s_imm h) hr
def imms (ds : List Dt) : List Slot := ds.map Slot.imm
theorem DenSs.imm : ∀ {vs : List V} {ds : List Dt}, DenSs K b G vs (imms ds) → DenL K G vs ds
  | _, [], h => by cases h; exact .nil
  | _, d :: ds, h => by
    cases h with
    | cons h1 h2 => exact .cons h1 (DenSs.imm h2)
theorem DenL.ss : ∀ {vs : List V} {ds : List Dt}, DenL K G vs ds → DenSs K b G vs (imms ds)
  | [], [], _ => .nil
  | [], _ :: _, h => nomatch h
  | _ :: _, [], h => nomatch h
  | _ :: _, _ :: _, .cons h1 h2 => .cons h1 (DenL.ss h2)
theorem DenSs.length {as : List Slot} {vs : List V} (h : DenSs K b G vs as) : vs.length = as.length := by
  induction h with
  | nil => rfl
  | cons _ _ ih => exact congrArg (· + 1) ih
theorem d_tup {t : TA} {as : List Slot} {ds : List Dt} (h : EvA K t ρ β as β1) (ha : as = imms ds) (hl : ds.length ≤ 100000) : EvB K (tTup t) ρ β (.tuple ds) β1 := by
  refine ⟨h.som, fun b G H σ Q E k => ?_⟩
  refine h.run b G H σ _ E fun vs G1 H1 s1 k1 d1 => ?_
  subst ha
  have dl := d1.imm
  refine ⟨sz_of (by rw [dl.length]; exact hl), fun p hp => ?_⟩
  have n := Step.new (b := b) (m := false) (o := .tup vs) s1.s hp
  exact k (.ref p) _ _ (s1.trans n.up) (k1.same n) (.tup upd_same (dl.mono n.g))
theorem d_lst {t : TA} {as : List Slot} {ds : List Dt} (h : EvA K t ρ β as β1) (ha : as = imms ds) (hl : ds.length ≤ 100000) : EvB K (tLst t) ρ β (.list ds) β1 := by
  refine ⟨h.som, fun b G H σ Q E k => ?_⟩
  refine h.run b G H σ _ E fun vs G1 H1 s1 k1 d1 => ?_
  subst ha
  have dl := d1.imm
  refine ⟨sz_of (by rw [dl.length]; exact hl), fun p hp => ?_⟩
  have n := Step.new (b := b) (m := false) (o := .lst vs) s1.s hp
  exact k (.ref p) _ _ (s1.trans n.up) (k1.same n) (.lst upd_same (dl.mono n.g))
theorem d_cb {r : List V → Hp → VK → Prop} {t : TA} {as : List Slot} {ds : List Dt} (h : EvA K t ρ β as β1) (ha : as = imms ds)
    (hr : ∀ (b : Addr) (G H : Hp) (vs : List V) (Q : VK), Ex G H → DenL K G vs ds → (∀ u G' H', Step b false G H G' H' → Den K G' u z → Q u H') → r vs H Q) : EvB K (tCB r t) ρ β z β1 := by
  refine ⟨h.som, fun b G H σ Q E k => ?_⟩
  refine h.run b G H σ _ E fun vs G1 H1 s1 k1 d1 => ?_
  subst ha
  exact hr b G1 H1 vs Q s1.s d1.imm fun u G3 H3 s3 d3 => k u G3 H3 (s1.trans s3.up) (k1.same s3) d3
theorem den1 {vs : List V} (h : DenL K G vs [d]) : ∃ v, vs = [v] ∧ Den K G v d := by
  cases h with
  | cons h1 h2 => cases h2; exact ⟨_, rfl, h1⟩
theorem den2 {vs : List V} (h : DenL K G vs [x, y]) : ∃ v w, vs = [v, w] ∧ Den K G v x ∧ Den K G w y := by
  cases h with
  | cons h1 h2 =>
    obtain ⟨w, rfl, h3⟩ := den1 h2
    exact ⟨_, w, rfl, h1, h3⟩
/-- what a call of one datum asks -/
theorem d_c1 {r : List V → Hp → VK → Prop} (h : EvB K te ρ β x β1) (hr : ∀ (b : Addr) (G H : Hp) (v : V) (Q : VK), Ex G H → Den K G v x → (∀ u G' H', Step b false G H G' H' → Den K G' u z → Q u H') → r [v] H Q) : EvB K (tCB r (tCons te tNil)) ρ β z β1 :=
  d_cb (ds := [x]) (a_con h a_nil) rfl fun b G H vs Q e dl k => by
    obtain ⟨v, rfl, dv⟩ := den1 dl
    exact hr b G H v Q e dv k
theorem d_c2 {r : List V → Hp → VK → Prop} (h : EvB K ta ρ β x β1) (h' : EvB K tb ρ β1 y β2) (hr : ∀ (b : Addr) (G H : Hp) (v w : V) (Q : VK), Ex G H → Den K G v x → Den K G w y → (∀ u G' H', Step b false G H G' H' → Den K G' u z → Q u H') → r [v, w] H Q) : EvB K (tCB r (tCons ta (tCons tb tNil))) ρ β z β2 :=
  d_cb (ds := [x, y]) (a_con h (a_con h' a_nil)) rfl fun b G H vs Q e dl k => by
    obtain ⟨v, w, rfl, dv, dw⟩ := den2 dl
    exact hr b G H v w Q e dv dw k
def rAbs : List V → Hp → VK → Prop := fun xs H Q => ∃ i, xs = [.int i] ∧ Q (.int (if i < 0 then -i else i)) H
def rMin2 : List V → Hp → VK → Prop := fun xs H Q => ∃ i j, xs = [.int i, .int j] ∧ Q (.int (if j < i then j else i)) H
def rInt1 : List V → Hp → VK → Prop := fun xs H Q => (∃ i, xs = [.int i] ∧ Q (.int i) H) ∨ ∃ k, xs = [.bl k] ∧ Q (.int (if k then 1 else 0)) H
def rLen (K : PySem.W.Frag) : List V → Hp → VK → Prop := fun xs H Q => ∃ p ys, xs = [.ref p] ∧ (SqL K H p ys ∨ SqT K H p ys) ∧ Q (.int ys.length) H
def rListOf (K : PySem.W.Frag) : List V → Hp → VK → Prop := fun xs H Q => ∃ p ys, xs = [.ref p] ∧ (SqL K H p ys ∨ SqT K H p ys) ∧ ∀ l, H l = none → Q (.ref l) (upd H l (.lst ys))
def rTupleOf (K : PySem.W.Frag) : List V → Hp → VK → Prop := fun xs H Q => ∃ p ys, xs = [.ref p] ∧ ((SqL K H p ys ∧ ∀ l, H l = none → Q (.ref l) (upd H l (.tup ys))) ∨ (SqT K H p ys ∧ Q (.ref p) H))
omit [TabW] in
theorem c_abs {X : Cx} : CallR X (.builtin "abs") rAbs := call_abs
omit [TabW] in
theorem c_max2 {X : Cx} (hc : X.calm = true) : CallR X (.builtin "max") rMax2 := call_max2 hc
omit [TabW] in
theorem c_min2 {X : Cx} (hc : X.calm = true) : CallR X (.builtin "min") rMin2 := call_min2 hc
omit [TabW] in
theorem c_int {X : Cx} : CallR X (.type "int") rInt1 := call_int1
omit [TabW] in
theorem c_len {X : Cx} : CallR X (.builtin "len") (rLen X.K) := call_len_seq
omit [TabW] in
theorem c_list {X : Cx} : CallR X (.type "list") (rListOf X.K) := call_list_of
omit [TabW] in
theorem c_tuple {X : Cx} : CallR X (.type "tuple") (rTupleOf X.K) := call_tuple_of
def absI (i : Int) : Int := if i < 0 then -i else i
theorem d_abs {i : Int} (h : EvB K te ρ β (.int i) β1) : EvB K (tCB rAbs (tCons te tNil)) ρ β (.int (absI i)) β1 := d_c1 h fun b G H v Q e dv k => by
  cases dv
  exact ⟨i, rfl, k _ G H (Step.refl e) (.int _)⟩
theorem d_max2 {i j : Int} (h : EvB K ta ρ β (.int i) β1) (h' : EvB K tb ρ β1 (.int j) β2) : EvB K (tCB rMax2 (tCons ta (tCons tb tNil))) ρ β (.int (if j > i then j else i)) β2 := d_c2 h h' fun b G H v w Q e dv dw k => by
  cases dv
  cases dw
  exact ⟨i, j, rfl, k _ G H (Step.refl e) (.int _)⟩
theorem d_min2 {i j : Int} (h : EvB K ta ρ β (.int i) β1) (h' : EvB K tb ρ β1 (.int j) β2) : EvB K (tCB rMin2 (tCons ta (tCons tb tNil))) ρ β (.int (if j < i then j else i)) β2 := d_c2 h h' fun b G H v w Q e dv dw k => by
  cases dv
  cases dw
  exact ⟨i, j, rfl, k _ G H (Step.refl e) (.int _)⟩
theorem d_intI {i : Int} (h : EvB K te ρ β (.int i) β1) : EvB K (tCB rInt1 (tCons te tNil)) ρ β (.int i) β1 := d_c1 h fun b G H v Q e dv k => by
  cases dv
  exact .inl ⟨i, rfl, k _ G H (Step.refl e) (.int _)⟩
theorem d_intB {c : Bool} (h : EvB K te ρ β (.bool c) β1) : EvB K (tCB rInt1 (tCons te tNil)) ρ β (.int (if c then 1 else 0)) β1 := d_c1 h fun b G H v Q e dv k => by
  cases dv
  exact .inr ⟨c, rfl, k _ G H (Step.refl e) (.int _)⟩
/-- a list or a tuple of ds -/
def SeqD (x : Dt) (ds : List Dt) : Prop := x = .list ds ∨ x = .tuple ds
theorem Den.seq {v : V} {ds : List Dt} (h : Den K G v x) (hx : SeqD x ds) (e : Ex G H) : ∃ p ys, v = .ref p ∧ (SqL K H p ys ∨ SqT K H p ys) ∧ DenL K G ys ds := by
  rcases hx with rfl | rfl
  · cases h with
    | lst hs hd => exact ⟨_, _, rfl, .inl (sq_of (e _ _ hs)), hd⟩
  · cases h with
    | tup hs hd => exact ⟨_, _, rfl, .inr (st_of (e _ _ hs)), hd⟩
theorem d_len {ds : List Dt} (h : EvB K te ρ β x β1) (hx : SeqD x ds) : EvB K (tCB (rLen K) (tCons te tNil)) ρ β (.int (ds.length : Int)) β1 := d_c1 h fun b G H v Q e dv k => by
  obtain ⟨p, ys, rfl, hq, hd⟩ := dv.seq hx e
  exact ⟨p, ys, rfl, hq, by rw [hd.length]; exact k _ G H (Step.refl e) (.int _)⟩
theorem d_listOf {ds : List Dt} (h : EvB K te ρ β x β1) (hx : SeqD x ds) : EvB K (tCB (rListOf K) (tCons te tNil)) ρ β (.list ds) β1 := d_c1 h fun b G H v Q e dv k => by
  obtain ⟨p, ys, rfl, hq, hd⟩ := dv.seq hx e
  refine ⟨p, ys, rfl, hq, fun l hl => ?_⟩
  have n := Step.new (b := b) (m := false) (o := .lst ys) e hl
  exact k _ _ _ n (.lst upd_same (hd.mono n.g))
theorem d_tupleOf {ds : List Dt} (h : EvB K te ρ β (.list ds) β1) : EvB K (tCB (rTupleOf K) (tCons te tNil)) ρ β (.tuple ds) β1 := d_c1 h fun b G H v Q e dv k => by
  cases dv with
  | @lst a ys _ hs hd =>
    refine ⟨_, ys, rfl, .inl ⟨sq_of (e _ _ hs), fun l hl => ?_⟩⟩
    have n := Step.new (b := b) (m := false) (o := .tup ys) e hl
    exact k _ _ _ n (.tup upd_same (hd.mono n.g))
theorem d_cat {ds es : List Dt} (ha : EvB K ta ρ β (.list ds) β1) (hb : EvB K tb ρ β1 (.list es) β2) (hz : ds.length + es.length ≤ 100000) : EvB K (tOp rCat ta tb) ρ β (.list (ds ++ es)) β2 := d_op ha hb fun b G H v w Q e h1 h2 k => by
  cases h1 with
  | @lst a xs _ hs hd =>
    cases h2 with
    | @lst c ys _ hs' hd' =>
      refine ⟨a, c, xs, ys, rfl, rfl, e _ _ hs, e _ _ hs', sz_of (by rw [hd.length, hd'.length]; exact hz), fun p hp => ?_⟩
      have n := Step.new (b := b) (m := false) (o := .lst (xs ++ ys)) e hp
      exact k _ _ _ n (.lst upd_same ((hd.append hd').mono n.g))
theorem d_sum {ns : List Int} (h : EvB K te ρ β (.list (ns.map .int)) β1) : EvB K (tCB (rSum K) (tCons te tNil)) ρ β (.int ns.sum) β1 := d_c1 h fun b G H v Q e dv k => by
  cases dv with
  | @lst a xs _ hs hd =>
    have := hd.ints
    subst this
    exact ⟨a, ns, rfl, sq_of (e _ _ hs), k _ G H (Step.refl e) (.int _)⟩
theorem d_all {bs : List Bool} (h : EvB K te ρ β (.list (bs.map .bool)) β1) : EvB K (tCB (rAll K) (tCons te tNil)) ρ β (.bool (bs.all id)) β1 := d_c1 h fun b G H v Q e dv k => by
  cases dv with
  | @lst a xs _ hs hd =>
    have := hd.bls
    subst this
    exact ⟨a, bs, rfl, sq_of (e _ _ hs), k _ G H (Step.refl e) (.bl _)⟩
theorem d_gcd {i j : Int} (h : EvB K ta ρ β (.int i) β1) (h' : EvB K tb ρ β1 (.int j) β2) : EvB K (tCB rGcd (tCons ta (tCons tb tNil))) ρ β (.int ((Nat.gcd i.natAbs j.natAbs : Nat) : Int)) β2 := d_c2 h h' fun b G H v w Q e dv dw k => by
  cases dv
  cases dw
  exact ⟨i, j, rfl, k _ G H (Step.refl e) (.int _)⟩
def tyD : Dt → String
  | .none => "NoneType"
  | .bool _ => "bool"
  | .int _ => "int"
  | .str _ => "str"
  | .list _ => "list"
  | .tuple _ => "tuple"
  | .dict ((.none, .int _) :: _) => "object"
  | .dict _ => "dict"
theorem ty_dict : ∀ kvs : List (Dt × Dt), tyD (.dict kvs) = "object" ∨ tyD (.dict kvs) = "dict"
  | [] => .inr rfl
  | (.none, .int _) :: _ => .inl rfl
  | (.none, .none) :: _ => .inr rfl
  | (.none, .bool _) :: _ => .inr rfl
  | (.none, .str _) :: _ => .inr rfl
  | (.none, .list _) :: _ => .inr rfl
  | (.none, .tuple _) :: _ => .inr rfl
  | (.none, .dict _) :: _ => .inr rfl
  | (.bool _, _) :: _ => .inr rfl
  | (.int _, _) :: _ => .inr rfl
  | (.str _, _) :: _ => .inr rfl
  | (.list _, _) :: _ => .inr rfl
  | (.tuple _, _) :: _ => .inr rfl
  | (.dict _, _) :: _ => .inr rfl
/-- what isinstance is asked about; a locked dict with tuple keys too -/
inductive TyR (K : PySem.W.Frag) (H : Hp) : V → Value → Prop where
  | ty {x : V} {t : Value} (h : TyX K H x t) : TyR K H x t
  | fT {a : Addr} {o : Obj} {kvs : List (List Key × V)} (e : H a = some (.frz o (.dT kvs))) : TyR K H (.ref a) (.type "dict")
omit [TabW] in
theorem kit_ofR {X : Cx} {pins : List (Addr × Obj)} {σ : St} {H : Hp} {s : Shared} {x : V} {u t : Value} (I : Inv X pins σ H s) (rx : RelV x u) (ty : TyR X.K H x t) : ∃ P : Heap → Prop, PySem.W.KitX X.K u t P ∧ P s.heap ∧ u ≠ .builtin "__main__.__loader__#opaque" := by
  cases ty with
  | ty h => exact kit_of I rx h
  | fT ea =>
    have held := I.hok _ _ ea
    rcases held with ⟨_, _, _, _, _, o, _, _, there, kind, _⟩
    obtain rfl : u = .ref _ := rx
    refine ⟨fun h => _, PySem.W.kitx_dict, ⟨o, there, kind.1⟩, ?_⟩
    simp
def rIsiR (K : PySem.W.Frag) : List V → Hp → VK → Prop := fun xs H Q => ∃ (x c : V) (t u : Value) (b : Bool), xs = [x, c] ∧ ClsV c u ∧ TyR K H x t ∧ PySem.W.kitOne K t u = some b ∧ Q (.bl b) H
omit [TabW] in
theorem call_isiR {X : Cx} : CallR X (.builtin "isinstance") (rIsiR X.K) := by
  rintro pins s σ H _ _ Q I two ⟨x, c, t, u, b, rfl, kc, ty, ans, q⟩
  match two with
  | .cons rx (.cons rc .nil) =>
    cases kc.eq rc
    have ⟨_, look, there, plain⟩ := kit_ofR I rx ty
    exact PySem.W.kia_one look I.kIn there ans plain fun n => ⟨.bl b, _, I.tok n, rfl, q⟩
/-- what isinstance answers of what is told -/
theorem Den.isi {v : V} {T : String} {c : Bool} (h : Den K G v x) (e : Ex G H) (hk : kitB (tyD x) T = some c) (hT : T ∈ tyNames) : ∃ D, TyR K H v D ∧ PySem.W.kitOne K D (.type T) = some c := by
  cases x with
  | none => cases h; exact ⟨_, .ty (.base .non), kit_ty hk⟩
  | bool b => cases h; exact ⟨_, .ty (.base (.bl b)), kit_ty hk⟩
  | int i => cases h; exact ⟨_, .ty (.base (.int i)), kit_ty hk⟩
  | str s => cases h; exact ⟨_, .ty (.base (.str s)), kit_ty hk⟩
  | list ds =>
    cases h with
    | lst hs hd => exact ⟨_, .ty (.base (.lst (e _ _ hs))), kit_ty hk⟩
  | tuple ds =>
    cases h with
    | tup hs hd => exact ⟨_, .ty (.base (.tup (e _ _ hs))), kit_ty hk⟩
  | dict kvs =>
    cases h with
    | dct hs =>
      rcases rd_ex e hs with hs | ⟨o, hs⟩
      · exact ⟨_, .ty (.base (.dK hs)), kit_ty hk⟩
      · exact ⟨_, .ty (.fDict hs), kit_ty hk⟩
    | dcE hs _ => exact ⟨_, .ty (.base (.dK (e _ _ hs))), kit_ty hk⟩
    | dcI hs _ =>
      rcases rd_ex e hs with hs | ⟨o, hs⟩
      · exact ⟨_, .ty (.base (.dK hs)), kit_ty hk⟩
      · exact ⟨_, .ty (.fDict hs), kit_ty hk⟩
    | dcT hs _ =>
      rcases rd_ex e hs with hs | ⟨o, hs⟩
      · exact ⟨_, .ty (.base (.dT hs)), kit_ty hk⟩
      · exact ⟨_, .fT hs, kit_ty hk⟩
    | ins hc hs _ =>
      refine ⟨_, .ty (.base (.ins (e _ _ hs) hc.ic.cl hc.ic.ha hc.ic.hn hc.ic.htk hc.ic.hm)), ?_⟩
      rw [hc.no T hT]
      have q : kitB "object" T = some c := hk
      simp only [tyNames, List.mem_cons, List.not_mem_nil, or_false] at hT
      rcases hT with rfl | rfl | rfl | rfl | rfl | rfl <;> exact (show _ = some false by decide +kernel).symm.trans q
theorem d_isi {T : String} {c : Bool} (h : EvB K te ρ β x β1) (hk : kitB (tyD x) T = some c) (hT : T ∈ tyNames := by decide) : EvB K (tCB (rIsiR K) (tCons te (tCons (tC (.ty T)) tNil))) ρ β (.bool c) β1 := by
  refine ⟨h.som, fun b G H σ Q E k => ?_⟩
  refine h.run b G H σ _ E fun v G1 H1 s1 k1 d1 => ?_
  obtain ⟨D, hD, hc⟩ := d1.isi s1.s hk hT
  exact ⟨v, .ty T, D, _, c, rfl, .ty T, hD, hc, k _ G1 H1 s1 k1 (.bl c)⟩
def isIntD : Dt → Bool
  | .int _ => true
  | .bool _ => true
  | _ => false
def isBoolD : Dt → Bool
  | .bool _ => true
  | _ => false
def isTupD : Dt → Bool
  | .tuple _ => true
  | _ => false
def isStrD : Dt → Bool
  | .str _ => true
  | _ => false
theorem kit_int : ∀ x : Dt, kitB (tyD x) "int" = some (isIntD x)
  | .none => by decide +kernel
  | .bool _ => by show kitB "bool" "int" = some true; decide +kernel
  | .int _ => by show kitB "int" "int" = some true; decide +kernel
  | .str _ => by show kitB "str" "int" = some false; decide +kernel
  | .list _ => by show kitB "list" "int" = some false; decide +kernel
  | .tuple _ => by show kitB "tuple" "int" = some false; decide +kernel
  | .dict kvs => by rcases ty_dict kvs with h | h <;> rw [h] <;> (show _ = some false; decide +kernel)
theorem kit_bool : ∀ x : Dt, kitB (tyD x) "bool" = some (isBoolD x)
  | .none => by decide +kernel
  | .bool _ => by show kitB "bool" "bool" = some true; decide +kernel
  | .int _ => by show kitB "int" "bool" = some false; decide +kernel
  | .str _ => by show kitB "str" "bool" = some false; decide +kernel
  | .list _ => by show kitB "list" "bool" = some false; decide +kernel
  | .tuple _ => by show kitB "tuple" "bool" = some false; decide +kernel
  | .dict kvs => by rcases ty_dict kvs with h | h <;> rw [h] <;> (show _ = some false; decide +kernel)
theorem kit_tup : ∀ x : Dt, kitB (tyD x) "tuple" = some (isTupD x)
  | .none => by decide +kernel
  | .bool _ => by show kitB "bool" "tuple" = some false; decide +kernel
  | .int _ => by show kitB "int" "tuple" = some false; decide +kernel
  | .str _ => by show kitB "str" "tuple" = some false; decide +kernel
  | .list _ => by show kitB "list" "tuple" = some false; decide +kernel
  | .tuple _ => by show kitB "tuple" "tuple" = some true; decide +kernel
  | .dict kvs => by rcases ty_dict kvs with h | h <;> rw [h] <;> (show _ = some false; decide +kernel)
theorem kit_str : ∀ x : Dt, kitB (tyD x) "str" = some (isStrD x)
  | .none => by decide +kernel
  | .bool _ => by show kitB "bool" "str" = some false; decide +kernel
  | .int _ => by show kitB "int" "str" = some false; decide +kernel
  | .str _ => by show kitB "str" "str" = some true; decide +kernel
  | .list _ => by show kitB "list" "str" = some false; decide +kernel
  | .tuple _ => by show kitB "tuple" "str" = some false; decide +kernel
  | .dict kvs => by rcases ty_dict kvs with h | h <;> rw [h] <;> (show _ = some false; decide +kernel)
theorem d_isInt (h : EvB K te ρ β x β1) : EvB K (tCB (rIsiR K) (tCons te (tCons (tC (.ty "int")) tNil))) ρ β (.bool (isIntD x)) β1 := d_isi h (kit_int x)
theorem d_isBool (h : EvB K te ρ β x β1) : EvB K (tCB (rIsiR K) (tCons te (tCons (tC (.ty "bool")) tNil))) ρ β (.bool (isBoolD x)) β1 := d_isi h (kit_bool x)
theorem d_isTup (h : EvB K te ρ β x β1) : EvB K (tCB (rIsiR K) (tCons te (tCons (tC (.ty "tuple")) tNil))) ρ β (.bool (isTupD x)) β1 := d_isi h (kit_tup x)
theorem d_isStr (h : EvB K te ρ β x β1) : EvB K (tCB (rIsiR K) (tCons te (tCons (tC (.ty "str")) tNil))) ρ β (.bool (isStrD x)) β1 := d_isi h (kit_str x)
theorem d_andF (h : EvB K ta ρ β (.bool false) β1) : EvB K (tAndV ta tb) ρ β (.bool false) β1 := ⟨h.som, fun b G H σ Q E k => h.run b G H σ _ E fun v G1 H1 s1 k1 d1 => by
  cases d1
  exact ⟨false, rfl, by rw [if_neg (Bool.false_ne_true)]; exact k _ G1 H1 s1 k1 (.bl _)⟩⟩
theorem d_andT (h : EvB K ta ρ β (.bool true) β1) (h' : EvB K tb ρ β1 d β2) : EvB K (tAndV ta tb) ρ β d β2 := ⟨h'.som.trans h.som, fun b G H σ Q E k => h.run b G H σ _ E fun v G1 H1 s1 k1 d1 => by
  cases d1
  refine ⟨true, rfl, ?_⟩
  rw [if_pos rfl]
  refine h'.run b G1 H1 σ _ (E.step s1 k1) fun w G2 H2 s2 k2 d2 => ?_
  rw [h.som] at s2
  exact k w G2 H2 (s1.trans s2) k2 d2⟩
/-- both bools, the bag as it was -/
theorem d_and {p q : Bool} (h : EvB K ta ρ β (.bool p) β) (h' : p = true → EvB K tb ρ β (.bool q) β) : EvB K (tAndV ta tb) ρ β (.bool (p && q)) β := by
  cases p with
  | false => exact d_andF h
  | true => exact d_andT h (h' rfl)
theorem d_orT (h : EvB K ta ρ β (.bool true) β1) : EvB K (tOrV ta tb) ρ β (.bool true) β1 := ⟨h.som, fun b G H σ Q E k => h.run b G H σ _ E fun v G1 H1 s1 k1 d1 => by
  cases d1
  exact ⟨true, rfl, by rw [if_pos rfl]; exact k _ G1 H1 s1 k1 (.bl _)⟩⟩
theorem d_orF (h : EvB K ta ρ β (.bool false) β1) (h' : EvB K tb ρ β1 d β2) : EvB K (tOrV ta tb) ρ β d β2 := ⟨h'.som.trans h.som, fun b G H σ Q E k => h.run b G H σ _ E fun v G1 H1 s1 k1 d1 => by
  cases d1
  refine ⟨false, rfl, ?_⟩
  rw [if_neg (Bool.false_ne_true)]
  refine h'.run b G1 H1 σ _ (E.step s1 k1) fun w G2 H2 s2 k2 d2 => ?_
  rw [h.som] at s2
  exact k w G2 H2 (s1.trans s2) k2 d2⟩
theorem d_or {p q : Bool} (h : EvB K ta ρ β (.bool p) β) (h' : p = false → EvB K tb ρ β (.bool q) β) : EvB K (tOrV ta tb) ρ β (.bool (p || q)) β := by
  cases p with
  | true => exact d_orT h
  | false => exact d_orF h (h' rfl)
theorem d_not {p : Bool} (h : EvB K ta ρ β (.bool p) β1) : EvB K (tNotV ta) ρ β (.bool (!p)) β1 := ⟨h.som, fun b G H σ Q E k => h.run b G H σ _ E fun v G1 H1 s1 k1 d1 => by
  cases d1
  exact ⟨p, rfl, k _ G1 H1 s1 k1 (.bl _)⟩⟩
theorem t_test {p : Bool} (h : EvB K te ρ β (.bool p) β1) : TtB K (tTest te) ρ β p β1 := ⟨h.som, fun b G H σ Q E k => h.run b G H σ _ E fun v G1 H1 s1 k1 d1 => by
  cases d1
  exact ⟨p, rfl, k G1 H1 s1 k1⟩⟩
theorem t_B {p : Bool} (h : EvB K te ρ β (.bool p) β1) : TtB K (tB te) ρ β p β1 := ⟨h.som, fun b G H σ Q E k => h.run b G H σ _ E fun v G1 H1 s1 k1 d1 => by
  cases d1
  exact ⟨p, rfl, k G1 H1 s1 k1⟩⟩
theorem t_not {p : Bool} (h : TtB K tt ρ β p β1) : TtB K (tNot tt) ρ β (!p) β1 := ⟨h.som, fun b G H σ Q E k => h.run b G H σ _ E fun G1 H1 s1 k1 => k G1 H1 s1 k1⟩
theorem t_andF (h : TtB K tt ρ β false β1) : TtB K (tAnd tt tu) ρ β false β1 := ⟨h.som, fun b G H σ Q E k => h.run b G H σ _ E fun G1 H1 s1 k1 => by
  rw [if_neg (Bool.false_ne_true)]
  exact k G1 H1 s1 k1⟩
theorem t_andT {q : Bool} (h : TtB K tt ρ β true β1) (h' : TtB K tu ρ β1 q β2) : TtB K (tAnd tt tu) ρ β q β2 := ⟨h'.som.trans h.som, fun b G H σ Q E k => h.run b G H σ _ E fun G1 H1 s1 k1 => by
  rw [if_pos rfl]
  refine h'.run b G1 H1 σ _ (E.step s1 k1) fun G2 H2 s2 k2 => ?_
  rw [h.som] at s2
  exact k G2 H2 (s1.trans s2) k2⟩
theorem t_and {p q : Bool} (h : TtB K tt ρ β p β) (h' : p = true → TtB K tu ρ β q β) : TtB K (tAnd tt tu) ρ β (p && q) β := by
  cases p with
  | false => exact t_andF h
  | true => exact t_andT h (h' rfl)
theorem t_orT (h : TtB K tt ρ β true β1) : TtB K (tOr tt tu) ρ β true β1 := ⟨h.som, fun b G H σ Q E k => h.run b G H σ _ E fun G1 H1 s1 k1 => by
  rw [if_pos rfl]
  exact k G1 H1 s1 k1⟩
theorem t_orF {q : Bool} (h : TtB K tt ρ β false β1) (h' : TtB K tu ρ β1 q β2) : TtB K (tOr tt tu) ρ β q β2 := ⟨h'.som.trans h.som, fun b G H σ Q E k => h.run b G H σ _ E fun G1 H1 s1 k1 => by
  rw [if_neg (Bool.false_ne_true)]
  refine h'.run b G1 H1 σ _ (E.step s1 k1) fun G2 H2 s2 k2 => ?_
  rw [h.som] at s2
  exact k G2 H2 (s1.trans s2) k2⟩
theorem t_or {p q : Bool} (h : TtB K tt ρ β p β) (h' : p = false → TtB K tu ρ β q β) : TtB K (tOr tt tu) ρ β (p || q) β := by
  cases p with
  | true => exact t_orT h
  | false => exact t_orF h (h' rfl)
theorem d_if {p : Bool} (h : TtB K tt ρ β p β1) (h1 : p = true → EvB K ta ρ β1 d β2) (h2 : p = false → EvB K tb ρ β1 d β2) : EvB K (tIf tt ta tb) ρ β d β2 := by
  cases p with
  | true =>
    refine ⟨(h1 rfl).som.trans h.som, fun b G H σ Q E k => h.run b G H σ _ E fun G1 H1 s1 k1 => ?_⟩
    rw [if_pos rfl]
    refine (h1 rfl).run b G1 H1 σ _ (E.step s1 k1) fun w G2 H2 s2 k2 d2 => ?_
    rw [h.som] at s2
    exact k w G2 H2 (s1.trans s2) k2 d2
  | false =>
    refine ⟨(h2 rfl).som.trans h.som, fun b G H σ Q E k => h.run b G H σ _ E fun G1 H1 s1 k1 => ?_⟩
    rw [if_neg (Bool.false_ne_true)]
    refine (h2 rfl).run b G1 H1 σ _ (E.step s1 k1) fun w G2 H2 s2 k2 d2 => ?_
    rw [h.som] at s2
    exact k w G2 H2 (s1.trans s2) k2 d2
theorem d_ifT (h : TtB K tt ρ β true β1) (h1 : EvB K ta ρ β1 d β2) : EvB K (tIf tt ta tb) ρ β d β2 := d_if h (fun _ => h1) fun z => by cases z
theorem d_ifF (h : TtB K tt ρ β false β1) (h1 : EvB K tb ρ β1 d β2) : EvB K (tIf tt ta tb) ρ β d β2 := d_if h (fun z => by cases z) fun _ => h1
/-- a < b < c of ints and the like -/
theorem d_chain {r r' : R2} {p q : Bool} (ha : EvB K ta ρ β x β1) (hb : EvB K tb ρ β1 y β2) (hc : p = true → EvB K tc ρ β2 z β2)
    (h1 : ∀ (G H : Hp) (v w : V) (Q : VK), Ex G H → Den K G v x → Den K G w y → Q (.bl p) H → r v w H Q) (h2 : p = true → ∀ (G H : Hp) (v w : V) (Q : VK), Ex G H → Den K G v y → Den K G w z → Q (.bl q) H → r' v w H Q) :
    EvB K (tChain r r' ta tb tc) ρ β (.bool (p && q)) β2 := by
  refine ⟨hb.som.trans ha.som, fun b G H σ Q E k => ?_⟩
  refine ha.run b G H σ _ E fun v G1 H1 s1 k1 d1 => ?_
  have E1 := E.step s1 k1
  refine hb.run b G1 H1 σ _ E1 fun w G2 H2 s2 k2 d2 => ?_
  have E2 := E1.step s2 k2
  rw [ha.som] at s2
  refine h1 G2 H2 v w _ s2.s (d1.mono s2.g) d2 ⟨p, rfl, ?_⟩
  cases p with
  | false =>
    rw [if_neg (Bool.false_ne_true)]
    exact k _ G2 H2 (s1.trans s2) k2 (.bl _)
  | true =>
    rw [if_pos rfl]
    refine (hc rfl).run b G2 H2 σ _ E2 fun u G3 H3 s3 k3 d3 => ?_
    rw [hb.som, ha.som] at s3
    exact h2 rfl G3 H3 w u _ s3.s (d2.mono s3.g) d3 (k _ G3 H3 ((s1.trans s2).trans s3) k3 (.bl _))
theorem d_chLtLt {i j l : Int} (ha : EvB K ta ρ β (.int i) β1) (hb : EvB K tb ρ β1 (.int j) β2) (hc : EvB K tc ρ β2 (.int l) β2) : EvB K (tChain (rI0 fun i j => .bl (decide (i < j))) (rI0 fun i j => .bl (decide (i < j))) ta tb tc) ρ β (.bool (decide (i < j) && decide (j < l))) β2 :=
  d_chain ha hb (fun _ => hc) (fun G H v w Q e h1 h2 q => by cases h1; cases h2; exact ⟨i, j, rfl, rfl, q⟩) fun _ G H v w Q e h1 h2 q => by cases h1; cases h2; exact ⟨j, l, rfl, rfl, q⟩
theorem d_chLeLt {i j l : Int} (ha : EvB K ta ρ β (.int i) β1) (hb : EvB K tb ρ β1 (.int j) β2) (hc : EvB K tc ρ β2 (.int l) β2) : EvB K (tChain (rI0 fun i j => .bl (decide (i ≤ j))) (rI0 fun i j => .bl (decide (i < j))) ta tb tc) ρ β (.bool (decide (i ≤ j) && decide (j < l))) β2 :=
  d_chain ha hb (fun _ => hc) (fun G H v w Q e h1 h2 q => by cases h1; cases h2; exact ⟨i, j, rfl, rfl, q⟩) fun _ G H v w Q e h1 h2 q => by cases h1; cases h2; exact ⟨j, l, rfl, rfl, q⟩
theorem d_chLeLe {i j l : Int} (ha : EvB K ta ρ β (.int i) β1) (hb : EvB K tb ρ β1 (.int j) β2) (hc : EvB K tc ρ β2 (.int l) β2) : EvB K (tChain (rI0 fun i j => .bl (decide (i ≤ j))) (rI0 fun i j => .bl (decide (i ≤ j))) ta tb tc) ρ β (.bool (decide (i ≤ j) && decide (j ≤ l))) β2 :=
  d_chain ha hb (fun _ => hc) (fun G H v w Q e h1 h2 q => by cases h1; cases h2; exact ⟨i, j, rfl, rfl, q⟩) fun _ G H v w Q e h1 h2 q => by cases h1; cases h2; exact ⟨j, l, rfl, rfl, q⟩
theorem d_inT {xs : List V} {ds : List Dt} (hx : EvB K ta ρ β x β1) (hy : EvB K tb ρ β1 y β2) (hs : SeqD y ds) {c : Bool} (hc : ∀ (G : Hp) (v : V) (ws : List V), Den K G v x → DenL K G ws ds → flatV v = true ∧ ws.all flatV = true ∧ inV v ws = c) : EvB K (tOp (rIn K false) ta tb) ρ β (.bool c) β2 :=
  d_op hx hy fun b G H v w Q e h1 h2 k => by
    obtain ⟨p, ys, rfl, hq, hd⟩ := h2.seq hs e
    obtain ⟨f1, f2, f3⟩ := hc G v ys h1 hd
    exact ⟨p, ys, rfl, hq, f1, f2, by rw [if_neg Bool.false_ne_true, f3]; exact k _ G H (Step.refl e) (.bl _)⟩
theorem ints_flat : ∀ ns : List Int, (ns.map V.int).all flatV = true
  | [] => rfl
  | n :: ns => by
    show (flatV (.int n) && (ns.map V.int).all flatV) = true
    rw [ints_flat ns]
    rfl
theorem inV_ints (i : Int) : ∀ ns : List Int, inV (.int i) (ns.map V.int) = decide (i ∈ ns)
  | [] => rfl
  | n :: ns => by
    have ih := inV_ints i ns
    unfold inV at ih ⊢
    rw [List.map_cons, List.any_cons, ih]
    have e : eqV (V.int n) (V.int i) = decide (n = i) := rfl
    rw [e]
    by_cases h : n = i
    · subst h; simp
    · by_cases h2 : i ∈ ns
      · simp [h2]
      · have h3 : ¬ i = n := fun z => h z.symm
        simp [h, h2, h3]
/-- an int in a tuple or list of ints -/
theorem d_inI {i : Int} {ns : List Int} (hx : EvB K ta ρ β (.int i) β1) (hy : EvB K tb ρ β1 y β2) (hs : SeqD y (ns.map .int)) : EvB K (tOp (rIn K false) ta tb) ρ β (.bool (decide (i ∈ ns))) β2 :=
  d_inT (xs := []) hx hy hs fun G v ws h1 h2 => by
    cases h1
    have := h2.ints
    subst this
    exact ⟨rfl, ints_flat ns, inV_ints i ns⟩
end
end TD
set_option Elab.async false
set_option linter.all false
set_option maxRecDepth 100000
set_option maxHeartbeats 3000000
namespace TD
open PySem L2
open Evl (Ex ex_l ex_t fresh_back sq_of st_of sz_of sz_lt)
section
variable [TabW] {K : PySem.W.Frag} {b : Addr} {ρ ρ' ρ1 : Rho} {β β1 β2 β3 : Bag} {ta tb te tc : TE} {tt : TT} {tu tw ts : TS} {x y z d : Dt} {o : Out} {G H G1 H1 G2 H2 : Hp} {σ : L2.St}
theorem OutOk.of {D D' : Ends} {m : Bool} (s : Step b m G H G1 H1) (h : OutOk K b m β G H D o) : OutOk K b m β G1 H1 D o := by
  cases o with
  | nx r => exact fun σ' G' H' s' e => h σ' G' H' (s.trans s') e
  | brk r => exact fun σ' G' H' s' e => h σ' G' H' (s.trans s') e
  | ct r => exact fun σ' G' H' s' e => h σ' G' H' (s.trans s') e
  | ret d => exact fun v G' H' s' e dv => h v G' H' (s.trans s') e dv
theorem st_asg {i : Nat} (h : EvB K te ρ β d β1) : StB K (tAsg te (gName i)) ρ β (.nx (ρ.set i (some (Slot.imm d)))) β1 := ⟨h.som, fun b G H σ D E k => h.run b G H σ _ E fun v G1 H1 s1 k1 d1 =>
  k (σ.set i (some v)) G1 H1 s1 ((E.step s1 k1).set d1)⟩
theorem st_ret (h : EvB K te ρ β d β1) : StB K (tRet te) ρ β (.ret d) β1 := ⟨h.som, fun b G H σ D E k => h.run b G H σ _ E fun v G1 H1 s1 k1 d1 => k v G1 H1 s1 k1 d1⟩
theorem st_next : StB K tNext ρ β (.nx ρ) β := ⟨rfl, fun b G H σ D E k => k σ G H (Step.refl E.sub) E⟩
theorem st_seq (h : StB K tu ρ β (.nx ρ1) β1) (h' : StB K tw ρ1 β1 o β2) : StB K (tSeq tu tw) ρ β o β2 := ⟨h'.som.trans h.som, fun b G H σ D E k => h.run b G H σ { D with nx := tw D } E fun σ1 G1 H1 s1 E1 =>
  h'.run b G1 H1 σ1 D E1 (by rw [h.som]; exact k.of (D' := D) s1)⟩
theorem st_seqR (h : StB K tu ρ β (.ret d) β1) : StB K (tSeq tu tw) ρ β (.ret d) β1 := ⟨h.som, fun b G H σ D E k => h.run b G H σ { D with nx := tw D } E k⟩
theorem st_if {p : Bool} (h : TtB K tt ρ β p β1) (h1 : p = true → StB K tu ρ β1 o β2) (h2 : p = false → StB K tw ρ β1 o β2) : StB K (tIfS tt tu tw) ρ β o β2 := by
  cases p with
  | true =>
    refine ⟨(h1 rfl).som.trans h.som, fun b G H σ D E k => h.run b G H σ _ E fun G1 H1 s1 k1 => ?_⟩
    rw [if_pos rfl]
    exact (h1 rfl).run b G1 H1 σ D (E.step s1 k1) (by rw [h.som]; exact k.of (D' := D) s1)
  | false =>
    refine ⟨(h2 rfl).som.trans h.som, fun b G H σ D E k => h.run b G H σ _ E fun G1 H1 s1 k1 => ?_⟩
    rw [if_neg (Bool.false_ne_true)]
    exact (h2 rfl).run b G1 H1 σ D (E.step s1 k1) (by rw [h.som]; exact k.of (D' := D) s1)
theorem st_ifT (h : TtB K tt ρ β true β1) (h1 : StB K tu ρ β1 o β2) : StB K (tIfS tt tu tw) ρ β o β2 := st_if h (fun _ => h1) fun z => by cases z
theorem st_ifF (h : TtB K tt ρ β false β1) (h1 : StB K tw ρ β1 o β2) : StB K (tIfS tt tu tw) ρ β o β2 := st_if h (fun z => by cases z) fun _ => h1
def gNames : List Nat → TGs
  | [] => gNil
  | i :: is => gCons (gName i) (gNames is)
def setR (ρ : Rho) : List Nat → List Dt → Rho
  | i :: is, d :: ds => setR (ρ.set i (some (Slot.imm d))) is ds
  | _, _ => ρ
theorem gNames_run {Q : L2.St → Hp → Prop} : ∀ {is : List Nat} {vs : List V} {ds : List Dt} {σ : L2.St} {ρ : Rho}, DenL K G vs ds → vs.length = is.length → EnvD K b β G H σ ρ → (∀ σ', EnvD K b β G H σ' (setR ρ is ds) → Q σ' H) → gNames is vs σ H Q
  | [], [], [], σ, ρ, _, _, E, k => ⟨rfl, k σ E⟩
  | [], _ :: _, _, _, _, _, h, _, _ => by cases h
  | [], [], _ :: _, _, _, h, _, _, _ => nomatch h
  | _ :: _, [], _, _, _, _, h, _, _ => by cases h
  | _ :: _, _ :: _, [], _, _, h, _, _, _ => nomatch h
  | i :: is, v :: vs, d :: ds, σ, ρ, .cons h1 h2, hl, E, k => ⟨v, vs, rfl, gNames_run h2 (Nat.succ.inj hl) (E.set h1) k⟩
end
inductive ForR [TabW] (K : PySem.W.Frag) (j : Nat) (tu : TS) : List Dt → Rho → Bag → Out → Bag → Prop
  | nil (ρ : Rho) (β : Bag) : ForR K j tu [] ρ β (.nx ρ) β
  | nx {d : Dt} {ds : List Dt} {ρ ρ1 : Rho} {β β1 β2 : Bag} {o : Out} : StB K tu (ρ.set j (some (Slot.imm d))) β (.nx ρ1) β1 → ForR K j tu ds ρ1 β1 o β2 → ForR K j tu (d :: ds) ρ β o β2
  | ct {d : Dt} {ds : List Dt} {ρ ρ1 : Rho} {β β1 β2 : Bag} {o : Out} : StB K tu (ρ.set j (some (Slot.imm d))) β (.ct ρ1) β1 → ForR K j tu ds ρ1 β1 o β2 → ForR K j tu (d :: ds) ρ β o β2
  | brk {d : Dt} {ds : List Dt} {ρ ρ1 : Rho} {β β1 : Bag} : StB K tu (ρ.set j (some (Slot.imm d))) β (.brk ρ1) β1 → ForR K j tu (d :: ds) ρ β (.nx ρ1) β1
  | ret {d : Dt} {ds : List Dt} {ρ : Rho} {β β1 : Bag} {r : Dt} : StB K tu (ρ.set j (some (Slot.imm d))) β (.ret r) β1 → ForR K j tu (d :: ds) ρ β (.ret r) β1
section
variable [TabW] {K : PySem.W.Frag} {b : Addr} {ρ ρ' ρ1 : Rho} {β β1 β2 β3 : Bag} {ta tb te tc : TE} {tt : TT} {tu tw ts : TS} {x y z d : Dt} {o : Out} {G H G1 H1 G2 H2 : Hp} {σ : L2.St}
theorem ForR.som {j : Nat} {ds : List Dt} (h : ForR K j tu ds ρ β o β2) : β2.isSome = β.isSome := by
  induction h with
  | nil => rfl
  | nx h _ ih => exact ih.trans h.som
  | ct h _ ih => exact ih.trans h.som
  | brk h => exact h.som
  | ret h => exact h.som
/-- one turn of a for, at any next -/
theorem for_turn {j : Nat} {ds : List Dt} {D : Ends} {m : Bool} {v : V} {N : L2.St → Hp → Prop} (hm : m = β.isSome) (h : ForR K j tu (d :: ds) ρ β o β2) (E : EnvD K b β G H σ ρ) (dv : Den K G v d)
    (s : Step b m G1 H1 G H) (k : OutOk K b m β2 G1 H1 D o) (hN : ∀ σ' G' H' ρ' β', Step b m G1 H1 G' H' → β'.isSome = m → EnvD K b β' G' H' σ' ρ' → ForR K j tu ds ρ' β' o β2 → N σ' H') :
    tu { D with nx := N, ct := N, bk := D.nx } (σ.set j (some v)) H := by
  have E' := E.set (i := j) dv
  subst hm
  cases h with
  | nx h hr => exact h.run b G H _ _ E' fun σ' G' H' s' e => hN σ' G' H' _ _ (s.trans s') h.som e hr
  | ct h hr => exact h.run b G H _ _ E' fun σ' G' H' s' e => hN σ' G' H' _ _ (s.trans s') h.som e hr
  | brk h => exact h.run b G H _ _ E' fun σ' G' H' s' e => k σ' G' H' (s.trans s') e
  | ret h => exact h.run b G H _ _ E' fun w G' H' s' e dw => k w G' H' (s.trans s') e dw
theorem st_forL {j : Nat} {tl : TE} {ds : List Dt} (hl : EvB K tl ρ β (.list ds) β1) (h : ForR K j tu ds ρ β1 o β2) : StB K (tFor (iList K tl) (gName j) tu) ρ β o β2 := by
  refine ⟨h.som.trans hl.som, fun b G H σ D E k => ?_⟩
  refine hl.run b G H σ _ E fun v G1 H1 s1 k1 d1 => ?_
  cases d1 with
  | @lst a xs _ hs hd =>
    refine ⟨a, rfl, ⟨xs, sq_of (s1.s _ _ hs)⟩, for_list (K := K) (a := a) (xs := xs) (fun i σ' H' => ∃ G' ρ' β', Step b β.isSome G1 H1 G' H' ∧ β'.isSome = β.isSome ∧ EnvD K b β' G' H' σ' ρ' ∧ ForR K j tu (ds.drop i) ρ' β' o β2) ?_ ?_ ?_ ?_⟩
    · exact ⟨G1, ρ, β1, Step.refl s1.s, hl.som, E.step s1 k1, h⟩
    · rintro i σ' H' _ ⟨G', ρ', β', s', _⟩
      exact sq_of (s'.s _ _ (s'.g _ _ hs))
    · rintro i v σ' H' hi ⟨G', ρ', β', s', m', E', r'⟩
      obtain ⟨d, hd1, hd2⟩ := hd.get hi
      have e : ds.drop i = d :: ds.drop (i + 1) := by
        obtain ⟨hlt, he⟩ := List.getElem?_eq_some_iff.mp hd1
        rw [← he]
        exact List.drop_eq_getElem_cons hlt
      rw [e] at r'
      exact for_turn (m := β.isSome) m'.symm r' E' (hd2.mono s'.g) s' (k.of (D' := D) s1) fun σ2 G2 H2 ρ2 β2' s2 m2 E2 r2 => ⟨G2, ρ2, β2', s2, m2, E2, r2⟩
    · rintro σ' H' ⟨G', ρ', β', s', m', E', r'⟩
      rw [hd.length, List.drop_length] at r'
      cases r'
      exact k σ' G' H' (s1.trans s') E'
def rng (lo : Int) (n : Nat) : List Dt := (List.range n).map fun (i : Nat) => PyData.int (lo + (i : Int))
theorem rng_length (lo : Int) (n : Nat) : (rng lo n).length = n := by unfold rng; rw [List.length_map, List.length_range]
theorem rng_drop {lo : Int} {n i : Nat} (h : i < n) : (rng lo n).drop i = .int (lo + (i : Int)) :: (rng lo n).drop (i + 1) := by
  have hl : i < (rng lo n).length := by rw [rng_length]; exact h
  have e : (rng lo n)[i]'hl = .int (lo + (i : Int)) := by simp [rng]
  rw [List.drop_eq_getElem_cons (hl), e]
theorem a_int1 {te : TE} {i : Int} (h : EvB K te ρ β (.int i) β1) (R : It → Hp → Prop) {m : Bool} (hm : m = β.isSome) (E : EnvD K b β G H σ ρ) (k : ∀ G1 H1, Step b m G H G1 H1 → BagOk b β1 G1 H1 → -(2 ^ 62) ≤ i ∧ i < 2 ^ 62 ∧ R (Itr 0 i.toNat) H1) : iRng1 (tCons te tNil) σ H R := by
  subst hm
  refine h.run b G H σ _ E fun v G1 H1 s1 k1 d1 => ?_
  cases d1
  obtain ⟨q1, q2, q3⟩ := k G1 H1 s1 k1
  exact ⟨i, rfl, q1, q2, q3⟩
theorem st_forR1 {j : Nat} {i : Int} (hl : EvB K te ρ β (.int i) β1) (hb : -(2 ^ 62) ≤ i ∧ i < 2 ^ 62) (h : ForR K j tu (rng 0 i.toNat) ρ β1 o β2) : StB K (tFor (iRng1 (tCons te tNil)) (gName j) tu) ρ β o β2 := by
  refine ⟨h.som.trans hl.som, fun b G H σ D E k => ?_⟩
  refine a_int1 hl _ rfl E fun G1 H1 s1 k1 => ⟨hb.1, hb.2, ?_⟩
  refine for_range (lo := 0) (n := i.toNat) (fun i' σ' H' => ∃ G' ρ' β', Step b β.isSome G1 H1 G' H' ∧ β'.isSome = β.isSome ∧ EnvD K b β' G' H' σ' ρ' ∧ ForR K j tu ((rng 0 i.toNat).drop i') ρ' β' o β2) ?_ ?_ ?_
  · exact ⟨G1, ρ, β1, Step.refl s1.s, hl.som, E.step s1 k1, h⟩
  · rintro i' σ' H' hi ⟨G', ρ', β', s', m', E', r'⟩
    rw [rng_drop hi] at r'
    exact for_turn (m := β.isSome) m'.symm r' E' (.int _) s' (k.of (D' := D) s1) fun σ2 G2 H2 ρ2 β2' s2 m2 E2 r2 => ⟨G2, ρ2, β2', s2, m2, E2, r2⟩
  · rintro σ' H' ⟨G', ρ', β', s', m', E', r'⟩
    have e : (rng 0 i.toNat).drop i.toNat = [] := by rw [List.drop_eq_nil_iff, rng_length]; exact Nat.le_refl _
    rw [e] at r'
    cases r'
    exact k σ' G' H' (s1.trans s') E'
end
inductive WhR [TabW] (K : PySem.W.Frag) (tt : TT) (tu : TS) : Nat → Rho → Bag → Out → Bag → Prop
  | done {n : Nat} {ρ : Rho} {β β1 : Bag} : TtB K tt ρ β false β1 → WhR K tt tu n ρ β (.nx ρ) β1
  | nx {n : Nat} {ρ ρ1 : Rho} {β β1 β2 β3 : Bag} {o : Out} : TtB K tt ρ β true β1 → StB K tu ρ β1 (.nx ρ1) β2 → WhR K tt tu n ρ1 β2 o β3 → WhR K tt tu (n + 1) ρ β o β3
  | ret {n : Nat} {ρ : Rho} {β β1 β2 : Bag} {r : Dt} : TtB K tt ρ β true β1 → StB K tu ρ β1 (.ret r) β2 → WhR K tt tu n ρ β (.ret r) β2
section
variable [TabW] {K : PySem.W.Frag} {b : Addr} {ρ ρ' ρ1 : Rho} {β β1 β2 β3 : Bag} {ta tb te tc : TE} {tt : TT} {tu tw ts : TS} {x y z d : Dt} {o : Out} {G H G1 H1 G2 H2 : Hp} {σ : L2.St}
theorem WhR.som {n : Nat} (h : WhR K tt tu n ρ β o β2) : β2.isSome = β.isSome := by
  induction h with
  | done h => exact h.som
  | nx h1 h2 _ ih => exact ih.trans (h2.som.trans h1.som)
  | ret h1 h2 => exact h2.som.trans h1.som
end
inductive LcR [TabW] (K : PySem.W.Frag) (j : Nat) (tt : TT) (te : TE) : List Dt → Rho → Bag → List Dt → Bag → Prop
  | nil (ρ : Rho) (β : Bag) : LcR K j tt te [] ρ β [] β
  | yes {d r : Dt} {ds rs : List Dt} {ρ : Rho} {β β1 β2 β3 : Bag} : TtB K tt (ρ.set j (some (Slot.imm d))) β true β1 → EvB K te (ρ.set j (some (Slot.imm d))) β1 r β2 → LcR K j tt te ds ρ β2 rs β3 → LcR K j tt te (d :: ds) ρ β (r :: rs) β3
  | no {d : Dt} {ds rs : List Dt} {ρ : Rho} {β β1 β3 : Bag} : TtB K tt (ρ.set j (some (Slot.imm d))) β false β1 → LcR K j tt te ds ρ β1 rs β3 → LcR K j tt te (d :: ds) ρ β rs β3
section
variable [TabW] {K : PySem.W.Frag} {b : Addr} {ρ ρ' ρ1 : Rho} {β β1 β2 β3 : Bag} {ta tb te tc : TE} {tt : TT} {tu tw ts : TS} {x y z d : Dt} {o : Out} {G H G1 H1 G2 H2 : Hp} {σ : L2.St}
theorem LcR.som {j : Nat} {ds rs : List Dt} (h : LcR K j tt te ds ρ β rs β2) : β2.isSome = β.isSome := by
  induction h with
  | nil => rfl
  | yes h1 h2 _ ih => exact ih.trans (h2.som.trans h1.som)
  | no h1 _ ih => exact ih.trans h1.som
theorem LcR.len {j : Nat} {ds rs : List Dt} (h : LcR K j tt te ds ρ β rs β2) : rs.length ≤ ds.length := by
  induction h with
  | nil => exact Nat.le_refl _
  | yes h1 h2 _ ih => exact Nat.succ_le_succ ih
  | no h1 _ ih => exact Nat.le_succ_of_le ih
/-- the tests hold or not, by f; the items are g's: nothing is drawn -/
theorem LcR.pure {j : Nat} (f : Dt → Bool) (g : Dt → Dt) : ∀ {ds : List Dt}, (∀ d ∈ ds, TtB K tt (ρ.set j (some (Slot.imm d))) β (f d) β) → (∀ d ∈ ds, f d = true → EvB K te (ρ.set j (some (Slot.imm d))) β (g d) β) → LcR K j tt te ds ρ β ((ds.filter f).map g) β
  | [], _, _ => .nil ρ β
  | d :: ds, h1, h2 => by
    have ih := LcR.pure f g (ds := ds) (fun e he => h1 e (List.mem_cons_of_mem _ he)) (fun e he => h2 e (List.mem_cons_of_mem _ he))
    have t := h1 d List.mem_cons_self
    cases hf : f d with
    | true =>
      rw [List.filter_cons, if_pos hf, List.map_cons]
      rw [hf] at t
      exact .yes t (h2 d List.mem_cons_self hf) ih
    | false =>
      rw [List.filter_cons, if_neg (by rw [hf]; decide)]
      rw [hf] at t
      exact .no t ih
theorem t_yes0 : TtB K tYes ρ β true β := ⟨rfl, fun b G H σ Q E k => k G H (Step.refl E.sub) E.bagk⟩
theorem LcR.map {j : Nat} (g : Dt → Dt) {ds : List Dt} (h2 : ∀ d ∈ ds, EvB K te (ρ.set j (some (Slot.imm d))) β (g d) β) : LcR K j tYes te ds ρ β (ds.map g) β := by
  have h := LcR.pure (K := K) (tt := tYes) (te := te) (ρ := ρ) (β := β) (j := j) (fun _ => true) g (ds := ds) (fun _ _ => t_yes0) fun d hd _ => h2 d hd
  rw [List.filter_eq_self.mpr fun _ _ => rfl] at h
  exact h
/-- the state between the turns -/
structure LcW [TabW] (K : PySem.W.Frag) (b : Addr) (m : Bool) (G1 H1 : Hp) (Dl : Addr) (rs : List Dt) (β3 : Bag) (P : List Dt → Bag → Prop) (H : Hp) : Prop where
  ex : ∃ (G : Hp) (β : Bag) (done rest : List Dt) (acc : List V), Step b m G1 H1 G H ∧ BagOk b β G H ∧ β.isSome = m ∧ G Dl = none ∧ H Dl = some (.lst acc) ∧ DenL K G acc done ∧ done ++ rest = rs ∧ P rest β
theorem LstAt.none {H : Hp} {Dl : Addr} (h : H Dl = none) : ∀ o, H Dl = some o → ∃ xs, o = HO.lst xs := fun o e => by rw [h] at e; cases e
theorem LstAt.of {H : Hp} {Dl : Addr} {xs : List V} (h : H Dl = some (.lst xs)) : ∀ o, H Dl = some o → ∃ xs, o = HO.lst xs := fun o e => by rw [h] at e; cases e; exact ⟨xs, rfl⟩
/-- nothing but a table -/
def Gone (H : Hp) (p : Addr) : Prop := ∀ o, NoT o → H p ≠ some o
theorem Gone.none {H : Hp} {p : Addr} (h : H p = none) : Gone H p := fun o _ z => by rw [h] at z; cases z
theorem Gone.ne {H : Hp} {p a : Addr} {o : HO} (g : Gone H p) (t : NoT o) (h : H a = some o) : a ≠ p := fun z => g o t (by rw [← z]; exact h)
/-- a table stays one if a list is written -/
theorem tab_upd {Dl P : Addr} {q : Str} {ob : HO} {H : Hp} (h : LamX.TabS H P q) (hl : ∀ o, H Dl = some o → ∃ xs, o = HO.lst xs) : LamX.TabS (upd H Dl ob) P q := by
  obtain ⟨ps, h1, h2, h3⟩ := h
  refine ⟨ps, ?_, h2, fun pos cv hc => ?_⟩
  · rw [upd_ne fun z => ?_]
    · exact h1
    · rw [← z] at hl
      obtain ⟨_, e⟩ := hl _ h1
      cases e
  · obtain ⟨c, e1, e2⟩ := h3 pos cv hc
    refine ⟨c, e1, ?_⟩
    rw [upd_ne fun z => ?_]
    · exact e2
    · rw [← z] at hl
      obtain ⟨_, e⟩ := hl _ e2
      unfold LamX.CodeO at e
      cases e
theorem Step.mut {m : Bool} {Dl : Addr} {ob : HO} (s : Step b m G1 H1 G H) (h1 : Gone H1 Dl) (h2 : G Dl = none) (hl : ∀ o, H Dl = some o → ∃ xs, o = HO.lst xs) : Step b m G1 H1 G (upd H Dl ob) := by
  refine ⟨s.g, s.s.mut h2, s.fresh, fun a u n t h => ?_, fun a u t h => ?_, fun h => ⟨fun P q w => tab_upd ((s.tabs h).tab P q w) hl, (s.tabs h).free⟩⟩
  · rw [upd_ne (h1.ne t h)]
    exact s.keep a u n t h
  · rw [upd_ne (h1.ne t h)]
    exact s.stay a u t h
theorem BagOk.mut {Dl : Addr} {ob : HO} (k : BagOk b β G H) (n : β.isSome = true → Dl ≠ b) : BagOk b β G (upd H Dl ob) := fun ns e => by
  obtain ⟨h1, h2⟩ := k ns e
  exact ⟨by rw [upd_ne (Ne.symm (n (by rw [e]; rfl)))]; exact h1, h2⟩
/-- one turn, with the element at hand -/
theorem lc_turn {j : Nat} {m : Bool} {Dl : Addr} {ds rs : List Dt} {σ0 : L2.St} {v : V} (hD : H1 Dl = none) (nb : m = true → Dl ≠ b) (hz : rs.length ≤ 100000) (E1 : ∀ G H β, Step b m G1 H1 G H → BagOk b β G H → EnvD K b β G H σ0 ρ)
    (hv : Den K G1 v d) (hw : LcW K b m G1 H1 Dl rs β3 (fun rest β => LcR K j tt te (d :: ds) ρ β rest β3) H) :
    tt (σ0.set j (some v)) H fun c H3 => if c = true then te (σ0.set j (some v)) H3 fun y H4 => ∃ acc, H4 Dl = some (.lst acc) ∧ acc.length < sizeLine ∧ LcW K b m G1 H1 Dl rs β3 (fun rest β => LcR K j tt te ds ρ β rest β3) (upd H4 Dl (.lst (acc ++ [y])))
      else LcW K b m G1 H1 Dl rs β3 (fun rest β => LcR K j tt te ds ρ β rest β3) H3 := by
  obtain ⟨G, β, done, rest, acc, s, kb, hm, gD, hH, ha, hr, r⟩ := hw
  have E := (E1 G H β s kb).set (i := j) (hv.mono s.g)
  cases r with
  | @yes _ r' _ rs' _ _ β1 β2 _ ht he hr' =>
    refine ht.run b G H _ _ E fun G3 H3 s3 k3 => ?_
    rw [if_pos rfl]
    rw [hm] at s3
    refine he.run b G3 H3 _ _ (E.step s3 k3) fun y G4 H4 s4 k4 d4 => ?_
    rw [ht.som, hm] at s4
    have hH3 := s3.keep Dl _ nb NoT.lst hH
    have hH4 := s4.keep Dl _ nb NoT.lst hH3
    have gD3 := s3.fresh Dl _ gD NoT.lst hH
    have gD4 := s4.fresh Dl _ gD3 NoT.lst hH3
    have m2 : β2.isSome = m := he.som.trans (ht.som.trans hm)
    have hlen : acc.length = done.length := ha.length
    have hrl : rs.length = done.length + (rs'.length + 1) := by rw [← hr, List.length_append, List.length_cons]
    refine ⟨acc, hH4, sz_lt (by omega), ⟨G4, β2, done ++ [r'], rs', acc ++ [y], ((s.trans s3).trans s4).mut (Gone.none hD) gD4 (LstAt.of hH4), k4.mut (by rw [m2]; exact nb), m2, gD4, upd_same, ?_, ?_, hr'⟩⟩
    · exact (ha.mono (s3.g.trans s4.g)).append (.cons d4 .nil)
    · rw [← hr, List.append_assoc]
      rfl
  | @no _ _ _ _ _ β1 _ ht hr' =>
    refine ht.run b G H _ _ E fun G3 H3 s3 k3 => ?_
    rw [if_neg (Bool.false_ne_true)]
    rw [hm] at s3
    exact ⟨G3, β1, done, rest, acc, s.trans s3, k3, ht.som.trans hm, s3.fresh Dl _ gD NoT.lst hH, s3.keep Dl _ nb NoT.lst hH, ha.mono s3.g, hr, hr'⟩
theorem lc_start {m : Bool} {Dl : Addr} {rs : List Dt} {P : List Dt → Bag → Prop} (e : Ex G1 H1) (hD : H1 Dl = none) (kb : BagOk b β G1 H1) (hm : β.isSome = m) (nb : m = true → Dl ≠ b) (h : P rs β) : LcW K b m G1 H1 Dl rs β3 P (upd H1 Dl (.lst [])) :=
  ⟨G1, β, [], rs, [], (Step.refl e).mut (Gone.none hD) (fresh_back e hD) (LstAt.none hD), kb.mut (by rw [hm]; exact nb), hm, fresh_back e hD, upd_same, .nil, rfl, h⟩
theorem lc_end {j : Nat} {m : Bool} {Dl : Addr} {rs : List Dt} {Q : VK} (e : Ex G1 H1) (hD : H1 Dl = none) (nb : m = true → Dl ≠ b) (hw : LcW K b m G1 H1 Dl rs β3 (fun rest β => LcR K j tt te [] ρ β rest β3) H)
    (k : ∀ v G' H', Step b m G1 H1 G' H' → BagOk b β3 G' H' → Den K G' v (.list rs) → Q v H') : Q (.ref Dl) H := by
  obtain ⟨G, β, done, rest, acc, s, kb, hm, gD, hH, ha, hr, r⟩ := hw
  cases r
  rw [List.append_nil] at hr
  subst hr
  have ex : Ex G (upd G Dl (.lst acc)) := Ex.new gD
  refine k (.ref Dl) (upd G Dl (.lst acc)) H ⟨s.g.trans ex, fun a u h => ?_, fun a u h1 t h2 => ?_, s.keep, s.stay, fun h => ⟨(s.tabs h).tab, fun x ps z => ?_⟩⟩ (fun ns q => ?_) (.lst upd_same (ha.mono ex))
  · by_cases z : a = Dl
    · subst z; rw [upd_same] at h; cases h; exact hH
    · rw [upd_ne z] at h; exact s.s a u h
  · rw [upd_ne (ne_of_none h2 hD)]
    exact s.fresh a u h1 t h2
  · by_cases q : x = Dl
    · rw [q, upd_same] at z; cases z
    · rw [upd_ne q] at z; exact (s.tabs h).free x ps z
  · obtain ⟨q1, q2⟩ := kb ns q
    exact ⟨q1, by rw [upd_ne (Ne.symm (nb (by rw [← hm, q]; rfl)))]; exact q2⟩
theorem bag_ne {m : Bool} {Dl : Addr} (kb : BagOk b β G H) (hm : β.isSome = m) (hD : H Dl = none) : m = true → Dl ≠ b := fun z q => by
  rw [← hm] at z
  obtain ⟨ns, e⟩ := Option.isSome_iff_exists.mp z
  have := (kb ns e).1
  rw [← q, hD] at this
  cases this
/-- a comprehension over a list -/
theorem d_lcL {j : Nat} {vs : List Nat} {tl : TE} {ds rs : List Dt} (hl : EvB K tl ρ β (.list ds) β1) (h : LcR K j tt te ds (wipeR ρ vs) β1 rs β2) (hz : rs.length ≤ 100000)
    (hw : ∀ (σ : L2.St) x, wipe ((wipe σ vs).set j (some x)) vs = wipe σ vs) : EvB K (tLc (iList K tl) (gName j) tt te vs) ρ β (.list rs) β2 := by
  refine ⟨h.som.trans hl.som, fun b G H σ Q E k => ?_⟩
  refine hl.run b G H σ _ E fun v G1 H1 s1 k1 d1 => ?_
  have E1 := E.step s1 k1
  cases d1 with
  | @lst a xs _ hs hd =>
    refine ⟨a, rfl, ⟨xs, sq_of (s1.s _ _ hs)⟩, fun Dl hD => ?_⟩
    have nb := bag_ne k1 hl.som hD
    refine lc_list (K := K) (a := a) (xs := xs) (fun i H' => LcW K b β.isSome G1 H1 Dl rs β2 (fun rest β' => LcR K j tt te (ds.drop i) (wipeR ρ vs) β' rest β2) H') ?_ ?_ ?_ ?_
    · exact lc_start s1.s hD k1 hl.som nb h
    · rintro i H' _ ⟨G', β', done, rest, acc, s', _⟩
      exact sq_of (s'.s _ _ (s'.g _ _ hs))
    · rintro i x H' hi w'
      obtain ⟨d, hd1, hd2⟩ := hd.get hi
      have e : ds.drop i = d :: ds.drop (i + 1) := by
        obtain ⟨hlt, he⟩ := List.getElem?_eq_some_iff.mp hd1
        rw [← he]
        exact List.drop_eq_getElem_cons hlt
      rw [e] at w'
      exact ⟨hw σ x, lc_turn hD nb hz (fun G' H' β' s' kb' => (E1.wipe vs).step s' kb') hd2 w'⟩
    · rintro H' w'
      rw [hd.length, List.drop_length] at w'
      exact lc_end s1.s hD nb w' fun v G' H'' s' kb' dv => k v G' H'' (s1.trans s') kb' dv
theorem d_lcT {j : Nat} {vs : List Nat} {tl : TE} {ds rs : List Dt} (hl : EvB K tl ρ β (.tuple ds) β1) (h : LcR K j tt te ds (wipeR ρ vs) β1 rs β2) (hz : rs.length ≤ 100000)
    (hw : ∀ (σ : L2.St) x, wipe ((wipe σ vs).set j (some x)) vs = wipe σ vs) : EvB K (tLc (iTup K tl) (gName j) tt te vs) ρ β (.list rs) β2 := by
  refine ⟨h.som.trans hl.som, fun b G H σ Q E k => ?_⟩
  refine hl.run b G H σ _ E fun v G1 H1 s1 k1 d1 => ?_
  have E1 := E.step s1 k1
  cases d1 with
  | @tup a xs _ hs hd =>
    have hs := st_of (K := K) hs
    refine ⟨a, rfl, ⟨xs, ex_t s1.s hs⟩, fun Dl hD => ?_⟩
    have nb := bag_ne k1 hl.som hD
    refine lc_tup (K := K) (a := a) (xs := xs) (fun i H' => LcW K b β.isSome G1 H1 Dl rs β2 (fun rest β' => LcR K j tt te (ds.drop i) (wipeR ρ vs) β' rest β2) H') ?_ ?_ ?_ ?_
    · exact lc_start s1.s hD k1 hl.som nb h
    · rintro i H' _ ⟨G', β', done, rest, acc, s', _⟩
      exact ex_t s'.s (ex_t s'.g hs)
    · rintro i x H' hi w'
      obtain ⟨d, hd1, hd2⟩ := hd.get hi
      have e : ds.drop i = d :: ds.drop (i + 1) := by
        obtain ⟨hlt, he⟩ := List.getElem?_eq_some_iff.mp hd1
        rw [← he]
        exact List.drop_eq_getElem_cons hlt
      rw [e] at w'
      exact ⟨hw σ x, lc_turn hD nb hz (fun G' H' β' s' kb' => (E1.wipe vs).step s' kb') hd2 w'⟩
    · rintro H' w'
      rw [hd.length, List.drop_length] at w'
      exact lc_end s1.s hD nb w' fun v G' H'' s' kb' dv => k v G' H'' (s1.trans s') kb' dv
end
end TD
set_option Elab.async false
set_option linter.all false
set_option maxRecDepth 100000
set_option maxHeartbeats 3000000
namespace TD
open PySem L2 PySem.Spec PyProof.Rows
open Evl (Ex ex_l ex_t fresh_back sq_of st_of sz_of sz_lt)
theorem wipe_set {j : Nat} {y : Option V} : ∀ {vs : List Nat} {σ : L2.St}, j ∈ vs → wipe (σ.set j y) vs = wipe σ vs
  | [], _, h => by cases h
  | v :: vs, σ, h => by
    unfold wipe
    by_cases z : j ∈ vs
    · rw [wipe_set z]
    · have e : j = v := by
        rcases List.mem_cons.mp h with h | h
        · exact h
        · exact absurd h z
      subst e
      have q : ∀ {ws : List Nat} {τ : L2.St}, j ∉ ws → wipe (τ.set j y) ws = (wipe τ ws).set j y := by
        intro ws
        induction ws with
        | nil => intro τ _; rfl
        | cons w ws ih =>
          intro τ hn
          unfold wipe
          rw [ih (fun m => hn (List.mem_cons_of_mem _ m)), List.set_comm _ _ (fun e => hn (by rw [e]; exact List.mem_cons_self))]
      rw [q z, List.set_set]
theorem wipe_wipe : ∀ {vs : List Nat} {σ : L2.St}, wipe (wipe σ vs) vs = wipe σ vs
  | vs, σ => by
    have q : ∀ {ws : List Nat} {τ : L2.St}, (∀ w ∈ ws, w ∈ vs) → wipe (wipe τ ws) vs = wipe τ vs := by
      intro ws
      induction ws with
      | nil => intro τ _; rfl
      | cons w ws ih =>
        intro τ hs
        show wipe ((wipe τ ws).set w none) vs = _
        rw [wipe_set (hs w List.mem_cons_self)]
        exact ih fun u hu => hs u (List.mem_cons_of_mem _ hu)
    exact q fun w h => h
theorem wipe_ok {j : Nat} {vs : List Nat} (h : j ∈ vs) (σ : L2.St) (x : V) : wipe ((wipe σ vs).set j (some x)) vs = wipe σ vs := by rw [wipe_set h, wipe_wipe]
/-- what a def makes of its arguments: the arguments, the bag ahead, the answer, the bag behind -/
abbrev FR := List Slot → Bag → Dt → Bag → Prop
def spR [TabW] (K : PySem.W.Frag) (R : FR) : Sp := fun vs H Q _ => ∃ (b : Addr) (G : Hp) (β : Bag) (as : List Slot) (r : Dt) (β' : Bag), Ex G H ∧ TabsOk G H ∧ BagOk b β G H ∧ DenSs K b G vs as ∧ R as β r β' ∧ β'.isSome = β.isSome ∧
  ∀ v G' H', Step b β.isSome G H G' H' → BagOk b β' G' H' → Den K G' v r → Q v H'
def startR (N : List Str) (as : List Slot) : Rho := as.map some ++ List.replicate (N.length - as.length) none
section
variable [TabW] {K : PySem.W.Frag} {b : Addr} {β β' β1 β2 : Bag} {G H : Hp} {ρ : Rho}
theorem start_env {N : List Str} {vs : List V} {as : List Slot} (e : Ex G H) (tb : TabsOk G H) (kb : BagOk b β G H) (h : DenSs K b G vs as) : EnvD K b β G H (L2.start N vs) (startR N as) := by
  have hl := h.length
  have get : ∀ (i : Nat) (a : Slot), (startR N as)[i]? = some (some a) → ∃ v, (L2.start N vs)[i]? = some (some v) ∧ DenS K b G v a := by
    intro i a hi
    have hia : i < as.length := by
      by_cases z : i < as.length
      · exact z
      · unfold startR at hi
        rw [List.getElem?_append_right (by simpa using z), List.getElem?_replicate] at hi
        split at hi <;> cases hi
    unfold startR at hi
    rw [List.getElem?_append_left (by simpa using hia), List.getElem?_map] at hi
    have ha : as[i]? = some a := by
      cases q : as[i]? with
      | none => rw [q] at hi; cases hi
      | some a' => rw [q] at hi; cases hi; rfl
    have q : ∀ {vs : List V} {as : List Slot} {i : Nat}, DenSs K b G vs as → as[i]? = some a → ∃ v, vs[i]? = some v ∧ DenS K b G v a := by
      intro vs as i hd
      induction hd generalizing i with
      | nil => intro z; simp at z
      | cons h1 _ ih =>
        intro z
        cases i with
        | zero => simp at z; subst z; exact ⟨_, rfl, h1⟩
        | succ i =>
          obtain ⟨v, z1, z2⟩ := ih (i := i) (by simpa using z)
          exact ⟨v, by simpa using z1, z2⟩
    obtain ⟨v, h1, h2⟩ := q h ha
    refine ⟨v, ?_, h2⟩
    unfold L2.start
    rw [List.getElem?_append_left (by rw [List.length_map, hl]; exact hia), List.getElem?_map, h1]
    rfl
  refine ⟨e, kb, ?_, fun i d hi => get i (.imm d) hi, fun i hi => ?_, tb, fun i a hi => get i (.fn a) hi |>.elim fun v h => by have h2 : v = .ref a := h.2; rw [← h2]; exact h.1⟩
  · unfold L2.start startR
    rw [List.length_append, List.length_append, List.length_map, List.length_map, List.length_replicate, List.length_replicate, hl]
  · obtain ⟨v, h1, h2⟩ := get i .bag hi
    have : v = .ref b := h2
    subst this
    exact h1
/-- a body that returns, or comes to its end -/
inductive BodyR [TabW] (K : PySem.W.Frag) (t : TS) (ρ : Rho) (β : Bag) (r : Dt) (β' : Bag) : Prop
  | ret : StB K t ρ β (.ret r) β' → BodyR K t ρ β r β'
  | fall (ρ' : Rho) : StB K t ρ β (.nx ρ') β' → r = .none → BodyR K t ρ β r β'
theorem fn_read {R : FR} {N : List Str} {t : TS} (h : ∀ as β r β', R as β r β' → BodyR K t (startR N as) β r β') {vs : List V} {H : Hp} {Q : VK} {E : XK} (hsp : spR K R vs H Q E) : t { nx := fun _ H' => Q .non H', rt := Q } (L2.start N vs) H := by
  obtain ⟨b, G, β, as, r, β', e, tb, kb, ha, hR, hm, k⟩ := hsp
  have E0 := start_env (N := N) e tb kb ha
  cases h _ _ _ _ hR with
  | ret hb => exact hb.run b G H _ _ E0 fun v G' H' s' k' d' => k v G' H' s' k' d'
  | fall ρ' hb hr =>
    subst hr
    exact hb.run b G H _ _ E0 fun σ' G' H' s' e' => k .non G' H' s' e'.bagk .non
/-- a call of it, with the bag or without -/
theorem d_call {R : FR} {E : XK} {t : TA} {as : List Slot} {r : Dt} (ha : EvA K t ρ β as β1) (hR : R as β1 r β2) (hm : β2.isSome = β1.isSome) : EvB K (tCall (spR K R) [] E t) ρ β r β2 := by
  refine ⟨hm.trans ha.som, fun b G H σ Q E' k => ?_⟩
  refine ha.run b G H σ _ E' fun vs G1 H1 s1 k1 d1 => ?_
  rw [List.append_nil]
  refine ⟨b, G1, β1, as, r, β2, s1.s, (E'.step s1 k1).tabs, k1, d1, hR, hm, fun v G2 H2 s2 k2 d2 => ?_⟩
  rw [ha.som] at s2
  exact k v G2 H2 (s1.trans s2) k2 d2
theorem d_call0 {R : FR} {E : XK} {t : TA} {as : List Slot} {r : Dt} (ha : EvA K t ρ β as β1) (hR : R as none r none) : EvB K (tCall (spR K R) [] E t) ρ β r β1 := by
  refine ⟨ha.som, fun b G H σ Q E' k => ?_⟩
  refine ha.run b G H σ _ E' fun vs G1 H1 s1 k1 d1 => ?_
  rw [List.append_nil]
  exact ⟨b, G1, none, as, r, none, s1.s, (E'.step s1 k1).tabs, (fun _ z => nomatch z), d1, hR, rfl, fun v G2 H2 s2 k2 d2 => k v G2 H2 (s1.trans s2.up) (k1.same s2) d2⟩
end
structure FnG [TabW] (P : Program) (w : World) (K : PySem.W.Frag) (mg : Str → Option Value) (base : Heap) (k : Nat) (x : Str) (ps : List Str) (R : FR) : Prop where
  ex : ∃ (f : Addr) (fd : FuncData), mg x = some (.ref f) ∧ FnOk P w K mg base CX0 k f fd ps (spR K R) ∧ Binds K fd ps [] ∧ PySem.W.keepIn K (.ref f) = true
section
variable [TabW] {X : Cx} {k : Nat} {x : Str} {ps : List Str} {R : FR} {q pos : Pos} {e : Expr} {es : List Expr} {t : TA}
theorem pe_fn {P : Program} {w : World} {K : PySem.W.Frag} {mg : Str → Option Value} {base : Heap} (F : FnG P w K mg base k x ps R) (hr : Room k X.A) (ha : PA X (e :: es) t) (h1 : X.prog = P := by rfl) (h2 : X.w = w := by rfl) (h3 : X.K = K := by rfl) (h4 : X.mg = mg := by rfl) (h5 : X.base = base := by rfl)
    (hg : Gl X x := by rfl) (hdb : (x == ("__debug__" : Str)) = false := by decide) (hs : starEach (e :: es) X.env = (false, eval e X.env) :: starEach es X.env := by rfl)
    (hp : (backTo pos (starEach es X.env)).any (·.1) = false := by rfl) : PE X (.Call (.Name x q) (e :: es) [] pos) (tCall (spR K R) [] E0 t) := by
  obtain ⟨f, fd, hm, hf, hb, hk⟩ := F.ex
  subst h1 h2 h3 h4 h5
  exact pe_call hf hr hg hm hk hb .nil pass0 ha hdb hs hp
end
/-- where a def of the text stands -/
structure DefAt (K : PySem.W.Frag) (x : Str) (st : Stmt) : Prop where
  ex : ∃ (f : Addr) (fd : FuncData), PySem.W.nsIn K mainGlobals x = some (some (.ref f)) ∧ Fun K x x st f fd
section
variable [TabW] {P : Program} {w : World} {K : PySem.W.Frag} {mg : Str → Option Value} {base : Heap} {k : Nat} {x : Str} {st : Stmt} {N ps : List Str} {R : FR}
/-- THE RULE for a def -/
theorem fn_mk (F : DefAt K x st) (hX : K.In base) (hG : base.Ns mainGlobals mg) (S : FnScope N ps (defScope st)) (hlen : ∀ as β r β', R as β r β' → as.length = ps.length)
    (hb : ∀ (f : Addr) (kV doc pm : Value) (an : Option Addr) (cdv ct : Value) (us : List Value), us.length = ps.length → bindArgs (PySem.W.fnOf x x (defArgs st) (defBody st) (defScope st) .none kV doc pm an cdv ct) ⟨us, []⟩ = pure (ps.zip us))
    (hbody : ∀ (f : Addr) (cdv : Value) (A : Around) (outer : List PySem.Env) (s : Shared) (H : Hp) (E : XK), Room k (A.deeper (envOfC x (defScope st) s.heap.objs.size f cdv)) →
      ∃ t, PSs (cxOf CX0 P w K mg base N x (defScope st) f cdv A outer s H E).nox (defBody st) t ∧ ∀ as β r β', R as β r β' → BodyR K t (startR N as) β r β') : FnG P w K mg base (k + 1) x ps R := by
  obtain ⟨f, fd, ha, hF⟩ := F.ex
  refine ⟨f, fd, PySem.W.mg_of hX hG ha, ?_, hF.binds (hb f), hF.kp⟩
  refine hF.ok S (fun vs H Q E hsp => ?_) fun cdv A outer s H vs Q E hr hsp => ?_
  · obtain ⟨b, G, β, as, r, β', _, _, _, hd, hR, _⟩ := hsp
    rw [hd.length]
    exact hlen _ _ _ _ hR
  · obtain ⟨t, h1, h2⟩ := hbody f cdv A outer s H E hr
    exact ⟨t, h1, fn_read h2 hsp⟩
end
end TD
set_option Elab.async false
set_option linter.all false
set_option maxRecDepth 100000
set_option maxHeartbeats 3000000
namespace TD
open PySem L2 PySem.Spec PyProof.Rows
open Evl (Ex ex_l ex_t fresh_back sq_of st_of sz_of sz_lt)
theorem units1 {k : Nat} {A : Around} (r : Room k A) : A.units + 65 < cLine := by have := r.un; omega
def CPowW (i j : Int) : Prop := 0 ≤ j ∧ (Builtin.Int.intBits i : Int) * j ≤ 2 ^ 27
theorem op_powW {X : Cx} : OpR X (binaryOp .Pow) (rI CPowW fun i j => .int (i ^ j.toNat)) := opI fun _ _ _ _ _ _ _ hc q => pow_int hc.1 hc.2 q
theorem bo_int : bootBuiltins "int" = some (.type "int") := by decide +kernel
theorem bo_bool : bootBuiltins "bool" = some (.type "bool") := by decide +kernel
theorem bo_tuple : bootBuiltins "tuple" = some (.type "tuple") := by decide +kernel
theorem bo_list : bootBuiltins "list" = some (.type "list") := by decide +kernel
theorem bo_str : bootBuiltins "str" = some (.type "str") := by decide +kernel
theorem bo_set : bootBuiltins "set" = some (.type "set") := by decide +kernel
theorem bo_abs : bootBuiltins "abs" = some (.builtin "abs") := by decide +kernel
theorem bo_len : bootBuiltins "len" = some (.builtin "len") := by decide +kernel
theorem bo_sum : bootBuiltins "sum" = some (.builtin "sum") := by decide +kernel
theorem bo_max : bootBuiltins "max" = some (.builtin "max") := by decide +kernel
theorem bo_min : bootBuiltins "min" = some (.builtin "min") := by decide +kernel
theorem bo_all : bootBuiltins "all" = some (.builtin "all") := by decide +kernel
theorem bo_repr : bootBuiltins "repr" = some (.builtin "repr") := by decide +kernel
theorem bo_sorted : bootBuiltins "sorted" = some (.builtin "sorted") := by decide +kernel
theorem bo_isinstance : bootBuiltins "isinstance" = some (.builtin "isinstance") := by decide +kernel
def rAnyT (K : PySem.W.Frag) : List V → Hp → VK → Prop := fun vs H Q => ∃ (a : Addr) (ns : List Int), vs = [V.ref a] ∧ SqT K H a (ns.map V.int) ∧ Q (.bl (ns.any (· != 0))) H
def rReprB : List V → Hp → VK → Prop := fun xs H Q => ∃ c : Bool, xs = [.bl c] ∧ Q (.str (if c then "True" else "False")) H
section
variable [TabW] {K : PySem.W.Frag} {b : Addr} {ρ ρ' ρ1 : Rho} {β β1 β2 β3 : Bag} {ta tb te tc : TE} {tt : TT} {tu tw ts : TS} {x y z d : Dt} {o : Out} {G H G1 H1 G2 H2 : Hp} {σ : L2.St}
theorem d_anyT {ns : List Int} (h : EvB K te ρ β (.tuple (ns.map .int)) β1) : EvB K (tCB (rAnyT K) (tCons te tNil)) ρ β (.bool (ns.any (· != 0))) β1 := d_c1 h fun b G H v Q e dv k => by
  cases dv with
  | @tup a xs _ hs hd =>
    have hs := st_of (K := K) hs
    have := hd.ints
    subst this
    exact ⟨a, ns, rfl, ex_t e hs, k _ G H (Step.refl e) (.bl _)⟩
def boolT (c : Bool) : Str := if c then "True" else "False"
theorem d_reprB {c : Bool} (h : EvB K te ρ β (.bool c) β1) : EvB K (tCB rReprB (tCons te tNil)) ρ β (.str (boolT c)) β1 := d_c1 h fun b G H v Q e dv k => by
  cases dv
  exact ⟨c, rfl, k _ G H (Step.refl e) (.str _)⟩
/-- a truth -/
def tTruth (K : PySem.W.Frag) (te : TE) : TT := fun σ H Q => te σ H fun x H' => ∃ k, TruV K x H' k ∧ Q k H'
theorem t_truthI {i : Int} (h : EvB K te ρ β (.int i) β1) : TtB K (tTruth K te) ρ β (i != 0) β1 := ⟨h.som, fun b G H σ Q E k => h.run b G H σ _ E fun v G1 H1 s1 k1 d1 => by
  cases d1
  exact ⟨_, rfl, k G1 H1 s1 k1⟩⟩
def CDivV (_ j : Int) : Prop := j ≠ 0 ∧ j.natAbs.log2 < 9000
theorem op_fdivV {X : Cx} : OpR X (binaryOp .FloorDiv) (rI CDivV fun i j => .int (i.fdiv j)) := opI fun _ _ _ _ _ _ _ hc q => floordiv_int hc.1 q (.inl (PyProof.noPylong_of_log2 hc.2))
theorem d_fdiv {i j : Int} {C : Int → Int → Prop} (ha : EvB K ta ρ β (.int i) β1) (hb : EvB K tb ρ β1 (.int j) β2) (hc : C i j) : EvB K (tOp (rI C fun i j => .int (i.fdiv j)) ta tb) ρ β (.int (i.fdiv j)) β2 := d_rI ha hb hc fun _ => .int _
theorem eqv_ints : ∀ ms ns : List Int, PyData.eqvAll (ms.map .int) (ns.map .int) = decide (ms = ns)
  | [], [] => rfl
  | [], _ :: _ => rfl
  | _ :: _, [] => rfl
  | m :: ms, n :: ns => by
    show (PyData.eqv (.int m) (.int n) && PyData.eqvAll (ms.map .int) (ns.map .int)) = _
    rw [eqv_ints ms ns]
    have e : PyData.eqv (.int m) (.int n) = decide (m = n) := rfl
    rw [e]
    by_cases h1 : m = n
    · by_cases h2 : ms = ns
      · simp [h1, h2]
      · simp [h1, h2]
    · simp [h1]
theorem flat_ints : ∀ ns : List Int, flatL (ns.map .int) = true
  | [] => rfl
  | n :: ns => by
    show (flatD (.int n) && flatL (ns.map .int)) = true
    rw [flat_ints ns]
    rfl
theorem lay_ints : ∀ ns : List Int, PyData.canLayAll0 (ns.map .int) = true
  | [] => rfl
  | n :: ns => by
    show (PyData.canLay0 (.int n) && PyData.canLayAll0 (ns.map .int)) = true
    rw [lay_ints ns]
    rfl
theorem depth_ints : ∀ ns : List Int, PyData.depthAll (ns.map .int) = 0
  | [] => rfl
  | n :: ns => by
    show max (PyData.depth (.int n)) (PyData.depthAll (ns.map .int)) = 0
    rw [depth_ints ns]
    rfl
theorem shaped_tup (ns : List Int) : SeqAt.shaped (.tuple (ns.map .int)) = true := by
  show (PyData.canLayAll0 (ns.map .int) && decide (PyData.depthAll (ns.map .int) + 1 ≤ 64)) = true
  rw [lay_ints, depth_ints]
  rfl
theorem shaped_lst (ns : List Int) : SeqAt.shaped (.list (ns.map .int)) = true := by
  show (PyData.canLayAll0 (ns.map .int) && decide (PyData.depthAll (ns.map .int) + 1 ≤ 64)) = true
  rw [lay_ints, depth_ints]
  rfl
theorem d_eqTT {ms ns : List Int} (ha : EvB K ta ρ β (.tuple (ms.map .int)) β1) (hb : EvB K tb ρ β1 (.tuple (ns.map .int)) β2) : EvB K (tOp (rEqD K) ta tb) ρ β (.bool (decide (ms = ns))) β2 :=
  (d_eqD ha hb (flat_ints ms) (flat_ints ns) (shaped_tup ms) (shaped_tup ns)).to (congrArg PyData.bool (eqv_ints ms ns))
theorem d_neTT {ms ns : List Int} (ha : EvB K ta ρ β (.tuple (ms.map .int)) β1) (hb : EvB K tb ρ β1 (.tuple (ns.map .int)) β2) : EvB K (tOp (rNeD K) ta tb) ρ β (.bool (!decide (ms = ns))) β2 :=
  (d_neD ha hb (flat_ints ms) (flat_ints ns) (shaped_tup ms) (shaped_tup ns)).to (congrArg (fun c => PyData.bool (!c)) (eqv_ints ms ns))
theorem d_eqLL {ms ns : List Int} (ha : EvB K ta ρ β (.list (ms.map .int)) β1) (hb : EvB K tb ρ β1 (.list (ns.map .int)) β2) : EvB K (tOp (rEqD K) ta tb) ρ β (.bool (decide (ms = ns))) β2 :=
  (d_eqD ha hb (flat_ints ms) (flat_ints ns) (shaped_lst ms) (shaped_lst ns)).to (congrArg PyData.bool (eqv_ints ms ns))
theorem d_neLL {ms ns : List Int} (ha : EvB K ta ρ β (.list (ms.map .int)) β1) (hb : EvB K tb ρ β1 (.list (ns.map .int)) β2) : EvB K (tOp (rNeD K) ta tb) ρ β (.bool (!decide (ms = ns))) β2 :=
  (d_neD ha hb (flat_ints ms) (flat_ints ns) (shaped_lst ms) (shaped_lst ns)).to (congrArg (fun c => PyData.bool (!c)) (eqv_ints ms ns))
end
section
variable [TabW] {K : PySem.W.Frag} {ρ : Rho} {β β1 : Bag} {ta : TE}
/-- an int in a tuple of ints among the kept things -/
theorem d_inK {a : Addr} {i : Int} {ns : List Int} (hq : ∀ H : Hp, SqT K H a (ns.map V.int)) (h : EvB K ta ρ β (.int i) β1) : EvB K (tOp (rIn K false) ta (tC (.ref a))) ρ β (.bool (decide (i ∈ ns))) β1 := ⟨h.som, fun b G H σ Q E k => h.run b G H σ _ E fun v G1 H1 s1 k1 d1 => by
  cases d1
  exact ⟨a, ns.map V.int, rfl, .inr (hq H1), rfl, ints_flat ns, by rw [if_neg Bool.false_ne_true, inV_ints]; exact k _ G1 H1 s1 k1 (.bl _)⟩⟩
end
end TD
set_option linter.all false
namespace Num
open PySem
abbrev Dt := PyData
def big : Int := 1000000000000000000000000000000000000000000000000000000000000
def isInteger : Dt → Bool
  | .int i => decide (-big < i) && decide (i < big)
  | _ => false
def primes : List Int := [2, 3, 5, 7, 11, 13, 17, 19]
def isPrime : Dt → Bool
  | .int p => decide (p = 0) || decide (p ∈ primes)
  | _ => false
/-- a prime of the package, as a number -/
def PrimeI (p : Int) : Prop := p = 0 ∨ p ∈ primes
theorem PrimeI.small {p : Int} (h : PrimeI p) : 0 ≤ p ∧ p ≤ 19 := by
  rcases h with rfl | h
  · decide
  · unfold primes at h
    simp only [List.mem_cons, or_false, List.not_mem_nil] at h
    omega
theorem isPrime_int (p : Int) : isPrime (.int p) = (isInteger (.int p) && (decide (p = 0) || decide (p ∈ primes))) := by
  show (decide (p = 0) || decide (p ∈ primes)) = _
  by_cases h : PrimeI p
  · have hs := h.small
    have h1 : isInteger (.int p) = true := by
      show (decide (-big < p) && decide (p < big)) = true
      unfold big
      rw [decide_eq_true (by omega), decide_eq_true (by omega)]
      rfl
    rw [h1, Bool.true_and]
  · have h1 : ¬ p = 0 := fun z => h (.inl z)
    have h2 : ¬ p ∈ primes := fun z => h (.inr z)
    rw [decide_eq_false h1, decide_eq_false h2, Bool.false_or, Bool.and_false]
def fits (p : Int) : Dt → Bool
  | .int i => (decide (-big < i) && decide (i < big)) && (decide (p = 0) || (decide (0 ≤ i) && decide (i < p)))
  | _ => false
def allFit (p : Int) (n : Int) : Dt → Bool
  | .tuple ds => decide ((ds.length : Int) = n) && ds.all (fits p)
  | _ => false
def settled (p n : Int) : Int := if p ≠ 0 then n % p else n
/-- the numbers from lo on, n of them -/
def upto (lo : Int) (n : Nat) : List Int := (List.range n).map fun (i : Nat) => lo + (i : Int)
def invs (p a : Int) : List Int := (upto 1 (p - 1).toNat).filter fun o => decide (a * o % p = 1)
def inv (p a : Int) : Int := (invs p a).headD 0
def gcdI (i j : Int) : Int := ((Nat.gcd i.natAbs j.natAbs : Nat) : Int)
def gcdL : Int → List Int → Int
  | s, [] => s
  | s, n :: ns => gcdL (gcdI s n) ns
def firstI (ns : List Int) : Int := (ns.filter fun n => !decide (n = 0)).headD 0
def made (p : Int) (ns : List Int) : List Int :=
  if p ≠ 0 then ns.map fun n => n * inv p (firstI ns) % p
  else ns.map fun n => n.fdiv (if firstI ns < 0 then -(gcdL 0 ns) else gcdL 0 ns)
/-- what made asks: a number other than 0, and its inverse -/
structure MadeOk (p : Int) (ns : List Int) : Prop where
  pr : PrimeI p
  ex : ∃ n ∈ ns, n ≠ 0
  lt : p ≠ 0 → ∀ n ∈ ns, 0 ≤ n ∧ n < p
  len : ns.length ≤ 140
  sz : ∀ n ∈ ns, n.natAbs < 2 ^ 1000
theorem gcdI_dvd (i j : Int) : gcdI i j ∣ i ∧ gcdI i j ∣ j := by
  unfold gcdI
  exact ⟨Int.ofNat_dvd_left.mpr (Nat.gcd_dvd_left _ _), Int.ofNat_dvd_left.mpr (Nat.gcd_dvd_right _ _)⟩
theorem gcdL_dvd : ∀ (ns : List Int) (s : Int), gcdL s ns ∣ s ∧ ∀ n ∈ ns, gcdL s ns ∣ n
  | [], s => ⟨Int.dvd_refl s, fun n h => by cases h⟩
  | m :: ns, s => by
    obtain ⟨h1, h2⟩ := gcdL_dvd ns (gcdI s m)
    obtain ⟨g1, g2⟩ := gcdI_dvd s m
    refine ⟨Int.dvd_trans h1 g1, fun n hn => ?_⟩
    obtain rfl | hn := List.mem_cons.mp hn
    · exact Int.dvd_trans h1 g2
    · exact h2 n hn
theorem gcdL_nn : ∀ (ns : List Int) (s : Int), 0 ≤ s → 0 ≤ gcdL s ns
  | [], s, h => h
  | m :: ns, s, _ => gcdL_nn ns (gcdI s m) (Int.natCast_nonneg _)
theorem gcdL_pos {ns : List Int} (h : ∃ n ∈ ns, n ≠ 0) : 0 < gcdL 0 ns := by
  obtain ⟨n, hn, h0⟩ := h
  have h1 := gcdL_nn ns 0 (Int.le_refl 0)
  have h2 := (gcdL_dvd ns 0).2 n hn
  rcases Int.lt_or_eq_of_le h1 with h3 | h3
  · exact h3
  · rw [← h3] at h2
    exact absurd (Int.zero_dvd.mp h2) h0
theorem first_cons {ns : List Int} (h : ∃ n ∈ ns, n ≠ 0) : ∃ rest, (ns.filter fun n => !decide (n = 0)) = firstI ns :: rest ∧ firstI ns ∈ ns ∧ firstI ns ≠ 0 := by
  obtain ⟨n, hn, h0⟩ := h
  have hm : n ∈ ns.filter fun n => !decide (n = 0) := List.mem_filter.mpr ⟨hn, by simp [h0]⟩
  unfold firstI
  cases e : ns.filter fun n => !decide (n = 0) with
  | nil => rw [e] at hm; cases hm
  | cons m rest =>
    have h1 : m ∈ ns.filter fun n => !decide (n = 0) := by rw [e]; exact List.mem_cons_self
    obtain ⟨h2, h3⟩ := List.mem_filter.mp h1
    exact ⟨rest, rfl, h2, by simpa using h3⟩
theorem inv_all : ∀ p ∈ primes, ∀ a ∈ upto 1 (p - 1).toNat, (invs p a).isEmpty = false := by decide +kernel
theorem mem_upto {lo a : Int} {n : Nat} (h1 : lo ≤ a) (h2 : a < lo + n) : a ∈ upto lo n := by
  unfold upto
  exact List.mem_map.mpr ⟨(a - lo).toNat, List.mem_range.mpr (by omega), by omega⟩
theorem inv_cons {p a : Int} (hp : PrimeI p) (h0 : p ≠ 0) (h1 : 0 < a) (h2 : a < p) : ∃ rest, invs p a = inv p a :: rest := by
  rcases hp with rfl | hp
  · exact absurd rfl h0
  · have := inv_all p hp a (mem_upto (by omega) (by omega))
    unfold inv
    cases e : invs p a with
    | nil => rw [e] at this; cases this
    | cons b rest => exact ⟨rest, rfl⟩
theorem inv_lt {p a : Int} (hp : PrimeI p) (h0 : p ≠ 0) (h1 : 0 < a) (h2 : a < p) : 1 ≤ inv p a ∧ inv p a < p ∧ a * inv p a % p = 1 := by
  obtain ⟨rest, e⟩ := inv_cons hp h0 h1 h2
  have hm : inv p a ∈ invs p a := by rw [e]; exact List.mem_cons_self
  obtain ⟨h3, h4⟩ := List.mem_filter.mp hm
  obtain ⟨i, hi, hj⟩ := List.mem_map.mp h3
  have := List.mem_range.mp hi
  have := hp.small
  refine ⟨by omega, by omega, of_decide_eq_true h4⟩
end Num
set_option linter.all false
namespace Num
open PySem
def toI : Dt → Int
  | .int i => i
  | _ => 0
theorem map_toI (ns : List Int) : (ns.map PyData.int).map toI = ns := by
  rw [List.map_map]
  exact List.map_id ns
theorem allFit_ints {p n : Int} : ∀ {ds : List Dt}, allFit p n (.tuple ds) = true → ∃ ns : List Int, ds = ns.map PyData.int ∧ (ns.length : Int) = n ∧ ∀ m ∈ ns, (-big < m ∧ m < big) ∧ (p = 0 ∨ (0 ≤ m ∧ m < p)) := by
  intro ds h
  have h : (decide ((ds.length : Int) = n) && ds.all (fits p)) = true := h
  obtain ⟨h1, h2⟩ := Bool.and_eq_true_iff.mp h
  have h1 := of_decide_eq_true h1
  have q : ∀ ds : List Dt, ds.all (fits p) = true → ∃ ns : List Int, ds = ns.map PyData.int ∧ ∀ m ∈ ns, (-big < m ∧ m < big) ∧ (p = 0 ∨ (0 ≤ m ∧ m < p)) := by
    intro ds
    induction ds with
    | nil => exact fun _ => ⟨[], rfl, fun m h => by cases h⟩
    | cons d ds ih =>
      intro h
      rw [List.all_cons] at h
      obtain ⟨a1, a2⟩ := Bool.and_eq_true_iff.mp h
      obtain ⟨ns, rfl, hn⟩ := ih a2
      cases d with
      | int i =>
        refine ⟨i :: ns, rfl, fun m hm => ?_⟩
        obtain rfl | hm := List.mem_cons.mp hm
        · have a1 : ((decide (-big < m) && decide (m < big)) && (decide (p = 0) || (decide (0 ≤ m) && decide (m < p)))) = true := a1
          simp only [Bool.and_eq_true, Bool.or_eq_true, decide_eq_true_eq] at a1
          exact a1
        · exact hn m hm
      | _ => cases a1
  obtain ⟨ns, rfl, hn⟩ := q ds h2
  exact ⟨ns, rfl, by rw [List.length_map] at h1; exact h1, hn⟩
theorem allFit_of {p n : Int} {ns : List Int} (h1 : (ns.length : Int) = n) (h2 : ∀ m ∈ ns, (-big < m ∧ m < big) ∧ (p = 0 ∨ (0 ≤ m ∧ m < p))) : allFit p n (.tuple (ns.map PyData.int)) = true := by
  show (decide (((ns.map PyData.int).length : Int) = n) && (ns.map PyData.int).all (fits p)) = true
  rw [List.length_map, decide_eq_true h1, Bool.true_and, List.all_eq_true]
  intro d hd
  obtain ⟨m, hm, rfl⟩ := List.mem_map.mp hd
  show ((decide (-big < m) && decide (m < big)) && (decide (p = 0) || (decide (0 ≤ m) && decide (m < p)))) = true
  simp only [Bool.and_eq_true, Bool.or_eq_true, decide_eq_true_eq]
  exact h2 m hm
/-- a normal triple, of ints -/
def normI (p : Int) (ns : List Int) : Bool := allFit p 3 (.tuple (ns.map PyData.int)) && ns.any (· != 0) && decide (made p ns = ns)
def smallL (ns : List Int) : Bool := ns.all fun n => decide (n.natAbs ≤ 1000)
def lineI (p : Int) (ns : List Int) : Bool := normI p ns && smallL ns
theorem any_ex {ns : List Int} : ns.any (· != 0) = true ↔ ∃ n ∈ ns, n ≠ 0 := by
  rw [List.any_eq_true]
  constructor
  · rintro ⟨n, h1, h2⟩; exact ⟨n, h1, by simpa using h2⟩
  · rintro ⟨n, h1, h2⟩; exact ⟨n, h1, by simpa using h2⟩
theorem big_lt {m : Int} (h : -big < m ∧ m < big) : m.natAbs < 2 ^ 200 := by
  unfold big at h
  have : m.natAbs < 1000000000000000000000000000000000000000000000000000000000000 := by omega
  exact Nat.lt_trans this (by decide)
theorem up1000 {n : Nat} (h : n < 2 ^ 200) : n < 2 ^ 1000 := Nat.lt_of_lt_of_le h (Nat.pow_le_pow_right (by decide) (by decide))
theorem madeOk_fit {p : Int} {ns : List Int} (hp : PrimeI p) (h : allFit p 3 (.tuple (ns.map PyData.int)) = true) (ha : ns.any (· != 0) = true) : MadeOk p ns := by
  obtain ⟨ms, e, hl, hm⟩ := allFit_ints h
  have e : ns = ms := by
    have := congrArg (List.map toI) e
    rw [map_toI, map_toI] at this
    exact this
  subst e
  refine ⟨hp, any_ex.mp ha, fun h0 n hn => ?_, by omega, fun n hn => up1000 (big_lt (hm n hn).1)⟩
  rcases (hm n hn).2 with h | h
  · exact absurd h h0
  · exact h
/-- what a normal triple is -/
structure NT (p : Int) (ns : List Int) : Prop where
  ok : MadeOk p ns
  len : ns.length = 3
  fit : allFit p 3 (.tuple (ns.map PyData.int)) = true
  sz : ∀ n ∈ ns, -big < n ∧ n < big
  eq : made p ns = ns
theorem NT.of {p : Int} {ns : List Int} (hp : PrimeI p) (h : normI p ns = true) : NT p ns := by
  unfold normI at h
  obtain ⟨h1, h3⟩ := Bool.and_eq_true_iff.mp h
  obtain ⟨h1, h2⟩ := Bool.and_eq_true_iff.mp h1
  obtain ⟨ms, e, hl, hm⟩ := allFit_ints h1
  have e : ns = ms := by
    have := congrArg (List.map toI) e
    rw [map_toI, map_toI] at this
    exact this
  subst e
  exact ⟨madeOk_fit hp h1 h2, by omega, h1, fun n hn => (hm n hn).1, of_decide_eq_true h3⟩
theorem NT.to {p : Int} {ns : List Int} (h : NT p ns) : normI p ns = true := by
  unfold normI
  rw [h.fit, any_ex.mpr h.ok.ex, decide_eq_true h.eq]
  rfl
theorem NT.cons {p : Int} {ns : List Int} (h : NT p ns) : ∃ a b c, ns = [a, b, c] := by
  have hl := h.len
  match ns, hl with
  | [a, b, c], _ => exact ⟨a, b, c, rfl⟩
def gN : Nat → List Int → Nat
  | s, [] => s
  | s, n :: ns => gN (Nat.gcd s n.natAbs) ns
theorem gcdL_nat : ∀ (ns : List Int) (s : Nat), gcdL (s : Int) ns = ((gN s ns : Nat) : Int)
  | [], s => rfl
  | n :: ns, s => by
    show gcdL (gcdI (s : Int) n) ns = _
    have e : gcdI (s : Int) n = ((Nat.gcd s n.natAbs : Nat) : Int) := rfl
    rw [e, gcdL_nat ns]
    rfl
theorem gN_mul (k : Int) : ∀ (ns : List Int) (s : Nat), gN (k.natAbs * s) (ns.map fun n => k * n) = k.natAbs * gN s ns
  | [], s => rfl
  | n :: ns, s => by
    show gN (Nat.gcd (k.natAbs * s) (k * n).natAbs) (ns.map fun n => k * n) = k.natAbs * gN (Nat.gcd s n.natAbs) ns
    rw [Int.natAbs_mul, Nat.gcd_mul_left, gN_mul k ns]
theorem gcdL_mul (k : Int) (ns : List Int) : gcdL 0 (ns.map fun n => k * n) = (k.natAbs : Int) * gcdL 0 ns := by
  have h1 := gcdL_nat (ns.map fun n => k * n) 0
  have h2 := gcdL_nat ns 0
  have h3 := gN_mul k ns 0
  rw [Nat.mul_zero] at h3
  have h1 : gcdL 0 (ns.map fun n => k * n) = ((gN 0 (ns.map fun n => k * n) : Nat) : Int) := h1
  have h2 : gcdL 0 ns = ((gN 0 ns : Nat) : Int) := h2
  rw [h1, h2, h3, Int.natCast_mul]
theorem first_map (f : Int → Int) : ∀ {ns : List Int}, (∀ n ∈ ns, f n = 0 ↔ n = 0) → f 0 = 0 → firstI (ns.map f) = f (firstI ns)
  | [], _, h0 => h0.symm
  | n :: ns, h, h0 => by
    have ih := first_map f (ns := ns) (fun m hm => h m (List.mem_cons_of_mem _ hm)) h0
    unfold firstI at ih ⊢
    rw [List.map_cons, List.filter_cons, List.filter_cons]
    by_cases z : n = 0
    · have z' := (h n List.mem_cons_self).mpr z
      simp only [z, z', h0, decide_true, Bool.not_true, Bool.false_eq_true, if_false]
      exact ih
    · have z' : ¬ f n = 0 := fun e => z ((h n List.mem_cons_self).mp e)
      simp only [z, z', decide_false, Bool.not_false, if_true]
      rfl
theorem made_zero (ns : List Int) : made 0 ns = ns.map fun n => n.fdiv (if firstI ns < 0 then -(gcdL 0 ns) else gcdL 0 ns) := if_neg (by decide)
theorem made0_mul {k : Int} (hk : k ≠ 0) {ns : List Int} (hx : ∃ n ∈ ns, n ≠ 0) : made 0 (ns.map fun n => k * n) = made 0 ns := by
  rw [made_zero, made_zero, gcdL_mul, first_map (fun n => k * n) (fun n _ => ⟨fun h => (Int.mul_eq_zero.mp h).resolve_left hk, fun h => by rw [h]; exact Int.mul_zero k⟩) (Int.mul_zero k), List.map_map]
  obtain ⟨_, _, _, hf⟩ := first_cons hx
  have hg := gcdL_pos hx
  refine List.map_congr_left fun n hn => ?_
  obtain ⟨q, hq⟩ := (gcdL_dvd ns 0).2 n hn
  generalize gcdL 0 ns = g at *
  generalize firstI ns = f at *
  show (k * n).fdiv (if k * f < 0 then -((k.natAbs : Int) * g) else (k.natAbs : Int) * g) = n.fdiv (if f < 0 then -g else g)
  have e : (if k * f < 0 then -((k.natAbs : Int) * g) else (k.natAbs : Int) * g) = k * (if f < 0 then -g else g) := by
    rcases Int.lt_or_gt_of_ne hk with h1 | h1
    · have ha : (k.natAbs : Int) = -k := by omega
      rcases Int.lt_or_gt_of_ne hf with h2 | h2
      · have h3 : ¬ k * f < 0 := by have := Int.mul_pos_of_neg_of_neg h1 h2; omega
        rw [if_neg h3, if_pos h2, ha]
        grind
      · have h3 : k * f < 0 := Int.mul_neg_of_neg_of_pos h1 h2
        rw [if_pos h3, if_neg (by omega), ha]
        grind
    · have ha : (k.natAbs : Int) = k := by omega
      rcases Int.lt_or_gt_of_ne hf with h2 | h2
      · have h3 : k * f < 0 := Int.mul_neg_of_pos_of_neg h1 h2
        rw [if_pos h3, if_pos h2, ha]
        grind
      · have h3 : ¬ k * f < 0 := by have := Int.mul_pos h1 h2; omega
        rw [if_neg h3, if_neg (by omega), ha]
  rw [e]
  have hs : (if f < 0 then -g else g) ≠ 0 := by split <;> omega
  have e2 : ∃ q', n = (if f < 0 then -g else g) * q' := by
    split
    · exact ⟨-q, by rw [hq]; grind⟩
    · exact ⟨q, hq⟩
  generalize (if f < 0 then -g else g) = s at *
  obtain ⟨q', rfl⟩ := e2
  rw [← Int.mul_assoc, Int.mul_fdiv_cancel_left _ (Int.mul_ne_zero hk hs), Int.mul_fdiv_cancel_left _ hs]
theorem prime_pos {p : Int} (hp : PrimeI p) (h0 : p ≠ 0) : 2 ≤ p ∧ p ≤ 19 := by
  rcases hp with h | h
  · exact absurd h h0
  · unfold primes at h
    simp only [List.mem_cons, or_false, List.not_mem_nil] at h
    omega
theorem inv_mod {p a : Int} (hp : PrimeI p) (h0 : p ≠ 0) (ha : a % p ≠ 0) : ∃ i q, 1 ≤ i ∧ i < p ∧ a * i = 1 + p * q ∧ inv p (a % p) = i := by
  have h2 := prime_pos hp h0
  have h3 : 0 ≤ a % p := Int.emod_nonneg _ (by omega)
  have h4 : a % p < p := Int.emod_lt_of_pos _ (by omega)
  obtain ⟨i1, i2, i3⟩ := inv_lt hp h0 (a := a % p) (by omega) h4
  have h5 := Int.emod_add_mul_ediv (a % p * inv p (a % p)) p
  have h6 := Int.emod_add_mul_ediv a p
  generalize inv p (a % p) = i at *
  refine ⟨i, a % p * i / p + a / p * i, i1, i2, ?_, rfl⟩
  rw [i3] at h5
  generalize a % p * i / p = u at *
  generalize a / p = v at *
  generalize a % p = w at *
  grind
theorem mul_zero_mod {p a b : Int} (hp : PrimeI p) (h0 : p ≠ 0) (ha : a % p ≠ 0) (h : a * b % p = 0) : b % p = 0 := by
  obtain ⟨i, q, _, _, e, _⟩ := inv_mod hp h0 ha
  obtain ⟨r, hr⟩ := Int.dvd_of_emod_eq_zero h
  refine Int.emod_eq_zero_of_dvd ⟨i * r - q * b, ?_⟩
  grind
theorem emod_eq_of {p a b c : Int} (h : a = b + p * c) : a % p = b % p := by
  rw [h, Int.add_mul_emod_self_left]
theorem madeP_mul {p k : Int} (hp : PrimeI p) (h0 : p ≠ 0) (hk : k % p ≠ 0) {ns : List Int} (hb : ∀ n ∈ ns, 0 ≤ n ∧ n < p) (hx : ∃ n ∈ ns, n ≠ 0) : made p (ns.map fun n => k * n % p) = made p ns := by
  have h2 := prime_pos hp h0
  have hz : ∀ n ∈ ns, k * n % p = 0 ↔ n = 0 := fun n hn => by
    have := hb n hn
    constructor
    · intro h
      have := mul_zero_mod hp h0 hk h
      rw [Int.emod_eq_of_lt (by omega) (by omega)] at this
      exact this
    · rintro rfl
      simp
  obtain ⟨_, _, hm, hf⟩ := first_cons hx
  have hfb := hb _ hm
  have hfz := hz _ hm
  unfold made
  rw [if_pos h0, if_pos h0, first_map (fun n => k * n % p) hz (by simp), List.map_map]
  generalize firstI ns = f at *
  have hkf : (k * f) % p ≠ 0 := fun z => hf (hfz.mp z)
  have hff : f % p = f := Int.emod_eq_of_lt (by omega) (by omega)
  obtain ⟨i, q, _, _, e1, e2⟩ := inv_mod hp h0 (a := f) (by rw [hff]; exact hf)
  obtain ⟨j, r, _, _, e3, e4⟩ := inv_mod hp h0 hkf
  rw [hff] at e2
  refine List.map_congr_left fun n hn => ?_
  show k * n % p * inv p (k * f % p) % p = n * inv p f % p
  rw [e2, e4]
  have h6 := Int.emod_add_mul_ediv (k * n) p
  generalize k * n % p = u at *
  generalize k * n / p = v at *
  exact emod_eq_of (c := n * i * r - k * n * j * q - v * j) (by grind)
theorem made_low {p k : Int} (hp : PrimeI p) (hk : settled p k ≠ 0) {ns : List Int} (hb : p ≠ 0 → ∀ n ∈ ns, 0 ≤ n ∧ n < p) (hx : ∃ n ∈ ns, n ≠ 0) : made p (ns.map fun n => settled p (k * n)) = made p ns := by
  by_cases h0 : p = 0
  · subst h0
    have e : settled 0 k = k := rfl
    rw [e] at hk
    exact made0_mul hk hx
  · have e : ∀ n, settled p n = n % p := fun n => by unfold settled; rw [if_pos h0]
    simp only [e] at hk ⊢
    exact madeP_mul hp h0 hk (hb h0) hx
theorem settled_mul {p a b : Int} (hp : PrimeI p) (ha : settled p a ≠ 0) (h : settled p (a * b) = 0) : settled p b = 0 := by
  unfold settled at ha h ⊢
  split
  · rename_i h0
    rw [if_pos h0] at ha h
    exact mul_zero_mod hp h0 ha h
  · rename_i h0
    rw [if_neg h0] at ha h
    rcases Int.mul_eq_zero.mp h with h | h
    · exact absurd h ha
    · exact h
theorem settled_rng {p n : Int} (hp : PrimeI p) (h0 : p ≠ 0) : 0 ≤ settled p n ∧ settled p n < p := by
  have h2 := prime_pos hp h0
  unfold settled
  rw [if_pos h0]
  exact ⟨Int.emod_nonneg _ (by omega), Int.emod_lt_of_pos _ (by omega)⟩
def absI (n : Int) : Int := ((n.natAbs : Nat) : Int)
end Num
set_option linter.all false
namespace Num
open PySem
def grabF (t : Int) : List Int → Int × List Int
  | [a, m, c] => if 0 < a then (a % t, [a.fdiv t, m, c]) else
      let o := (m + 1048627 * (c + 1)) % 2305843009213693951
      ((((o * o % 2305843009213693723 * o + 8147 * (c + 1)) % 2305843009213693921).fdiv 16384) % t, [a, m, c + 1])
  | ns => (0, ns)
structure BagI (n : Int) (ns : List Int) : Prop where
  ex : ∃ a m c, ns = [a, m, c] ∧ 0 ≤ a ∧ a.natAbs < 2 ^ 3000 ∧ 0 ≤ m ∧ m < 2305843009213693951 ∧ 0 ≤ c ∧ c ≤ n
theorem BagI.mono {n k : Int} {ns : List Int} (h : BagI n ns) (hk : n ≤ k) : BagI k ns := by
  obtain ⟨a, m, c, e, h1, h2, h3, h4, h5, h6⟩ := h.ex
  exact ⟨a, m, c, e, h1, h2, h3, h4, h5, by omega⟩
theorem grab_rng {t : Int} (ht : 0 < t) (ns : List Int) : 0 ≤ (grabF t ns).1 ∧ (grabF t ns).1 < t := by
  unfold grabF
  split
  · split
    · exact ⟨Int.emod_nonneg _ (by omega), Int.emod_lt_of_pos _ ht⟩
    · exact ⟨Int.emod_nonneg _ (by omega), Int.emod_lt_of_pos _ ht⟩
  · exact ⟨Int.le_refl 0, ht⟩
theorem grab_bag {t n : Int} (ht : 0 < t) {ns : List Int} (h : BagI n ns) : BagI (n + 1) (grabF t ns).2 := by
  obtain ⟨a, m, c, rfl, h1, h2, h3, h4, h5, h6⟩ := h.ex
  unfold grabF
  split
  · rename_i a' m' c' e
    cases e
    split
    · refine ⟨_, _, _, rfl, ?_, ?_, h3, h4, h5, by omega⟩
      · rw [Int.fdiv_eq_ediv_of_nonneg _ (by omega)]; exact Int.ediv_nonneg h1 (by omega)
      · rw [Int.fdiv_eq_ediv_of_nonneg _ (by omega)]
        refine Nat.lt_of_le_of_lt ?_ h2
        have e1 := Int.ediv_nonneg h1 (show 0 ≤ t by omega)
        have e2 := Int.ediv_le_self t h1
        omega
    · exact ⟨_, _, _, rfl, h1, h2, h3, h4, by omega, by omega⟩
  · rename_i hne
    exact absurd rfl (hne a m c)
def allZero (ns : List Int) : Bool := ns.all fun n => decide (n = 0)
/-- the law's normal tuple -/
def normalF (p : Int) (ns : List Int) : List Int :=
  if allZero (ns.map (settled p)) then ns.map (settled p) else made p (ns.map (settled p))
theorem allZero_ex {ns : List Int} (h : allZero ns = false) : ∃ n ∈ ns, n ≠ 0 := by
  unfold allZero at h
  rw [List.all_eq_false] at h
  obtain ⟨n, h1, h2⟩ := h
  exact ⟨n, h1, by simpa using h2⟩
theorem log_lt3 {n : Nat} (h : n < 2 ^ 3000) : n.log2 < 9000 := by
  by_cases z : n = 0
  · subst z; decide
  · have := (Nat.log2_lt z).mpr h
    omega
def tupD (ns : List Int) : Dt := .tuple (ns.map PyData.int)
end Num
set_option linter.all false
namespace Num
open PySem
end Num
set_option Elab.async false
set_option linter.all false
set_option maxRecDepth 100000
set_option maxHeartbeats 3000000
namespace TD
open PySem L2 PySem.Spec PyProof.Rows
open RZ
open Evl (Ex ex_l ex_t fresh_back sq_of st_of sz_of sz_lt)
inductive LcZ [TabW] (K : PySem.W.Frag) (i j : Nat) (tt : TT) (te : TE) : List (Dt × Dt) → Rho → Bag → List Dt → Bag → Prop
  | nil (ρ : Rho) (β : Bag) : LcZ K i j tt te [] ρ β [] β
  | yes {p : Dt × Dt} {r : Dt} {ps : List (Dt × Dt)} {rs : List Dt} {ρ : Rho} {β β1 β2 β3 : Bag} : TtB K tt ((ρ.set i (some (Slot.imm p.1))).set j (some (Slot.imm p.2))) β true β1 →
      EvB K te ((ρ.set i (some (Slot.imm p.1))).set j (some (Slot.imm p.2))) β1 r β2 → LcZ K i j tt te ps ρ β2 rs β3 → LcZ K i j tt te (p :: ps) ρ β (r :: rs) β3
section
variable [TabW] {K : PySem.W.Frag} {b : Addr} {ρ ρ' ρ1 ρx : Rho} {β β1 β2 β3 : Bag} {ta tb te tc : TE} {tt : TT} {x y z d : Dt} {G H G1 H1 G2 H2 : Hp} {σ σx : L2.St}
theorem LcZ.som {i j : Nat} {ps : List (Dt × Dt)} {rs : List Dt} (h : LcZ K i j tt te ps ρ β rs β2) : β2.isSome = β.isSome := by
  induction h with
  | nil => rfl
  | yes h1 h2 _ ih => exact ih.trans (h2.som.trans h1.som)
theorem LcZ.map {i j : Nat} (g : Dt × Dt → Dt) : ∀ {ps : List (Dt × Dt)}, (∀ p ∈ ps, EvB K te ((ρ.set i (some (Slot.imm p.1))).set j (some (Slot.imm p.2))) β (g p) β) → LcZ K i j tYes te ps ρ β (ps.map g) β
  | [], _ => .nil ρ β
  | p :: ps, h => .yes t_yes0 (h p List.mem_cons_self) (LcZ.map g fun q hq => h q (List.mem_cons_of_mem _ hq))
theorem pg_tupK {X : Cx} {K : PySem.W.Frag} {es : List Expr} {k : Nat} {pos : Pos} {t : TGs} {n : Nat} (hc : X.calm = true) (h : PGs X es t) (hK : X.K = K := by rfl)
    (hn : (assignEach es X.env).length = n := by rfl) (hst : (assignEach es X.env).findIdx? (·.1) = none := by rfl) : PG X (.Tuple es k pos) (gTup K n t) := by
  subst hK
  exact pg_tup hc h hn hst
/-- one turn that gives an item, whatever the target -/
theorem lc_turnG {m : Bool} {Dl : Addr} {rs : List Dt} {P P' : List Dt → Bag → Prop} (hD : H1 Dl = none) (nb : m = true → Dl ≠ b) (hz : rs.length ≤ 100000) (E1 : ∀ G β, Step b m G1 H1 G H → BagOk b β G H → EnvD K b β G H σx ρx)
    (hP : ∀ rest β, P rest β → ∃ (r : Dt) (rest' : List Dt) (β1 β2 : Bag), rest = r :: rest' ∧ TtB K tt ρx β true β1 ∧ EvB K te ρx β1 r β2 ∧ P' rest' β2) (hw : LcW K b m G1 H1 Dl rs β3 P H) :
    tt σx H fun c H3 => if c = true then te σx H3 fun y H4 => ∃ acc, H4 Dl = some (.lst acc) ∧ acc.length < sizeLine ∧ LcW K b m G1 H1 Dl rs β3 P' (upd H4 Dl (.lst (acc ++ [y]))) else LcW K b m G1 H1 Dl rs β3 P' H3 := by
  obtain ⟨G, β, done, rest, acc, s, kb, hm, gD, hH, ha, hr, hp⟩ := hw
  have E := E1 G β s kb
  obtain ⟨r, rest', β1, β2, hrr, ht, he, hp'⟩ := hP rest β hp
  refine ht.run b G H _ _ E fun G3 H3 s3 k3 => ?_
  rw [if_pos rfl]
  rw [hm] at s3
  refine he.run b G3 H3 _ _ (E.step s3 k3) fun y G4 H4 s4 k4 d4 => ?_
  rw [ht.som, hm] at s4
  have hH3 := s3.keep Dl _ nb NoT.lst hH
  have gD3 := s3.fresh Dl _ gD NoT.lst hH
  have gD4 := s4.fresh Dl _ gD3 NoT.lst hH3
  have m2 : β2.isSome = m := he.som.trans (ht.som.trans hm)
  have hlen : acc.length = done.length := ha.length
  have hrl : rs.length = done.length + (rest'.length + 1) := by rw [← hr, List.length_append, hrr, List.length_cons]
  refine ⟨acc, s4.keep Dl _ nb NoT.lst hH3, sz_lt (by omega), ⟨G4, β2, done ++ [r], rest', acc ++ [y], ((s.trans s3).trans s4).mut (Gone.none hD) gD4 (LstAt.of (s4.keep Dl _ nb NoT.lst hH3)), k4.mut (by rw [m2]; exact nb), m2, gD4, upd_same, (ha.mono (s3.g.trans s4.g)).append (.cons d4 .nil), ?_, hp'⟩⟩
  rw [← hr, hrr, List.append_assoc]
  rfl
theorem LcW.new {m : Bool} {Dl T : Addr} {o : HO} {rs : List Dt} {P : List Dt → Bag → Prop} (hw : LcW K b m G1 H1 Dl rs β3 P H) (hT : H T = none) : LcW K b m G1 H1 Dl rs β3 P (upd H T o) := by
  obtain ⟨G, β, done, rest, acc, s, kb, hm, gD, hH, ha, hr, hp⟩ := hw
  have h1T : Gone H1 T := fun u nt q => by
    obtain ⟨_, _, z⟩ := s.stay T u nt q
    rw [hT] at z
    cases z
  have gT : G T = none := fresh_back s.s hT
  have nD : Dl ≠ T := ne_of_none hH hT
  refine ⟨G, β, done, rest, acc, s.mut h1T gT (LstAt.none hT), fun ns e => ?_, hm, gD, by rw [upd_ne nD]; exact hH, ha, hr, hp⟩
  obtain ⟨q1, q2⟩ := kb ns e
  exact ⟨by rw [upd_ne (ne_of_none q1 hT)]; exact q1, q2⟩
theorem LcZ.ints {i j : Nat} (g : Int → Int → Dt) : ∀ {x y : List Int}, (∀ n m, n ∈ x → m ∈ y → EvB K te ((ρ.set i (some (Slot.imm (.int n)))).set j (some (Slot.imm (.int m)))) β (g n m) β) → LcZ K i j tYes te ((x.zip y).map fun q => (PyData.int q.1, PyData.int q.2)) ρ β ((x.zip y).map fun q => g q.1 q.2) β
  | [], _, _ => .nil ρ β
  | _ :: _, [], _ => .nil ρ β
  | a :: x, b :: y, h => .yes t_yes0 (h a b List.mem_cons_self List.mem_cons_self) (LcZ.ints g fun n m h1 h2 => h n m (List.mem_cons_of_mem _ h1) (List.mem_cons_of_mem _ h2))
end
end TD
set_option Elab.async false
set_option linter.all false
set_option maxRecDepth 100000
set_option maxHeartbeats 3000000
namespace TD
open PySem L2 PySem.Spec PyProof.Rows
open Evl (Ex ex_l ex_t fresh_back sq_of st_of sz_of sz_lt)
section
variable [TabW] {K : PySem.W.Frag} {b : Addr} {ρ ρ' ρ1 : Rho} {β β1 β2 β3 : Bag} {ta tb te tc : TE} {tt : TT} {tu tw : TS} {o : Out} {x y z d : Dt} {G H G1 H1 G2 H2 : Hp} {σ : L2.St}
theorem d_ixB {i : Nat} {k n : Int} {ns : List Int} (hi : ρ[i]? = some (some Slot.bag)) (hb : EvB K tb ρ (some ns) (.int k) (some ns)) (hn : atI ns k = some n) : EvB K (tOp (rIxL K) (tVar i) tb) ρ (some ns) (.int n) (some ns) := by
  refine ⟨rfl, fun b G H σ Q E q => ?_⟩
  refine ⟨_, E.bagv i hi, ?_⟩
  refine hb.run b G H σ _ E fun v G1 H1 s1 k1 d1 => ?_
  cases d1
  refine ⟨b, ns.map V.int, k, V.int n, rfl, rfl, sq_of (k1 ns rfl).1, ?_, q _ G1 H1 s1 k1 (.int n)⟩
  unfold atI at hn ⊢
  obtain ⟨m, h1, h2⟩ := Option.bind_eq_some_iff.mp hn
  rw [List.length_map, h1]
  show (ns.map V.int)[m]? = _
  rw [List.getElem?_map, h2]
  rfl
theorem Step.bag {o : HO} (e : Ex G H) (hg : G b = none) (hl : ∀ o, H b = some o → ∃ xs, o = HO.lst xs) (ho : NoT o := by exact ⟨fun _ z => (by cases z), fun _ z => (by cases z)⟩) : Step b true G H G (upd H b o) := by
  refine ⟨Ex.refl G, e.mut hg, fun x _ h _ _ => h, fun x u n _ h => ?_, fun x u t h => ?_, fun h => ⟨fun P q w => tab_upd (h.tab P q w) hl, h.free⟩⟩
  · rw [upd_ne (n rfl)]; exact h
  · by_cases z : x = b
    · exact ⟨o, ho, by rw [z, upd_same]⟩
    · exact ⟨u, t, by rw [upd_ne z]; exact h⟩
theorem st_setB {i : Nat} {k n : Int} {ns : List Int} {j : Nat} (he : EvB K te ρ (some ns) (.int n) (some ns)) (hi : ρ[i]? = some (some Slot.bag)) (hj : ixN ns.length k = some j) : StB K (tAsg te (gSub (tVar i) (tC (.int k)) rSetL)) ρ (some ns) (.nx ρ) (some (ns.set j n)) := by
  refine ⟨rfl, fun b G H σ D E q => ?_⟩
  refine he.run b G H σ _ E fun v G1 H1 s1 k1 d1 => ?_
  cases d1
  refine ⟨_, E.bagv i hi, ?_⟩
  obtain ⟨h1, h2⟩ := k1 ns rfl
  have sb : Step b true G1 H1 G1 (upd H1 b (.lst ((ns.map V.int).set j (V.int n)))) := Step.bag s1.s h2 (LstAt.of h1)
  refine ⟨b, ns.map V.int, k, j, rfl, rfl, h1, by rw [List.length_map]; exact hj, ?_⟩
  have kb : BagOk b (some (ns.set j n)) G1 (upd H1 b (.lst ((ns.map V.int).set j (V.int n)))) := fun ms e => by
    cases e
    exact ⟨by rw [upd_same, List.map_set], h2⟩
  exact q σ G1 _ (s1.trans sb) (E.step (s1.trans sb) kb)
theorem s_bag' {i : Nat} (hi : ρ[i]? = some (some Slot.bag)) : EvS K (tVar i) ρ β .bag β := ⟨rfl, fun b G H σ Q E k => ⟨_, E.bagv i hi, k _ G H (Step.refl E.sub) E.bagk rfl⟩⟩
theorem a_bg {i : Nat} {tr : TA} {as : List Slot} (hi : ρ[i]? = some (some Slot.bag)) (hr : EvA K tr ρ β as β2) : EvA K (tCons (tVar i) tr) ρ β (.bag :: as) β2 := a_cons (s_bag' hi) hr
end
end TD
set_option Elab.async false
set_option linter.all false
namespace TD
open PySem L2 PySem.Spec PyProof.Rows
theorem call_isiK {X : Cx} {K : PySem.W.Frag} (h : X.K = K := by rfl) : CallR X (.builtin "isinstance") (rIsiR K) := h ▸ call_isiR
theorem c_lenK {X : Cx} {K : PySem.W.Frag} (h : X.K = K := by rfl) : CallR X (.builtin "len") (rLen K) := h ▸ c_len
end TD
set_option Elab.async false
set_option linter.all false
set_option maxRecDepth 100000
set_option maxHeartbeats 3000000
namespace TD
open PySem L2 PySem.Spec PyProof.Rows
open Evl (Ex ex_l ex_t fresh_back sq_of st_of sz_of sz_lt)
section
open HT PyProof Calls
variable {prog : Program} {w : World} {A : Around} {s : Shared} {E : Value → Shared → Prop}
theorem places_rev (n : Nat) : Builtin.Slice.slicePlaces ((n : Int) - 1) (-1) (-1) = n := by
  show (if (-1 : Int) > 0 then _ else _ : Int).toNat = n
  have h1 : ¬ ((-1 : Int) > 0) := by omega
  have h2 : (- -1 : Int) = 1 := rfl
  simp only [h1, if_false, h2, Int.ediv_one]
  split <;> omega
theorem fm_congr {α γ : Type} {f g : α → Option γ} : ∀ {xs : List α}, (∀ x ∈ xs, f x = g x) → xs.filterMap f = xs.filterMap g
  | [], _ => rfl
  | x :: xs, h => by
    rw [List.filterMap_cons, List.filterMap_cons, h x List.mem_cons_self, fm_congr fun y hy => h y (List.mem_cons_of_mem _ hy)]
theorem pick_rev (xs : Array Value) : ((List.range xs.size).filterMap fun (m : Nat) => xs[(((xs.size : Int) - 1) + (m : Int) * -1).toNat]?).toArray = xs.toList.reverse.toArray := by
  congr 1
  have e : ∀ m ∈ List.range xs.size, xs[(((xs.size : Int) - 1) + (m : Int) * -1).toNat]? = xs.toList.reverse[m]? := by
    intro m hm
    have hm := List.mem_range.mp hm
    have h1 : (((xs.size : Int) - 1) + (m : Int) * -1).toNat = xs.size - 1 - m := by omega
    rw [h1, List.getElem?_reverse (by rw [Array.length_toList]; exact hm), Array.length_toList, Array.getElem?_toList]
  rw [fm_congr e]
  have q : ∀ (ys : List Value), (List.range ys.length).filterMap (fun m => ys[m]?) = ys := by
    intro ys
    induction ys with
    | nil => rfl
    | cons y ys ih =>
      rw [List.length_cons, List.range_succ_eq_map, List.filterMap_cons, List.filterMap_map]
      show y :: List.filterMap ((fun m => (y :: ys)[m]?) ∘ Nat.succ) (List.range ys.length) = y :: ys
      congr 1
  have := q xs.toList.reverse
  rw [List.length_reverse, Array.length_toList] at this
  exact this
theorem sliceApplied_rev {sl : Addr} {vs : Value} {n : Nat} {Q : Int × Int × Nat → Shared → Prop} (hs : s.heap.IsSliceOf sl .none .none vs) (ps : IsPart vs (some (-1)))
    (h : Q ((n : Int) - 1, -1, n) s) : wpAny (model prog w) A (Builtin.Slice.sliceApplied (.ref sl) (pure (n : Int))) Q E s := by
  have fields : wpAny (model prog w) A (Builtin.Slice.sliceFields (.ref sl)) (fun r s' => r = (.none, .none, vs) ∧ s' = s) E s := by
    obtain ⟨ob, at_, _, dt⟩ := id hs
    unfold Builtin.Slice.sliceFields
    exact wpAny_bind (wpAny_field at_ dt (x := .none) rfl (wpAny_bind (wpAny_field at_ dt (x := .none) rfl (wpAny_bind (wpAny_field at_ dt (x := vs) rfl (wpAny_pure ⟨rfl, rfl⟩))))))
  unfold Builtin.Slice.sliceApplied
  refine wpAny_bind (thn fields fun r s' e => ?_)
  obtain ⟨rfl, rfl⟩ := e
  refine wpAny_bind (slicePart_ ps (show wpAny _ _ (if ((-1 : Int) == 0) = true then _ else _) _ _ s' from ?_))
  rw [if_neg (by decide)]
  refine wpAny_bind (slicePart_none (wpAny_bind (slicePart_none (wpAny_bind (wpAny_pure (wpAny_pure ?_))))))
  show Q ((n : Int) - 1, (-1 : Int), Builtin.Slice.slicePlaces ((n : Int) - 1) (-1) (-1)) s'
  rw [places_rev]
  exact h
end
section
open HT PyProof Calls
variable {prog : Program} {w : World} {A : Around} {s : Shared} {E : Value → Shared → Prop}
/-- the slice at sl, taken of the tuple at t -/
theorem getItem_tuple_rev {t sl : Addr} {items : Array Value} {vs : Value} {Q : Value → Shared → Prop} (ht : IsTup s.heap t items) (hs : s.heap.IsSliceOf sl .none .none vs) (ps : IsPart vs (some (-1))) (big : items.size ≤ sizeLine)
    (h : Q (.ref s.heap.objs.size) { s with heap := s.heap.push { cls := .type "tuple", data := .seq items.toList.reverse.toArray } }) : wpAny (model prog w) A (getItem (.ref t) (.ref sl)) Q E s := by
  have isSlice : s.TypeIs (.ref sl) "slice" := by
    obtain ⟨ob, at_, cl, _⟩ := id hs
    exact ⟨ob, at_, cl⟩
  have fits : sizeOk (.seq items.toList.reverse.toArray) := by
    show items.toList.reverse.toArray.size ≤ sizeLine
    rwa [List.size_toArray, List.length_reverse, Array.length_toList]
  have made : wpAny (model prog w) A.in1 (Builtin.«tuple.__getitem__» ⟨[.ref t, .ref sl], []⟩) (fun f s' => ∃ v, f = .done (.ret v) ∧ Q v s') E s := by
    have no : ¬ ((((items.size : Int) - 1) == 0 && (-1 : Int) == 1 && items.size == items.size) = true) := fun q => absurd (Bool.and_eq_true_iff.mp (Bool.and_eq_true_iff.mp q).1).2 (by decide)
    show wpAny (model prog w) A.in1 (Builtin.Tuple.tupleItemsOf (.ref t) >>= _) _ E s
    refine wpAny_bind (tupleItemsOf_ ht (wpAny_bind (wpAny_typeOf isSlice ?_)))
    rw [if_pos (by decide)]
    refine wpAny_bind (sliceApplied_rev hs ps (show wpAny _ _ (if (((items.size : Int) - 1) == 0 && (-1 : Int) == 1 && items.size == items.size) = true then _ else _) _ _ s from ?_))
    rw [if_neg no, pick_rev]
    exact wpAny_bind (wpAny_newObj_type (wpAny_pure ⟨_, rfl, h⟩) fits)
  unfold getItem
  exact wpAny_holding (wpAny_bind (wpAny_sequenceKey ht.typeIs (by decide) (wpAny_bind (wpAny_callSpecial?_slot (name := Str.ofString "__getitem__") ht.typeIs PyProof.Rows.slot_tuple_getitem (wpAny_call_entry PyProof.Rows.slot_tuple_getitem ht.typeIs entry_tuple_getitem (thn made fun f s' ⟨v, e, q⟩ => ⟨v, e, wpAny_pure q⟩) (args_tuple_getitem _ _))))))
end
/-- t[::-1] -/
def tRevT (K : PySem.W.Frag) (te : TE) : TE := fun σ H Q => te σ H fun x H1 => ∃ a xs, x = .ref a ∧ SqT K H1 a xs ∧ ∀ p, H1 p = none → Q (.ref p) (upd H1 p (.tup xs.reverse))
/-- the part -1 -/
theorem po_minus1 {X : Cx} {k : Nat} {p1 p2 : Pos} : PO X (some (.UnaryOp .USub (.Constant (.int 1) k p1) p2)) (tPart (tUn (rU fun i => .int (-i)) (tC (.int 1)))) := po_some (pe_un un_neg pe_int)
theorem pe_revT {X : Cx} {e : Expr} {te : TE} {k : Nat} {p1 p2 p3 pos : Pos} (he : PE X e te) : PE X (.Subscript e (.Slice none none (some (.UnaryOp .USub (.Constant (.int 1) k p1) p2)) p3) pos) (tRevT X.K te) where
  run pins s σ H Q I h := by
    refine Subscript_ (thn (he.run pins s σ H _ I h) fun v s1 z => ?_)
    obtain ⟨y, J, I1, rel, a, xs, rfl, hx, q⟩ := z
    cases rel
    refine wpAny_Slice (thn (po_none.run pins s1 σ J (fun l L => l = none ∧ L = J) I1 ⟨rfl, rfl⟩) fun v1 s2 ⟨_, _, I2, part1, z1, z2⟩ => ?_)
    cases z1; cases z2; cases part1
    refine thn (po_none.run pins s2 σ J (fun l L => l = none ∧ L = J) I2 ⟨rfl, rfl⟩) fun v2 s3 ⟨_, _, I3, part2, z1, z2⟩ => ?_
    cases z1; cases z2; cases part2
    refine thn (po_minus1.run pins s3 σ J (fun l L => l = some (-1) ∧ L = J) I3 ⟨1, rfl, -1, rfl, rfl, rfl⟩) fun v3 s4 ⟨_, _, I4, part3, z1, z2⟩ => ?_
    cases z1; cases z2
    have I5 := I4.kept (h' := s4.heap.push { cls := .type "slice", data := .fields #[.none, .none, v3] }) (t' := s4.toks) fun b ob q => Heap.get?_push_of_some _ q
    obtain ⟨its, vals, ht, hz⟩ := I5.tuple hx
    refine tail_any (ops := [.ref a, .ref s4.heap.objs.size]) ht.typeIs PyProof.Rows.slot_tuple_getitem.lookup (getItem_tuple_rev ht (Heap.IsSliceOf.new _ .none .none v3) part3 (by rw [List.size_toArray, ← vals.length]; exact hz) ?_) (by with_unfolding_all rfl)
    exact ⟨.ref _, _, I5.laid (t' := s4.toks) (o := .tup xs.reverse) (fun b ob q => Heap.get?_push_of_some _ q) (Nat.le_refl _) ⟨by rw [List.length_reverse]; exact hz, _, vals.reverse, IsTup.new _ _⟩, rfl, q _ (I5.hok.fresh (Nat.le_refl _))⟩
section
variable [TabW] {K : PySem.W.Frag} {b : Addr} {ρ ρ' ρ1 : Rho} {β β1 β2 β3 : Bag} {ta tb te tc : TE} {x y z d : Dt} {G H G1 H1 G2 H2 : Hp} {σ : L2.St}
theorem DenL.reverse : ∀ {vs : List V} {ds : List Dt}, DenL K G vs ds → DenL K G vs.reverse ds.reverse
  | [], [], _ => .nil
  | [], _ :: _, h => nomatch h
  | _ :: _, [], h => nomatch h
  | _ :: _, _ :: _, .cons h1 h2 => by
    simp only [List.reverse_cons]
    exact (DenL.reverse h2).append (.cons h1 .nil)
theorem d_revT {ds : List Dt} (h : EvB K te ρ β (.tuple ds) β1) : EvB K (tRevT K te) ρ β (.tuple ds.reverse) β1 := by
  refine ⟨h.som, fun b G H σ Q E k => ?_⟩
  refine h.run b G H σ _ E fun v G1 H1 s1 k1 d1 => ?_
  cases d1 with
  | @tup a xs _ hs hd =>
    have hs := st_of (K := K) hs
    refine ⟨a, xs, rfl, ex_t s1.s hs, fun p hp => ?_⟩
    have n := Step.new (b := b) (m := false) (o := .tup xs.reverse) s1.s hp
    exact k (.ref p) _ _ (s1.trans n.up) (k1.same n) (.tup upd_same (hd.reverse.mono n.g))
theorem d_catA {ds es : List Dt} (ha : EvB K ta ρ β (.tuple ds) β1) (hb : EvB K tb ρ β1 (.tuple es) β2) (hz : ds.length + es.length ≤ 100000) : EvB K (tOp (rCatA K) ta tb) ρ β (.tuple (ds ++ es)) β2 := d_op ha hb fun b G H v w Q e h1 h2 k => by
  have h1' := h1
  have h2' := h2
  cases h1 with
  | @tup a xs _ hs hd =>
    have hs := st_of (K := K) hs
    cases h2 with
    | @tup c ys _ hs' hd' =>
      have hs' := st_of (K := K) hs'
      refine ⟨a, c, xs, ys, rfl, rfl, ex_t e hs, ex_t e hs', sz_of (by rw [hd.length, hd'.length]; exact hz), fun z => ?_, fun z1 z => ?_, fun z1 z p hp => ?_⟩
      · subst z
        cases hd
        exact k _ G H (Step.refl e) h2'
      · subst z
        cases hd'
        rw [List.append_nil] at k
        exact k _ G H (Step.refl e) h1'
      · have n := Step.new (b := b) (m := false) (o := .tup (xs ++ ys)) e hp
        exact k _ _ _ n (.tup upd_same ((hd.append hd').mono n.g))
end
end TD
set_option Elab.async false
set_option linter.all false
set_option maxRecDepth 100000
set_option maxHeartbeats 3000000
namespace TD
open PySem L2 PySem.Spec PyProof.Rows
open Evl (Ex ex_l ex_t fresh_back sq_of st_of sz_of sz_lt)
section
variable [TabW] {K : PySem.W.Frag} {b : Addr} {ρ ρ' ρ1 : Rho} {β β1 β2 β3 : Bag} {ta : TA} {tl te tr tb tc : TE} {x y z d : Dt} {G H G1 H1 G2 H2 : Hp} {σ : L2.St}
theorem EnvD.put {i : Nat} {v : Option V} (E : EnvD K b β G H σ ρ) (hi : ρ[i]? = some none) : EnvD K b β G H (σ.set i v) ρ := by
  refine ⟨E.sub, E.bagk, by rw [List.length_set]; exact E.len, fun j e hj => ?_, fun j hj => ?_, E.tabs, fun j a hj => ?_⟩
  · have z : i ≠ j := fun z => by
      subst z
      rw [hi] at hj
      cases hj
    rw [List.getElem?_set_ne z]
    exact E.imm j e hj
  · have z : i ≠ j := fun z => by
      subst z
      rw [hi] at hj
      cases hj
    rw [List.getElem?_set_ne z]
    exact E.bagv j hj
  · have z : i ≠ j := fun z => by
      subst z
      rw [hi] at hj
      cases hj
    rw [List.getElem?_set_ne z]
    exact E.fnv j a hj
def mixF (f : Int → List Int → Int × List Int) : Nat → List Dt → List Int → List Dt × List Int
  | 0, _, ns => ([], ns)
  | k + 1, ds, ns => (ds.getD (f ds.length ns).1.toNat .none :: (mixF f k (ds.eraseIdx (f ds.length ns).1.toNat) (f ds.length ns).2).1, (mixF f k (ds.eraseIdx (f ds.length ns).1.toNat) (f ds.length ns).2).2)
theorem DenL.erase : ∀ {vs : List V} {ds : List Dt} (k : Nat), DenL K G vs ds → DenL K G (vs.eraseIdx k) (ds.eraseIdx k)
  | [], [], _, _ => .nil
  | [], _ :: _, _, h => nomatch h
  | _ :: _, [], _, h => nomatch h
  | _ :: _, _ :: _, 0, .cons _ h2 => h2
  | _ :: _, _ :: _, k + 1, .cons h1 h2 => .cons h1 (DenL.erase k h2)
theorem seqIx {i : Int} {n : Nat} (h0 : 0 ≤ i) (h1 : i < n) : seqIndex? i n = some i.toNat := by
  unfold seqIndex?
  rw [if_neg (show ¬ i < 0 by omega)]
  show (if (decide (0 ≤ i) && decide (i < (n : Int))) = true then some i.toNat else none) = _
  rw [decide_eq_true h0, decide_eq_true h1]
  rfl
theorem st_mixed {ds : List Dt} {d : Dt} {R : FR} {ns : List Int} {P : List Int → Prop} (f : Int → List Int → Int × List Int) (hd : SeqD d ds) (hl : ds.length ≤ 1000) (hP : P ns) (hs : ∀ {n : Int} {ns : List Int}, P ns → 0 < n → P (f n ns).2)
    (hg : ∀ {n : Int} {ns : List Int}, 0 < n → 0 ≤ (f n ns).1 ∧ (f n ns).1 < n) (hR : ∀ {n : Int} {ns : List Int}, P ns → 0 < n → n ≤ 1000 → R [.bag, .imm (.int n)] (some ns) (.int (f n ns).1) (some (f n ns).2)) :
    StB K (tSeq (tAsg (tCB (rListOf K) (tCons (tVar 1) tNil)) (gName 2)) (tRet (tLc (iRng1 (tCons (tCB (rLen K) (tCons (tVar 1) tNil)) tNil)) (gName 3) tYes (tBM K "list" rPopAt (tVar 2) (tCons (tCall (spR K R) [] E0 (tCons (tVar 0) (tCons (tCB (rLen K) (tCons (tVar 2) tNil)) tNil))) tNil)) [3])))
      [some .bag, some (.imm d), none, none] (some ns) (.ret (.list (mixF f ds.length ds ns).1)) (some (mixF f ds.length ds ns).2) := by
  refine ⟨rfl, fun b G0 H0 σ D E k => ?_⟩
  obtain ⟨v1, hv1, dv1⟩ := E.imm 1 d rfl
  have hb0 := E.bagv 0 rfl
  have kb0 := E.bagk
  have σl : σ.length = 4 := E.len
  obtain ⟨pd, ys, rfl, hq, hdl⟩ := dv1.seq hd E.sub
  refine ⟨_, hv1, pd, ys, rfl, hq, fun p hp => ?_⟩
  have np : p ≠ b := bag_ne kb0 rfl hp rfl
  have gp : G0 p = none := fresh_back E.sub hp
  have hyl := hdl.length
  have hσ1 : (σ.set 2 (some (V.ref p)))[1]? = some (some (.ref pd)) := by rw [List.getElem?_set_ne (by decide)]; exact hv1
  have ex1 : Ex G0 (upd H0 p (.lst ys)) := E.sub.mut gp
  obtain ⟨pd', ys', e', hq', hdl'⟩ := dv1.seq hd ex1
  cases e'
  have hyl' := hdl'.length
  refine ⟨_, hσ1, pd, ys', rfl, hq', ?_⟩
  refine ⟨(ys'.length : Int), rfl, by omega, by omega, fun Dl hD => ?_⟩
  have hpD : p ≠ Dl := fun z => by rw [← z, upd_same] at hD; cases hD
  have hD0 : H0 Dl = none := by rw [upd_ne (Ne.symm hpD)] at hD; exact hD
  have nD : Dl ≠ b := bag_ne kb0 rfl hD0 rfl
  have gD : G0 Dl = none := fresh_back E.sub hD0
  have hn : ((ys'.length : Int)).toNat = ds.length := by omega
  refine lc_range (lo := 0) (n := ((ys'.length : Int)).toNat) (fun n H' => ∃ G' ns' ds' ws acc done, Step b true G0 H0 G' H' ∧ BagOk b (some ns') G' H' ∧ P ns' ∧ ds'.length + n = ds.length ∧ G' p = none ∧ H' p = some (.lst ws) ∧ DenL K G' ws ds' ∧ G' Dl = none ∧ H' Dl = some (.lst acc) ∧ DenL K G' acc done ∧ done.length = n ∧
    done ++ (mixF f ds'.length ds' ns').1 = (mixF f ds.length ds ns).1 ∧ (mixF f ds'.length ds' ns').2 = (mixF f ds.length ds ns).2) ?_ ?_ ?_
  · refine ⟨G0, ns, ds, ys, [], [], (Step.refl E.sub |>.mut (Gone.none hp) gp (LstAt.none hp)).mut (Gone.none hD0) gD (LstAt.none hD), (kb0.mut fun _ => np).mut fun _ => nD, hP, rfl, gp, by rw [upd_ne hpD, upd_same], hdl, gD, upd_same, .nil, rfl, rfl, rfl⟩
  · rintro n H' hlt ⟨G', ns', ds', ws, acc, done, s', k', hP', hlen, gp', hp', dw, gD', hD', da, hdn, ht, hns⟩
    have hpos : 0 < ds'.length := by omega
    obtain ⟨k0, hk0⟩ : ∃ k0, ds'.length = k0 + 1 := ⟨ds'.length - 1, by omega⟩
    have hwl := dw.length
    have hg' := hg (n := (ds'.length : Int)) (ns := ns') (by omega)
    have E' : EnvD K b (some ns') G' H' σ _ := E.step s' k'
    have E3 := ((E'.put (i := 2) (v := some (V.ref p)) rfl).put (i := 3) (v := none) rfl).put (i := 3) (v := some (V.int (0 + (n : Int)))) rfl
    have h2 : (((σ.set 2 (some (V.ref p))).set 3 none).set 3 (some (V.int (0 + (n : Int)))))[2]? = some (some (.ref p)) := by
      rw [List.getElem?_set_ne (by decide), List.getElem?_set_ne (by decide), List.getElem?_set_self (by omega)]
    have h0 : (((σ.set 2 (some (V.ref p))).set 3 none).set 3 (some (V.int (0 + (n : Int)))))[0]? = some (some (.ref b)) := by
      rw [List.getElem?_set_ne (by decide), List.getElem?_set_ne (by decide), List.getElem?_set_ne (by decide)]
      exact hb0
    refine ⟨wipe_ok (by decide) _ _, ?_⟩
    unfold tYes
    dsimp only []
    rw [if_pos rfl]
    refine ⟨_, h2, .inl ⟨rfl, ws, sq_of hp'⟩, ?_⟩
    refine ⟨_, h0, _, h2, p, ws, rfl, .inl (sq_of hp'), ?_⟩
    refine ⟨b, G', some ns', [.bag, .imm (.int (ds'.length : Int))], .int (f ds'.length ns').1, some (f ds'.length ns').2, s'.s, E'.tabs, k', .cons rfl (.cons (by rw [hwl]; exact .int _) .nil), hR hP' (by omega) (by omega), rfl, fun v G4 H4 s4 k4 d4 => ?_⟩
    cases d4
    have hp4 : H4 p = some (.lst ws) := s4.keep p _ (fun _ => np) NoT.lst hp'
    have gp4 : G4 p = none := s4.fresh p _ gp' NoT.lst hp'
    have hD4 : H4 Dl = some (.lst acc) := s4.keep Dl _ (fun _ => nD) NoT.lst hD'
    have gD4 : G4 Dl = none := s4.fresh Dl _ gD' NoT.lst hD'
    have hi : (f ds'.length ns').1.toNat < ws.length := by omega
    have hid : (f ds'.length ns').1.toNat < ds'.length := by omega
    obtain ⟨e, he1, he2⟩ := (dw.mono s4.g).get (List.getElem?_eq_getElem hi)
    refine ⟨p, ws, (f ds'.length ns').1, (f ds'.length ns').1.toNat, ws[(f ds'.length ns').1.toNat], rfl, rfl, hp4, by omega, by omega, seqIx (by omega) (by omega), List.getElem?_eq_getElem hi, ?_⟩
    have hal := da.length
    have hu : mixF f ds'.length ds' ns' = (ds'.getD (f ds'.length ns').1.toNat .none :: (mixF f k0 (ds'.eraseIdx (f ds'.length ns').1.toNat) (f ds'.length ns').2).1, (mixF f k0 (ds'.eraseIdx (f ds'.length ns').1.toNat) (f ds'.length ns').2).2) := by
      conv => lhs; rw [hk0]
      rw [mixF]
    have e2 : (ds'.eraseIdx (f ds'.length ns').1.toNat).length = k0 := by rw [List.length_eraseIdx, if_pos hid]; omega
    refine ⟨acc, by rw [upd_ne (Ne.symm hpD)]; exact hD4, sz_lt (by omega), ?_⟩
    refine ⟨G4, (f ds'.length ns').2, ds'.eraseIdx (f ds'.length ns').1.toNat, ws.eraseIdx (f ds'.length ns').1.toNat, acc ++ [ws[(f ds'.length ns').1.toNat]], done ++ [e], ((s'.trans s4).mut (Gone.none hp) gp4 (LstAt.of hp4)).mut (Gone.none hD0) gD4 (LstAt.of (by rw [upd_ne (Ne.symm hpD)]; exact hD4)), (k4.mut fun _ => np).mut fun _ => nD, hs hP' (by omega), ?_, gp4, by rw [upd_ne hpD, upd_same], (dw.mono s4.g).erase _, gD4, upd_same, (da.mono s4.g).append (.cons he2 .nil), by rw [List.length_append, hdn]; rfl, ?_, ?_⟩
    · rw [List.length_eraseIdx, if_pos hid]
      omega
    · rw [← ht, hu]
      have e1 : ds'.getD (f ds'.length ns').1.toNat .none = e := by rw [List.getD_eq_getElem?_getD, he1]; rfl
      rw [e1, e2, List.append_assoc]
      rfl
    · rw [← hns, hu, e2]
  · rintro H' ⟨G', ns', ds', ws, acc, done, s', k', hP', hlen, gp', hp', dw, gD', hD', da, hdn, ht, hns⟩
    have hnil : ds' = [] := List.length_eq_zero_iff.mp (by omega)
    subst hnil
    have ht : done ++ [] = (mixF f ds.length ds ns).1 := ht
    have hns : ns' = (mixF f ds.length ds ns).2 := hns
    refine lc_end (j := 0) (ρ := []) (β3 := some (mixF f ds.length ds ns).2) (tt := tYes) (te := tVar 0) (m := true) E.sub hD0 (fun _ => nD) ⟨G', some ns', done, [], acc, s', k', rfl, gD', hD', da, ht, ?_⟩ fun v G'' H'' s'' k'' dv => k v G'' H'' s'' k'' dv
    rw [hns]
    exact .nil _ _
theorem upd_upd {H : Hp} {p : Addr} {o o' : HO} : upd (upd H p o) p o' = upd H p o' := by
  funext q
  by_cases z : q = p
  · rw [z, upd_same, upd_same]
  · rw [upd_ne z, upd_ne z, upd_ne z]
end
/-- a method's reading, told over the fragment by name -/
theorem pe_castBM {X : Cx} {K : PySem.W.Frag} {e : Expr} {T : String} {r : V → List V → Hp → VK → Prop} {to : TE} {t : TA} (h : PE X e (tBM X.K T r to t)) (hK : X.K = K := by rfl) : PE X e (tBM K T r to t) := hK ▸ h
end TD
set_option Elab.async false
set_option linter.all false
set_option maxRecDepth 100000
set_option maxHeartbeats 3000000
namespace TDS
open TS PySem PyProof.Rows
def shI (S : Int) (ns : List Int) : List Int := ns.map (· + S)
/-- where a tuple stands among the others -/
def cd (S B : Int) (ns : List Int) : Int := code B (shI S ns)
section
variable {prog : Program} {w : World} {s : Shared} {A : Around} {E : Value → Shared → Prop}
theorem lexS {S B : Int} {b : Bool} {Q : Bool → Shared → Prop} : ∀ {xs ys : List Value} {ns ms : List Int} (i : Nat), IntsAre xs ns → IntsAre ys ms → ns.length = ms.length → Bd B (shI S ns) → Bd B (shI S ms) →
    Q (decide (cd S B ns < cd S B ms)) s → PySem.W.KatLex prog w A b false Q (xs.zip ys) i s
  | _, _, _, _, i, .nil, .nil, _, _, _, h => PySem.W.kat_nil (by
      have e : decide (cd S B [] < cd S B []) = false := decide_eq_false (Int.lt_irrefl _)
      rw [e] at h
      exact h)
  | _, _, _, _, i, .nil, .cons _ _ _, hl, _, _, _ => by simp at hl
  | _, _, _, _, i, .cons _ _ _, .nil, hl, _, _, _ => by simp at hl
  | _, _, _, _, i, @IntsAre.cons p t xs ns hx, @IntsAre.cons q u ys ms hy, hl, h1, h2, h => by
    have hl2 := Nat.succ.inj hl
    have hs : (shI S ns).length = (shI S ms).length := by unfold shI; rw [List.length_map, List.length_map, hl2]
    by_cases e : p = q
    · subst e
      have d : decide (cd S B (p :: ns) < cd S B (p :: ms)) = decide (cd S B ns < cd S B ms) := decide_eq_decide.mpr (code_same hs)
      rw [d] at h
      exact PySem.W.kat_cons (wpAny_eqBool_int (by rw [beq_self_eq_true]; exact PySem.W.kat_yes (lexS (i + 1) hx hy hl2 h1.tail h2.tail h)))
    · have up : p < q → cd S B (p :: ns) < cd S B (q :: ms) := fun x => code_lt hs h1.tail h2.tail (show p + S < q + S by omega)
      have down : q < p → cd S B (q :: ms) < cd S B (p :: ns) := fun x => code_lt hs.symm h2.tail h1.tail (show q + S < p + S by omega)
      have d : decide (cd S B (p :: ns) < cd S B (q :: ms)) = decide (p < q) := decide_eq_decide.mpr ⟨fun x => Int.not_le.mp fun y => absurd (down (by omega)) (by omega), up⟩
      rw [d] at h
      exact PySem.W.kat_cons (wpAny_eqBool_int (by rw [beq_eq_false_iff_ne.mpr e]; exact PySem.W.kat_no (oneLt_ints _ h)))
/-- tuples of d ints each, at least -S and below B - S -/
def OkS (h : Heap) (d : Nat) (S B : Int) (vs : List Value) : Prop := ∀ v, v ∈ vs → ∃ ns, TupInts h v ns ∧ ns.length = d ∧ Bd B (shI S ns)
theorem OkS.keeps {h h' : Heap} {d : Nat} {S B : Int} {vs : List Value} (x : OkS h d S B vs) (k : ∀ b o, h.get? b = some o → o.cls = .type "tuple" → h'.get? b = some o) : OkS h' d S B vs := fun v hv => by
  obtain ⟨ns, t, r⟩ := x v hv
  exact ⟨ns, t.keeps k, r⟩
theorem firstsS {h : Heap} {d : Nat} {S B : Int} (hd : 1 ≤ d) : ∀ vs : List Value, OkS h d S B vs → ∃ fs, PySem.W.KatTups h vs fs ∧ fs.length = vs.length ∧ ∀ f ∈ fs, ∃ n t, f = Value.int n t
  | [], _ => ⟨[], .nil, rfl, fun _ hf => by cases hf⟩
  | v :: vs, x => by
    obtain ⟨fs, k, hl, hi⟩ := firstsS hd vs fun u hu => x u (List.mem_cons_of_mem _ hu)
    obtain ⟨ns, ⟨a, xs, rfl, ⟨o, ho, hc, n, hdt⟩, i⟩, hn, _⟩ := x v List.mem_cons_self
    have hlen := i.length
    cases q : xs.toList with
    | nil => rw [q] at hlen; simp at hlen; omega
    | cons y ys =>
      obtain ⟨m, t, hy⟩ := i.all y (by rw [q]; exact List.mem_cons_self)
      have h0 : xs[0]? = some y := by rw [← Array.getElem?_toList, q]; rfl
      exact ⟨y :: fs, .cons ho hc hdt h0 k, by simp [hl], fun f hf => (List.mem_cons.mp hf).elim (fun e => e ▸ ⟨m, t, hy⟩) (hi f)⟩
theorem kindS {d : Nat} {S B : Int} {vs : List Value} (hd : 1 ≤ d) (h2 : 2 ≤ vs.length) (x : OkS s.heap d S B vs) (Q : SortKind → Shared → Prop)
    (r : Value → Int) (hr : ∀ v ∈ vs, ∀ ns, TupInts s.heap v ns → r v = cd S B ns) (h : ∀ κ, Cmp prog w A s κ (pairsOf vs) r → Q κ s) : wpAny (model prog w) A (keyKind' vs.toArray) Q E s := by
  obtain ⟨fs, k, hl, hi⟩ := firstsS hd vs x
  refine PySem.W.kat_kind (T := Value.type "int") k (by omega) (fun f hf => by obtain ⟨i, tk, e⟩ := hi f hf; rw [e]; exact PySem.W.Looks.of_pure rfl) rfl (h _ ?_)
  intro p q hp hq Q' E' hQ
  rw [pairsOf_toList] at hp hq
  have mp : p.1 ∈ vs := (mem_zip_self hp).2
  have mq : q.1 ∈ vs := (mem_zip_self hq).2
  obtain ⟨ns, tp, lp, bp⟩ := x _ mp
  obtain ⟨ms, tq, lq, bq⟩ := x _ mq
  rw [hr _ mp ns tp, hr _ mq ms tq] at hQ
  obtain ⟨a, xs, e1, ⟨o, ho, _, n, hdt⟩, i⟩ := tp
  obtain ⟨a', ys, e2, ⟨o', ho', _, n', hdt'⟩, i'⟩ := tq
  have sz : decide (xs.size < ys.size) = false := decide_eq_false (by have l1 := i.length; have l2 := i'.length; rw [Array.length_toList] at l1; rw [Array.length_toList] at l2; omega)
  rw [e1, e2]
  exact PySem.W.kat_lt ho hdt ho' hdt' (by rw [sz]; exact lexS 0 i i' (by omega) bp bq hQ)
/-- xs.sort(), then the list again -/
theorem sortS {a : Addr} {vs : List Value} {n d : Nat} {S B : Int} {Q : Value → Shared → Prop} (ho : s.heap.get? a = some (seqObj "list" vs.toArray n)) (h64 : vs.length < 64) (hd : 1 ≤ d) (x : OkS s.heap d S B vs)
    (h : ∀ out : Array Value, out.toList.Perm vs → out.toList.Pairwise (fun u v => cd S B (intsOf s.heap u) ≤ cd S B (intsOf s.heap v)) → Q .none { s with heap := sortedHeap s.heap a vs out }) : wpAny (model prog w) A (call (.builtin "list.sort") [.ref a]) Q E s := by
  have other : ∀ b o, s.heap.get? b = some o → o.cls = .type "tuple" → b ≠ a := fun b o e hc z => by
    rw [z, ho] at e
    cases e
    exact absurd hc (by show ¬ Value.type "list" = Value.type "tuple"; decide)
  have mid := x.keeps (h' := midHeap s.heap a vs) fun b o e hc => midHeap_old (other b o e hc) e
  refine wpAny_call_entry slot_list_sort ⟨_, ho, rfl⟩ entry_list_sort (SK.plain_sort (r := fun v => cd S B (intsOf s.heap v)) ho h64 (fun h2 Q' hQ => kindS (s := { s with heap := midHeap s.heap a vs }) hd h2 mid Q' _ (fun v hv ns t => ?_) hQ) fun ps out h1 h2 h3 => ?_) (args_list_sort _)
  · obtain ⟨ns0, t0, -⟩ := x v hv
    have same := t.ints.symm.trans (t0.keeps (h' := midHeap s.heap a vs) fun b o e hc => midHeap_old (other b o e hc) e).ints
    show cd S B (intsOf s.heap v) = cd S B ns
    rw [t0.ints, same]
  · have r := out_rank (r := fun v => cd S B (intsOf s.heap v)) h1 h2 h3
    exact ⟨_, rfl, h out r.1 r.2⟩
/-- what holds of the tuples before a list is laid behind them, holds after -/
theorem OkS.push {h h' : Heap} {d : Nat} {S B : Int} {vs : List Value} (x : OkS h d S B vs) (old : ∀ b o, h.get? b = some o → h'.get? b = some o) : OkS h' d S B vs ∧ ∀ v ∈ vs, intsOf h' v = intsOf h v :=
  ⟨x.keeps fun b o q _ => old b o q, fun v hv => by obtain ⟨ns, t, _⟩ := x v hv; rw [t.ints, (t.keeps fun b o q _ => old b o q).ints]⟩
end
end TDS
namespace TDS
open TS L2 PySem PySem.Spec PyProof.Rows
theorem perm_map {α γ : Type} {f : α → γ} : ∀ {l m : List γ}, l.Perm m → ∀ L : List α, m = L.map f → ∃ L' : List α, L'.Perm L ∧ l = L'.map f := by
  intro l m h
  induction h with
  | nil => exact fun L e => ⟨[], by
      have : L = [] := List.map_eq_nil_iff.mp e.symm
      rw [this], rfl⟩
  | @cons x l1 l2 _ ih =>
    intro L e
    cases L with
    | nil => cases e
    | cons a L2 =>
      rw [List.map_cons] at e
      injection e with e1 e2
      obtain ⟨L', h1, h2⟩ := ih L2 e2
      exact ⟨a :: L', h1.cons a, by rw [List.map_cons, e1, h2]⟩
  | swap x y l =>
    intro L e
    match L, e with
    | a :: b :: L2, e =>
      rw [List.map_cons] at e; rw [List.map_cons] at e
      injection e with e1 e2
      injection e2 with e2 e3
      exact ⟨b :: a :: L2, .swap a b L2, by rw [List.map_cons, List.map_cons, e1, e2, e3]⟩
  | trans _ _ ih1 ih2 =>
    intro L e
    obtain ⟨L2, h1, h2⟩ := ih2 L e
    obtain ⟨L1, h3, h4⟩ := ih1 L2 h2
    exact ⟨L1, h3.trans h1, h4⟩
section
variable {X : Cx}
theorem shared_eq {s s' : Shared} (h : s'.os = s.os) : s' = { s with heap := s'.heap, gens := s'.gens, drawn := s'.drawn, toks := s'.toks } := by
  cases s; cases s'; cases h; rfl
end
end TDS
set_option Elab.async false
set_option linter.all false
set_option maxRecDepth 100000
set_option maxHeartbeats 3000000
namespace TD
open PySem L2 PySem.Spec PyProof.Rows
open Evl (Ex ex_l ex_t fresh_back sq_of st_of sz_of sz_lt)
section
variable {X : Cx}
def rNotInT (K : PySem.W.Frag) : R2 := fun x y H Q => ∃ d ds, Dp K H x d ∧ Dp K H y (.tuple ds) ∧ SeqAt.shaped d = true ∧ SeqAt.shaped (.tuple ds) = true ∧ Q (.bl (!ds.any fun z => PyData.eqv z d)) H
theorem op_notInT {K : PySem.W.Frag} (hu : X.A.units + 65 < cLine) (hK : X.K = K := by rfl) : OpR X (compareOp .NotIn) (rNotInT K) := by
  subst hK
  rintro pins s σ H x y v u Q I rx ry ⟨d, ds, hd, he, sd, se, q⟩
  obtain ⟨_, r1⟩ := Dp.reads I d x v hd rx
  obtain ⟨_, r2⟩ := Dp.reads I (.tuple ds) y u he ry
  exact SeqAt.notIn_tuple_reads r2 r1 (SeqAt.canLay_of_shaped se) (SeqAt.canLay_of_shaped sd) (room_in_shaped sd hu) ⟨.bl _, H, I, rfl, q⟩
end
section
variable [TabW] {K : PySem.W.Frag} {b : Addr} {ρ ρ' ρ1 : Rho} {β β1 β2 β3 : Bag} {ta tb te tc : TE} {x y z d : Dt} {G H G1 H1 G2 H2 : Hp} {σ : L2.St}
theorem d_notInT {ds : List Dt} (hx : EvB K ta ρ β x β1) (hy : EvB K tb ρ β1 (.tuple ds) β2) (fx : flatD x = true) (fy : flatL ds = true) (sx : SeqAt.shaped x = true) (sy : SeqAt.shaped (.tuple ds) = true) : EvB K (tOp (rNotInT K) ta tb) ρ β (.bool (!ds.any fun z => PyData.eqv z x)) β2 :=
  d_op hx hy fun b G H v w Q e h1 h2 k => ⟨x, ds, h1.dp e fx, h2.dp e (by unfold flatD; exact fy), sx, sy, k _ G H (Step.refl e) (.bl _)⟩
abbrev tupJ (ns : List Int) : Dt := .tuple (ns.map PyData.int)
/-- the tuples' addresses -/
theorem DenL.refs : ∀ {xs : List V} {ns : List (List Int)}, DenL K G xs (ns.map tupJ) → ∃ ks : List (Addr × List Int), xs = ks.map (fun p => V.ref p.1) ∧ ns = ks.map (·.2) ∧ ∀ p ∈ ks, G p.1 = some (.tup (p.2.map V.int))
  | [], [], _ => ⟨[], rfl, rfl, fun _ h => by cases h⟩
  | [], _ :: _, h => nomatch h
  | _ :: _, [], h => nomatch h
  | x :: xs, n :: ns, .cons h1 h2 => by
    obtain ⟨ks, rfl, rfl, hk⟩ := DenL.refs h2
    cases h1 with
    | @tup a ys _ hs hd =>
      have := hd.ints
      subst this
      refine ⟨(a, n) :: ks, rfl, rfl, fun p hp => ?_⟩
      obtain rfl | hp := List.mem_cons.mp hp
      · exact hs
      · exact hk p hp
theorem DenL.of_refs : ∀ {ks : List (Addr × List Int)}, (∀ p ∈ ks, G p.1 = some (.tup (p.2.map V.int))) → DenL K G (ks.map fun p => V.ref p.1) ((ks.map (·.2)).map tupJ)
  | [], _ => .nil
  | p :: ks, h => .cons (.tup (h p List.mem_cons_self) (DenL.of_ints p.2)) (DenL.of_refs fun q hq => h q (List.mem_cons_of_mem _ hq))
end
/-- the members, once each -/
def once : List (List Int) → List (List Int)
  | [] => []
  | x :: xs => if x ∈ once xs then once xs else x :: once xs
theorem once_mem {x : List Int} : ∀ {xs : List (List Int)}, x ∈ once xs ↔ x ∈ xs
  | [] => Iff.rfl
  | y :: xs => by
    unfold once
    split
    · rename_i h
      rw [once_mem, List.mem_cons]
      constructor
      · exact .inr
      · rintro (rfl | h')
        · exact once_mem.mp h
        · exact h'
    · rw [List.mem_cons, List.mem_cons, once_mem]
theorem once_nodup : ∀ xs : List (List Int), (once xs).Nodup
  | [] => List.nodup_nil
  | y :: xs => by
    unfold once
    split
    · exact once_nodup xs
    · rename_i h
      exact List.nodup_cons.mpr ⟨h, once_nodup xs⟩
end TD
set_option Elab.async false
set_option linter.all false
set_option maxRecDepth 100000
set_option maxHeartbeats 4100000
namespace TD
open PySem L2 PySem.Spec PyProof.Rows
/-- a clause: its class, the slot of its name, its suite -/
abbrev Cl := Value × Option Nat × (Addr → Value → Option Addr → TS)
/-- the ends of a suite behind which the name is gone -/
def endN (D : Ends) : Option Nat → Ends
  | none => D
  | some i => { nx := fun τ h => D.nx (τ.set i none) h, rt := D.rt, bk := fun τ h => D.bk (τ.set i none) h, ct := fun τ h => D.ct (τ.set i none) h }
def setN (σ : L2.St) (a : Addr) : Option Nat → L2.St
  | none => σ
  | some i => σ.set i (some (.ref a))
def wNames (K : PySem.W.Frag) (n : Nat) (W0 : WX) (D : Ends) : List Cl → WX
  | [] => W0
  | (c, oi, ts) :: r => fun k d σ h => ∃ b, PySem.W.exmOne K k c = some b ∧ (b = true → σ.length = n → ∀ a, h a = none → ts a k d (endN D oi) (setN σ a oi) h) ∧ (b = false → wNames K n W0 D r k d σ h)
def Suite (X : Cx) (su : List Stmt) (ts : Addr → Value → Option Addr → TS) : Prop :=
  ∀ (a : Addr) (oe : Obj) (k : Value) (d : Option Addr) (pn : List (Addr × Obj)), Zc k d oe → (∃ vs, oe.data = .fields vs) → PSs (X.suite a ((a, oe) :: pn)) su (ts a k d)
inductive Cls (X : Cx) : List ExceptHandler → List Cl → Prop
  | nil : Cls X [] []
  | bare {x : Str} {c : Value} {ts : Addr → Value → Option Addr → TS} {s0 : Stmt} {su : List Stmt} {p q : Pos} {hs : List ExceptHandler} {l : List Cl} : Names X x c → Suite X (s0 :: su) ts → Cls X hs l →
      Cls X (.ExceptHandler (some (.Name x p)) none (s0 :: su) q :: hs) ((c, none, ts) :: l)
  | named {x n : Str} {i : Nat} {c : Value} {ts : Addr → Value → Option Addr → TS} {s0 : Stmt} {su : List Stmt} {p q : Pos} {hs : List ExceptHandler} {l : List Cl} : X.N.Nodup → X.N[i]? = some n → X.env.kindOf n = some .local → Names X x c → Suite X (s0 :: su) ts → Cls X hs l →
      Cls X (.ExceptHandler (some (.Name x p)) (some n) (s0 :: su) q :: hs) ((c, some i, ts) :: l)
section
variable {X : Cx} {bd : List Stmt} {h0 : ExceptHandler} {hs : List ExceptHandler} {l : List Cl} {pos : Pos} {tb : WX → TS} {W0 : WX}
theorem ps_tryN (st : X.stack = X.env :: X.outer) (fr : X.env.frame = some X.env.locals) (tk : Takes X W0)
    (hb : ∀ (W : WX) (pn : List (Addr × Obj)) (xe : Value → Shared → Prop), Takes (X.tr pn xe) W → PassesOwn (model X.prog X.w) X.A X.env xe → PSs (X.tr pn xe) bd (tb W))
    (hh : Cls X (h0 :: hs) l) : PS X (.Try bd (h0 :: hs) [] [] pos) (fun D σ H => tb (wNames X.K X.N.length W0 D l) D σ H) := by
  refine ⟨fun pins s σ H D I hrun => ?_⟩
  have okX := I.ok
  have frA : X.A.frames = some (X.env :: X.outer) := by rw [okX.frames, st]
  have body := hb (wNames X.K X.N.length W0 D l) (X.pn ++ pins) (fun e t₁ => wpAny (model X.prog X.w) X.A (noteFrame e X.env) (fun _ t₂ => wpAny (model X.prog X.w) X.A (setFlight e none) (fun _ t₃ => wpAny (model X.prog X.w) X.A (handleBy e X.env (h0 :: hs)) (SP X pins D) X.xe t₃) X.xe t₂) X.xe t₁)
  refine wpAny_Try_except (wpAny_mono ((body (fun u t xx => ?_) PassesOwn.looking).run [] s σ H D (I.toTry _) hrun) (fun fl t1 hsp => ?_) (fun e t1 he => he))
  · obtain ⟨a, Bg, tI, _, σ1, Hx, k, d, rfl, Jt, onB, upS, sk, fresh, oss, bare, wish⟩ := xx
    have J1 : Inv X pins σ1 Hx tI := Jt.ofTry okX
    rw [show (X.tr (X.pn ++ pins) _).stack = X.env :: X.outer from st] at sk
    refine Sky.land Zc.steady frA fr sk fun g3 fly3 ups3 => ?_
    have J3 : Inv X pins σ1 Hx { t with heap := g3 } := J1.landed onB fly3.1 (upS.trans ups3) oss bare
    obtain ⟨ob3, fv3, at3, zc3, dt3⟩ := fly3.there
    have apart : ∀ {g : Heap} {ob : Obj} {fv : Array Value}, g.FunFrames Bg (X.env :: X.outer) → g.get? a = some ob → ob.data = .fields fv → a ∉ frs (X.env :: X.outer) := fun {g ob fv} ff q1 q2 hm => by
      obtain ⟨_, ob', q3, q4⟩ := ff.mem hm
      rw [q1] at q3
      cases q3
      exact q4 _ q2
    have notIn := apart fly3.2.2.1 at3 dt3
    have notL : a ≠ X.env.locals := fun z => notIn (List.mem_filterMap.mpr ⟨X.env, List.mem_cons_self, by rw [fr, z]⟩)
    have notF : a ∉ X.fs := fun hm => by
      obtain ⟨en, hen, qn⟩ := List.mem_filterMap.mp hm
      exact notIn (List.mem_filterMap.mpr ⟨en, List.mem_cons_of_mem _ hen, qn⟩)
    have Sx := J3.suite at3 dt3 fresh notL notF
    have typ : PySem.W.Looks (model X.prog X.w) g3 (typeOf (.ref a)) k := fun A Q E s kk qq => wpAny_typeOf_ref (kk _ _ at3) (by rw [zc3.1]; exact qq)
    have name : ∀ {x : Str} {np : Pos} {c : Value} {Q E : Value → Shared → Prop}, Names X x c → Q c { t with heap := g3 } → wpAny (model X.prog X.w) (X.A.mark (some (.ref a))) (eval (.Name x np) X.env) Q E { t with heap := g3 } := fun {x np c Q E} hc qq => by
      obtain ⟨gx, dx, m1 | ⟨m1, m2, m3⟩⟩ := hc
      · exact ld_glob (X := X.suite a ((a, ob3) :: (X.pn ++ pins))) Sx gx m1 qq dx
      · exact ld_blt (X := X.suite a ((a, ob3) :: (X.pn ++ pins))) Sx gx m1 m2 qq m3 dx
    have all : ∀ {hs' : List ExceptHandler} {l' : List Cl}, Cls X hs' l' → wNames X.K X.N.length W0 D l' k d σ1 Hx → wpAny (model X.prog X.w) X.A (handleBy (.ref a) X.env hs') (SP X pins D) X.xe { t with heap := g3 } := by
      intro hs' l' hk
      induction hk with
      | nil =>
        intro wout
        obtain ⟨_, _, _, ob, fv, T, oT, tl, o1, o2, o3, o4, o5⟩ := id fly3
        refine wpAny_handleBy_nil ?_
        unfold PySem.passOn
        refine wpAny_bind (wpAny_field o1 o3 o4 ?_)
        rw [if_neg (by simp : ¬ ((Value.ref T == Value.none) = true))]
        have out : wpAny (model X.prog X.w) X.A (setFlight (.ref a) X.env.frame) (fun _ t4 => wpAny (model X.prog X.w) X.A (throw (.ref a) : Sem Flow) (SP X pins D) X.xe t4) X.xe { t with heap := g3 } := by
          rw [fr]
          exact HandSPX.setFlight_upZ fly3 fun g4 held4 ups4 => wpAny_throw (tk _ _ ⟨a, Bg, tI, pins, σ1, Hx, k, d, rfl, J1, onB, (upS.trans ups3).trans ups4, .inr (.inr (by rw [st]; exact held4)), fresh, oss, bare, wout⟩)
        first
          | exact wpAny_bind (wpAny_pure (wpAny_bind out))
          | exact wpAny_bind out
      | @bare x c ts s0 su np q hs2 l2 hc hsu _ ih =>
        rintro ⟨b, hb1, yes, no⟩
        have same := PySem.W.exm_one (M := model X.prog X.w) (J3.kIn) typ hb1
        refine wpAny_handleBy_cons (codeAny_handlers_test (name hc (same.here ?_))) (by intro z; cases z)
        cases b with
        | false => exact ih (no rfl)
        | true =>
          refine codeAny_handlers_suite (HandSPX.lands_againZ fly3 fun g4 fly4 ups4 => ?_)
          have J4 : Inv X pins σ1 Hx { t with heap := g4 } := J1.landed onB fly4.1 ((upS.trans ups3).trans ups4) oss bare
          obtain ⟨ob4, fv4, at4, zc4, dt4⟩ := fly4.there
          refine wpAny_mono ((hsu a ob4 k d (X.pn ++ pins) zc4 ⟨_, dt4⟩).run [] _ _ Hx _ (J4.suite at4 dt4 fresh notL notF) (yes rfl J1.len a fresh)) (fun fl t6 hsp => ?_) (fun _ _ z => z.elim)
          cases fl with
          | ret u =>
            obtain ⟨v6, τ, H6, S6, r6, q6⟩ := hsp
            exact ⟨_, _, _, S6.unsuite okX, r6, q6⟩
          | next =>
            obtain ⟨τ, H6, S6, q6⟩ := hsp
            exact ⟨_, _, S6.unsuite okX, q6⟩
          | brk =>
            obtain ⟨τ, H6, S6, q6⟩ := hsp
            exact ⟨_, _, S6.unsuite okX, q6⟩
          | cont =>
            obtain ⟨τ, H6, S6, q6⟩ := hsp
            exact ⟨_, _, S6.unsuite okX, q6⟩
      | @named x n i c ts s0 su np q hs2 l2 hN hi hln hc hsu _ ih =>
        rintro ⟨b, hb1, yes, no⟩
        have same := PySem.W.exm_one (M := model X.prog X.w) (J3.kIn) typ hb1
        refine wpAny_handleBy_cons (codeAny_handlers_test (name hc (same.here ?_))) (by intro z; cases z)
        cases b with
        | false => exact ih (no rfl)
        | true =>
          refine codeAny_handlers_suite_as (HandSPX.lands_againZ fly3 fun g4 fly4 ups4 => ?_)
          have J4 : Inv X pins σ1 Hx { t with heap := g4 } := J1.landed onB fly4.1 ((upS.trans ups3).trans ups4) oss bare
          obtain ⟨ob4, fv4, at4, zc4, dt4⟩ := fly4.there
          refine store_ok (X := X.suite a ((a, ob4) :: (X.pn ++ pins))) (v := .ref a) (J4.suite at4 dt4 fresh notL notF) hN hi (.inl hln) rfl (fun t5 S5 => ?_) (.inr hln)
          refine wpAny_mono ((hsu a ob4 k d (X.pn ++ pins) zc4 ⟨_, dt4⟩).run [] t5 _ Hx _ S5 (yes rfl J1.len a fresh)) (fun fl t6 hsp => ?_) (fun _ _ z => z.elim)
          cases fl with
          | ret u =>
            obtain ⟨v6, τ, H6, S6, r6, q6⟩ := hsp
            exact gone_ok (S6.unsuite okX) hN hi hln fun t7 J7 => ⟨_, _, _, J7, r6, q6⟩
          | next =>
            obtain ⟨τ, H6, S6, q6⟩ := hsp
            exact gone_ok (S6.unsuite okX) hN hi hln fun t7 J7 => ⟨_, _, J7, q6⟩
          | brk =>
            obtain ⟨τ, H6, S6, q6⟩ := hsp
            exact gone_ok (S6.unsuite okX) hN hi hln fun t7 J7 => ⟨_, _, J7, q6⟩
          | cont =>
            obtain ⟨τ, H6, S6, q6⟩ := hsp
            exact gone_ok (S6.unsuite okX) hN hi hln fun t7 J7 => ⟨_, _, J7, q6⟩
    exact all hh wish
  · cases fl with
    | ret u =>
      obtain ⟨v, τ, Hn, Jn, rn, qn⟩ := hsp
      exact ⟨v, τ, Hn, Jn.ofTry okX, rn, qn⟩
    | next =>
      obtain ⟨τ, Hn, Jn, qn⟩ := hsp
      exact wpAny_execs_nil ⟨τ, Hn, Jn.ofTry okX, qn⟩
    | brk =>
      obtain ⟨τ, Hn, Jn, qn⟩ := hsp
      exact ⟨τ, Hn, Jn.ofTry okX, qn⟩
    | cont =>
      obtain ⟨τ, Hn, Jn, qn⟩ := hsp
      exact ⟨τ, Hn, Jn.ofTry okX, qn⟩
end
end TD
set_option Elab.async false
set_option linter.all false
set_option maxRecDepth 100000
set_option maxHeartbeats 4100000
namespace TO
open PySem PySem.W PySem.Calls PyProof.Rows PySem.HandSPX L2
open Builtin.ObjectAttr Builtin
def mroOver (rs : List Addr) (bt : List Value) : List Value := rs.map Value.ref ++ bt
theorem mro_has {bt : List Value} (T : String) : ∀ rs : List Addr, (mroOver rs bt).contains (.type T) = bt.contains (.type T)
  | [] => rfl
  | c :: rs => by
    show (Value.ref c :: mroOver rs bt).contains (.type T) = _
    rw [List.contains_cons, mro_has T rs]
    rfl
theorem mro_pass {bt : List Value} (o : Value) (h : refuseLoop o "__setattr__" bt = pure ()) : ∀ rs : List Addr, refuseLoop o "__setattr__" (mroOver rs bt) = pure ()
  | [] => h
  | c :: rs => by
    show refuseLoop o "__setattr__" (Value.ref c :: mroOver rs bt) = _
    rw [refuseLoop_ref]
    exact mro_pass o h rs
abbrev inArgs (f : Str) (p p' : Pos) : Arguments := { posonlyargs := [], args := [⟨"self", none, p⟩, ⟨f, none, p'⟩], vararg := none, kwonlyargs := [], kw_defaults := [], kwarg := none, defaults := [] }
abbrev inBody (f : Str) (q q' q2 q3 : Pos) : List Stmt := [.Assign [.Attribute (.Name "self" q) f q'] (.Name f q2) q3]
abbrev inScope (f : Str) : Scope := { kind := .function, names := [(PySem.Str.ofString "self", .local), (f, .local)], isGenerator := false, isCoroutine := false, more := [] }
/-- what is plain of a field's name -/
structure Fld (f : Str) : Prop where
  dbg : (f == ("__debug__" : Str)) = false
  kinds : ∀ u v : Value, ([(("self" : Str), u), (f, v)].all fun y => (inScope f).names.lookup y.1 == some .local || (inScope f).names.lookup y.1 == some .cell) = true
  kSelf : ∀ (q : Str) (L a : Addr) (cd : Value), (envOfC q (inScope f) L a cd).kindOf "self" = some .local
  kFld : ∀ (q : Str) (L a : Addr) (cd : Value), (envOfC q (inScope f) L a cd).kindOf f = some .local
  vSelf : ∀ (q : Str) (L a : Addr) (cd u v : Value), bindL (envOfC q (inScope f) L a cd).kindOf [("self", u), (f, v)] (fun _ => none) "self" = some u
  vFld : ∀ (q : Str) (L a : Addr) (cd u v : Value), bindL (envOfC q (inScope f) L a cd).kindOf [("self", u), (f, v)] (fun _ => none) f = some v
  binds : ∀ (s : Shared) (q : Str) (p p' q1 q2 q3 q4 : Pos) (doc pm : Value) (an : Option Addr) (cdv ct u v : Value), BindsTo s (fnOf "__init__" q (inArgs f p p') (inBody f q1 q2 q3 q4) (inScope f) .none .none doc pm an cdv ct) ⟨[u, v], []⟩ [("self", u), (f, v)]
  look : ∀ v : V, List.lookup f [(f, v)] = some v
/-- what the written part says of the class at C, its __init__ at fI -/
structure Own (K : Frag) (mg : Str → Option Value) (x f : Str) (C fI : Addr) (newId : String) (bt : List Value) : Prop where
  gC : mg x = some (.ref C)
  cls : ∃ nm q N bs sn sub ab col dd k0 k1 k2 k3 k5 rs, K.lookup C = some (excClassObj nm q C N bs (mroOver rs bt) true sn sub ab col dd k0 k1 k2 k3 k5 newId)
  (sa : findIn K (.ref C) "__setattr__" = some (some (.builtin "object.__setattr__")))
  xf : XfC K C
  noN : findIn K (.ref C) f = some none
  (iC : findIn K (.ref C) "__init__" = some (some (.ref fI))) (tC : typeIn K (.ref fI) = some (.type "function"))
  kC : keepIn K (.ref C) = true
  (exC : subIn K (.ref C) (.type "BaseException") = some true) (tyC : typeIn K (.ref C) = some (.type "type"))
  fn : ∃ (oc : Value) (od : Option Addr) (q : Str) (doc pm : Value) (an : Option Addr) (cdv ct : Value) (osl : Array (Option Value)) (p p' q1 q2 q3 q4 : Pos),
    K.lookup fI = some ⟨oc, od, .func (fnOf "__init__" q (inArgs f p p') (inBody f q1 q2 q3 q4) (inScope f) .none .none doc pm an cdv ct), osl⟩ ∧ codeIn K cdv q = true
section
variable {w : World} {prog : Program} {A : Around} {E : Value → Shared → Prop} {R : Result → Shared → Prop} {hp : Heap} {g : Array GenState} {d : Drawn} {t : Nat} {os : OsState}
/-- nothing in the classes stops a store: own ones have no rule for it, the built-in ones let it pass -/
theorem lets_store {K : Frag} {x C : Addr} {ox : Obj} {od : Option Obj} {cd : ClassData} {rs : List Addr} {bt : List Value} (X : K.In hp) (J : InstAt hp x ox C od) (hcd : clsIn K C = some cd) (hm : cd.mro = mroOver rs bt) (hps : ∀ o : Value, refuseLoop o "__setattr__" bt = pure ()) :
    Looks (model prog w) hp (refuseIfOverridden (.ref x) "__setattr__") () := by
  have order : Looks (model prog w) hp (mroOf (.ref C)) (mroOver rs bt) := by
    rw [← hm]
    exact (looks_clsIn X hcd).andThen .now
  rw [refuse_eq]
  apply J.type.andThen
  apply order.andThen
  rw [mro_pass _ (hps _)]
  exact .now
/-- its class has object among its ancestors -/
theorem over_object {K : Frag} {x C : Addr} {ox : Obj} {od : Option Obj} {cd : ClassData} {rs : List Addr} {bt : List Value} (X : K.In hp) (J : InstAt hp x ox C od) (hcd : clsIn K C = some cd) (hm : cd.mro = mroOver (C :: rs) bt) (hob : bt.contains (.type "object") = true) :
    Looks (model prog w) hp (isInstance (.ref x) (.type "object")) true := by
  apply J.type.andThen
  apply looks_mroIn X
  simp only [mroIn, hcd, Option.bind_some, hm, mro_has, hob]
  rfl
/-- the dict of an exception that has none as yet is made, and holds the one name -/
theorem first_name {M : Model} {Q : Fin → Shared → Prop} {name : Str} {tk : Tok} {v : Value} {x C tu : Addr} {cd : ClassData} (ax : hp.get? x = some (excO C tu)) (lc : Looks M hp (classData C) cd) (hh : cd.hasDict = true)
    (hq : ∀ h1 tk1 dx, (∀ b o, b ≠ x → hp.get? b = some o → h1.get? b = some o) → hp.objs.size ≤ dx → dx ≠ x → h1.get? x = some { excO C tu with dict := some dx } → h1.Ns1 dx (fun y => if y = name then some v else none) → Q (.done (.ret .none)) ⟨h1, g, d, tk1, os⟩) :
    wpAny M A (storeInOwnDict (.ref x) (.ref C) (.str name tk) name v false) Q E ⟨hp, g, d, t, os⟩ := by
  have far : hp.objs.size ≠ x := Nat.ne_of_gt (Heap.lt_size ax)
  have was := Heap.get?_push_of_some (dictOf [] 0) ax
  refine wpAny_bind (wpAny_pure (wpAny_bind (instanceDict_exc (s := ⟨hp, g, d, t, os⟩) ax lc hh (store_in_new ⟨dictOf [] 0, #[], 0, ?_, rfl, ?_, fun _ => rfl⟩ ?_))))
  · rw [Heap.get?_update_ne _ _ _ _ far]
    exact Heap.get?_push_at rfl rfl
  · intro z hz
    simp at hz
  · intro h1 tk1 holds others
    have now := Heap.get?_update_self (fun o : Obj => { o with dict := some hp.objs.size }) was rfl
    apply hq h1 tk1 hp.objs.size _ (Nat.le_refl _) far ((others.2 x far.symm).trans now) holds
    intro b o hb ho
    rw [others.2 b (Nat.ne_of_lt (Heap.lt_size ho)), Heap.get?_update_ne _ _ _ _ hb]
    (exact Heap.get?_push_of_some _ ho)
/-- self.f = v, on an exception without a dict as yet -/
theorem put_new {K : Frag} {name : Str} {tk : Tok} {v : Value} {x C tu : Addr} {cd : ClassData} {rs : List Addr} {bt : List Value} (X : K.In hp) (ax : hp.get? x = some (excO C tu)) (hcd : clsIn K C = some cd)
    (hm : cd.mro = .ref C :: mroOver rs bt) (hob : bt.contains (.type "object") = true) (hps : ∀ o : Value, refuseLoop o "__setattr__" bt = pure ()) (hh : cd.hasDict = true) (ha : findIn K (.ref C) name = some none)
    (hq : ∀ h1 tk1 dx, (∀ b o, b ≠ x → hp.get? b = some o → h1.get? b = some o) → hp.objs.size ≤ dx → dx ≠ x → h1.get? x = some { excO C tu with dict := some dx } → h1.Ns1 dx (fun y => if y = name then some v else none) → R (.ok (.ret .none)) ⟨h1, g, d, tk1, os⟩) :
    codeAny (model prog w) A (.call (.builtin "object.__setattr__") ⟨[.ref x, .str name tk, v], []⟩) R (⟨hp, g, d, t, os⟩ : Shared) := by
  have J : InstAt hp x (excO C tu) C none := ⟨ax, rfl, rfl, trivial⟩
  have store := F.store_object
  have none_ : Looks (model prog w) hp (storeTaker? none) none := .now
  have whose := looks_findIn (M := model prog w) X ha
  refine codeAny_call_builtin store.slot.plain store.entry ?_
  refine @check_slot (model prog w) _ _ ⟨hp, g, d, t, os⟩ "object.__setattr__" "object" "__setattr__" (.ref x) [.str name tk, v] [] _ store.kind store.split (over_object (rs := rs) X J hcd hm hob) (store.args (.ref x) (.str name tk) v) ?_
  rw [osa_eq]
  refine wpAny_bind ((lets_store (rs := C :: rs) X J hcd hm hps).at (wpAny_bind (J.type.at (wpAny_bind (whose.at (wpAny_bind (none_.at ?_)))))))
  exact first_name ax (looks_clsIn X hcd) hh hq
end
theorem len1 (v : Value) : [v].length ≤ sizeLine := by rw [sizeLine_eq]; exact (by decide : 1 ≤ 16777216)
/-- a local that stands -/
theorem ld_at {M : Model} {s : Shared} {q : Str} {sc : Scope} {L a : Addr} {cd : Value} {m : Str → Option Value} {x : Str} {pos : Pos} {v : Value} {Q : Value → Shared → Prop} {A : Around} {E : Value → Shared → Prop} (hn : s.heap.Ns L m) (hv : m x = some v) (hk : sc.kind = .function)
    (hl : (envOfC q sc L a cd).kindOf x = some .local) (hd : (x == ("__debug__" : Str)) = false) (h : Q v s) : wpAny M A (eval (.Name x pos) (envOfC q sc L a cd)) Q E s := wpAny_Name (wpAny_loadName_local hk hl hn hv h) hd
/-- behind the __init__ of a new exception at x -/
structure Laid (h h1 : Heap) (x C dx t : Addr) (f : Str) (v : Value) : Prop where
  keep : ∀ b o, b ≠ x → h.get? b = some o → h1.get? b = some o
  obj : h1.get? x = some { cls := .ref C, dict := some dx, data := .fields #[.ref t, .none, .none, .none, .bool false, .none] }
  big : h.objs.size ≤ dx
  ne : dx ≠ x
  ns : h1.Ns1 dx (fun y => if y = f then some v else none)
structure Done (h h1 : Heap) (e C dx : Addr) (f : Str) (v : Value) : Prop where
  keep : ∀ b o, h.get? b = some o → h1.get? b = some o
  new : h.objs.size ≤ e
  obj : ∃ oe vs, h1.get? e = some oe ∧ oe.cls = .ref C ∧ oe.dict = some dx ∧ oe.data = .fields vs ∧ vs[1]? = some .none
  big : h.objs.size ≤ dx
  ne : dx ≠ e
  ns : h1.Ns1 dx (fun y => if y = f then some v else none)
section
variable {w : World} {prog : Program} {A : Around} {E : Value → Shared → Prop} {R : Result → Shared → Prop} {s : Shared} {K : Frag} {mg : Str → Option Value} {C fI : Addr} {x f : Str} {B newId initId : String} {bt : List Value}
theorem own_init (T : Own K mg x f C fI newId bt) (D : Fld f) (hob : bt.contains (.type "object") = true) (hps : ∀ o : Value, refuseLoop o "__setattr__" bt = pure ()) {e t : Addr} {v : Value} (X : K.In s.heap) (lim : s.heap.NoLimit)
    (ax : s.heap.get? e = some (excO C t)) (nx : K.lookup e = none) (room : A.depth < recursionLimit) (hq : ∀ h1 tk dx, Laid s.heap h1 e C dx t f v → R (.ok (.ret .none)) { s with heap := h1, toks := tk }) :
    codeAny (model prog w) A (.call (.ref fI) ⟨[.ref e, v], []⟩) R s := by
  obtain ⟨oc, od, q, doc, pm, an, cdv, ct, osl, p, p', q1, q2, q3, q4, lk, hcd⟩ := T.fn
  obtain ⟨nm, qc, N, bs, sn, sub, ab, col, dd, k0, k1, k2, k3, k5, rs, hC⟩ := T.cls
  have hcl : clsIn K C = some { name := nm, bases := bs, mro := .ref C :: mroOver rs bt, ns := N, qualname := qc, hasDict := true, slotNames := sn, subclasses := sub, abstract := ab, collection := col, hasDel := false } := by unfold clsIn; rw [hC] <;> rfl
  refine Att.call_fn (binds := [("self", .ref e), (f, v)]) X lim lk hcd room (D.binds _ _ _ _ _ _ _ _ _ _ _ _ _ _ _) (D.kinds _ _) (fun s1 IC => ?_) rfl rfl rfl
  obtain ⟨h1, tk1, rfl⟩ := IC.toInCall.same
  have kk : ∀ b o, s.heap.get? b = some o → h1.get? b = some o := IC.toInCall.keep
  have hn := IC.toInCall.ns
  have ax1 := kk _ _ ax
  have X1 : K.In h1 := X.keeps kk
  show wpAny (model _ _) _ (execs _ _) _ _ _
  refine wpAny_execs_cons (plainObj_wpAny_Assign_Attribute (?_))
  refine ld_at (v := v) hn (D.vFld _ _ _ _ _ _) rfl (D.kFld _ _ _ _) D.dbg (ld_at (v := .ref e) hn (D.vSelf _ _ _ _ _ _) rfl (D.kSelf _ _ _ _) (by decide) ?_)
  refine set_plain X1 (ox := excO C t) (od := none) ⟨ax1, rfl, rfl, trivial⟩ T.sa ?_
  refine put_new X1 ax1 hcl rfl hob hps rfl T.noN (fun h3 tk3 dx k3 dn dne ax3 hn3 => ?_)
  show wpAny (model _ _) _ (execs _ _) _ _ _
  have z : s.heap.objs.size < h1.objs.size := hn.lt
  exact wpAny_execs_nil (hq h3 tk3 dx ⟨fun b o hb o1 => k3 b o hb (kk b o o1), ax3, Nat.le_of_lt (Nat.lt_of_lt_of_le z dn), dne, hn3⟩)
theorem own_made (F : ExcBaseFacts B newId initId bt) (T : Own K mg x f C fI newId bt) (D : Fld f) (hob : bt.contains (.type "object") = true) (hps : ∀ o : Value, refuseLoop o "__setattr__" bt = pure ()) {v : Value} (X : K.In s.heap) (lim : s.heap.NoLimit)
    (room : A.depth + 1 < recursionLimit) (hq : ∀ h1 tk e dx, Done s.heap h1 e C dx f v → R (.ok (.ret (.ref e))) { s with heap := h1, toks := tk }) : codeAny (model prog w) A (.call (.ref C) ⟨[v], []⟩) R s := by
  obtain ⟨nm, qc, N, bs, sn, sub, ab, col, dd, k0, k1, k2, k3, k5, rs, hC⟩ := T.cls
  obtain ⟨hp, g, dr, tk, os⟩ := (s)
  have kk : ∀ b o, hp.get? b = some o → ((hp.push (kdv_tup [v])).push (excO C hp.objs.size)).get? b = some o := fun b o z => Heap.get?_push_of_some _ (Heap.get?_push_of_some _ z)
  have at_ : ((hp.push (kdv_tup [v])).push (excO C hp.objs.size)).get? (hp.objs.size + 1) = some (excO C hp.objs.size) := by heap_get
  have nK : K.lookup (hp.objs.size + 1) = none := by
    cases z : K.lookup (hp.objs.size + 1) with
    | none => rfl
    | some o => exact absurd (Nat.lt_of_succ_lt (Heap.lt_size (X _ _ z))) (Nat.lt_irrefl _)
  refine call_own F (fun T => mro_has T rs) (X _ _ hC) (looks_findIn X T.iC) (fun o => bind_fn X o T.tC) (len1 v) ?_
  refine own_init (s := ⟨(hp.push (kdv_tup [v])).push (excO C hp.objs.size), g, dr, tk, os⟩) T D hob hps (X.keeps kk) (lim.keeps kk) at_ nK (by show A.depth + 1 < recursionLimit; exact room) fun h1 tk1 dx L => ?_
  have old : ∀ b o, hp.get? b = some o → h1.get? b = some o := fun b o z => L.keep b o (Nat.ne_of_lt (Nat.lt_succ_of_lt (Heap.lt_size z))) (kk b o z)
  have big : hp.objs.size + 1 + 1 ≤ dx := by
    have q := L.big
    first
      | exact q
      | (rw [Heap.size_push, Heap.size_push] at q; exact q)
      | (simpa only [Heap.size_push] using q)
  exact ⟨rfl, hq h1 tk1 (hp.objs.size + 1) dx ⟨old, Nat.le_succ _, ⟨_, _, L.obj, rfl, rfl, rfl, rfl⟩, Nat.le_trans (Nat.le_trans (Nat.le_succ _) (Nat.le_succ _)) big, L.ne, L.ns⟩⟩
end
theorem rel_fld {f : Str} (D : Fld f) {v : V} {u : Value} (r : RelV v u) (y : Str) : RelO (List.lookup y [(f, v)]) (if y = f then some u else none) := by
  by_cases h : y = f
  · subst h
    rw [if_pos rfl, D.look]
    exact r
  · rw [if_neg h]
    have q : (y == f) = false := by simpa using h
    have q2 : List.lookup y [(f, v)] = none := by simp [List.lookup, q]
    rw [q2]
    trivial
section
variable {X : Cx} {x f : Str} {C fI : Addr} {B newId initId : String} {bt : List Value}
/-- x(e) -/
def tMade (f : Str) (C : Addr) (ta : TA) : L2.St → Hp → XK → Prop := fun σ H Q => ta σ H fun vs H1 => ∃ v, vs = [v] ∧ ∀ d, H1 d = none → Q (.ref C) (some d) (upd H1 d (.xd [(f, v)]))
theorem pmk_made {a : Expr} {ta : TA} {p pos : Pos} {k : Nat} (F : ExcBaseFacts B newId initId bt) (T : Own X.K X.mg x f C fI newId bt) (D : Fld f) (hob : bt.contains (.type "object") = true) (hps : ∀ o : Value, refuseLoop o "__setattr__" bt = pure ())
    (hr : Room k X.A) (ha : PA X [a] ta) (hg : Gl X x) (hdb : (x == ("__debug__" : Str)) = false) (he : starEach (a :: []) X.env = (false, eval a X.env) :: starEach [] X.env) (hpl : (backTo pos (starEach [] X.env)).any (·.1) = false) :
    PMk X (.Call (.Name x p) [a] [] pos) (tMade f C ta) := by
  intro pins s σ H Q I h
  refine wpAny_Call_Name_kw (ld_glob I hg T.gC ?_ hdb)
  refine callWith_K (h₀ := X.base) I.ok.mod.kin T.kC (thn (ha.run pos pins s σ H _ I h) fun us s1 hh => ?_) he hpl
  obtain ⟨vs, H1, I1, r1, v, rfl, q1⟩ := hh
  refine ⟨I1.kIn, ?_⟩
  cases r1 with
  | cons rv rn =>
    rename_i u us'
    cases rn
    have lim := I1.nolimit
    show wpAny (model _ _) _ (call (.ref C) [u]) _ _ _
    obtain ⟨hp, g, dr, tk, os⟩ := (s1)
    refine wpAny_call (own_made F T D hob hps I1.kIn lim (by have := hr.dp; omega) fun h1 tk1 e d M => ?_)
    show MkP X pins σ Q (.ref e) ⟨h1, g, dr, tk1, os⟩
    obtain ⟨oe, fv, hoe, hc, hd, hdat, hn1⟩ := M.obj
    obtain ⟨G1, g1, g2⟩ := restrict h1 fun b => decide (b ≠ e)
    have same : ∀ b, b ≠ e → G1.get? b = h1.get? b := fun b hb => g1 b (decide_eq_true hb)
    have gone : G1.get? e = none := g2 e (by simp)
    have old : ∀ b o, hp.get? b = some o → G1.get? b = some o := fun b o q => (same b (Nat.ne_of_lt (Nat.lt_of_lt_of_le (Heap.lt_size q) M.new))).trans (M.keep b o q)
    have ob : ObjOk X.prog X.w (upd H1 d (.xd [(f, v)])) G1 d (.xd [(f, v)]) := ⟨_, M.ns.at (fun o q => (same d M.ne).trans q), fun y => rel_fld D rv y⟩
    have J : Inv X pins σ (upd H1 d (.xd [(f, v)])) ⟨G1, g, dr, tk1, os⟩ := I1.laid (t' := tk1) old M.big ob
    refine ⟨e, oe, fv, ⟨G1, g, dr, tk1, os⟩, _, .ref C, some d, rfl, J, fun b o q => ?_, gone, hoe, ⟨hc, hd⟩, hdat, hn1, ?_, rfl, I1.bare, raises_own T.exC T.tyC, q1 d (I1.hok.fresh M.big)⟩
    · have q : G1.get? b = some o := q
      by_cases hb : b = e
      · rw [hb, gone] at q
        cases q
      · exact (same b hb).symm.trans q
    · rw [upd_ne (Ne.symm M.ne)]
      exact I1.hok.fresh M.new
end
end TO
set_option Elab.async false
set_option linter.all false
set_option maxRecDepth 100000
set_option maxHeartbeats 4100000
namespace TD
open PySem L2 PySem.Spec PyProof.Rows
open Evl (Ex ex_l ex_t fresh_back sq_of st_of sz_of sz_lt)
def rRep (K : PySem.W.Frag) : List V → Hp → VK → Prop := fun xs H Q => ∃ (v : V) (d : Dt), xs = [v] ∧ Dp K H v d ∧ d.showable = true ∧ d.hasDict = false ∧ d.depth ≤ 20 ∧ d.shown.length ≤ sizeLine ∧ Q (.str d.shown) H
theorem call_rep {X : Cx} {K : PySem.W.Frag} (hg : X.A.guards = some []) (hu : X.A.units + 64 < cLine) (h3 : X.K = K := by rfl) : CallR X (.builtin "repr") (rRep K) := by
  subst h3
  rintro pins s σ H xs us Q I r ⟨v, d, rfl, hd, h1, h2, hdp, hz, q⟩
  obtain ⟨u, rfl, ru⟩ := (vals1 r)
  obtain ⟨as, hR⟩ := Dp.reads I d v u hd ru
  have go : ∀ {a : Addr}, u = .ref a → wpAny (model X.prog X.w) X.A (call (.builtin "repr") [u]) (EP X pins σ Q) X.xe s := fun {a} e => by
    subst e
    exact PySem.repr_of_reads' hR h1 (PyData.noDict_hsm h2) hg (by omega) (fun _ _ z => z) (fun h' w' tk hk => ⟨.str _, H, I.kept hk, ⟨_, rfl⟩, q⟩) hz
  cases hd with
  | non =>
    cases ru
    exact PySem.P.repr_of_none ⟨.str _, H, I.tok _, ⟨_, rfl⟩, q⟩
  | bl c =>
    cases ru
    exact PySem.P.repr_of_bool ⟨.str _, H, I.tok _, ⟨_, rfl⟩, q⟩
  | int i =>
    obtain ⟨t, rfl⟩ := ru
    exact PySem.P.repr_of_int (by unfold PyData.showable at h1; exact of_decide_eq_true h1) ⟨.str _, H, I.tok _, ⟨_, rfl⟩, q⟩
  | str x =>
    obtain ⟨t, rfl⟩ := ru
    exact PySem.P.repr_of_str ⟨.str _, H, I.tok _, ⟨_, rfl⟩, q⟩ hz
  | lst hs ha =>
    cases ru
    exact go rfl
  | tup hs ha =>
    cases ru
    exact go rfl
/-- what may be shown -/
def ShowOk (d : Dt) : Prop := flatD d = true ∧ d.showable = true ∧ d.hasDict = false ∧ d.depth ≤ 20 ∧ d.shown.length ≤ sizeLine
section
variable [TabW] {K : PySem.W.Frag} {b : Addr} {ρ : Rho} {β β1 : Bag} {te : TE} {d : Dt}
theorem d_repr (h : EvB K te ρ β d β1) (hs : ShowOk d) : EvB K (tCB (rRep K) (tCons te tNil)) ρ β (.str d.shown) β1 := d_c1 h fun b G H v Q e dv k =>
  ⟨v, d, rfl, dv.dp e hs.1, hs.2.1, hs.2.2.1, hs.2.2.2.1, hs.2.2.2.2, k _ G H (Step.refl e) (.str _)⟩
end
structure RoomG (k : Nat) (A : Around) : Prop extends Room k A where
  gd : A.guards = some []
theorem RoomG.mono {j k : Nat} {A : Around} (r : RoomG k A) (h : j ≤ k) : RoomG j A := ⟨r.toRoom.mono h, r.gd⟩
theorem RoomG.deeper {k : Nat} {A : Around} (r : RoomG (k + 1) A) (env : Env) : RoomG k (A.deeper env) := ⟨r.toRoom.deeper env, r.gd⟩
/-- a def's promise, kept where nothing is being shown -/
structure FnOkG (P : Program) (w : World) (K : PySem.W.Frag) (mg : Str → Option Value) (base : Heap) (CX : CXT) (k : Nat) (f : Addr) (fd : FuncData) (ps : List Str) (sp : Sp) : Prop where
  (len : (∀ vs H Q E, sp vs H Q E → vs.length = ps.length))
  run : ∀ (A : Around) (outer : List Env) (s : Shared) (H : Hp) (args : Args) (us : List Value) (vs : List V) (Q : VK) (E : XK), RoomG k A → Env0 P w K mg base A outer s H → BindsTo s fd args (ps.zip us) → Vals vs us → sp vs H Q E →
    codeAny (model P w) A (Code.call (.ref f) args) (CR CX outer P w H s Q E) s
section
variable {X : Cx} {CX : CXT} {k : Nat} {f : Addr} {fd : FuncData} {ps : List Str} {sp : Sp} {E : XK} {x : Str} {p pos : Pos} {e : Expr} {es : List Expr} {t : TA}
theorem pe_callG (F : FnOkG X.prog X.w X.K X.mg X.base CX k f fd ps sp) (hr : RoomG k X.A) (hg : Gl X x) (hm : X.mg x = some (.ref f)) (hk : PySem.W.keepIn X.K (.ref f) = true) (hb : Binds X.K fd ps []) (hx : Passes CX X E)
    (ha : PA X (e :: es) t) (hdb : (x == ("__debug__" : Str)) = false) (he : starEach (e :: es) X.env = (false, eval e X.env) :: starEach es X.env) (hpl : (backTo pos (starEach es X.env)).any (·.1) = false) : PE X (.Call (.Name x p) (e :: es) [] pos) (tCall sp [] E t) := by
  refine ⟨fun pins s σ H Q I h => wpAny_Call_Name_kw (ld_glob I hg hm ?_ hdb)⟩
  refine PySem.W.callWith_K (h₀ := X.base) I.ok.mod.kin hk (thn (ha.run pos pins s σ H _ I h) fun us t1 hh => ?_) he hpl
  obtain ⟨vs, H1, I1, rv, q⟩ := hh
  have hl : (us ++ []).length = ps.length := by rw [List.append_nil, ← rv.length, ← List.append_nil vs]; exact F.len _ _ _ _ q
  have rv2 : Vals (vs ++ []) (us ++ []) := by rw [List.append_nil, List.append_nil]; exact rv
  refine ⟨I1.kIn, wpAny_call (codeAny_mono (F.run X.A X.stack t1 H1 ⟨us, []⟩ (us ++ []) (vs ++ []) Q E hr I1.env0 (hb t1 us I1.kIn hl) rv2 q) fun r t2 hq => ?_)⟩
  cases r with
  | error u => exact hx pins σ H1 t1 u t2 I1 hq
  | ok fl =>
    cases fl with
    | ret u => exact I1.after hq
    | _ => exact hq.elim
end
abbrev Kept := Option (Str × Dt)
inductive Res where
  | ok (d : Dt)
  | ex (C : Addr) (k : Kept)
/-- how what is kept lies -/
def KeptAt (K : PySem.W.Frag) (G : Hp) : Option Addr → Kept → Prop
  | dx, none => dx = none
  | dx, some (f, d) => ∃ (a : Addr) (v : V), dx = some a ∧ G a = some (.xd [(f, v)]) ∧ Den K G v d
section
variable [TabW]
/-- the wish E takes the error -/
def ExTo (K : PySem.W.Frag) (b : Addr) (m : Bool) (β' : Bag) (G H : Hp) (E : XK) (C : Addr) (k : Kept) : Prop := ∀ dx G' H', Step b m G H G' H' → BagOk b β' G' H' → KeptAt K G' dx k → E (.ref C) dx H'
structure EvR (K : PySem.W.Frag) (E : XK) (te : TE) (ρ : Rho) (β : Bag) (C : Addr) (k : Kept) (β' : Bag) : Prop where
  som : β'.isSome = β.isSome
  run : ∀ (b : Addr) (G H : Hp) (σ : L2.St) (Q : VK), EnvD K b β G H σ ρ → ExTo K b β.isSome β' G H E C k → te σ H Q
structure StR (K : PySem.W.Frag) (E : XK) (ts : TS) (ρ : Rho) (β : Bag) (C : Addr) (k : Kept) (β' : Bag) : Prop where
  som : β'.isSome = β.isSome
  run : ∀ (b : Addr) (G H : Hp) (σ : L2.St) (D : Ends), EnvD K b β G H σ ρ → ExTo K b β.isSome β' G H E C k → ts D σ H
end
section
variable [TabW] {K : PySem.W.Frag} {b : Addr} {ρ ρ1 : Rho} {β β1 β2 : Bag} {ta tb te : TE} {tt : TT} {ts tu tw : TS} {tl : TA} {d x : Dt} {G H G1 H1 : Hp} {E : XK} {C : Addr} {k : Kept} {c : Bool} {s : Slot}
theorem ExTo.of {m : Bool} (h : ExTo K b m β1 G H E C k) (s : Step b m G H G1 H1) : ExTo K b m β1 G1 H1 E C k := fun dx G' H' s' kb ka => h dx G' H' (s.trans s') kb ka
theorem stR_ret (h : EvR K E te ρ β C k β1) : StR K E (tRet te) ρ β C k β1 := ⟨h.som, fun b G H σ D e w => h.run b G H σ _ e w⟩
theorem stR_drop (h : EvR K E te ρ β C k β1) : StR K E (tDrop te) ρ β C k β1 := ⟨h.som, fun b G H σ D e w => h.run b G H σ _ e w⟩
theorem stR_seq (h : StR K E tu ρ β C k β1) : StR K E (tSeq tu tw) ρ β C k β1 := ⟨h.som, fun b G H σ D e w => h.run b G H σ _ e w⟩
theorem stR_then (h : StB K tu ρ β (.nx ρ1) β1) (h' : StR K E tw ρ1 β1 C k β2) : StR K E (tSeq tu tw) ρ β C k β2 := ⟨h'.som.trans h.som, fun b G H σ D e w => h.run b G H σ { D with nx := tw D } e fun σ1 G1 H1 s1 E1 =>
  h'.run b G1 H1 σ1 D E1 (by rw [h.som]; exact w.of s1)⟩
theorem stR_if (h : TtB K tt ρ β c β1) (h1 : c = true → StR K E tu ρ β1 C k β2) (h2 : c = false → StR K E tw ρ β1 C k β2) : StR K E (tIfS tt tu tw) ρ β C k β2 := by
  cases c with
  | true =>
    refine ⟨(h1 rfl).som.trans h.som, fun b G H σ D e w => h.run b G H σ _ e fun G1 H1 s1 k1 => ?_⟩
    rw [if_pos rfl]
    exact (h1 rfl).run b G1 H1 σ D (e.step s1 k1) (by rw [h.som]; exact w.of s1)
  | false =>
    refine ⟨(h2 rfl).som.trans h.som, fun b G H σ D e w => h.run b G H σ _ e fun G1 H1 s1 k1 => ?_⟩
    rw [if_neg (Bool.false_ne_true)]
    exact (h2 rfl).run b G1 H1 σ D (e.step s1 k1) (by rw [h.som]; exact w.of s1)
theorem stR_ifT (h : TtB K tt ρ β true β1) (h1 : StR K E tu ρ β1 C k β2) : StR K E (tIfS tt tu tw) ρ β C k β2 := stR_if h (fun _ => h1) fun z => by cases z
/-- raise x(e), of a class that keeps e in the field f -/
def tRaiseK (f : Str) (C : Addr) (E : XK) (ta : TA) : TS := fun _ σ H => TO.tMade f C ta σ H fun cls d H' => E cls d H'
/-- raise x('..') -/
def tRaise0 (C : Addr) (E : XK) : TS := fun _ _ H => E (.ref C) none H
theorem st_raiseK {f : Str} (h : EvB K te ρ β d β1) : StR K E (tRaiseK f C E (tCons te tNil)) ρ β C (some (f, d)) β1 := ⟨h.som, fun b G H σ D e w => h.run b G H σ _ e fun v G1 H1 s1 k1 dv =>
  ⟨v, rfl, fun a ha => by
    have n := Step.new (b := b) (m := false) (o := .xd [(f, v)]) s1.s ha
    exact w (some a) _ _ (s1.trans n.up) (k1.same n) ⟨a, v, rfl, upd_same, dv.mono n.g⟩⟩⟩
theorem st_raise0 : StR K E (tRaise0 C E) ρ β C none β := ⟨rfl, fun b G H σ D e w => w none G H (Step.refl e.sub) e.bagk rfl⟩
end
abbrev FX := List Slot → Bag → Res → Bag → Prop
section
variable [TabW]
def ToRes (K : PySem.W.Frag) (b : Addr) (m : Bool) (β' : Bag) (G H : Hp) (Q : VK) (E : XK) : Res → Prop
  | .ok r => ∀ v G' H', Step b m G H G' H' → BagOk b β' G' H' → Den K G' v r → Q v H'
  | .ex C k => ExTo K b m β' G H E C k
def spX (K : PySem.W.Frag) (R : FX) : Sp := fun vs H Q E => ∃ (b : Addr) (G : Hp) (β : Bag) (as : List Slot) (r : Res) (β' : Bag), Ex G H ∧ TabsOk G H ∧ BagOk b β G H ∧ DenSs K b G vs as ∧ R as β r β' ∧ β'.isSome = β.isSome ∧ ToRes K b β.isSome β' G H Q E r
inductive BodyX (K : PySem.W.Frag) (E : XK) (t : TS) (ρ : Rho) (β : Bag) (β' : Bag) : Res → Prop
  | ok {r : Dt} : BodyR K t ρ β r β' → BodyX K E t ρ β β' (.ok r)
  | ex {C : Addr} {k : Kept} : StR K E t ρ β C k β' → BodyX K E t ρ β β' (.ex C k)
structure FnX (P : Program) (w : World) (K : PySem.W.Frag) (mg : Str → Option Value) (base : Heap) (k : Nat) (x : Str) (ps : List Str) (R : FX) : Prop where
  ex : ∃ (f : Addr) (fd : FuncData), mg x = some (.ref f) ∧ FnOk P w K mg base (L2.CX P w) k f fd ps (spX K R) ∧ Binds K fd ps [] ∧ PySem.W.keepIn K (.ref f) = true
/-- a def that wants to know that nothing is being shown -/
structure FnH (P : Program) (w : World) (K : PySem.W.Frag) (mg : Str → Option Value) (base : Heap) (k : Nat) (x : Str) (ps : List Str) (R : FR) : Prop where
  ex : ∃ (f : Addr) (fd : FuncData), mg x = some (.ref f) ∧ FnOkG P w K mg base CX0 k f fd ps (spR K R) ∧ Binds K fd ps [] ∧ PySem.W.keepIn K (.ref f) = true
end
section
variable [TabW] {P : Program} {w : World} {K : PySem.W.Frag} {mg : Str → Option Value} {base : Heap} {X : Cx} {k : Nat} {x : Str} {ps : List Str} {R : FX} {R' : FR} {q pos : Pos} {e : Expr} {es : List Expr} {t : TA} {E : XK}
theorem pe_fnX (F : FnX P w K mg base k x ps R) (hr : Room k X.A) (hx : Passes (L2.CX X.prog X.w) X E) (ha : PA X (e :: es) t) (h1 : X.prog = P := by rfl) (h2 : X.w = w := by rfl) (h3 : X.K = K := by rfl) (h4 : X.mg = mg := by rfl) (h5 : X.base = base := by rfl)
    (hg : Gl X x := by rfl) (hdb : (x == ("__debug__" : Str)) = false := by decide) (hs : starEach (e :: es) X.env = (false, eval e X.env) :: starEach es X.env := by rfl)
    (hp : (backTo pos (starEach es X.env)).any (·.1) = false := by rfl) : PE X (.Call (.Name x q) (e :: es) [] pos) (tCall (spX K R) [] E t) := by
  obtain ⟨f, fd, hm, hf, hb, hk⟩ := F.ex
  subst h1 h2 h3 h4 h5
  exact pe_call hf hr hg hm hk hb .nil hx ha hdb hs hp
theorem pe_fnH (F : FnH P w K mg base k x ps R') (hr : RoomG k X.A) (ha : PA X (e :: es) t) (h1 : X.prog = P := by rfl) (h2 : X.w = w := by rfl) (h3 : X.K = K := by rfl) (h4 : X.mg = mg := by rfl) (h5 : X.base = base := by rfl)
    (hg : Gl X x := by rfl) (hdb : (x == ("__debug__" : Str)) = false := by decide) (hs : starEach (e :: es) X.env = (false, eval e X.env) :: starEach es X.env := by rfl)
    (hp : (backTo pos (starEach es X.env)).any (·.1) = false := by rfl) : PE X (.Call (.Name x q) (e :: es) [] pos) (tCall (spR K R') [] E0 t) := by
  obtain ⟨f, fd, hm, hf, hb, hk⟩ := F.ex
  subst h1 h2 h3 h4 h5
  exact pe_callG hf hr hg hm hk hb pass0 ha hdb hs hp
end
section
variable [TabW] {P : Program} {w : World} {K : PySem.W.Frag} {mg : Str → Option Value} {base : Heap} {k : Nat} {x : Str} {st : Stmt} {N ps : List Str} {R : FX} {R' : FR}
theorem fnX_read {t : TS} {vs : List V} {H : Hp} {Q : VK} {E : XK} (h : ∀ as β r β', R as β r β' → BodyX K E t (startR N as) β β' r) (hsp : spX K R vs H Q E) : t { nx := fun _ H' => Q .non H', rt := Q } (L2.start N vs) H := by
  obtain ⟨b, G, β, as, r, β', e, tb, kb, ha, hR, hm, kk⟩ := hsp
  have E0 := start_env (N := N) e tb kb ha
  cases h _ _ _ _ hR with
  | ok hb =>
    cases hb with
    | ret hb => exact hb.run b G H _ _ E0 fun v G' H' s' k' d' => kk v G' H' s' k' d'
    | fall ρ' hb hr =>
      subst hr
      exact hb.run b G H _ _ E0 fun σ' G' H' s' e' => kk .non G' H' s' e'.bagk .non
  | ex hb => exact hb.run b G H _ _ E0 kk
theorem fnX_mk (F : DefAt K x st) (hX : K.In base) (hG : base.Ns mainGlobals mg) (S : FnScope N ps (defScope st)) (hlen : ∀ as β r β', R as β r β' → as.length = ps.length)
    (hb : ∀ (f : Addr) (kV doc pm : Value) (an : Option Addr) (cdv ct : Value) (us : List Value), us.length = ps.length → bindArgs (PySem.W.fnOf x x (defArgs st) (defBody st) (defScope st) .none kV doc pm an cdv ct) ⟨us, []⟩ = pure (ps.zip us))
    (hbody : ∀ (f : Addr) (cdv : Value) (A : Around) (outer : List PySem.Env) (s : Shared) (H : Hp) (E : XK), Room k (A.deeper (envOfC x (defScope st) s.heap.objs.size f cdv)) →
      ∃ t, PSs (cxOf (L2.CX P w) P w K mg base N x (defScope st) f cdv A outer s H E) (defBody st) t ∧ ∀ as β r β', R as β r β' → BodyX K E t (startR N as) β β' r) : FnX P w K mg base (k + 1) x ps R := by
  obtain ⟨f, fd, ha, hF⟩ := F.ex
  refine ⟨f, fd, PySem.W.mg_of hX hG ha, ?_, hF.binds (hb f), hF.kp⟩
  refine hF.okX S (fun vs H Q E hsp => ?_) fun cdv A outer s H vs Q E hr hsp => ?_
  · obtain ⟨b, G, β, as, r, β', _, _, _, hd, hR, _⟩ := hsp
    rw [hd.length]
    exact hlen _ _ _ _ hR
  · obtain ⟨t, h1, h2⟩ := hbody f cdv A outer s H E hr
    exact ⟨t, h1, fnX_read h2 hsp⟩
theorem fnG_ok {sp : Sp} {f : Addr} {fd : FuncData} (hF : Fun K x x st f fd) (S : FnScope N ps (defScope st)) (hlen : ∀ vs H Q E, sp vs H Q E → vs.length = ps.length)
    (hbody : ∀ (cdv : Value) (A : Around) (outer : List PySem.Env) (s : Shared) (H : Hp) (vs : List V) (Q : VK) (E : XK), RoomG k (A.deeper (envOfC x (defScope st) s.heap.objs.size f cdv)) → sp vs H Q E →
      ∃ t, PSs (cxOf CX0 P w K mg base N x (defScope st) f cdv A outer s H E).nox (defBody st) t ∧ t { nx := fun _ H' => Q .non H', rt := Q } (L2.start N vs) H) : FnOkG P w K mg base CX0 (k + 1) f fd ps sp := by
  obtain ⟨oc, od, kV, doc, pm, an, cdv, ct, osl, rfl, lk, hcd⟩ := hF.ex
  refine ⟨hlen, fun A outer s H args us vs Q E hr e0 hb rv hsp => LamX.run_ofS lk hcd S hr.toRoom e0 hb rv (hlen _ _ _ _ hsp) fun _ => ?_⟩
  obtain ⟨t, h1, h2⟩ := hbody cdv A outer s H vs Q E (hr.deeper _) hsp
  exact ⟨t, h1.nox, h2⟩
theorem fnH_mk (F : DefAt K x st) (hX : K.In base) (hG : base.Ns mainGlobals mg) (S : FnScope N ps (defScope st)) (hlen : ∀ as β r β', R' as β r β' → as.length = ps.length)
    (hb : ∀ (f : Addr) (kV doc pm : Value) (an : Option Addr) (cdv ct : Value) (us : List Value), us.length = ps.length → bindArgs (PySem.W.fnOf x x (defArgs st) (defBody st) (defScope st) .none kV doc pm an cdv ct) ⟨us, []⟩ = pure (ps.zip us))
    (hbody : ∀ (f : Addr) (cdv : Value) (A : Around) (outer : List PySem.Env) (s : Shared) (H : Hp) (E : XK), RoomG k (A.deeper (envOfC x (defScope st) s.heap.objs.size f cdv)) →
      ∃ t, PSs (cxOf CX0 P w K mg base N x (defScope st) f cdv A outer s H E).nox (defBody st) t ∧ ∀ as β r β', R' as β r β' → BodyR K t (startR N as) β r β') : FnH P w K mg base (k + 1) x ps R' := by
  obtain ⟨f, fd, ha, hF⟩ := F.ex
  refine ⟨f, fd, PySem.W.mg_of hX hG ha, ?_, hF.binds (hb f), hF.kp⟩
  refine fnG_ok hF S (fun vs H Q E hsp => ?_) fun cdv A outer s H vs Q E hr hsp => ?_
  · obtain ⟨b, G, β, as, r, β', _, _, _, hd, hR, _⟩ := hsp
    rw [hd.length]
    exact hlen _ _ _ _ hR
  · obtain ⟨t, h1, h2⟩ := hbody f cdv A outer s H E hr
    exact ⟨t, h1, fn_read h2 hsp⟩
end
section
variable [TabW] {K : PySem.W.Frag} {ρ : Rho} {β β1 β2 : Bag} {t : TA} {E : XK} {as : List Slot} {R : FX} {r : Dt} {C : Addr} {k : Kept}
theorem x_raise0 (ha : EvA K t ρ β as β1) (hR : R as none (.ex C k) none) : EvR K E (tCall (spX K R) [] E t) ρ β C k β1 := by
  refine ⟨ha.som, fun b G H σ Q E' kk => ha.run b G H σ _ E' fun vs G1 H1 s1 k1 d1 => ?_⟩
  rw [List.append_nil]
  exact ⟨b, G1, none, as, .ex C k, none, s1.s, (E'.step s1 k1).tabs, (fun _ z => nomatch z), d1, hR, rfl, fun dx G2 H2 s2 k2 ka => kk dx G2 H2 (s1.trans s2.up) (k1.same s2) ka⟩
end
end TD
set_option Elab.async false
set_option linter.all false
set_option maxRecDepth 100000
set_option maxHeartbeats 4100000
namespace TD
open PySem L2 PySem.Spec PyProof.Rows LamX
open Evl (Ex ex_l ex_t fresh_back sq_of st_of sz_of sz_lt)
/-- what a clause tells: a text; or a text and what repr makes of the error's field -/
inductive Tell where
  | lit (s : Str)
  | fld (pre f : Str)
abbrev Clauses := List (Addr × Tell)
def ShowAt (K : PySem.W.Frag) (H : Hp) (v : V) (t : Str) : Prop := ∃ d : Dt, Dp K H v d ∧ d.showable = true ∧ d.hasDict = false ∧ d.depth ≤ 20 ∧ d.shown.length ≤ sizeLine ∧ t = d.shown
/-- the wish about what is raised in it -/
def tellX (K : PySem.W.Frag) (Q : VK) : Clauses → XK
  | [] => fun _ _ _ => False
  | (c, .lit s) :: r => fun cls d H => ∃ b, PySem.W.exmOne K cls (.ref c) = some b ∧ (b = true → Q (.str s) H) ∧ (b = false → tellX K Q r cls d H)
  | (c, .fld pre f) :: r => fun cls d H => ∃ b, PySem.W.exmOne K cls (.ref c) = some b ∧ (b = true → cls = .ref c ∧ ∃ (dd : Addr) (fs : List (Str × V)) (v : V) (t : Str), d = some dd ∧ H dd = some (.xd fs) ∧ fs.lookup f = some v ∧ ShowAt K H v t ∧ pre.length + t.length ≤ sizeLine ∧ Q (.str (pre ++ t)) H) ∧
      (b = false → tellX K Q r cls d H)
/-- what it makes of the call's reading -/
def TTell (K : PySem.W.Frag) (l : Clauses) (fine : Str) : (XK → Hp → VK → Prop) → Hp → VK → Prop := fun tl H Q => tl (tellX K Q l) H (fun _ H' => Q (.str fine) H')
abbrev rAddS : R2 := fun x y H Q => ∃ i j, x = .str i ∧ y = .str j ∧ i.length + j.length ≤ sizeLine ∧ Q (.str (i ++ j)) H
def suT (K : PySem.W.Frag) (C : Addr) : Tell → Addr → Value → Option Addr → TS
  | .lit s => fun _ _ _ => tRet (tC (.str s))
  | .fld pre f => fun a k d => tRet (tOp rAddS (tC (.str pre)) (tCB (rRep K) (tCons (tXf a k d C f (tVar 1)) tNil)))
def nmT : Tell → Option Nat
  | .lit _ => none
  | .fld _ _ => some 1
def clT (K : PySem.W.Frag) : Clauses → List Cl
  | [] => []
  | (c, t) :: r => (.ref c, nmT t, suT K c t) :: clT K r
theorem clT_run {K : PySem.W.Frag} {Q : VK} {D : Ends} (hQ : D.rt = Q) : ∀ {l : Clauses} {cls : Value} {d : Option Addr} {σ : L2.St} {H : Hp}, tellX K Q l cls d H → wNames K 2 (fun _ _ _ _ => False) D (clT K l) cls d σ H
  | [], _, _, _, _, h => h
  | (c, .lit s) :: r, cls, d, σ, H, ⟨b, h1, h2, h3⟩ => ⟨b, h1, fun hb _ a _ => by
    show (endN D none).rt (.str s) H
    unfold endN
    rw [hQ]
    exact h2 hb, fun hb => clT_run hQ (h3 hb)⟩
  | (c, .fld pre f) :: r, cls, d, σ, H, ⟨b, h1, h2, h3⟩ => ⟨b, h1, fun hb hl a _ => by
    obtain ⟨e, dd, fs, v, t, ed, ea, lk, ⟨dt, hd, s1, s2, s3, s4, et⟩, hz, q⟩ := h2 hb
    have q1 : (σ.set 1 (some (V.ref a)))[1]? = some (some (.ref a)) := List.getElem?_set_self (by omega)
    refine ⟨_, q1, rfl, e, dd, fs, v, ed, ea, lk, v, dt, rfl, hd, s1, s2, s3, s4, pre, dt.shown, rfl, rfl, by rw [← et]; exact hz, ?_⟩
    show (endN D (some 1)).rt _ H
    unfold endN
    rw [hQ, ← et]
    exact q, fun hb => clT_run hQ (h3 hb)⟩
section
variable {X : Cx}
/-- the def that catches -/
theorem tells {Ng : List Str} {x a q fine : Str} {sg : Scope} {g : Addr} {cdg : Value} {l : Clauses} {h0 : ExceptHandler} {hs : List ExceptHandler} {p1 p2 p3 p4 p5 p6 : Pos} {j : Nat} (hN2 : Ng.length = 2)
    (hc : ∀ (s : Shared) (H : Hp), Cls (cxOf C8.CX0 X.prog X.w X.K X.mg X.base Ng x sg g cdg X.A X.stack s H C8.E0).nox (h0 :: hs) (clT X.K l)) :
    GivesTo X Ng x sg g cdg [.Try [.Expr (.Call (.Name a p1) [] [] p2) p3] (h0 :: hs) [] [] p4, .Return (some (.Constant (.str fine) j p5)) p6] a q (TTell X.K l fine) := by
  intro f c' s H Q tl act hco h
  refine ⟨_, pss_cons (ps_tryN (X := (cxOf C8.CX0 X.prog X.w X.K X.mg X.base Ng x sg g cdg X.A X.stack s H C8.E0).nox) (W0 := fun _ _ _ _ => False)
    (tb := fun W D σ H => ∃ Ec : XK, (∀ cls d σ' H', Ec cls d H' → W cls d σ' H') ∧ σ[0]? = some (some (.ref f)) ∧ H c' = some (CodeO c' q) ∧ tl Ec H (fun _ H' => D.nx σ H'))
    rfl rfl L2.takes0 (fun W pn xe tk _ => ?_) (hc s H)) (pss_one (ps_ret pe_str)), ?_⟩
  · refine ⟨fun pins t σ H D I hh => ?_⟩
    obtain ⟨Ec, hW, h1, h2, h3⟩ := hh
    exact (pss_one (ps_expr (act W pn xe Ec p1 p2 tk hW))).run pins t σ H D I ⟨h1, h2, h3⟩
  · refine ⟨tellX X.K Q l, fun cls d σ' H' hE => ?_, ?_, hco, h⟩
    · show wNames X.K Ng.length _ _ _ _ _ _ _
      rw [hN2]
      exact clT_run rfl hE
    · rw [show Ng = [Ng[0]'(by omega), Ng[1]'(by omega)] from by
        match Ng, hN2 with
        | [_, _], _ => rfl]
      rfl
end
section
variable {X : Cx} {hs : List ExceptHandler} {l : Clauses}
theorem cls_nil : Cls X [] (clT X.K []) := .nil
theorem cls_lit {x s : Str} {C : Addr} {p q q1 : Pos} {j : Nat} {p1 : Pos} (n : Names X x (.ref C)) (r : Cls X hs (clT X.K l)) : Cls X (.ExceptHandler (some (.Name x p)) none [.Return (some (.Constant (.str s) j p1)) q1] q :: hs) (clT X.K ((C, .lit s) :: l)) :=
  .bare n (fun _ _ _ _ _ _ _ => pss_one (ps_ret pe_str)) r
theorem cls_fld {x n f pre newId : Str} {C : Addr} {p q q1 p1 p2 p3 p4 p5 p6 : Pos} {j : Nat} (hN : X.N.Nodup) (hi : X.N[1]? = some n) (hl : X.env.kindOf n = some .local) (nm : Names X x (.ref C)) (xf : XfC X.K C) (no : PySem.W.findIn X.K (.ref C) f = some none)
    (gd : X.A.guards = some []) (un : X.A.units + 64 < cLine) (gr : Gl X "repr") (mr : X.mg "repr" = none) (hb : attributeBase (.Name n p4) f X.env (eval (.Name n p4) X.env) = eval (.Name n p4) X.env) (dn : (n == ("__debug__" : Str)) = false) (cn : (n == ("__classdict__" : Str)) = false)
    (st : starEach (.Attribute (.Name n p4) f p5 :: []) X.env = (false, eval (.Attribute (.Name n p4) f p5) X.env) :: starEach [] X.env) (r : Cls X hs (clT X.K l)) :
    Cls X (.ExceptHandler (some (.Name x p)) (some n) [.Return (some (.BinOp (.Constant (.str pre) j p1) .Add (.Call (.Name "repr" p2) [.Attribute (.Name n p4) f p5] [] p3) p6)) q1] q :: hs) (clT X.K ((C, .fld pre f) :: l)) :=
  .named hN hi hl nm (fun a oe k d pn hz hf => pss_one (ps_ret (pe_op (X := X.suite a ((a, oe) :: pn)) op_add_str pe_str (pe_callB (X := X.suite a ((a, oe) :: pn)) (call_rep gd un) gr mr bo_repr (pa_cons (pe_xf xf no hz hf (pe_var (X := X.suite a ((a, oe) :: pn)) hi (.inl hl) dn cn) hb) pa_nil st))))) r
end
/-- the def that catches, where it stands -/
structure WordAt (K : PySem.W.Frag) (mg : Str → Option Value) (x : Str) (st : Stmt) : Prop where
  ex : ∃ (g : Addr) (fd : FuncData), mg x = some (.ref g) ∧ Fun K x x st g fd
theorem wordAt_of {K : PySem.W.Frag} {mg : Str → Option Value} {base : Heap} {x : Str} {st : Stmt} (D : DefAt K x st) (hX : K.In base) (hG : base.Ns mainGlobals mg) : WordAt K mg x st := by
  obtain ⟨f, fd, ha, hF⟩ := D.ex
  exact ⟨f, fd, PySem.W.mg_of hX hG ha, hF⟩
section
variable {X : Cx} {K : PySem.W.Frag} {mg : Str → Option Value}
theorem pe_word {T : List (Addr × Str)} {TT : (XK → Hp → VK → Prop) → Hp → VK → Prop} {x a : Str} {wst : Stmt} {Ng : List Str} {c P : Addr} {k : Nat} {params : Arguments} {body : Expr} {scope : Scope} {t : XK → TE} {p lpos pos : Pos}
    (W : WordAt K mg x wst) (Sg : FnScope Ng [a] (defScope wst)) (hNg : Ng[0]? = some a) (hva : Vis (defScope wst) a)
    (hbw : ∀ (kV doc pm : Value) (an : Option Addr) (cdv ct : Value) (us : List Value), us.length = 1 → bindArgs (PySem.W.fnOf x x (defArgs wst) (defBody wst) (defScope wst) .none kV doc pm an cdv ct) ⟨us, []⟩ = pure ([a].zip us))
    (hG : ∀ (g : Addr) (cdg : Value), GivesTo X Ng x (defScope wst) g cdg (defBody wst) a (X.env.qual ++ "<lambda>") TT) (TB : TabB X.base X.mg c P) (hcode : X.env.code = .ref c) (hmT : (P, X.env.qual ++ "<lambda>") ∈ T) (hu : ∀ p ∈ T, p.1 = P → p.2 = X.env.qual ++ "<lambda>")
    (hr : Room (k + 2) X.A) (L : LamS X.env.scope scope) (hdef : defaultsOf params X.env = ([], [])) (hbind : ∀ (q : Str) (cl : List (Str × Addr)) (pm cv ctv : Value), bindArgs (PySem.W.kla_fn "<lambda>" q params body scope cl pm cv ctv) ⟨[], []⟩ = pure [])
    (hbody : ∀ (A : Around) (outer : List PySem.Env) (s : Shared) (H : Hp) (E : XK) (f c' : Addr), Room k (A.deeper (lamEnv X scope s.heap.objs.size f c')) → PE (lamCx X A outer s H E scope f c') body (t E))
    (h3 : X.K = K := by rfl) (h4 : X.mg = mg := by rfl) (hg : Gl X x := by rfl) (hdb : (x == ("__debug__" : Str)) = false := by decide) (hd : (a == ("__debug__" : Str)) = false := by decide) (hcd : (a == ("__classdict__" : Str)) = false := by decide) :
    PE X (Expr.Call (.Name x p) [.Lambda params body scope lpos] [] pos) (tLam T TT t) := by
  subst h3 h4
  obtain ⟨g, fd, hm, hF⟩ := W.ex
  have kp := hF.kp
  have bd := hF.binds (ps := [a]) hbw
  obtain ⟨oc, od, kV, doc, pm, an, cdv, ct, osl, rfl, lk, hcdg⟩ := hF.ex
  exact pe_lamcall hg hm kp lk hcdg bd Sg hNg hva (hG g cdv) TB hcode hmT hu hr L hdef hbind hbody hdb hd hcd
end
/-- in a lambda's body what the call raises is handed on -/
theorem pass_lam {X : Cx} {A : Around} {outer : List PySem.Env} {s : Shared} {H : Hp} {E : XK} {scope : Scope} {f c' : Addr} (hk : scope.kind = .function) : Passes (L2.CX X.prog X.w) (lamCx X A outer s H E scope f c') E :=
  fun pins σ H' s' e s'' I c => passes_call (X := lamCx X A outer s H E scope f c') (W := fun cls d _ H => E cls d H) (takes_of rfl rfl rfl rfl) (fun _ _ _ _ h => h) pins σ H' s' e s'' I c
/-- what a class's error is told as -/
inductive ToldAs (K : PySem.W.Frag) (C : Addr) : Clauses → Kept → Str → Prop
  | lit {s : Str} {l : Clauses} {k : Kept} : PySem.W.exmOne K (.ref C) (.ref C) = some true → ToldAs K C ((C, .lit s) :: l) k s
  | litOf {c : Addr} {s : Str} {l : Clauses} {k : Kept} : PySem.W.exmOne K (.ref C) (.ref c) = some true → ToldAs K C ((c, .lit s) :: l) k s
  | fld {pre f : Str} {l : Clauses} {d : Dt} : PySem.W.exmOne K (.ref C) (.ref C) = some true → ShowOk d → pre.length + d.shown.length ≤ sizeLine → ToldAs K C ((C, .fld pre f) :: l) (some (f, d)) (pre ++ d.shown)
  | next {c : Addr} {t : Tell} {l : Clauses} {k : Kept} {s : Str} : PySem.W.exmOne K (.ref C) (.ref c) = some false → ToldAs K C l k s → ToldAs K C ((c, t) :: l) k s
section
variable [TabW] {K : PySem.W.Frag} {b : Addr} {ρ : Rho} {β β1 : Bag} {ta : TA} {as : List Slot} {R : FX} {r : Dt} {C : Addr} {k : Kept} {l : Clauses} {s fine : Str} {T : List (Addr × Str)} {G H G1 H1 : Hp}
theorem toldAs_run {Q : VK} {dx : Option Addr} (h : ToldAs K C l k s) (e : Ex G H) (ka : KeptAt K G dx k) (q : Q (.str s) H) : tellX K Q l (.ref C) dx H := by
  induction h with
  | lit h1 => exact ⟨true, h1, fun _ => q, fun z => by cases z⟩
  | litOf h1 => exact ⟨true, h1, fun _ => q, fun z => by cases z⟩
  | @fld pre f l d h1 so hz =>
    obtain ⟨a, v, e1, e2, e3⟩ := ka
    refine ⟨true, h1, fun _ => ⟨rfl, a, [(f, v)], v, d.shown, e1, e _ _ e2, by simp [List.lookup], ⟨d, e3.dp e so.1, so.2.1, so.2.2.1, so.2.2.2.1, so.2.2.2.2, rfl⟩, hz, q⟩, fun z => by cases z⟩
  | @next c t l k s h1 _ ih =>
    cases t with
    | lit _ => exact ⟨false, h1, (fun z => by cases z), fun _ => ih ka q⟩
    | fld _ _ => exact ⟨false, h1, (fun z => by cases z), fun _ => ih ka q⟩
/-- the tables are written, all else stays -/
theorem step_ext {m : Bool} (hw : ∀ P q, TabW.w P q ↔ (P, q) ∈ T) (ex : Ex G H) (tb : TabsOk G H) (e : ExtN H H1) (t1 : Tabs T H1) : Step b m G H G H1 :=
  ⟨Ex.refl G, fun x o h => e x o (ex x o h) (fun ps z => tb.free x ps (by rw [h, z])), fun _ _ h _ _ => h, fun x o _ t h => e x o h t.1, fun x o t h => ⟨o, t, e x o h t.1⟩, fun tb => ⟨fun P q w => t1 (P, q) ((hw P q).mp w), tb.free⟩⟩
theorem tabs_of (hw : ∀ P q, TabW.w P q ↔ (P, q) ∈ T) (tb : TabsOk G H) : Tabs T H := fun p hp => tb.tab p.1 p.2 ((hw p.1 p.2).mpr hp)
theorem d_lamEx (hw : ∀ P q, TabW.w P q ↔ (P, q) ∈ T) (ha : EvA K ta ρ β as β1) (hR : R as none (.ex C k) none) (ht : ToldAs K C l k s) : EvB K (tLam T (TTell K l fine) (fun E => tCall (spX K R) [] E ta)) ρ β (.str s) β1 := by
  refine ⟨ha.som, fun b G H σ Q E kk => ⟨tabs_of hw E.tabs, fun H1 e t1 => ?_⟩⟩
  have s0 : Step b β.isSome G H G H1 := step_ext hw E.sub E.tabs e t1
  have k0 : BagOk b β G H1 := fun ns z => ⟨e _ _ (E.bagk ns z).1 NoT.lst.1, (E.bagk ns z).2⟩
  exact (x_raise0 (E := tellX K Q l) ha hR).run b G H1 σ _ (E.step s0 k0) fun dx G2 H2 s2 k2 ka => toldAs_run ht s2.s ka (kk _ G2 H2 (s0.trans s2) k2 (.str _))
end
/-- a class that keeps its one argument in the field f -/
structure OwnC (K : PySem.W.Frag) (mg : Str → Option Value) (x f : Str) (C : Addr) : Prop where
  ex : ∃ (fI : Addr) (B newId initId : String) (bt : List Value), PySem.ExcBaseFacts B newId initId bt ∧ TO.Own K mg x f C fI newId bt ∧ TO.Fld f ∧ bt.contains (.type "object") = true ∧ ∀ o : Value, refuseLoop o "__setattr__" bt = pure ()
/-- a class of its own name alone -/
structure BareC (K : PySem.W.Frag) (mg : Str → Option Value) (x : Str) (C : Addr) : Prop where
  ex : ∃ (B newId initId : String) (bt : List Value), PySem.ExcBaseFacts B newId initId bt ∧ PySem.W.excIn K C bt newId = true ∧ mg x = some (.ref C) ∧ PySem.W.keepIn K (.ref C) = true ∧ PySem.W.subIn K (.ref C) (.type "BaseException") = some true ∧ PySem.W.typeIn K (.ref C) = some (.type "type")
theorem OwnC.gC {K : PySem.W.Frag} {mg : Str → Option Value} {x f : Str} {C : Addr} (O : OwnC K mg x f C) : mg x = some (.ref C) := by
  obtain ⟨_, _, _, _, _, _, T, _⟩ := O.ex
  exact T.gC
theorem OwnC.xf {K : PySem.W.Frag} {mg : Str → Option Value} {x f : Str} {C : Addr} (O : OwnC K mg x f C) : XfC K C := by
  obtain ⟨_, _, _, _, _, _, T, _⟩ := O.ex
  exact T.xf
theorem OwnC.noN {K : PySem.W.Frag} {mg : Str → Option Value} {x f : Str} {C : Addr} (O : OwnC K mg x f C) : PySem.W.findIn K (.ref C) f = some none := by
  obtain ⟨_, _, _, _, _, _, T, _⟩ := O.ex
  exact T.noN
theorem BareC.gC {K : PySem.W.Frag} {mg : Str → Option Value} {x : Str} {C : Addr} (O : BareC K mg x C) : mg x = some (.ref C) := by
  obtain ⟨_, _, _, _, _, _, h, _⟩ := O.ex
  exact h
section
variable {X : Cx} {K : PySem.W.Frag} {mg : Str → Option Value} {x f m : Str} {C : Addr} {k : Nat} {E : XK} {a : Expr} {ta : TA} {p pos pos2 p2 : Pos} {j : Nat}
theorem ps_raiseOwn (O : OwnC K mg x f C) (hr : Room k X.A) (tk : Takes X (fun cls d _ H => E cls d H)) (ha : PA X [a] ta) (hc : X.calm = true := by rfl) (h3 : X.K = K := by rfl) (h4 : X.mg = mg := by rfl) (hg : Gl X x := by rfl) (hdb : (x == ("__debug__" : Str)) = false := by decide)
    (he : starEach (a :: []) X.env = (false, eval a X.env) :: starEach [] X.env := by rfl) (hpl : (backTo pos (starEach [] X.env)).any (·.1) = false := by rfl) : PS X (.Raise (some (.Call (.Name x p) [a] [] pos)) none pos2) (tRaiseK f C E ta) := by
  subst h3 h4
  obtain ⟨fI, B, newId, initId, bt, F, T, D, hob, hps⟩ := O.ex
  exact ps_raise hc tk (TO.pmk_made F T D hob hps hr ha hg hdb he hpl)
theorem ps_raiseBare (O : BareC K mg x C) (tk : Takes X (fun cls d _ H => E cls d H)) (hc : X.calm = true := by rfl) (h3 : X.K = K := by rfl) (h4 : X.mg = mg := by rfl) (hg : Gl X x := by rfl) (hdb : (x == ("__debug__" : Str)) = false := by decide) :
    PS X (.Raise (some (.Call (.Name x p) [.Constant (.str m) j p2] [] pos)) none pos2) (tRaise0 C E) := by
  subst h3 h4
  obtain ⟨B, newId, initId, bt, F, q, gC, kC, sb, ty⟩ := O.ex
  exact ps_raise hc tk (pmk_own F q gC kC (raises_own sb ty) hg hdb)
end
/-- what a callee raises is handed on, in a def that may raise -/
theorem pass_x {X : Cx} {E : XK} (tk : Takes X (fun cls d _ H => E cls d H)) : Passes (L2.CX X.prog X.w) X E := passes_call tk fun _ _ _ _ h => h
/-- a def whose code object is known: one that makes lambdas -/
structure DefAtC (K : PySem.W.Frag) (x : Str) (st : Stmt) (c : Addr) : Prop where
  ex : ∃ (f : Addr) (oc : Value) (od : Option Addr) (kV doc pm : Value) (an : Option Addr) (ct : Value) (osl : Array (Option Value)), PySem.W.nsIn K mainGlobals x = some (some (.ref f)) ∧
    K.lookup f = some ⟨oc, od, .func (PySem.W.fnOf x x (defArgs st) (defBody st) (defScope st) .none kV doc pm an (.ref c) ct), osl⟩ ∧ PySem.W.codeIn K (.ref c) x = true ∧ PySem.W.keepIn K (.ref f) = true
section
variable [TabW] {P : Program} {w : World} {K : PySem.W.Frag} {mg : Str → Option Value} {base : Heap} {k : Nat} {x : Str} {st : Stmt} {N ps : List Str} {R : FR} {c : Addr}
theorem fnC_mk (F : DefAtC K x st c) (hX : K.In base) (hG : base.Ns mainGlobals mg) (S : FnScope N ps (defScope st)) (hlen : ∀ as β r β', R as β r β' → as.length = ps.length)
    (hb : ∀ (f : Addr) (kV doc pm : Value) (an : Option Addr) (cdv ct : Value) (us : List Value), us.length = ps.length → bindArgs (PySem.W.fnOf x x (defArgs st) (defBody st) (defScope st) .none kV doc pm an cdv ct) ⟨us, []⟩ = pure (ps.zip us))
    (hbody : ∀ (f : Addr) (A : Around) (outer : List PySem.Env) (s : Shared) (H : Hp) (E : XK), RoomG k (A.deeper (envOfC x (defScope st) s.heap.objs.size f (.ref c))) →
      ∃ t, PSs (cxOf CX0 P w K mg base N x (defScope st) f (.ref c) A outer s H E).nox (defBody st) t ∧ ∀ as β r β', R as β r β' → BodyR K t (startR N as) β r β') : FnH P w K mg base (k + 1) x ps R := by
  obtain ⟨f, oc, od, kV, doc, pm, an, ct, osl, ha, lk, hcd, kp⟩ := F.ex
  have len : ∀ vs H Q E, spR K R vs H Q E → vs.length = ps.length := fun vs H Q E hsp => by
    obtain ⟨b, G, β, as, r, β', _, _, _, hd, hR, _⟩ := hsp
    rw [hd.length]
    exact hlen _ _ _ _ hR
  refine ⟨f, _, PySem.W.mg_of hX hG ha, ⟨len, fun A outer s H args us vs Q E hr e0 hbd rv hsp => LamX.run_ofS lk hcd S hr.toRoom e0 hbd rv (len _ _ _ _ hsp) fun _ => ?_⟩, (fun s us _ hl => ?_), kp⟩
  · obtain ⟨t, h1, h2⟩ := hbody f A outer s H E (hr.deeper _)
    exact ⟨t, h1.nox, fn_read h2 hsp⟩
  · rw [List.append_nil] at hl ⊢
    exact .of_eq (hb f kV doc pm an (.ref c) ct us hl)
end
/-- the fields that occur -/
theorem fld_given : TO.Fld "given" := ⟨by decide, fun _ _ => by rfl, fun _ _ _ _ => by rfl, fun _ _ _ _ => by rfl, fun _ _ _ _ _ _ => by rfl, fun _ _ _ _ _ _ => by rfl, fun _ _ _ _ _ _ _ _ _ _ _ _ _ _ _ => BindsTo.of_eq (by first | rfl | with_unfolding_all rfl), fun _ => by simp [List.lookup]⟩
theorem fld_reason : TO.Fld "reason" := ⟨by decide, fun _ _ => by rfl, fun _ _ _ _ => by rfl, fun _ _ _ _ => by rfl, fun _ _ _ _ _ _ => by rfl, fun _ _ _ _ _ _ => by rfl, fun _ _ _ _ _ _ _ _ _ _ _ _ _ _ _ => BindsTo.of_eq (by first | rfl | with_unfolding_all rfl), fun _ => by simp [List.lookup]⟩
end TD
set_option Elab.async false
set_option linter.all false
set_option maxRecDepth 100000
set_option maxHeartbeats 4100000
namespace TD
open PySem L2 PySem.Spec PyProof.Rows
open Evl (Ex ex_l ex_t fresh_back sq_of st_of sz_of sz_lt)
/-- slot i holds a list at p that nothing else knows -/
structure OwnL [TabW] (K : PySem.W.Frag) (b : Addr) (β : Bag) (i : Nat) (p : Addr) (G H : Hp) (σ : L2.St) (ρ : Rho) (ds : List Dt) : Prop where
  env : EnvD K b β G H σ ρ
  slot : ρ[i]? = some none
  at_ : σ[i]? = some (some (.ref p))
  free : G p = none
  nb : β.isSome = true → p ≠ b
  val : ∃ ws, H p = some (.lst ws) ∧ DenL K G ws ds
section
variable [TabW] {K : PySem.W.Frag} {b : Addr} {ρ : Rho} {β β1 β2 : Bag} {ta : TA} {te : TE} {tw : TS} {d : Dt} {ds : List Dt} {o : Out} {i j : Nat} {G H G0 H0 : Hp} {σ : L2.St} {p : Addr}
/-- nothing but the slot is told anew -/
theorem EnvD.forget {i : Nat} {v : V} (E : EnvD K b β G H σ ρ) : EnvD K b β G H (σ.set i (some v)) (ρ.set i none) := by
  have E' := (E.set (i := i) (v := .non) (d := .none) .non).unset (i := i)
  rw [List.set_set, List.set_set] at E'
  by_cases h : i < ρ.length
  · have q : (ρ.set i none)[i]? = some none := List.getElem?_set_self h
    have E2 := E'.put (v := some v) q
    rw [List.set_set] at E2
    exact E2
  · have hr : ρ.set i none = ρ := List.set_eq_of_length_le (by omega)
    have hs : σ.set i (some v) = σ := List.set_eq_of_length_le (by rw [E.len]; omega)
    rw [hr, hs]
    exact E
end
end TD
set_option Elab.async false
set_option linter.all false
set_option maxRecDepth 100000
set_option maxHeartbeats 4100000
namespace TD
open PySem L2 PySem.Spec PyProof.Rows
open RZ
open Evl (Ex ex_l ex_t fresh_back sq_of st_of sz_of sz_lt)
section
variable [TabW] {K : PySem.W.Frag} {b : Addr} {ρ ρx : Rho} {β β1 β2 β3 : Bag} {ta tb te : TE} {tt : TT} {x y d : Dt} {G H G1 H1 : Hp} {σ : L2.St}
theorem DenL.rep {vs : List V} {ds : List Dt} (h : DenL K G vs ds) : ∀ n : Nat, DenL K G (List.replicate n vs).flatten (List.replicate n ds).flatten
  | 0 => .nil
  | n + 1 => by
    rw [List.replicate_succ, List.flatten_cons, List.replicate_succ, List.flatten_cons]
    exact h.append (DenL.rep h n)
/-- a list, so many times -/
theorem d_repL {ds : List Dt} {k : Int} (ha : EvB K ta ρ β (.list ds) β1) (hb : EvB K tb ρ β1 (.int k) β2) (h1 : -(2 ^ 63) ≤ k) (h2 : k < 2 ^ 63) (hz : ds.length * k.toNat ≤ 100000) : EvB K (tOp L2.rRep ta tb) ρ β (.list (List.replicate k.toNat ds).flatten) β2 :=
  d_op ha hb fun b G H v w Q e dv dw kk => by
    cases dw
    cases dv with
    | @lst a xs _ hs hd =>
      refine ⟨a, k, xs, rfl, rfl, e _ _ hs, h1, h2, by rw [hd.length]; exact sz_of hz, fun p hp => ?_⟩
      have n := Step.new (b := b) (m := false) (o := .lst (List.replicate k.toNat xs).flatten) e hp
      exact kk _ _ _ n (.lst upd_same ((hd.mono n.g).rep _))
theorem d_addS {i j : Str} (ha : EvB K ta ρ β (.str i) β1) (hb : EvB K tb ρ β1 (.str j) β2) (hz : i.length + j.length ≤ sizeLine) : EvB K (tOp rAddS ta tb) ρ β (.str (i ++ j)) β2 := d_op ha hb fun b G H v w Q e dv dw kk => by
  cases dv
  cases dw
  exact ⟨i, j, rfl, rfl, hz, kk _ G H (Step.refl e) (.str _)⟩
end
section
variable [TabW] {K : PySem.W.Frag} {b : Addr} {ρ : Rho} {β β1 β2 β3 : Bag} {ta te tk : TE} {tt : TT} {tw : TS} {d : Dt} {ds rs : List Dt} {o : Out} {i j : Nat} {G H G1 H1 : Hp} {σ : L2.St}
theorem DenL.put : ∀ {vs : List V} {ds : List Dt} {v : V} {d : Dt} (n : Nat), DenL K G vs ds → Den K G v d → DenL K G (vs.set n v) (ds.set n d)
  | [], [], _, _, _, h, _ => h
  | [], _ :: _, _, _, _, h, _ => nomatch h
  | _ :: _, [], _, _, _, h, _ => nomatch h
  | _ :: _, _ :: _, _, _, 0, .cons _ h2, h => .cons h h2
  | _ :: _, _ :: _, _, _, n + 1, .cons h1 h2, h => .cons h1 (DenL.put n h2 h)
end
end TD
set_option Elab.async false
set_option linter.all false
set_option maxRecDepth 100000
set_option maxHeartbeats 4100000
namespace TD
open PySem L2 PySem.Spec PyProof.Rows
open Evl (Ex ex_l ex_t fresh_back sq_of st_of sz_of sz_lt)
structure FnS (P : Program) (w : World) (K : PySem.W.Frag) (mg : Str → Option Value) (base : Heap) (k : Nat) (x : Str) (ps : List Str) (sp : Sp) : Prop where
  ex : ∃ (f : Addr) (fd : FuncData), mg x = some (.ref f) ∧ FnOk P w K mg base CX0 k f fd ps sp ∧ Binds K fd ps [] ∧ PySem.W.keepIn K (.ref f) = true
/-- .. where nothing is being shown; with the function's data -/
structure FnSG (P : Program) (w : World) (K : PySem.W.Frag) (mg : Str → Option Value) (base : Heap) (k : Nat) (x : Str) (ps : List Str) (sp : Sp) : Prop where
  ex : ∃ (f : Addr) (fd : FuncData), mg x = some (.ref f) ∧ FnOkG P w K mg base CX0 k f fd ps sp ∧ ∃ oc od osl, K.lookup f = some ⟨oc, od, .func fd, osl⟩
section
variable {X : Cx} {k : Nat} {x : Str} {ps : List Str} {sp : Sp} {q pos : Pos} {e : Expr} {es : List Expr} {t : TA}
theorem pe_fnS {P : Program} {w : World} {K : PySem.W.Frag} {mg : Str → Option Value} {base : Heap} (F : FnS P w K mg base k x ps sp) (hr : Room k X.A) (ha : PA X (e :: es) t) (h1 : X.prog = P := by rfl) (h2 : X.w = w := by rfl) (h3 : X.K = K := by rfl) (h4 : X.mg = mg := by rfl) (h5 : X.base = base := by rfl)
    (hg : Gl X x := by rfl) (hdb : (x == ("__debug__" : Str)) = false := by decide) (hs : starEach (e :: es) X.env = (false, eval e X.env) :: starEach es X.env := by rfl)
    (hp : (backTo pos (starEach es X.env)).any (·.1) = false := by rfl) : PE X (.Call (.Name x q) (e :: es) [] pos) (tCall sp [] E0 t) := by
  obtain ⟨f, fd, hm, hf, hb, hk⟩ := F.ex
  subst h1 h2 h3 h4 h5
  exact pe_call hf hr hg hm hk hb .nil pass0 ha hdb hs hp
end
section
variable {P : Program} {w : World} {K : PySem.W.Frag} {mg : Str → Option Value} {base : Heap} {k : Nat} {x : Str} {st : Stmt} {N ps : List Str} {sp : Sp}
theorem fnS_mk (F : DefAt K x st) (hX : K.In base) (hG : base.Ns mainGlobals mg) (S : FnScope N ps (defScope st)) (hlen : ∀ vs H Q E, sp vs H Q E → vs.length = ps.length)
    (hb : ∀ (f : Addr) (kV doc pm : Value) (an : Option Addr) (cdv ct : Value) (us : List Value), us.length = ps.length → bindArgs (PySem.W.fnOf x x (defArgs st) (defBody st) (defScope st) .none kV doc pm an cdv ct) ⟨us, []⟩ = pure (ps.zip us))
    (hbody : ∀ (f : Addr) (cdv : Value) (A : Around) (outer : List PySem.Env) (s : Shared) (H : Hp) (E : XK), Room k (A.deeper (envOfC x (defScope st) s.heap.objs.size f cdv)) →
      ∃ t, PSs (cxOf CX0 P w K mg base N x (defScope st) f cdv A outer s H E).nox (defBody st) t ∧ ∀ vs H Q E, sp vs H Q E → t { nx := fun _ H' => Q .non H', rt := Q } (L2.start N vs) H) : FnS P w K mg base (k + 1) x ps sp := by
  obtain ⟨f, fd, ha, hF⟩ := F.ex
  refine ⟨f, fd, PySem.W.mg_of hX hG ha, ?_, hF.binds (hb f), hF.kp⟩
  refine hF.ok S hlen fun cdv A outer s H vs Q E hr hsp => ?_
  obtain ⟨t, h1, h2⟩ := hbody f cdv A outer s H E hr
  exact ⟨t, h1, h2 vs H Q E hsp⟩
theorem fnSG_mk [TabW] (F : DefAt K x st) (hX : K.In base) (hG : base.Ns mainGlobals mg) (S : FnScope N ps (defScope st)) (hlen : ∀ vs H Q E, sp vs H Q E → vs.length = ps.length)
    (hb : ∀ (f : Addr) (kV doc pm : Value) (an : Option Addr) (cdv ct : Value) (us : List Value), us.length = ps.length → bindArgs (PySem.W.fnOf x x (defArgs st) (defBody st) (defScope st) .none kV doc pm an cdv ct) ⟨us, []⟩ = pure (ps.zip us))
    (hbody : ∀ (f : Addr) (cdv : Value) (A : Around) (outer : List PySem.Env) (s : Shared) (H : Hp) (E : XK), RoomG k (A.deeper (envOfC x (defScope st) s.heap.objs.size f cdv)) →
      ∃ t, PSs (cxOf CX0 P w K mg base N x (defScope st) f cdv A outer s H E).nox (defBody st) t ∧ ∀ vs H Q E, sp vs H Q E → t { nx := fun _ H' => Q .non H', rt := Q } (L2.start N vs) H) : FnSG P w K mg base (k + 1) x ps sp := by
  obtain ⟨f, fd, ha, hF⟩ := F.ex
  have lk : ∃ oc od osl, K.lookup f = some ⟨oc, od, .func fd, osl⟩ := by
    obtain ⟨oc, od, _, _, _, _, _, _, osl, _, h2, _⟩ := hF.ex
    exact ⟨oc, od, osl, h2⟩
  refine ⟨f, fd, PySem.W.mg_of hX hG ha, ?_, lk⟩
  refine fnG_ok hF S hlen fun cdv A outer s H vs Q E hr hsp => ?_
  obtain ⟨t, h1, h2⟩ := hbody f cdv A outer s H E hr
  exact ⟨t, h1, h2 vs H Q E hsp⟩
end
/-- a new bag, drawn from a script -/
def spBag [TabW] (K : PySem.W.Frag) : Sp := fun vs H Q _ => ∃ (a : Addr) (ns : List Int) (spot : Int) (G : Hp), vs = [.ref a, .int spot] ∧ Ex G H ∧ TabsOk G H ∧ SqL K G a (ns.map V.int) ∧ 0 ≤ spot ∧ spot ≤ 10 ∧
  ∀ (p : Addr) (G' H' : Hp) (bag : List Int), Step p false G H G' H' → G' p = none → H' p = some (.lst (bag.map V.int)) → Num.BagI 0 bag → Q (.ref p) H'
def spLaw [TabW] (K : PySem.W.Frag) : Sp := fun vs H Q _ => ∃ (a : Addr) (ns : List Int) (G : Hp), vs = [.ref a] ∧ Ex G H ∧ TabsOk G H ∧ SqL K G a (ns.map V.int) ∧ ns.length ≤ 63 ∧ ∀ H', Q (.bl true) H'
theorem bag_ok {c s : Int} (hs : 0 ≤ s) : Num.BagI 0 [if (TD.absI c % (10 ^ 45) ^ 13 - 10 ^ 18) > 0 then TD.absI c % (10 ^ 45) ^ 13 - 10 ^ 18 else 0, (((TD.absI c % (10 ^ 45) ^ 13) % 2305843009213693723 * 1000403 + 9041 * s) + 47 * (if decide (c < 0) = true then 1 else 0) + 31) % 2305843009213693951, 0] := by
  have hP : (0 : Int) < (10 ^ 45) ^ 13 := by decide
  have h1 := Int.emod_nonneg (TD.absI c) (show ((10 ^ 45) ^ 13 : Int) ≠ 0 by decide)
  have h2 := Int.emod_lt_of_pos (TD.absI c) hP
  have h3 : ((10 ^ 45) ^ 13 : Int) < ((2 ^ 3000 : Nat) : Int) := by decide +kernel
  refine ⟨_, _, _, rfl, ?_, ?_, Int.emod_nonneg _ (by decide), Int.emod_lt_of_pos _ (by decide), Int.le_refl 0, Int.le_refl 0⟩
  · split <;> omega
  · generalize TD.absI c % (10 ^ 45) ^ 13 = g at *
    generalize ((10 : Int) ^ 45) ^ 13 = z at *
    have h4 : (0 : Nat) < 2 ^ 3000 := by decide +kernel
    generalize (2 : Nat) ^ 3000 = y at *
    split <;> omega
end TD
set_option Elab.async false
set_option linter.all false
set_option maxRecDepth 100000
set_option maxHeartbeats 4100000
namespace TD
open PySem L2 PySem.Spec PyProof.Rows
open Evl (Ex ex_l ex_t fresh_back sq_of st_of sz_of sz_lt)
section
variable [TabW] {K : PySem.W.Frag} {b : Addr} {ρ : Rho} {β β1 β2 β3 β4 : Bag} {te tk : TE} {tt : TT} {tu tv tw : TS} {d : Dt} {ds : List Dt} {o : Out} {i j : Nat} {G H : Hp} {σ : L2.St} {p : Addr}
/-- one's own list, seen as data for a while -/
theorem OwnL.frozen (w : OwnL K b β i p G H σ ρ ds) : ∃ ws, H p = some (.lst ws) ∧ DenL K G ws ds ∧ EnvD K b β (upd G p (.lst ws)) H σ (ρ.set i (some (.imm (.list ds)))) := by
  obtain ⟨ws, hp, dw⟩ := w.val
  have ex : Ex G (upd G p (.lst ws)) := Ex.new w.free
  have E := w.env
  have E2 : EnvD K b β (upd G p (.lst ws)) H σ ρ := by
    refine ⟨fun a u z => ?_, fun ns e => ⟨(E.bagk ns e).1, ?_⟩, E.len, fun i d q => ?_, E.bagv, ⟨E.tabs.tab, fun x ps z => ?_⟩, E.fnv⟩
    · by_cases q : a = p
      · rw [q, upd_same] at z
        cases z
        rw [q]
        exact hp
      · rw [upd_ne q] at z
        exact E.sub a u z
    · rw [upd_ne (Ne.symm (w.nb (by rw [e]; rfl)))]
      exact (E.bagk ns e).2
    · obtain ⟨v, h1, h2⟩ := E.imm i d q
      exact ⟨v, h1, h2.mono ex⟩
    · by_cases q : x = p
      · rw [q, upd_same] at z; cases z
      · rw [upd_ne q] at z; exact E.tabs.free x ps z
  have E3 := E2.set (i := i) (v := .ref p) (d := .list ds) (.lst upd_same (dw.mono ex))
  have e : σ.set i (some (.ref p)) = σ := by
    apply List.ext_getElem?
    intro n
    by_cases q : i = n
    · subst q
      rw [List.getElem?_set_self (List.getElem?_eq_some_iff.mp w.at_).1, w.at_]
    · rw [List.getElem?_set_ne q]
  rw [e] at E3
  exact ⟨ws, hp, dw, E3⟩
end
end TD
set_option Elab.async false
set_option linter.all false
set_option maxRecDepth 100000
set_option maxHeartbeats 4100000
namespace TD
open PySem L2 PySem.Spec PyProof.Rows
open Evl (Ex ex_l ex_t fresh_back sq_of st_of sz_of sz_lt)
section
variable [TabW] {K : PySem.W.Frag} {b : Addr} {ρ ρ1 ρ2 : Rho} {β β1 β2 : Bag} {ta : TA} {te : TE} {tu tw : TS} {d : Dt} {ds ds1 ds2 : List Dt} {o : Out} {i j : Nat} {G H G0 H0 : Hp} {σ : L2.St} {p : Addr}
theorem EnvD.back {x : Option Slot} (E : EnvD K b β G H σ (ρ.set j x)) (hj : ρ[j]? = some none) : EnvD K b β G H σ ρ := by
  have ne : ∀ {n : Nat} {a : Slot}, ρ[n]? = some (some a) → (ρ.set j x)[n]? = some (some a) := fun {n a} h => by
    have q : j ≠ n := fun z => by
      subst z
      rw [hj] at h
      cases h
    rw [List.getElem?_set_ne q]
    exact h
  exact ⟨E.sub, E.bagk, by rw [E.len, List.length_set], fun n d h => E.imm n d (ne h), fun n h => E.bagv n (ne h), E.tabs, fun n a h => E.fnv n a (ne h)⟩
theorem OwnL.setJ {v : V} (w : OwnL K b β i p G H σ ρ ds) (hij : i ≠ j) (h : Den K G v d) : OwnL K b β i p G H (σ.set j (some v)) (ρ.set j (some (.imm d))) ds :=
  ⟨w.env.set h, by rw [List.getElem?_set_ne (Ne.symm hij)]; exact w.slot, by rw [List.getElem?_set_ne (Ne.symm hij)]; exact w.at_, w.free, w.nb, w.val⟩
theorem OwnL.back {x : Option Slot} (w : OwnL K b β i p G H σ (ρ.set j x) ds) (hij : i ≠ j) (hj : ρ[j]? = some none) : OwnL K b β i p G H σ ρ ds := by
  have hs := w.slot
  rw [List.getElem?_set_ne (Ne.symm hij)] at hs
  exact ⟨w.env.back hj, hs, w.at_, w.free, w.nb, w.val⟩
end
end TD
set_option Elab.async false
set_option linter.all false
set_option maxRecDepth 100000
set_option maxHeartbeats 4100000
namespace TD
open PySem L2 PySem.Spec PyProof.Rows
end TD
set_option Elab.async false
set_option linter.all false
set_option maxRecDepth 100000
set_option maxHeartbeats 4100000
namespace TD
open PySem L2 PySem.Spec PyProof.Rows
open Evl (Ex ex_l ex_t fresh_back sq_of st_of sz_of sz_lt)
section
variable {X : Cx} {K : PySem.W.Frag}
theorem ix_ofK {r : PySem.W.Frag → R2} (h : IxR X (r X.K)) (hK : X.K = K := by rfl) : IxR X (r K) := hK ▸ h
end
/-- a dict from ints -/
abbrev dctD (ps : List (Dt × Dt)) : Dt := .dict ((.none, .none) :: ps)
abbrev keysO (kvs : List (Int × V)) : List (Key × V) := kvs.map fun q => (Sum.inl q.1, q.2)
/-- a dict from tuples of ints -/
abbrev dctT (ps : List (Dt × Dt)) : Dt := .dict ((.none, .bool true) :: ps)
/-- an object under way, of the class C -/
abbrev oD (C : Addr) (ps : List (Dt × Dt)) : Dt := .dict ((.none, .int ((C : Nat) : Int)) :: ps)
def MuAt (H : Hp) (p : Addr) : Prop := ∀ o, H p = some o → (∃ xs, o = HO.lst xs) ∨ (∃ kvs, o = HO.dK kvs) ∨ (∃ C dx fs, o = HO.ins C dx fs) ∨ ∃ kvs, o = HO.dT kvs
theorem MuAt.none {H : Hp} {p : Addr} (h : H p = none) : MuAt H p := fun o e => by rw [h] at e; cases e
theorem MuAt.lst {H : Hp} {p : Addr} {xs : List V} (h : H p = some (.lst xs)) : MuAt H p := fun o e => by rw [h] at e; cases e; exact .inl ⟨xs, rfl⟩
theorem MuAt.dK {H : Hp} {p : Addr} {xs : List (Key × V)} (h : H p = some (.dK xs)) : MuAt H p := fun o e => by rw [h] at e; cases e; exact .inr (.inl ⟨xs, rfl⟩)
theorem MuAt.ins {H : Hp} {p C dx : Addr} {fs : List (Str × V)} (h : H p = some (.ins C dx fs)) : MuAt H p := fun o e => by rw [h] at e; cases e; exact .inr (.inr (.inl ⟨C, dx, fs, rfl⟩))
theorem MuAt.dT {H : Hp} {p : Addr} {xs : List (List Key × V)} (h : H p = some (.dT xs)) : MuAt H p := fun o e => by rw [h] at e; cases e; exact .inr (.inr (.inr ⟨xs, rfl⟩))
theorem tab_updM {p P : Addr} {q : Str} {ob : HO} {H : Hp} (h : LamX.TabS H P q) (hl : MuAt H p) : LamX.TabS (upd H p ob) P q := by
  obtain ⟨ps, h1, h2, h3⟩ := h
  refine ⟨ps, ?_, h2, fun pos cv hc => ?_⟩
  · rw [upd_ne fun z => ?_]
    · exact h1
    · rw [← z] at hl
      rcases hl _ h1 with ⟨_, e⟩ | ⟨_, e⟩ | ⟨_, _, _, e⟩ | ⟨_, e⟩ <;> cases e
  · obtain ⟨c, e1, e2⟩ := h3 pos cv hc
    refine ⟨c, e1, ?_⟩
    rw [upd_ne fun z => ?_]
    · exact e2
    · rw [← z] at hl
      rcases hl _ e2 with ⟨_, e⟩ | ⟨_, e⟩ | ⟨_, _, _, e⟩ | ⟨_, e⟩ <;> (unfold LamX.CodeO at e; cases e)
/-- what a thing of one's own holds -/
inductive Held (K : PySem.W.Frag) (G : Hp) : HO → Dt → Prop
  | lst {ws : List V} {ds : List Dt} : DenL K G ws ds → Held K G (.lst ws) (.list ds)
  | dct {kvs : List (Int × V)} {ps : List (Dt × Dt)} : DenP K G kvs ps → Held K G (.dK (keysO kvs)) (dctD ps)
  | ins {C dx : Addr} {fs : List (Str × V)} {ps : List (Dt × Dt)} : InsK K C → DenF K G fs ps → Held K G (.ins C dx fs) (oD C ps)
  | dT {kvs : List (List Key × V)} {ps : List (Dt × Dt)} : DenT K G kvs ps → Held K G (.dT kvs) (dctT ps)
section
variable {K : PySem.W.Frag} {G G' H : Hp} {o : HO} {d : Dt} {p : Addr}
theorem Held.mono (h : Held K G o d) (e : Ex G G') : Held K G' o d := by
  cases h with
  | lst h => exact .lst (h.mono e)
  | dct h => exact .dct (h.mono e)
  | ins hc h => exact .ins hc (h.mono e)
  | dT h => exact .dT (h.mono e)
theorem Held.nt (h : Held K G o d) : NoT o := by
  cases h with
  | lst h => exact ⟨fun _ z => (nomatch z), fun _ z => (nomatch z)⟩
  | dct h => exact ⟨fun _ z => (nomatch z), fun _ z => (nomatch z)⟩
  | ins hc h => exact ⟨fun _ z => (nomatch z), fun _ z => (nomatch z)⟩
  | dT h => exact ⟨fun _ z => (nomatch z), fun _ z => (nomatch z)⟩
theorem Held.mu (h : Held K G o d) (e : H p = some o) : MuAt H p := by
  cases h with
  | lst h => exact MuAt.lst e
  | dct h => exact MuAt.dK e
  | ins hc h => exact MuAt.ins e
  | dT h => exact MuAt.dT e
theorem Held.den (h : Held K G o d) (e : G p = some o) : Den K G (.ref p) d := by
  cases h with
  | lst h => exact .lst e h
  | dct h => exact .dcI (.inl e) h
  | ins hc h => exact .ins hc e h
  | dT h => exact .dcT (.inl e) h
end
def kdD : Dt → Nat
  | .none => 0
  | .bool _ => 1
  | .int _ => 2
  | .str _ => 3
  | _ => 4
def kdV : V → Nat
  | .non => 0
  | .bl _ => 1
  | .int _ => 2
  | .str _ => 3
  | _ => 4
def clash : Dt → List Dt → Bool
  | .list ds, es => (ds.map kdD != es.map kdD)
  | _, _ => true
mutual
def apart (d : Dt) : Dt → Bool
  | .list es => clash d es && apartL d es
  | .tuple es => apartL d es
  | .dict _ => false
  | _ => true
def apartL (d : Dt) : List Dt → Bool
  | [] => true
  | e :: es => apart d e && apartL d es
end
section
variable {K : PySem.W.Frag} {G G2 Gd : Hp} {o : HO} {d : Dt} {p : Addr}
theorem Den.kd {v : V} {x : Dt} (h : Den K G v x) : kdD x = kdV v := by
  cases h <;> rfl
theorem DenL.kd : ∀ {vs : List V} {ds : List Dt}, DenL K G vs ds → ds.map kdD = vs.map kdV
  | [], [], _ => rfl
  | [], _ :: _, h => nomatch h
  | _ :: _, [], h => nomatch h
  | v :: vs, x :: ds, .cons h1 h2 => by rw [List.map_cons, List.map_cons, h1.kd, h2.kd]
mutual
theorem Den.off (h : Held K G o d) (hp : G2 p = some o) (hd : ∀ x, x ≠ p → Gd x = G2 x) : ∀ {x : Dt} {v : V}, Den K G2 v x → apart d x = true → Den K Gd v x
  | .none, _, e, _ => by cases e; exact .non
  | .bool c, _, e, _ => by cases e; exact .bl c
  | .int i, _, e, _ => by cases e; exact .int i
  | .str s, _, e, _ => by cases e; exact .str s
  | .list es, _, e, f => by
    unfold apart at f
    rw [Bool.and_eq_true] at f
    cases e with
    | @lst a xs _ hs hx =>
      have ne : a ≠ p := fun z => by
        rw [z, hp] at hs
        cases hs
        cases h with
        | lst h =>
          have e1 := h.kd
          have e2 := hx.kd
          have f1 := f.1
          rw [show clash (.list _) es = (_ != es.map kdD) from rfl, e1, e2] at f1
          exact absurd f1 (by simp)
      exact .lst (by rw [hd a ne]; exact hs) (DenL.off h hp hd hx f.2)
  | .tuple es, _, e, f => by
    unfold apart at f
    cases e with
    | @tup a xs _ hs hx =>
      have ne : a ≠ p := fun z => by
        rw [z, hp] at hs
        cases hs
        cases h
      exact .tup (by rw [hd a ne]; exact hs) (DenL.off h hp hd hx f)
  | .dict _, _, e, f => by unfold apart at f; cases f
theorem DenL.off (h : Held K G o d) (hp : G2 p = some o) (hd : ∀ x, x ≠ p → Gd x = G2 x) : ∀ {es : List Dt} {vs : List V}, DenL K G2 vs es → apartL d es = true → DenL K Gd vs es
  | [], _, e, _ => by cases e; exact .nil
  | x :: es, _, e, f => by
    unfold apartL at f
    rw [Bool.and_eq_true] at f
    cases e with
    | cons e1 e2 => exact .cons (Den.off h hp hd e1 f.1) (DenL.off h hp hd e2 f.2)
end
end
/-- slot i holds a thing at p that nothing else knows -/
structure OwnW [TabW] (K : PySem.W.Frag) (b : Addr) (β : Bag) (i : Nat) (p : Addr) (G H : Hp) (σ : L2.St) (ρ : Rho) (d : Dt) : Prop where
  env : EnvD K b β G H σ ρ
  slot : ρ[i]? = some none
  at_ : σ[i]? = some (some (.ref p))
  free : G p = none
  nb : β.isSome = true → p ≠ b
  val : ∃ o, H p = some o ∧ Held K G o d
def OutW [TabW] (K : PySem.W.Frag) (b : Addr) (m : Bool) (β' : Bag) (i : Nat) (p : Addr) (d' : Dt) (G H : Hp) (D : Ends) : Out → Prop
  | .nx ρ' => ∀ σ' G' H', Step b m G H G' H' → OwnW K b β' i p G' H' σ' ρ' d' → D.nx σ' H'
  | .brk ρ' => ∀ σ' G' H', Step b m G H G' H' → OwnW K b β' i p G' H' σ' ρ' d' → D.bk σ' H'
  | .ct ρ' => ∀ σ' G' H', Step b m G H G' H' → OwnW K b β' i p G' H' σ' ρ' d' → D.ct σ' H'
  | .ret x => ∀ v G' H', Step b m G H G' H' → BagOk b β' G' H' → Den K G' v x → D.rt v H'
/-- a statement; d' is held behind it -/
structure StW [TabW] (K : PySem.W.Frag) (i : Nat) (ts : TS) (ρ : Rho) (β : Bag) (d : Dt) (o : Out) (β' : Bag) (d' : Dt) : Prop where
  som : β'.isSome = β.isSome
  run : ∀ (b : Addr) (G0 H0 G H : Hp) (σ : L2.St) (p : Addr) (D : Ends), Gone H0 p → Step b β.isSome G0 H0 G H → OwnW K b β i p G H σ ρ d → OutW K b β.isSome β' i p d' G0 H0 D o → ts D σ H
/-- to the end: it is let go -/
structure StP [TabW] (K : PySem.W.Frag) (i : Nat) (ts : TS) (ρ : Rho) (β : Bag) (d : Dt) (o : Out) (β' : Bag) : Prop where
  som : β'.isSome = β.isSome
  run : ∀ (b : Addr) (G0 H0 G H : Hp) (σ : L2.St) (p : Addr) (D : Ends), Gone H0 p → Step b β.isSome G0 H0 G H → OwnW K b β i p G H σ ρ d → OutOk K b β.isSome β' G0 H0 D o → ts D σ H
/-- a part that may read it -/
structure EvW [TabW] (K : PySem.W.Frag) (i : Nat) (te : TE) (ρ : Rho) (β : Bag) (d x : Dt) (β' : Bag) : Prop where
  som : β'.isSome = β.isSome
  run : ∀ (b : Addr) (G H : Hp) (σ : L2.St) (p : Addr) (Q : VK), OwnW K b β i p G H σ ρ d → (∀ v G' H', Step b β.isSome G H G' H' → OwnW K b β' i p G' H' σ ρ d → Den K G' v x → Q v H') → te σ H Q
structure TtW [TabW] (K : PySem.W.Frag) (i : Nat) (tt : TT) (ρ : Rho) (β : Bag) (d : Dt) (c : Bool) (β' : Bag) : Prop where
  som : β'.isSome = β.isSome
  run : ∀ (b : Addr) (G H : Hp) (σ : L2.St) (p : Addr) (Q : Bool → Hp → Prop), OwnW K b β i p G H σ ρ d → (∀ G' H', Step b β.isSome G H G' H' → OwnW K b β' i p G' H' σ ρ d → Q c H') → tt σ H Q
section
variable [TabW] {K : PySem.W.Frag} {b : Addr} {ρ ρ1 ρ2 : Rho} {β β1 β2 β3 : Bag} {ta : TA} {te : TE} {tt : TT} {ts tu tv tw : TS} {d d1 d2 x : Dt} {ds : List Dt} {o : Out} {c : Bool} {i j : Nat} {G H G0 H0 G1 H1 G2 H2 : Hp} {σ : L2.St} {p : Addr}
theorem Step.mutM {m : Bool} {ob : HO} (s : Step b m G1 H1 G H) (h1 : Gone H1 p) (h2 : G p = none) (hl : MuAt H p) : Step b m G1 H1 G (upd H p ob) := by
  refine ⟨s.g, s.s.mut h2, s.fresh, fun a u n t h => ?_, fun a u t h => ?_, fun h => ⟨fun P q w => tab_updM ((s.tabs h).tab P q w) hl, (s.tabs h).free⟩⟩
  · rw [upd_ne (h1.ne t h)]
    exact s.keep a u n t h
  · rw [upd_ne (h1.ne t h)]
    exact s.stay a u t h
theorem EnvD.mutM {ob : HO} (E : EnvD K b β G H σ ρ) (h2 : G p = none) (nb : β.isSome = true → p ≠ b) (hl : MuAt H p) : EnvD K b β G (upd H p ob) σ ρ := ⟨E.sub.mut h2, E.bagk.mut nb, E.len, E.imm, E.bagv, ⟨fun P q w => tab_updM (E.tabs.tab P q w) hl, E.tabs.free⟩, E.fnv⟩
/-- it stays while other things are done -/
theorem OwnW.step (w : OwnW K b β i p G H σ ρ d) (s : Step b β.isSome G H G1 H1) (hb : BagOk b β1 G1 H1) (hm : β1.isSome = β.isSome) : OwnW K b β1 i p G1 H1 σ ρ d := by
  obtain ⟨o, hp, h⟩ := w.val
  exact ⟨w.env.step s hb, w.slot, w.at_, s.fresh p _ w.free h.nt hp, fun z => w.nb (hm ▸ z), o, s.keep p _ w.nb h.nt hp, h.mono s.g⟩
theorem OwnW.setJ {v : V} (w : OwnW K b β i p G H σ ρ d) (hij : i ≠ j) (h : Den K G v x) : OwnW K b β i p G H (σ.set j (some v)) (ρ.set j (some (.imm x))) d :=
  ⟨w.env.set h, by rw [List.getElem?_set_ne (Ne.symm hij)]; exact w.slot, by rw [List.getElem?_set_ne (Ne.symm hij)]; exact w.at_, w.free, w.nb, w.val⟩
/-- it is changed -/
theorem OwnW.put {ob : HO} (w : OwnW K b β i p G H σ ρ d) (h : Held K G ob d1) : OwnW K b β i p G (upd H p ob) σ ρ d1 := by
  obtain ⟨o, hp, h0⟩ := w.val
  exact ⟨w.env.mutM w.free w.nb (h0.mu hp), w.slot, w.at_, w.free, w.nb, ob, upd_same, h⟩
theorem OwnW.mu (w : OwnW K b β i p G H σ ρ d) : MuAt H p := by
  obtain ⟨o, hp, h0⟩ := w.val
  exact h0.mu hp
/-- its slot, told as an address -/
theorem OwnW.asFn (w : OwnW K b β i p G H σ ρ d) : EnvD K b β G H σ (ρ.set i (some (.fn p))) := by
  have E := w.env.setFn (i := i) (f := p)
  have e : σ.set i (some (.ref p)) = σ := by
    apply List.ext_getElem?
    intro n
    by_cases q : i = n
    · subst q
      rw [List.getElem?_set_self (List.getElem?_eq_some_iff.mp w.at_).1, w.at_]
    · rw [List.getElem?_set_ne q]
  rw [e] at E
  exact E
theorem EnvD.unFn {ρ : Rho} (hi : ρ[i]? = some none) (E : EnvD K b β G H σ (ρ.set i (some (.fn p)))) : EnvD K b β G H σ ρ := E.back hi
/-- seen as data -/
theorem OwnW.frozen (w : OwnW K b β i p G H σ ρ d) : ∃ o, H p = some o ∧ Held K G o d ∧ EnvD K b β (upd G p o) H σ (ρ.set i (some (.imm d))) := by
  obtain ⟨o, hp, h⟩ := w.val
  have ex : Ex G (upd G p o) := Ex.new w.free
  have E := w.env
  have E2 : EnvD K b β (upd G p o) H σ ρ := by
    refine ⟨fun a u z => ?_, fun ns e => ⟨(E.bagk ns e).1, ?_⟩, E.len, fun i d q => ?_, E.bagv, ⟨E.tabs.tab, fun x ps z => ?_⟩, E.fnv⟩
    · by_cases q : a = p
      · rw [q, upd_same] at z
        cases z
        rw [q]
        exact hp
      · rw [upd_ne q] at z
        exact E.sub a u z
    · rw [upd_ne (Ne.symm (w.nb (by rw [e]; rfl)))]
      exact (E.bagk ns e).2
    · obtain ⟨v, h1, h2⟩ := E.imm i d q
      exact ⟨v, h1, h2.mono ex⟩
    · by_cases q : x = p
      · rw [q, upd_same] at z; exact h.nt.1 ps (Option.some.inj z)
      · rw [upd_ne q] at z; exact E.tabs.free x ps z
  have E3 := E2.set (i := i) (v := .ref p) (d := d) ((h.mono ex).den upd_same)
  have e : σ.set i (some (.ref p)) = σ := by
    apply List.ext_getElem?
    intro n
    by_cases q : i = n
    · subst q
      rw [List.getElem?_set_self (List.getElem?_eq_some_iff.mp w.at_).1, w.at_]
    · rw [List.getElem?_set_ne q]
  rw [e] at E3
  exact ⟨o, hp, h, E3⟩
theorem ew_plain (h : ∀ p, EvB K te (ρ.set i (some (.fn p))) β x β1) : EvW K i te ρ β d x β1 := ⟨(h 0).som, fun b G H σ p Q w k => (h p).run b G H σ Q w.asFn fun v G1 H1 s1 k1 d1 => k v G1 H1 s1 (w.step s1 k1 (h 0).som) d1⟩
theorem tw_plain (h : ∀ p, TtB K tt (ρ.set i (some (.fn p))) β c β1) : TtW K i tt ρ β d c β1 := ⟨(h 0).som, fun b G H σ p Q w k => (h p).run b G H σ Q w.asFn fun G1 H1 s1 k1 => k G1 H1 s1 (w.step s1 k1 (h 0).som)⟩
theorem OutW.of {m : Bool} (h : OutW K b m β1 i p d1 G H D o) (s : Step b m G H G1 H1) : OutW K b m β1 i p d1 G1 H1 D o := by
  cases o with
  | nx r => exact fun σ' G' H' s' e => h σ' G' H' (s.trans s') e
  | brk r => exact fun σ' G' H' s' e => h σ' G' H' (s.trans s') e
  | ct r => exact fun σ' G' H' s' e => h σ' G' H' (s.trans s') e
  | ret d => exact fun v G' H' s' e dv => h v G' H' (s.trans s') e dv
theorem sw_next : StW K i tNext ρ β d (.nx ρ) β d := ⟨rfl, fun b G0 H0 G H σ p D gn s w k => k σ G H s w⟩
theorem sw_seq (h : StW K i tu ρ β d (.nx ρ1) β1 d1) (h' : StW K i tw ρ1 β1 d1 o β2 d2) : StW K i (tSeq tu tw) ρ β d o β2 d2 := ⟨h'.som.trans h.som, fun b G0 H0 G H σ p D gn s w k => h.run b G0 H0 G H σ p { D with nx := tw D } gn s w fun σ1 G1 H1 s1 w1 =>
  h'.run b G0 H0 G1 H1 σ1 p D gn (by rw [h.som]; exact s1) w1 (by rw [h.som]; exact k)⟩
theorem sw_if (h : TtW K i tt ρ β d c β1) (h1 : c = true → StW K i tu ρ β1 d o β2 d2) (h2 : c = false → StW K i tv ρ β1 d o β2 d2) : StW K i (tIfS tt tu tv) ρ β d o β2 d2 := by
  have m : β2.isSome = β1.isSome := by
    cases c with
    | true => exact (h1 rfl).som
    | false => exact (h2 rfl).som
  refine ⟨m.trans h.som, fun b G0 H0 G H σ p D gn s w k => h.run b G H σ p _ w fun G1 H1 s1 w1 => ?_⟩
  cases c with
  | true =>
    rw [if_pos rfl]
    exact (h1 rfl).run b G0 H0 G1 H1 σ p D gn (by rw [h.som]; exact s.trans s1) w1 (by rw [h.som]; exact k)
  | false =>
    rw [if_neg (by decide)]
    exact (h2 rfl).run b G0 H0 G1 H1 σ p D gn (by rw [h.som]; exact s.trans s1) w1 (by rw [h.som]; exact k)
theorem sw_ifF (h : TtW K i tt ρ β d false β1) (h1 : StW K i tv ρ β1 d o β2 d2) : StW K i (tIfS tt tu tv) ρ β d o β2 d2 := sw_if h (fun z => by cases z) fun _ => h1
theorem sw_app (h : EvB K te ρ β x β1) (hz : ds.length ≤ 50000) : StW K i (tDrop (tBM K "list" rAppend (tVar i) (tCons te tNil))) ρ β (.list ds) (.nx ρ) β1 (.list (ds ++ [x])) := by
  refine ⟨h.som, fun b G0 H0 G H σ p D gn s w k => ?_⟩
  obtain ⟨u, hp, hu⟩ := w.val
  cases hu with
  | @lst ws _ hd =>
    refine ⟨_, w.at_, .inl ⟨rfl, ws, sq_of hp⟩, ?_⟩
    refine h.run b G H σ _ w.env fun y G1 H1 s1 k1 d1 => ?_
    have w1 := w.step s1 k1 h.som
    have hp1 : H1 p = some (.lst ws) := s1.keep p _ w.nb NoT.lst hp
    have hl := hd.length
    refine ⟨p, ws, y, rfl, rfl, hp1, sz_lt (by omega), ?_⟩
    exact k σ G1 _ ((s.trans s1).mutM gn w1.free w1.mu) (w1.put (.lst ((hd.mono s1.g).append (.cons d1 .nil))))
end
inductive ForW [TabW] (K : PySem.W.Frag) (i j : Nat) (tu : TS) : List Dt → Rho → Bag → Dt → Out → Bag → Dt → Prop
  | nil (ρ : Rho) (β : Bag) (d : Dt) : ForW K i j tu [] ρ β d (.nx ρ) β d
  | nx {x : Dt} {xs : List Dt} {ρ ρ1 : Rho} {β β1 β2 : Bag} {d d1 d2 : Dt} {o : Out} : StW K i tu (ρ.set j (some (.imm x))) β d (.nx ρ1) β1 d1 → ForW K i j tu xs ρ1 β1 d1 o β2 d2 → ForW K i j tu (x :: xs) ρ β d o β2 d2
  | ct {x : Dt} {xs : List Dt} {ρ ρ1 : Rho} {β β1 β2 : Bag} {d d1 d2 : Dt} {o : Out} : StW K i tu (ρ.set j (some (.imm x))) β d (.ct ρ1) β1 d1 → ForW K i j tu xs ρ1 β1 d1 o β2 d2 → ForW K i j tu (x :: xs) ρ β d o β2 d2
  | brk {x : Dt} {xs : List Dt} {ρ ρ1 : Rho} {β β1 : Bag} {d d1 : Dt} : StW K i tu (ρ.set j (some (.imm x))) β d (.brk ρ1) β1 d1 → ForW K i j tu (x :: xs) ρ β d (.nx ρ1) β1 d1
  | ret {x r : Dt} {xs : List Dt} {ρ : Rho} {β β1 : Bag} {d d1 : Dt} : StW K i tu (ρ.set j (some (.imm x))) β d (.ret r) β1 d1 → ForW K i j tu (x :: xs) ρ β d (.ret r) β1 d1
section
variable [TabW] {K : PySem.W.Frag} {b : Addr} {ρ ρ1 ρ2 : Rho} {β β1 β2 β3 : Bag} {ta : TA} {te : TE} {tt : TT} {ts tu tv tw : TS} {d d1 d2 x : Dt} {ds es : List Dt} {o : Out} {c : Bool} {i j : Nat} {G H G0 H0 G1 H1 G2 H2 : Hp} {σ : L2.St} {p : Addr}
theorem ForW.som (h : ForW K i j tu es ρ β d o β2 d2) : β2.isSome = β.isSome := by
  induction h with
  | nil => rfl
  | nx h _ ih => exact ih.trans h.som
  | ct h _ ih => exact ih.trans h.som
  | brk h => exact h.som
  | ret h => exact h.som
theorem tab_off {p P : Addr} {q : Str} {H : Hp} (h : LamX.TabS H P q) (hl : MuAt H p) : LamX.TabS (fun x => if x = p then none else H x) P q := by
  obtain ⟨ps, h1, h2, h3⟩ := h
  refine ⟨ps, ?_, h2, fun pos cv hc => ?_⟩
  · dsimp only
    rw [if_neg fun z => ?_]
    · exact h1
    · rw [← z] at hl
      rcases hl _ h1 with ⟨_, e⟩ | ⟨_, e⟩ | ⟨_, _, _, e⟩ | ⟨_, e⟩ <;> cases e
  · obtain ⟨c, e1, e2⟩ := h3 pos cv hc
    refine ⟨c, e1, ?_⟩
    dsimp only
    rw [if_neg fun z => ?_]
    · exact e2
    · rw [← z] at hl
      rcases hl _ e2 with ⟨_, e⟩ | ⟨_, e⟩ | ⟨_, _, _, e⟩ | ⟨_, e⟩ <;> (unfold LamX.CodeO at e; cases e)
/-- the state without it -/
theorem OwnW.base {m : Bool} (w : OwnW K b β i p G1 H1 σ ρ d) (gn : Gone H0 p) (s : Step b m G0 H0 G1 H1) : ∃ Hb, Gone Hb p ∧ Step b m G0 H0 G1 Hb ∧ Step b m G1 Hb G1 H1 := by
  obtain ⟨Hb, hb⟩ : ∃ Hb : Hp, Hb = fun x => if x = p then none else H1 x := ⟨_, rfl⟩
  have b_p : Hb p = none := by rw [hb]; exact if_pos rfl
  have b_ne : ∀ {x}, x ≠ p → Hb x = H1 x := fun hx => by rw [hb]; exact if_neg hx
  have b_of : ∀ {x u}, Hb x = some u → H1 x = some u := fun {x u} h => by
    by_cases z : x = p
    · rw [z, b_p] at h; cases h
    · rw [← b_ne z]; exact h
  have ex : Ex G1 Hb := fun x u h => by
    have z : x ≠ p := fun z => by rw [z, w.free] at h; cases h
    rw [b_ne z]
    exact w.env.sub x u h
  refine ⟨Hb, Gone.none b_p, ⟨s.g, ex, s.fresh, fun x o n t h => by rw [b_ne (gn.ne t h)]; exact s.keep x o n t h, fun x o t h => ?_, fun t => ?_⟩, ⟨Ex.refl _, w.env.sub, fun x o h _ _ => h, fun x o _ _ h => b_of h, fun x o t h => ⟨o, t, b_of h⟩, fun _ => w.env.tabs⟩⟩
  · rw [b_ne (gn.ne t h)]
    exact s.stay x o t h
  · have t1 := s.tabs t
    exact ⟨fun P q hw => by rw [hb]; exact tab_off (t1.tab P q hw) w.mu, t1.free⟩
theorem forW_turn {D : Ends} {m : Bool} {v : V} {N : L2.St → Hp → Prop} (hm : m = β.isSome) (hij : i ≠ j) (h : ForW K i j tu (x :: es) ρ β d o β2 d2) (w : OwnW K b β i p G H σ ρ d) (dv : Den K G v x) (gn : Gone H0 p)
    (s : Step b m G0 H0 G H) (k : OutW K b m β2 i p d2 G0 H0 D o) (hN : ∀ σ' G' H' ρ' β' d', Step b m G0 H0 G' H' → β'.isSome = m → OwnW K b β' i p G' H' σ' ρ' d' → ForW K i j tu es ρ' β' d' o β2 d2 → N σ' H') :
    tu { D with nx := N, ct := N, bk := D.nx } (σ.set j (some v)) H := by
  have w' := w.setJ hij dv
  subst hm
  cases h with
  | nx h hr => exact h.run b G0 H0 G H _ p _ gn s w' fun σ' G' H' s' e => hN σ' G' H' _ _ _ s' h.som e hr
  | ct h hr => exact h.run b G0 H0 G H _ p _ gn s w' fun σ' G' H' s' e => hN σ' G' H' _ _ _ s' h.som e hr
  | brk h => exact h.run b G0 H0 G H _ p _ gn s w' fun σ' G' H' s' e => k σ' G' H' s' e
  | ret h => exact h.run b G0 H0 G H _ p _ gn s w' fun v G' H' s' e dv => k v G' H' s' e dv
theorem drop_of {es : List Dt} {n : Nat} {y : Dt} (h : es[n]? = some y) : es.drop n = y :: es.drop (n + 1) := by
  obtain ⟨hlt, he⟩ := List.getElem?_eq_some_iff.mp h
  rw [← he]
  exact List.drop_eq_getElem_cons hlt
/-- what is walked, a list or a tuple, by the walk's own iterator -/
abbrev WalkI (J : It) (tu : TS) (j : Nat) (D : Ends) (σ : L2.St) (H : Hp) : Prop := ∃ W : Nat → Nat → L2.St → Hp → Prop, (∃ m, W 0 m σ H) ∧ ∀ i m σ H, W i m σ H →
  (J.stop i H ∧ D.nx σ H) ∨ (J.go i H ∧ ∃ N : L2.St → Hp → Prop, (∀ σ' H', N σ' H' → ∃ m', m' < m ∧ W (i + 1) m' σ' H') ∧ ∀ x H', J.yld i H x H' → gName j x σ H' fun σ2 H2 => tu { D with nx := N, ct := N, bk := D.nx } σ2 H2)
theorem walkL {D : Ends} {a : Addr} {xs : List V} {m : Bool} (hm : m = β.isSome) (hij : i ≠ j) (w : OwnW K b β i p G H σ ρ d) (hs : G a = some (.lst xs)) (hd : DenL K G xs es) (gn : Gone H0 p) (s : Step b m G0 H0 G H) (h : ForW K i j tu es ρ β d o β2 d2) (k : OutW K b m β2 i p d2 G0 H0 D o) :
    WalkI (Itl K a) tu j D σ H := by
  obtain ⟨Hb, gb, sb, sc⟩ := w.base gn s
  have kb := k.of sb
  refine for_list (K := K) (a := a) (xs := xs) (fun n σ' H' => ∃ G' ρ' β' d', Step b m G Hb G' H' ∧ β'.isSome = m ∧ OwnW K b β' i p G' H' σ' ρ' d' ∧ ForW K i j tu (es.drop n) ρ' β' d' o β2 d2) ?_ ?_ ?_ ?_
  · exact ⟨G, ρ, β, d, sc, hm.symm, w, h⟩
  · rintro n σ' H' _ ⟨G', ρ', β', d', s', m', w', _⟩
    exact sq_of (w'.env.sub _ _ (s'.g _ _ hs))
  · rintro n v σ' H' hi ⟨G', ρ', β', d', s', m', w', r'⟩
    obtain ⟨y, hd1, hd2⟩ := hd.get hi
    rw [drop_of hd1] at r'
    exact forW_turn m'.symm hij r' w' (hd2.mono s'.g) gb s' kb fun σ2 G2 H2 ρ2 β2' d2' s2 m2 w2 r2 => ⟨G2, ρ2, β2', d2', s2, m2, w2, r2⟩
  · rintro σ' H' ⟨G', ρ', β', d', s', m', w', r'⟩
    rw [hd.length, List.drop_length] at r'
    cases r'
    exact kb σ' G' H' s' w'
theorem sw_forL {tl : TE} (hij : i ≠ j) (hl : EvW K i tl ρ β d (.list es) β1) (h : ForW K i j tu es ρ β1 d o β2 d2) : StW K i (tFor (iList K tl) (gName j) tu) ρ β d o β2 d2 := by
  refine ⟨h.som.trans hl.som, fun b G0 H0 G H σ p D gn s w k => ?_⟩
  refine hl.run b G H σ p _ w fun v G1 H1 s1 w1 dv => ?_
  have s01 := s.trans s1
  cases dv with
  | @lst a xs _ hs hd => exact ⟨a, rfl, ⟨xs, sq_of (w1.env.sub _ _ hs)⟩, walkL hl.som.symm hij w1 hs hd gn s01 h k⟩
theorem sw_forR1 {n : Int} (hij : i ≠ j) (hl : EvW K i te ρ β d (.int n) β1) (hb : -(2 ^ 62) ≤ n ∧ n < 2 ^ 62) (h : ForW K i j tu (rng 0 n.toNat) ρ β1 d o β2 d2) : StW K i (tFor (iRng1 (tCons te tNil)) (gName j) tu) ρ β d o β2 d2 := by
  refine ⟨h.som.trans hl.som, fun b G0 H0 G H σ p D gn s w k => ?_⟩
  refine hl.run b G H σ p _ w fun v G1 H1 s1 w1 dv => ?_
  cases dv
  have s01 := s.trans s1
  refine ⟨n, rfl, hb.1, hb.2, ?_⟩
  refine for_range (lo := 0) (n := n.toNat) (fun m σ' H' => ∃ G' ρ' β' d', Step b β.isSome G0 H0 G' H' ∧ β'.isSome = β.isSome ∧ OwnW K b β' i p G' H' σ' ρ' d' ∧ ForW K i j tu ((rng 0 n.toNat).drop m) ρ' β' d' o β2 d2) ?_ ?_ ?_
  · exact ⟨G1, ρ, β1, d, s01, hl.som, w1, h⟩
  · rintro m σ' H' hm ⟨G', ρ', β', d', s', m', w', r'⟩
    rw [rng_drop hm] at r'
    exact forW_turn m'.symm hij r' w' (.int _) gn s' k fun σ2 G2 H2 ρ2 β2' d2' s2 m2 w2 r2 => ⟨G2, ρ2, β2', d2', s2, m2, w2, r2⟩
  · rintro σ' H' ⟨G', ρ', β', d', s', m', w', r'⟩
    have e : (rng 0 n.toNat).drop n.toNat = [] := by rw [List.drop_eq_nil_iff, rng_length]; exact Nat.le_refl _
    rw [e] at r'
    cases r'
    exact k σ' G' H' s' w'
/-- a loop whose turns keep a form of what is told -/
theorem ForW.keep {F : Nat → Rho → Dt → Prop} : ∀ {es : List Dt} {n : Nat} {ρ : Rho} {d : Dt}, F n ρ d → (∀ m x ρ d, es[m]? = some x → F (n + m) ρ d → ∃ ρ1 d1, (StW K i tu (ρ.set j (some (.imm x))) β d (.nx ρ1) β d1 ∨ StW K i tu (ρ.set j (some (.imm x))) β d (.ct ρ1) β d1) ∧ F (n + m + 1) ρ1 d1) →
    ∃ ρ' d', ForW K i j tu es ρ β d (.nx ρ') β d' ∧ F (n + es.length) ρ' d'
  | [], n, ρ, d, h, _ => ⟨ρ, d, .nil _ _ _, h⟩
  | x :: es, n, ρ, d, h, hs => by
    obtain ⟨ρ1, d1, h1, h2⟩ := hs 0 x ρ d rfl h
    obtain ⟨ρ', d', h3, h4⟩ := ForW.keep (F := F) (es := es) (n := n + 1) h2 fun m y ρ d hy hF => by
      have := hs (m + 1) y ρ d (by simpa using hy) (by rw [show n + (m + 1) = n + 1 + m by omega]; exact hF)
      rw [show n + (m + 1) + 1 = n + 1 + m + 1 by omega] at this
      exact this
    rw [List.length_cons, show n + (es.length + 1) = n + 1 + es.length by omega]
    rcases h1 with h1 | h1
    · exact ⟨ρ', d', .nx h1 h3, h4⟩
    · exact ⟨ρ', d', .ct h1 h3, h4⟩
theorem sp_end (h : StB K tw (ρ.set i (some (.imm d))) β o β1) : StP K i tw ρ β d o β1 := by
  refine ⟨h.som, fun b G0 H0 G H σ p D gn s w k => ?_⟩
  obtain ⟨u, hp, hu, E⟩ := w.frozen
  have s2 : Step b β.isSome G0 H0 (upd G p u) H := by
    refine ⟨s.g.trans (Ex.new w.free), fun a v z => E.sub a v z, fun a v h1 t h2 => ?_, s.keep, s.stay, fun t => ⟨(s.tabs t).tab, fun x ps z => ?_⟩⟩
    · rw [upd_ne (gn.ne t h2)]
      exact s.fresh a v h1 t h2
    · by_cases q : x = p
      · rw [q, upd_same] at z; exact hu.nt.1 ps (Option.some.inj z)
      · rw [upd_ne q] at z; exact (s.tabs t).free x ps z
  exact h.run b _ H σ D E (k.of (D' := D) s2)
theorem sp_seq (h : StW K i tu ρ β d (.nx ρ1) β1 d1) (h' : StP K i tw ρ1 β1 d1 o β2) : StP K i (tSeq tu tw) ρ β d o β2 := ⟨h'.som.trans h.som, fun b G0 H0 G H σ p D gn s w k => h.run b G0 H0 G H σ p { D with nx := tw D } gn s w fun σ1 G1 H1 s1 w1 =>
  h'.run b G0 H0 G1 H1 σ1 p D gn (by rw [h.som]; exact s1) w1 (by rw [h.som]; exact k)⟩
end
/-- a part that makes a new thing -/
structure EvN [TabW] (K : PySem.W.Frag) (te : TE) (ρ : Rho) (β : Bag) (d : Dt) (β' : Bag) : Prop where
  som : β'.isSome = β.isSome
  run : ∀ (b : Addr) (G H : Hp) (σ : L2.St) (Q : VK), EnvD K b β G H σ ρ → (∀ p u G1 H1 Hb, Step b β.isSome G H G1 Hb → Gone Hb p → Step b β.isSome G1 Hb G1 H1 → BagOk b β' G1 H1 → G1 p = none → (β'.isSome = true → p ≠ b) → H1 p = some u → Held K G1 u d → Q (.ref p) H1) → te σ H Q
section
variable [TabW] {K : PySem.W.Frag} {b : Addr} {ρ ρ1 ρ2 : Rho} {β β1 β2 β3 : Bag} {ta : TA} {te tl : TE} {tt : TT} {ts tu tv tw : TS} {d d1 d2 x : Dt} {ds es rs : List Dt} {o : Out} {c : Bool} {i j : Nat} {G H G0 H0 G1 H1 G2 H2 : Hp} {σ : L2.St} {p : Addr}
theorem st_own (hi : i < ρ.length) (h : EvN K te ρ β d β1) (h' : StP K i tw (ρ.set i none) β1 d o β2) : StB K (tSeq (tAsg te (gName i)) tw) ρ β o β2 := by
  refine ⟨h'.som.trans h.som, fun b G H σ D E k => ?_⟩
  refine h.run b G H σ _ E fun p u G1 H1 Hb s0 gn s1 k1 gp nb hp hu => ?_
  have E1 : EnvD K b β1 G1 H1 σ ρ := E.step (s0.trans s1) k1
  have hil : i < σ.length := by rw [E.len]; exact hi
  refine h'.run b G1 Hb G1 H1 _ p D gn (by rw [h.som]; exact s1) ⟨E1.forget, List.getElem?_set_self hi, List.getElem?_set_self hil, gp, nb, u, hp, hu⟩ ?_
  rw [h.som]
  exact k.of (D' := D) s0
/-- made anew in the state as it stands -/
theorem evN_of {u : HO} {m : Bool} (kb : BagOk b β1 G1 H1) (e : Ex G1 H1) (hm : β1.isSome = m) (hp : H1 p = none) (h : Held K G1 u d) {Q : VK} (k : ∀ p u G2 H2 Hb, Step b m G1 H1 G2 Hb → Gone Hb p → Step b m G2 Hb G2 H2 → BagOk b β1 G2 H2 → G2 p = none → (β1.isSome = true → p ≠ b) → H2 p = some u → Held K G2 u d → Q (.ref p) H2) : Q (.ref p) (upd H1 p u) := by
  have gp : G1 p = none := fresh_back e hp
  have nb : β1.isSome = true → p ≠ b := bag_ne kb rfl hp
  exact k p u G1 _ H1 (Step.refl e) (Gone.none hp) ((Step.refl e).mutM (Gone.none hp) gp (MuAt.none hp)) (kb.mut nb) gp nb upd_same h
theorem EvN.of {Q : VK} (s : Step b β.isSome G H G1 H1) (hm : β1.isSome = β.isSome) (k : ∀ p u G2 H2 Hb, Step b β.isSome G H G2 Hb → Gone Hb p → Step b β.isSome G2 Hb G2 H2 → BagOk b β1 G2 H2 → G2 p = none → (β1.isSome = true → p ≠ b) → H2 p = some u → Held K G2 u d → Q (.ref p) H2) :
    ∀ p u G2 H2 Hb, Step b β.isSome G1 H1 G2 Hb → Gone Hb p → Step b β.isSome G2 Hb G2 H2 → BagOk b β1 G2 H2 → G2 p = none → (β1.isSome = true → p ≠ b) → H2 p = some u → Held K G2 u d → Q (.ref p) H2 :=
  fun p u G2 H2 Hb s0 gn s1 => k p u G2 H2 Hb (s.trans s0) gn s1
theorem en_lst (h : EvA K ta ρ β (imms ds) β1) (hz : ds.length ≤ 100000) : EvN K (tLst ta) ρ β (.list ds) β1 := ⟨h.som, fun b G H σ Q E k => h.run b G H σ _ E fun vs G1 H1 s1 k1 d1 => by
  have dl := d1.imm
  have hl := dl.length
  exact ⟨sz_of (by omega), fun p hp => evN_of k1 s1.s h.som hp (.lst dl) (EvN.of s1 h.som k)⟩⟩
end
end TD
set_option Elab.async false
set_option linter.all false
set_option maxRecDepth 100000
set_option maxHeartbeats 4100100
namespace TD
open PySem L2 PySem.Spec PyProof.Rows
open Evl (Ex ex_l ex_t fresh_back sq_of st_of sz_of sz_lt)
def getF : List (Dt × Dt) → Str → Option Dt
  | [], _ => none
  | (.str g, d) :: ps, f => if f == g then some d else getF ps f
  | _ :: ps, f => getF ps f
section
variable {K : PySem.W.Frag} {G : Hp}
theorem DenF.look : ∀ {fs : List (Str × V)} {ps : List (Dt × Dt)}, DenF K G fs ps → ∀ f : Str, (∀ d, getF ps f = some d → ∃ v, fs.lookup f = some v ∧ Den K G v d) ∧ (getF ps f = none → fs.lookup f = none)
  | [], [], _, f => ⟨fun _ h => (nomatch h), fun _ => rfl⟩
  | [], _ :: _, h, _ => (nomatch h)
  | _ :: _, [], h, _ => (nomatch h)
  | (g, v) :: fs, _, .cons (d := d) (ps := ps) h1 h2, f => by
    show (∀ d', (if f == g then some d else getF ps f) = some d' → ∃ u, List.lookup f ((g, v) :: fs) = some u ∧ Den K G u d') ∧ ((if f == g then some d else getF ps f) = none → List.lookup f ((g, v) :: fs) = none)
    rw [List.lookup_cons]
    cases f == g with
    | true => exact ⟨fun d' e => ⟨v, rfl, by cases e; exact h1⟩, fun e => (nomatch e)⟩
    | false => exact DenF.look h2 f
theorem DenF.length : ∀ {fs : List (Str × V)} {ps : List (Dt × Dt)}, DenF K G fs ps → fs.length = ps.length
  | [], [], _ => rfl
  | [], _ :: _, h => nomatch h
  | _ :: _, [], h => nomatch h
  | _ :: _, _ :: _, .cons _ h => congrArg (· + 1) h.length
/-- one more attribute -/
theorem DenF.put {f : Str} {v : V} {d : Dt} (hv : Den K G v d) : ∀ {fs : List (Str × V)} {ps : List (Dt × Dt)}, DenF K G fs ps → getF ps f = none → DenF K G (putF f v fs) (ps ++ [(.str f, d)])
  | [], [], _, _ => .cons hv .nil
  | [], _ :: _, h, _ => (nomatch h)
  | _ :: _, [], h, _ => (nomatch h)
  | (g, x) :: fs, _, .cons (d := d0) (ps := ps) h1 h2, hn => by
    have hn : (if f == g then some d0 else getF ps f) = none := hn
    have ne : ¬ g = f := fun z => by
      rw [z, beq_self_eq_true] at hn
      cases hn
    have hn2 : getF ps f = none := by
      split at hn
      · cases hn
      · exact hn
    show DenF K G (if g = f then (g, v) :: fs else (g, x) :: putF f v fs) _
    rw [if_neg ne]
    exact .cons h1 (DenF.put hv h2 hn2)
/-- what is told as an object is one -/
theorem den_ins {v : V} {i : Int} {ps : List (Dt × Dt)} (h : Den K G v (.dict ((.none, .int i) :: ps))) : ∃ (a C dx : Addr) (fs : List (Str × V)), v = .ref a ∧ i = ((C : Nat) : Int) ∧ InsK K C ∧ G a = some (.ins C dx fs) ∧ DenF K G fs ps := by
  cases h with
  | ins hc hs hp => exact ⟨_, _, _, _, rfl, rfl, hc, hs, hp⟩
theorem den_oD {v : V} {C : Addr} {ps : List (Dt × Dt)} (h : Den K G v (oD C ps)) : ∃ (a dx : Addr) (fs : List (Str × V)), v = .ref a ∧ InsK K C ∧ G a = some (.ins C dx fs) ∧ DenF K G fs ps := by
  obtain ⟨a, C', dx, fs, e, z, hc, hs, hp⟩ := den_ins h
  obtain rfl : C = C' := Int.ofNat.inj z
  exact ⟨a, dx, fs, e, hc, hs, hp⟩
end
section
variable [TabW] {K : PySem.W.Frag} {b : Addr} {ρ ρ1 : Rho} {β β1 β2 : Bag} {ta te : TE} {t : TA} {ts tu tw : TS} {d x : Dt} {C : Addr} {ps : List (Dt × Dt)} {f m : Str} {as : List Slot} {r : Dt} {E : XK} {i j : Nat} {o : Out} {G H G0 H0 G1 H1 : Hp} {σ : L2.St} {p : Addr}
theorem d_fld (h : EvB K te ρ β (oD C ps) β1) (hn : NoAttr K C f) (hf : getF ps f = some d) : EvB K (tFld K te f) ρ β d β1 := ⟨h.som, fun b G H σ Q E k => h.run b G H σ _ E fun v G1 H1 s1 k1 d1 => by
  obtain ⟨a, dx, fs, rfl, hc, hs, hp⟩ := den_oD d1
  obtain ⟨v, hv, dv⟩ := (hp.look f).1 d hf
  exact ⟨a, C, dx, fs, v, rfl, s1.s _ _ hs, hc.ic.cl, hn, hv, k v G1 H1 s1 k1 dv⟩⟩
theorem x_meth {R : FX} (h : EvB K te ρ β (oD C ps) β1) (hm : getF ps m = none) (ha : EvA K t ρ β1 as β2) (hR : R (.imm (oD C ps) :: as) none (.ok r) none) : EvB K (tMeth C m (spX K R) [] E te t) ρ β r β2 := ⟨ha.som.trans h.som, fun b G H σ Q E' k => h.run b G H σ _ E' fun v G1 H1 s1 k1 d1 => by
  obtain ⟨a, dx, fs, rfl, hc, hs, hp⟩ := den_oD d1
  have E1 := E'.step s1 k1
  refine ⟨a, dx, fs, rfl, s1.s _ _ hs, (hp.look m).2 hm, ha.run b G1 H1 σ _ E1 fun vs G2 H2 s2 k2 d2 => ?_⟩
  rw [List.append_nil]
  exact ⟨b, G2, none, .imm (oD C ps) :: as, .ok r, none, s2.s, (E1.step s2 k2).tabs, (fun _ z => nomatch z), .cons (d1.mono s2.g) d2, hR, rfl, fun w G3 H3 s3 k3 d3 => k w G3 H3 ((s1.trans (h.som ▸ s2)).trans s3.up) (k2.same s3) d3⟩⟩
theorem x_methR {R : FX} {D : Addr} {kp : Kept} (h : EvB K te ρ β (oD C ps) β1) (hm : getF ps m = none) (ha : EvA K t ρ β1 as β2) (hR : R (.imm (oD C ps) :: as) none (.ex D kp) none) : EvR K E (tMeth C m (spX K R) [] E te t) ρ β D kp β2 := ⟨ha.som.trans h.som, fun b G H σ Q E' k => h.run b G H σ _ E' fun v G1 H1 s1 k1 d1 => by
  obtain ⟨a, dx, fs, rfl, hc, hs, hp⟩ := den_oD d1
  have E1 := E'.step s1 k1
  refine ⟨a, dx, fs, rfl, s1.s _ _ hs, (hp.look m).2 hm, ha.run b G1 H1 σ _ E1 fun vs G2 H2 s2 k2 d2 => ?_⟩
  rw [List.append_nil]
  exact ⟨b, G2, none, .imm (oD C ps) :: as, .ex D kp, none, s2.s, (E1.step s2 k2).tabs, (fun _ z => nomatch z), .cons (d1.mono s2.g) d2, hR, rfl, fun w G3 H3 s3 k3 ka => k w G3 H3 ((s1.trans (h.som ▸ s2)).trans s3.up) (k2.same s3) ka⟩⟩
/-- a property -/
theorem d_prop {R : FR} (h : EvB K te ρ β (oD C ps) β1) (hR : R [.imm (oD C ps)] none r none) : EvB K (tProp C (spR K R) [] E te) ρ β r β1 := ⟨h.som, fun b G H σ Q E' k => h.run b G H σ _ E' fun v G1 H1 s1 k1 d1 => by
  have d1' := d1
  obtain ⟨a, dx, fs, rfl, hc, hs, hp⟩ := den_oD d1
  exact ⟨a, dx, fs, rfl, s1.s _ _ hs, b, G1, none, [.imm (oD C ps)], r, none, s1.s, (E'.step s1 k1).tabs, (fun _ z => nomatch z), .cons d1' .nil, hR, rfl, fun w G3 H3 s3 k3 d3 => k w G3 H3 (s1.trans s3.up) (k1.same s3) d3⟩⟩
theorem sw_fld (h : EvW K i te ρ β (oD C ps) d β1) (hn : NoAttr K C f) (hf : getF ps f = none) (hz : ps.length < 1000) : StW K i (sFld K (tVar i) te f) ρ β (oD C ps) (.nx ρ) β1 (oD C (ps ++ [(.str f, d)])) := ⟨h.som, fun b G0 H0 G H σ p D gn s w k => h.run b G H σ p _ w fun v G1 H1 s1 w1 dv => by
  obtain ⟨ob, hp, hd⟩ := w1.val
  cases hd with
  | @ins C' dx fs ps' hc hF =>
    refine ⟨_, w1.at_, p, C, dx, fs, rfl, hp, hc.ic.cl, hn, by rw [hF.length]; exact hz, ?_⟩
    have s2 := s.trans s1
    have g1 : Gone H0 p := gn
    exact k σ G1 _ (s2.mutM g1 w1.free w1.mu) (w1.put (.ins hc (hF.put dv hf)))⟩
inductive ResI where
  | ok (ps : List (Dt × Dt))
  | ex (C : Addr) (k : Kept)
abbrev FI := List Slot → Bag → ResI → Bag → Prop
def ToI (K : PySem.W.Frag) (b : Addr) (m : Bool) (β' : Bag) (G H0 : Hp) (Q : VK) (E : XK) (C x : Addr) : ResI → Prop
  | .ok ps => ∀ G' H', Step b m G H0 G' H' → BagOk b β' G' H' → Den K G' (.ref x) (oD C ps) → Q .non H'
  | .ex D k => ExTo K b m β' G H0 E D k
def spI (K : PySem.W.Frag) (C : Addr) (R : FI) : Sp := fun vs H Q E => ∃ (b : Addr) (G H0 : Hp) (β : Bag) (as : List Slot) (r : ResI) (β' : Bag) (x dx : Addr) (ws : List V), vs = .ref x :: ws ∧ H0 x = none ∧ H0 dx = none ∧ dx ≠ x ∧ H = upd (upd H0 dx (.own x)) x (.ins C dx []) ∧
  Ex G H0 ∧ TabsOk G H0 ∧ BagOk b β G H0 ∧ DenSs K b G ws as ∧ R as β r β' ∧ β'.isSome = β.isSome ∧ ToI K b β.isSome β' G H0 Q E C x r
theorem x_new {R : FI} (ha : EvA K t ρ β as β1) (hR : R as none (.ok ps) none) : EvB K (tMake C (spI K C R) [] E t) ρ β (oD C ps) β1 := ⟨ha.som, fun b G H σ Q E' k => ha.run b G H σ _ E' fun vs G1 H1 s1 k1 d1 x dx hx hdx ne => by
  rw [List.append_nil]
  exact ⟨b, G1, H1, none, as, .ok ps, none, x, dx, vs, rfl, hx, hdx, ne, rfl, s1.s, (E'.step s1 k1).tabs, (fun _ z => nomatch z), d1, hR, rfl, fun G2 H2 s2 k2 d2 => ⟨rfl, k (.ref x) G2 H2 (s1.trans s2.up) (k1.same s2) d2⟩⟩⟩
theorem x_newR {R : FI} {D : Addr} {kp : Kept} (ha : EvA K t ρ β as β1) (hR : R as none (.ex D kp) none) : EvR K E (tMake C (spI K C R) [] E t) ρ β D kp β1 := ⟨ha.som, fun b G H σ Q E' k => ha.run b G H σ _ E' fun vs G1 H1 s1 k1 d1 x dx hx hdx ne => by
  rw [List.append_nil]
  exact ⟨b, G1, H1, none, as, .ex D kp, none, x, dx, vs, rfl, hx, hdx, ne, rfl, s1.s, (E'.step s1 k1).tabs, (fun _ z => nomatch z), d1, hR, rfl, fun w G2 H2 s2 k2 ka => k w G2 H2 (s1.trans s2.up) (k1.same s2) ka⟩⟩
/-- the slots at the start: self, the arguments, the rest -/
def startI (N : List Str) (as : List Slot) : Rho := none :: (as.map some ++ List.replicate (N.length - (as.length + 1)) none)
inductive BodyI (K : PySem.W.Frag) (E : XK) (C : Addr) (t : TS) (ρ : Rho) (β β' : Bag) : ResI → Prop
  | ok {ps : List (Dt × Dt)} (ρ' : Rho) : StW K 0 t ρ β (oD C []) (.nx ρ') β' (oD C ps) → BodyI K E C t ρ β β' (.ok ps)
  | ex {D : Addr} {k : Kept} : (∀ p, StR K E t (ρ.set 0 (some (.fn p))) β D k β') → BodyI K E C t ρ β β' (.ex D k)
theorem step_made {m : Bool} {x dx : Addr} (e : Ex G H) (hx : H x = none) (hdx : H dx = none) : Step b m G H G (upd (upd H dx (.own x)) x (.ins C dx [])) := by
  have ext : Ex H (upd (upd H dx (.own x)) x (.ins C dx [])) := fun a u h => by
    rw [upd_ne (ne_of_none h hx), upd_ne (ne_of_none h hdx)]
    exact h
  exact ⟨Ex.refl G, e.trans ext, fun _ _ h _ _ => h, fun a u _ _ h => ext a u h, fun a u t h => ⟨u, t, ext a u h⟩, fun h => ⟨fun P q w => (h.tab P q w).ext ext, h.free⟩⟩
theorem init_read {R : FI} {N : List Str} {t : TS} {vs : List V} {Q : VK} (hc : InsK K C) (h : ∀ as β r β', R as β r β' → BodyI K E C t (startI N as) β β' r) (hsp : spI K C R vs H Q E) : t { nx := fun _ H' => Q .non H', rt := Q } (L2.start N vs) H := by
  obtain ⟨b, G, H0, β, as, r, β', x, dx, ws, rfl, hx, hdx, ne, rfl, e, tb, kb, ha, hR, hm, kk⟩ := hsp
  have s0 : Step b β.isSome G H0 G (upd (upd H0 dx (.own x)) x (.ins C dx [])) := step_made e hx hdx
  have nb : β.isSome = true → x ≠ b := fun z q => by
    obtain ⟨ns, e2⟩ := Option.isSome_iff_exists.mp z
    have := (kb ns e2).1
    rw [← q, hx] at this
    cases this
  have kb1 : BagOk b β G (upd (upd H0 dx (.own x)) x (.ins C dx [])) := fun ns e2 => by
    obtain ⟨h1, h2⟩ := kb ns e2
    exact ⟨by rw [upd_ne (ne_of_none h1 hx), upd_ne (ne_of_none h1 hdx)]; exact h1, h2⟩
  have E0 : EnvD K b β G (upd (upd H0 dx (.own x)) x (.ins C dx [])) (L2.start N (.ref x :: ws)) ((startI N as).set 0 (some (.fn x))) := start_env (N := N) (as := .fn x :: as) s0.s (s0.tabs tb) kb1 (.cons rfl ha)
  have gx : G x = none := fresh_back e hx
  have w0 : OwnW K b β 0 x G (upd (upd H0 dx (.own x)) x (.ins C dx [])) (L2.start N (.ref x :: ws)) (startI N as) (oD C []) := ⟨E0.unFn rfl, rfl, rfl, gx, nb, _, upd_same, .ins hc .nil⟩
  have gn : Gone H0 x := fun u _ z => by rw [hx] at z; cases z
  cases h _ _ _ _ hR with
  | ok ρ' hb =>
    refine hb.run b G H0 G _ _ x _ gn s0 w0 fun σ' G' H' s' w' => ?_
    obtain ⟨u, hu, hh, E⟩ := w'.frozen
    have s2 : Step b β.isSome G H0 (upd G' x u) H' := by
      refine ⟨s'.g.trans (Ex.new w'.free), fun a v z => E.sub a v z, fun a v h1 t h2 => ?_, s'.keep, s'.stay, fun t => ⟨(s'.tabs t).tab, fun y ps z => ?_⟩⟩
      · rw [upd_ne (gn.ne t h2)]
        exact s'.fresh a v h1 t h2
      · by_cases q : y = x
        · rw [q, upd_same] at z; exact hh.nt.1 ps (Option.some.inj z)
        · rw [upd_ne q] at z; exact (s'.tabs t).free y ps z
    exact kk _ H' s2 E.bagk ((hh.mono (Ex.new w'.free)).den upd_same)
  | ex hb =>
    have kk : ExTo K b β.isSome β' G H0 E _ _ := kk
    exact (hb x).run b G _ _ _ E0 (kk.of s0)
end
section
variable [TabW] (P : Program) (w : World) (K : PySem.W.Frag) (mg : Str → Option Value) (base : Heap) (k : Nat)
/-- a class that is made by its __init__ -/
structure FnI (x : Str) (C : Addr) (ps : List Str) (R : FI) : Prop where
  ex : ∃ (f : Addr) (fd : FuncData), mg x = some (.ref C) ∧ Mk K C f ∧ FnOk P w K mg base (L2.CX P w) k f fd ps (spI K C R) ∧ Binds K fd ps []
/-- a method of it, that raises nothing or that may -/
structure FnM (C : Addr) (m : Str) (ps : List Str) (R : FR) : Prop where
  ex : ∃ (f : Addr) (fd : FuncData), InsK K C ∧ Meth K C m f ∧ FnOk P w K mg base CX0 k f fd ps (spR K R) ∧ Binds K fd ps []
structure FnMX (C : Addr) (m : Str) (ps : List Str) (R : FX) : Prop where
  ex : ∃ (f : Addr) (fd : FuncData), InsK K C ∧ Meth K C m f ∧ FnOk P w K mg base (L2.CX P w) k f fd ps (spX K R) ∧ Binds K fd ps []
/-- a property of it -/
structure FnP (C : Addr) (m : Str) (R : FR) : Prop where
  ex : ∃ (p f : Addr) (fd : FuncData), InsK K C ∧ PropOf K C m p f ∧ FnOk P w K mg base CX0 k f fd ["self"] (spR K R) ∧ Binds K fd ["self"] []
end
structure InitAt (K : PySem.W.Frag) (x : Str) (C : Addr) (qual : Str) (st : Stmt) : Prop where
  ex : ∃ (f : Addr) (fd : FuncData), PySem.W.nsIn K mainGlobals x = some (some (.ref C)) ∧ Mk K C f ∧ Fun K "__init__" qual st f fd
  ins : InsK K C
structure MethAt (K : PySem.W.Frag) (C : Addr) (m qual : Str) (st : Stmt) : Prop where
  ex : ∃ (f : Addr) (fd : FuncData), Meth K C m f ∧ Fun K m qual st f fd
  ins : InsK K C
structure PropAt (K : PySem.W.Frag) (C : Addr) (m qual : Str) (st : Stmt) : Prop where
  ex : ∃ (p f : Addr) (fd : FuncData), PropOf K C m p f ∧ Fun K m qual st f fd
  ins : InsK K C
section
variable [TabW] {P : Program} {w : World} {K : PySem.W.Frag} {mg : Str → Option Value} {base : Heap} {X : Cx} {k : Nat} {x m qual : Str} {C : Addr} {ps N : List Str} {st : Stmt} {pos p apos : Pos} {e o : Expr} {es : List Expr} {t : TA} {te : TE} {E : XK}
theorem pe_new {R : FI} (F : FnI P w K mg base k x C ps R) (hr : Room (k + 1) X.A) (hx : Passes (L2.CX X.prog X.w) X E) (ha : PA X (e :: es) t) (h1 : X.prog = P := by rfl) (h2 : X.w = w := by rfl) (h3 : X.K = K := by rfl) (h4 : X.mg = mg := by rfl) (h5 : X.base = base := by rfl)
    (hg : Gl X x := by rfl) (hdb : (x == ("__debug__" : Str)) = false := by decide) (hs : starEach (e :: es) X.env = (false, eval e X.env) :: starEach es X.env := by rfl) (hp : (backTo pos (starEach es X.env)).any (·.1) = false := by rfl) :
    PE X (.Call (.Name x p) (e :: es) [] pos) (tMake C (spI K C R) [] E t) := by
  obtain ⟨f, fd, hm, M, hf, hb⟩ := F.ex
  subst h1 h2 h3 h4 h5
  exact pe_make M hf hr hg hm hb .nil hx ha hdb hs hp
theorem pe_mX {R : FX} {pl : Sem Bool} (F : FnMX P w K mg base k C m ps R) (hr : Room k X.A) (hx : Passes (L2.CX X.prog X.w) X E) (ho : PE X o te) (ha : PA X (e :: es) t) (h1 : X.prog = P := by rfl) (h2 : X.w = w := by rfl) (h3 : X.K = K := by rfl) (h4 : X.mg = mg := by rfl) (h5 : X.base = base := by rfl)
    (hs : starEach (e :: es) X.env = (false, eval e X.env) :: starEach es X.env := by rfl) (hp : (backTo pos (starEach es X.env)).any (·.1) = false := by rfl)
    (ht : eval (.Call (.Attribute o m apos) (e :: es) [] pos) X.env = (do let it ← eval o X.env; standAt apos.atName; let (g, fst) ← holding [it] (getMethod it m pl); callWith pos g fst (backTo pos (starEach (e :: es) X.env)) (backToKw pos (keywordEach [] X.env))) := by rfl) : PE X (.Call (.Attribute o m apos) (e :: es) [] pos) (tMeth C m (spX K R) [] E te t) := by
  obtain ⟨f, fd, hc, M, hf, hb⟩ := F.ex
  subst h1 h2 h3 h4 h5
  exact pe_meth (pl := pl) ho hc.ic.cl M hf hr hb .nil hx ha hs hp ht
theorem pe_p {R : FR} (F : FnP P w K mg base k C m R) (hr : Room (k + 1) X.A) (ho : PE X e te) (h1 : X.prog = P := by rfl) (h2 : X.w = w := by rfl) (h3 : X.K = K := by rfl) (h4 : X.mg = mg := by rfl) (h5 : X.base = base := by rfl)
    (hab : attributeBase e m X.env (eval e X.env) = eval e X.env := by rfl) : PE X (.Attribute e m pos) (tProp C (spR K R) [] E0 te) := by
  obtain ⟨q, f, fd, hc, M, hf, hb⟩ := F.ex
  subst h1 h2 h3 h4 h5
  exact pe_prop ho hc.ic.cl M hf hr hb .nil pass0 hab
theorem init_mk {R : FI} (F : InitAt K x C qual st) (hX : K.In base) (hG : base.Ns mainGlobals mg) (S : FnScope N ps (defScope st)) (hlen : ∀ as β r β', R as β r β' → as.length + 1 = ps.length)
    (hb : ∀ (f : Addr) (kV doc pm : Value) (an : Option Addr) (cdv ct : Value) (us : List Value), us.length = ps.length → bindArgs (PySem.W.fnOf "__init__" qual (defArgs st) (defBody st) (defScope st) .none kV doc pm an cdv ct) ⟨us, []⟩ = pure (ps.zip us))
    (hbody : ∀ (f : Addr) (cdv : Value) (A : Around) (outer : List PySem.Env) (s : Shared) (H : Hp) (E : XK), Room k (A.deeper (envOfC qual (defScope st) s.heap.objs.size f cdv)) →
      ∃ t, PSs (cxOf (L2.CX P w) P w K mg base N qual (defScope st) f cdv A outer s H E) (defBody st) t ∧ ∀ as β r β', R as β r β' → BodyI K E C t (startI N as) β β' r) : FnI P w K mg base (k + 1) x C ps R := by
  obtain ⟨f, fd, ha, M, hF⟩ := F.ex
  refine ⟨f, fd, PySem.W.mg_of hX hG ha, M, ?_, hF.binds (hb f)⟩
  refine hF.okX S (fun vs H Q E hsp => ?_) fun cdv A outer s H vs Q E hr hsp => ?_
  · obtain ⟨b, G, H0, β, as, r, β', y, dx, ws, rfl, _, _, _, _, _, _, _, hd, hR, _⟩ := hsp
    show ws.length + 1 = _
    rw [hd.length]
    exact hlen _ _ _ _ hR
  · obtain ⟨t, h1, h2⟩ := hbody f cdv A outer s H E hr
    exact ⟨t, h1, init_read F.ins h2 hsp⟩
theorem meth_mk {R : FR} (F : MethAt K C m qual st) (S : FnScope N ps (defScope st)) (hlen : ∀ as β r β', R as β r β' → as.length = ps.length)
    (hb : ∀ (f : Addr) (kV doc pm : Value) (an : Option Addr) (cdv ct : Value) (us : List Value), us.length = ps.length → bindArgs (PySem.W.fnOf m qual (defArgs st) (defBody st) (defScope st) .none kV doc pm an cdv ct) ⟨us, []⟩ = pure (ps.zip us))
    (hbody : ∀ (f : Addr) (cdv : Value) (A : Around) (outer : List PySem.Env) (s : Shared) (H : Hp) (E : XK), Room k (A.deeper (envOfC qual (defScope st) s.heap.objs.size f cdv)) →
      ∃ t, PSs (cxOf CX0 P w K mg base N qual (defScope st) f cdv A outer s H E).nox (defBody st) t ∧ ∀ as β r β', R as β r β' → BodyR K t (startR N as) β r β') : FnM P w K mg base (k + 1) C m ps R := by
  obtain ⟨f, fd, M, hF⟩ := F.ex
  refine ⟨f, fd, F.ins, M, ?_, hF.binds (hb f)⟩
  refine hF.ok S (fun vs H Q E hsp => ?_) fun cdv A outer s H vs Q E hr hsp => ?_
  · obtain ⟨b, G, β, as, r, β', _, _, _, hd, hR, _⟩ := hsp
    rw [hd.length]
    exact hlen _ _ _ _ hR
  · obtain ⟨t, h1, h2⟩ := hbody f cdv A outer s H E hr
    exact ⟨t, h1, fn_read h2 hsp⟩
theorem methX_mk {R : FX} (F : MethAt K C m qual st) (S : FnScope N ps (defScope st)) (hlen : ∀ as β r β', R as β r β' → as.length = ps.length)
    (hb : ∀ (f : Addr) (kV doc pm : Value) (an : Option Addr) (cdv ct : Value) (us : List Value), us.length = ps.length → bindArgs (PySem.W.fnOf m qual (defArgs st) (defBody st) (defScope st) .none kV doc pm an cdv ct) ⟨us, []⟩ = pure (ps.zip us))
    (hbody : ∀ (f : Addr) (cdv : Value) (A : Around) (outer : List PySem.Env) (s : Shared) (H : Hp) (E : XK), Room k (A.deeper (envOfC qual (defScope st) s.heap.objs.size f cdv)) →
      ∃ t, PSs (cxOf (L2.CX P w) P w K mg base N qual (defScope st) f cdv A outer s H E) (defBody st) t ∧ ∀ as β r β', R as β r β' → BodyX K E t (startR N as) β β' r) : FnMX P w K mg base (k + 1) C m ps R := by
  obtain ⟨f, fd, M, hF⟩ := F.ex
  refine ⟨f, fd, F.ins, M, ?_, hF.binds (hb f)⟩
  refine hF.okX S (fun vs H Q E hsp => ?_) fun cdv A outer s H vs Q E hr hsp => ?_
  · obtain ⟨b, G, β, as, r, β', _, _, _, hd, hR, _⟩ := hsp
    rw [hd.length]
    exact hlen _ _ _ _ hR
  · obtain ⟨t, h1, h2⟩ := hbody f cdv A outer s H E hr
    exact ⟨t, h1, fnX_read h2 hsp⟩
theorem prop_mk {R : FR} (F : PropAt K C m qual st) (S : FnScope N ["self"] (defScope st)) (hlen : ∀ as β r β', R as β r β' → as.length = 1)
    (hb : ∀ (f : Addr) (kV doc pm : Value) (an : Option Addr) (cdv ct : Value) (us : List Value), us.length = 1 → bindArgs (PySem.W.fnOf m qual (defArgs st) (defBody st) (defScope st) .none kV doc pm an cdv ct) ⟨us, []⟩ = pure ((["self"] : List Str).zip us))
    (hbody : ∀ (f : Addr) (cdv : Value) (A : Around) (outer : List PySem.Env) (s : Shared) (H : Hp) (E : XK), Room k (A.deeper (envOfC qual (defScope st) s.heap.objs.size f cdv)) →
      ∃ t, PSs (cxOf CX0 P w K mg base N qual (defScope st) f cdv A outer s H E).nox (defBody st) t ∧ ∀ as β r β', R as β r β' → BodyR K t (startR N as) β r β') : FnP P w K mg base (k + 1) C m R := by
  obtain ⟨p, f, fd, M, hF⟩ := F.ex
  refine ⟨p, f, fd, F.ins, M, ?_, hF.binds (hb f)⟩
  refine hF.ok S (fun vs H Q E hsp => ?_) fun cdv A outer s H vs Q E hr hsp => ?_
  · obtain ⟨b, G, β, as, r, β', _, _, _, hd, hR, _⟩ := hsp
    rw [hd.length]
    exact hlen _ _ _ _ hR
  · obtain ⟨t, h1, h2⟩ := hbody f cdv A outer s H E hr
    exact ⟨t, h1, fn_read h2 hsp⟩
end
end TD
set_option Elab.async false
set_option linter.all false
set_option maxRecDepth 100000
set_option maxHeartbeats 4100000
namespace TD
open PySem L2 PySem.Spec PyProof.Rows
open Evl (Ex ex_l ex_t fresh_back sq_of st_of sz_of sz_lt)
abbrev tupD (ns : List Int) : Dt := .tuple (ns.map PyData.int)
abbrev pairsT (qs : List (List Int × Dt)) : List (Dt × Dt) := qs.map fun q => (tupD q.1, q.2)
abbrev dT (qs : List (List Int × Dt)) : Dt := dctT (pairsT qs)
def getT {α : Type} (qs : List (List Int × α)) (k : List Int) : Option α := (qs.find? fun q => decide (q.1 = k)).map (·.2)
def putT {α : Type} (qs : List (List Int × α)) (k : List Int) (v : α) : List (List Int × α) := if (qs.any fun q => decide (q.1 = k)) = true then qs.map (fun q => if q.1 = k then (q.1, v) else q) else qs ++ [(k, v)]
/-- a heap's dict beside what it is told as -/
inductive DenQ (K : PySem.W.Frag) (G : Hp) : List (List Int × V) → List (List Int × Dt) → Prop
  | nil : DenQ K G [] []
  | cons {k : List Int} {v : V} {d : Dt} {kvs : List (List Int × V)} {qs : List (List Int × Dt)} : Den K G v d → DenQ K G kvs qs → DenQ K G ((k, v) :: kvs) ((k, d) :: qs)
section
variable {K : PySem.W.Frag} {G G' : Hp}
theorem DenQ.mono (e : Ex G G') : ∀ {kvs : List (List Int × V)} {qs : List (List Int × Dt)}, DenQ K G kvs qs → DenQ K G' kvs qs
  | _, _, .nil => .nil
  | _, _, .cons h1 h2 => .cons (h1.mono e) (h2.mono e)
theorem DenQ.val (k : List Int) : ∀ {kvs : List (List Int × V)} {qs : List (List Int × Dt)}, DenQ K G kvs qs → (getT kvs k = none ∧ getT qs k = none) ∨ ∃ v d, getT kvs k = some v ∧ getT qs k = some d ∧ Den K G v d
  | _, _, .nil => Or.inl ⟨rfl, rfl⟩
  | (j, v) :: _, (_, d) :: _, .cons h1 h2 => by
    by_cases hj : j = k
    · refine .inr ⟨v, d, ?_, ?_, h1⟩ <;> simp [getT, List.find?_cons, hj]
    · have := h2.val k
      simpa [getT, List.find?_cons, hj] using this
theorem DenQ.any (k : List Int) : ∀ {kvs : List (List Int × V)} {qs : List (List Int × Dt)}, DenQ K G kvs qs → (kvs.any fun q => decide (q.1 = k)) = qs.any fun q => decide (q.1 = k)
  | _, _, .nil => rfl
  | _, _, .cons _ h2 => by rw [List.any_cons, List.any_cons, h2.any k]
theorem DenQ.app {k : List Int} {v : V} {d : Dt} (hv : Den K G v d) : ∀ {kvs : List (List Int × V)} {qs : List (List Int × Dt)}, DenQ K G kvs qs → DenQ K G (kvs ++ [(k, v)]) (qs ++ [(k, d)])
  | _, _, .nil => .cons hv .nil
  | _, _, .cons h1 h2 => .cons h1 (h2.app hv)
theorem DenQ.repl {k : List Int} {v : V} {d : Dt} (hv : Den K G v d) : ∀ {kvs : List (List Int × V)} {qs : List (List Int × Dt)}, DenQ K G kvs qs → DenQ K G (kvs.map fun q => if q.1 = k then (q.1, v) else q) (qs.map fun q => if q.1 = k then (q.1, d) else q)
  | _, _, .nil => .nil
  | (j, _) :: _, _, .cons h1 h2 => by
    have ih := h2.repl (k := k) hv
    by_cases hj : j = k
    · simp only [List.map_cons, hj, if_true]
      exact .cons hv ih
    · simp only [List.map_cons, hj, if_false]
      exact .cons h1 ih
theorem DenQ.put {k : List Int} {v : V} {d : Dt} {kvs : List (List Int × V)} {qs : List (List Int × Dt)} (h : DenQ K G kvs qs) (hv : Den K G v d) : DenQ K G (putT kvs k v) (putT qs k d) := by
  unfold putT
  rw [h.any]
  split
  · exact h.repl hv
  · exact h.app hv
theorem DenQ.length : ∀ {kvs : List (List Int × V)} {qs : List (List Int × Dt)}, DenQ K G kvs qs → kvs.length = qs.length
  | _, _, .nil => rfl
  | _, _, .cons _ h2 => congrArg (· + 1) h2.length
end
/-- a tuple that lies in the heap may be taken among the frozen things at any time -/
theorem Step.take [TabW] {b a : Addr} {m : Bool} {G H : Hp} {xs : List V} (e : Ex G H) (h : H a = some (.tup xs)) : Step b m G H (upd G a (.tup xs)) H := by
  refine ⟨fun x u q => ?_, fun x u q => ?_, fun x u h1 t h2 => ?_, fun _ _ _ _ h => h, fun _ o t h => ⟨o, t, h⟩, fun t => ⟨t.tab, fun x ps q => ?_⟩⟩
  · by_cases z : x = a
    · rw [z] at q ⊢
      rw [upd_same, ← h]
      exact e a u q
    · rw [upd_ne z]; exact q
  · by_cases z : x = a
    · rw [z, upd_same] at q
      rw [z, h]
      exact q
    · rw [upd_ne z] at q
      exact e x u q
  · by_cases z : x = a
    · rw [z, h] at h2
      exact absurd (Option.some.inj h2).symm (t.2 xs)
    · rw [upd_ne z]; exact h1
  · by_cases z : x = a
    · rw [z, upd_same] at q
      cases q
    · rw [upd_ne z] at q
      exact t.free x ps q
end TD
set_option Elab.async false
set_option linter.all false
set_option maxRecDepth 100000
set_option maxHeartbeats 4100000
namespace TD
open PySem L2 PySem.Spec PyProof.Rows
open Evl (Ex ex_l ex_t fresh_back sq_of st_of sz_of sz_lt)
def getI {α : Type} (qs : List (Int × α)) (i : Int) : Option α := (qs.find? fun q => decide (q.1 = i)).map (·.2)
def putI {α : Type} (qs : List (Int × α)) (i : Int) (v : α) : List (Int × α) := if (qs.any fun q => decide (q.1 = i)) = true then qs.map (fun q => if q.1 = i then (q.1, v) else q) else qs ++ [(i, v)]
section
variable {K : PySem.W.Frag} {G : Hp}
abbrev DenI (K : PySem.W.Frag) (G : Hp) (kvs : List (Int × V)) (qs : List (Int × Dt)) : Prop := DenP K G kvs (qs.map fun q => (PyData.int q.1, q.2))
theorem DenI.cases {k : Int × V} {kvs : List (Int × V)} {q : Int × Dt} {qs : List (Int × Dt)} (h : DenI K G (k :: kvs) (q :: qs)) : k.1 = q.1 ∧ Den K G k.2 q.2 ∧ DenI K G kvs qs := by
  cases h with
  | cons h1 h2 => exact ⟨rfl, h1, h2⟩
theorem DenI.keys : ∀ {kvs : List (Int × V)} {qs : List (Int × Dt)}, DenI K G kvs qs → kvs.map (·.1) = qs.map (·.1)
  | [], [], _ => rfl
  | [], _ :: _, h => nomatch h
  | _ :: _, [], h => nomatch h
  | k :: kvs, q :: qs, h => by
    obtain ⟨e, _, h2⟩ := h.cases
    rw [List.map_cons, List.map_cons, e, DenI.keys h2]
theorem DenI.val (i : Int) : ∀ {kvs : List (Int × V)} {qs : List (Int × Dt)}, DenI K G kvs qs → (getI kvs i = none ∧ getI qs i = none) ∨ ∃ v d, getI kvs i = some v ∧ getI qs i = some d ∧ Den K G v d
  | [], [], _ => .inl ⟨rfl, rfl⟩
  | [], _ :: _, h => nomatch h
  | _ :: _, [], h => nomatch h
  | (j, v) :: kvs, (j', d) :: qs, h => by
    obtain ⟨e, h1, h2⟩ := h.cases
    have e : j = j' := e
    subst e
    by_cases hj : j = i
    · refine .inr ⟨v, d, ?_, ?_, h1⟩ <;> simp [getI, List.find?_cons, hj]
    · have := DenI.val i h2
      simpa [getI, List.find?_cons, hj] using this
theorem DenI.app : ∀ {kvs : List (Int × V)} {qs : List (Int × Dt)} {i : Int} {v : V} {d : Dt}, DenI K G kvs qs → Den K G v d → DenI K G (kvs ++ [(i, v)]) (qs ++ [(i, d)])
  | [], [], _, _, _, _, hv => .cons hv .nil
  | [], _ :: _, _, _, _, h, _ => nomatch h
  | _ :: _, [], _, _, _, h, _ => nomatch h
  | (j, w) :: kvs, (j', e) :: qs, i, v, d, h, hv => by
    obtain ⟨e1, h1, h2⟩ := h.cases
    have e1 : j = j' := e1
    subst e1
    exact .cons h1 (DenI.app h2 hv)
theorem DenI.repl {i : Int} {v : V} {d : Dt} (hv : Den K G v d) : ∀ {kvs : List (Int × V)} {qs : List (Int × Dt)}, DenI K G kvs qs → DenI K G (kvs.map fun q => if q.1 = i then (q.1, v) else q) (qs.map fun q => if q.1 = i then (q.1, d) else q)
  | [], [], _ => .nil
  | [], _ :: _, h => nomatch h
  | _ :: _, [], h => nomatch h
  | (j, w) :: kvs, (j', e) :: qs, h => by
    obtain ⟨e1, h1, h2⟩ := h.cases
    have e1 : j = j' := e1
    subst e1
    have ih := DenI.repl (i := i) hv h2
    by_cases hj : j = i
    · simp only [List.map_cons, hj, if_true]
      exact .cons hv ih
    · simp only [List.map_cons, hj, if_false]
      exact .cons h1 ih
theorem any_keys {kvs : List (Int × V)} {qs : List (Int × Dt)} (h : kvs.map (·.1) = qs.map (·.1)) (i : Int) : (kvs.any fun q => decide (q.1 = i)) = qs.any fun q => decide (q.1 = i) := by
  have e : ∀ {α : Type} (l : List (Int × α)), (l.any fun q => decide (q.1 = i)) = (l.map (·.1)).any fun k => decide (k = i) := fun l => by
    rw [List.any_map]
    rfl
  rw [e, e, h]
theorem DenI.put {kvs : List (Int × V)} {qs : List (Int × Dt)} {i : Int} {v : V} {d : Dt} (h : DenI K G kvs qs) (hv : Den K G v d) : DenI K G (putI kvs i v) (putI qs i d) := by
  unfold putI
  rw [any_keys h.keys]
  split
  · exact h.repl hv
  · exact h.app hv
theorem DenI.length {kvs : List (Int × V)} {qs : List (Int × Dt)} (h : DenI K G kvs qs) : kvs.length = qs.length := by
  have := congrArg List.length h.keys
  rwa [List.length_map, List.length_map] at this
end
end TD
set_option Elab.async false
set_option linter.all false
set_option maxRecDepth 100000
set_option maxHeartbeats 3000300
namespace TDS
open TS L2 PySem PySem.Spec PyProof.Rows
section
variable {P : Program} {w : World} {A : Around} {s : Shared} {E : Value → Shared → Prop}
theorem sorted_tupS {a : Addr} {vs : List Value} {d : Nat} {S B : Int} {Q : Value → Shared → Prop} (tup : s.heap.IsTuple a vs.toArray) (few : vs.length < 64) (hd : 1 ≤ d) (x : OkS s.heap d S B vs)
    (k : ∀ (h1 g : Heap) (out : Array Value) (c : Nat), (∀ b o, s.heap.get? b = some o → h1.get? b = some o) → (∀ b o, h1.get? b = some o → g.get? b = some o) → g.get? h1.objs.size = some (seqObj "list" out c) → out.toList.Perm vs → out.toList.Pairwise (fun u v => cd S B (intsOf s.heap u) ≤ cd S B (intsOf s.heap v)) → Q (.ref h1.objs.size) { s with heap := g }) : wpAny (model P w) A (call (.builtin "sorted") [.ref a]) Q E s := by
  obtain ⟨o, at_, cls, n, data⟩ := tup
  have size : vs.toArray.size ≤ sizeLine := by rw [List.size_toArray, sizeLine_eq]; omega
  refine Calls.call_function_entry kind_sorted plain_sorted entry_sorted (args_sorted1 _) (show wpAny _ _ (Builtin.«sorted» _) _ _ _ from ?_)
  unfold Builtin.«sorted»
  refine wpAny_bind (m := checkCount "sorted" 1 1 _) (wpAny_pure (wpAny_bind (wpAny_collect_seq a (.inr rfl) at_ cls data (fun h1 old => ?_) size)))
  refine wpAny_bind (wpAny_newList (show wpAny _ _ _ _ _ { s with heap := h1.push (seqObj "list" vs.toArray 0) } from ?_) (by rw [← List.size_toArray]; exact size))
  have ext : ∀ b u, s.heap.get? b = some u → (h1.push (seqObj "list" vs.toArray 0)).get? b = some u := fun b u e => Heap.get?_push_of_some _ (old b u e)
  have lies : (h1.push (seqObj "list" vs.toArray 0)).get? h1.objs.size = some (seqObj "list" vs.toArray 0) := Heap.get?_push_size _ rfl
  obtain ⟨x1, same⟩ := x.push ext
  refine wpAny_bind (wpAny_holding (sortS (s := { s with heap := h1.push (seqObj "list" vs.toArray 0) }) lies few hd x1 fun out perm up => wpAny_pure ⟨_, rfl, ?_⟩))
  obtain ⟨c, laid⟩ := sortedHeap_at (vs := vs) (out := out) lies
  refine k h1 _ out c old (fun b u e => ?_) laid perm (up.imp_of_mem fun {u v} hu hv q => by rw [← same u (perm.mem_iff.mp hu), ← same v (perm.mem_iff.mp hv)]; exact q)
  have lt := Heap.lt_size e
  exact (sortedHeap_old (Nat.ne_of_lt lt) (by rw [size_push']; exact Nat.lt_succ_of_lt lt)).trans (Heap.get?_push_of_some _ e)
end
section
variable {X : Cx}
/-- sorted(xs), xs a tuple of fewer than 64 such tuples -/
def rSortQ (K : PySem.W.Frag) (d : Nat) (S B : Int) : List V → Hp → VK → Prop := fun vs H Q => ∃ (a : Addr) (xs : List V), vs = [V.ref a] ∧ SqT K H a xs ∧ xs.length < 64 ∧ (∀ x ∈ xs, ∃ ns, TupI K H x ns ∧ ns.length = d ∧ Bd B (shI S ns)) ∧ ∀ (ys : List V) (p : Addr), ys.Perm xs →
  ys.Pairwise (fun x y => ∀ n m, TupI K H x n → TupI K H y m → cd S B n ≤ cd S B m) → H p = none → Q (.ref p) (upd H p (.lst ys))
theorem cr_sortQ {d : Nat} {S B : Int} (hd : 1 ≤ d) : CallR X (.builtin "sorted") (rSortQ X.K d S B) := by
  rintro pins s σ H _ us Q I r ⟨a, xs, rfl, at_, few, all, q⟩
  obtain ⟨its, vals, tup, size⟩ := I.tuple at_
  rw [Vals.ref1 r]
  obtain ⟨back, refs⟩ := bkV_refs vals fun x m => (all x m).elim fun _ z => z.1.elim fun t e => ⟨t, e.1⟩
  have raw : ∀ {v : Value} {ns : List Int}, TupI X.K H (bkV v) ns → TupInts s.heap v ns := fun {v ns} z => z.elim fun t e => bkV_ref e.1 ▸ tupI_raw I e.2
  refine sorted_tupS (d := d) (S := S) (B := B) (show s.heap.IsTuple a its.toArray from tup) (by rw [← vals.length]; exact few) hd (fun v hv => ?_) fun h1 g out c old old2 laid perm up => ?_
  · obtain ⟨ns, t, z⟩ := all (bkV v) (by rw [back]; exact List.mem_map_of_mem hv)
    exact ⟨ns, raw t, z⟩
  · have pm : (out.toList.map bkV).Perm xs := by rw [back]; exact perm.map bkV
    have I1 : Inv X pins σ H { s with heap := h1 } := I.kept (t' := s.toks) old
    have J : Inv X pins σ (upd H h1.objs.size (.lst (out.toList.map bkV))) { s with heap := g } := I1.laid (t' := s.toks) old2 (Nat.le_refl _) ⟨by rw [pm.length_eq]; exact size, out.toList, c, bkV_vals fun u hu => refs u (perm.mem_iff.mp hu), laid⟩
    refine ⟨.ref _, _, J, rfl, q _ _ pm (List.pairwise_map.mpr (up.imp fun {u v} z n m hn hm => ?_)) (I1.hok.fresh (Nat.le_refl _))⟩
    rw [← (raw hn).ints, ← (raw hm).ints]
    exact z
end
end TDS
namespace TD
open PySem L2 PySem.Spec PyProof.Rows
open Evl (Ex ex_l ex_t fresh_back sq_of st_of sz_of sz_lt)
end TD
set_option Elab.async false
set_option linter.all false
set_option maxRecDepth 100000
set_option maxHeartbeats 3000000
namespace TD
open PySem L2 PySem.Spec PyProof.Rows
open Evl (Ex ex_l ex_t fresh_back sq_of st_of sz_of sz_lt)
/-- where an enumeration of the tuple at a stands -/
structure EnSt (a e it : Addr) (i : Nat) (h : Heap) : Prop where
  en : ∃ old, IsEnum h e it ((i : Nat) : Int) old
  at_ : h.IsTupleIter it a i
  two : e ≠ it
  off : a ≠ it
theorem mem_two {e it b : Addr} (hb : b ∈ [e, it]) : b = e ∨ b = it := (List.mem_cons.mp hb).imp_right List.mem_singleton.mp
theorem EnSt.lt {a e it b : Addr} {i : Nat} {h : Heap} (st : EnSt a e it i h) (hb : b ∈ [e, it]) : b < h.objs.size := by
  rcases mem_two hb with rfl | rfl
  · exact st.en.elim fun _ he => Heap.lt_size he
  · exact st.at_.elim fun _ ho => Heap.lt_size ho.1
/-- the turns of a for over pairs of a place and an item -/
inductive ForE [TabW] (K : PySem.W.Frag) (i j : Nat) (tu : TS) : Nat → List Dt → Rho → Bag → Out → Bag → Prop
  | nil (k : Nat) (ρ : Rho) (β : Bag) : ForE K i j tu k [] ρ β (.nx ρ) β
  | nx {k : Nat} {d : Dt} {ds : List Dt} {ρ ρ1 : Rho} {β β1 β2 : Bag} {o : Out} : StB K tu ((ρ.set i (some (Slot.imm (.int (k : Nat))))).set j (some (Slot.imm d))) β (.nx ρ1) β1 → ForE K i j tu (k + 1) ds ρ1 β1 o β2 → ForE K i j tu k (d :: ds) ρ β o β2
section
variable [TabW] {K : PySem.W.Frag} {b : Addr} {ρ : Rho} {β β1 β2 : Bag} {tl : TE} {tu : TS} {o : Out} {ds : List Dt}
theorem ForE.som {i j k : Nat} (h : ForE K i j tu k ds ρ β o β2) : β2.isSome = β.isSome := by
  induction h with
  | nil => rfl
  | nx h _ ih => exact ih.trans h.som
end
end TD
set_option Elab.async false
set_option linter.all false
set_option maxRecDepth 100000
set_option maxHeartbeats 4000100
namespace TD
open PySem L2 PySem.Spec PyProof.Rows
open Evl (Ex ex_l ex_t fresh_back sq_of st_of sz_of sz_lt)
end TD
namespace TD
open PySem L2 PySem.Spec PyProof.Rows
open Evl (Ex ex_l ex_t fresh_back sq_of st_of sz_of sz_lt)
end TD
namespace TD
open PySem L2 PySem.Spec PyProof.Rows
open Evl (Ex ex_l ex_t fresh_back sq_of st_of sz_of sz_lt)
end TD
namespace TD
open PySem L2 PySem.Spec PyProof.Rows
open Evl (Ex ex_l ex_t fresh_back sq_of st_of sz_of sz_lt)
def leL : List Int → List Int → Bool
  | [], _ => true
  | _ :: _, [] => false
  | x :: xs, y :: ys => decide (x < y) || (decide (x = y) && leL xs ys)
theorem leL_cons {x y : Int} {xs ys : List Int} : leL (x :: xs) (y :: ys) = true ↔ x < y ∨ (x = y ∧ leL xs ys = true) := by
  show (decide (x < y) || (decide (x = y) && leL xs ys)) = true ↔ _
  rw [Bool.or_eq_true, Bool.and_eq_true, decide_eq_true_eq, decide_eq_true_eq]
theorem leL_trans : ∀ {a b c : List Int}, leL a b = true → leL b c = true → leL a c = true
  | [], _, _, _, _ => rfl
  | _ :: _, [], _, h, _ => nomatch h
  | _ :: _, _ :: _, [], _, h => nomatch h
  | x :: a, y :: b, z :: c, h1, h2 => by
    rw [leL_cons] at h1 h2 ⊢
    rcases h1 with h1 | ⟨rfl, h1⟩
    · rcases h2 with h2 | ⟨rfl, h2⟩
      · exact .inl (by omega)
      · exact .inl h1
    · rcases h2 with h2 | ⟨rfl, h2⟩
      · exact .inl h2
      · exact .inr ⟨rfl, leL_trans h1 h2⟩
theorem leL_total : ∀ a b : List Int, leL a b = true ∨ leL b a = true
  | [], _ => .inl rfl
  | _ :: _, [] => .inr rfl
  | x :: a, y :: b => by
    rw [leL_cons, leL_cons]
    rcases Int.lt_trichotomy x y with h | h | h
    · exact .inl (.inl h)
    · rcases leL_total a b with q | q
      · exact .inl (.inr ⟨h, q⟩)
      · exact .inr (.inr ⟨h.symm, q⟩)
    · exact .inr (.inl h)
theorem leL_anti : ∀ {a b : List Int}, leL a b = true → leL b a = true → a = b
  | [], [], _, _ => rfl
  | [], _ :: _, _, h => nomatch h
  | _ :: _, [], h, _ => (nomatch h)
  | x :: a, y :: b, h1, h2 => by
    rw [leL_cons] at h1 h2
    have e : x = y := by omega
    subst e
    rw [leL_anti (h1.resolve_left (Int.lt_irrefl _)).2 (h2.resolve_left (Int.lt_irrefl _)).2]
def sortX (ns : List (List Int)) : List (List Int) := ns.mergeSort leL
theorem sortX_perm (ns : List (List Int)) : (sortX ns).Perm ns := List.mergeSort_perm ns leL
theorem sortX_mem {ns : List (List Int)} {x : List Int} : x ∈ sortX ns ↔ x ∈ ns := (sortX_perm ns).mem_iff
theorem sortX_len (ns : List (List Int)) : (sortX ns).length = ns.length := (sortX_perm ns).length_eq
theorem sortX_up (ns : List (List Int)) : (sortX ns).Pairwise fun x y => leL x y = true := by
  refine List.pairwise_mergeSort (le := leL) (fun a b c h1 h2 => leL_trans h1 h2) (fun a b => ?_) ns
  rw [Bool.or_eq_true]
  exact leL_total a b
theorem sortX_uniq {ns rs : List (List Int)} (hp : rs.Perm ns) (hs : rs.Pairwise fun x y => leL x y = true) : rs = sortX ns :=
  List.Perm.eq_of_pairwise (le := fun x y => leL x y = true) (fun _ _ _ _ h1 h2 => leL_anti h1 h2) hs (sortX_up ns) (hp.trans (sortX_perm ns).symm)
/-- what may be sorted -/
def Ok3 (S B : Int) (d : Nat) (ns : List Int) : Prop := ns.length = d ∧ TS.Bd B (TDS.shI S ns)
theorem cd_below {S B : Int} : ∀ {x y : List Int}, x.length = y.length → TS.Bd B (TDS.shI S x) → TS.Bd B (TDS.shI S y) → leL x y = false → TDS.cd S B y < TDS.cd S B x
  | [], _, _, _, _, h => nomatch h
  | _ :: _, [], h, _, _, _ => by simp at h
  | p :: x, q :: y, hl, h1, h2, h => by
    have hl2 := Nat.succ.inj hl
    have hs : (TDS.shI S x).length = (TDS.shI S y).length := by unfold TDS.shI; rw [List.length_map, List.length_map, hl2]
    have hn : ¬ (p < q ∨ (p = q ∧ leL x y = true)) := fun z => by rw [leL_cons.mpr z] at h; cases h
    by_cases e : p = q
    · subst e
      have ih := cd_below hl2 h1.tail h2.tail (by cases z : leL x y; rfl; exact absurd (.inr ⟨rfl, z⟩) hn)
      exact (TS.code_same (B := B) (d := p + S) hs.symm).mpr ih
    · exact TS.code_lt hs.symm h2.tail h1.tail (show q + S < p + S by omega)
theorem leL_of_cd {S B : Int} {d : Nat} {x y : List Int} (hx : Ok3 S B d x) (hy : Ok3 S B d y) (h : TDS.cd S B x ≤ TDS.cd S B y) : leL x y = true := by
  cases z : leL x y with
  | true => rfl
  | false =>
    have := cd_below (hx.1.trans hy.1.symm) hx.2 hy.2 z
    omega
theorem sortX_cd {S B : Int} {d : Nat} {ns rs : List (List Int)} (ho : ∀ x ∈ ns, Ok3 S B d x) (hp : rs.Perm ns) (hs : rs.Pairwise fun x y => TDS.cd S B x ≤ TDS.cd S B y) : rs = sortX ns :=
  sortX_uniq hp (hs.imp_of_mem fun {x y} hx hy h => leL_of_cd (ho x (hp.mem_iff.mp hx)) (ho y (hp.mem_iff.mp hy)) h)
section
variable [TabW] {K : PySem.W.Frag} {b : Addr} {ρ ρ1 ρ2 : Rho} {β β1 β2 β3 : Bag} {ta : TA} {te tl td tk tv : TE} {tt : TT} {ts tu tw : TS} {d d1 d2 x : Dt} {ds es rs : List Dt} {o : Out} {c : Bool} {i j : Nat} {G H G0 H0 G1 H1 G2 H2 : Hp} {σ : L2.St} {p : Addr} {m : Bool}
theorem DenQ.keys : ∀ {kvs : List (List Int × V)} {qs : List (List Int × Dt)}, DenQ K G kvs qs → kvs.map (·.1) = qs.map (·.1)
  | _, _, .nil => rfl
  | _, _, .cons _ h => by rw [List.map_cons, List.map_cons, h.keys]
/-- what the items of a walk give, key and value -/
inductive DcR (K : PySem.W.Frag) (j : Nat) (tk tv : TE) : List Dt → Rho → Bag → List (List Int × Dt) → Bag → Prop
  | nil (ρ : Rho) (β : Bag) : DcR K j tk tv [] ρ β [] β
  | cons {d x : Dt} {ds : List Dt} {ρ : Rho} {β β1 β2 β3 : Bag} {k : List Int} {qs : List (List Int × Dt)} : EvB K tk (ρ.set j (some (.imm d))) β (tupD k) β1 → EvB K tv (ρ.set j (some (.imm d))) β1 x β2 → DcR K j tk tv ds ρ β2 qs β3 → DcR K j tk tv (d :: ds) ρ β ((k, x) :: qs) β3
theorem DcR.som {qs : List (List Int × Dt)} (h : DcR K j tk tv ds ρ β qs β1) : β1.isSome = β.isSome := by
  induction h with
  | nil => rfl
  | cons h1 h2 _ ih => exact ih.trans (h2.som.trans h1.som)
theorem putT_new {α : Type} {qs : List (List Int × α)} {k : List Int} {v : α} (h : k ∉ qs.map (·.1)) : putT qs k v = qs ++ [(k, v)] := by
  unfold putT
  rw [if_neg]
  intro z
  obtain ⟨q, hq, e⟩ := List.any_eq_true.mp z
  exact h (List.mem_map.mpr ⟨q, hq, of_decide_eq_true e⟩)
end
end TD
set_option Elab.async false
set_option linter.all false
set_option maxRecDepth 100000
set_option maxHeartbeats 3200000
namespace TDC
open PySem L2 PySem.Spec PyProof.Rows
abbrev newO (w : World) : Obj := { cls := .type "set", dict := none, data := .set #[] 0 (.fresh 0 0 (!w.params.followText "set-order")) }
section
variable {P : Program}
variable {w : World} {A : Around} {E : Value → Shared → Prop} {s : Shared}
theorem fresh_at {h : Heap} {b : Addr} (hb : h.objs.size ≤ b) : h.get? b = none := by
  cases q : h.get? b with
  | none => rfl
  | some o => (exact absurd (Nat.lt_of_lt_of_le (Heap.lt_size q) hb) (Nat.lt_irrefl _))
/-- set(v), given what __new__ leaves and what __init__ does with it -/
theorem set_of {v : Value} {Q : Value → Shared → Prop} {Z : Shared → Prop}
    (init : codeAny (model P w) A.in1 (.builtin "set.__init__" ⟨[.ref s.heap.objs.size, v], []⟩) (wants (fun r t => r = .none ∧ Z t) E) { s with heap := s.heap.push (newO w) })
    (q : ∀ t, Z t → Q (.ref s.heap.objs.size) t) : wpAny (model P w) A (call (.type "set") [v]) Q E s := by
  have T := F.called_set
  obtain ⟨_, _, mro⟩ := T.mro
  refine wpAny_call (codeAny_of_tree (wpAny_pure ⟨Code.quiet_builtin _ (by decide +kernel), codeAny_builtin F.entry_type_call ?_⟩))
  rw [Around.under_plain (weight_type_call_type "set" [v] []) rfl]
  have t1 := T.made; have t2 := T.sub; have t3 := T.notType; have t4 := T.canCreate; have t5 := F.typeCall_set_1 v
  wp_walk
  refine codeAny_mono (code_set_led1 v (E := E) (Q₁ := fun o t => o = .ref s.heap.objs.size ∧ t = { s with heap := s.heap.push (newO w) }) ⟨rfl, rfl⟩) fun r t h => ?_
  match r, h with
  | .error _, h => exact h
  | .ok (.ret _), ⟨eo, et⟩ =>
    cases eo
    cases et
    have ty : Shared.TypeIs { s with heap := s.heap.push (newO w) } (.ref s.heap.objs.size) "set" := ⟨_, Heap.get?_push_size _ rfl, rfl⟩
    have i1 := T.init.lookup; have i2 := T.init.bind (.ref s.heap.objs.size)
    wp_walk
    refine codeAny_mono (codeAny_call_builtin_code (id := "set.__init__") (plainId_quiet F.called_set.init.plain _) (check_set_init_1 ty init)) fun r t h => ?_
    match r, h with
    | .error _, h => exact h
    | .ok (.ret _), ⟨ez, z⟩ =>
      cases ez
      exact wpAny_pure (wpAny_pure (q t z))
/-- set(t), t a tuple of tuples of ints -/
theorem set_of_tup {tu : Addr} {xs : Array Value} (ks : List (Addr × List Int)) {Q : Value → Shared → Prop} (nh : A.handled = none) (ht : s.heap.IsTuple tu xs) (hx : xs.toList = ks.map fun p => Value.ref p.1)
    (hk : ∀ p ∈ ks, IsT P w s.heap p.2 p.1) (few : ks.length < 64) (un : A.units + 3 < cLine)
    (go : ∀ (h' : Heap) (tk : Nat) L es ep t, SetTR P w h' s.heap.objs.size L es ep t → Got ks ks.length L → (∀ b o, s.heap.get? b = some o → h'.get? b = some o) → Q (.ref s.heap.objs.size) { s with heap := h', toks := tk }) :
    wpAny (model P w) A (call (.type "set") [.ref tu]) Q E s := by
  have zx : xs.size = ks.length := by rw [← Array.length_toList, hx, List.length_map]
  refine set_of (Z := fun t => ∃ h' tk L es ep tb, t = { s with heap := h', toks := tk } ∧ SetTR P w h' s.heap.objs.size L es ep tb ∧ Got ks ks.length L ∧ ∀ b o, s.heap.get? b = some o → h'.get? b = some o) (codeAny_builtin F.entry_set_init ?_)
    fun t ⟨h', tk, L, es, ep, tb, et, R, g, kp⟩ => et ▸ go h' tk L es ep tb R g kp
  rw [Around.under_plainId F.called_set.init.plain _]
  have tu1 : (s.heap.push (newO w)).IsTuple tu xs := ht.push _
  obtain ⟨⟨_, _, _, _⟩, at1, c, nl, d⟩ := tu1
  cases c
  cases d
  have lt0 : tu < s.heap.objs.size := let ⟨_, g, _⟩ := ht; Heap.lt_size g
  have n1 := F.sub_tuple_set; have n2 := F.sub_tuple_frozenset; have n3 : (Value.type "tuple" == Value.type "dict") = false := by decide
  (unfold Builtin.«set.__init__» noKeywords Builtin.Frozenset.updateFrom)
  generalize e : pyIter = it
  wp_walk
  subst e
  refine wpAny_pyIter_tuple (ht.push _) (wpAny_bind (wpAny_runValue ?_))
  have z1 : (s.heap.push (newO w)).objs.size = s.heap.objs.size + 1 := Heap.size_push ..
  have off : s.heap.objs.size ∉ [(s.heap.push (newO w)).objs.size, tu] := fun m => by
    rw [z1] at m
    rcases (by simpa using m : s.heap.objs.size = s.heap.objs.size + 1 ∨ s.heap.objs.size = tu) with z | z
    · exact Nat.ne_of_lt (Nat.lt_succ_self _) z
    · exact Nat.ne_of_gt lt0 z
  have val : ∀ (i : Nat) (v : Value), xs[i]? = some v → ∃ p, ks[i]? = some p ∧ v = .ref p.1 := fun i v hv => by
    rw [← Array.getElem?_toList, hx, List.getElem?_map] at hv
    obtain ⟨p, hp, ev⟩ := Option.map_eq_some_iff.mp hv
    exact ⟨p, hp, ev.symm⟩
  refine set_update_tups ((Walks.tuple (A := A.in1.in1.in1) nh _ tu (by rw [z1]; exact Nat.ne_of_lt (Nat.lt_succ_of_lt lt0)) xs).toS) s.heap.objs.size off ks zx few val s.heap hk (fresh_at (Nat.le_refl _)) (fun b hb => fresh_at (by rw [List.mem_singleton.mp hb, z1]; exact Nat.le_succ _)) un (xs.size - 0) 0 _ (by omega) (Nat.zero_le _)
    ⟨⟨_, Heap.get?_push_size _ rfl, rfl, rfl⟩, (ht.push _).push _⟩ (fun b o g => Heap.get?_push_of_some _ (Heap.get?_push_of_some _ g)) ⟨[], #[], 0, _, setTR_fresh (Heap.get?_push_of_some _ (Heap.get?_push_size _ rfl)), Got.zero ks⟩ fun t L es ep tb mv R g kp => ?_
  rw [zx] at g
  exact wpAny_pure (show wpAny _ _ (ret Value.none) _ _ _ from wpAny_pure ⟨rfl, t.heap, t.toks, L, es, ep, tb, by obtain ⟨_, _, _, _, _⟩ := t; cases mv.gens; cases mv.drawn; cases mv.os; rfl, R, g, kp⟩)
end
section
variable {X : Cx}
/-- len(set(x)), x a tuple of tuples of ints -/
def tLenSetT (K : PySem.W.Frag) (ta : TE) : TE := fun σ H Q => ta σ H fun x H1 => ∃ (l : Addr) (ks : List (Addr × List Int)), x = V.ref l ∧ SqT K H1 l (ks.map fun p => V.ref p.1) ∧ (∀ p ∈ ks, SqT K H1 p.1 (p.2.map V.int)) ∧ ks.length < 64 ∧
  ∀ L : List (Addr × List Int), (∀ p ∈ L, p ∈ ks) → (∀ p ∈ ks, p.2 ∈ L.map (·.2)) → (L.map (·.2)).Nodup → L.length ≤ ks.length → Q (.int L.length) H1
/-- the new set of tuples is asked for its length -/
theorem len_made {pins : List (Addr × Obj)} {σ : L2.St} {H : Hp} {s : Shared} {Q : VK} {h1 : Heap} {tk : Nat} {L ks : List (Addr × List Int)} {es : Array (Int × Value)} {ep : Nat} {t : SetTable} {a : Addr} (I : Inv X pins σ H s) (kp : ∀ b o, s.heap.get? b = some o → h1.get? b = some o)
    (R : SetTR X.prog X.w h1 a L es ep t) (g : Got ks ks.length L)
    (q : (∀ p ∈ L, p ∈ ks) → (∀ p ∈ ks, p.2 ∈ L.map (·.2)) → (L.map (·.2)).Nodup → L.length ≤ ks.length → Q (.int L.length) H) : wpAny (model X.prog X.w) X.A (call (.builtin "len") [.ref a]) (EP X pins σ Q) X.xe { s with heap := h1, toks := tk } := by
  have R1 : SetTR X.prog X.w ({ s with heap := h1, toks := tk } : Shared).heap a L es ep t := R
  have sz := R1.size
  have few := R.few
  match R1.ob with
  | ⟨o, at_, exact_, data⟩ =>
    have in_ : ∀ p ∈ L, p ∈ ks := fun p hp => List.mem_of_mem_take (g.sub p hp)
    have all_ : ∀ p ∈ ks, p.2 ∈ L.map (·.2) := fun p hp => g.all p (by rwa [List.take_length])
    exact call_len_set at_ exact_ data R1.fits (by omega) ⟨.int L.length, H, (I.kept kp).tok _, ⟨_, by rw [sz]⟩, q in_ all_ R.nd g.len⟩
/-- what set(v), asked for its length, comes to -/
def SetLen (X : Cx) (R : V → Hp → VK → Prop) : Prop := ∀ (pins : List (Addr × Obj)) (σ : L2.St) (s : Shared) (H : Hp) (x : V) (v : Value) (Q : VK), Inv X pins σ H s → RelV x v → R x H Q →
  wpAny (model X.prog X.w) X.A (call (.type "set") [v]) (fun u t => wpAny (model X.prog X.w) X.A (call (.builtin "len") [u]) (EP X pins σ Q) X.xe t) X.xe s
/-- len(set(a)) as written -/
theorem pe_lenSet {R : V → Hp → VK → Prop} {a : Expr} {ta : TE} {p p2 q pos : Pos} (k : SetLen X R) (ha : PE X a ta) (hm : X.mg "len" = none) (hm2 : X.mg "set" = none) (hg : Gl X "len") (hg2 : Gl X "set")
    (na : starEach [a] X.env = (false, eval a X.env) :: starEach [] X.env) : PE X (.Call (.Name "len" p) [.Call (.Name "set" p2) [a] [] q] [] pos) (fun σ H Q => ta σ H fun x H1 => R x H1 Q) := by
  constructor
  intro pins s σ H Q I h
  have set_ : ∀ v s1, EP X pins σ (fun x H1 => R x H1 Q) v s1 → wpAny (model X.prog X.w) X.A (call (.type "set") [v]) (fun u t => wpAny (model X.prog X.w) X.A (call (.builtin "len") [u]) (EP X pins σ Q) X.xe t) X.xe s1 := by
    rintro v s1 ⟨x, H1, I1, rx, told⟩
    exact k pins σ s1 H1 x v Q I1 rx told
  refine Call_ (ld_blt I hg hm PySem.boot_len (PyProof.Rows.callWith_builtin1 (PyProof.Rows.args_cons (Call_ (ld_blt I hg2 hm2 PyProof.Rows.boot_set ?_)) rfl) rfl rfl))
  refine PyProof.Rows.callWith_type1 (PyProof.Rows.args_cons (thn (ha.run pins s σ H _ I h) fun v s1 told => ?_) na) na rfl
  exact PyProof.Rows.args_nil (thn (set_ v s1 told) fun u t done => PyProof.Rows.args_nil done)
theorem pe_lenSetT {a : Expr} {ta : TE} {p p2 q pos : Pos} {K : PySem.W.Frag} (hu : X.A.units + 64 < cLine) (ha : PE X a ta) (hm : X.mg "len" = none) (hm2 : X.mg "set" = none) (hc : X.calm = true := by rfl) (hg : Gl X "len" := by rfl) (hg2 : Gl X "set" := by rfl) (hK : X.K = K := by rfl)
    (na : starEach [a] X.env = (false, eval a X.env) :: starEach [] X.env := by rfl) : PE X (.Call (.Name "len" p) [.Call (.Name "set" p2) [a] [] q] [] pos) (tLenSetT K ta) := by
  delta tLenSetT
  refine pe_lenSet (ta := ta) ?_ ha hm hm2 hg hg2 na
  rintro pins σ s H _ _ Q I rx ⟨l, ks, rfl, lies, each, few, k⟩
  cases rx
  rw [← hK] at lies each
  have ⟨its, r, there, _⟩ := I.tuple lies
  exact set_of_tup ks (I.ok.hd hc) (xs := its.toArray) there (by simpa using refs_of_vals r) (fun p hp => I.isT (each p hp)) few (by omega) fun h' tk L es ep t R g same => len_made I same R g (k L)
end
end TDC
namespace TD
open PySem L2 PySem.Spec PyProof.Rows
open Evl (Ex ex_l ex_t fresh_back sq_of st_of sz_of sz_lt)
theorem once_uniq : ∀ {xs ys : List (List Int)}, ys.Nodup → (∀ x, x ∈ ys ↔ x ∈ xs) → ys.length = (once xs).length := fun {xs ys} nd h =>
  ((List.perm_ext_iff_of_nodup nd (once_nodup xs)).mpr fun x => by rw [h x, once_mem]).length_eq
section
variable [TabW] {K : PySem.W.Frag} {ρ : Rho} {β β1 : Bag} {te : TE}
theorem d_lenSetT {ns : List (List Int)} (h : EvB K te ρ β (.tuple (ns.map tupJ)) β1) (hl : ns.length < 64) : EvB K (TDC.tLenSetT K te) ρ β (.int ((once ns).length : Int)) β1 :=
  ⟨h.som, fun b G H σ Q E k => h.run b G H σ _ E fun v G1 H1 s1 k1 d1 => by
    cases d1 with
    | @tup a xs _ hs hd =>
      have hs := st_of (K := K) hs
      obtain ⟨ks, rfl, rfl, hk⟩ := DenL.refs hd
      rw [List.length_map] at hl
      refine ⟨a, ks, rfl, ex_t s1.s hs, fun p hp => st_of (s1.s _ _ (hk p hp)), hl, fun L h1 h2 h3 _ => ?_⟩
      have e : (L.map (·.2)).length = (once (ks.map (·.2))).length := once_uniq h3 fun x => ⟨fun hx => by
        obtain ⟨p, hp, rfl⟩ := List.mem_map.mp hx
        exact List.mem_map.mpr ⟨p, h1 p hp, rfl⟩, fun hx => by
        obtain ⟨p, hp, rfl⟩ := List.mem_map.mp hx
        exact h2 p hp⟩
      rw [List.length_map] at e
      rw [e]
      exact k _ G1 H1 s1 k1 (.int _)⟩
end
end TD
set_option Elab.async false
set_option linter.all false
set_option maxRecDepth 100000
set_option maxHeartbeats 4000100
namespace TD
open PySem L2 StX PySem.Spec PyProof.Rows
open Evl (Ex ex_l ex_t fresh_back sq_of st_of sz_of sz_lt)
theorem inst_at {P : Program} {w : World} {H : Hp} {h : Heap} {a C dx : Addr} {fs : List (Str × V)} (hok : HOk P w H h) (e : H a = some (.ins C dx fs)) : ∃ ox od, PySem.W.InstAt h a ox C od := by
  obtain ⟨mA, O, _, _, _, _⟩ := ins_get hok e
  obtain ⟨od, J, _⟩ := O.look
  exact ⟨_, _, J⟩
section
variable [TabW] {K : PySem.W.Frag} {ρ : Rho} {β β1 β2 : Bag} {ta tb te : TE} {t : TA} {ps qs : List (Dt × Dt)} {C : Addr} {r x : Dt} {ds : List Dt} {as : List Slot} {E : XK}
theorem DenSs.app {b : Addr} {G : Hp} : ∀ {vs ws : List V} {as cs : List Slot}, DenSs K b G vs as → DenSs K b G ws cs → DenSs K b G (vs ++ ws) (as ++ cs)
  | _, _, _, _, .nil, h => h
  | _, _, _, _, .cons h1 h2, h => .cons h1 (h2.app h)
/-- *e in a display -/
theorem a_star (h : EvB K te ρ β x β1) (hx : SeqD x ds) (hr : EvA K t ρ β1 as β2) : EvA K (tStar K te t) ρ β (imms ds ++ as) β2 := ⟨hr.som.trans h.som, fun b G H σ Q E k => h.run b G H σ _ E fun v G1 H1 s1 k1 d1 => by
  obtain ⟨p, ys, rfl, hq, hd⟩ := d1.seq hx s1.s
  refine ⟨p, ys, rfl, hq.symm, hr.run b G1 H1 σ _ (E.step s1 k1) fun vs G2 H2 s2 k2 d2 => ?_⟩
  rw [h.som] at s2
  exact k _ G2 H2 (s1.trans s2) k2 ((hd.mono s2.g).ss.app d2)⟩
end
section
variable {X : Cx} {K : PySem.W.Frag} {e : Expr} {es : List Expr} {te : TE} {t : TA} {p : Pos}
theorem pa_starK (he : PE X e te) (hr : PA X es t) (hK : X.K = K := by rfl) (hs : starEach (.Starred e p :: es) X.env = (true, eval e X.env) :: starEach es X.env := by rfl) : PA X (.Starred e p :: es) (tStar K te t) := hK ▸ pa_star he hr hs
end
end TD
set_option Elab.async false
set_option linter.all false
set_option maxRecDepth 100000
set_option maxHeartbeats 4100000
namespace TD
open PySem L2 PySem.Spec PyProof.Rows
end TD
set_option Elab.async false
set_option linter.all false
set_option maxRecDepth 100000
set_option maxHeartbeats 4100000
namespace TD
open PySem L2 PySem.Spec PyProof.Rows LamX
open Evl (Ex ex_l ex_t fresh_back sq_of st_of sz_of sz_lt)
section
variable [TabW] {K : PySem.W.Frag} {ρ : Rho} {β β1 : Bag} {C : Addr} {k : Kept} {l : Clauses} {s fine : Str} {T : List (Addr × Str)} {te : XK → TE} {d : Dt}
/-- a lambda of any expression that may raise, handed to the catching def -/
theorem d_lamB (hw : ∀ P q, TabW.w P q ↔ (P, q) ∈ T) (h : ∀ E, EvB K (te E) ρ β d β1) (hs : β1.isSome = β.isSome) : EvB K (tLam T (TTell K l fine) te) ρ β (.str fine) β1 := by
  refine ⟨hs, fun b G H σ Q E kk => ⟨tabs_of hw E.tabs, fun H1 e t1 => ?_⟩⟩
  have s0 : Step b β.isSome G H G H1 := step_ext hw E.sub E.tabs e t1
  have k0 : BagOk b β G H1 := fun ns z => ⟨e _ _ (E.bagk ns z).1 NoT.lst.1, (E.bagk ns z).2⟩
  exact (h (tellX K Q l)).run b G H1 σ _ (E.step s0 k0) fun v G2 H2 s2 k2 _ => kk _ G2 H2 (s0.trans s2) k2 (.str _)
theorem d_lamR (hw : ∀ P q, TabW.w P q ↔ (P, q) ∈ T) (h : ∀ E, EvR K E (te E) ρ β C k β1) (hs : β1.isSome = β.isSome) (ht : ToldAs K C l k s) : EvB K (tLam T (TTell K l fine) te) ρ β (.str s) β1 := by
  refine ⟨hs, fun b G H σ Q E kk => ⟨tabs_of hw E.tabs, fun H1 e t1 => ?_⟩⟩
  have s0 : Step b β.isSome G H G H1 := step_ext hw E.sub E.tabs e t1
  have k0 : BagOk b β G H1 := fun ns z => ⟨e _ _ (E.bagk ns z).1 NoT.lst.1, (E.bagk ns z).2⟩
  exact (h (tellX K Q l)).run b G H1 σ _ (E.step s0 k0) fun dx G2 H2 s2 k2 ka => toldAs_run ht s2.s ka (kk _ G2 H2 (s0.trans s2) k2 (.str _))
end
end TD
set_option Elab.async false
set_option linter.all false
set_option maxRecDepth 100000
set_option maxHeartbeats 3000000
namespace TD
open PySem L2 PySem.Spec PyProof.Rows
section
variable [TabW] {P : Program} {w : World} {K : PySem.W.Frag} {mg : Str → Option Value} {base : Heap} {k : Nat} {x m : Str} {ps : List Str} {X : Cx} {A : Around} {outer : List PySem.Env} {s : Shared} {H : Hp} {E : XK} {scope : Scope} {f c' C : Addr} {q pos apos : Pos} {e o a b : Expr} {es : List Expr} {t : TA} {te ta tb : TE} {op : Operator}
theorem pe_fnL {R : FX} (F : FnX P w K mg base k x ps R) (hr : Room k (A.deeper (LamX.lamEnv X scope s.heap.objs.size f c'))) (ha : PA (LamX.lamCx X A outer s H E scope f c') (e :: es) t) (hk : scope.kind = .function := by rfl) (h1 : X.prog = P := by rfl) (h2 : X.w = w := by rfl) (h3 : X.K = K := by rfl) (h4 : X.mg = mg := by rfl) (h5 : X.base = base := by rfl)
    (hg : scope.names.lookup x = some .globalImplicit := by rfl) (hdb : (x == ("__debug__" : Str)) = false := by decide) (hs : ∀ v : PySem.Env, starEach (e :: es) v = (false, eval e v) :: starEach es v := by intro _; rfl)
    (hp : ∀ v : PySem.Env, (backTo pos (starEach es v)).any (·.1) = false := by intro _; rfl) : PE (LamX.lamCx X A outer s H E scope f c') (.Call (.Name x q) (e :: es) [] pos) (tCall (spX K R) [] E t) :=
  pe_fnX F hr (show Passes (L2.CX (LamX.lamCx X A outer s H E scope f c').prog (LamX.lamCx X A outer s H E scope f c').w) (LamX.lamCx X A outer s H E scope f c') E from pass_lam (X := X) hk) ha h1 h2 h3 h4 h5 hg hdb (hs _) (hp _)
theorem pe_newL {R : FI} (F : FnI P w K mg base k x C ps R) (hr : Room (k + 1) (A.deeper (LamX.lamEnv X scope s.heap.objs.size f c'))) (ha : PA (LamX.lamCx X A outer s H E scope f c') (e :: es) t) (hk : scope.kind = .function := by rfl) (h1 : X.prog = P := by rfl) (h2 : X.w = w := by rfl) (h3 : X.K = K := by rfl) (h4 : X.mg = mg := by rfl) (h5 : X.base = base := by rfl)
    (hg : scope.names.lookup x = some .globalImplicit := by rfl) (hdb : (x == ("__debug__" : Str)) = false := by decide) (hs : ∀ v : PySem.Env, starEach (e :: es) v = (false, eval e v) :: starEach es v := by intro _; rfl)
    (hp : ∀ v : PySem.Env, (backTo pos (starEach es v)).any (·.1) = false := by intro _; rfl) : PE (LamX.lamCx X A outer s H E scope f c') (.Call (.Name x q) (e :: es) [] pos) (tMake C (spI K C R) [] E t) :=
  pe_new F hr (show Passes (L2.CX (LamX.lamCx X A outer s H E scope f c').prog (LamX.lamCx X A outer s H E scope f c').w) (LamX.lamCx X A outer s H E scope f c') E from pass_lam (X := X) hk) ha h1 h2 h3 h4 h5 hg hdb (hs _) (hp _)
theorem pe_mXL {R : FX} {pl : PySem.Env → Sem Bool} (F : FnMX P w K mg base k C m ps R) (hr : Room k (A.deeper (LamX.lamEnv X scope s.heap.objs.size f c'))) (ho : PE (LamX.lamCx X A outer s H E scope f c') o te) (ha : PA (LamX.lamCx X A outer s H E scope f c') (e :: es) t) (hk : scope.kind = .function := by rfl) (h1 : X.prog = P := by rfl) (h2 : X.w = w := by rfl) (h3 : X.K = K := by rfl) (h4 : X.mg = mg := by rfl) (h5 : X.base = base := by rfl)
    (hs : ∀ v : PySem.Env, starEach (e :: es) v = (false, eval e v) :: starEach es v := by intro _; rfl) (hp : ∀ v : PySem.Env, (backTo pos (starEach es v)).any (·.1) = false := by intro _; rfl)
    (ht : ∀ v : PySem.Env, eval (.Call (.Attribute o m apos) (e :: es) [] pos) v = (do let it ← eval o v; standAt apos.atName; let (g, fst) ← holding [it] (getMethod it m (pl v)); callWith pos g fst (backTo pos (starEach (e :: es) v)) (backToKw pos (keywordEach [] v))) := by intro _; rfl) :
    PE (LamX.lamCx X A outer s H E scope f c') (.Call (.Attribute o m apos) (e :: es) [] pos) (tMeth C m (spX K R) [] E te t) :=
  pe_mX F hr (show Passes (L2.CX (LamX.lamCx X A outer s H E scope f c').prog (LamX.lamCx X A outer s H E scope f c').w) (LamX.lamCx X A outer s H E scope f c') E from pass_lam (X := X) hk) ho ha h1 h2 h3 h4 h5 (hs _) (hp _) (ht _)
end
section
variable [TabW] {K : PySem.W.Frag} {ρ : Rho} {β β1 : Bag} {te : TE} {ps : List (Dt × Dt)} {C : Addr}
/-- isinstance(x, C), x an object of C -/
theorem d_isC (h : EvB K te ρ β (oD C ps) β1) (hk : PySem.W.kitOne K (.ref C) (.ref C) = some true) : EvB K (tCB (rIsiR K) (tCons te (tCons (tC (.ref C)) tNil))) ρ β (.bool true) β1 := ⟨h.som, fun b G H σ Q E k => h.run b G H σ _ E fun v G1 H1 s1 k1 d1 => by
  obtain ⟨a, dx, fs, rfl, hc, hs, hp⟩ := den_oD d1
  exact ⟨.ref a, .ref C, .ref C, .ref C, true, rfl, .own C, .ty (.base (.ins (s1.s _ _ hs) hc.ic.cl hc.ic.ha hc.ic.hn hc.ic.htk hc.ic.hm)), hk, k _ G1 H1 s1 k1 (.bl true)⟩⟩
end
end TD
set_option Elab.async false
set_option linter.all false
set_option maxRecDepth 100000
set_option maxHeartbeats 3000000
namespace TD
open PySem L2 PySem.Spec PyProof.Rows
open Evl (Ex ex_l ex_t fresh_back sq_of st_of sz_of sz_lt)
theorem op_ofK {X : Cx} {K : PySem.W.Frag} {o : Value → Value → Sem Value} {r : PySem.W.Frag → R2} (h : OpR X o (r X.K)) (hK : X.K = K := by rfl) : OpR X o (r K) := hK ▸ h
section
variable {X : Cx}
def rInTup (K : PySem.W.Frag) : R2 := fun x y H Q => ∃ d ds, Dp K H x d ∧ Dp K H y (.tuple ds) ∧ SeqAt.shaped d = true ∧ SeqAt.shaped (.tuple ds) = true ∧ Q (.bl (ds.any fun z => PyData.eqv z d)) H
theorem op_inTup {K : PySem.W.Frag} (hu : X.A.units + 65 < cLine) (hK : X.K = K := by rfl) : OpR X (compareOp .In) (rInTup K) := by
  subst hK
  rintro pins s σ H x y v u Q I rx ry ⟨d, ds, hd, he, sd, se, q⟩
  obtain ⟨_, r1⟩ := Dp.reads I d x v hd rx
  obtain ⟨_, r2⟩ := Dp.reads I (.tuple ds) y u he ry
  exact SeqAt.in_tuple_reads r2 r1 (SeqAt.canLay_of_shaped se) (SeqAt.canLay_of_shaped sd) (room_in_shaped sd hu) ⟨.bl _, H, I, rfl, q⟩
end
section
variable [TabW] {K : PySem.W.Frag} {ρ : Rho} {β β1 β2 : Bag} {ta tb : TE} {x : Dt} {ds : List Dt}
theorem d_inTup (hx : EvB K ta ρ β x β1) (hy : EvB K tb ρ β1 (.tuple ds) β2) (fx : flatD x = true) (fy : flatL ds = true) (sx : SeqAt.shaped x = true) (sy : SeqAt.shaped (.tuple ds) = true) : EvB K (tOp (rInTup K) ta tb) ρ β (.bool (ds.any fun z => PyData.eqv z x)) β2 :=
  d_op hx hy fun b G H v w Q e h1 h2 k => ⟨x, ds, h1.dp e fx, h2.dp e (by unfold flatD; exact fy), sx, sy, k _ G H (Step.refl e) (.bl _)⟩
end
variable [TabW]
theorem any_tups (x : List Int) : ∀ ns : List (List Int), (ns.map tupJ).any (fun z => PyData.eqv z (tupJ x)) = decide (x ∈ ns)
  | [] => rfl
  | n :: ns => by
    rw [List.map_cons, List.any_cons, any_tups x ns]
    have e : PyData.eqv (tupJ n) (tupJ x) = decide (n = x) := eqv_ints n x
    rw [e]
    by_cases h : n = x
    · simp [h]
    · simp [h, Ne.symm h]
theorem flat_tups : ∀ ns : List (List Int), flatL (ns.map tupJ) = true
  | [] => rfl
  | n :: ns => by
    show (flatL (n.map .int) && flatL (ns.map tupJ)) = true
    rw [flat_ints, flat_tups ns]
    rfl
theorem lay_tups : ∀ ns : List (List Int), PyData.canLayAll0 (ns.map tupJ) = true ∧ PyData.depthAll (ns.map tupJ) ≤ 1
  | [] => ⟨rfl, by decide⟩
  | n :: ns => by
    obtain ⟨h1, h2⟩ := lay_tups ns
    refine ⟨?_, ?_⟩
    · show (PyData.canLayAll0 (n.map .int) && PyData.canLayAll0 (ns.map tupJ)) = true
      rw [lay_ints, h1]
      rfl
    · show max (PyData.depthAll (n.map .int) + 1) (PyData.depthAll (ns.map tupJ)) ≤ 1
      rw [depth_ints]
      omega
theorem shaped_tups (ns : List (List Int)) : SeqAt.shaped (.list (ns.map tupJ)) = true ∧ SeqAt.shaped (.tuple (ns.map tupJ)) = true := by
  obtain ⟨h1, h2⟩ := lay_tups ns
  constructor
  · show (PyData.canLayAll0 (ns.map tupJ) && decide (PyData.depthAll (ns.map tupJ) + 1 ≤ 64)) = true
    rw [h1, decide_eq_true (by omega)]
    rfl
  · show (PyData.canLayAll0 (ns.map tupJ) && decide (PyData.depthAll (ns.map tupJ) + 1 ≤ 64)) = true
    rw [h1, decide_eq_true (by omega)]
    rfl
theorem eqv_tups : ∀ ms ns : List (List Int), PyData.eqvAll (ms.map tupJ) (ns.map tupJ) = decide (ms = ns)
  | [], [] => rfl
  | [], _ :: _ => rfl
  | _ :: _, [] => rfl
  | m :: ms, n :: ns => by
    show (PyData.eqvAll (m.map .int) (n.map .int) && PyData.eqvAll (ms.map tupJ) (ns.map tupJ)) = decide (m :: ms = n :: ns)
    rw [eqv_ints, eqv_tups ms ns]
    by_cases h : m = n
    · by_cases g : ms = ns
      · simp [h, g]
      · simp [h, g]
    · simp [h]
section
variable {K : PySem.W.Frag} {ρ : Rho} {β β1 β2 : Bag} {ta tb : TE} {l : List Int} {ls ms : List (List Int)}
theorem d_inTT (hx : EvB K ta ρ β (tupJ l) β1) (hy : EvB K tb ρ β1 (.tuple (ls.map tupJ)) β2) : EvB K (tOp (rInTup K) ta tb) ρ β (.bool (decide (l ∈ ls))) β2 :=
  (d_inTup hx hy (flat_ints l) (flat_tups ls) (shaped_tup l) (shaped_tups ls).2).to (congrArg PyData.bool (any_tups l ls))
theorem d_notInTT (hx : EvB K ta ρ β (tupJ l) β1) (hy : EvB K tb ρ β1 (.tuple (ls.map tupJ)) β2) : EvB K (tOp (rNotInT K) ta tb) ρ β (.bool (!decide (l ∈ ls))) β2 :=
  (d_notInT hx hy (flat_ints l) (flat_tups ls) (shaped_tup l) (shaped_tups ls).2).to (congrArg (fun c => PyData.bool (!c)) (any_tups l ls))
theorem d_eqTs (ha : EvB K ta ρ β (.tuple (ls.map tupJ)) β1) (hb : EvB K tb ρ β1 (.tuple (ms.map tupJ)) β2) : EvB K (tOp (rEqD K) ta tb) ρ β (.bool (decide (ls = ms))) β2 :=
  (d_eqD ha hb (flat_tups ls) (flat_tups ms) (shaped_tups ls).2 (shaped_tups ms).2).to (congrArg PyData.bool (eqv_tups ls ms))
theorem d_neTs (ha : EvB K ta ρ β (.tuple (ls.map tupJ)) β1) (hb : EvB K tb ρ β1 (.tuple (ms.map tupJ)) β2) : EvB K (tOp (rNeD K) ta tb) ρ β (.bool (!decide (ls = ms))) β2 :=
  (d_neD ha hb (flat_tups ls) (flat_tups ms) (shaped_tups ls).2 (shaped_tups ms).2).to (congrArg (fun c => PyData.bool (!c)) (eqv_tups ls ms))
theorem d_neLs (ha : EvB K ta ρ β (.list (ls.map tupJ)) β1) (hb : EvB K tb ρ β1 (.list (ms.map tupJ)) β2) : EvB K (tOp (rNeD K) ta tb) ρ β (.bool (!decide (ls = ms))) β2 :=
  (d_neD ha hb (flat_tups ls) (flat_tups ms) (shaped_tups ls).1 (shaped_tups ms).1).to (congrArg (fun c => PyData.bool (!c)) (eqv_tups ls ms))
end
structure LotOk (p : Int) (ls : List (List Int)) : Prop where
  pr : Num.PrimeI p
  pos : 1 ≤ ls.length
  few : ls.length ≤ 13
  line : ∀ l ∈ ls, Num.lineI p l = true
  nd : ls.Nodup
def ofT : Dt → List Int
  | .tuple xs => xs.map Num.toI
  | _ => []
theorem ofT_tup (l : List Int) : ofT (tupJ l) = l := Num.map_toI l
theorem map_ofT (ls : List (List Int)) : (ls.map tupJ).map ofT = ls := by
  rw [List.map_map]
  exact (List.map_congr_left fun l _ => ofT_tup l).trans (List.map_id ls)
theorem LotOk.perm {p : Int} {ls ms : List (List Int)} (h : LotOk p ls) (e : ms.Perm ls) : LotOk p ms :=
  ⟨h.pr, by rw [e.length_eq]; exact h.pos, by rw [e.length_eq]; exact h.few, fun l hl => h.line l (e.mem_iff.mp hl), e.nodup_iff.mpr h.nd⟩
theorem LotOk.sort {p : Int} {ls : List (List Int)} (h : LotOk p ls) : LotOk p (sortX ls) := h.perm (sortX_perm ls)
theorem sortX_id {ls : List (List Int)} (h : ls.Pairwise fun x y => leL x y = true) : sortX ls = ls := (sortX_uniq (List.Perm.refl ls) h).symm
theorem LotOk.more {p : Int} {ls : List (List Int)} (h : LotOk p ls) {l : List Int} (hl : Num.lineI p l = true) (hn : l ∉ ls) (hz : ls.length < 13) : LotOk p (ls ++ [l]) := by
  refine ⟨h.pr, by rw [List.length_append]; exact Nat.le_trans h.pos (Nat.le_add_right _ _), by rw [List.length_append]; show ls.length + 1 ≤ 13; omega, fun m hm => ?_, ?_⟩
  · (rcases List.mem_append.mp hm with hm | hm)
    · exact h.line m hm
    · rw [List.mem_singleton.mp hm]; exact hl
  · rw [List.nodup_append]
    refine ⟨h.nd, by simp, fun x hx y hy e => ?_⟩
    rw [e, List.mem_singleton.mp hy] at hx
    exact hn hx
theorem LotOk.sub {p : Int} {ls ms : List (List Int)} (h : LotOk p ls) (hm : ∀ l ∈ ms, l ∈ ls) (hn : ms.Nodup) (h1 : 1 ≤ ms.length) : LotOk p ms :=
  ⟨h.pr, h1, Nat.le_trans (List.Nodup.length_le_of_subset hn hm) h.few, fun l hl => h.line l (hm l hl), hn⟩
theorem LotOk.join {p : Int} {ls ms : List (List Int)} (h : LotOk p ls) (hM : LotOk p ms) (hz : ls.length + (ms.filter fun l => !decide (l ∈ ls)).length ≤ 13) : LotOk p (ls ++ ms.filter fun l => !decide (l ∈ ls)) := by
  refine ⟨h.pr, by rw [List.length_append]; exact Nat.le_trans h.pos (Nat.le_add_right _ _), by rw [List.length_append]; exact hz, fun m hm => ?_, ?_⟩
  · (rcases List.mem_append.mp hm with hm | hm)
    · exact h.line m hm
    · exact hM.line m (List.mem_filter.mp hm).1
  · rw [List.nodup_append]
    refine ⟨h.nd, hM.nd.sublist List.filter_sublist, fun x hx y hy e => ?_⟩
    have := (List.mem_filter.mp hy).2
    rw [← e] at this
    simp [hx] at this
theorem putT_keys {α : Type} {qs : List (List Int × α)} {k x : List Int} {v : α} : x ∈ (putT qs k v).map (·.1) ↔ x = k ∨ x ∈ qs.map (·.1) := by
  unfold putT
  split
  · rename_i h
    have e : (qs.map fun q => if q.1 = k then (q.1, v) else q).map (·.1) = qs.map (·.1) := by
      rw [List.map_map]
      refine List.map_congr_left fun q _ => ?_
      show (if q.1 = k then (q.1, v) else q).1 = q.1
      split <;> rfl
    rw [e]
    constructor
    · exact .inr
    · rintro (rfl | h')
      · obtain ⟨q, hq, z⟩ := List.any_eq_true.mp h
        exact List.mem_map.mpr ⟨q, hq, of_decide_eq_true z⟩
      · exact h'
  · rw [List.map_append, List.mem_append]
    simp only [List.map_cons, List.map_nil, List.mem_cons, List.not_mem_nil, or_false]
    exact or_comm
theorem putT_nodup {α : Type} {qs : List (List Int × α)} {k : List Int} {v : α} (h : (qs.map (·.1)).Nodup) : ((putT qs k v).map (·.1)).Nodup := by
  by_cases hk : k ∈ qs.map (·.1)
  · unfold putT
    rw [if_pos (by obtain ⟨q, hq, z⟩ := List.mem_map.mp hk; exact List.any_eq_true.mpr ⟨q, hq, decide_eq_true z⟩)]
    have e : (qs.map fun q => if q.1 = k then (q.1, v) else q).map (·.1) = qs.map (·.1) := by
      rw [List.map_map]
      refine List.map_congr_left fun q _ => ?_
      show (if q.1 = k then (q.1, v) else q).1 = q.1
      split <;> rfl
    rw [e]
    exact h
  · rw [putT_new hk, List.map_append, List.nodup_append]
    refine ⟨h, by simp, fun x hx y hy e => ?_⟩
    simp only [List.map_cons, List.map_nil, List.mem_cons, List.not_mem_nil, or_false] at hy
    rw [e, hy] at hx
    exact hk hx
/-- what holds of the meets that are gathered -/
structure MeetOk (p : Int) (acc : List (List Int × Dt)) : Prop where
  ok : ∀ q ∈ acc, Ok3 2000000 4000001 3 q.1 ∧ Num.NT p q.1
  nd : (acc.map (·.1)).Nodup
theorem MeetOk.put {p : Int} {acc : List (List Int × Dt)} (h : MeetOk p acc) {k : List Int} (hk : Ok3 2000000 4000001 3 k ∧ Num.NT p k) {v : Dt} : MeetOk p (putT acc k v) := by
  refine ⟨fun q hq => ?_, putT_nodup h.nd⟩
  rcases putT_keys.mp (List.mem_map_of_mem (f := (·.1)) hq) with e | e
  · rw [e]; exact hk
  · obtain ⟨r, hr, z⟩ := List.mem_map.mp e
    rw [← z]
    exact h.ok r hr
end TD
set_option Elab.async false
set_option linter.all false
set_option maxRecDepth 100000
set_option maxHeartbeats 3000300
namespace TD
open PySem L2 PySem.Spec PyProof.Rows
open Evl (Ex ex_l ex_t fresh_back sq_of st_of sz_of sz_lt)
inductive ForWE [TabW] (K : PySem.W.Frag) (i j l : Nat) (tu : TS) : Nat → List Dt → Rho → Bag → Dt → Out → Bag → Dt → Prop
  | nil (n : Nat) (ρ : Rho) (β : Bag) (d : Dt) : ForWE K i j l tu n [] ρ β d (.nx ρ) β d
  | nx {n : Nat} {x : Dt} {xs : List Dt} {ρ ρ1 : Rho} {β β1 β2 : Bag} {d d1 d2 : Dt} {o : Out} : StW K i tu ((ρ.set j (some (.imm (.int (n : Nat))))).set l (some (.imm x))) β d (.nx ρ1) β1 d1 → ForWE K i j l tu (n + 1) xs ρ1 β1 d1 o β2 d2 → ForWE K i j l tu n (x :: xs) ρ β d o β2 d2
section
variable [TabW] {K : PySem.W.Frag} {ρ : Rho} {β β1 β2 : Bag} {tl : TE} {tu tw : TS} {d d2 : Dt} {es : List Dt} {o : Out} {i j l : Nat}
theorem ForWE.som {n : Nat} (h : ForWE K i j l tu n es ρ β d o β2 d2) : β2.isSome = β.isSome := by
  induction h with
  | nil => rfl
  | nx h _ ih => exact ih.trans h.som
/-- turns that keep a form of what is told -/
theorem ForWE.keep {F : Nat → Rho → Dt → Prop} : ∀ {es : List Dt} {n : Nat} {ρ : Rho} {d : Dt}, F n ρ d → (∀ m x ρ d, es[m]? = some x → F (n + m) ρ d → ∃ ρ1 d1, StW K i tu ((ρ.set j (some (.imm (.int ((n + m : Nat) : Int))))).set l (some (.imm x))) β d (.nx ρ1) β d1 ∧ F (n + m + 1) ρ1 d1) →
    ∃ ρ' d', ForWE K i j l tu n es ρ β d (.nx ρ') β d' ∧ F (n + es.length) ρ' d'
  | [], n, ρ, d, h, _ => ⟨ρ, d, .nil _ _ _ _, h⟩
  | x :: es, n, ρ, d, h, hs => by
    obtain ⟨ρ1, d1, h1, h2⟩ := hs 0 x ρ d rfl h
    obtain ⟨ρ', d', h3, h4⟩ := ForWE.keep (F := F) (es := es) (n := n + 1) h2 fun m y ρ d hy hF => by
      have := hs (m + 1) y ρ d (by simpa using hy) (by rw [show n + (m + 1) = n + 1 + m by omega]; exact hF)
      rw [show n + (m + 1) = n + 1 + m by omega] at this
      exact this
    rw [List.length_cons, show n + (es.length + 1) = n + 1 + es.length by omega]
    exact ⟨ρ', d', .nx h1 h3, h4⟩
end
end TD
set_option Elab.async false
set_option linter.all false
set_option maxRecDepth 100000
set_option maxHeartbeats 3000000
namespace TD
open PySem L2 PySem.Spec PyProof.Rows
open Evl (Ex ex_l ex_t fresh_back sq_of st_of sz_of sz_lt)
/-- a function of the bag and of the rest of the arguments -/
def fB {α : Type} (a : α → List Slot) (P : α → Prop) (F : α → List Int → Dt × List Int) : FR := fun as β r β' => ∃ y n ns, as = .bag :: a y ∧ P y ∧ Num.BagI n ns ∧ r = (F y ns).1 ∧ β = some ns ∧ β' = some (F y ns).2
section
variable [TabW] (P : Program) (w : World) (K : PySem.W.Frag) (mg : Str → Option Value) (base : Heap) (k : Nat)
structure FnD (x : Str) (ps : List Str) {α : Type} (a : α → List Slot) (Pre : α → Prop) (Post : α → Dt → Prop) (F : α → List Int → Dt × List Int) : Prop where
  fn : FnG P w K mg base k x ps (fB a Pre F)
  post : ∀ y n ns, Pre y → Num.BagI n ns → Post y (F y ns).1 ∧ ∃ m, Num.BagI m (F y ns).2
end
section
variable [TabW] {P : Program} {w : World} {K : PySem.W.Frag} {mg : Str → Option Value} {base : Heap} {k : Nat} {x : Str} {ps N : List Str} {st : Stmt} {ρ : Rho} {β : Bag} {t : TA} {E : XK} {n : Int} {ns : List Int}
/-- a call of it: some datum of which Post holds, some bag -/
theorem FnD.call {α : Type} {a : α → List Slot} {Pre : α → Prop} {Post : α → Dt → Prop} {F : α → List Int → Dt × List Int} (G : FnD P w K mg base k x ps a Pre Post F) {y : α} (ha : EvA K t ρ (some ns) (.bag :: a y) (some ns)) (hp : Pre y) (hb : Num.BagI n ns) :
    ∃ d ms m, Post y d ∧ Num.BagI m ms ∧ EvB K (tCall (spR K (fB a Pre F)) [] E t) ρ (some ns) d (some ms) := by
  obtain ⟨h1, m, h2⟩ := G.post y n ns hp hb
  exact ⟨_, _, m, h1, h2, d_call ha ⟨y, n, ns, rfl, hp, hb, rfl, rfl, rfl⟩ rfl⟩
end
end TD
set_option Elab.async false
set_option linter.all false
set_option maxRecDepth 100000
set_option maxHeartbeats 4100000
namespace TD
open PySem L2 LamX PySem.Spec PyProof.Rows
section
variable {K : PySem.W.Frag} {T : List Addr} {a b : Addr} {vs : List Value} {ns : List Int}
abbrev scriptObj (vs : List Value) : Obj := { cls := .type "list", data := .seq vs.toArray }
abbrev emptyTab : Obj := { cls := .none, data := .fields #[] }
/-- what is followed from the start: the tables; and the script, unless the heap's known part has it -/
def seenAt (K : PySem.W.Frag) (T : List Addr) (a : Addr) (vs : List Value) (ns : List Int) : Hp := fun b =>
  if b ∈ T then some (.tbl #[])
  else if b = a ∧ K.lookup a = none then some (.frz (scriptObj vs) (.lst (ns.map V.int)))
  else none
inductive Seen (K : PySem.W.Frag) (T : List Addr) (a : Addr) (vs : List Value) (ns : List Int) (b : Addr) : Option HO → Prop
  | tab : b ∈ T → Seen K T a vs ns b (some (.tbl #[]))
  | script : b ∉ T → b = a → K.lookup a = none → Seen K T a vs ns b (some (.frz (scriptObj vs) (.lst (ns.map V.int))))
  | off : b ∉ T → (b = a → K.lookup a ≠ none) → Seen K T a vs ns b none
theorem seen_is (K : PySem.W.Frag) (T : List Addr) (a : Addr) (vs : List Value) (ns : List Int) (b : Addr) : Seen K T a vs ns b (seenAt K T a vs ns b) := by
  unfold seenAt
  by_cases h1 : b ∈ T
  · rw [if_pos h1]
    exact .tab h1
  · rw [if_neg h1]
    by_cases h2 : b = a ∧ K.lookup a = none
    · rw [if_pos h2]
      exact .script h1 h2.1 h2.2
    · rw [if_neg h2]
      exact .off h1 fun e z => h2 ⟨e, z⟩
end
section
variable [TabW] {P : Program} {w : World} {K : PySem.W.Frag} {mg mb : Str → Option Value} {k : Nat} {fa a : Addr} {cs : List (Addr × Addr)} {fd : FuncData} {x : Str} {s : Shared} {vs : List Value} {ns : List Int}
theorem call_lawG (KX : K.In s.heap) (gm : s.heap.Ns mainGlobals mg) (gb : s.heap.Ns builtinsNs mb) (bb : ∀ y : Str, y ≠ "__name__" → mb y = bootBuiltins y) (nl : s.heap.NoLimit) (ge : s.gens = #[])
    (tabs : ∀ p ∈ cs, s.heap.get? p.2 = some emptyTab) (free : ∀ p ∈ cs, K.lookup p.2 = none) (code : ∀ p ∈ cs, PySem.W.CodeHd s.heap p.1 p.2) (hw : ∀ Q q, TabW.w Q q → Q ∈ cs.map (·.2))
    (bm : ∃ (m : Addr) (o : Obj), mg "__builtins__" = some (.ref m) ∧ m ≠ builtinsNs ∧ s.heap.get? m = some o ∧ o.cls = .type "module" ∧ o.dict = some builtinsNs ∧ o.data = .plain)
    (ha : s.heap.get? a = some (scriptObj vs)) (hi : IntsAre vs ns) (hl : ns.length ≤ 63) (hr : Room k callerA)
    (F : ∀ base : Heap, K.In base → base.Ns mainGlobals mg → (∀ p ∈ cs, TabB base mg p.1 p.2) → FnOkG P w K mg base CX0 k fa fd [x] (spLaw K)) (hb : ∀ (t : Shared) (u : Value), BindsTo t fd ⟨[u], []⟩ [(x, u)]) :
    codeAny (model P w) callerA (.call (.ref fa) ⟨[.ref a], []⟩) (fun r s' => r = .ok (.ret (.bool true)) ∧ OldK s.heap s'.heap ∧ s'.os = s.os ∧ AllBare s'.gens) s := by
  have tabT : ∀ {b : Addr}, b ∈ cs.map (·.2) → s.heap.get? b = some emptyTab := fun {b} hm => by
    obtain ⟨p, hp, rfl⟩ := List.mem_map.mp hm
    exact tabs p hp
  have inT : ∀ {p : Addr × Addr}, p ∈ cs → p.2 ∈ cs.map (·.2) := fun hp => List.mem_map_of_mem hp
  have aOff : a ∉ cs.map (·.2) := fun z => by
    have q := (tabT z).symm.trans ha
    exact nomatch congrArg Obj.data (Option.some.inj q)
  obtain ⟨H, hH⟩ : ∃ H, H = seenAt K (cs.map (·.2)) a vs ns := ⟨_, rfl⟩
  have seen : ∀ b, Seen K (cs.map (·.2)) a vs ns b (H b) := fun b => hH ▸ seen_is K (cs.map (·.2)) a vs ns b
  have lenV := hi.length
  have hz : (ns.map V.int).length ≤ sizeLine := by
    rw [List.length_map]
    exact Nat.le_trans hl (by decide)
  have rv := vals_ints hi
  -- objects of other kinds are not followed
  have off : ∀ {b : Addr} {o : Obj}, s.heap.get? b = some o → (∀ xs n, o.data ≠ .seq xs n) → o.data ≠ .fields #[] → H b = none := fun {b o} e d1 d2 => by
    have z := seen b
    generalize H b = u at z
    cases z with
    | tab hm =>
      have q := e.symm.trans (tabT hm)
      exact absurd (congrArg Obj.data (Option.some.inj q)) d2
    | script _ hba _ =>
      rw [hba] at e
      have q := e.symm.trans ha
      exact absurd (congrArg Obj.data (Option.some.inj q)) (d1 _ _)
    | off _ _ => rfl
  have still : ∀ {b : Addr} {o : Obj}, s.heap.get? b = some o → (∀ xs n, o.data ≠ .seq xs n) → o.data ≠ .fields #[] → (hidT s.heap H).get? b = some o := fun e d1 d2 => hidT_get e (off e d1 d2)
  have nsB : ∀ {b : Addr} {m : Str → Option Value}, s.heap.Ns b m → (hidT s.heap H).Ns b m := fun ⟨o, es, ep, e, d, r⟩ => ⟨o, es, ep, still e (fun _ _ z => by rw [d] at z; cases z) (fun z => by rw [d] at z; cases z), d, r⟩
  have kinB : K.In (hidT s.heap H) := fun b o e => hidT_get (KX b o e) (by
    have z := seen b
    generalize H b = u at z
    cases z with
    | tab hm =>
      obtain ⟨p, hp, rfl⟩ := List.mem_map.mp hm
      exact nomatch (free p hp).symm.trans e
    | script _ hba hk =>
      rw [hba] at e
      exact nomatch hk.symm.trans e
    | off _ _ => rfl)
  have modB : L2.Mod K mg (hidT s.heap H) := ⟨kinB, nsB gm, ⟨mb, nsB gb, bb⟩, let ⟨m, e1, e2⟩ := nl; ⟨m, nsB e1, e2⟩⟩
  have tabB : ∀ p ∈ cs, TabB (hidT s.heap H) mg p.1 p.2 := fun p hp => by
    have htp := tabs p hp
    refine ⟨?_, ?_, fun z => ?_⟩
    · obtain ⟨o, fs, fl, t1, gs, t2, bf, tx, t3, e, c1, c2, c3, r⟩ := code p hp
      refine ⟨o, fs, fl, t1, gs, t2, bf, tx, t3, still e (fun _ _ z => by rw [c2] at z; cases z) (fun z => ?_), c1, c2, c3, r⟩
      rw [c2] at z
      rw [Data.fields.inj z] at c3
      cases c3
    · obtain ⟨m, o, m1, m2, m3, m4, m5, m6⟩ := bm
      have nG : m ≠ mainGlobals := fun z => by
        obtain ⟨o', _, _, e', d', _⟩ := gm
        rw [z] at m3
        have q := m3.symm.trans e'
        cases q
        rw [m6] at d'
        cases d'
      have nP : m ≠ p.2 := fun z => by
        rw [z] at m3
        have q := m3.symm.trans htp
        cases q
        cases m6
      exact ⟨m, o, m1, m2, nG, nP, still m3 (fun _ _ z => by rw [m6] at z; cases z) (fun z => by rw [m6] at z; cases z), m4, m5, m6⟩
    · obtain ⟨o', _, _, e', d', _⟩ := gm
      rw [z] at e'
      have q := e'.symm.trans htp
      cases q
      cases d'
  have held : HOk P w H s.heap := fun b u hu => by
    have z := seen b
    rw [hu] at z
    cases z with
    | tab hm => exact tabT hm
    | script _ hba _ =>
      subst hba
      exact ⟨ha, hz, vs, _, rv, ha⟩
  have env : Env0 P w K mg (hidT s.heap H) callerA [] s H := ⟨rfl, modB, fun _ _ e => of_hidT e, Nat.le_of_eq (hidT_size _ _), trivial, (fun _ hm => nomatch (List.not_mem_nil hm)), held, .of_eq ge⟩
  -- the script as the def reads it, apart from the tables
  obtain ⟨G, hG⟩ : ∃ G : Hp, G = fun b => if b ∈ cs.map (·.2) then none else H b := ⟨_, rfl⟩
  have gOff : ∀ {b : Addr}, b ∉ cs.map (·.2) → G b = H b := fun hn => by rw [hG]; exact if_neg hn
  have gIn : ∀ {b : Addr}, b ∈ cs.map (·.2) → G b = none := fun hn => by rw [hG]; exact if_pos hn
  have exG : Evl.Ex G H := fun b o e => by
    by_cases hm : b ∈ cs.map (·.2)
    · exact nomatch (gIn hm).symm.trans e
    · exact (gOff hm).symm.trans e
  have scr : SqL K G a (ns.map V.int) := by
    cases hk : K.lookup a with
    | some o =>
      have q := (KX a o hk).symm.trans ha
      cases q
      exact .inr ⟨_, vs.toArray, _, hk, rfl, rfl, rfl, by rw [List.size_toArray, lenV]; exact Nat.le_trans hl (by decide), by simpa using rv⟩
    | none =>
      refine .inl (.inr ⟨scriptObj vs, ?_⟩)
      rw [gOff aOff]
      have z := seen a
      generalize H a = u at z
      cases z with
      | tab hm => exact absurd hm aOff
      | script _ _ _ => rfl
      | off _ hn => exact absurd hk (hn rfl)
  have tok : TabsOk G H := ⟨fun Q q hq => TabS.nil (by
    have hm := hw Q q hq
    have z := seen Q
    generalize H Q = u at z
    cases z with
    | tab _ => rfl
    | script hn _ _ => exact absurd hm hn
    | off hn _ => exact absurd hm hn), fun b ps e => by
    by_cases hm : b ∈ cs.map (·.2)
    · exact nomatch (gIn hm).symm.trans e
    · rw [gOff hm] at e
      have z := seen b
      rw [e] at z
      cases z with
      | tab h2 => exact hm h2⟩
  refine codeAny_mono ((F _ kinB (nsB gm) tabB).run callerA [] s H ⟨[.ref a], []⟩ [.ref a] [.ref a] (fun v _ => v = .bl true) (fun _ _ _ => False) ⟨hr, rfl⟩ env (hb s (.ref a)) (.cons rfl .nil) ⟨a, ns, G, rfl, exG, tok, scr, hl, fun _ => rfl⟩) fun r s' hq => ?_
  match r, hq with
  | .error _, hq => exact False.elim hq
  | .ok .next, hq => exact False.elim hq
  | .ok .brk, hq => exact False.elim hq
  | .ok .cont, hq => exact False.elim hq
  | .ok (.ret u), ⟨v, H', os', bare', un, held', rel, (hv : v = .bl true)⟩ =>
    subst hv
    obtain rfl : u = Value.bool true := rel
    have more_ : ∀ p ∈ cs, ∃ more : Array Value, s'.heap.get? p.2 = some { cls := .none, data := .fields more } := fun p hp => by
      have e : H p.2 = some (.tbl #[]) := by
        have z := seen p.2
        generalize H p.2 = u at z
        cases z with
        | tab _ => rfl
        | script hn _ _ => exact absurd (inT hp) hn
        | off hn _ => exact absurd (inT hp) hn
      obtain ⟨more, e'⟩ := un.tbls _ _ e
      exact ⟨_, held' _ _ e'⟩
    have old : ∀ b o, b ∉ cs.map (·.2) → s.heap.get? b = some o → s'.heap.get? b = some o := fun b o hn e => by
      cases hu : H b with
      | none => exact un.keep b o e hu (fun hm => nomatch (List.not_mem_nil hm)) (fun hm => nomatch (List.not_mem_nil hm))
      | some u =>
        have z := seen b
        rw [hu] at z
        cases z with
        | tab hm => exact absurd hm hn
        | script _ hba _ =>
          subst hba
          have q := e.symm.trans ha
          cases q
          exact (held' _ _ (un.frzs _ _ _ hu)).1
    refine ⟨rfl, ⟨fun b o e => ?_, fun b o e => ?_⟩, os', bare'⟩
    · by_cases hm : b ∈ cs.map (·.2)
      · obtain ⟨p, hp, rfl⟩ := (List.mem_map.mp hm)
        obtain ⟨more, e'⟩ := more_ p hp
        have q := e.symm.trans (tabs p hp)
        cases q
        exact .inr (.inl ⟨((code p hp).tab (tabs p hp)).isCodeTable, rfl, #[], more, rfl, by rw [Array.empty_append]; exact e'⟩)
      · exact .inl (old b o hm e)
    · by_cases hm : b ∈ cs.map (·.2)
      · obtain ⟨p, hp, rfl⟩ := (List.mem_map.mp hm)
        obtain ⟨more, e'⟩ := more_ p hp
        exact ⟨_, e'⟩
      · exact ⟨o, old b o hm e⟩
end
end TD
set_option Elab.async false
set_option linter.all false
set_option maxRecDepth 100000
set_option maxHeartbeats 4100000
namespace TD
open PySem L2 PySem.Spec PyProof.Rows
section
variable {K : PySem.W.Frag} {h : Heap} {mg : Str → Option Value} {x f : Str} {C D fI c P : Addr} {B newId initId : String} {bt : List Value}
theorem ownC_mk {nm q : Str} {N : Addr} {bs sub : List Value} {sn : List Str} {ab : Bool} {col : Option Bool} {dd od an : Option Addr} {k0 k1 k2 k3 k5 : Option Value} {rs : List Addr} {oc doc pm cdv ct : Value} {osl : Array (Option Value)} {qI : Str} {p p' q1 q2 q3 q4 : Pos}
    (F : PySem.ExcBaseFacts B newId initId bt) (hf : TO.Fld f) (hob : bt.contains (.type "object") = true) (hps : ∀ o : Value, refuseLoop o "__setattr__" bt = pure ()) (X : K.In h) (G : h.Ns mainGlobals mg)
    (gC : PySem.W.nsIn K mainGlobals x = some (some (.ref C))) (cl : K.lookup C = some (excClassObj nm q C N bs (TO.mroOver rs bt) true sn sub ab col dd k0 k1 k2 k3 k5 newId))
    (sa : PySem.W.findIn K (.ref C) "__setattr__" = some (some (.builtin "object.__setattr__"))) (ga : PySem.W.findIn K (.ref C) "__getattribute__" = some (some (.builtin "BaseException.__getattribute__"))) (gg : PySem.W.findIn K (.ref C) "__getattr__" = some none)
    (ex : PySem.W.subIn K (.ref C) (.type "BaseException") = some true) (hd : PySem.W.hasDictIn K C = true) (no : PySem.W.findIn K (.ref C) f = some none) (iC : PySem.W.findIn K (.ref C) "__init__" = some (some (.ref fI))) (tC : PySem.W.typeIn K (.ref fI) = some (.type "function"))
    (kC : PySem.W.keepIn K (.ref C) = true) (ty : PySem.W.typeIn K (.ref C) = some (.type "type"))
    (fn : K.lookup fI = some ⟨oc, od, .func (PySem.W.fnOf "__init__" qI (TO.inArgs f p p') (TO.inBody f q1 q2 q3 q4) (TO.inScope f) .none .none doc pm an cdv ct), osl⟩) (cd : PySem.W.codeIn K cdv qI = true) : OwnC K mg x f C :=
  ⟨fI, B, newId, initId, bt, F, ⟨PySem.W.mg_of X G gC, ⟨nm, q, N, bs, sn, sub, ab, col, dd, k0, k1, k2, k3, k5, rs, cl⟩, sa, ⟨ga, gg, ex, hd⟩, no, iC, tC, kC, ex, ty, oc, od, qI, doc, pm, an, cdv, ct, osl, p, p', q1, q2, q3, q4, fn, cd⟩, hf, hob, hps⟩
theorem bareC_mk (F : PySem.ExcBaseFacts B newId initId bt) (X : K.In h) (G : h.Ns mainGlobals mg) (gC : PySem.W.nsIn K mainGlobals x = some (some (.ref C))) (e : PySem.W.excIn K C bt newId = true) (kC : PySem.W.keepIn K (.ref C) = true)
    (ex : PySem.W.subIn K (.ref C) (.type "BaseException") = some true) (ty : PySem.W.typeIn K (.ref C) = some (.type "type")) : BareC K mg x C := ⟨B, newId, initId, bt, F, e, PySem.W.mg_of X G gC, kC, ex, ty⟩
end
theorem ve_IndexError : ∀ o : Value, refuseLoop o "__setattr__" [.type "IndexError", .type "LookupError", .type "Exception", .type "BaseException", .type "object"] = pure () := fun o => by rfl
end TD
set_option Elab.async false
set_option linter.all false
set_option maxRecDepth 100000
set_option maxHeartbeats 4100000
namespace TD
open PySem L2 StX PySem.Spec PyProof.Rows
open Evl (Ex ex_l ex_t fresh_back sq_of st_of sz_of sz_lt)
/-- the running body's context as it is seen from a call below it, where z is wanted of an error -/
abbrev CxBelow (X : Cx) (A : Around) (z : Value → Shared → Prop) : Cx := { X with A := A, calm := false, xe := z }
section
variable {X : Cx} {A : Around} {z : Value → Shared → Prop} {pins : List (Addr × Obj)} {s : Shared} {σ : L2.St} {H : Hp}
theorem inv_down (I : Inv X pins σ H s) (fr : A.frames = X.A.frames) : Inv (CxBelow X A z) pins σ H s := by
  obtain ⟨ok, os, bare, base, loc, cell, free, freeC, pin, hok, len⟩ := I
  refine ⟨?_, os, bare, base, loc, cell, free, freeC, pin, hok, len⟩
  obtain ⟨_, kind, glob, blt, above, inj, has, cab, _, frames, stk, exf, bs, bsz, noex, exfs, funs, frf⟩ := ok
  exact ⟨‹_›, kind, glob, blt, above, inj, has, cab, Bool.noConfusion, fr.trans frames, stk, exf, bs, bsz, noex, exfs, funs, frf⟩
theorem inv_up (ok : X.Ok) (I : Inv (CxBelow X A z) pins σ H s) : Inv X pins σ H s := by
  obtain ⟨_, os, bare, base, loc, cell, free, freeC, pin, hok, len⟩ := I
  exact ⟨ok, os, bare, base, loc, cell, free, freeC, pin, hok, len⟩
end
/-- a def is called, anywhere below the running body: the library's rule for the body itself, at the context seen from there -/
theorem call_below {X : Cx} {CX : CXT} {n : Nat} {A : Around} {z : Value → Shared → Prop} {f : Addr} {fd : FuncData} {ps : List Str} {sp : Sp} {E : XK} {pins : List (Addr × Obj)} {s : Shared} {σ : L2.St} {H : Hp} {us : List Value} {vs : List V} {Q : VK} (sb : Sub X n A) (F : FnOk X.prog X.w X.K X.mg X.base CX n f fd ps sp)
    (hb : Binds X.K fd ps []) (hx : Passes CX { X with xe := z } E) (I : Inv X pins σ H s) (r : Vals vs us) (h : sp vs H Q E) : wpAny (model X.prog X.w) A (call (.ref f) us) (EP X pins σ Q) z s := by
  have pass : Passes CX (CxBelow X A z) E := fun pins σ H s e s' I' => hx pins σ H s e s' (inv_up (X := { X with xe := z }) (A := A) (z := z) ⟨I.ok.mod, I.ok.kind, I.ok.glob, I.ok.blt, I.ok.above, I.ok.inj, I.ok.has, I.ok.cab, I.ok.hd, I.ok.frames, I.ok.stk, I.ok.exf, I.ok.bs, I.ok.bsz, I.ok.noex, I.ok.exfs, I.ok.funs, I.ok.frf⟩ I')
  have told : sp (vs ++ []) H Q E := by rwa [List.append_nil]
  have runs := run_fnR (X := CxBelow X A z) (F.raw hb .nil) sb.room pass (inv_down I sb.fr) r told
  apply wpAny_call
  apply codeAny_mono runs
  rintro (_ | _ | _) s' q
  any_goals exact q
  obtain ⟨v, H', I', rv, qv⟩ := q
  exact ⟨v, H', inv_up I.ok I', rv, qv⟩
theorem call_at {X : Cx} {CX : CXT} {n : Nat} {A : Around} {f : Addr} {fd : FuncData} {ps : List Str} {sp : Sp} {E : XK} {pins : List (Addr × Obj)} {s : Shared} {σ : L2.St} {H : Hp} {us : List Value} {vs : List V} {Q : VK} (sb : Sub X n A) (F : FnOk X.prog X.w X.K X.mg X.base CX n f fd ps sp)
    (hb : Binds X.K fd ps []) (hx : Passes CX X E) (I : Inv X pins σ H s) (r : Vals vs us) (h : sp vs H Q E) : wpAny (model X.prog X.w) A (call (.ref f) us) (EP X pins σ Q) X.xe s :=
  call_below sb F hb hx I r h
/-- the type of what stands on the right is no class below C -/
inductive RightK (K : PySem.W.Frag) (C : Addr) (H : Hp) : V → Prop
  | own {a dx : Addr} {fs : List (Str × V)} (h : H a = some (.ins C dx fs)) : RightK K C H (.ref a)
  | tup {a : Addr} {xs : List V} (h : SqT K H a xs) (n : PySem.W.notFirst K C (.type "tuple") = true) : RightK K C H (.ref a)
  | lst {a : Addr} {xs : List V} (h : SqL K H a xs) (n : PySem.W.notFirst K C (.type "list") = true) : RightK K C H (.ref a)
  | str {x : Str} (n : PySem.W.notFirst K C (.type "str") = true) : RightK K C H (.str x)
  | non (n : PySem.W.notFirst K C (.type "NoneType") = true) : RightK K C H .non
theorem looks_is {M : Model} {h : Heap} {a : Addr} {T : String} {s : Shared} (e : s.heap = h) (ht : s.TypeIs (.ref a) T) : PySem.W.Looks M h (typeOf (.ref a)) (.type T) := by
  obtain ⟨o, ho, hc⟩ := id ht
  intro A Q E s' k q
  exact wpAny_typeOf ⟨o, k _ _ (e ▸ ho), hc⟩ q
section
variable {X : Cx} {pins : List (Addr × Obj)} {s : Shared} {σ : L2.St} {H : Hp} {C : Addr} {x y : V} {u v : Value}
theorem RightK.type (I : Inv X pins σ H s) (h : RightK X.K C H y) (r : RelV y u) : ∃ tb, PySem.W.Looks (model X.prog X.w) s.heap (typeOf u) tb ∧ PySem.W.notFirst X.K C tb = true := by
  cases h with
  | own h =>
    cases r
    obtain ⟨_, _, J⟩ := inst_at I.hok h
    exact ⟨.ref C, J.type, by unfold PySem.W.notFirst; rw [beq_self_eq_true, Bool.true_or]⟩
  | tup h n =>
    cases r
    (obtain ⟨its, rv, ht, _⟩ := I.tuple h)
    exact ⟨_, looks_is rfl ht.typeIs, n⟩
  | lst h n =>
    cases r
    obtain ⟨its, rv, pl, _⟩ := I.list h
    exact ⟨_, looks_is rfl pl.isList.typeIs, n⟩
  | str n =>
    obtain ⟨t, rfl⟩ := r
    exact ⟨.type "str", PySem.W.Looks.of_pure (rfl), n⟩
  | non n =>
    obtain rfl : u = Value.none := r
    exact ⟨.type "NoneType", PySem.W.Looks.of_pure rfl, n⟩
end
def rEqO (K : PySem.W.Frag) (C : Addr) (sp : Sp) : R2 := fun x y H Q => ∃ a dx fs, x = .ref a ∧ H a = some (.ins C dx fs) ∧ RightK K C H y ∧ sp [x, y] H (fun v H' => ∃ c, v = .bl c ∧ Q (.bl c) H') E0
def rNeO (K : PySem.W.Frag) (C : Addr) (sp : Sp) : R2 := fun x y H Q => ∃ a dx fs, x = .ref a ∧ H a = some (.ins C dx fs) ∧ RightK K C H y ∧ sp [x, y] H (fun v H' => ∃ c, v = .bl c ∧ Q (.bl (!c)) H') E0
def rInO (C : Addr) (sp : Sp) : R2 := fun x y H Q => ∃ a dx fs, y = .ref a ∧ H a = some (.ins C dx fs) ∧ sp [y, x] H (fun v H' => ∃ c, v = .bl c ∧ Q (.bl c) H') E0
section
variable [TabW] {P : Program} {w : World} {K : PySem.W.Frag} {mg : Str → Option Value} {base : Heap} {X : Cx} {k : Nat} {C : Addr} {ps : List Str} {R : FR}
theorem op_eqO (F : FnM P w K mg base k C "__eq__" ps R) (hr : Room k X.A) (h1 : X.prog = P := by rfl) (h2 : X.w = w := by rfl) (h3 : X.K = K := by rfl) (h4 : X.mg = mg := by rfl) (h5 : X.base = base := by rfl) : OpR X (compareOp .Eq) (rEqO K C (spR K R)) := by
  obtain ⟨f, fd, _, M, hf, hbd⟩ := F.ex
  subst h1 h2 h3 h4 h5
  (intro pins s σ H x y v u Q I rx ry q)
  obtain ⟨a, dx, fs, rfl, ha, hR, q⟩ := q
  (obtain rfl : v = Value.ref a := rx)
  obtain ⟨tb, ht, hn⟩ := hR.type I ry
  obtain ⟨_, _, J⟩ := inst_at I.hok ha
  obtain ⟨m, hF⟩ := I.fr
  show wpAny (model X.prog X.w) X.A (richCompare .Eq (.ref a) u) (EP X pins σ Q) X.xe s
  refine PySem.W.cmp_K (op := .Eq) hr.units0 hF I.ok.mod.kin J ht hn M.at_ M.fn (wpAny_mono (call_at ⟨hr, rfl⟩ hf hbd pass0 I (vs := [.ref a, y]) (us := [.ref a, u]) (.cons rfl (.cons ry .nil)) q) (fun r s' z => ?_) fun _ _ z => z)
  obtain ⟨v, H', J, rv, c, rfl, qv⟩ := z
  cases rv
  exact ⟨.bl c, H', J, rfl, qv⟩
theorem ne_entry {prog : Program} {w : World} {A : Around} {E : Value → Shared → Prop} {s : Shared} {K : PySem.W.Frag} {x C f : Addr} {ox : Obj} {od : Option Obj} {b : Value} {R : Fin → Shared → Prop} (hu : A.units < cLine) (X : K.In s.heap) (I : PySem.W.InstAt s.heap x ox C od)
    (hs : PySem.W.findIn K (.ref C) "__eq__" = some (some (.ref f))) (hf : PySem.W.isFn K (.ref f) = true) (h : wpAny (model prog w) A (call (.ref f) [.ref x, b]) (fun v s' => ∃ c, v = .bool c ∧ R (.done (.ret (.bool (!c)))) s') E s) :
    wpAny (model prog w) A (Builtin.«object.__ne__» ⟨[.ref x, b], []⟩) R E s := by
  (unfold Builtin.«object.__ne__»)
  refine wpAny_bind (m := slotArgs "__ne__" 1 _) (wpAny_pure ?_)
  (refine wpAny_bind (wpAny_cRoomFor hu ?_))
  refine wpAny_bind (m := callSpecialIfBound? (.ref x) (Str.ofString "__eq__") [b]) (PySem.W.ifBound_K X I hs hf (wpAny_mono h (fun v s' hv => ?_) fun _ _ e => e))
  obtain ⟨c, rfl, hq⟩ := hv
  exact wpAny_bind (wpAny_truthy_bool (wpAny_pure hq))
theorem ifBound_ne {M : Model} {A : Around} {E : Value → Shared → Prop} {s : Shared} {K : PySem.W.Frag} {x C : Addr} {ox : Obj} {od : Option Obj} {args : List Value} {Q : Option Value → Shared → Prop} (X : K.In s.heap) (I : PySem.W.InstAt s.heap x ox C od) (hs : PySem.W.findIn K (.ref C) "__ne__" = some (some (.builtin "object.__ne__")))
    (h : wpAny M A (call (.builtin "object.__ne__") (.ref x :: args)) (fun v => Q (some v)) E s) : wpAny M A (callSpecialIfBound? (.ref x) "__ne__" args) Q E s := by
  have found := PySem.W.looks_findIn (M := M) X hs
  have bound := PySem.F.cmp_object.ne.bind (.ref x)
  have asked : wpAny M A (call (.builtin "object.__ne__") ([.ref x] ++ args) >>= (pure ∘ some)) Q E s := wpAny_bind (thn h fun _ _ q => wpAny_pure q)
  unfold callSpecialIfBound? bindSpecialIfBound?
  refine wpAny_holding ?_
  iterate 3 refine wpAny_bind ?_
  refine I.type.here (found.here (wpAny_bind (wpAny_askSetting ?_)))
  simp only [bound]
  split
  · exact wpAny_pure asked
  · exact wpAny_tryCatch (wpAny_pure asked)
theorem op_neO (F : FnM P w K mg base k C "__eq__" ps R) (hr : Room (k + 1) X.A) (hne : PySem.W.findIn K (.ref C) "__ne__" = some (some (.builtin "object.__ne__"))) (h1 : X.prog = P := by rfl) (h2 : X.w = w := by rfl) (h3 : X.K = K := by rfl) (h4 : X.mg = mg := by rfl) (h5 : X.base = base := by rfl) :
    OpR X (compareOp .NotEq) (rNeO K C (spR K R)) := by
  obtain ⟨f, fd, hc, M, hf, hbd⟩ := F.ex
  subst h1 h2 h3 h4 h5
  (intro pins s σ H x y v u Q I rx ry q)
  obtain ⟨a, dx, fs, rfl, ha, hR, q⟩ := q
  (obtain rfl : v = Value.ref a := rx)
  obtain ⟨tb, ht, hn⟩ := hR.type I ry
  obtain ⟨ox, od, J⟩ := inst_at I.hok ha
  obtain ⟨m, hF⟩ := I.fr
  have Y := I.kIn
  show wpAny (model X.prog X.w) X.A (richCompare .NotEq (.ref a) u) (EP X pins σ Q) X.xe s
  have sb1 : Sub X k X.A.in1 := Sub.in1 ⟨hr, rfl⟩
  have go : wpAny (model X.prog X.w) X.A (call (.builtin "object.__ne__") [.ref a, u]) (fun v s' => ∃ c, v = .bool c ∧ EP X pins σ Q v s') X.xe s := by
    refine wpAny_call (codeAny_call_builtin PySem.F.cmp_object.ne.plain PySem.F.cmpEntry_ne (PySem.W.check_slot PySem.F.cmpKind_ne PySem.F.cmpSplit_ne (J.type.andThen (PySem.W.looks_mroIn Y hc.ic.hm)) (PySem.F.cmpArgs_ne _ _) ?_))
    refine ne_entry (sb1.room.units0) Y J M.at_ M.fn (wpAny_mono (call_at sb1 hf hbd pass0 I (vs := [.ref a, y]) (us := [.ref a, u]) (.cons rfl (.cons ry .nil)) q) (fun r s' z => ?_) fun _ _ z => z)
    obtain ⟨v, H', J, rv, c, rfl, qv⟩ := z
    cases rv
    exact ⟨c, rfl, !c, rfl, .bl (!c), H', J, rfl, qv⟩
  have one : wpAny (model X.prog X.w) X.A (tryCompare (.ref a) (cmpInfo .NotEq).2.1 u) (fun r s' => ∃ v, r = some v ∧ EP X pins σ Q v s') X.xe s := by
    unfold tryCompare
    refine wpAny_bind (ifBound_ne Y J hne (wpAny_mono go (fun v s' z => ?_) fun _ _ z => z))
    obtain ⟨c, rfl, z⟩ := z
    exact wpAny_pure ⟨_, rfl, z⟩
  unfold richCompare
  simp only [oneThing_ref]
  refine wpAny_holding (wpAny_bind (wpAny_cRoomFor hr.units0 ?_))
  refine wpAny_bind (J.type.here (wpAny_bind (ht.here ?_)))
  split
  · rename_i q
    have e : PySem.W.subIn X.K tb (.ref C) = some false := by
      (rcases Bool.or_eq_true_iff.mp hn with e | e)
      · (rw [beq_iff_eq.mp e] at q; simp at q)
      · exact beq_iff_eq.mp e
    refine wpAny_bind ((PySem.W.looks_subIn Y e).here ?_)
    (simp only [Bool.false_eq_true, if_false])
    (refine wpAny_bind (wpAny_mono one (fun r s' z => ?_) fun _ _ e => e))
    obtain ⟨v, rfl, hq⟩ := z
    exact wpAny_pure hq
  · (refine wpAny_bind (wpAny_pure ?_))
    (simp only [Bool.false_eq_true, if_false])
    (refine wpAny_bind (wpAny_mono one (fun r s' z => ?_) fun _ _ e => e))
    obtain ⟨v, rfl, hq⟩ := z
    exact wpAny_pure hq
theorem op_inO (F : FnM P w K mg base k C "__contains__" ps R) (hr : Room k X.A) (h1 : X.prog = P := by rfl) (h2 : X.w = w := by rfl) (h3 : X.K = K := by rfl) (h4 : X.mg = mg := by rfl) (h5 : X.base = base := by rfl) : OpR X (compareOp .In) (rInO C (spR K R)) := by
  obtain ⟨f, fd, hc, M, hf, hbd⟩ := F.ex
  subst h1 h2 h3 h4 h5
  (intro pins s σ H x y v u Q I rx ry q)
  obtain ⟨a, dx, fs, rfl, ha, q⟩ := q
  (obtain rfl : u = Value.ref a := ry)
  obtain ⟨ox, od, J⟩ := inst_at I.hok ha
  have Y := I.kIn
  show wpAny (model X.prog X.w) X.A (contains (.ref a) v >>= fun b => pure (.bool b)) (EP X pins σ Q) X.xe s
  refine wpAny_bind ?_
  unfold contains
  refine wpAny_holding ?_
  rw [show stdlibNamesSay? (.ref a) v = none from rfl]
  refine wpAny_bind (wpAny_bind (J.type.here ((PySem.W.looks_findIn Y M.at_).here ?_)))
  rw [if_neg (by simp)]
  refine wpAny_bind ?_
  unfold callSpecialUnlessNone?
  refine wpAny_bind (wpAny_bind (J.type.here ((PySem.W.looks_findIn Y M.at_).here ?_)))
  refine wpAny_holding (wpAny_bind ((PySem.W.bind_fn Y _ (beq_iff_eq.mp M.fn)).here ?_))
  dsimp only
  rw [if_neg (by simp)]
  refine wpAny_bind (wpAny_mono (call_at ⟨hr, rfl⟩ hf hbd pass0 I (vs := [.ref a, x]) (us := [.ref a, v]) (.cons rfl (.cons rx .nil)) q) (fun r s' z => ?_) fun _ _ z => z)
  obtain ⟨v, H', J, rv, c, rfl, qv⟩ := z
  cases rv
  exact wpAny_pure (wpAny_truthy_bool (wpAny_pure ⟨.bl c, H', J, rfl, qv⟩))
def rLenO (C : Addr) (sp : Sp) : List V → Hp → VK → Prop := fun xs H Q => ∃ a dx fs, xs = [.ref a] ∧ H a = some (.ins C dx fs) ∧ sp [.ref a] H (fun v H' => ∃ n : Int, v = .int n ∧ (0 ≤ n ∧ n < 2 ^ 63) ∧ Q (.int n) H') E0
def rStrO (C : Addr) (sp : Sp) : List V → Hp → VK → Prop := fun xs H Q => ∃ a dx fs, xs = [.ref a] ∧ H a = some (.ins C dx fs) ∧ sp [.ref a] H (fun v H' => ∃ t : Str, v = .str t ∧ Q (.str t) H') E0
theorem c_lenO (F : FnM P w K mg base k C "__len__" ps R) (hr : Room (k + 1) X.A) (h1 : X.prog = P := by rfl) (h2 : X.w = w := by rfl) (h3 : X.K = K := by rfl) (h4 : X.mg = mg := by rfl) (h5 : X.base = base := by rfl) : CallR X (.builtin "len") (rLenO C (spR K R)) := by
  obtain ⟨f, fd, hc, M, hf, hbd⟩ := F.ex
  subst h1 h2 h3 h4 h5
  (intro pins s σ H xs us Q I r q)
  obtain ⟨a, dx, fs, rfl, ha, q⟩ := q
  rw [Vals.ref1 r]
  obtain ⟨ox, od, J⟩ := inst_at I.hok ha
  obtain ⟨m, hF⟩ := I.fr
  refine PySem.W.len_K hF I.ok.mod.kin J M.at_ M.fn (wpAny_mono (call_at (Sub.in1 ⟨hr, rfl⟩) hf hbd pass0 I (vs := [.ref a]) (us := [.ref a]) (.cons rfl .nil) q) (fun r s' z => ?_) fun _ _ z => z)
  obtain ⟨v, H', J, rv, n, rfl, hn, qv⟩ := z
  obtain ⟨t, rfl⟩ := rv
  exact ⟨hn, .int n, H', J.tok _, ⟨_, rfl⟩, qv⟩
theorem c_strO (F : FnM P w K mg base k C "__str__" ps R) (hr : Room (k + 2) X.A) (h1 : X.prog = P := by rfl) (h2 : X.w = w := by rfl) (h3 : X.K = K := by rfl) (h4 : X.mg = mg := by rfl) (h5 : X.base = base := by rfl) : CallR X (.type "str") (rStrO C (spR K R)) := by
  obtain ⟨f, fd, hc, M, hf, hbd⟩ := F.ex
  subst h1 h2 h3 h4 h5
  (intro pins s σ H xs us Q I r q)
  obtain ⟨a, dx, fs, rfl, ha, q⟩ := q
  rw [Vals.ref1 r]
  obtain ⟨ox, od, J⟩ := inst_at I.hok ha
  have sb : Sub X k X.A.in1.in1 := Sub.in1 (Sub.in1 ⟨hr, rfl⟩)
  refine PySem.W.kso_call sb.room.units0 I.kIn J M.at_ M.fn (wpAny_mono (call_at sb hf hbd pass0 I (vs := [.ref a]) (us := [.ref a]) (.cons rfl .nil) q) (fun r s' z => ?_) fun _ _ z => z)
  obtain ⟨v, H', J, rv, t, rfl, qv⟩ := z
  obtain ⟨tk, rfl⟩ := rv
  exact ⟨.str t, H', J, ⟨_, rfl⟩, qv⟩
end
end TD
set_option Elab.async false
set_option linter.all false
set_option maxRecDepth 100000
set_option maxHeartbeats 4100000
namespace TD
open PySem L2 StX PySem.Spec PyProof.Rows
open Evl (Ex ex_l ex_t fresh_back sq_of st_of sz_of sz_lt)
/-- a tuple's iterator, i items gone; one that has ended -/
def TiO (t it : Addr) (i : Nat) : HO := .ext fun h => IsTupIter h it t i
def TiE (it : Addr) : HO := .ext fun h => ∃ o, h.get? it = some o
theorem tiO_ok {P : Program} {w : World} {H : Hp} {h : Heap} {t it : Addr} {i : Nat} (e : IsTupIter h it t i) : ObjOk P w H h it (TiO t it i) := ⟨e, (by obtain ⟨o, ho, _⟩ := id e; exact ⟨o, ho⟩), fun h1 h2 q k => by obtain ⟨o, ho, r⟩ := id q; exact ⟨o, k _ ho, r⟩⟩
theorem tiE_ok {P : Program} {w : World} {H : Hp} {h : Heap} {it : Addr} (e : ∃ o, h.get? it = some o) : ObjOk P w H h it (TiE it) := ⟨e, e, fun h1 h2 q k => by obtain ⟨o, ho⟩ := id q; exact ⟨o, k _ ho⟩⟩
def rIterT (K : PySem.W.Frag) : List V → Hp → VK → Prop := fun xs H Q => ∃ (t : Addr) (zs : List V), xs = [.ref t] ∧ SqT K H t zs ∧ ∀ it, H it = Option.none → Q (.ref it) (upd H it (TiO t it 0))
theorem cr_iterT {X : Cx} : CallR X (.builtin "iter") (rIterT X.K) := by
  (intro pins s σ H xs us Q I r h)
  obtain ⟨t, zs, rfl, hq, q⟩ := h
  rw [Vals.ref1 r]
  obtain ⟨its, rv, pl, hz⟩ := I.tuple hq
  (refine Calls.call_function_entry (by decide +kernel) (by decide +kernel) PySem.W.kdk_entry_iter (PySem.W.kdk_args_iter _) ?_)
  unfold Builtin.«iter»
  refine wpAny_bind (m := someArgs "iter" 1 2 _) (wpAny_of_eq (a := [Value.ref t]) (by first | rfl | kernel_rfl!) ?_)
  show wpAny _ _ (pyIter (.ref t) >>= _) _ _ _
  refine wpAny_bind (iter_tuple pl ?_)
  exact wpAny_pure ⟨_, rfl, .ref s.heap.objs.size, _, I.laid (t' := s.toks) (fun b u e => (Heap.get?_push_of_some _ e)) (Nat.le_refl _) (tiO_ok ⟨_, (Heap.get?_push_size _ rfl), rfl, rfl⟩), rfl, q _ (I.hok.fresh (Nat.le_refl _))⟩
section
variable {prog : Program}
variable {w : World} {A : Around} {E : Value → Shared → Prop} {s : Shared}
/-- how a builtin's run may end: it is done, or another piece of code goes on -/
abbrev EndsBy (prog : Program) (w : World) (A : Around) (R : Result → Shared → Prop) (fin : PySem.Fin) (t : Shared) : Prop := match fin with
  | .done f => R (.ok f) t
  | .again c => c.quiet = true ∧ codeAny (model prog w) A c R t
/-- list(v): a new empty list, then extended -/
theorem list_of {v : Value} {Q : Value → Shared → Prop}
    (ext : ∀ (h1 : Heap) (c : Nat), (∀ b o, s.heap.get? b = some o → h1.get? b = some o) → h1.get? s.heap.objs.size = some { cls := .type "list", data := .seq #[] c } →
      wpAny (model prog w) A.in1.in1 (Builtin.List.listExtendWith (.ref s.heap.objs.size) v .none) (EndsBy prog w A.in1 (wants (fun r t => r = .none ∧ Q (.ref s.heap.objs.size) t) E)) (fun e t => wants (fun r t => r = .none ∧ Q (.ref s.heap.objs.size) t) E (.error e) t) { s with heap := h1 }) : wpAny (model prog w) A (call (.type "list") [v]) Q E s := by
  refine callType_codes (Q₁ := fun o t => o = .ref s.heap.objs.size ∧ t = { s with heap := s.heap.push { cls := .type "list", data := .seq #[] } }) PySem.F.called_list (PySem.F.typeCall_list_1 _) PySem.F.entry_list_init (code_list_new _ ⟨rfl, rfl⟩) fun o t ⟨eo, et⟩ => ?_
  cases eo
  cases et
  have new := Heap.get?_push_size s.heap (o := ({ cls := .type "list", data := .seq #[] } : Obj)) rfl
  refine ⟨⟨_, new, rfl⟩, PySem.F.args_list_init_2 _ _, ?_⟩
  unfold Builtin.«list.__init__» Builtin.List.listItems Builtin.List.listUpdate
  generalize e : Builtin.List.listExtendWith = ex
  wp_walk
  subst e
  exact ext _ _ (fun b o g => (Heap.get?_update_other _ _ (Nat.ne_of_gt (Heap.lt_size g))).trans (Heap.get?_push_of_some _ g)) (Heap.get?_update_self _ new rfl)
/-- an exhausted tuple's iterator is asked: it says so, and stays an object -/
theorem next_end' {it t : Addr} {i : Nat} {items : Array Value} {Q : Option Value → Shared → Prop} (hh : A.handled = none) (hit : IsTupIter s.heap it t i) (ht : IsTup s.heap t items) (hx : items[i]? = none)
    (hQ : ∀ h', Heap.ExtBut it s.heap h' → (∃ o, h'.get? it = some o) → Q none { s with heap := h' }) : wpAny (model prog w) A (pyNext (.ref it)) Q E s := by
  have ty := hit.typeIs
  obtain ⟨⟨oc, od, oda, osl⟩, at_, cls, dat⟩ := hit
  obtain ⟨⟨tc, td, tda, tsl⟩, tat, tcls, n, tdat⟩ := ht
  cases cls; cases dat; cases tcls; cases tdat
  unfold pyNext
  refine wpAny_bind (wpAny_attempt (wpAny_callSpecial?_slot (name := Str.ofString "__next__") ty slot_tupleiter_next (wpAny_call_entry slot_tupleiter_next ty entry_tupleiter_next ?_ (args_tupleiter_next _))))
  have q : (Value.ref t == Value.none) = false := rfl
  unfold Builtin.«tuple_iterator.__next__»
  wp_walk
  rw [Int.toNat_natCast, hx]
  unfold Builtin.SmallTypes.stopIteration
  (have hh1 : A.in1.handled = none := hh)
  wp_walk
  /- the error is at hand: nothing is being handled, so it is thrown as it is, and caught -/
  unfold raiseNew
  refine wpAny_bind (wpAny_handled (hh1.symm ▸ ?_))
  (refine wpAny_bind (wpAny_pure (wpAny_throw ?_)))
  refine wpAny_bind (wpAny_isInstance (b := true) (T := "StopIteration") ⟨_, Heap.get?_push_size _ rfl, rfl⟩ isSubtype_stop ?_)
  have alive := Heap.get?_update_self (h := s.heap) (Obj.mapFields fun x => x.setIfInBounds 0 Value.none) at_ rfl
  exact wpAny_pure (hQ _ (((Heap.SameBut.update ..).extBut.push _).push _) ⟨_, Heap.get?_push_of_some _ (Heap.get?_push_of_some _ alive)⟩)
end
section
variable [TabW] {X : Cx} {pins : List (Addr × Obj)} {σ : L2.St}
/-- the state after n turns -/
def hTi (H0 : Hp) (q it t : Addr) (zs : List V) (n : Nat) : Hp := upd (upd H0 q (.lst (zs.take n))) it (TiO t it n)
theorem hTi_ex {H0 : Hp} {q it t : Addr} {zs : List V} {n : Nat} (h1 : H0 q = none) (h2 : H0 it = none) : Ex H0 (hTi H0 q it t zs n) := fun x o h => by
  have a : x ≠ q := fun z => by rw [z, h1] at h; cases h
  have b : x ≠ it := fun z => by rw [z, h2] at h; cases h
  unfold hTi
  rw [upd_ne b, upd_ne a]
  exact h
theorem hTi_next {H0 : Hp} {q it t : Addr} {zs : List V} {n : Nat} {v : V} (hqi : q ≠ it) (hv : zs[n]? = some v) : upd (upd (hTi H0 q it t zs n) it (TiO t it (n + 1))) q (.lst (zs.take n ++ [v])) = hTi H0 q it t zs (n + 1) := by
  obtain ⟨hl, rfl⟩ := List.getElem?_eq_some_iff.mp hv
  have e : zs.take (n + 1) = zs.take n ++ [zs[n]] := (List.take_append_getElem hl).symm
  funext x
  unfold hTi
  by_cases a : x = q
  · subst a
    rw [upd_same, upd_ne hqi, upd_same, e]
  · rw [upd_ne a]
    by_cases b : x = it
    · subst b
      rw [upd_same, upd_same]
    · rw [upd_ne b, upd_ne b, upd_ne a, upd_ne b, upd_ne a]
/-- the loop that fills the list at q -/
theorem ti_loop {A1 : Around} {q it t : Addr} {zs : List V} {H0 : Hp} {Rs : Result → Shared → Prop} (hh : A1.in1.handled = none) (hqi : q ≠ it) (h1 : H0 q = none) (h2 : H0 it = none) (ht : SqT X.K H0 t zs)
    (done : ∀ s, Inv X pins σ (upd (upd H0 q (.lst zs)) it (TiE it)) s → Rs (.ok (.ret .none)) s) (herr : ∀ e s, X.xe e s → Rs (.error e) s) :
    ∀ (k n : Nat) (s : Shared), zs.length - n = k → n ≤ zs.length → Inv X pins σ (hTi H0 q it t zs n) s → codeAny (model X.prog X.w) A1 (.builtin "list.extend.loop" ⟨[.ref q, .ref it, .none], []⟩) Rs s := by
  intro k
  induction k with
  | zero =>
    intro n s hk hn I
    have e0 : n = zs.length := by omega
    subst e0
    have hit : hTi H0 q it t zs zs.length it = some (TiO t it zs.length) := by unfold hTi; exact upd_same
    obtain ⟨its, rv, pl, _⟩ := I.tuple (ex_t (hTi_ex h1 h2) ht)
    (refine codeAny_builtin PySem.F.entry_extend_loop ?_)
    (rw [Around.under_plainId PySem.F.plain_extend_loop _])
    show wpAny _ A1.in1 (pyNext (.ref it) >>= _) _ _ s
    refine wpAny_bind (next_end' hh (I.hok it _ hit).1 pl (by rw [List.getElem?_toArray]; exact List.getElem?_eq_none (Nat.le_of_eq rv.length.symm)) fun h' eb ex => ?_)
    have mu : Mut (hTi H0 q it t zs zs.length it) := by rw [hit]; exact True.intro
    have I2 : Inv X pins σ (upd (hTi H0 q it t zs zs.length) it (TiE it)) { s with heap := h', toks := s.toks } := I.write (x := it) (e := it) (t' := s.toks) mu (.inl rfl) (fun b o nb z => eb b o nb z) ex (tiE_ok ex)
    have e3 : upd (hTi H0 q it t zs zs.length) it (TiE it) = upd (upd H0 q (.lst zs)) it (TiE it) := by
      unfold hTi
      rw [upd_upd, List.take_length]
    rw [e3] at I2
    exact wpAny_pure (done _ I2)
  | succ k ih =>
    intro n s hk hn I
    have hlt : n < zs.length := by omega
    have hv : zs[n]? = some zs[n] := List.getElem?_eq_getElem hlt
    have hit : hTi H0 q it t zs n it = some (TiO t it n) := by unfold hTi; exact upd_same
    obtain ⟨its, rv, pl, hz⟩ := I.tuple (ex_t (hTi_ex h1 h2) ht)
    obtain ⟨u, hu, ru⟩ := rv.get hv
    (refine codeAny_builtin PySem.F.entry_extend_loop ?_)
    (rw [Around.under_plainId PySem.F.plain_extend_loop _])
    show wpAny _ A1.in1 (pyNext (.ref it) >>= _) _ _ s
    refine wpAny_bind (next_tuple_item (I.hok it _ hit).1 pl (x := u) (by rw [List.getElem?_toArray]; exact hu) fun h' e' sb => ?_)
    have mu : Mut (hTi H0 q it t zs n it) := by rw [hit]; exact True.intro
    have I2 : Inv X pins σ (upd (hTi H0 q it t zs n) it (TiO t it (n + 1))) { s with heap := h', toks := s.toks } := I.write (x := it) (e := it) (t' := s.toks) mu (.inl rfl) (fun b o nb z => (sb.2 b nb).trans z) (by obtain ⟨o, ho, _⟩ := id e'; exact ⟨o, ho⟩) (tiO_ok e')
    have hq' : upd (hTi H0 q it t zs n) it (TiO t it (n + 1)) q = some (.lst (zs.take n)) := by
      rw [upd_ne hqi]
      unfold hTi
      rw [upd_ne hqi, upd_same]
    (show wpAny _ A1.in1 (updateSeq q (·.push u) >>= _) _ _ _)
    obtain ⟨z, its2, k2, r2, hl, e⟩ := I2.lstM hq'
    have hlen := r2.length
    rw [List.length_take] at hlen
    refine wpAny_bind (wpAny_updateSeq e rfl (wpAny_pure ⟨plainId_quiet PySem.F.plain_extend_loop _, ?_⟩) (by rw [List.size_toArray]; omega) (by show (its2.toArray.push u).size ≤ sizeLine + 1; rw [Array.size_push, List.size_toArray]; omega))
    have I3 := I2.lset (f := (·.push u)) (its := its2) (its' := its2 ++ [u]) (ys := zs.take n ++ [zs[n]]) (t' := s.toks) hq' e (by simp) (r2.append (.cons ru .nil)) (by rw [List.length_append, List.length_singleton, List.length_take]; omega)
    rw [hTi_next hqi hv] at I3
    exact ih (n + 1) _ (by omega) hlt I3
end
section
variable [TabW] {P : Program} {w : World} {K : PySem.W.Frag} {mg : Str → Option Value} {base : Heap} {X : Cx} {k : Nat} {C : Addr} {ps : List Str} {R : FR} {pins : List (Addr × Obj)} {σ : L2.St}
theorem call_at0 {X : Cx} {n : Nat} {A : Around} {f : Addr} {fd : FuncData} {ps : List Str} {sp : Sp} {pins : List (Addr × Obj)} {s : Shared} {σ : L2.St} {H : Hp} {us : List Value} {vs : List V} {Q : VK} (sb : Sub X n A) (F : FnOk X.prog X.w X.K X.mg X.base CX0 n f fd ps sp)
    (hb : Binds X.K fd ps []) (I : Inv X pins σ H s) (r : Vals vs us) (h : sp vs H Q E0) : wpAny (model X.prog X.w) A (call (.ref f) us) (EP X pins σ Q) (fun _ _ => False) s :=
  call_below sb F hb pass0 I r h
theorem hint_len {A : Around} {EE : Value → Shared → Prop} {H : Hp} {s : Shared} {a dx : Addr} {fs : List (Str × V)} {Rb : Bool → Shared → Prop} (F : FnM P w K mg base k C "__len__" ps R) (sb : Sub X k A.in1) (I : Inv X pins σ H s) (ha : H a = some (.ins C dx fs))
    (q : spR K R [.ref a] H (fun v H' => ∃ n : Nat, v = .int n ∧ n ≤ 100000 ∧ ∀ s', Inv X pins σ H' s' → Rb ((n : Int) != 0) s') E0) (h1 : X.prog = P := by rfl) (h2 : X.w = w := by rfl) (h3 : X.K = K := by rfl) (h4 : X.mg = mg := by rfl) (h5 : X.base = base := by rfl) :
    wpAny (model X.prog X.w) A (Builtin.List.listLengthHint (.ref a)) Rb EE s := by
  obtain ⟨f, fd, hc, M, hf, hbd⟩ := F.ex
  subst h1 h2 h3 h4 h5
  obtain ⟨ox, od, J⟩ := inst_at I.hok ha
  obtain ⟨m, hF⟩ := I.fr
  (unfold Builtin.List.listLengthHint)
  refine wpAny_bind (wpAny_bind (J.type.here ((PySem.W.looks_findIn I.kIn M.at_).here ?_)))
  (refine PySem.W.KFB.if_not rfl ?_)
  rw [if_pos (show (some (Value.ref f)).isSome = true from rfl)]
  (refine wpAny_bind (wpAny_rule ?_))
  (refine wpAny_bind (wpAny_attempt ?_))
  refine PySem.W.len_K hF I.ok.mod.kin J M.at_ M.fn (wpAny_mono (call_at0 sb hf hbd I (vs := [.ref a]) (us := [.ref a]) (.cons rfl .nil) q) (fun r s' z => ?_) fun _ _ z => z.elim)
  · obtain ⟨v, H', J', rv, n, rfl, hn, qv⟩ := z
    obtain ⟨t, rfl⟩ := rv
    refine ⟨by omega, ?_⟩
    dsimp only
    (refine wpAny_bind (m := asInt? _) (wpAny_pure ?_))
    dsimp only
    rw [if_neg (by unfold Builtin.List.listTooLong; rw [decide_eq_true_eq, sizeLine_eq, Int.toNat_natCast]; omega)]
    exact wpAny_pure (qv _ (J'.tok _))
theorem spR_mono {vs : List V} {H : Hp} {Q Q' : VK} {E : XK} (h : spR K R vs H Q E) (k : ∀ v H', Q v H' → Q' v H') : spR K R vs H Q' E := by
  obtain ⟨b, G, β, as, r, β', e, tb, kb, hd, hR, hm, q⟩ := h
  exact ⟨b, G, β, as, r, β', e, tb, kb, hd, hR, hm, fun v G' H' s' k' d' => k _ _ (q v G' H' s' k' d')⟩
/-- what such an __iter__ promises: the iterator of the tuple in one attribute -/
def spIt (K : PySem.W.Frag) (C : Addr) (fm : Str) : Sp := fun vs H Q _ => ∃ (a dx t : Addr) (fs : List (Str × V)) (zs : List V), vs = [.ref a] ∧ H a = some (.ins C dx fs) ∧ fs.lookup fm = some (.ref t) ∧ SqT K H t zs ∧ ∀ it, H it = none → Q (.ref it) (upd H it (TiO t it 0))
structure FnIt (P : Program) (w : World) (K : PySem.W.Frag) (mg : Str → Option Value) (base : Heap) (k : Nat) (C : Addr) (fm : Str) : Prop where
  ex : ∃ (f : Addr) (fd : FuncData), InsK K C ∧ Meth K C "__iter__" f ∧ FnOk P w K mg base CX0 k f fd ["self"] (spIt K C fm) ∧ Binds K fd ["self"] []
theorem ext_ti {A1 : Around} {n : Nat} {fm : Str} {H : Hp} {s : Shared} {a dx q t : Addr} {fs : List (Str × V)} {zs : List V} {Rs : Result → Shared → Prop} (FI : FnIt P w K mg base n C fm) (FL : FnM P w K mg base k C "__len__" ps R) (sb : Sub X n A1.in1) (sb2 : Sub X k A1.in1.in1) (hh : A1.in1.handled = none)
    (I : Inv X pins σ H s) (ha : H a = some (.ins C dx fs)) (hf : fs.lookup fm = some (.ref t)) (ht : SqT K H t zs) (hq : H q = some (.lst [])) (herr : ∀ e s, X.xe e s → Rs (.error e) s)
    (hL : ∀ it, H it = none → q ≠ it → spR K R [.ref a] (upd H it (TiO t it 0)) (fun v H' => ∃ n : Nat, v = .int n ∧ n ≤ 100000 ∧ ∃ H0, H' = hTi H0 q it t zs 0 ∧ H0 q = none ∧ H0 it = none ∧ SqT K H0 t zs ∧ (∀ s', Inv X pins σ (upd (upd H0 q (.lst zs)) it (TiE it)) s' → Rs (.ok (.ret .none)) s')) E0)
    (h1 : X.prog = P := by rfl) (h2 : X.w = w := by rfl) (h3 : X.K = K := by rfl) (h4 : X.mg = mg := by rfl) (h5 : X.base = base := by rfl) :
    wpAny (model X.prog X.w) A1.in1 (Builtin.List.listExtendWith (.ref q) (.ref a) .none) (fun fin s' => match fin with | .done f => Rs (.ok f) s' | .again c' => c'.quiet = true ∧ codeAny (model X.prog X.w) A1 c' Rs s') (fun e s' => Rs (.error e) s') s := by
  obtain ⟨fi, fdI, hc, M, hfi, hbI⟩ := FI.ex
  subst h1 h2 h3 h4 h5
  (have hne : q ≠ a := ne_of hq ha (fun z => nomatch z))
  obtain ⟨ox, od, J⟩ := inst_at I.hok ha
  obtain ⟨m0, hF⟩ := I.fr
  (unfold Builtin.List.listExtendWith)
  (refine wpAny_bind (J.type.here ?_))
  have g1 : Builtin.List.listSameRef (.ref q) (.ref a) = false := by simp [Builtin.List.listSameRef, hne]
  have g2 : (Value.ref C == Value.type "list") = false := rfl
  have g3 : (Value.ref C == Value.type "tuple") = false := rfl
  simp only [g1, g2, g3, Bool.or_false, Bool.false_eq_true, if_false]
  refine wpAny_bind (PySem.W.owit_iter hF I.ok.mod.kin J M.at_ M.fn (wpAny_mono (call_at0 sb hfi hbI I (vs := [.ref a]) (us := [.ref a]) (Q := fun v H' => ∃ it, v = .ref it ∧ H it = none ∧ H' = upd H it (TiO t it 0)) (.cons rfl .nil) ⟨a, dx, t, fs, zs, rfl, ha, hf, ht, fun it hi => ⟨it, rfl, hi, rfl⟩⟩) (fun r s' z => ?_) fun _ _ z => z.elim))
  obtain ⟨v, H', I', rv, it, rfl, hi, rfl⟩ := z
  cases rv
  have hqi : q ≠ it := ne_of_none hq hi
  have hit : (upd H it (TiO t it 0)) it = some (TiO t it 0) := upd_same
  have ti := (I'.hok it _ hit).1
  unfold PySem.W.OwitIt
  refine wpAny_specialOf (name := Str.ofString "__next__") (IsTupIter.typeIs ti) slot_tupleiter_next.lookup ?_
  have ha' : (upd H it (TiO t it 0)) a = some (.ins C dx fs) := by rw [upd_ne (ne_of_none ha hi)]; exact ha
  refine wpAny_bind (wpAny_holding (hint_len FL sb2 I' ha' (spR_mono (hL it hi hqi) fun v H' z => ?_)))
  obtain ⟨n, rfl, hn, H0, rfl, z1, z2, z3, z4⟩ := z
  refine ⟨n, rfl, hn, fun s2 I2 => ?_⟩
  have hq2 : hTi H0 q it t zs 0 q = some (.lst []) := by
    unfold hTi
    rw [upd_ne hqi, upd_same]
    rfl
  have go : ∀ s3, Inv X pins σ (hTi H0 q it t zs 0) s3 → codeAny (model X.prog X.w) A1 (.builtin "list.extend.loop" ⟨[.ref q, .ref it, .none], []⟩) Rs s3 := fun s3 I3 => ti_loop hh hqi z1 z2 z3 z4 herr zs.length 0 s3 (Nat.sub_zero _) (Nat.zero_le _) I3
  obtain ⟨z, its, k3, r3, hl3, e3⟩ := I2.lstM hq2
  cases r3
  refine wpAny_ite_split (fun _ => ?_) (fun _ => wpAny_pure ⟨plainId_quiet PySem.F.plain_extend_loop _, go _ I2⟩)
  (refine wpAny_bind (wpAny_rule ?_))
  refine wpAny_bind ?_
  (show wpAny _ _ (updateSeq q (·.push .none) >>= fun _ => updateSeq q (·.pop)) _ _ _)
  (refine wpAny_bind (wpAny_updateSeq e3 rfl ?_))
  have I3 := I2.lset (f := (·.push Value.none)) (its' := [Value.none]) (ys := [.non]) (t' := s2.toks) hq2 e3 (by simp) (.cons rfl .nil) (by rw [List.length_singleton, sizeLine_eq]; decide)
  obtain ⟨z5, its4, k4, r4, hl4, e4⟩ := I3.lstM upd_same
  (obtain ⟨u4, rfl, ru4⟩ := r4.one)
  (refine wpAny_updateSeq e4 rfl ?_ (by show 1 ≤ sizeLine; rw [sizeLine_eq]; decide) (by show 0 ≤ sizeLine + 1; exact Nat.zero_le _))
  refine wpAny_pure ⟨plainId_quiet PySem.F.plain_extend_loop _, go _ ?_⟩
  have I4 := I3.lset (f := (·.pop)) (its := [u4]) (its' := []) (ys := []) (t' := s2.toks) upd_same e4 (by rfl) .nil (Nat.zero_le _)
  rw [upd_upd] at I4
  have hH : upd (hTi H0 q it t zs 0) q (.lst []) = hTi H0 q it t zs 0 := by
    funext x
    by_cases hx : x = q
    · rw [hx, upd_same, hq2]
    · rw [upd_ne hx]
  rw [hH] at I4
  exact I4
/-- list(o) -/
def rListO (K : PySem.W.Frag) (C : Addr) (fm : Str) (R : FR) : List V → Hp → VK → Prop := fun xs H Q => ∃ (a dx t : Addr) (fs : List (Str × V)) (zs : List V), xs = [.ref a] ∧ H a = some (.ins C dx fs) ∧ fs.lookup fm = some (.ref t) ∧ SqT K H t zs ∧
  ∀ q it, H q = none → H it = none → q ≠ it → spR K R [.ref a] (hTi H q it t zs 0) (fun v H' => ∃ n : Nat, v = .int n ∧ n ≤ 100000 ∧ ∃ H0, H' = hTi H0 q it t zs 0 ∧ H0 q = none ∧ H0 it = none ∧ SqT K H0 t zs ∧ Q (.ref q) (upd (upd H0 q (.lst zs)) it (TiE it))) E0
theorem c_listO {n : Nat} {fm : Str} (FI : FnIt P w K mg base n C fm) (FL : FnM P w K mg base k C "__len__" ps R) (hr : Room (n + 2) X.A) (hr2 : Room (k + 3) X.A) (hc : X.calm = true := by rfl) (h1 : X.prog = P := by rfl) (h2 : X.w = w := by rfl) (h3 : X.K = K := by rfl) (h4 : X.mg = mg := by rfl) (h5 : X.base = base := by rfl) :
    CallR X (.type "list") (rListO K C fm R) := by
  rintro pins s σ H xs us Q I rv ⟨a, dx, t, fs, zs, rfl, ha, hf, ht, hq⟩
  rw [Vals.ref1 rv]
  have fr := I.hok.fresh (Nat.le_refl s.heap.objs.size)
  refine list_of fun h c kept at_ => ?_
  have J : Inv X pins σ (upd H s.heap.objs.size (.lst [])) { s with heap := h, toks := s.toks } := I.laid kept (Nat.le_refl _) ⟨Nat.zero_le _, [], c, .nil, at_⟩
  refine ext_ti (A1 := X.A.in1) (Rs := wants (fun r t => r = .none ∧ EP X pins σ Q (.ref s.heap.objs.size) t) X.xe) FI FL (Sub.in1 (Sub.in1 ⟨hr, rfl⟩)) (Sub.in1 (Sub.in1 (Sub.in1 ⟨hr2, rfl⟩))) (I.ok.hd hc) J
    ((upd_ne (ne_of_none ha fr)).trans ha) hf (ex_t (Ex.new fr) ht) upd_same (fun _ _ z => z) (fun it hi ne => ?_) h1 h2 h3 h4 h5
  refine spR_mono (hq _ it fr ((upd_ne (Ne.symm ne)).symm.trans hi) ne) fun v H' ⟨m, ev, hm, H0, eH, z1, z2, z3, z4⟩ => ⟨m, ev, hm, H0, eH, z1, z2, z3, fun s' J' => ⟨rfl, .ref s.heap.objs.size, _, J', rfl, z4⟩⟩
end
end TD
set_option Elab.async false
set_option linter.all false
set_option maxRecDepth 100000
set_option maxHeartbeats 4100000
namespace TD
open PySem L2 StX PySem.Spec PyProof.Rows
open Evl (Ex ex_l ex_t fresh_back sq_of st_of sz_of sz_lt)
theorem tiO_ne {t it : Addr} {i : Nat} {q : Str} (e : TiO t it i = LamX.CodeO it q) : False := by
  unfold TiO LamX.CodeO at e
  have e := HO.ext.inj e
  obtain ⟨o, ho⟩ : ∃ o : Obj, o = { cls := .type "tuple_iterator", data := .fields #[.ref t, .int i 0] } := ⟨_, rfl⟩
  obtain ⟨h, hh⟩ : ∃ h : Heap, h = { objs := Array.replicate (it + 1) o } := ⟨_, rfl⟩
  have g : h.get? it = some o := by
    rw [hh, ho]
    unfold Heap.get?
    simp
  have p : IsTupIter h it t i := ⟨o, g, by rw [ho], by rw [ho]⟩
  rw [congrFun e h] at p
  obtain ⟨oc, vs, tk, q1, q2, q3⟩ := p
  rw [g] at q1
  cases q1
  rw [ho] at q2
  cases q2
  simp at q3
/-- what may stand on the right of == -/
inductive RightD (K : PySem.W.Frag) (C : Addr) : Dt → Prop
  | own (ps : List (Dt × Dt)) : RightD K C (oD C ps)
  | tup (ds : List Dt) (n : PySem.W.notFirst K C (.type "tuple") = true) : RightD K C (.tuple ds)
  | lst (ds : List Dt) (n : PySem.W.notFirst K C (.type "list") = true) : RightD K C (.list ds)
  | str (x : Str) (n : PySem.W.notFirst K C (.type "str") = true) : RightD K C (.str x)
  | non (n : PySem.W.notFirst K C (.type "NoneType") = true) : RightD K C .none
theorem RightD.k {K : PySem.W.Frag} {C : Addr} {G H : Hp} {v : V} {d : Dt} (h : RightD K C d) (e : Ex G H) (dv : Den K G v d) : RightK K C H v := by
  cases h with
  | own ps =>
    obtain ⟨a, dx, fs, rfl, _, hs, _⟩ := den_oD dv
    exact .own (e _ _ hs)
  | tup ds n =>
    cases dv with
    | @tup a xs _ hs hd => exact .tup (ex_t e (st_of hs)) n
  | lst ds n =>
    cases dv with
    | @lst a xs _ hs hd => exact .lst (sq_of (e _ _ hs)) n
  | str x n => cases dv; exact .str n
  | non n => cases dv; exact .non n
section
variable [TabW] {K : PySem.W.Frag} {ρ : Rho} {β β1 β2 : Bag} {ta tb te : TE} {ps : List (Dt × Dt)} {C : Addr} {x y : Dt} {c : Bool} {R : FR}
theorem d_eqO (ha : EvB K ta ρ β (oD C ps) β1) (hb : EvB K tb ρ β1 y β2) (hy : RightD K C y) (hR : R [.imm (oD C ps), .imm y] none (.bool c) none) : EvB K (tOp (rEqO K C (spR K R)) ta tb) ρ β (.bool c) β2 := ⟨hb.som.trans ha.som, fun b G H σ Q E k => ha.run b G H σ _ E fun v G1 H1 s1 k1 d1 => hb.run b G1 H1 σ _ (E.step s1 k1) fun u G2 H2 s2 k2 d2 => by
  have d1 := d1.mono s2.g
  obtain ⟨a, dx, fs, rfl, hc, hs, hp⟩ := den_oD d1
  exact ⟨a, dx, fs, rfl, s2.s _ _ hs, hy.k s2.s d2, b, G2, none, [.imm (oD C ps), .imm y], .bool c, none, s2.s, ((E.step s1 k1).step s2 k2).tabs, (fun _ z => nomatch z), .cons d1 (.cons d2 .nil), hR, rfl, fun w G3 H3 s3 k3 d3 => by
    cases d3
    exact ⟨c, rfl, k (.bl c) G3 H3 ((s1.trans (ha.som ▸ s2)).trans s3.up) (k2.same s3) (.bl c)⟩⟩⟩
theorem d_neO (ha : EvB K ta ρ β (oD C ps) β1) (hb : EvB K tb ρ β1 y β2) (hy : RightD K C y) (hR : R [.imm (oD C ps), .imm y] none (.bool c) none) : EvB K (tOp (rNeO K C (spR K R)) ta tb) ρ β (.bool (!c)) β2 := ⟨hb.som.trans ha.som, fun b G H σ Q E k => ha.run b G H σ _ E fun v G1 H1 s1 k1 d1 => hb.run b G1 H1 σ _ (E.step s1 k1) fun u G2 H2 s2 k2 d2 => by
  have d1 := d1.mono s2.g
  obtain ⟨a, dx, fs, rfl, hc, hs, hp⟩ := den_oD d1
  exact ⟨a, dx, fs, rfl, s2.s _ _ hs, hy.k s2.s d2, b, G2, none, [.imm (oD C ps), .imm y], .bool c, none, s2.s, ((E.step s1 k1).step s2 k2).tabs, (fun _ z => nomatch z), .cons d1 (.cons d2 .nil), hR, rfl, fun w G3 H3 s3 k3 d3 => by
    cases d3
    exact ⟨c, rfl, k (.bl (!c)) G3 H3 ((s1.trans (ha.som ▸ s2)).trans s3.up) (k2.same s3) (.bl (!c))⟩⟩⟩
theorem d_inO (ha : EvB K ta ρ β x β1) (hb : EvB K tb ρ β1 (oD C ps) β2) (hR : R [.imm (oD C ps), .imm x] none (.bool c) none) : EvB K (tOp (rInO C (spR K R)) ta tb) ρ β (.bool c) β2 := ⟨hb.som.trans ha.som, fun b G H σ Q E k => ha.run b G H σ _ E fun v G1 H1 s1 k1 d1 => hb.run b G1 H1 σ _ (E.step s1 k1) fun u G2 H2 s2 k2 d2 => by
  have d1 := d1.mono s2.g
  obtain ⟨a, dx, fs, rfl, hc, hs, hp⟩ := den_oD d2
  exact ⟨a, dx, fs, rfl, s2.s _ _ hs, b, G2, none, [.imm (oD C ps), .imm x], .bool c, none, s2.s, ((E.step s1 k1).step s2 k2).tabs, (fun _ z => nomatch z), .cons d2 (.cons d1 .nil), hR, rfl, fun w G3 H3 s3 k3 d3 => by
    cases d3
    exact ⟨c, rfl, k (.bl c) G3 H3 ((s1.trans (ha.som ▸ s2)).trans s3.up) (k2.same s3) (.bl c)⟩⟩⟩
theorem d_lenO {n : Int} (h : EvB K te ρ β (oD C ps) β1) (hR : R [.imm (oD C ps)] none (.int n) none) (hn : 0 ≤ n ∧ n < 2 ^ 63) : EvB K (tCB (rLenO C (spR K R)) (tCons te tNil)) ρ β (.int n) β1 := ⟨h.som, fun b G H σ Q E k => h.run b G H σ _ E fun v G1 H1 s1 k1 d1 => by
  obtain ⟨a, dx, fs, rfl, hc, hs, hp⟩ := den_oD d1
  exact ⟨a, dx, fs, rfl, s1.s _ _ hs, b, G1, none, [.imm (oD C ps)], .int n, none, s1.s, (E.step s1 k1).tabs, (fun _ z => nomatch z), .cons d1 .nil, hR, rfl, fun w G3 H3 s3 k3 d3 => by
    cases d3
    exact ⟨n, rfl, hn, k (.int n) G3 H3 (s1.trans s3.up) (k1.same s3) (.int n)⟩⟩⟩
theorem d_strO {t : Str} (h : EvB K te ρ β (oD C ps) β1) (hR : R [.imm (oD C ps)] none (.str t) none) : EvB K (tCB (rStrO C (spR K R)) (tCons te tNil)) ρ β (.str t) β1 := ⟨h.som, fun b G H σ Q E k => h.run b G H σ _ E fun v G1 H1 s1 k1 d1 => by
  obtain ⟨a, dx, fs, rfl, hc, hs, hp⟩ := den_oD d1
  exact ⟨a, dx, fs, rfl, s1.s _ _ hs, b, G1, none, [.imm (oD C ps)], .str t, none, s1.s, (E.step s1 k1).tabs, (fun _ z => nomatch z), .cons d1 .nil, hR, rfl, fun w G3 H3 s3 k3 d3 => by
    cases d3
    exact ⟨t, rfl, k (.str t) G3 H3 (s1.trans s3.up) (k1.same s3) (.str t)⟩⟩⟩
theorem d_listO {fm : Str} {ds : List Dt} (h : EvB K te ρ β (oD C ps) β1) (hf : getF ps fm = some (.tuple ds)) (hR : R [.imm (oD C ps)] none (.int (ds.length : Int)) none) (hz : ds.length ≤ 100000) : EvB K (tCB (rListO K C fm R) (tCons te tNil)) ρ β (.list ds) β1 := ⟨h.som, fun b G H σ Q E k => h.run b G H σ _ E fun v G1 H1 s1 k1 d1 => by
  obtain ⟨a, dx, fs, rfl, hc, hs, hp⟩ := den_oD d1
  obtain ⟨vt, hl, dt⟩ := (hp.look fm).1 _ hf
  cases dt with
  | @tup t xs _ ht hd =>
    refine ⟨a, dx, t, fs, xs, rfl, s1.s _ _ hs, hl, st_of (s1.s _ _ ht), fun q it hq hit hqi => ?_⟩
    have ex0 : Ex H1 (hTi H1 q it t xs 0) := hTi_ex hq hit
    have iq : hTi H1 q it t xs 0 q = some (.lst []) := by unfold hTi; rw [upd_ne hqi, upd_same]; rfl
    have ii : hTi H1 q it t xs 0 it = some (TiO t it 0) := by unfold hTi; exact upd_same
    have nq : ∀ {x o}, H1 x = some o → x ≠ q ∧ x ≠ it := fun {x o} hx => ⟨fun z => (by rw [z, hq] at hx; cases hx), fun z => (by rw [z, hit] at hx; cases hx)⟩
    have tb1 := (E.step s1 k1).tabs
    have tb0 : TabsOk G1 (hTi H1 q it t xs 0) := ⟨fun P q' w => (tb1.tab P q' w).ext ex0, tb1.free⟩
    refine ⟨b, G1, none, [.imm (oD C ps)], .int (ds.length : Int), none, s1.s.trans ex0, tb0, (fun _ z => nomatch z), .cons d1 .nil, hR, rfl, fun w G3 H3 s3 k3 d3 => ?_⟩
    cases d3
    have nT : NoT (TiO t it 0) := ⟨fun _ z => (by unfold TiO at z; cases z), fun _ z => (by unfold TiO at z; cases z)⟩
    have e1 : H3 q = some (.lst []) := s3.keep q _ (fun z => nomatch z) NoT.lst iq
    have e2 : H3 it = some (TiO t it 0) := s3.keep it _ (fun z => nomatch z) nT ii
    have g1 : G3 q = none := s3.fresh q _ (fresh_back s1.s hq) NoT.lst iq
    have g2 : G3 it = none := s3.fresh it _ (fresh_back s1.s hit) nT ii
    obtain ⟨H0, h0⟩ : ∃ H0 : Hp, H0 = fun x => if x = q then none else if x = it then none else H3 x := ⟨_, rfl⟩
    have q0 : H0 q = none := by rw [h0]; exact if_pos rfl
    have i0 : H0 it = none := by rw [h0]; show (if it = q then none else if it = it then none else H3 it) = none; rw [if_pos (rfl : it = it)]; split <;> rfl
    have o0 : ∀ {x}, x ≠ q → x ≠ it → H0 x = H3 x := fun {x} h1 h2 => by rw [h0]; show (if x = q then none else if x = it then none else H3 x) = _; rw [if_neg h1, if_neg h2]
    have eq3 : H3 = hTi H0 q it t xs 0 := by
      funext x
      unfold hTi
      by_cases z1 : x = it
      · rw [z1, upd_same]; exact e2
      · rw [upd_ne z1]
        by_cases z2 : x = q
        · rw [z2, upd_same]; exact e1
        · rw [upd_ne z2, o0 z2 z1]
    have tn := nq (s1.s _ _ ht)
    have t0 : H0 t = some (.tup xs) := by rw [o0 tn.1 tn.2]; exact s3.s _ _ (s3.g _ _ ht)
    have len := hd.length
    refine ⟨ds.length, rfl, hz, H0, eq3, q0, i0, st_of t0, ?_⟩
    have f0 : ∀ {x}, x ≠ q → x ≠ it → upd (upd H0 q (.lst xs)) it (TiE it) x = H3 x := fun {x} z1 z2 => by rw [upd_ne z2, upd_ne z1, o0 z1 z2]
    have fq : upd (upd H0 q (.lst xs)) it (TiE it) q = some (.lst xs) := by rw [upd_ne hqi, upd_same]
    have kp : ∀ x o, NoT o → H1 x = some o → upd (upd H0 q (.lst xs)) it (TiE it) x = some o := fun x o nt hx => by
      rw [f0 (nq hx).1 (nq hx).2]
      exact s3.keep x o (fun z => nomatch z) nt (ex0 _ _ hx)
    have st : Step b β.isSome G1 H1 (upd G3 q (.lst xs)) (upd (upd H0 q (.lst xs)) it (TiE it)) := by
      refine ⟨s3.g.trans (Ex.new g1), fun x o hx => ?_, fun x o h1 nt h2 => ?_, fun x o _ nt hx => kp x o nt hx, fun x o nt hx => ⟨o, nt, kp x o nt hx⟩, fun _ => ⟨fun P q' w => ?_, fun x ps' z => ?_⟩⟩
      · by_cases z : x = q
        · rw [z, upd_same] at hx
          rw [z, fq, hx]
        · rw [upd_ne z] at hx
          have z2 : x ≠ it := fun z2 => by rw [z2, g2] at hx; cases hx
          rw [f0 z z2]
          exact s3.s x o hx
      · rw [upd_ne (nq h2).1]
        exact s3.fresh x o h1 nt (ex0 _ _ h2)
      · obtain ⟨ps', p1, p2, p3⟩ := (s3.tabs tb0).tab P q' w
        refine ⟨ps', ?_, p2, fun pos cv hcv => ?_⟩
        · rw [f0 (fun z => by rw [z, e1] at p1; cases p1) fun z => by rw [z, e2] at p1; unfold TiO at p1; cases p1]
          exact p1
        · obtain ⟨c, c1, c2⟩ := p3 pos cv hcv
          refine ⟨c, c1, ?_⟩
          rw [f0 (fun z => by rw [z, e1] at c2; unfold LamX.CodeO at c2; cases c2) fun z => by rw [z, e2] at c2; exact tiO_ne (Option.some.inj c2)]
          exact c2
      · by_cases z2 : x = q
        · rw [z2, upd_same] at z; cases z
        · rw [upd_ne z2] at z; exact (s3.tabs tb0).free x ps' z
    have kb : BagOk b β1 (upd G3 q (.lst xs)) (upd (upd H0 q (.lst xs)) it (TiE it)) := fun ns e => by
      obtain ⟨b1, b2⟩ := k1 ns e
      refine ⟨kp b _ NoT.lst b1, ?_⟩
      rw [upd_ne (nq b1).1]
      exact s3.fresh b _ b2 NoT.lst (ex0 _ _ b1)
    exact k (.ref q) _ _ (s1.trans st) kb (.lst upd_same (hd.mono (s3.g.trans (Ex.new g1))))⟩
end
end TD
set_option Elab.async false
set_option linter.all false
set_option maxRecDepth 100000
set_option maxHeartbeats 4100000
namespace TD
open PySem L2 StX PySem.Spec PyProof.Rows
open Evl (Ex ex_l ex_t fresh_back sq_of st_of sz_of sz_lt)
section
variable [TabW] {K : PySem.W.Frag} {b : Addr} {ρ : Rho} {β β1 : Bag} {td te : TE} {j : Nat} {G H G1 H1 : Hp} {qs : List (List Int × Dt)} {vs : List Nat}
/-- len(x) - 1 -/
def len1 : Dt → Int
  | .tuple ds => (ds.length : Int) - 1
  | _ => 0
end
end TD
set_option Elab.async false
set_option linter.all false
set_option maxRecDepth 100000
set_option maxHeartbeats 4100000
namespace TD
open PySem L2 StX PySem.Spec PyProof.Rows
open Evl (Ex ex_l ex_t fresh_back sq_of st_of sz_of sz_lt)
theorem bo_iter : bootBuiltins "iter" = some (.builtin "iter") := by decide +kernel
section
variable [TabW] {K : PySem.W.Frag} {ρ : Rho} {β β1 β2 : Bag} {te : TE} {ps : List (Dt × Dt)} {C : Addr} {x : Dt}
theorem d_isNo (h : EvB K te ρ β x β1) (hx : (∃ ds, x = .tuple ds) ∨ (∃ ds, x = .list ds) ∨ ∃ s, x = .str s) (kT : PySem.W.kitOne K (.type "tuple") (.ref C) = some false) (kL : PySem.W.kitOne K (.type "list") (.ref C) = some false) (kS : PySem.W.kitOne K (.type "str") (.ref C) = some false) :
    EvB K (tCB (rIsiR K) (tCons te (tCons (tC (.ref C)) tNil))) ρ β (.bool false) β1 := ⟨h.som, fun b G H σ Q E k => h.run b G H σ _ E fun v G1 H1 s1 k1 d1 => by
  rcases hx with ⟨ds, rfl⟩ | ⟨ds, rfl⟩ | ⟨s, rfl⟩
  · cases d1 with
    | tup hs hd => exact ⟨_, .ref C, _, .ref C, false, rfl, .own C, .ty (.base (.tup (s1.s _ _ hs))), kT, k _ G1 H1 s1 k1 (.bl false)⟩
  · cases d1 with
    | lst hs hd => exact ⟨_, .ref C, _, .ref C, false, rfl, .own C, .ty (.base (.lst (s1.s _ _ hs))), kL, k _ G1 H1 s1 k1 (.bl false)⟩
  · cases d1
    exact ⟨_, .ref C, _, .ref C, false, rfl, .own C, .ty (.base (.str s)), kS, k _ G1 H1 s1 k1 (.bl false)⟩⟩
theorem d_fmtI {i : Int} (h : EvB K te ρ β (.int i) β1) (hi : i.natAbs.log2 < 1920) : EvB K (tFmt te) ρ β (.str (toString i)) β1 := ⟨h.som, fun b G H σ Q E k => h.run b G H σ _ E fun v G1 H1 s1 k1 d1 => by
  cases d1
  exact .inr ⟨i, rfl, hi, k _ G1 H1 s1 k1 (.str _)⟩⟩
/-- parts of an f-string -/
inductive JsR (K : PySem.W.Frag) (ρ : Rho) (β : Bag) : List TE → Str → Str → Prop
  | nil (acc : Str) : JsR K ρ β [] acc acc
  | cons {t : TE} {ts : List TE} {acc y r : Str} : EvB K t ρ β (.str y) β → (acc ++ y).length ≤ sizeLine → JsR K ρ β ts (acc ++ y) r → JsR K ρ β (t :: ts) acc r
theorem d_joined {ts : List TE} {r : Str} (h : JsR K ρ β ts Str.empty r) : EvB K (fun σ H Q => tJs ts Str.empty σ H fun out H1 => Q (.str out) H1) ρ β (.str r) β := by
  refine ⟨rfl, ?_⟩
  generalize Str.empty = acc at h ⊢
  intro b G H σ Q E k
  induction h generalizing G H with
  | nil acc => exact k _ G H (Step.refl E.sub) E.bagk (.str _)
  | @cons t ts acc y r h1 h2 _ ih =>
    refine h1.run b G H σ _ E fun v G1 H1 s1 k1 d1 => ?_
    cases d1
    exact ⟨y, rfl, h2, ih G1 H1 (E.step s1 k1) fun v G2 H2 s2 k2 d2 => k v G2 H2 (s1.trans s2) k2 d2⟩
end
section
variable [TabW] {P : Program} {w : World} {K : PySem.W.Frag} {mg : Str → Option Value} {base : Heap} {k : Nat} {C : Addr} {qual fm : Str} {st : Stmt} {N : List Str}
theorem fnIt_mk (F : MethAt K C "__iter__" qual st) (S : FnScope N ["self"] (defScope st))
    (hb : ∀ (f : Addr) (kV doc pm : Value) (an : Option Addr) (cdv ct : Value) (us : List Value), us.length = 1 → bindArgs (PySem.W.fnOf "__iter__" qual (defArgs st) (defBody st) (defScope st) .none kV doc pm an cdv ct) ⟨us, []⟩ = pure ((["self"] : List Str).zip us))
    (hbody : ∀ (f : Addr) (cdv : Value) (A : Around) (outer : List PySem.Env) (s : Shared) (H : Hp) (E : XK), Room k (A.deeper (envOfC qual (defScope st) s.heap.objs.size f cdv)) →
      ∃ t, PSs (cxOf CX0 P w K mg base N qual (defScope st) f cdv A outer s H E).nox (defBody st) t ∧ ∀ vs H Q E, spIt K C fm vs H Q E → t { nx := fun _ H' => Q .non H', rt := Q } (L2.start N vs) H) : FnIt P w K mg base (k + 1) C fm := by
  obtain ⟨f, fd, M, hF⟩ := F.ex
  refine ⟨f, fd, F.ins, M, ?_, hF.binds (hb f)⟩
  refine hF.ok S (fun vs H Q E hsp => ?_) fun cdv A outer s H vs Q E hr hsp => ?_
  · obtain ⟨a, dx, t, fs, zs, rfl, _⟩ := hsp
    rfl
  · obtain ⟨t, h1, h2⟩ := hbody f cdv A outer s H E hr
    exact ⟨t, h1, h2 vs H Q E hsp⟩
end
end TD
set_option Elab.async false
set_option linter.all false
set_option maxRecDepth 100000
set_option maxHeartbeats 4100000
namespace TD
open PySem L2 PySem.Spec PyProof.Rows
open Evl (Ex ex_l ex_t fresh_back sq_of st_of sz_of sz_lt)
section
variable [TabW] (P : Program) (w : World) (K : PySem.W.Frag) (mg : Str → Option Value) (base : Heap) (k : Nat)
/-- a classmethod of the class at C, that may raise -/
structure FnCX (C : Addr) (m : Str) (ps : List Str) (R : FX) : Prop where
  ex : ∃ (mc : Value) (p g : Addr) (fd : FuncData), ClX.CRead K C mc ∧ ClX.CMet K C mc m p g ∧ FnOk P w K mg base (L2.CX P w) k g fd ps (spX K R) ∧ Binds K fd ps []
end
structure CmAt (K : PySem.W.Frag) (C : Addr) (m qual : Str) (st : Stmt) : Prop where
  ex : ∃ (mc : Value) (p g : Addr) (fd : FuncData), ClX.CRead K C mc ∧ ClX.CMet K C mc m p g ∧ Fun K m qual st g fd
/-- a call of a name that holds the class at C -/
def tMakeV (i : Nat) (C : Addr) (sp : Sp) (E : XK) (t : TA) : TE := fun σ H Q => σ[i]? = some (some (.ref C)) ∧ tMake C sp [] E t σ H Q
section
variable [TabW] {P : Program} {w : World} {K : PySem.W.Frag} {mg : Str → Option Value} {base : Heap} {X : Cx} {k i : Nat} {x y m qual : Str} {C : Addr} {ps N : List Str} {st : Stmt} {pos p apos : Pos} {e o : Expr} {es : List Expr} {t : TA} {te : TE} {E : XK}
theorem clsX_mk {R : FX} (F : CmAt K C m qual st) (S : FnScope N ps (defScope st)) (hlen : ∀ as β r β', R as β r β' → as.length = ps.length)
    (hb : ∀ (f : Addr) (kV doc pm : Value) (an : Option Addr) (cdv ct : Value) (us : List Value), us.length = ps.length → bindArgs (PySem.W.fnOf m qual (defArgs st) (defBody st) (defScope st) .none kV doc pm an cdv ct) ⟨us, []⟩ = pure (ps.zip us))
    (hbody : ∀ (f : Addr) (cdv : Value) (A : Around) (outer : List PySem.Env) (s : Shared) (H : Hp) (E : XK), Room k (A.deeper (envOfC qual (defScope st) s.heap.objs.size f cdv)) →
      ∃ t, PSs (cxOf (L2.CX P w) P w K mg base N qual (defScope st) f cdv A outer s H E) (defBody st) t ∧ ∀ as β r β', R as β r β' → BodyX K E t (startR N as) β β' r) : FnCX P w K mg base (k + 1) C m ps R := by
  obtain ⟨mc, p, g, fd, cr, cm, hF⟩ := F.ex
  refine ⟨mc, p, g, fd, cr, cm, hF.okX S (fun vs H Q E hsp => ?_) (fun cdv A outer s H vs Q E hr hsp => ?_), hF.binds (hb g)⟩
  · obtain ⟨_, _, _, _, _, _, _, _, _, hd, hR, _⟩ := hsp
    exact hd.length.trans (hlen _ _ _ _ hR)
  · obtain ⟨t, h1, h2⟩ := hbody g cdv A outer s H E hr
    exact ⟨t, h1, fnX_read h2 hsp⟩
/-- C.m(..), m a classmethod -/
theorem pe_cmX {R : FX} {pl : Sem Bool} (F : FnCX P w K mg base k C m ps R) (hr : Room k X.A) (hx : Passes (L2.CX X.prog X.w) X E) (ho : PE X o te) (ha : PA X (e :: es) t) (h1 : X.prog = P := by rfl) (h2 : X.w = w := by rfl) (h3 : X.K = K := by rfl) (h4 : X.mg = mg := by rfl) (h5 : X.base = base := by rfl)
    (hs : starEach (e :: es) X.env = (false, eval e X.env) :: starEach es X.env := by rfl) (hp : (backTo pos (starEach es X.env)).any (·.1) = false := by rfl)
    (ht : eval (.Call (.Attribute o m apos) (e :: es) [] pos) X.env = (do let it ← eval o X.env; standAt apos.atName; let (g, fst) ← holding [it] (getMethod it m pl); callWith pos g fst (backTo pos (starEach (e :: es) X.env)) (backToKw pos (keywordEach [] X.env))) := by rfl) :
    PE X (.Call (.Attribute o m apos) (e :: es) [] pos) (ClX.tCMeth C (spX K R) E te t) := by
  obtain ⟨mc, q, g, fd, cr, cm, hf, hb⟩ := F.ex
  subst h1 h2 h3 h4 h5
  have z : (fun (vs : List V) (H : Hp) (Q : VK) (E : XK) => spX X.K R (vs ++ []) H Q E) = spX X.K R := by
    funext vs H Q E
    rw [List.append_nil]
  exact ClX.pe_cmeth (pl := pl) ho cr cm (z ▸ hf.raw hb .nil) hr hx ha hs hp ht
theorem pe_cmXL {A : Around} {outer : List PySem.Env} {s : Shared} {H : Hp} {scope : Scope} {f c' : Addr} {R : FX} {pl : PySem.Env → Sem Bool} (F : FnCX P w K mg base k C m ps R) (hr : Room k (A.deeper (LamX.lamEnv X scope s.heap.objs.size f c'))) (ho : PE (LamX.lamCx X A outer s H E scope f c') o te) (ha : PA (LamX.lamCx X A outer s H E scope f c') (e :: es) t)
    (hk : scope.kind = .function := by rfl) (h1 : X.prog = P := by rfl) (h2 : X.w = w := by rfl) (h3 : X.K = K := by rfl) (h4 : X.mg = mg := by rfl) (h5 : X.base = base := by rfl)
    (hs : ∀ v : PySem.Env, starEach (e :: es) v = (false, eval e v) :: starEach es v := by intro _; rfl) (hp : ∀ v : PySem.Env, (backTo pos (starEach es v)).any (·.1) = false := by intro _; rfl)
    (ht : ∀ v : PySem.Env, eval (.Call (.Attribute o m apos) (e :: es) [] pos) v = (do let it ← eval o v; standAt apos.atName; let (g, fst) ← holding [it] (getMethod it m (pl v)); callWith pos g fst (backTo pos (starEach (e :: es) v)) (backToKw pos (keywordEach [] v))) := by intro _; rfl) :
    PE (LamX.lamCx X A outer s H E scope f c') (.Call (.Attribute o m apos) (e :: es) [] pos) (ClX.tCMeth C (spX K R) E te t) :=
  pe_cmX F hr (show Passes (L2.CX (LamX.lamCx X A outer s H E scope f c').prog (LamX.lamCx X A outer s H E scope f c').w) (LamX.lamCx X A outer s H E scope f c') E from pass_lam (X := X) hk) ho ha h1 h2 h3 h4 h5 (hs _) (hp _) (ht _)
/-- c(..), c a name that holds the class -/
theorem pe_newV {R : FI} (F : FnI P w K mg base k x C ps R) (hr : Room (k + 1) X.A) (hN : X.N[i]? = some y) (hv : Vis X.env.scope y) (hx : Passes (L2.CX X.prog X.w) X E) (ha : PA X (e :: es) t) (h1 : X.prog = P := by rfl) (h2 : X.w = w := by rfl) (h3 : X.K = K := by rfl) (h4 : X.mg = mg := by rfl) (h5 : X.base = base := by rfl)
    (hdb : (y == ("__debug__" : Str)) = false := by decide) (hcd : (y == ("__classdict__" : Str)) = false := by decide) (hs : starEach (e :: es) X.env = (false, eval e X.env) :: starEach es X.env := by rfl) (hp : (backTo pos (starEach es X.env)).any (·.1) = false := by rfl) :
    PE X (.Call (.Name y p) (e :: es) [] pos) (tMakeV i C (spI K C R) E t) := by
  obtain ⟨f, fd, hm, M, hf, hb⟩ := F.ex
  subst h1 h2 h3 h4 h5
  refine ⟨fun pins s σ H Q I ⟨hc, h⟩ => ?_⟩
  have name := (pe_var (pos := p) hN hv hdb hcd).run pins s σ H (fun u G => u = .ref C ∧ G = H) I ⟨.ref C, hc, rfl, rfl⟩
  refine wpAny_Call_Name_kw (thn name ?_)
  rintro u s1 ⟨v, H1, J, ru, rfl, rfl⟩
  (obtain rfl : u = Value.ref C := ru)
  refine PySem.W.callWith_K (h₀ := X.base) J.ok.mod.kin M.kp (thn (ha.run pos pins s1 σ _ _ J h) ?_) hs hp
  rintro us s2 ⟨vs, H2, J2, rv, q⟩
  exact ⟨J2.kIn, run_make M hf hr hb .nil hx J2 rv q⟩
end
section
variable [TabW] {K : PySem.W.Frag} {ρ : Rho} {β β1 β2 : Bag} {ta te to : TE} {t : TA} {C : Addr} {as : List Slot} {E : XK} {r : Dt} {i : Nat} {ps : List (Dt × Dt)}
theorem x_cm {R : FX} (ha : EvA K t ρ β as β1) (hR : R (.fn C :: as) none (.ok r) none) : EvB K (ClX.tCMeth C (spX K R) E (tC (.ref C)) t) ρ β r β1 := ⟨ha.som, fun b G H σ Q E' k => ⟨rfl, ha.run b G H σ _ E' fun vs G1 H1 s1 k1 d1 =>
  ⟨b, G1, none, .fn C :: as, .ok r, none, s1.s, (E'.step s1 k1).tabs, (fun _ z => nomatch z), .cons rfl d1, hR, rfl, fun w G2 H2 s2 k2 d2 => k w G2 H2 (s1.trans s2.up) (k1.same s2) d2⟩⟩⟩
theorem x_cmR {R : FX} {D : Addr} {kp : Kept} (ha : EvA K t ρ β as β1) (hR : R (.fn C :: as) none (.ex D kp) none) : EvR K E (ClX.tCMeth C (spX K R) E (tC (.ref C)) t) ρ β D kp β1 := ⟨ha.som, fun b G H σ Q E' k => ⟨rfl, ha.run b G H σ _ E' fun vs G1 H1 s1 k1 d1 =>
  ⟨b, G1, none, .fn C :: as, .ex D kp, none, s1.s, (E'.step s1 k1).tabs, (fun _ z => nomatch z), .cons rfl d1, hR, rfl, fun w G2 H2 s2 k2 ka => k w G2 H2 (s1.trans s2.up) (k1.same s2) ka⟩⟩⟩
theorem x_newV {R : FI} (hi : ρ[i]? = some (some (Slot.fn C))) (ha : EvA K t ρ β as β1) (hR : R as none (.ok ps) none) : EvB K (tMakeV i C (spI K C R) E t) ρ β (oD C ps) β1 := ⟨ha.som, fun b G H σ Q E' k => ⟨E'.fnv i C hi, (x_new ha hR).run b G H σ Q E' k⟩⟩
theorem x_newVR {R : FI} {D : Addr} {kp : Kept} (hi : ρ[i]? = some (some (Slot.fn C))) (ha : EvA K t ρ β as β1) (hR : R as none (.ex D kp) none) : EvR K E (tMakeV i C (spI K C R) E t) ρ β D kp β1 := ⟨ha.som, fun b G H σ Q E' k => ⟨E'.fnv i C hi, (x_newR ha hR).run b G H σ Q E' k⟩⟩
end
def rJoin (K : PySem.W.Frag) : V → List V → Hp → VK → Prop := fun x xs H Q => ∃ a p, ∃ ys : List Str, x = .str a ∧ xs = [.ref p] ∧ (SqL K H p (ys.map V.str) ∨ SqT K H p (ys.map V.str)) ∧ (ys.map (·.length)).sum + ys.length * a.length ≤ 16777216 ∧ Q (.str (Txt.join a ys)) H
theorem pe_joinK {X : Cx} {K : PySem.W.Frag} {o e : Expr} {to te : TE} {apos pos : Pos} (ho : PE X o to) (he : PE X e te) (hK : X.K = K := by rfl) (hs : starEach [e] X.env = [(false, eval e X.env)] := by rfl) (hbase : attributeBase o "join" X.env (eval o X.env) = eval o X.env := by rfl) (hline : (apos.endLine == pos.line) = true := by rfl) :
    PE X (.Call (.Attribute o "join" apos) [e] [] pos) (tM1 (rJoin K) to te) := hK ▸ pe_join ho he hs hbase hline
theorem DenL.strs {K : PySem.W.Frag} {G : Hp} : ∀ {vs : List V} {ys : List Str}, DenL K G vs (ys.map PyData.str) → vs = ys.map V.str
  | [], [], _ => rfl
  | [], _ :: _, h => nomatch h
  | _ :: _, [], h => nomatch h
  | _ :: _, y :: ys, .cons h1 h2 => by
    cases h1
    rw [DenL.strs h2]
    rfl
section
variable [TabW] {K : PySem.W.Frag} {ρ : Rho} {β β1 β2 : Bag} {te to : TE} {a : Str} {ys : List Str}
theorem d_join (h : EvB K to ρ β (.str a) β1) (h' : EvB K te ρ β1 (.list (ys.map PyData.str)) β2) (hz : (ys.map (·.length)).sum + ys.length * a.length ≤ 16777216) : EvB K (tM1 (rJoin K) to te) ρ β (.str (Txt.join a ys)) β2 := ⟨h'.som.trans h.som, fun b G H σ Q E k => h.run b G H σ _ E fun v G1 H1 s1 k1 d1 => by
  cases d1
  refine ⟨⟨a, rfl⟩, h'.run b G1 H1 σ _ (E.step s1 k1) fun u G2 H2 s2 k2 d2 => ?_⟩
  cases d2 with
  | @lst p xs _ hs hd =>
    have ev := hd.strs
    subst ev
    exact ⟨a, p, ys, rfl, rfl, .inl (sq_of (s2.s _ _ hs)), hz, k _ G2 H2 (s1.trans (h.som ▸ s2)) k2 (.str _)⟩⟩
end
section
variable [TabW] {K : PySem.W.Frag} {ρ : Rho} {β β1 : Bag} {te : TE} {C : Addr}
theorem d_isNon (h : EvB K te ρ β .none β1) (hk : PySem.W.kitOne K (.type "NoneType") (.ref C) = some false) : EvB K (tCB (rIsiR K) (tCons te (tCons (tC (.ref C)) tNil))) ρ β (.bool false) β1 := ⟨h.som, fun b G H σ Q E k => h.run b G H σ _ E fun v G1 H1 s1 k1 d1 => by
  cases d1
  exact ⟨_, .ref C, _, .ref C, false, rfl, .own C, .ty (.base .non), hk, k _ G1 H1 s1 k1 (.bl false)⟩⟩
theorem d_isInt0 {i : Int} (h : EvB K te ρ β (.int i) β1) (hk : PySem.W.kitOne K (.type "int") (.ref C) = some false) : EvB K (tCB (rIsiR K) (tCons te (tCons (tC (.ref C)) tNil))) ρ β (.bool false) β1 := ⟨h.som, fun b G H σ Q E k => h.run b G H σ _ E fun v G1 H1 s1 k1 d1 => by
  cases d1
  exact ⟨_, .ref C, _, .ref C, false, rfl, .own C, .ty (.base (.int i)), hk, k _ G1 H1 s1 k1 (.bl false)⟩⟩
end
/-- a kept tuple of tuples of ints -/
def KTups (K : PySem.W.Frag) (a : Addr) (rows : List (List Int)) : Prop := ∀ H : Hp, Dp K H (.ref a) (.tuple (rows.map tupJ)) ∧ ∃ ys : List V, ys.length = rows.length ∧ SqT K H a ys
section
variable [TabW] {K : PySem.W.Frag} {ρ ρ1 : Rho} {β β1 β2 : Bag} {te ta : TE} {a : Addr} {o : Out} {tu : TS} {j : Nat}
theorem d_lenK {rows : List (List Int)} (hq : KTups K a rows) : EvB K (tCB (rLen K) (tCons (tC (.ref a)) tNil)) ρ β (.int (rows.length : Int)) β := ⟨rfl, fun b G H σ Q E k => by
  obtain ⟨_, ys, hl, hs⟩ := hq H
  exact ⟨a, ys, rfl, .inr hs, by rw [hl]; exact k _ G H (Step.refl E.sub) E.bagk (.int _)⟩⟩
theorem d_lenKI {ns : List Int} (hq : ∀ H : Hp, SqT K H a (ns.map V.int)) : EvB K (tCB (rLen K) (tCons (tC (.ref a)) tNil)) ρ β (.int (ns.length : Int)) β := ⟨rfl, fun b G H σ Q E k =>
  ⟨a, ns.map V.int, rfl, .inr (hq H), by rw [List.length_map]; exact k _ G H (Step.refl E.sub) E.bagk (.int _)⟩⟩
theorem d_inKT {l : List Int} {rows : List (List Int)} (hq : KTups K a rows) (sl : SeqAt.shaped (tupJ l) = true) (sr : SeqAt.shaped (.tuple (rows.map tupJ)) = true) (fl : flatD (tupJ l) = true) (h : EvB K ta ρ β (tupJ l) β1) : EvB K (tOp (rInTup K) ta (tC (.ref a))) ρ β (.bool (decide (l ∈ rows))) β1 := ⟨h.som, fun b G H σ Q E k => h.run b G H σ _ E fun v G1 H1 s1 k1 d1 =>
  ⟨tupJ l, rows.map tupJ, d1.dp s1.s fl, (hq H1).1, sl, sr, by rw [any_tups]; exact k _ G1 H1 s1 k1 (.bl _)⟩⟩
end
section
variable [TabW] {P : Program} {w : World} {K : PySem.W.Frag} {mg : Str → Option Value} {base : Heap} {X : Cx} {k : Nat} {x : Str} {ps : List Str} {q pos : Pos} {R : FR} {ρ : Rho} {β β1 : Bag} {te : TE}
theorem pe_fn0 (F : FnG P w K mg base k x ps R) (hr : Room k X.A) (h1 : X.prog = P := by rfl) (h2 : X.w = w := by rfl) (h3 : X.K = K := by rfl) (h4 : X.mg = mg := by rfl) (h5 : X.base = base := by rfl) (hg : Gl X x := by rfl) (hdb : (x == ("__debug__" : Str)) = false := by decide) :
    PE X (.Call (.Name x q) [] [] pos) (tCall (spR K R) [] E0 tNil) := by
  obtain ⟨f, fd, hm, hf, hb, hk⟩ := F.ex
  subst h1 h2 h3 h4 h5
  exact pe_call0 hf hr hg hm hk hb .nil pass0 hdb
theorem d_sortTX {ns : List (List Int)} {S B : Int} {dd : Nat} (h : EvB K te ρ β (.tuple (ns.map tupJ)) β1) (hl : ns.length < 64) (ho : ∀ x ∈ ns, Ok3 S B dd x) : EvB K (tCB (TDS.rSortQ K dd S B) (tCons te tNil)) ρ β (.list ((sortX ns).map tupJ)) β1 := by
  refine d_c1 h fun b G H v Q e dv k => ?_
  cases dv with
  | @tup a xs _ hs hd =>
    obtain ⟨ks, rfl, rfl, hk⟩ := hd.refs
    rw [List.length_map] at hl
    have here : ∀ q ∈ ks, ∃ t, V.ref q.1 = .ref t ∧ SqT K H t (q.2.map V.int) := fun q hq => ⟨q.1, rfl, st_of (e _ _ (hk q hq))⟩
    refine ⟨a, ks.map fun q => V.ref q.1, rfl, st_of (e _ _ hs), by rw [List.length_map]; exact hl, fun x hx => ?_, fun ys p hp hpw hfr => ?_⟩
    · obtain ⟨q, hq, rfl⟩ := List.mem_map.mp hx
      have o := ho q.2 (List.mem_map_of_mem hq)
      exact ⟨q.2, here q hq, o.1, o.2⟩
    · obtain ⟨L, pL, rfl⟩ := TDS.perm_map hp ks rfl
      have sub : ∀ q ∈ L, q ∈ ks := fun q hq => pL.mem_iff.mp hq
      have up : (L.map (·.2)).Pairwise fun x y => TDS.cd S B x ≤ TDS.cd S B y :=
        List.pairwise_map.mpr ((List.pairwise_map.mp hpw).imp_of_mem fun {q r} hq hr z => z _ _ (here q (sub q hq)) (here r (sub r hr)))
      have n := Step.new (b := b) (m := false) (o := .lst (L.map fun q => V.ref q.1)) e hfr
      have told : sortX (ks.map (·.2)) = L.map (·.2) := (sortX_cd ho (pL.map (·.2)) up).symm
      exact k (.ref p) _ _ n (told ▸ .lst upd_same (DenL.mono n.g (DenL.of_refs fun q hq => hk q (sub q hq))))
end
end TD
set_option Elab.async false
set_option linter.all false
set_option maxRecDepth 100000
set_option maxHeartbeats 1100000
namespace K73
open PySem L2 TD PySem.Spec PyProof.Rows
def top (i : Nat) : Stmt := PySem.Challenge.pw_tangentrows_k73_webs_as_values_and_error.main.body.getD i (.Pass ⟨0, 0, 0, 0⟩)
/-- a statement of a class's body -/
def inCls (st : Stmt) (j : Nat) : Stmt := match st with
  | .ClassDef _ _ _ rows _ _ _ _ _ _ _ => rows.getD j (.Pass ⟨0, 0, 0, 0⟩)
  | _ => .Pass ⟨0, 0, 0, 0⟩
variable [TabW]
structure Cn where
  tg : Tok
  aP : Addr
  aT : Addr
  aO : Addr
  cN : Addr
  cV : Addr
  cO : Addr
  cR : Addr
  cl : Addr
  c1 : Addr
  P1 : Addr
  c2 : Addr
  P2 : Addr
def Cn.T (Y : Cn) : List (Addr × Str) := [(Y.P1, ("_law_changes_right.<locals>.<lambda>" : Str)), (Y.P2, ("_law_refused.<locals>.<lambda>" : Str))]
/-- the six ties -/
abbrev tiesL : List (List Int) := [[1, 2], [1, 3], [1, 4], [2, 3], [2, 4], [3, 4]]
structure Txt (K : PySem.W.Frag) (mg : Str → Option Value) (Y : Cn) : Prop where
  z_abs : mg "abs" = none
  z_all : mg "all" = none
  z_any : mg "any" = none
  z_bool : mg "bool" = none
  z_enumerate : mg "enumerate" = none
  z_int : mg "int" = none
  z_isinstance : mg "isinstance" = none
  z_iter : mg "iter" = none
  z_len : mg "len" = none
  z_list : mg "list" = none
  z_max : mg "max" = none
  z_min : mg "min" = none
  z_range : mg "range" = none
  z_repr : mg "repr" = none
  z_set : mg "set" = none
  z_sorted : mg "sorted" = none
  z_str : mg "str" = none
  z_sum : mg "sum" = none
  z_tuple : mg "tuple" = none
  z_zip : mg "zip" = none
  m_gcd : mg "gcd" = some (.builtin "math.gcd")
  o_InvalidNumber : OwnC K mg "InvalidNumber" "given" Y.cN
  o_Refused : OwnC K mg "Refused" "reason" Y.cR
  b_InvalidWeb : BareC K mg "InvalidWeb" Y.cV
  b_InvalidOperation : BareC K mg "InvalidOperation" Y.cO
  eVV : PySem.W.exmOne K (.ref Y.cV) (.ref Y.cV) = some true
  eOV : PySem.W.exmOne K (.ref Y.cO) (.ref Y.cV) = some false
  eOO : PySem.W.exmOne K (.ref Y.cO) (.ref Y.cO) = some true
  eNV : PySem.W.exmOne K (.ref Y.cN) (.ref Y.cV) = some false
  eNO : PySem.W.exmOne K (.ref Y.cN) (.ref Y.cO) = some false
  eNN : PySem.W.exmOne K (.ref Y.cN) (.ref Y.cN) = some true
  eRV : PySem.W.exmOne K (.ref Y.cR) (.ref Y.cV) = some false
  eRO : PySem.W.exmOne K (.ref Y.cR) (.ref Y.cO) = some false
  eRN : PySem.W.exmOne K (.ref Y.cR) (.ref Y.cN) = some false
  eRR : PySem.W.exmOne K (.ref Y.cR) (.ref Y.cR) = some true
  ins : InsK K Y.cl
  k_Web : mg "Web" = some (.ref Y.cl)
  iself : PySem.W.kitOne K (.ref Y.cl) (.ref Y.cl) = some true
  nx : PySem.W.findIn K (.ref Y.cl) "__ne__" = some (some (.builtin "object.__ne__"))
  rT : PySem.W.notFirst K Y.cl (.type "tuple") = true
  rN : PySem.W.notFirst K Y.cl (.type "NoneType") = true
  kT : PySem.W.kitOne K (.type "tuple") (.ref Y.cl) = some false
  kL : PySem.W.kitOne K (.type "list") (.ref Y.cl) = some false
  kS : PySem.W.kitOne K (.type "str") (.ref Y.cl) = some false
  kI : PySem.W.kitOne K (.type "int") (.ref Y.cl) = some false
  kN : PySem.W.kitOne K (.type "NoneType") (.ref Y.cl) = some false
  m_ties : NoAttr K Y.cl "_ties"
  n12 : Y.P1 ≠ Y.P2
  tabw : ∀ P q, TabW.w P q ↔ (P, q) ∈ Y.T
  c_TOO_GREAT : mg "TOO_GREAT" = some (.int Num.big Y.tg)
  c_PRIMES : mg "PRIMES" = some (.ref Y.aP)
  q_PRIMES : ∀ H, SqT K H Y.aP (Num.primes.map V.int)
  c_TIES : mg "TIES" = some (.ref Y.aT)
  q_TIES : KTups K Y.aT tiesL
  c_POINTS : mg "POINTS" = some (.ref Y.aO)
  q_POINTS : ∀ H, SqT K H Y.aO (([1, 2, 3, 4] : List Int).map V.int)
/-- functions of one datum, of two, of three: how the data look, when, what comes back -/
def f1 {α : Type} (a : α → Dt) (P : α → Prop) (g : α → Dt) : FR := fun as β r β' => ∃ x, as = [.imm (a x)] ∧ P x ∧ r = g x ∧ β = none ∧ β' = none
def f2 {α α' : Type} (a : α → Dt) (a' : α' → Dt) (P : α → α' → Prop) (g : α → α' → Dt) : FR := fun as β r β' => ∃ x y, as = [.imm (a x), .imm (a' y)] ∧ P x y ∧ r = g x y ∧ β = none ∧ β' = none
def f3 {α α' α'' : Type} (a : α → Dt) (a' : α' → Dt) (a'' : α'' → Dt) (P : α → α' → α'' → Prop) (g : α → α' → α'' → Dt) : FR := fun as β r β' => ∃ x y z, as = [.imm (a x), .imm (a' y), .imm (a'' z)] ∧ P x y z ∧ r = g x y z ∧ β = none ∧ β' = none
theorem st_sq {K : PySem.W.Frag} {tu tw : TS} {ρ ρ1 : Rho} {β β2 : Bag} {o : Out} (h : StB K tu ρ β (.nx ρ1) β) (h' : StB K tw ρ1 β o β2) : StB K (tSeq tu tw) ρ β o β2 := st_seq h h'
theorem at0 {α : Type} (x : α) (xs : List α) : atI (x :: xs) 0 = some x := by
  have h := atI_nat (xs := x :: xs) (j := 0) (v := x) rfl
  exact h
abbrev anyD : Dt → Dt := fun d => d
abbrev lstI : List Int → Dt := fun ns => .list (ns.map PyData.int)
section
variable {K : PySem.W.Frag} {ρ : Rho} {β β1 β2 β3 : Bag} {ta tb tc : TE} {E : XK} {α α' α'' : Type} {a : α → Dt} {a' : α' → Dt} {a'' : α'' → Dt} {x : α} {y : α'} {z : α''}
theorem c_f1 {P : α → Prop} {g : α → Dt} (h : EvB K ta ρ β (a x) β1) (hp : P x) : EvB K (tCall (spR K (f1 a P g)) [] E (tCons ta tNil)) ρ β (g x) β1 := d_call0 (a_con h a_nil) ⟨x, rfl, hp, rfl, rfl, rfl⟩
theorem c_f2 {P : α → α' → Prop} {g : α → α' → Dt} (h : EvB K ta ρ β (a x) β1) (h' : EvB K tb ρ β1 (a' y) β2) (hp : P x y) : EvB K (tCall (spR K (f2 a a' P g)) [] E (tCons ta (tCons tb tNil))) ρ β (g x y) β2 := d_call0 (a_con h (a_con h' a_nil)) ⟨x, y, rfl, hp, rfl, rfl, rfl⟩
theorem c_f3 {P : α → α' → α'' → Prop} {g : α → α' → α'' → Dt} (h : EvB K ta ρ β (a x) β1) (h' : EvB K tb ρ β1 (a' y) β2) (h'' : EvB K tc ρ β2 (a'' z) β3) (hp : P x y z) : EvB K (tCall (spR K (f3 a a' a'' P g)) [] E (tCons ta (tCons tb (tCons tc tNil)))) ρ β (g x y z) β3 := d_call0 (a_con h (a_con h' (a_con h'' a_nil))) ⟨x, y, z, rfl, hp, rfl, rfl, rfl⟩
end
local macro_rules | `(tactic| walk_at "side") => `(tactic| first | trivial | assumption | omega | rfl | decide | (refine .inl ?_; walk_at "side") | (refine .inr ?_; walk_at "side") | (refine And.intro ?_ ?_ <;> walk_at "side"))
local macro_rules | `(tactic| walk_at "ev") => `(tactic| first
  | ((with_reducible refine' d_var ?h1); (case h1 => exact rfl))
  | with_reducible exact d_int | with_reducible exact d_bl | with_reducible exact d_non | with_reducible exact d_str
  | ((with_reducible refine' d_ref ?h1); (case h1 => assumption))
  | ((with_reducible refine' d_add ?e1 ?e2); (case e1 => walk_at "ev"); (case e2 => walk_at "ev"))
  | ((with_reducible refine' d_sub ?e1 ?e2); (case e1 => walk_at "ev"); (case e2 => walk_at "ev"))
  | ((with_reducible refine' d_lt ?e1 ?e2); (case e1 => walk_at "ev"); (case e2 => walk_at "ev"))
  | ((with_reducible refine' d_le ?e1 ?e2); (case e1 => walk_at "ev"); (case e2 => walk_at "ev"))
  | ((with_reducible refine' d_gt ?e1 ?e2); (case e1 => walk_at "ev"); (case e2 => walk_at "ev"))
  | ((with_reducible refine' d_ge ?e1 ?e2); (case e1 => walk_at "ev"); (case e2 => walk_at "ev"))
  | ((with_reducible refine' d_eqI ?e1 ?e2); (case e1 => walk_at "ev"); (case e2 => walk_at "ev"))
  | ((with_reducible refine' d_neI ?e1 ?e2); (case e1 => walk_at "ev"); (case e2 => walk_at "ev"))
  | ((with_reducible refine' d_eqS ?e1 ?e2); (case e1 => walk_at "ev"); (case e2 => walk_at "ev"))
  | ((with_reducible refine' d_neS ?e1 ?e2); (case e1 => walk_at "ev"); (case e2 => walk_at "ev"))
  | ((with_reducible refine' d_neg ?e1); (case e1 => walk_at "ev"))
  | ((with_reducible refine' d_mul ?e1 ?e2 ?c1); (case e1 => walk_at "ev"); (case e2 => walk_at "ev"); (case c1 => walk_at "side"))
  | ((with_reducible refine' d_mod ?e1 ?e2 ?c1); (case e1 => walk_at "ev"); (case e2 => walk_at "ev"); (case c1 => walk_at "side"))
  | ((with_reducible refine' d_div ?e1 ?e2 ?c1); (case e1 => walk_at "ev"); (case e2 => walk_at "ev"); (case c1 => walk_at "side"))
  | ((with_reducible refine' d_pow ?e1 ?e2 ?c1); (case e1 => walk_at "ev"); (case e2 => walk_at "ev"); (case c1 => walk_at "side"))
  | ((with_reducible refine' d_fdiv ?e1 ?e2 ?c1); (case e1 => walk_at "ev"); (case e2 => walk_at "ev"); (case c1 => walk_at "side"))
  | ((with_reducible refine' d_eqTT ?e1 ?e2); (case e1 => walk_at "ev"); (case e2 => walk_at "ev"))
  | ((with_reducible refine' d_neTT ?e1 ?e2); (case e1 => walk_at "ev"); (case e2 => walk_at "ev"))
  | ((with_reducible refine' d_eqLL ?e1 ?e2); (case e1 => walk_at "ev"); (case e2 => walk_at "ev"))
  | ((with_reducible refine' d_neLL ?e1 ?e2); (case e1 => walk_at "ev"); (case e2 => walk_at "ev"))
  | ((with_reducible refine' d_anyT ?e1); (case e1 => walk_at "ev"))
  | ((with_reducible refine' d_chLtLt ?e1 ?e2 ?e3); (case e1 => walk_at "ev"); (case e2 => walk_at "ev"); (case e3 => walk_at "ev"))
  | ((with_reducible refine' d_chLeLt ?e1 ?e2 ?e3); (case e1 => walk_at "ev"); (case e2 => walk_at "ev"); (case e3 => walk_at "ev"))
  | ((with_reducible refine' d_chLeLe ?e1 ?e2 ?e3); (case e1 => walk_at "ev"); (case e2 => walk_at "ev"); (case e3 => walk_at "ev"))
  | ((with_reducible refine' d_abs ?e1); (case e1 => walk_at "ev"))
  | ((with_reducible refine' d_intI ?e1); (case e1 => walk_at "ev"))
  | ((with_reducible refine' d_intB ?e1); (case e1 => walk_at "ev"))
  | ((with_reducible refine' d_max2 ?e1 ?e2); (case e1 => walk_at "ev"); (case e2 => walk_at "ev"))
  | ((with_reducible refine' d_min2 ?e1 ?e2); (case e1 => walk_at "ev"); (case e2 => walk_at "ev"))
  | ((with_reducible refine' d_gcd ?e1 ?e2); (case e1 => walk_at "ev"); (case e2 => walk_at "ev"))
  | ((with_reducible refine' d_isInt ?e1); (case e1 => walk_at "ev"))
  | ((with_reducible refine' d_isBool ?e1); (case e1 => walk_at "ev"))
  | ((with_reducible refine' d_isTup ?e1); (case e1 => walk_at "ev"))
  | ((with_reducible refine' d_isStr ?e1); (case e1 => walk_at "ev"))
  | ((with_reducible refine' d_reprB ?e1); (case e1 => walk_at "ev"))
  | ((with_reducible refine' d_len ?e1 ?c1); (case e1 => walk_at "ev"); (case c1 => first | exact .inl rfl | exact .inr rfl))
  | ((with_reducible refine' d_listOf ?e1 ?c1); (case e1 => walk_at "ev"); (case c1 => first | exact .inl rfl | exact .inr rfl))
  | ((with_reducible refine' d_tupleOf ?e1); (case e1 => walk_at "ev"))
  | ((with_reducible refine' d_sum ?e1); (case e1 => walk_at "ev"))
  | ((with_reducible refine' d_not ?e1); (case e1 => walk_at "ev"))
  | ((with_reducible refine' d_andF (EvB.to ?e1 ?q1)); (case e1 => walk_at "ev"); (case q1 => exact rfl))
  | ((with_reducible refine' d_andT (EvB.to ?e1 ?q1) ?e2); (case e1 => walk_at "ev"); (case q1 => exact rfl); (case e2 => walk_at "ev"))
  | ((with_reducible refine' d_and ?e1 ?e2); (case e1 => walk_at "ev"); (case e2 => intro hp; walk_at "ev"))
  | ((with_reducible refine' d_orT (EvB.to ?e1 ?q1)); (case e1 => walk_at "ev"); (case q1 => exact rfl))
  | ((with_reducible refine' d_orF (EvB.to ?e1 ?q1) ?e2); (case e1 => walk_at "ev"); (case q1 => exact rfl); (case e2 => walk_at "ev"))
  | ((with_reducible refine' d_or ?e1 ?e2); (case e1 => walk_at "ev"); (case e2 => intro hp; walk_at "ev"))
  | ((with_reducible refine' d_inK ?h1 ?e1); (case h1 => assumption); (case e1 => walk_at "ev"))
  | ((with_reducible refine' d_inI ?e1 ?e2 ?c1); (case e1 => walk_at "ev"); (case e2 => walk_at "ev"); (case c1 => first | exact .inl rfl | exact .inr rfl))
  | ((with_reducible refine' d_tup ?e1 ?c1 ?c2); (case e1 => walk_at "ea"); (case c1 => exact rfl); (case c2 => walk_at "side"))
  | ((with_reducible refine' d_lst ?e1 ?c1 ?c2); (case e1 => walk_at "ea"); (case c1 => exact rfl); (case c2 => walk_at "side"))
  | ((with_reducible refine' c_f1 ?e1 ?c1); (case e1 => walk_at "ev"); (case c1 => walk_at "side"))
  | ((with_reducible refine' c_f2 ?e1 ?e2 ?c1); (case e1 => walk_at "ev"); (case e2 => walk_at "ev"); (case c1 => walk_at "side"))
  | ((with_reducible refine' c_f3 ?e1 ?e2 ?e3 ?c1); (case e1 => walk_at "ev"); (case e2 => walk_at "ev"); (case e3 => walk_at "ev"); (case c1 => walk_at "side")))
local macro_rules | `(tactic| walk_at "ea") => `(tactic| first
  | with_reducible exact a_nil
  | ((with_reducible refine' a_con ?e1 ?e2); (case e1 => walk_at "ev"); (case e2 => walk_at "ea")))
local macro_rules | `(tactic| walk_at "tt") => `(tactic| first
  | ((with_reducible refine' t_test ?e1); (case e1 => walk_at "ev"))
  | ((with_reducible refine' t_B ?e1); (case e1 => walk_at "ev"))
  | ((with_reducible refine' t_not ?e1); (case e1 => walk_at "tt"))
  | ((with_reducible refine' t_andF (TtB.to ?e1 ?q1)); (case e1 => walk_at "tt"); (case q1 => exact rfl))
  | ((with_reducible refine' t_andT (TtB.to ?e1 ?q1) ?e2); (case e1 => walk_at "tt"); (case q1 => exact rfl); (case e2 => walk_at "tt"))
  | ((with_reducible refine' t_and ?e1 ?e2); (case e1 => walk_at "tt"); (case e2 => intro hp; walk_at "tt"))
  | ((with_reducible refine' t_orT (TtB.to ?e1 ?q1)); (case e1 => walk_at "tt"); (case q1 => exact rfl))
  | ((with_reducible refine' t_orF (TtB.to ?e1 ?q1) ?e2); (case e1 => walk_at "tt"); (case q1 => exact rfl); (case e2 => walk_at "tt"))
  | ((with_reducible refine' t_or ?e1 ?e2); (case e1 => walk_at "tt"); (case e2 => intro hp; walk_at "tt"))
  | ((with_reducible refine' t_truthI ?e1); (case e1 => walk_at "ev")))
local macro_rules | `(tactic| walk_at "to") => `(tactic| (refine' EvB.to ?e ?q; (case e => walk_at "ev")))
local macro_rules | `(tactic| walk_at "ret") => `(tactic| (refine' .ret (st_ret (EvB.to ?e ?q)); (case e => walk_at "ev")))
abbrev s_is_integer : Stmt := top 15
theorem sc_is_integer : FnScope ["value"] ["value"] (defScope s_is_integer) := ⟨rfl, rfl, rfl, by decide +kernel, rfl, by decide +kernel, by decide +kernel⟩
abbrev R_is_integer : FR := f1 anyD (fun _ => True) fun d => .bool (Num.isInteger d)
theorem ok_is_integer {P : Program} {w : World} {K : PySem.W.Frag} {mg : Str → Option Value} {base : Heap} {Y : Cn} (F : DefAt K "is_integer" s_is_integer) (hX : K.In base) (hG : base.Ns mainGlobals mg) (T : Txt K mg Y)  : FnG P w K mg base 1 "is_integer" ["value"] R_is_integer := by
  have nd := sc_is_integer.nd
  refine fn_mk F hX hG sc_is_integer (fun as β r β' h => by first | exact FR.len h | (obtain ⟨_, rfl, _⟩ := h; rfl) | (obtain ⟨_, _, rfl, _⟩ := h; rfl) | (obtain ⟨_, _, _, rfl, _⟩ := h; rfl) | (obtain ⟨_, _, _, _, rfl, _⟩ := h; rfl) | (obtain ⟨_, _, _, _, _, rfl, _⟩ := h; rfl)) (fun _ _ _ _ _ _ _ us hl => match us, hl with | [_], _ => rfl) (fun f cdv A outer s H E hr => ⟨_, (pss_one (ps_ret (pe_and (pe_callB (call_isiK (K := K)) (by rfl) T.z_isinstance bo_isinstance (pa_cons (pv 0) (pa_cons (pe_bltn (v := .ty "int") (by rfl) T.z_int bo_int rfl) pa_nil))) (pe_and (pe_not (pe_callB (call_isiK (K := K)) (by rfl) T.z_isinstance bo_isinstance (pa_cons (pv 0) (pa_cons (pe_bltn (v := .ty "bool") (by rfl) T.z_bool bo_bool rfl) pa_nil)))) (pe_one (pe_chain op_lt op_lt (pe_un un_neg (pe_glob (v := .int _) (by rfl) T.c_TOO_GREAT ⟨_, rfl⟩)) (pv 0) (pe_glob (v := .int _) (by rfl) T.c_TOO_GREAT ⟨_, rfl⟩))))))), fun as β r β' hR => ?_⟩)
  obtain ⟨d, rfl, _, rfl, rfl, rfl⟩ := hR
  dsimp only [cxOf, Cx.nox, Cx.wish]
  cases d with
  | none => walk_at "ret"; rfl
  | int i => walk_at "ret"; rfl
  | _ => walk_at "ret"; rfl
abbrev s_is_prime : Stmt := top 16
theorem sc_is_prime : FnScope ["value"] ["value"] (defScope s_is_prime) := ⟨rfl, rfl, rfl, by decide +kernel, rfl, by decide +kernel, by decide +kernel⟩
abbrev R_is_prime : FR := f1 anyD (fun _ => True) fun d => .bool (Num.isPrime d)
theorem ok_is_prime {P : Program} {w : World} {K : PySem.W.Frag} {mg : Str → Option Value} {base : Heap} {Y : Cn} (F : DefAt K "is_prime" s_is_prime) (hX : K.In base) (hG : base.Ns mainGlobals mg) (T : Txt K mg Y) (G_is_integer : FnG P w K mg base 1 "is_integer" ["value"] R_is_integer) : FnG P w K mg base 2 "is_prime" ["value"] R_is_prime := by
  have nd := sc_is_prime.nd
  refine fn_mk F hX hG sc_is_prime (fun as β r β' h => by first | exact FR.len h | (obtain ⟨_, rfl, _⟩ := h; rfl) | (obtain ⟨_, _, rfl, _⟩ := h; rfl) | (obtain ⟨_, _, _, rfl, _⟩ := h; rfl) | (obtain ⟨_, _, _, _, rfl, _⟩ := h; rfl) | (obtain ⟨_, _, _, _, _, rfl, _⟩ := h; rfl)) (fun _ _ _ _ _ _ _ us hl => match us, hl with | [_], _ => rfl) (fun f cdv A outer s H E hr => ⟨_, (pss_one (ps_ret (pe_and (pe_fn G_is_integer (hr.mono (by decide)) (pa_cons (pv 0) pa_nil)) (pe_one (pe_or (pe_cmpR op_eq (pv 0) pe_int (nomark _)) (pe_one (pe_cmpR op_in_seq (pv 0) (pe_glob (v := .ref _) (by rfl) T.c_PRIMES rfl) (by rfl)))))))), fun as β r β' hR => ?_⟩)
  obtain ⟨d, rfl, _, rfl, rfl, rfl⟩ := hR
  dsimp only [cxOf, Cx.nox, Cx.wish]
  have qP := T.q_PRIMES
  cases d with
  | int p => walk_at "ret"; rw [Num.isPrime_int]
  | none => walk_at "ret"; rfl
  | _ => walk_at "ret"; rfl
abbrev s_need_prime : Stmt := top 17
theorem sc_need_prime : FnScope ["prime"] ["prime"] (defScope s_need_prime) := ⟨rfl, rfl, rfl, by decide +kernel, rfl, by decide +kernel, by decide +kernel⟩
abbrev R_need_prime (Y : Cn) : FX := fun as β r β' => ∃ d, as = [.imm d] ∧ (Num.isPrime d = true ∧ r = .ok .none ∨ Num.isPrime d = false ∧ r = .ex Y.cN (some ("given", d))) ∧ β = none ∧ β' = none
theorem ok_need_prime {P : Program} {w : World} {K : PySem.W.Frag} {mg : Str → Option Value} {base : Heap} {Y : Cn} (F : DefAt K "need_prime" s_need_prime) (hX : K.In base) (hG : base.Ns mainGlobals mg) (T : Txt K mg Y) (G_is_prime : FnG P w K mg base 2 "is_prime" ["value"] R_is_prime) : FnX P w K mg base 3 "need_prime" ["prime"] (R_need_prime Y) := by
  have nd := sc_need_prime.nd
  refine fnX_mk F hX hG sc_need_prime (fun as β r β' h => by first | exact FR.len h | (obtain ⟨_, rfl, _⟩ := h; rfl) | (obtain ⟨_, _, rfl, _⟩ := h; rfl) | (obtain ⟨_, _, _, rfl, _⟩ := h; rfl) | (obtain ⟨_, _, _, _, rfl, _⟩ := h; rfl) | (obtain ⟨_, _, _, _, _, rfl, _⟩ := h; rfl)) (fun _ _ _ _ _ _ _ us hl => match us, hl with | [_], _ => rfl) (fun f cdv A outer s H E hr => ⟨_, (pss_one (ps_if (pt_not (pt_val (pe_fn G_is_prime (hr.mono (by decide)) (pa_cons (pv 0) pa_nil)))) (pss_one (ps_raiseOwn T.o_InvalidNumber hr (takes_of rfl rfl rfl rfl) (pa_cons (pv 0) pa_nil))) pss_nil)), fun as β r β' hR => ?_⟩)
  obtain ⟨d, rfl, hd, rfl, rfl⟩ := hR
  have hc : EvB K (tCall (spR K R_is_prime) [] E0 (tCons (tVar 0) tNil)) (startR ["prime"] [.imm d]) none (.bool (Num.isPrime d)) none := c_f1 (d_var rfl) trivial
  rcases hd with ⟨h, rfl⟩ | ⟨h, rfl⟩
  · exact .ok (.fall _ (st_ifF ((t_not (t_test hc)).to (by rw [h] <;> rfl)) st_next) rfl)
  · exact .ex (stR_ifT ((t_not (t_test hc)).to (by rw [h] <;> rfl)) (st_raiseK (d_var rfl)))
abbrev s_fits : Stmt := top 18
theorem sc_fits : FnScope ["prime", "value"] ["prime", "value"] (defScope s_fits) := ⟨rfl, rfl, rfl, by decide +kernel, rfl, by decide +kernel, by decide +kernel⟩
abbrev R_fits : FR := f2 PyData.int anyD (fun _ _ => True) fun p d => .bool (Num.fits p d)
theorem ok_fits {P : Program} {w : World} {K : PySem.W.Frag} {mg : Str → Option Value} {base : Heap} {Y : Cn} (F : DefAt K "fits" s_fits) (hX : K.In base) (hG : base.Ns mainGlobals mg) (T : Txt K mg Y) (G_is_integer : FnG P w K mg base 1 "is_integer" ["value"] R_is_integer) : FnG P w K mg base 2 "fits" ["prime", "value"] R_fits := by
  have nd := sc_fits.nd
  refine fn_mk F hX hG sc_fits (fun as β r β' h => by first | exact FR.len h | (obtain ⟨_, rfl, _⟩ := h; rfl) | (obtain ⟨_, _, rfl, _⟩ := h; rfl) | (obtain ⟨_, _, _, rfl, _⟩ := h; rfl) | (obtain ⟨_, _, _, _, rfl, _⟩ := h; rfl) | (obtain ⟨_, _, _, _, _, rfl, _⟩ := h; rfl)) (fun _ _ _ _ _ _ _ us hl => match us, hl with | [_, _], _ => rfl) (fun f cdv A outer s H E hr => ⟨_, (pss_one (ps_ret (pe_and (pe_fn G_is_integer (hr.mono (by decide)) (pa_cons (pv 1) pa_nil)) (pe_one (pe_or (pe_cmpR op_eq (pv 0) pe_int (nomark _)) (pe_one (pe_chain op_le op_lt pe_int (pv 1) (pv 0)))))))), fun as β r β' hR => ?_⟩)
  obtain ⟨p, d, rfl, _, rfl, rfl, rfl⟩ := hR
  dsimp only [cxOf, Cx.nox, Cx.wish]
  cases d with
  | int p => walk_at "ret"; rfl
  | none => walk_at "ret"; rfl
  | _ => walk_at "ret"; rfl
abbrev s_all_fit : Stmt := top 19
theorem sc_all_fit : FnScope ["prime", "value", "many", "one"] ["prime", "value", "many"] (defScope s_all_fit) := ⟨rfl, rfl, rfl, by decide +kernel, rfl, by decide +kernel, by decide +kernel⟩
abbrev R_all_fit : FR := f3 PyData.int anyD PyData.int (fun _ _ n => n ≤ 1000) fun p d n => .bool (Num.allFit p n d)
theorem ok_all_fit {P : Program} {w : World} {K : PySem.W.Frag} {mg : Str → Option Value} {base : Heap} {Y : Cn} (F : DefAt K "all_fit" s_all_fit) (hX : K.In base) (hG : base.Ns mainGlobals mg) (T : Txt K mg Y) (G_fits : FnG P w K mg base 2 "fits" ["prime", "value"] R_fits) : FnG P w K mg base 3 "all_fit" ["prime", "value", "many"] R_all_fit := by
  have nd := sc_all_fit.nd
  refine fn_mk F hX hG sc_all_fit (fun as β r β' h => by first | exact FR.len h | (obtain ⟨_, rfl, _⟩ := h; rfl) | (obtain ⟨_, _, rfl, _⟩ := h; rfl) | (obtain ⟨_, _, _, rfl, _⟩ := h; rfl) | (obtain ⟨_, _, _, _, rfl, _⟩ := h; rfl) | (obtain ⟨_, _, _, _, _, rfl, _⟩ := h; rfl)) (fun _ _ _ _ _ _ _ us hl => match us, hl with | [_, _, _], _ => rfl) (fun f cdv A outer s H E hr => ⟨_, (pss_one (ps_ret (pe_and (pe_callB (call_isiK (K := K)) (by rfl) T.z_isinstance bo_isinstance (pa_cons (pv 1) (pa_cons (pe_bltn (v := .ty "tuple") (by rfl) T.z_tuple bo_tuple rfl) pa_nil))) (pe_and (pe_cmpR op_eq (pe_callB (c_lenK (K := K)) (by rfl) T.z_len bo_len (pa_cons (pv 1) pa_nil)) (pv 2) (nomark _)) (pe_one (pe_callB (cr_all rfl) (by rfl) T.z_all bo_all (pa_cons (pe_lc (own := [("one", 3)]) rfl nd (pi_tup (pv 1)) (blkOk_by (N := ["prime", "value", "many", "one"]) (sc := defScope s_all_fit) (by decide +kernel)) (fun _ _ _ _ _ => by exact (pg_name (i := 3) nd rfl (Or.inl rfl))) (fun _ _ _ _ _ => by exact pts_nil) (fun _ _ _ _ _ => by exact (pe_fn G_fits (hr.mono (by decide)) (pa_cons (pv 0) (pa_cons (pv 3) pa_nil))))) pa_nil))))))), fun as β r β' hR => ?_⟩)
  obtain ⟨p, d, n, rfl, hn, rfl, rfl, rfl⟩ := hR
  dsimp only [cxOf, Cx.nox, Cx.wish]
  cases d with
  | tuple ds =>
    refine' .ret (st_ret (EvB.to (d_andT (EvB.to ?e1 ?q1) (d_and ?e2 fun hp => d_all (bs := ds.map (Num.fits p)) ?e3)) ?q))
    case e1 => walk_at "ev"
    case q1 => rfl
    case e2 => walk_at "ev"
    case e3 =>
      have hl : ds.length ≤ 1000 := by
        have := of_decide_eq_true hp
        omega
      refine d_lcT (rs := ds.map fun d => .bool (Num.fits p d)) (d_var rfl) ?_ (by rw [List.length_map]; omega) (wipe_ok (by decide)) |>.to (by rw [List.map_map]; rfl)
      refine LcR.map (fun d => .bool (Num.fits p d)) fun d _ => ?_
      walk_at "ev"
    case q =>
      show PyData.bool _ = PyData.bool _
      rw [List.all_map]
      rfl
  | none => walk_at "ret"; rfl
  | _ => walk_at "ret"; rfl
end K73
set_option Elab.async false
set_option linter.all false
set_option maxRecDepth 100000
set_option maxHeartbeats 4000100
namespace TD
open PySem L2 PySem.Spec PyProof.Rows
open Evl (Ex ex_l ex_t fresh_back sq_of st_of sz_of sz_lt)
/-- an empty set, as it is made -/
abbrev S0 (w : World) : Obj := { cls := .type "set", dict := none, data := .set #[] 0 (.fresh 0 0 (!w.params.followText "set-order")) }
section
variable {P : Program}
variable {w : World} {A : Around} {E : Value → Shared → Prop} {s : Shared}
/-- what __init__ leaves: the ints of ns at the place a, all else as it was -/
def Filled (w : World) (s : Shared) (a : Addr) (ns : List Int) (s' : Shared) : Prop := ∃ h' tk c, s' = { s with heap := h', toks := tk } ∧ SetR w h' a (fun j => decide (j ∈ ns)) c ∧ c ≤ ns.length ∧ ∀ b o, s.heap.get? b = some o → h'.get? b = some o
theorem ints_here {items : Array Value} {ns : List Int} (hit : IntsAre items.toList ns) {i : Nat} {v : Value} (hv : items[i]? = some v) : ∃ k t, ns[i]? = some k ∧ v = .int k t := by
  have hl := IntsAre.length hit
  (rw [Array.length_toList] at hl)
  have hi : i < ns.length := hl ▸ (Array.getElem?_eq_some_iff.mp hv).1
  (obtain ⟨t, e⟩ := PyProof.Rows.IntsAre.int_at hit i v (by rw [Array.getElem?_toList]; exact hv))
  rw [List.getD_eq_getElem?_getD, List.getElem?_eq_getElem hi] at e
  exact ⟨ns[i], t, List.getElem?_eq_getElem hi, e⟩
/-- the loop of update, over the list's iterator -/
theorem fill_ints {l : Addr} {items : Array Value} {ns : List Int} (hh : A.handled = none) (hl : s.heap.IsList l items) (hit : IntsAre items.toList ns) (hb : ns.length + 1 < scanBound) {R : Result → Shared → Prop}
    (hR : ∀ s', Filled w s s.heap.objs.size ns s' → R (.ok (.ret .none)) s') :
    codeAny (model P w) A (.builtin "set.update.loop" ⟨[.ref s.heap.objs.size, .ref (s.heap.objs.size + 1)], []⟩) R { s with heap := (s.heap.push (S0 w)).push { cls := .type "list_iterator", data := .fields #[.ref l, .int 0 0] } } := by
  have hz : items.size = ns.length := by rw [← IntsAre.length hit, Array.length_toList]
  obtain ⟨ol, hol, _⟩ := id hl
  have lt := Heap.lt_size hol
  have z1 : (s.heap.push (S0 w)).objs.size = s.heap.objs.size + 1 := Heap.size_push ..
  have ne : l ≠ s.heap.objs.size + 1 := Nat.ne_of_lt (Nat.lt_succ_of_lt lt)
  have nf : s.heap.objs.size ∉ [s.heap.objs.size + 1, l] := by
    simp only [List.mem_cons, List.not_mem_nil, or_false, not_or]
    exact ⟨Nat.ne_of_lt (Nat.lt_succ_self _), Nat.ne_of_gt lt⟩
  have l1 : (s.heap.push (S0 w)).IsList l items := hl.push _
  have h0 : ((s.heap.push (S0 w)).push { cls := .type "list_iterator", data := .fields #[.ref l, .int 0 0] }).get? s.heap.objs.size = some (S0 w) := Heap.get?_push_of_some _ (Heap.get?_push_size _ rfl)
  have hI : ((s.heap.push (S0 w)).push { cls := .type "list_iterator", data := .fields #[.ref l, .int 0 0] }).get? (s.heap.objs.size + 1) = some { cls := .type "list_iterator", data := .fields #[.ref l, .int 0 0] } := by
    rw [← z1]
    (exact Heap.get?_push_size _ rfl)
  refine set_update_ints ((Walks.list (by simp [hh]) (s.heap.objs.size + 1) l ne items).toS) s.heap.objs.size nf ns hz hb (fun i v hv => ints_here hit hv) items.size 0 _ (Nat.sub_zero _) (Nat.zero_le _) ⟨⟨_, hI, rfl, rfl⟩, l1.push _⟩ ⟨0, Nat.le_refl 0, setR_new_at h0⟩ fun s' c hm hc hS => ?_
  obtain ⟨h', g, d, tk, os⟩ := s'
  obtain rfl : g = s.gens := hm.gens
  obtain rfl : d = s.drawn := hm.drawn
  obtain rfl : os = s.os := hm.os
  refine hR _ ⟨h', tk, c, rfl, hS, hz ▸ hc, fun b o e => ?_⟩
  have hlt := Heap.lt_size e
  exact hm.heap b o (by simp only [List.mem_cons, List.not_mem_nil, or_false, not_or]; exact ⟨Nat.ne_of_lt hlt, Nat.ne_of_lt (Nat.lt_succ_of_lt hlt)⟩) (Heap.get?_push_of_some _ (Heap.get?_push_of_some _ e))
/-- set(xs), xs a list of ints -/
theorem set_list {l : Addr} {items : Array Value} {ns : List Int} {Q : Value → Shared → Prop} (hh : A.handled = none) (hl : s.heap.IsList l items) (hit : IntsAre items.toList ns) (hb : ns.length + 1 < scanBound)
    (h : ∀ s', Filled w s s.heap.objs.size ns s' → Q (.ref s.heap.objs.size) s') : wpAny (model P w) A (call (.type "set") [.ref l]) Q E s := by
  refine TDC.set_of (Z := Filled w s s.heap.objs.size ns) (codeAny_builtin F.entry_set_init ?_) h
  rw [Around.under_plainId F.called_set.init.plain _]
  obtain ⟨⟨_, _, _, _⟩, hol, hc, nl, hd⟩ := id hl
  cases hc
  cases hd
  have g := Heap.get?_push_of_some (S0 w) hol
  have q1 := F.sub_list_set; have q2 := F.sub_list_frozenset; have q3 : (Value.type "list" == Value.type "dict") = false := by decide
  (unfold Builtin.«set.__init__» noKeywords Builtin.Frozenset.updateFrom)
  generalize e : pyIter = it
  wp_walk
  subst e
  refine wpAny_pyIter_list (hl.push _) (wpAny_bind (wpAny_runValue ?_))
  have z1 : (s.heap.push (S0 w)).objs.size = s.heap.objs.size + 1 := Heap.size_push ..
  rw [z1]
  exact fill_ints (A := A.in1.in1) hh hl hit hb fun s' hF => wpAny_pure (show wpAny _ _ (ret Value.none) _ _ _ from wpAny_pure ⟨rfl, hF⟩)
end
end TD
set_option Elab.async false
set_option linter.all false
set_option maxRecDepth 100000
set_option maxHeartbeats 4000100
namespace TD
open PySem L2 PySem.Spec PyProof.Rows
open Evl (Ex ex_l ex_t fresh_back sq_of st_of sz_of sz_lt)
def SetIO (w : World) (a : Addr) (ns : List Int) (c : Nat) : HO := .ext fun h => SetR w h a (fun j => decide (j ∈ ns)) c
section
variable {X : Cx}
def rSetOfI (K : PySem.W.Frag) (w : World) : List V → Hp → VK → Prop := fun vs H Q => ∃ (l : Addr) (ns : List Int), vs = [V.ref l] ∧ SqL K H l (ns.map V.int) ∧ ns.length < 60 ∧ ∀ a c, H a = none → c ≤ ns.length → Q (.ref a) (upd H a (SetIO w a ns c))
theorem cr_setOfI (hc : X.calm = true) {K : PySem.W.Frag} {w : World} (hK : X.K = K := by rfl) (hw : X.w = w := by rfl) : CallR X (.type "set") (rSetOfI K w) := by
  subst hK hw
  rintro pins s σ H vs us Q I r ⟨l, ns, rfl, hl, few, q⟩
  rw [Vals.ref1 r]
  (obtain ⟨its, rv, pl, _⟩ := I.list hl)
  refine set_list (I.ok.hd hc) pl.isList (by simpa using rv.ints) (by unfold scanBound; omega) fun s' hF => ?_
  obtain ⟨h', tk, c, rfl, hS, hle, old⟩ := hF
  (have hn : H s.heap.objs.size = none := I.hok.fresh (Nat.le_refl _))
  refine ⟨.ref s.heap.objs.size, upd H s.heap.objs.size (SetIO X.w s.heap.objs.size ns c), I.laid (t' := tk) old (Nat.le_refl _) ⟨hS, ?_, fun h1 h2 z k => z.at k⟩, rfl, q _ c hn hle⟩
  obtain ⟨o, _, _, _, ho, _⟩ := hS
  exact ⟨o, ho⟩
def rSortedSI (w : World) : List V → Hp → VK → Prop := fun vs H Q => ∃ (a : Addr) (ns : List Int) (c : Nat), vs = [V.ref a] ∧ H a = some (SetIO w a ns c) ∧ c < 64 ∧ ∀ (ms : List Int) (p : Addr), ms.Pairwise (· < ·) → (∀ k, k ∈ ms ↔ k ∈ ns) → H p = none → Q (.ref p) (upd H p (.lst (ms.map V.int)))
theorem cr_sortedSI (hc : X.calm = true) {w : World} (hw : X.w = w := by rfl) : CallR X (.builtin "sorted") (rSortedSI w) := by
  subst hw
  rintro pins s σ H vs us Q I r ⟨a, ns, c, rfl, ha, few, q⟩
  rw [Vals.ref1 r]
  have R : SetR X.w s.heap a (fun j => decide (j ∈ ns)) c := (I.hok a _ ha).1
  refine sorted_set (P := X.prog) R (I.ok.hd hc) few fun s' p out e ms old eg eo free at_ are up mem len => ?_
  have hn : H p = none := I.hok.fresh free
  rw [TDS.shared_eq eo]
  have J : Inv X pins σ (upd H p (.lst (ms.map V.int))) { s with heap := s'.heap, gens := s'.gens, drawn := s'.drawn, toks := s'.toks } := I.call (ch := []) (Un.laid old free hn) (I.hok.laid old free ⟨by rw [List.length_map, len, sizeLine_eq]; omega, out.toList, e, vals_of_ints are, by simpa using at_⟩) (by rw [eg]; exact I.bare) fun _ z => nomatch z
  exact ⟨.ref p, _, J, rfl, q ms p up (fun k => by rw [mem k, decide_eq_true_eq]) hn⟩
end
/-- the members, ascending, once each -/
def onceI : List Int → List Int
  | [] => []
  | x :: xs => if x ∈ onceI xs then onceI xs else x :: onceI xs
theorem onceI_mem {x : Int} : ∀ {xs : List Int}, x ∈ onceI xs ↔ x ∈ xs
  | [] => Iff.rfl
  | y :: xs => by
    unfold onceI
    split
    · rename_i h
      rw [onceI_mem, List.mem_cons]
      exact ⟨.inr, fun z => z.elim (fun e => e ▸ onceI_mem.mp h) id⟩
    · rw [List.mem_cons, List.mem_cons, onceI_mem]
theorem onceI_nd : ∀ xs : List Int, (onceI xs).Nodup
  | [] => List.nodup_nil
  | y :: xs => by
    unfold onceI
    split
    · exact onceI_nd xs
    · rename_i h
      exact List.nodup_cons.mpr ⟨h, onceI_nd xs⟩
def ordI (xs : List Int) : List Int := (onceI xs).mergeSort fun a b => decide (a ≤ b)
theorem ordI_perm (xs : List Int) : (ordI xs).Perm (onceI xs) := List.mergeSort_perm _ _
theorem ordI_mem {xs : List Int} {x : Int} : x ∈ ordI xs ↔ x ∈ xs := by rw [(ordI_perm xs).mem_iff, onceI_mem]
theorem ordI_nd (xs : List Int) : (ordI xs).Nodup := (ordI_perm xs).nodup_iff.mpr (onceI_nd xs)
theorem ordI_up (xs : List Int) : (ordI xs).Pairwise (· ≤ ·) := by
  refine (List.pairwise_mergeSort (le := fun a b : Int => decide (a ≤ b)) (fun a b c h1 h2 => ?_) (fun a b => ?_) (onceI xs)).imp fun h => of_decide_eq_true h
  · have h1 := of_decide_eq_true h1
    have h2 := of_decide_eq_true h2
    (exact decide_eq_true (by omega))
  · rw [Bool.or_eq_true, decide_eq_true_eq, decide_eq_true_eq]
    omega
theorem ordI_uniq {xs ms : List Int} (h1 : ms.Pairwise (· < ·)) (h2 : ∀ k, k ∈ ms ↔ k ∈ xs) : ms = ordI xs := by
  have nd : ms.Nodup := h1.imp fun h => Int.ne_of_lt h
  refine List.Perm.eq_of_pairwise (le := (· ≤ ·)) (fun x y _ _ a b => by omega) (h1.imp fun h => Int.le_of_lt h) (ordI_up xs) ((List.perm_ext_iff_of_nodup nd (ordI_nd xs)).mpr fun x => ?_)
  rw [h2, ordI_mem]
section
variable [TabW] {K : PySem.W.Frag} {P : Program} {w : World} {ρ : Rho} {β β1 β2 : Bag} {te : TE}
theorem d_sortSI {ns : List Int} (h : EvB K te ρ β (.list (ns.map .int)) β1) (hl : ns.length < 60) : EvB K (tCB (rSortedSI w) (tCons (tCB (rSetOfI K w) (tCons te tNil)) tNil)) ρ β (.list ((ordI ns).map .int)) β1 := by
  refine ⟨h.som, fun b G H σ Q E k => ?_⟩
  refine h.run b G H σ _ E fun v G1 H1 s1 k1 d1 => ?_
  cases d1 with
  | @lst a xs _ hs hd =>
    have := hd.ints
    subst this
    refine ⟨a, ns, rfl, sq_of (s1.s _ _ hs), hl, fun p c hp hc => ?_⟩
    have n1 := Step.new (b := b) (m := false) (o := SetIO w p ns c) s1.s hp (by intro _ z; cases z)
    refine ⟨p, ns, c, rfl, upd_same, by omega, fun ms q up mem hq => ?_⟩
    obtain rfl := ordI_uniq up mem
    have n2 := Step.new (b := b) (m := false) (o := .lst ((ordI ns).map V.int)) n1.s hq
    exact k (.ref q) _ _ (s1.trans (n1.trans n2).up) (k1.same (n1.trans n2)) (.lst upd_same (DenL.of_ints _))
end
end TD
set_option Elab.async false
set_option linter.all false
set_option maxRecDepth 100000
set_option maxHeartbeats 4000100
namespace TD
open PySem L2 PySem.Spec PyProof.Rows
open Evl (Ex ex_l ex_t fresh_back sq_of st_of sz_of sz_lt)
/-- t[lo:hi], the whole of it: t itself -/
theorem getItem_whole {prog : Program} {w : World} {A : Around} {E : Value → Shared → Prop} {s : Shared} {t sl : Addr} {items : Array Value} {vl vu : Value} {lo hi : Option Int} {Q : Value → Shared → Prop} (ht : IsTup s.heap t items) (hs : s.heap.IsSliceOf sl vl vu .none) (pl : IsPart vl lo) (pu : IsPart vu hi)
    (hw : HT.sIx items.size 0 lo = 0 ∧ HT.sIx items.size items.size hi = items.size) (h : Q (.ref t) s) : wpAny (model prog w) A (getItem (.ref t) (.ref sl)) Q E s := by
  obtain ⟨w1, w2⟩ := hw
  have hTs : s.TypeIs (.ref sl) "slice" := let ⟨os, hos, hcs, _⟩ := id hs; ⟨os, hos, hcs⟩
  unfold getItem
  (try with_reducible refine wpAny_holding ?_)
  (first | refine wpAny_bind (wpAny_pure ?_) | skip)
  refine wpAny_bind (wpAny_sequenceKey ht.typeIs (by decide) (wpAny_bind (wpAny_callSpecial?_slot (name := Str.ofString "__getitem__") ht.typeIs PyProof.Rows.slot_tuple_getitem (wpAny_call_entry PyProof.Rows.slot_tuple_getitem ht.typeIs entry_tuple_getitem ?_ (args_tuple_getitem _ _)))))
  (show wpAny _ _ (Builtin.Tuple.tupleItemsOf (.ref t) >>= _) _ _ s)
  refine wpAny_bind (PyProof.Rows.tupleItemsOf_ ht (wpAny_bind (wpAny_typeOf hTs ?_)))
  rw [if_pos (by decide)]
  refine wpAny_bind (HT.sliceApplied_gen hs pl pu ?_)
  have yes : ((((HT.sIx items.size 0 lo : Nat) : Int) == 0 && (1 : Int) == 1 && (HT.sIx items.size items.size hi - HT.sIx items.size 0 lo) == items.size) = true) := by rw [w1, w2]; simp
  show wpAny _ _ (if (((HT.sIx items.size 0 lo : Nat) : Int) == 0 && (1 : Int) == 1 && (HT.sIx items.size items.size hi - HT.sIx items.size 0 lo) == items.size) = true then _ else _) _ _ s
  rw [if_pos yes]
  have ex : ∀ {R : Bool → Shared → Prop} {E : Value → Shared → Prop} {A : Around}, R true s → wpAny (model prog w) A (Builtin.Tuple.tupleIsExact (.ref t)) R E s := fun {R E A} h => wpAny_bind (wpAny_typeOf ht.typeIs (wpAny_pure h))
  refine wpAny_bind (ex ?_)
  rw [if_pos rfl]
  exact wpAny_bind (wpAny_rule (wpAny_pure ⟨_, rfl, wpAny_pure h⟩))
section
variable {X : Cx}
def rSlTa (K : PySem.W.Frag) : V → Option Int → Option Int → Hp → VK → Prop := fun x lo hi H Q => rSlT K x lo hi H Q ∨ ∃ a xs, x = .ref a ∧ SqT K H a xs ∧ (HT.sIx xs.length 0 lo = 0 ∧ HT.sIx xs.length xs.length hi = xs.length) ∧ Q (.ref a) H
theorem sl_tupA {K : PySem.W.Frag} (hK : X.K = K := by rfl) : SlR X (rSlTa K) := by
  subst hK
  refine SlR.or sl_tup ?_
  rintro pins s σ H x v vl vu lo hi sl Q I rx hs pl pu ⟨a, xs, rfl, hx, hw, q⟩
  cases rx
  (obtain ⟨its, r, ht, hz⟩ := I.tuple hx)
  (have hlen : its.toArray.size = xs.length := by rw [List.size_toArray]; exact r.length.symm)
  exact ⟨"tuple", _, PyProof.Rows.slot_tuple_getitem.lookup, ht.typeIs, getItem_whole ht hs pl pu (by rw [hlen]; exact hw) ⟨.ref a, H, I, rfl, q⟩⟩
end
section
variable [TabW] {K : PySem.W.Frag} {P : Program} {w : World} {ρ : Rho} {β β1 β2 β3 : Bag} {te tk : TE} {i : Nat} {ds : List Dt} {x : Dt} {tl th : TO} {lo hi : Option Int}
theorem cutD_whole {ds : List Dt} (h : HT.sIx ds.length 0 lo = 0 ∧ HT.sIx ds.length ds.length hi = ds.length) : cutD ds lo hi = ds := by
  unfold cutD
  rw [h.1, h.2, List.drop_zero, Nat.sub_zero, List.take_length]
/-- a slice of a tuple -/
theorem d_slTa (ha : EvB K te ρ β (.tuple ds) β1) (h1 : EvO K tl ρ β1 lo β2) (h2 : EvO K th ρ β2 hi β3) : EvB K (tSl (rSlTa K) te tl th) ρ β (.tuple (cutD ds lo hi)) β3 := by
  refine ⟨h2.1.trans (h1.1.trans ha.som), fun b G H σ Q E k => ha.run b G H σ _ E fun v G1 H1 s1 k1 d1 => ?_⟩
  have E1 := E.step s1 k1
  refine h1.2 b G1 H1 σ _ E1 fun G2 H2 s2 k2 => h2.2 b G2 H2 σ _ (E1.step s2 k2) fun G3 H3 s3 k3 => ?_
  rw [h1.1, ha.som] at s3
  rw [ha.som] at s2
  have d3 := (d1.mono s2.g).mono s3.g
  have s13 := (s1.trans s2).trans s3
  have d3' := d3
  cases d3 with
  | @tup a xs _ hs hd =>
    have hq := ex_t s3.s (st_of (K := K) hs)
    by_cases hf : HT.sIx ds.length 0 lo = 0 ∧ HT.sIx ds.length ds.length hi = ds.length
    · rw [cutD_whole hf] at k
      exact .inr ⟨a, xs, rfl, hq, by rw [hd.length]; exact hf, k (.ref a) G3 H3 s13 k3 d3'⟩
    · refine .inl ⟨a, xs, rfl, hq, by rw [hd.length]; exact hf, fun p hp => ?_⟩
      have n := Step.new (b := b) (m := false) (o := .tup (cutV xs lo hi)) s3.s hp
      exact k (.ref p) _ _ (s13.trans n.up) (k3.same n) (.tup upd_same ((den_cut hd).mono n.g))
end
theorem cut_take {ds : List Dt} {k : Int} (h : 0 ≤ k) : cutD ds none (some k) = ds.take k.toNat := by
  unfold cutD HT.sIx
  simp only [if_neg (show ¬ k < 0 by omega)]
  rw [List.drop_zero, Nat.sub_zero, List.take_eq_take_iff]
  omega
theorem cut_drop {ds : List Dt} {k : Nat} : cutD ds (some ((k : Nat) : Int)) none = ds.drop k := by
  unfold cutD HT.sIx
  simp only [if_neg (show ¬ ((k : Nat) : Int) < 0 by omega), Int.toNat_natCast]
  by_cases h : k ≤ ds.length
  · rw [Nat.min_eq_left h]
    (exact List.take_of_length_le (by rw [List.length_drop]; omega))
  · rw [Nat.min_eq_right (by omega), List.drop_of_length_le (Nat.le_refl _), List.drop_of_length_le (by omega), List.take_nil]
end TD
set_option Elab.async false
set_option linter.all false
set_option maxRecDepth 100000
namespace Num
open PySem
/-- a tuple of at most 140 numbers -/
def okNums (p : Int) : Dt → Bool
  | .tuple ds => decide (ds.length ≤ 140) && allFit p (ds.length : Int) (.tuple ds)
  | _ => false
/-- .. not all 0 -/
def okTup (p : Int) : Dt → Bool
  | .tuple ds => decide (ds.length ≤ 140) && allFit p (ds.length : Int) (.tuple ds) && (ds.map toI).any (· != 0)
  | _ => false
theorem okNums_of {p : Int} {ns : List Int} (hl : ns.length ≤ 140) (h : ∀ m ∈ ns, (-big < m ∧ m < big) ∧ (p = 0 ∨ (0 ≤ m ∧ m < p))) : okNums p (.tuple (ns.map PyData.int)) = true :=
  Bool.and_eq_true_iff.mpr ⟨decide_eq_true (by simpa using hl), allFit_of (by simp) h⟩
theorem okTup_of {p : Int} {ns : List Int} (hl : ns.length ≤ 140) (h : ∀ m ∈ ns, (-big < m ∧ m < big) ∧ (p = 0 ∨ (0 ≤ m ∧ m < p))) (hx : ∃ n ∈ ns, n ≠ 0) : okTup p (.tuple (ns.map PyData.int)) = true := by
  refine Bool.and_eq_true_iff.mpr ⟨okNums_of hl h, ?_⟩
  rw [map_toI]
  exact any_ex.mpr hx
theorem madeOk_tup {p : Int} {ns : List Int} (hp : PrimeI p) (hl : ns.length ≤ 140) (h : ∀ m ∈ ns, (-big < m ∧ m < big) ∧ (p = 0 ∨ (0 ≤ m ∧ m < p))) (hx : ∃ n ∈ ns, n ≠ 0) : MadeOk p ns := by
  refine ⟨hp, hx, fun h0 n hn => ?_, hl, fun n hn => up1000 (big_lt (h n hn).1)⟩
  rcases (h n hn).2 with h | h
  · exact absurd h h0
  · exact h
end Num
namespace Num
open PySem
end Num
namespace Num
open PySem
end Num
namespace Num
open PySem
end Num
set_option Elab.async false
set_option linter.all false
set_option maxRecDepth 100000
namespace Num
open PySem
/-- numbers as they are drawn and passed -/
structure NumsOk (p : Int) (ns : List Int) : Prop where
  pr : PrimeI p
  len : ns.length ≤ 140
  rng : ∀ m ∈ ns, (-big < m ∧ m < big) ∧ (p = 0 ∨ (0 ≤ m ∧ m < p))
  ex : ∃ n ∈ ns, n ≠ 0
theorem NumsOk.made {p : Int} {ns : List Int} (h : NumsOk p ns) : MadeOk p ns := madeOk_tup h.pr h.len h.rng h.ex
theorem NumsOk.tup {p : Int} {ns : List Int} (h : NumsOk p ns) : okTup p (.tuple (ns.map PyData.int)) = true := okTup_of h.len h.rng h.ex
end Num
set_option Elab.async false
set_option linter.all false
set_option maxRecDepth 100000
namespace Num
open PySem
/-- equal up to the prime -/
def Cong (p a b : Int) : Prop := settled p a = settled p b
theorem cong_iff {p a b : Int} : Cong p a b ↔ ∃ q, a = b + p * q := by
  unfold Cong settled
  by_cases h0 : p = 0
  · subst h0
    simp only [ne_eq, not_true_eq_false, if_false]
    exact ⟨fun h => ⟨0, by rw [h]; simp⟩, fun ⟨q, h⟩ => by rw [h]; simp⟩
  · rw [if_pos h0, if_pos h0]
    constructor
    · intro h
      have e1 := Int.emod_add_mul_ediv a p
      have e2 := Int.emod_add_mul_ediv b p
      exact ⟨a / p - b / p, by grind⟩
    · rintro ⟨q, h⟩
      exact emod_eq_of h
theorem Cong.refl (p a : Int) : Cong p a a := rfl
theorem Cong.symm {p a b : Int} (h : Cong p a b) : Cong p b a := Eq.symm h
theorem Cong.trans {p a b c : Int} (h : Cong p a b) (h' : Cong p b c) : Cong p a c := Eq.trans h h'
theorem Cong.mul {p a b c d : Int} (h : Cong p a b) (h' : Cong p c d) : Cong p (a * c) (b * d) := by
  obtain ⟨q, rfl⟩ := cong_iff.mp h
  obtain ⟨r, rfl⟩ := cong_iff.mp h'
  exact cong_iff.mpr ⟨b * r + q * d + p * q * r, by grind⟩
theorem Cong.sub {p a b c d : Int} (h : Cong p a b) (h' : Cong p c d) : Cong p (a - c) (b - d) := by
  obtain ⟨q, rfl⟩ := cong_iff.mp h
  obtain ⟨r, rfl⟩ := cong_iff.mp h'
  exact cong_iff.mpr ⟨q - r, by grind⟩
theorem cong_settled (p a : Int) : Cong p (settled p a) a := by
  refine cong_iff.mpr ?_
  unfold settled
  by_cases h0 : p = 0
  · rw [if_neg (by simpa using h0)]
    exact ⟨0, by simp⟩
  · rw [if_pos h0]
    have e1 := Int.emod_add_mul_ediv a p
    exact ⟨-(a / p), by grind⟩
/-- a factor that can be undone -/
def UnitI (p k : Int) : Prop := settled p k ≠ 0
theorem UnitI.mul {p a b : Int} (hp : PrimeI p) (ha : UnitI p a) (hb : UnitI p b) : UnitI p (a * b) := fun z => hb (settled_mul hp ha z)
/-- the normal form depends on the residues alone -/
theorem normal_cong {p : Int} {xs ys : List Int} (h : xs.map (settled p) = ys.map (settled p)) : normalF p xs = normalF p ys := by
  unfold normalF
  rw [h]
theorem settled_zero (p : Int) : settled p 0 = 0 := by
  unfold settled
  split
  · exact Int.zero_emod p
  · rfl
theorem normal_mul {p k : Int} (hp : PrimeI p) (hk : UnitI p k) (xs : List Int) : normalF p (xs.map fun n => k * n) = normalF p xs := by
  have e : (xs.map fun n => k * n).map (settled p) = (xs.map (settled p)).map fun n => settled p (k * n) := by
    (rw [List.map_map, List.map_map])
    exact List.map_congr_left fun n _ => ((Cong.refl p k).mul (cong_settled p n)).symm
  unfold normalF
  rw [e]
  have hr : p ≠ 0 → ∀ n ∈ xs.map (settled p), 0 ≤ n ∧ n < p := fun h0 n hn => by
    obtain ⟨m, _, rfl⟩ := List.mem_map.mp hn
    exact settled_rng hp h0
  generalize xs.map (settled p) = ys at *
  cases hz : allZero ys with
  | true =>
    have hy : (ys.map fun n => settled p (k * n)) = ys := by
      conv => rhs; rw [← List.map_id ys]
      refine List.map_congr_left fun n hn => ?_
      have h0 : n = 0 := of_decide_eq_true ((List.all_eq_true.mp hz) n hn)
      subst h0
      rw [Int.mul_zero, settled_zero]
      rfl
    rw [hy, hz]
  | false =>
    have hx := allZero_ex hz
    have hz2 : allZero (ys.map fun n => settled p (k * n)) = false := by
      cases q : allZero (ys.map fun n => settled p (k * n)) with
      | false => rfl
      | true =>
        obtain ⟨n, hn, h0⟩ := hx
        have h1 := of_decide_eq_true ((List.all_eq_true.mp q) _ (List.mem_map_of_mem hn))
        have h2 := settled_mul hp hk h1
        refine absurd ?_ h0
        by_cases hp0 : p = 0
        · subst hp0
          exact h2
        · have := hr hp0 n hn
          unfold settled at h2
          rw [if_pos hp0, Int.emod_eq_of_lt this.1 this.2] at h2
          exact h2
    rw [hz2, if_neg (by decide), if_neg (by decide)]
    exact made_low hp hk hr hx
end Num
set_option Elab.async false
set_option linter.all false
set_option maxRecDepth 100000
namespace Num
open PySem
end Num
set_option Elab.async false
set_option linter.all false
set_option maxRecDepth 100000
namespace Num
open PySem
end Num
set_option Elab.async false
set_option linter.all false
set_option maxRecDepth 100000
namespace Num
open PySem
def mixP {α : Type} (z : α) : Nat → List α → List Int → List α × List Int
  | 0, _, ns => ([], ns)
  | k + 1, xs, ns => (xs.getD (grabF xs.length ns).1.toNat z :: (mixP z k (xs.eraseIdx (grabF xs.length ns).1.toNat) (grabF xs.length ns).2).1, (mixP z k (xs.eraseIdx (grabF xs.length ns).1.toNat) (grabF xs.length ns).2).2)
theorem grab_in {α : Type} {xs : List α} (h : 0 < xs.length) (ns : List Int) : (grabF (xs.length : Int) ns).1.toNat < xs.length := by
  have := grab_rng (t := (xs.length : Int)) (by omega) ns
  omega
theorem erase_map {α γ : Type} (g : α → γ) : ∀ (xs : List α) (i : Nat), (xs.map g).eraseIdx i = (xs.eraseIdx i).map g
  | [], _ => rfl
  | _ :: _, 0 => rfl
  | x :: xs, i + 1 => congrArg (g x :: ·) (erase_map g xs i)
theorem mixF_map {α : Type} (z : α) (g : α → Dt) : ∀ (k : Nat) (xs : List α) (ns : List Int), k ≤ xs.length → TD.mixF grabF k (xs.map g) ns = ((mixP z k xs ns).1.map g, (mixP z k xs ns).2)
  | 0, _, _, _ => rfl
  | k + 1, xs, ns, hk => by
    have hi := grab_in (xs := xs) (by omega) ns
    unfold TD.mixF mixP
    rw [List.length_map, erase_map]
    have ih := mixF_map z g k (xs.eraseIdx (grabF (xs.length : Int) ns).1.toNat) (grabF (xs.length : Int) ns).2 (by rw [List.length_eraseIdx_of_lt hi]; omega)
    rw [ih]
    dsimp only
    rw [List.map_cons, List.getD_eq_getElem?_getD, List.getElem?_map, List.getElem?_eq_getElem hi, List.getD_eq_getElem?_getD, List.getElem?_eq_getElem hi]
    rfl
theorem back_perm {α : Type} : ∀ {xs : List α} {i : Nat} (h : i < xs.length), (xs[i] :: xs.eraseIdx i).Perm xs
  | [], _, h => (absurd h (Nat.not_lt_zero _))
  | _ :: _, 0, _ => List.Perm.refl _
  | x :: xs, i + 1, h => (List.Perm.swap x (xs[i]'(Nat.lt_of_succ_lt_succ h)) (xs.eraseIdx i)).trans ((back_perm (xs := xs) (i := i) (Nat.lt_of_succ_lt_succ h)).cons x)
theorem mixP_perm {α : Type} (z : α) : ∀ (k : Nat) (xs : List α) (ns : List Int), k = xs.length → (mixP z k xs ns).1.Perm xs
  | 0, xs, _, h => by
    have : xs = [] := List.length_eq_zero_iff.mp h.symm
    subst this
    exact .nil
  | k + 1, xs, ns, h => by
    have hi := grab_in (xs := xs) (by omega) ns
    have ih := mixP_perm z k (xs.eraseIdx (grabF (xs.length : Int) ns).1.toNat) (grabF (xs.length : Int) ns).2 (by rw [List.length_eraseIdx_of_lt hi]; omega)
    unfold mixP
    dsimp only
    (rw [List.getD_eq_getElem?_getD, List.getElem?_eq_getElem hi])
    exact (ih.cons _).trans (back_perm hi)
end Num
set_option Elab.async false
set_option linter.all false
set_option maxRecDepth 100000
set_option maxHeartbeats 3300000
namespace TD
open PySem L2 PySem.Spec PyProof.Rows
open Evl (Ex ex_l ex_t fresh_back sq_of st_of sz_of sz_lt)
end TD
set_option linter.all false
namespace Det
def skip (i r : Nat) : Nat := if r < i then r else r + 1
abbrev Mat := Nat → Nat → Int
def tr (A : Mat) : Mat := fun i j => A j i
def setRow (A : Mat) (r : Nat) (u : Nat → Int) : Mat := fun i j => if i = r then u j else A i j
def swap (A : Mat) (a b : Nat) : Mat := fun i j => A (if i = a then b else if i = b then a else i) j
theorem set_comm {A : Mat} {a b : Nat} (h : a ≠ b) (u v : Nat → Int) : setRow (setRow A a u) b v = setRow (setRow A b v) a u := by
  funext i j
  unfold setRow
  by_cases h1 : i = b
  · rw [if_pos h1, if_neg (fun z => h (z.symm.trans h1)), if_pos h1]
  · rw [if_neg h1]
    by_cases h2 : i = a
    · rw [if_pos h2, if_pos h2]
    · rw [if_neg h2, if_neg h2, if_neg h1]
theorem set_set (A : Mat) (a : Nat) (u v : Nat → Int) : setRow (setRow A a u) a v = setRow A a v := by
  funext i j
  unfold setRow
  by_cases h : i = a
  · rw [if_pos h, if_pos h]
  · rw [if_neg h, if_neg h, if_neg h]
end Det
set_option linter.all false
namespace Det
open Num (settled)
end Det
set_option Elab.async false
set_option linter.all false
set_option maxRecDepth 100000
namespace Num
open PySem
def adj2 (a b c d : Int) : List Int := [d, -b, -c, a]
structure Und2 (p a b c d w x y z k : Int) : Prop where
  u : UnitI p k
  h1 : Cong p (k * w) d
  h2 : Cong p (k * x) (-b)
  h3 : Cong p (k * y) (-c)
  h4 : Cong p (k * z) a
/-- undone twice -/
theorem Und2.again {p a b c d w x y z k : Int} (hp : PrimeI p) (h : Und2 p a b c d w x y z k) : normalF p (adj2 w x y z) = normalF p [a, b, c, d] := by
  rw [← normal_mul hp h.u (adj2 w x y z)]
  refine normal_cong ?_
  have hn : ∀ {s t : Int}, Cong p (k * s) (-t) → Cong p (k * -s) t := fun {s t} e => by
    have := (Cong.refl p (-1)).mul e
    rwa [show -1 * (k * s) = k * -s by grind, show -1 * -t = t by omega] at this
  show [settled p (k * z), settled p (k * -x), settled p (k * -y), settled p (k * w)] = [settled p a, settled p b, settled p c, settled p d]
  rw [show settled p (k * z) = settled p a from h.h4, show settled p (k * -x) = settled p b from hn h.h2, show settled p (k * -y) = settled p c from hn h.h3, show settled p (k * w) = settled p d from h.h1]
def adj3 (a b c d e f g h i : Int) : List Int := [e * i - f * h, -(b * i - c * h), b * f - c * e, -(d * i - f * g), a * i - c * g, -(a * f - c * d), d * h - e * g, -(a * h - b * g), a * e - b * d]
def det3 (a b c d e f g h i : Int) : Int := a * (e * i - f * h) - b * (d * i - f * g) + c * (d * h - e * g)
structure Und3 (p a b c d e f g h i m0 m1 m2 m3 m4 m5 m6 m7 m8 k : Int) : Prop where
  u : UnitI p k
  h0 : Cong p (k * m0) (e * i - f * h)
  h1 : Cong p (k * m1) (-(b * i - c * h))
  h2 : Cong p (k * m2) (b * f - c * e)
  h3 : Cong p (k * m3) (-(d * i - f * g))
  h4 : Cong p (k * m4) (a * i - c * g)
  h5 : Cong p (k * m5) (-(a * f - c * d))
  h6 : Cong p (k * m6) (d * h - e * g)
  h7 : Cong p (k * m7) (-(a * h - b * g))
  h8 : Cong p (k * m8) (a * e - b * d)
/-- undone twice -/
theorem Und3.again {p a b c d e f g h i m0 m1 m2 m3 m4 m5 m6 m7 m8 k : Int} (hp : PrimeI p) (hD : UnitI p (det3 a b c d e f g h i)) (w : Und3 p a b c d e f g h i m0 m1 m2 m3 m4 m5 m6 m7 m8 k) : normalF p (adj3 m0 m1 m2 m3 m4 m5 m6 m7 m8) = normalF p [a, b, c, d, e, f, g, h, i] := by
  rw [← normal_mul hp (w.u.mul hp w.u) (adj3 m0 m1 m2 m3 m4 m5 m6 m7 m8), ← normal_mul hp hD [a, b, c, d, e, f, g, h, i]]
  refine normal_cong ?_
  have q0 : settled p (k * k * (m4 * m8 - m5 * m7)) = settled p (det3 a b c d e f g h i * a) := by
    have := (w.h4.mul w.h8).sub (w.h5.mul w.h7)
    rwa [show k * m4 * (k * m8) - k * m5 * (k * m7) = k * k * (m4 * m8 - m5 * m7) by grind, show (a * i - c * g) * (a * e - b * d) - (-(a * f - c * d)) * (-(a * h - b * g)) = det3 a b c d e f g h i * a by unfold det3; grind] at this
  have q1 : settled p (k * k * -(m1 * m8 - m2 * m7)) = settled p (det3 a b c d e f g h i * b) := by
    have := (w.h2.mul w.h7).sub (w.h1.mul w.h8)
    rwa [show k * m2 * (k * m7) - k * m1 * (k * m8) = k * k * -(m1 * m8 - m2 * m7) by grind, show (b * f - c * e) * (-(a * h - b * g)) - (-(b * i - c * h)) * (a * e - b * d) = det3 a b c d e f g h i * b by unfold det3; grind] at this
  have q2 : settled p (k * k * (m1 * m5 - m2 * m4)) = settled p (det3 a b c d e f g h i * c) := by
    have := (w.h1.mul w.h5).sub (w.h2.mul w.h4)
    rwa [show k * m1 * (k * m5) - k * m2 * (k * m4) = k * k * (m1 * m5 - m2 * m4) by grind, show (-(b * i - c * h)) * (-(a * f - c * d)) - (b * f - c * e) * (a * i - c * g) = det3 a b c d e f g h i * c by unfold det3; grind] at this
  have q3 : settled p (k * k * -(m3 * m8 - m5 * m6)) = settled p (det3 a b c d e f g h i * d) := by
    have := (w.h5.mul w.h6).sub (w.h3.mul w.h8)
    rwa [show k * m5 * (k * m6) - k * m3 * (k * m8) = k * k * -(m3 * m8 - m5 * m6) by grind, show (-(a * f - c * d)) * (d * h - e * g) - (-(d * i - f * g)) * (a * e - b * d) = det3 a b c d e f g h i * d by unfold det3; grind] at this
  have q4 : settled p (k * k * (m0 * m8 - m2 * m6)) = settled p (det3 a b c d e f g h i * e) := by
    have := (w.h0.mul w.h8).sub (w.h2.mul w.h6)
    rwa [show k * m0 * (k * m8) - k * m2 * (k * m6) = k * k * (m0 * m8 - m2 * m6) by grind, show (e * i - f * h) * (a * e - b * d) - (b * f - c * e) * (d * h - e * g) = det3 a b c d e f g h i * e by unfold det3; grind] at this
  have q5 : settled p (k * k * -(m0 * m5 - m2 * m3)) = settled p (det3 a b c d e f g h i * f) := by
    have := (w.h2.mul w.h3).sub (w.h0.mul w.h5)
    rwa [show k * m2 * (k * m3) - k * m0 * (k * m5) = k * k * -(m0 * m5 - m2 * m3) by grind, show (b * f - c * e) * (-(d * i - f * g)) - (e * i - f * h) * (-(a * f - c * d)) = det3 a b c d e f g h i * f by unfold det3; grind] at this
  have q6 : settled p (k * k * (m3 * m7 - m4 * m6)) = settled p (det3 a b c d e f g h i * g) := by
    have := (w.h3.mul w.h7).sub (w.h4.mul w.h6)
    rwa [show k * m3 * (k * m7) - k * m4 * (k * m6) = k * k * (m3 * m7 - m4 * m6) by grind, show (-(d * i - f * g)) * (-(a * h - b * g)) - (a * i - c * g) * (d * h - e * g) = det3 a b c d e f g h i * g by unfold det3; grind] at this
  have q7 : settled p (k * k * -(m0 * m7 - m1 * m6)) = settled p (det3 a b c d e f g h i * h) := by
    have := (w.h1.mul w.h6).sub (w.h0.mul w.h7)
    rwa [show k * m1 * (k * m6) - k * m0 * (k * m7) = k * k * -(m0 * m7 - m1 * m6) by grind, show (-(b * i - c * h)) * (d * h - e * g) - (e * i - f * h) * (-(a * h - b * g)) = det3 a b c d e f g h i * h by unfold det3; grind] at this
  have q8 : settled p (k * k * (m0 * m4 - m1 * m3)) = settled p (det3 a b c d e f g h i * i) := by
    have := (w.h0.mul w.h4).sub (w.h1.mul w.h3)
    rwa [show k * m0 * (k * m4) - k * m1 * (k * m3) = k * k * (m0 * m4 - m1 * m3) by grind, show (e * i - f * h) * (a * i - c * g) - (-(b * i - c * h)) * (-(d * i - f * g)) = det3 a b c d e f g h i * i by unfold det3; grind] at this
  show [settled p (k * k * (m4 * m8 - m5 * m7)), settled p (k * k * (-(m1 * m8 - m2 * m7))), settled p (k * k * (m1 * m5 - m2 * m4)), settled p (k * k * (-(m3 * m8 - m5 * m6))), settled p (k * k * (m0 * m8 - m2 * m6)), settled p (k * k * (-(m0 * m5 - m2 * m3))), settled p (k * k * (m3 * m7 - m4 * m6)), settled p (k * k * (-(m0 * m7 - m1 * m6))), settled p (k * k * (m0 * m4 - m1 * m3))] = [settled p (det3 a b c d e f g h i * a), settled p (det3 a b c d e f g h i * b), settled p (det3 a b c d e f g h i * c), settled p (det3 a b c d e f g h i * d), settled p (det3 a b c d e f g h i * e), settled p (det3 a b c d e f g h i * f), settled p (det3 a b c d e f g h i * g), settled p (det3 a b c d e f g h i * h), settled p (det3 a b c d e f g h i * i)]
  rw [q0, q1, q2, q3, q4, q5, q6, q7, q8]
end Num
set_option linter.all false
namespace Det
end Det
set_option Elab.async false
set_option linter.all false
set_option maxRecDepth 100000
namespace Num
open PySem Det
theorem mixP_bag {α : Type} (z : α) : ∀ (k : Nat) (xs : List α) (ns : List Int), k ≤ xs.length → (∃ n, BagI n ns) → ∃ n, BagI n (mixP z k xs ns).2
  | 0, _, _, _, h => h
  | k + 1, xs, ns, hk, ⟨n, hn⟩ => by
    have h0 : 0 < (xs.length : Int) := by omega
    have hg := grab_rng h0 ns
    refine mixP_bag z k (xs.eraseIdx (grabF (xs.length : Int) ns).1.toNat) (grabF (xs.length : Int) ns).2 ?_ ⟨n + 1, grab_bag h0 hn⟩
    rw [List.length_eraseIdx_of_lt (by omega)]
    omega
end Num
set_option Elab.async false
set_option linter.all false
set_option maxRecDepth 100000
set_option maxHeartbeats 3000400
namespace TDS
open TS L2 PySem PySem.Spec PyProof.Rows
section
variable {P : Program} {w : World} {A : Around} {s : Shared} {E : Value → Shared → Prop}
theorem sorted_tupI {a : Addr} {vs : List Value} {ns : List Int} {Q : Value → Shared → Prop} (tup : s.heap.IsTuple a vs.toArray) (hi : IntsAre vs ns) (few : vs.length < 64)
    (k : ∀ (h1 g : Heap) (out : Array Value) (ms : List Int) (c : Nat), (∀ b o, s.heap.get? b = some o → h1.get? b = some o) → (∀ b o, h1.get? b = some o → g.get? b = some o) → g.get? h1.objs.size = some (seqObj "list" out c) → IntsAre out.toList ms → ms.Perm ns → ms.Pairwise (· ≤ ·) → Q (.ref h1.objs.size) { s with heap := g }) : wpAny (model P w) A (call (.builtin "sorted") [.ref a]) Q E s := by
  obtain ⟨o, at_, cls, n, data⟩ := tup
  have size : vs.toArray.size ≤ sizeLine := by rw [List.size_toArray, sizeLine_eq]; omega
  have sorts : ∀ {s' : Shared} {b : Addr} {m : Nat} {R : Value → Shared → Prop}, s'.heap.get? b = some (seqObj "list" vs.toArray m) → (∀ (out : Array Value) (ms : List Int), IntsAre out.toList ms → ms.Perm ns → ms.Pairwise (· ≤ ·) → R .none { s' with heap := sortedHeap s'.heap b vs out }) → wpAny (model P w) A.in1 (call (.builtin "list.sort") [.ref b]) R E s' := fun {s' b m R} lies r =>
    wpAny_call_entry slot_list_sort ⟨_, lies, rfl⟩ entry_list_sort (list_sort_tree lies hi few fun out ms a1 a2 a3 => ⟨.none, rfl, r out ms a1 a2 a3⟩) (args_list_sort _)
  refine Calls.call_function_entry kind_sorted plain_sorted entry_sorted (args_sorted1 _) (show wpAny _ _ (Builtin.«sorted» _) _ _ _ from ?_)
  unfold Builtin.«sorted»
  refine wpAny_bind (m := checkCount "sorted" 1 1 _) (wpAny_pure (wpAny_bind (wpAny_collect_seq a (.inr rfl) at_ cls data (fun h1 old => ?_) size)))
  refine wpAny_bind (wpAny_newList (show wpAny _ _ _ _ _ { s with heap := h1.push (seqObj "list" vs.toArray 0) } from ?_) (by rw [← List.size_toArray]; exact size))
  have lies : (h1.push (seqObj "list" vs.toArray 0)).get? h1.objs.size = some (seqObj "list" vs.toArray 0) := Heap.get?_push_size _ rfl
  refine wpAny_bind (wpAny_holding (sorts (s' := { s with heap := h1.push (seqObj "list" vs.toArray 0) }) lies fun out ms r perm up => wpAny_pure ⟨_, rfl, ?_⟩))
  obtain ⟨c, laid⟩ := sortedHeap_at (vs := vs) (out := out) lies
  refine k h1 _ out ms c old (fun b u e => ?_) laid r perm up
  have lt := Heap.lt_size e
  exact (sortedHeap_old (Nat.ne_of_lt lt) (by rw [size_push']; exact Nat.lt_succ_of_lt lt)).trans (Heap.get?_push_of_some _ e)
end
section
variable {X : Cx}
/-- sorted(xs), xs a tuple of fewer than 64 ints -/
def rSortTI (K : PySem.W.Frag) : List V → Hp → VK → Prop := fun vs H Q => ∃ (a : Addr) (ns : List Int), vs = [V.ref a] ∧ SqT K H a (ns.map V.int) ∧ ns.length < 64 ∧ ∀ (ms : List Int) (p : Addr), ms.Perm ns → ms.Pairwise (· ≤ ·) → H p = none → Q (.ref p) (upd H p (.lst (ms.map V.int)))
theorem cr_sortTI : CallR X (.builtin "sorted") (rSortTI X.K) := by
  rintro pins s σ H _ us Q I r ⟨a, ns, rfl, at_, few, q⟩
  obtain ⟨its, vals, tup, size⟩ := I.tuple at_
  rw [Vals.ref1 r]
  have hi := vals.ints
  refine sorted_tupI (show s.heap.IsTuple a its.toArray from tup) hi (by rw [hi.length]; exact few) fun h1 g out ms c old old2 laid r perm up => ?_
  have I1 : Inv X pins σ H { s with heap := h1 } := I.kept (t' := s.toks) old
  have J : Inv X pins σ (upd H h1.objs.size (.lst (ms.map V.int))) { s with heap := g } := I1.laid (t' := s.toks) old2 (Nat.le_refl _) ⟨by rw [List.length_map, perm.length_eq]; exact small64 few, out.toList, c, vals_of_ints r, laid⟩
  exact ⟨.ref _, _, J, rfl, q ms _ perm up (I1.hok.fresh (Nat.le_refl _))⟩
end
end TDS
namespace TD
open PySem L2 PySem.Spec PyProof.Rows
open Evl (Ex ex_l ex_t fresh_back sq_of st_of sz_of sz_lt)
/-- ints, ascending -/
def ordA (ns : List Int) : List Int := ns.mergeSort fun a b => decide (a ≤ b)
theorem ordA_perm (ns : List Int) : (ordA ns).Perm ns := List.mergeSort_perm _ _
theorem ordA_up (ns : List Int) : (ordA ns).Pairwise (· ≤ ·) :=
  (List.pairwise_mergeSort (le := fun a b : Int => decide (a ≤ b)) (fun a b c h1 h2 => decide_eq_true (Int.le_trans (of_decide_eq_true h1) (of_decide_eq_true h2))) (fun a b => by rcases Int.le_total a b with h | h <;> simp [h]) ns).imp fun h => of_decide_eq_true h
theorem ordA_uniq {ns ms : List Int} (h1 : ms.Perm ns) (h2 : ms.Pairwise (· ≤ ·)) : ms = ordA ns := List.Perm.eq_of_pairwise (le := (· ≤ ·)) (fun _ _ _ _ a b => Int.le_antisymm a b) h2 (ordA_up ns) (h1.trans (ordA_perm ns).symm)
section
variable [TabW] {K : PySem.W.Frag} {ρ : Rho} {β β1 : Bag} {te : TE} {ns : List Int}
theorem d_sortTI (h : EvB K te ρ β (.tuple (ns.map .int)) β1) (hl : ns.length < 64) : EvB K (tCB (TDS.rSortTI K) (tCons te tNil)) ρ β (.list ((ordA ns).map .int)) β1 := by
  refine d_c1 h fun b G H v Q e dv k => ?_
  cases dv with
  | @tup a xs _ hs hd =>
    obtain rfl := hd.ints
    refine ⟨a, ns, rfl, st_of (e _ _ hs), hl, fun ms p perm up hp => ?_⟩
    obtain rfl := ordA_uniq perm up
    exact k (.ref p) _ _ (Step.new (b := b) (m := false) (o := .lst ((ordA ns).map V.int)) e hp) (.lst upd_same (DenL.of_ints _))
theorem d_sortLI (h : EvB K te ρ β (.list (ns.map .int)) β1) (hl : ns.length < 64) : EvB K (tCB (rSorted K) (tCons te tNil)) ρ β (.list ((ordA ns).map .int)) β1 := by
  refine d_c1 h fun b G H v Q e dv k => ?_
  cases dv with
  | @lst a xs _ hs hd =>
    obtain rfl := hd.ints
    refine ⟨a, ns, rfl, sq_of (e _ _ hs), hl, fun ms p perm up hp => ?_⟩
    obtain rfl := ordA_uniq perm up
    exact k (.ref p) _ _ (Step.new (b := b) (m := false) (o := .lst ((ordA ns).map V.int)) e hp) (.lst upd_same (DenL.of_ints _))
end
end TD
set_option Elab.async false
set_option linter.all false
set_option maxRecDepth 100000
set_option maxHeartbeats 4000100
namespace TD
open PySem L2 PySem.Spec PyProof.Rows
open Evl (Ex ex_l ex_t fresh_back sq_of st_of sz_of sz_lt)
section
variable [TabW] {K : PySem.W.Frag} {b : Addr} {ρ ρx : Rho} {β β1 β2 β3 : Bag} {ta tb te tl : TE} {tt : TT} {x y d : Dt} {G H G1 H1 : Hp} {σ : L2.St}
abbrev pairD (q : Dt × Dt) : Dt := .tuple [q.1, q.2]
theorem d_lcLp {i j : Nat} {vs : List Nat} {ps : List (Dt × Dt)} {rs : List Dt} (hl : EvB K tl ρ β (.list (ps.map pairD)) β1) (h : LcZ K i j tt te ps (wipeR ρ vs) β1 rs β2) (hz : rs.length ≤ 100000) (hi : i ∈ vs) (hj : j ∈ vs) :
    EvB K (tLc (iList K tl) (gTup K 2 (gCons (gName i) (gCons (gName j) gNil))) tt te vs) ρ β (.list rs) β2 := by
  refine ⟨h.som.trans hl.som, fun b G H σ Q E k => ?_⟩
  refine hl.run b G H σ _ E fun v G1 H1 s1 k1 d1 => ?_
  have E1 := E.step s1 k1
  cases d1 with
  | @lst a xs _ hs hd =>
    refine ⟨a, rfl, ⟨xs, sq_of (s1.s _ _ hs)⟩, fun Dl hD => ?_⟩
    have nb := bag_ne k1 hl.som hD
    refine lc_list (K := K) (a := a) (xs := xs) (fun i' H' => LcW K b β.isSome G1 H1 Dl rs β2 (fun rest β' => LcZ K i j tt te (ps.drop i') (wipeR ρ vs) β' rest β2) H') ?_ ?_ ?_ ?_
    · exact lc_start s1.s hD k1 hl.som nb h
    · rintro i' H' _ ⟨G', β', done, rest, acc, s', _⟩
      exact sq_of (s'.s _ _ (s'.g _ _ hs))
    · rintro i' x H' hi' w'
      obtain ⟨d, hd1, hd2⟩ := hd.get hi'
      rw [List.getElem?_map] at hd1
      cases hq : ps[i']? with
      | none => rw [hq] at hd1; cases hd1
      | some q =>
        rw [hq] at hd1
        cases hd1
        have e : ps.drop i' = q :: ps.drop (i' + 1) := by
          obtain ⟨hlt, he⟩ := List.getElem?_eq_some_iff.mp hq
          rw [← he]
          exact List.drop_eq_getElem_cons hlt
        rw [e] at w'
        have hG : Ex G1 H' := by
          obtain ⟨G', β', done, rest, acc, s', _⟩ := w'
          exact s'.g.trans s'.s
        cases hd2 with
        | @tup T zs _ ht hz2 =>
          cases hz2 with
          | @cons vx _ _ _ dx hz3 =>
            cases hz3 with
            | @cons vy _ _ _ dy hz4 =>
              cases hz4
              refine ⟨T, _, rfl, st_of (hG _ _ ht), rfl, _, _, rfl, _, _, rfl, rfl, ?_⟩
              refine ⟨by rw [wipe_set hj, wipe_set hi, wipe_wipe], ?_⟩
              refine lc_turnG (ρx := ((wipeR ρ vs).set i (some (Slot.imm q.1))).set j (some (Slot.imm q.2))) hD nb hz (fun G' β' s' kb' => ?_) ?_ w'
              · exact (((E1.wipe vs).step s' kb').set (dx.mono s'.g)).set (dy.mono s'.g)
              · rintro rest β' hr
                cases hr with
                | yes a1 a2 a3 => exact ⟨_, _, _, _, rfl, a1, a2, a3⟩
    · rintro H' w'
      have hlen := hd.length
      rw [List.length_map] at hlen
      have e : ps.drop xs.length = [] := by rw [List.drop_eq_nil_iff]; omega
      rw [e] at w'
      obtain ⟨G', β', done, rest, acc, s', kb', hm', gD', hH', ha', hr', hp'⟩ := w'
      cases hp'
      exact lc_end (j := 0) (ρ := ρ) (tt := tt) (te := te) s1.s hD nb ⟨G', β2, done, [], acc, s', kb', hm', gD', hH', ha', hr', .nil _ _⟩ fun v G'' H'' s'' kb'' dv => k v G'' H'' (s1.trans s'') kb'' dv
end
end TD
set_option Elab.async false
set_option linter.all false
set_option maxRecDepth 100000
set_option maxHeartbeats 2000100
namespace TD
open PySem L2 PySem.Spec PyProof.Rows
open Evl (Ex ex_l ex_t fresh_back sq_of st_of sz_of sz_lt)
inductive ForU [TabW] (K : PySem.W.Frag) (is : List Nat) (tu : TS) : List (List Dt) → Rho → Bag → Rho → Bag → Prop
  | nil (ρ : Rho) (β : Bag) : ForU K is tu [] ρ β ρ β
  | nx {r : List Dt} {rs : List (List Dt)} {ρ ρ1 ρ2 : Rho} {β β1 β2 : Bag} : StB K tu (setR ρ is r) β (.nx ρ1) β1 → ForU K is tu rs ρ1 β1 ρ2 β2 → ForU K is tu (r :: rs) ρ β ρ2 β2
section
variable [TabW] {K : PySem.W.Frag} {ρ ρ2 : Rho} {β β1 β2 : Bag} {tl : TE} {tu : TS} {is : List Nat} {n : Nat} {rows : List (List Dt)}
theorem ForU.som (h : ForU K is tu rows ρ β ρ2 β2) : β2.isSome = β.isSome := by
  induction h with
  | nil => rfl
  | nx h _ ih => exact ih.trans h.som
theorem st_forU (hl : EvB K tl ρ β (.tuple (rows.map .tuple)) β1) (hn : is.length = n) (hr : ∀ r ∈ rows, r.length = n) (h : ForU K is tu rows ρ β1 ρ2 β2) : StB K (tFor (iTup K tl) (gTup K n (gNames is)) tu) ρ β (.nx ρ2) β2 := by
  refine ⟨h.som.trans hl.som, fun b G H σ D E k => ?_⟩
  refine hl.run b G H σ _ E fun v G1 H1 s1 k1 d1 => ?_
  cases d1 with
  | @tup a xs _ hs hd =>
    have hs := st_of (K := K) hs
    refine ⟨a, rfl, ⟨xs, ex_t s1.s hs⟩, for_tup (K := K) (a := a) (xs := xs) (fun i σ' H' => ∃ G' ρ' β', Step b β.isSome G1 H1 G' H' ∧ β'.isSome = β.isSome ∧ EnvD K b β' G' H' σ' ρ' ∧ ForU K is tu (rows.drop i) ρ' β' ρ2 β2) ?_ ?_ ?_ ?_⟩
    · exact ⟨G1, ρ, β1, Step.refl s1.s, hl.som, E.step s1 k1, h⟩
    · rintro i σ' H' _ ⟨G', ρ', β', s', _⟩
      exact ex_t s'.s (ex_t s'.g hs)
    · rintro i v σ' H' hi ⟨G', ρ', β', s', m', E', r'⟩
      obtain ⟨d, hd1, hd2⟩ := hd.get hi
      have hlt : i < rows.length := by
        have := (List.getElem?_eq_some_iff.mp hd1).1
        rwa [List.length_map] at this
      rw [List.getElem?_map, List.getElem?_eq_getElem hlt] at hd1
      have e0 : PyData.tuple rows[i] = d := Option.some.inj hd1
      subst e0
      have e : rows.drop i = rows[i] :: rows.drop (i + 1) := List.drop_eq_getElem_cons hlt
      have hlen := hr rows[i] (List.getElem_mem hlt)
      rw [e] at r'
      have hd3 := hd2.mono s'.g
      generalize rows[i] = row at *
      generalize rows.drop (i + 1) = rest at *
      cases r' with
      | nx h1 h2 =>
        cases hd3 with
        | @tup c ys _ hc hy =>
          have hc := st_of (K := K) hc
          refine ⟨c, ys, rfl, ex_t s'.s hc, by rw [hy.length]; exact hlen, ?_⟩
          refine gNames_run hy (by rw [hy.length, hlen, hn]) E' fun σ2 E2 => ?_
          refine h1.run b G' H' σ2 _ E2 fun σ3 G3 H3 s3 E3 => ?_
          rw [m'] at s3
          exact ⟨G3, _, _, s'.trans s3, h1.som.trans m', E3, h2⟩
    · rintro σ' H' ⟨G', ρ', β', s', m', E', r'⟩
      have el : xs.length = rows.length := by rw [hd.length, List.length_map]
      rw [el, List.drop_length] at r'
      cases r'
      exact k σ' G' H' (s1.trans s') E'
end
end TD
set_option Elab.async false
set_option linter.all false
set_option maxRecDepth 100000
set_option maxHeartbeats 4000100
namespace TD
open PySem L2 PySem.Spec PyProof.Rows
open Evl (Ex ex_l ex_t fresh_back sq_of st_of sz_of sz_lt)
section
variable [TabW] {K : PySem.W.Frag} {b : Addr} {ρ ρx : Rho} {β β1 β2 β3 : Bag} {ta tb te tl : TE} {tt : TT} {tu : TS} {x y d : Dt} {o : Out} {G H G1 H1 : Hp} {σ : L2.St}
theorem d_lcTp {i j : Nat} {vs : List Nat} {ps : List (Dt × Dt)} {rs : List Dt} (hl : EvB K tl ρ β (.tuple (ps.map pairD)) β1) (h : LcZ K i j tt te ps (wipeR ρ vs) β1 rs β2) (hz : rs.length ≤ 100000) (hi : i ∈ vs) (hj : j ∈ vs) :
    EvB K (tLc (iTup K tl) (gTup K 2 (gCons (gName i) (gCons (gName j) gNil))) tt te vs) ρ β (.list rs) β2 := by
  refine ⟨h.som.trans hl.som, fun b G H σ Q E k => ?_⟩
  refine hl.run b G H σ _ E fun v G1 H1 s1 k1 d1 => ?_
  have E1 := E.step s1 k1
  cases d1 with
  | @tup a xs _ hs hd =>
    refine ⟨a, rfl, ⟨xs, st_of (s1.s _ _ hs)⟩, fun Dl hD => ?_⟩
    have nb := bag_ne k1 hl.som hD
    refine lc_tup (K := K) (a := a) (xs := xs) (fun i' H' => LcW K b β.isSome G1 H1 Dl rs β2 (fun rest β' => LcZ K i j tt te (ps.drop i') (wipeR ρ vs) β' rest β2) H') ?_ ?_ ?_ ?_
    · exact lc_start s1.s hD k1 hl.som nb h
    · rintro i' H' _ ⟨G', β', done, rest, acc, s', _⟩
      exact st_of (s'.s _ _ (s'.g _ _ hs))
    · rintro i' x H' hi' w'
      obtain ⟨d, hd1, hd2⟩ := hd.get hi'
      rw [List.getElem?_map] at hd1
      cases hq : ps[i']? with
      | none => rw [hq] at hd1; cases hd1
      | some q =>
        rw [hq] at hd1
        cases hd1
        have e : ps.drop i' = q :: ps.drop (i' + 1) := by
          obtain ⟨hlt, he⟩ := List.getElem?_eq_some_iff.mp hq
          rw [← he]
          exact List.drop_eq_getElem_cons hlt
        rw [e] at w'
        have hG : Ex G1 H' := by
          obtain ⟨G', β', done, rest, acc, s', _⟩ := w'
          exact s'.g.trans s'.s
        cases hd2 with
        | @tup T zs _ ht hz2 =>
          cases hz2 with
          | @cons vx _ _ _ dx hz3 =>
            cases hz3 with
            | @cons vy _ _ _ dy hz4 =>
              cases hz4
              refine ⟨T, _, rfl, st_of (hG _ _ ht), rfl, _, _, rfl, _, _, rfl, rfl, ?_⟩
              refine ⟨by rw [wipe_set hj, wipe_set hi, wipe_wipe], ?_⟩
              refine lc_turnG (ρx := ((wipeR ρ vs).set i (some (Slot.imm q.1))).set j (some (Slot.imm q.2))) hD nb hz (fun G' β' s' kb' => ?_) ?_ w'
              · exact (((E1.wipe vs).step s' kb').set (dx.mono s'.g)).set (dy.mono s'.g)
              · rintro rest β' hr
                cases hr with
                | yes a1 a2 a3 => exact ⟨_, _, _, _, rfl, a1, a2, a3⟩
    · rintro H' w'
      have hlen := hd.length
      rw [List.length_map] at hlen
      have e : ps.drop xs.length = [] := by rw [List.drop_eq_nil_iff]; omega
      rw [e] at w'
      obtain ⟨G', β', done, rest, acc, s', kb', hm', gD', hH', ha', hr', hp'⟩ := w'
      cases hp'
      exact lc_end (j := 0) (ρ := ρ) (tt := tt) (te := te) s1.s hD nb ⟨G', β2, done, [], acc, s', kb', hm', gD', hH', ha', hr', .nil _ _⟩ fun v G'' H'' s'' kb'' dv => k v G'' H'' (s1.trans s'') kb'' dv
theorem st_forKI {a : Addr} {ns : List Int} {j : Nat} (hq : ∀ H : Hp, SqT K H a (ns.map V.int)) (h : ForR K j tu (ns.map PyData.int) ρ β o β2) : StB K (tFor (iTup K (tC (V.ref a))) (gName j) tu) ρ β o β2 := by
  refine ⟨h.som, fun b G H σ D E k => ?_⟩
  have turn : ∀ i : Nat, ∀ v : V, (ns.map V.int)[i]? = some v → ∃ d, (ns.map PyData.int).drop i = d :: (ns.map PyData.int).drop (i + 1) ∧ ∀ G', Den K G' v d := fun i v hi => by
    rw [List.getElem?_map] at hi
    cases hn : ns[i]? with
    | none => rw [hn] at hi; cases hi
    | some n =>
      rw [hn] at hi
      cases hi
      obtain ⟨lt, e⟩ := List.getElem?_eq_some_iff.mp hn
      refine ⟨.int n, ?_, fun _ => .int n⟩
      rw [List.drop_eq_getElem_cons (by rw [List.length_map]; exact lt), List.getElem_map, e]
  refine ⟨a, rfl, ⟨_, hq H⟩, for_tup (K := K) (a := a) (xs := ns.map V.int) (fun i s' H' => ∃ G' r' b', Step b β.isSome G H G' H' ∧ b'.isSome = β.isSome ∧ EnvD K b b' G' H' s' r' ∧ ForR K j tu ((ns.map PyData.int).drop i) r' b' o β2) ⟨G, ρ, β, Step.refl E.sub, rfl, E, h⟩ (fun i _ H' _ _ => hq H') ?_ ?_⟩
  · rintro i v s' H' hi ⟨G', r', b', st, m, E', hr⟩
    obtain ⟨d, e, dv⟩ := turn i v hi
    rw [e] at hr
    exact for_turn (m := β.isSome) m.symm hr E' (dv G') st k fun s2 G2 H2 r2 b2 st2 m2 E2 hr2 => ⟨G2, r2, b2, st2, m2, E2, hr2⟩
  · rintro s' H' ⟨G', r', b', st, m, E', hr⟩
    rw [List.drop_of_length_le (by simp)] at hr
    cases hr
    exact k s' G' H' st E'
theorem dp_kept {H : Hp} : ∀ ns : List Int, DpAll K H (ns.map V.int) (ns.map PyData.int)
  | [] => .nil
  | n :: ns => .cons (.int n) (dp_kept ns)
theorem d_eqKI {a : Addr} {ms ns : List Int} (hq : ∀ H : Hp, SqT K H a (ns.map V.int)) (h : EvB K ta ρ β (tupJ ms) β1) : EvB K (tOp (rEqD K) ta (tC (.ref a))) ρ β (.bool (decide (ms = ns))) β1 := ⟨h.som, fun b G H σ Q E k => h.run b G H σ _ E fun v G1 H1 s1 k1 d1 =>
  ⟨tupJ ms, tupJ ns, d1.dp s1.s (flat_ints ms), .tup (hq H1) (dp_kept ns), shaped_tup ms, shaped_tup ns, by rw [show PyData.eqv (tupJ ms) (tupJ ns) = decide (ms = ns) from eqv_ints ms ns]; exact k _ G1 H1 s1 k1 (.bl _)⟩⟩
end
def rStrI : List V → Hp → VK → Prop := fun xs H Q => ∃ i : Int, xs = [.int i] ∧ i.natAbs.log2 < 1920 ∧ Q (.str (toString i)) H
theorem cr_strI {X : Cx} : CallR X (.type "str") rStrI := call_str_int
theorem d_strI [TabW] {K : PySem.W.Frag} {ρ : Rho} {β β1 : Bag} {te : TE} {i : Int} (h : EvB K te ρ β (.int i) β1) (hi : i.natAbs.log2 < 1920) : EvB K (tCB rStrI (tCons te tNil)) ρ β (.str (toString i)) β1 := d_c1 h fun b G H v Q e dv k => by
  cases dv
  exact ⟨i, rfl, hi, k _ G H (Step.refl e) (.str _)⟩
end TD
set_option Elab.async false
set_option linter.all false
set_option maxRecDepth 100000
set_option maxHeartbeats 1100000
namespace K73
open PySem L2 TD PySem.Spec PyProof.Rows
variable [TabW]
def fD {α : Type} (a : α → List Slot) (P : α → Prop) (g : α → List Int → Dt × List Int) : FR := fun as β r β' => ∃ x n ns, as = .bag :: a x ∧ P x ∧ Num.BagI n ns ∧ r = (g x ns).1 ∧ β = some ns ∧ β' = some (g x ns).2
section
variable {K : PySem.W.Frag} {ρ : Rho} {β β1 β2 β3 : Bag} {ta tb tc : TE} {t : TA} {E : XK} {α : Type}
theorem c_fD {a : α → List Slot} {P : α → Prop} {g : α → List Int → Dt × List Int} {x : α} {n : Int} {ns : List Int} (h : EvA K t ρ (some ns) (.bag :: a x) (some ns)) (hp : P x) (hb : Num.BagI n ns) : EvB K (tCall (spR K (fD a P g)) [] E t) ρ (some ns) (g x ns).1 (some (g x ns).2) := d_call h ⟨x, n, ns, rfl, hp, hb, rfl, rfl, rfl⟩ rfl
end
theorem grab_pos {t a m c : Int} (h : 0 < a) : Num.grabF t [a, m, c] = (a % t, [a.fdiv t, m, c]) := if_pos h
theorem grab_neg {t a m c : Int} (h : ¬ 0 < a) : Num.grabF t [a, m, c] = ((((((m + 1048627 * (c + 1)) % 2305843009213693951 * ((m + 1048627 * (c + 1)) % 2305843009213693951) % 2305843009213693723 * ((m + 1048627 * (c + 1)) % 2305843009213693951) + 8147 * (c + 1)) % 2305843009213693921).fdiv 16384) % t), [a, m, c + 1]) := if_neg h
abbrev s_law_grab : Stmt := top 55
theorem sc_law_grab : FnScope ["_law_bag_here", "_law_total", "_law_found", "_law_one", "_law_two"] ["_law_bag_here", "_law_total"] (defScope s_law_grab) := ⟨rfl, rfl, rfl, by decide +kernel, rfl, by decide +kernel, by decide +kernel⟩
abbrev R_law_grab : FR := fD (fun t : Int => [.imm (.int t)]) (fun t => 0 < t ∧ t.natAbs < 2 ^ 3000) fun t ns => (.int (Num.grabF t ns).1, (Num.grabF t ns).2)
theorem ok_law_grab {P : Program} {w : World} {K : PySem.W.Frag} {mg : Str → Option Value} {base : Heap} {Y : Cn} (F : DefAt K "_law_grab" s_law_grab) (hX : K.In base) (hG : base.Ns mainGlobals mg) (T : Txt K mg Y)  : FnG P w K mg base 1 "_law_grab" ["_law_bag_here", "_law_total"] R_law_grab := by
  have nd := sc_law_grab.nd
  refine fn_mk F hX hG sc_law_grab (fun as β r β' h => by first | exact FR.len h | (obtain ⟨_, rfl, _⟩ := h; rfl) | (obtain ⟨_, _, rfl, _⟩ := h; rfl) | (obtain ⟨_, _, _, rfl, _⟩ := h; rfl) | (obtain ⟨_, _, _, _, rfl, _⟩ := h; rfl) | (obtain ⟨_, _, _, _, _, rfl, _⟩ := h; rfl)) (fun _ _ _ _ _ _ _ us hl => match us, hl with | [_, _], _ => rfl) (fun f cdv A outer s H E hr => ⟨_, (pss_cons (ps_if (pt_cmpR op_gt (pe_ix ix_list (pv 0) pe_int (fun _ _ => rfl)) pe_int (nomark _)) (pss_cons (ps_set (i := 2) nd rfl (Or.inl rfl) (pe_op op_mod (pe_callTy c_int (by rfl) T.z_int bo_int (pa_cons (pe_ix ix_list (pv 0) pe_int (fun _ _ => rfl)) pa_nil)) (pv 1))) (pss_cons (ps_asg (pe_op op_fdivV (pe_ix ix_list (pv 0) pe_int (fun _ _ => rfl)) (pv 1)) (pg_sub (pv 0) pe_int set_list)) (pss_one (ps_ret (pv 2))))) pss_nil) (pss_cons (ps_asg (pe_op op_add (pe_ix ix_list (pv 0) pe_int (fun _ _ => rfl)) pe_int) (pg_sub (pv 0) pe_int set_list)) (pss_cons (ps_set (i := 3) nd rfl (Or.inl rfl) (pe_op op_mod (pe_callTy c_int (by rfl) T.z_int bo_int (pa_cons (pe_op op_add (pe_ix ix_list (pv 0) pe_int (fun _ _ => rfl)) (pe_op op_mul pe_int (pe_ix ix_list (pv 0) pe_int (fun _ _ => rfl)))) pa_nil)) pe_int)) (pss_cons (ps_set (i := 4) nd rfl (Or.inl rfl) (pe_op op_add (pe_op op_mulW (pe_op op_mod (pe_callTy c_int (by rfl) T.z_int bo_int (pa_cons (pe_op op_mulW (pv 3) (pv 3)) pa_nil)) pe_int) (pv 3)) (pe_op op_mul pe_int (pe_ix ix_list (pv 0) pe_int (fun _ _ => rfl))))) (pss_one (ps_ret (pe_op op_mod (pe_callTy c_int (by rfl) T.z_int bo_int (pa_cons (pe_op op_fdivV (pe_op op_mod (pe_callTy c_int (by rfl) T.z_int bo_int (pa_cons (pv 4) pa_nil)) pe_int) pe_int) pa_nil)) (pv 1)))))))), fun as β r β' hR => ?_⟩)
  obtain ⟨t, n, ns, rfl, ⟨ht, hz⟩, hb, rfl, rfl, rfl⟩ := hR
  dsimp only [cxOf, Cx.nox, Cx.wish]
  obtain ⟨a, m, c, rfl, h1, h2, h3, h4, h5, h6⟩ := hb.ex
  have hdv : CDivV a t := ⟨by omega, Num.log_lt3 hz⟩
  by_cases h : 0 < a
  · rw [grab_pos h]
    refine .ret (st_seqR (st_ifT ((t_test (d_gt (d_ixB rfl d_int rfl) d_int)).to (decide_eq_true h)) (st_seq (st_asg (d_mod (d_intI (d_ixB rfl d_int rfl)) (d_var rfl) ht)) (st_seq (st_setB (j := 0) (d_fdiv (d_ixB rfl d_int rfl) (d_var rfl) hdv) rfl rfl) (st_ret (d_var rfl))))))
  · rw [grab_neg h]
    have e1 : (0 : Int) ≤ (m + 1048627 * (c + 1)) % 2305843009213693951 := Int.emod_nonneg _ (by decide)
    have e2 : (m + 1048627 * (c + 1)) % 2305843009213693951 < 2305843009213693951 := Int.emod_lt_of_pos _ (by decide)
    have w1 : CMulW ((m + 1048627 * (c + 1)) % 2305843009213693951) ((m + 1048627 * (c + 1)) % 2305843009213693951) := wide_mul (a := 62) (b := 62) (by omega) (by omega) (by decide) (by decide) (by decide)
    have w2 : ∀ z : Int, CMulW (z % 2305843009213693723) ((m + 1048627 * (c + 1)) % 2305843009213693951) := fun z => wide_mul (a := 62) (b := 62) (by have := Int.emod_nonneg z (show (2305843009213693723 : Int) ≠ 0 by decide); have := Int.emod_lt_of_pos z (show (0 : Int) < 2305843009213693723 by decide); omega) (by omega) (by decide) (by decide) (by decide)
    refine .ret (st_sq (st_ifF ((t_test (d_gt (d_ixB rfl d_int rfl) d_int)).to (decide_eq_false h)) st_next) (st_seq (st_setB (j := 2) (d_add (d_ixB rfl d_int rfl) d_int) rfl rfl) (st_sq (st_asg (d_mod (d_intI (d_add (d_ixB rfl d_int rfl) (d_mul d_int (d_ixB rfl d_int rfl) (.inl (by decide))))) d_int (by decide))) (st_sq (st_asg (d_add (d_mul (d_mod (d_intI (d_mul (d_var rfl) (d_var rfl) w1)) d_int (by decide)) (d_var rfl) (w2 _)) (d_mul d_int (d_ixB rfl d_int rfl) (.inl (by decide))))) (st_ret (d_mod (d_intI (d_fdiv (d_mod (d_intI (d_var rfl)) d_int (by decide)) d_int ⟨by decide, by decide⟩)) (d_var rfl) ht))))))
abbrev s_law_one_of : Stmt := top 56
theorem sc_law_one_of : FnScope ["_law_bag_here", "_law_items"] ["_law_bag_here", "_law_items"] (defScope s_law_one_of) := ⟨rfl, rfl, rfl, by decide +kernel, rfl, by decide +kernel, by decide +kernel⟩
abbrev R_law_one_of : FR := fD (fun ds : List Dt => [.imm (.list ds)]) (fun ds => ds ≠ [] ∧ ds.length ≤ 1000) fun ds ns => (ds.getD (Num.grabF (ds.length : Int) ns).1.toNat .none, (Num.grabF (ds.length : Int) ns).2)
theorem ok_law_one_of {P : Program} {w : World} {K : PySem.W.Frag} {mg : Str → Option Value} {base : Heap} {Y : Cn} (F : DefAt K "_law_one_of" s_law_one_of) (hX : K.In base) (hG : base.Ns mainGlobals mg) (T : Txt K mg Y) (G_law_grab : FnG P w K mg base 1 "_law_grab" ["_law_bag_here", "_law_total"] R_law_grab) : FnG P w K mg base 2 "_law_one_of" ["_law_bag_here", "_law_items"] R_law_one_of := by
  have nd := sc_law_one_of.nd
  refine fn_mk F hX hG sc_law_one_of (fun as β r β' h => by first | exact FR.len h | (obtain ⟨_, rfl, _⟩ := h; rfl) | (obtain ⟨_, _, rfl, _⟩ := h; rfl) | (obtain ⟨_, _, _, rfl, _⟩ := h; rfl) | (obtain ⟨_, _, _, _, rfl, _⟩ := h; rfl) | (obtain ⟨_, _, _, _, _, rfl, _⟩ := h; rfl)) (fun _ _ _ _ _ _ _ us hl => match us, hl with | [_, _], _ => rfl) (fun f cdv A outer s H E hr => ⟨_, (pss_one (ps_ret (pe_ix ix_list (pv 1) (pe_fn G_law_grab (hr.mono (by decide)) (pa_cons (pv 0) (pa_cons (pe_callB (c_lenK (K := K)) (by rfl) T.z_len bo_len (pa_cons (pv 1) pa_nil)) pa_nil))) (fun _ _ => rfl)))), fun as β r β' hR => ?_⟩)
  obtain ⟨ds, n, ns, rfl, ⟨h0, hl⟩, hb, rfl, rfl, rfl⟩ := hR
  dsimp only [cxOf, Cx.nox, Cx.wish]
  have hp : 0 < ds.length := List.length_pos_iff.mpr h0
  have hg := Num.grab_rng (t := (ds.length : Int)) (by omega) ns
  refine .ret (st_ret (d_ixL (d_var rfl) (c_fD (x := (ds.length : Int)) (a_bg rfl (a_con (d_len (d_var rfl) (.inl rfl)) a_nil)) ⟨by omega, Nat.lt_of_le_of_lt (m := 1000) (by omega) (by decide)⟩ hb) ?_))
  show atI ds (Num.grabF (ds.length : Int) ns).1 = some _
  have e : (Num.grabF (ds.length : Int) ns).1 = (((Num.grabF (ds.length : Int) ns).1.toNat : Nat) : Int) := by omega
  have hlt : (Num.grabF (ds.length : Int) ns).1.toNat < ds.length := by omega
  rw [e]
  refine atI_nat ?_
  rw [List.getElem?_eq_getElem hlt, List.getD_eq_getElem?_getD, Int.toNat_natCast, List.getElem?_eq_getElem hlt]
  rfl
abbrev s_law_mixed : Stmt := top 57
theorem sc_law_mixed : FnScope ["_law_bag_here", "_law_items", "_law_waits", "_law_turn"] ["_law_bag_here", "_law_items"] (defScope s_law_mixed) := ⟨rfl, rfl, rfl, by decide +kernel, rfl, by decide +kernel, by decide +kernel⟩
abbrev R_law_mixed : FR := fun as β r β' => ∃ d ds n ns, as = [.bag, .imm d] ∧ (SeqD d ds ∧ ds.length ≤ 1000) ∧ Num.BagI n ns ∧ r = .list (mixF Num.grabF ds.length ds ns).1 ∧ β = some ns ∧ β' = some (mixF Num.grabF ds.length ds ns).2
theorem ok_law_mixed {P : Program} {w : World} {K : PySem.W.Frag} {mg : Str → Option Value} {base : Heap} {Y : Cn} (F : DefAt K "_law_mixed" s_law_mixed) (hX : K.In base) (hG : base.Ns mainGlobals mg) (T : Txt K mg Y) (G_law_grab : FnG P w K mg base 1 "_law_grab" ["_law_bag_here", "_law_total"] R_law_grab) : FnG P w K mg base 2 "_law_mixed" ["_law_bag_here", "_law_items"] R_law_mixed := by
  have nd := sc_law_mixed.nd
  refine fn_mk F hX hG sc_law_mixed (fun as β r β' h => by first | exact FR.len h | (obtain ⟨_, rfl, _⟩ := h; rfl) | (obtain ⟨_, _, rfl, _⟩ := h; rfl) | (obtain ⟨_, _, _, rfl, _⟩ := h; rfl) | (obtain ⟨_, _, _, _, rfl, _⟩ := h; rfl) | (obtain ⟨_, _, _, _, _, rfl, _⟩ := h; rfl)) (fun _ _ _ _ _ _ _ us hl => match us, hl with | [_, _], _ => rfl) (fun f cdv A outer s H E hr => ⟨_, (pss_cons (ps_set (i := 2) nd rfl (Or.inr rfl) (pe_callTy c_list (by rfl) T.z_list bo_list (pa_cons (pv 1) pa_nil))) (pss_one (ps_ret (pe_lc (own := [("_law_turn", 3)]) rfl nd (pi_range1 (by rfl) T.z_range (pa_cons (pe_callB (c_lenK (K := K)) (by rfl) T.z_len bo_len (pa_cons (pv 1) pa_nil)) pa_nil)) (blkOk_by (N := ["_law_bag_here", "_law_items", "_law_waits", "_law_turn"]) (sc := defScope s_law_mixed) (by decide +kernel)) (fun _ _ _ _ _ => by exact (pg_name (i := 3) nd rfl (Or.inl rfl))) (fun _ _ _ _ _ => by exact pts_nil) (fun _ _ _ _ _ => by exact (pe_castBM (K := K) (pe_bm PySem.F.plainAttrs_list PySem.F.slot_list_pop PySem.F.type_list_pop mt_popAt (pv 2) (pa_cons (pe_fn G_law_grab (hr.mono (by decide)) (pa_cons (pv 0) (pa_cons (pe_callB (c_lenK (K := K)) (by rfl) T.z_len bo_len (pa_cons (pv 2) pa_nil)) pa_nil))) pa_nil)))))))), fun as β r β' hR => ?_⟩)
  obtain ⟨d, ds, n, ns, rfl, ⟨hd, hl⟩, hb, rfl, rfl, rfl⟩ := hR
  dsimp only [cxOf, Cx.nox, Cx.wish]
  refine .ret (st_mixed (P := fun ns => ∃ n, Num.BagI n ns) Num.grabF hd hl ⟨n, hb⟩ (fun ⟨n, h⟩ hp => ⟨n + 1, Num.grab_bag hp h⟩) (fun hp => Num.grab_rng hp _) fun ⟨n, h⟩ hp hle => ⟨_, n, _, rfl, ⟨hp, Nat.lt_of_le_of_lt (m := 1000) (by omega) (by decide)⟩, h, rfl, rfl, rfl⟩)
theorem getD_mem {xs : List Dt} (hx : xs ≠ []) (ns : List Int) : xs.getD (Num.grabF (xs.length : Int) ns).1.toNat .none ∈ xs := by
  have hp : 0 < xs.length := List.length_pos_iff.mpr hx
  have hg := Num.grab_rng (t := (xs.length : Int)) (by omega) ns
  have hlt : (Num.grabF (xs.length : Int) ns).1.toNat < xs.length := by omega
  rw [List.getD_eq_getElem?_getD, List.getElem?_eq_getElem hlt]
  exact List.getElem_mem hlt
theorem a_lit {K : PySem.W.Frag} {ρ : Rho} {β : Bag} {te : TE} {tr : TA} {d : Dt} {as : List Slot} (h : EvB K te ρ β d β) (hr : EvA K tr ρ β as β) : EvA K (tCons te tr) ρ β (.imm d :: as) β := a_con h hr
theorem c_oneF {K : PySem.W.Frag} {ρ : Rho} {tl : TE} {E : XK} {ns : List Int} {n : Int} {i : Nat} {xs : List Dt} (hi : ρ[i]? = some (some Slot.bag)) (h : EvB K tl ρ (some ns) (.list xs) (some ns)) (hx : xs ≠ []) (hl : xs.length ≤ 1000) (hb : Num.BagI n ns) :
    EvB K (tCall (spR K R_law_one_of) [] E (tCons (tVar i) (tCons tl tNil))) ρ (some ns) (xs.getD (Num.grabF (xs.length : Int) ns).1.toNat .none) (some (Num.grabF (xs.length : Int) ns).2) :=
  c_fD (a := fun ds : List Dt => [.imm (.list ds)]) (x := xs) (a_bg hi (a_con h a_nil)) (P := fun ds => ds ≠ [] ∧ ds.length ≤ 1000) (g := fun ds ns => (ds.getD (Num.grabF (ds.length : Int) ns).1.toNat .none, (Num.grabF (ds.length : Int) ns).2)) ⟨hx, hl⟩ hb
def isTieD (d : Dt) : Bool := Num.allFit 0 2 d && decide (ofT d ∈ tiesL)
theorem tie_ex {d : Dt} (h : isTieD d = true) : ∃ l, d = tupJ l ∧ l ∈ tiesL := by
  obtain ⟨h1, h2⟩ := Bool.and_eq_true_iff.mp h
  cases d with
  | tuple ds =>
    obtain ⟨ns, rfl, _, _⟩ := Num.allFit_ints h1
    refine ⟨ns, rfl, ?_⟩
    have := of_decide_eq_true h2
    rwa [show ofT (.tuple (ns.map PyData.int)) = ns from ofT_tup ns] at this
  | _ => cases h1
theorem tie_is : ∀ l ∈ tiesL, isTieD (tupJ l) = true := by decide +kernel
def tiesOk : Dt → Bool
  | .tuple ds => decide (1 ≤ ds.length) && (decide (ds.length ≤ 6) && ds.all isTieD)
  | _ => false
def areT : Dt → Bool
  | .tuple ds => tiesOk (.tuple ds) && decide ((once (ds.map ofT)).length = ds.length)
  | _ => false
structure WebOk (ts : List (List Int)) : Prop where
  pos : 1 ≤ ts.length
  few : ts.length ≤ 6
  tie : ∀ t ∈ ts, t ∈ tiesL
  nd : ts.Nodup
abbrev webF (ts : List (List Int)) : List (Dt × Dt) := [(.str "_ties", .tuple (ts.map tupJ))]
abbrev webD (C : Addr) (ts : List (List Int)) : Dt := oD C (webF ts)
theorem ties_all : ∀ {ds : List Dt}, ds.all isTieD = true → ∃ ts : List (List Int), ds = ts.map tupJ ∧ ∀ t ∈ ts, t ∈ tiesL
  | [], _ => ⟨[], rfl, fun t ht => nomatch ht⟩
  | d :: ds, h => by
    obtain ⟨h1, h2⟩ := Bool.and_eq_true_iff.mp (show (isTieD d && ds.all isTieD) = true from h)
    obtain ⟨l, rfl, hl⟩ := tie_ex h1
    obtain ⟨ts, rfl, ht⟩ := ties_all h2
    refine ⟨l :: ts, rfl, fun t z => ?_⟩
    rcases List.mem_cons.mp z with rfl | z
    · exact hl
    · exact ht t z
theorem all_ties : ∀ {ts : List (List Int)}, (∀ t ∈ ts, t ∈ tiesL) → (ts.map tupJ).all isTieD = true
  | [], _ => rfl
  | t :: ts, h => by
    rw [List.map_cons, List.all_cons, tie_is t (h t List.mem_cons_self), all_ties fun u hu => h u (List.mem_cons_of_mem _ hu)]
    rfl
theorem once_id : ∀ {xs : List (List Int)}, xs.Nodup → once xs = xs
  | [], _ => rfl
  | x :: xs, h => by
    (obtain ⟨h1, h2⟩ := List.nodup_cons.mp h)
    unfold once
    rw [once_id h2, if_neg h1]
theorem WebOk.ties {ts : List (List Int)} (h : WebOk ts) : tiesOk (.tuple (ts.map tupJ)) = true := by
  have h1 := h.pos
  have h2 := h.few
  show (decide (1 ≤ (ts.map tupJ).length) && (decide ((ts.map tupJ).length ≤ 6) && (ts.map tupJ).all isTieD)) = true
  rw [all_ties h.tie, List.length_map, decide_eq_true h1, decide_eq_true h2]
  rfl
theorem WebOk.once {ts : List (List Int)} (h : WebOk ts) : (once ts).length = ts.length := by rw [once_id h.nd]
theorem tie_ok3 : ∀ {t : List Int}, t ∈ tiesL → Ok3 0 10 2 t := by
  intro t ht
  simp only [List.mem_cons, List.not_mem_nil, or_false] at ht
  rcases ht with rfl | rfl | rfl | rfl | rfl | rfl <;> refine ⟨rfl, ?_⟩ <;> intro x hx <;> simp only [TDS.shI, List.map_cons, List.map_nil, List.mem_cons, List.not_mem_nil, or_false] at hx <;> omega
theorem WebOk.sort {ts : List (List Int)} (h : WebOk ts) : WebOk (sortX ts) := ⟨by rw [sortX_len]; exact h.pos, by rw [sortX_len]; exact h.few, fun t ht => h.tie t (sortX_mem.mp ht), (sortX_perm ts).nodup_iff.mpr h.nd⟩
theorem ties_ex {ds : List Dt} (h : tiesOk (.tuple ds) = true) : ∃ ts : List (List Int), ds = ts.map tupJ ∧ ts.length ≤ 6 := by
  have h : (decide (1 ≤ ds.length) && (decide (ds.length ≤ 6) && ds.all isTieD)) = true := h
  obtain ⟨_, h⟩ := Bool.and_eq_true_iff.mp h
  obtain ⟨h1, h2⟩ := Bool.and_eq_true_iff.mp h
  obtain ⟨ts, rfl, _⟩ := ties_all h2
  exact ⟨ts, rfl, by have := of_decide_eq_true h1; rwa [List.length_map] at this⟩
def allPts (d : Dt) : Bool := Num.allFit 0 4 d && decide (ordA (ofT d) = [1, 2, 3, 4])
def stepF (r t : List Int) : List Int := if t.getD 0 0 ∈ r ∨ t.getD 1 0 ∈ r then ordI (r ++ t) else r
def passF (r : List Int) (ts : List (List Int)) : List Int := ts.foldl stepF r
def reachF (ts : List (List Int)) : List Int := ([1, 2, 3, 4] : List Int).foldl (fun r _ => passF r ts) [1]
structure InP (r : List Int) : Prop where
  nd : r.Nodup
  pt : ∀ x ∈ r, x ∈ ([1, 2, 3, 4] : List Int)
theorem InP.few {r : List Int} (h : InP r) : r.length ≤ 4 := List.Nodup.length_le_of_subset h.nd h.pt
theorem tie_two {t : List Int} (h : t ∈ tiesL) : ∃ a b, t = [a, b] := by
  simp only [List.mem_cons, List.not_mem_nil, or_false] at h
  rcases h with rfl | rfl | rfl | rfl | rfl | rfl <;> exact ⟨_, _, rfl⟩
theorem tie_len {t : List Int} (h : t ∈ tiesL) : t.length = 2 := by
  obtain ⟨a, b, rfl⟩ := tie_two h
  rfl
theorem tie_pts : ∀ t ∈ tiesL, ∀ x ∈ t, x ∈ ([1, 2, 3, 4] : List Int) := by decide +kernel
theorem stepF_in {r t : List Int} (h : InP r) (ht : t ∈ tiesL) : InP (stepF r t) := by
  unfold stepF
  split
  · refine ⟨ordI_nd _, fun x hx => ?_⟩
    rcases List.mem_append.mp (ordI_mem.mp hx) with q | q
    · exact h.pt x q
    · exact tie_pts t ht x q
  · exact h
theorem passF_in {r : List Int} (h : InP r) : ∀ {ts : List (List Int)}, (∀ t ∈ ts, t ∈ tiesL) → InP (passF r ts) := by
  intro ts
  induction ts generalizing r with
  | nil => exact fun _ => h
  | cons t ts ih => exact fun q => ih (stepF_in h (q t List.mem_cons_self)) fun u hu => q u (List.mem_cons_of_mem _ hu)
abbrev s_is_tie : Stmt := top 39
theorem sc_is_tie : FnScope ["value"] ["value"] (defScope s_is_tie) := ⟨rfl, rfl, rfl, by decide +kernel, rfl, by decide +kernel, by decide +kernel⟩
abbrev R_is_tie : FR := f1 anyD (fun _ => True) fun d => .bool (isTieD d)
theorem ok_is_tie {P : Program} {w : World} {K : PySem.W.Frag} {mg : Str → Option Value} {base : Heap} {Y : Cn} (F : DefAt K "is_tie" s_is_tie) (hX : K.In base) (hG : base.Ns mainGlobals mg) (T : Txt K mg Y) (G_all_fit : FnG P w K mg base 3 "all_fit" ["prime", "value", "many"] R_all_fit) : FnG P w K mg base 4 "is_tie" ["value"] R_is_tie := by
  have nd := sc_is_tie.nd
  refine fn_mk F hX hG sc_is_tie (fun as β r β' h => by first | exact FR.len h | (obtain ⟨_, rfl, _⟩ := h; rfl) | (obtain ⟨_, _, rfl, _⟩ := h; rfl) | (obtain ⟨_, _, _, rfl, _⟩ := h; rfl) | (obtain ⟨_, _, _, _, rfl, _⟩ := h; rfl) | (obtain ⟨_, _, _, _, _, rfl, _⟩ := h; rfl)) (fun _ _ _ _ _ _ _ us hl => match us, hl with | [_], _ => rfl) (fun f cdv A outer s H E hr => ⟨_, (pss_one (ps_ret (pe_and (pe_fn G_all_fit (hr.mono (by decide)) (pa_cons pe_int (pa_cons (pv 0) (pa_cons pe_int pa_nil)))) (pe_one (pe_cmpR (op_inTup (K := K) (units1 hr)) (pv 0) (pe_glob (v := .ref _) (by rfl) T.c_TIES rfl) (by rfl)))))), fun as β r β' hR => ?_⟩)
  obtain ⟨d, rfl, _, rfl, rfl, rfl⟩ := hR
  dsimp only [cxOf, Cx.nox, Cx.wish]
  refine .ret (st_ret (d_and (c_f3 d_int (d_var rfl) d_int (show (2 : Int) ≤ 1000 by decide)) fun h => ?_))
  cases d with
  | tuple ds =>
    obtain ⟨ns, rfl, _, _⟩ := Num.allFit_ints h
    exact (d_inKT T.q_TIES (shaped_tup ns) (shaped_tups tiesL).2 (flat_ints ns) (d_var rfl)).to (by rw [show ofT (.tuple (ns.map PyData.int)) = ns from ofT_tup ns])
  | _ => cases h
abbrev s_Web_init : Stmt := inCls (top 48) 0
theorem sc_Web_init : FnScope ["self", "ties", "tie"] ["self", "ties"] (defScope s_Web_init) := ⟨rfl, rfl, rfl, by decide +kernel, rfl, by decide +kernel, by decide +kernel⟩
abbrev R_Web_init (Y : Cn) : FI := fun as β r β' => ∃ d, as = [.imm d] ∧ ((areT d = false ∧ r = .ex Y.cV none) ∨ ∃ ts, d = .tuple (ts.map tupJ) ∧ WebOk ts ∧ r = .ok (webF (sortX ts))) ∧ β = none ∧ β' = none
theorem ok_Web_init {P : Program} {w : World} {K : PySem.W.Frag} {mg : Str → Option Value} {base : Heap} {Y : Cn} (F : InitAt K "Web" Y.cl "Web.__init__" s_Web_init) (hX : K.In base) (hG : base.Ns mainGlobals mg) (T : Txt K mg Y) (G_is_tie : FnG P w K mg base 4 "is_tie" ["value"] R_is_tie) : FnI P w K mg base 5 "Web" Y.cl ["self", "ties"] (R_Web_init Y) := by
  have nd := sc_Web_init.nd
  refine init_mk F hX hG sc_Web_init (fun as β r β' h => by first | (obtain ⟨_, rfl, _⟩ := h; rfl) | (obtain ⟨_, _, rfl, _⟩ := h; rfl) | (obtain ⟨_, _, _, rfl, _⟩ := h; rfl) | (obtain ⟨_, _, _, _, rfl, _⟩ := h; rfl) | (obtain ⟨_, _, _, _, _, rfl, _⟩ := h; rfl) | (obtain ⟨_, _, _, _, _, _, rfl, _⟩ := h; rfl)) (fun _ _ _ _ _ _ _ us hl => match us, hl with | [_, _], _ => rfl) (fun f cdv A outer s H E hr => ⟨_, (pss_cons (ps_if (PW.pt (pw_or (pt_not (pt_val (pe_callB (call_isiK (K := K)) (by rfl) T.z_isinstance bo_isinstance (pa_cons (pv 1) (pa_cons (pe_bltn (v := .ty "tuple") (by rfl) T.z_tuple bo_tuple rfl) pa_nil))))) (pw_or (pt_not (pt_chain op_le op_le pe_int (pe_callB (c_lenK (K := K)) (by rfl) T.z_len bo_len (pa_cons (pv 1) pa_nil)) (pe_callB (c_lenK (K := K)) (by rfl) T.z_len bo_len (pa_cons (pe_glob (v := .ref _) (by rfl) T.c_TIES rfl) pa_nil)))) (pw_or1 (pt_not (pt_val (pe_callB (cr_all rfl) (by rfl) T.z_all bo_all (pa_cons (pe_lc (own := [("tie", 2)]) rfl nd (pi_tup (pv 1)) (blkOk_by (N := ["self", "ties", "tie"]) (sc := defScope s_Web_init) (by decide +kernel)) (fun _ _ _ _ _ => by exact (pg_name (i := 2) nd rfl (Or.inl rfl))) (fun _ _ _ _ _ => by exact pts_nil) (fun _ _ _ _ _ => by exact (pe_fn G_is_tie (hr.mono (by decide)) (pa_cons (pv 2) pa_nil)))) pa_nil)))))))) (pss_one (ps_raiseBare T.b_InvalidWeb (takes_of rfl rfl rfl rfl))) pss_nil) (pss_cons (ps_if (pt_cmpR op_ne (TDC.pe_lenSetT hr.units (pv 1) T.z_len T.z_set (K := K)) (pe_callB (c_lenK (K := K)) (by rfl) T.z_len bo_len (pa_cons (pv 1) pa_nil)) (nomark _)) (pss_one (ps_raiseBare T.b_InvalidWeb (takes_of rfl rfl rfl rfl))) pss_nil) (pss_one (ps_fld (pv 0) (pe_callTy c_tuple (by rfl) T.z_tuple bo_tuple (pa_cons (pe_callB (TDS.cr_sortQ (d := 2) (S := 0) (B := 10) (by decide)) (by rfl) T.z_sorted bo_sorted (pa_cons (pv 1) pa_nil)) pa_nil)) (by rfl))))), fun as β r β' hR => ?_⟩)
  obtain ⟨d, rfl, hd, rfl, rfl⟩ := hR
  have t1 : ∀ q, TtB K (tOr (tNot (tB (tCB (rIsiR K) (tCons (tVar 1) (tCons (tC (V.ty "tuple")) tNil))))) (tOr (tNot (tTest (tChain (rI0 fun i j => V.bl (decide (i ≤ j))) (rI0 fun i j => V.bl (decide (i ≤ j))) (tC (V.int 1)) (tCB (TD.rLen K) (tCons (tVar 1) tNil)) (tCB (TD.rLen K) (tCons (tC (V.ref Y.aT)) tNil))))) (tNot (tB (tCB (rAll K) (tCons (tLc (iTup K (tVar 1)) (gName 2) tYes (tCall (spR K R_is_tie) [] E0 (tCons (tVar 2) tNil)) [2]) tNil)))))) ((startI ["self", "ties", "tie"] [.imm d]).set 0 (some (.fn q))) none (!tiesOk d) none := by
    intro q
    cases d with
    | tuple ds =>
      have e1 : ds.length ≤ 6 → EvB K (tCB (rAll K) (tCons (tLc (iTup K (tVar 1)) (gName 2) tYes (tCall (spR K R_is_tie) [] E0 (tCons (tVar 2) tNil)) [2]) tNil)) ((startI ["self", "ties", "tie"] [.imm (.tuple ds)]).set 0 (some (.fn q))) none (.bool (ds.all isTieD)) none := fun hl => by
        refine (d_all (bs := ds.map isTieD) (d_lcT (d_var rfl) (rs := (ds.map isTieD).map .bool) ?_ (by rw [List.length_map, List.length_map]; omega) (wipe_ok (by decide)))).to (by rw [List.all_map]; rfl)
        rw [List.map_map]
        exact LcR.map (fun d => .bool (isTieD d)) fun d _ => c_f1 (d_var rfl) trivial
      have c2 : TtB K (tNot (tTest (tChain (rI0 fun i j => V.bl (decide (i ≤ j))) (rI0 fun i j => V.bl (decide (i ≤ j))) (tC (V.int 1)) (tCB (TD.rLen K) (tCons (tVar 1) tNil)) (tCB (TD.rLen K) (tCons (tC (V.ref Y.aT)) tNil))))) ((startI ["self", "ties", "tie"] [.imm (.tuple ds)]).set 0 (some (.fn q))) none (!(decide (1 ≤ ds.length) && decide (ds.length ≤ 6))) none := by
        refine (t_not (t_test (d_chLeLe d_int (d_len (d_var rfl) (.inr rfl)) (d_lenK T.q_TIES)))).to ?_
        rw [show (decide ((1 : Int) ≤ (ds.length : Int))) = decide (1 ≤ ds.length) from decide_eq_decide.mpr (by omega), show (decide ((ds.length : Int) ≤ (tiesL.length : Int))) = decide (ds.length ≤ 6) from decide_eq_decide.mpr (by show (ds.length : Int) ≤ ((6 : Nat) : Int) ↔ _; omega)]
      show TtB K _ _ none (!(decide (1 ≤ ds.length) && (decide (ds.length ≤ 6) && ds.all isTieD))) none
      by_cases h : decide (1 ≤ ds.length) && decide (ds.length ≤ 6)
      · rw [h] at c2
        obtain ⟨h1, h2⟩ := Bool.and_eq_true_iff.mp h
        rw [h1, h2]
        exact t_orF ((t_not (t_B (d_isTup (d_var rfl)))).to rfl) (t_orF c2 (t_not (t_B (e1 (of_decide_eq_true h2)))))
      · have h := Bool.eq_false_iff.mpr h
        rw [h] at c2
        rw [← Bool.and_assoc, h]
        exact t_orF ((t_not (t_B (d_isTup (d_var rfl)))).to rfl) (t_orT c2)
    | none => exact t_orT ((t_not (t_B (d_isTup (d_var rfl)))).to rfl)
    | _ => exact t_orT ((t_not (t_B (d_isTup (d_var rfl)))).to rfl)
  have t2 : ∀ (ts : List (List Int)) q, ts.length ≤ 6 → TtB K (tTest (tOp rNe (TDC.tLenSetT K (tVar 1)) (tCB (TD.rLen K) (tCons (tVar 1) tNil)))) ((startI ["self", "ties", "tie"] [.imm (.tuple (ts.map tupJ))]).set 0 (some (.fn q))) none (!decide ((once ts).length = ts.length)) none := fun ts q hl => by
    refine (t_test (d_neI (d_lenSetT (d_var rfl) (by omega)) (d_len (d_var rfl) (.inr rfl)))).to ?_
    rw [List.length_map, show (decide (((once ts).length : Int) = (ts.length : Int))) = decide ((once ts).length = ts.length) from decide_eq_decide.mpr (by omega)]
  rcases hd with ⟨h, rfl⟩ | ⟨ts, rfl, hW, rfl⟩
  · by_cases h1 : tiesOk d = true
    · cases d with
      | tuple ds =>
        obtain ⟨ts, rfl, hl⟩ := ties_ex h1
        have h2 : decide ((once ts).length = ts.length) = false := by
          have h : (tiesOk (.tuple (ts.map tupJ)) && decide ((once ((ts.map tupJ).map ofT)).length = (ts.map tupJ).length)) = false := h
          rw [h1, Bool.true_and, map_ofT, List.length_map] at h
          exact h
        exact .ex fun q => stR_then (st_ifF ((t1 q).to (by rw [h1] <;> rfl)) st_next) (stR_seq (stR_ifT ((t2 ts q hl).to (by rw [h2] <;> rfl)) st_raise0))
      | _ => cases h1
    · exact .ex fun q => stR_seq (stR_ifT ((t1 q).to (by rw [Bool.eq_false_iff.mpr h1] <;> rfl)) st_raise0)
  · have few := hW.few
    exact .ok (ρ' := startI ["self", "ties", "tie"] [.imm (.tuple (ts.map tupJ))]) (sw_seq (sw_ifF (tw_plain fun q => (t1 q).to (by rw [hW.ties] <;> rfl)) sw_next) (sw_seq (sw_ifF (tw_plain fun q => (t2 ts q few).to (by rw [decide_eq_true hW.once] <;> rfl)) sw_next) (sw_fld (ew_plain fun q => d_tupleOf (d_sortTX (d_var rfl) (by omega) fun t ht => tie_ok3 (hW.tie t ht))) T.m_ties rfl (by show 0 < 1000; decide))))
abbrev s_are_all_points : Stmt := top 40
theorem sc_are_all_points : FnScope ["value"] ["value"] (defScope s_are_all_points) := ⟨rfl, rfl, rfl, by decide +kernel, rfl, by decide +kernel, by decide +kernel⟩
abbrev R_are_all_points : FR := f1 anyD (fun _ => True) fun d => .bool (allPts d)
theorem ok_are_all_points {P : Program} {w : World} {K : PySem.W.Frag} {mg : Str → Option Value} {base : Heap} {Y : Cn} (F : DefAt K "are_all_points" s_are_all_points) (hX : K.In base) (hG : base.Ns mainGlobals mg) (T : Txt K mg Y) (G_all_fit : FnG P w K mg base 3 "all_fit" ["prime", "value", "many"] R_all_fit) : FnG P w K mg base 4 "are_all_points" ["value"] R_are_all_points := by
  have nd := sc_are_all_points.nd
  refine fn_mk F hX hG sc_are_all_points (fun as β r β' h => by first | exact FR.len h | (obtain ⟨_, rfl, _⟩ := h; rfl) | (obtain ⟨_, _, rfl, _⟩ := h; rfl) | (obtain ⟨_, _, _, rfl, _⟩ := h; rfl) | (obtain ⟨_, _, _, _, rfl, _⟩ := h; rfl) | (obtain ⟨_, _, _, _, _, rfl, _⟩ := h; rfl)) (fun _ _ _ _ _ _ _ us hl => match us, hl with | [_], _ => rfl) (fun f cdv A outer s H E hr => ⟨_, (pss_one (ps_ret (pe_and (pe_fn G_all_fit (hr.mono (by decide)) (pa_cons pe_int (pa_cons (pv 0) (pa_cons pe_int pa_nil)))) (pe_one (pe_cmpR (op_eqD hr.units) (pe_callTy c_tuple (by rfl) T.z_tuple bo_tuple (pa_cons (pe_callB TDS.cr_sortTI (by rfl) T.z_sorted bo_sorted (pa_cons (pv 0) pa_nil)) pa_nil)) (pe_glob (v := .ref _) (by rfl) T.c_POINTS rfl) (nomark _)))))), fun as β r β' hR => ?_⟩)
  obtain ⟨d, rfl, _, rfl, rfl, rfl⟩ := hR
  dsimp only [cxOf, Cx.nox, Cx.wish]
  refine .ret (st_ret (d_and (c_f3 d_int (d_var rfl) d_int (show (4 : Int) ≤ 1000 by decide)) fun h => ?_))
  cases d with
  | tuple ds =>
    obtain ⟨ns, rfl, hl, _⟩ := Num.allFit_ints h
    exact (d_eqKI T.q_POINTS (d_tupleOf (d_sortTI (d_var rfl) (by omega)))).to (by rw [show ofT (.tuple (ns.map PyData.int)) = ns from ofT_tup ns])
  | _ => cases h
abbrev s_reached_from_first : Stmt := top 44
theorem sc_reached_from_first : FnScope ["ties", "reached", "_", "one", "other"] ["ties"] (defScope s_reached_from_first) := ⟨rfl, rfl, rfl, by decide +kernel, rfl, by decide +kernel, by decide +kernel⟩
abbrev R_reached_from_first : FR := f1 (fun ts : List (List Int) => .tuple (ts.map tupJ)) (fun ts => ∀ t ∈ ts, t ∈ tiesL) fun ts => lstI (reachF ts)
theorem ok_reached_from_first {P : Program} {w : World} {K : PySem.W.Frag} {mg : Str → Option Value} {base : Heap} {Y : Cn} (F : DefAt K "reached_from_first" s_reached_from_first) (hX : K.In base) (hG : base.Ns mainGlobals mg) (T : Txt K mg Y)  : FnG P w K mg base 1 "reached_from_first" ["ties"] R_reached_from_first := by
  have nd := sc_reached_from_first.nd
  refine fn_mk F hX hG sc_reached_from_first (fun as β r β' h => by first | exact FR.len h | (obtain ⟨_, rfl, _⟩ := h; rfl) | (obtain ⟨_, _, rfl, _⟩ := h; rfl) | (obtain ⟨_, _, _, rfl, _⟩ := h; rfl) | (obtain ⟨_, _, _, _, rfl, _⟩ := h; rfl) | (obtain ⟨_, _, _, _, _, rfl, _⟩ := h; rfl)) (fun _ _ _ _ _ _ _ us hl => match us, hl with | [_], _ => rfl) (fun f cdv A outer s H E hr => ⟨_, (pss_cons (ps_set (i := 1) nd rfl (Or.inl rfl) (pe_lst (pa_cons pe_int pa_nil))) (pss_cons (ps_for PassesOwn.never rfl (pi_tup (pe_glob (v := .ref _) (by rfl) T.c_POINTS rfl)) (pg_name (i := 2) nd rfl (Or.inl rfl)) (pss_one (ps_for PassesOwn.never rfl (pi_tup (pv 0)) (pg_tupK (K := K) (n := 2) rfl (pgs_cons (pg_name (i := 3) nd rfl (Or.inl rfl)) (pgs_cons (pg_name (i := 4) nd rfl (Or.inl rfl)) pgs_nil))) (pss_one (ps_if (PW.pt (pw_or (pt_cmpR op_in_seq (pv 3) (pv 1) (by rfl)) (pw_or1 (pt_cmpR op_in_seq (pv 4) (pv 1) (by rfl))))) (pss_one (ps_set (i := 1) nd rfl (Or.inl rfl) (pe_callB (cr_sortedSI rfl) (by rfl) T.z_sorted bo_sorted (pa_cons (pe_callTy (cr_setOfI rfl) (by rfl) T.z_set bo_set (pa_cons (pe_lst (pa_starK (K := K) (pv 1) (pa_cons (pv 3) (pa_cons (pv 4) pa_nil)))) pa_nil)) pa_nil)))) pss_nil))))) (pss_one (ps_ret (pv 1))))), fun as β r β' hR => ?_⟩)
  obtain ⟨ts, rfl, hT, rfl, rfl, rfl⟩ := hR
  dsimp only [cxOf, Cx.nox, Cx.wish]
  refine .ret (st_sq (st_asg (d := lstI [1]) (d_lst (ds := [.int 1]) (a_lit d_int a_nil) rfl (by decide))) ?_)
  show StB K _ [some (.imm (.tuple (ts.map tupJ))), some (.imm (lstI [1])), none, none, none] none _ none
  have inner : ∀ (us : List (List Int)) (r : List Int) (x y z : Option Slot), (∀ t ∈ us, t ∈ tiesL) → InP r → ∃ y' z', ForU K [3, 4] (tIfS (tOr (tTest (tOp (rIn K false) (tVar 3) (tVar 1))) (tTest (tOp (rIn K false) (tVar 4) (tVar 1)))) (tAsg (tCB (rSortedSI w) (tCons (tCB (rSetOfI K w) (tCons (tLst (StX.tStar K (tVar 1) (tCons (tVar 3) (tCons (tVar 4) tNil)))) tNil)) tNil)) (gName 1)) tNext) (us.map fun t => t.map PyData.int) [some (.imm (.tuple (ts.map tupJ))), some (.imm (lstI r)), x, y, z] none [some (.imm (.tuple (ts.map tupJ))), some (.imm (lstI (passF r us))), x, y', z'] none := by
    intro us
    induction us with
    | nil => exact fun r x y z _ _ => ⟨y, z, .nil _ _⟩
    | cons t us ih =>
      intro r x y z hu hr
      obtain ⟨a, b, rfl⟩ := tie_two (hu t List.mem_cons_self)
      have hr' := stepF_in hr (hu _ List.mem_cons_self)
      obtain ⟨y', z', h⟩ := ih (stepF r [a, b]) x (some (.imm (.int a))) (some (.imm (.int b))) (fun t ht => hu t (List.mem_cons_of_mem _ ht)) hr'
      refine ⟨y', z', .nx ?_ h⟩
      show StB K _ [some (.imm (.tuple (ts.map tupJ))), some (.imm (lstI r)), x, some (.imm (.int a)), some (.imm (.int b))] none (.nx [some (.imm (.tuple (ts.map tupJ))), some (.imm (lstI (stepF r [a, b]))), x, some (.imm (.int a)), some (.imm (.int b))]) none
      have tt : TtB K (tOr (tTest (tOp (rIn K false) (tVar 3) (tVar 1))) (tTest (tOp (rIn K false) (tVar 4) (tVar 1)))) [some (.imm (.tuple (ts.map tupJ))), some (.imm (lstI r)), x, some (.imm (.int a)), some (.imm (.int b))] none (decide (a ∈ r) || decide (b ∈ r)) none := t_or (t_test (d_inI (d_var rfl) (d_var rfl) (.inl rfl))) fun _ => t_test (d_inI (d_var rfl) (d_var rfl) (.inl rfl))
      have few := hr.few
      by_cases h : a ∈ r ∨ b ∈ r
      · have e : stepF r [a, b] = ordI (r ++ [a, b]) := if_pos h
        rw [e]
        refine st_ifT (tt.to ?_) (st_asg (d_sortSI (ns := r ++ [a, b]) (d_lst (as := imms (r.map PyData.int) ++ [.imm (.int a), .imm (.int b)]) (a_star (d_var rfl) (.inl rfl) (a_lit (d_var rfl) (a_lit (d_var rfl) a_nil))) (by rw [List.map_append]; unfold imms; rw [List.map_append]; rfl) (by rw [List.length_map, List.length_append]; show r.length + 2 ≤ 100000; omega)) (by rw [List.length_append]; show r.length + 2 < 60; omega)))
        rcases h with h | h
        · rw [decide_eq_true h]; rfl
        · rw [decide_eq_true h, Bool.or_true]
      · have e : stepF r [a, b] = r := if_neg h
        rw [e]
        refine st_ifF (tt.to ?_) st_next
        rw [decide_eq_false fun z => h (.inl z), decide_eq_false fun z => h (.inr z)]
        rfl
  have outer : ∀ (ps : List Int) (r : List Int) (x y z : Option Slot), InP r → ∃ x' y' z', ForR K 2 (tFor (iTup K (tVar 0)) (gTup K 2 (gCons (gName 3) (gCons (gName 4) gNil))) (tIfS (tOr (tTest (tOp (rIn K false) (tVar 3) (tVar 1))) (tTest (tOp (rIn K false) (tVar 4) (tVar 1)))) (tAsg (tCB (rSortedSI w) (tCons (tCB (rSetOfI K w) (tCons (tLst (StX.tStar K (tVar 1) (tCons (tVar 3) (tCons (tVar 4) tNil)))) tNil)) tNil)) (gName 1)) tNext)) (ps.map PyData.int) [some (.imm (.tuple (ts.map tupJ))), some (.imm (lstI r)), x, y, z] none (.nx [some (.imm (.tuple (ts.map tupJ))), some (.imm (lstI (ps.foldl (fun r _ => passF r ts) r))), x', y', z']) none := by
    intro ps
    induction ps with
    | nil => exact fun r x y z _ => ⟨x, y, z, .nil _ _⟩
    | cons p ps ih =>
      intro r x y z hr
      obtain ⟨y1, z1, h1⟩ := inner ts r (some (.imm (.int p))) y z hT hr
      obtain ⟨x', y', z', h⟩ := ih (passF r ts) (some (.imm (.int p))) y1 z1 (passF_in hr hT)
      exact ⟨x', y', z', .nx (st_forU (is := [3, 4]) (rows := ts.map fun t => t.map PyData.int) ((d_var rfl).to (by rw [List.map_map]; rfl)) rfl (fun q hq => by obtain ⟨t, ht, rfl⟩ := List.mem_map.mp hq; rw [List.length_map]; exact tie_len (hT t ht)) h1) h⟩
  obtain ⟨x', y', z', h⟩ := outer [1, 2, 3, 4] [1] none none none ⟨by decide, by decide⟩
  exact st_sq (st_forKI T.q_POINTS h) (st_ret (d_var rfl))
end K73
set_option Elab.async false
set_option linter.all false
set_option maxRecDepth 100000
set_option maxHeartbeats 1100000
namespace K73
open PySem L2 TD PySem.Spec PyProof.Rows
open Evl (Ex ex_l ex_t fresh_back sq_of st_of sz_of sz_lt)
variable [TabW]
def chG (f : List Dt → List (List Dt)) (xs : List Dt) (a : Nat) : List (List Dt) := (f (xs.drop (a + 1))).map fun o => xs.getD a .none :: o
def chL (f : List Dt → List (List Dt)) (xs : List Dt) : Nat → List (List Dt)
  | 0 => []
  | m + 1 => chL f xs m ++ chG f xs m
def chF : Nat → List Dt → List (List Dt)
  | 0, _ => [[]]
  | k + 1, xs => chL (chF k) xs (xs.length - k)
theorem chL_succ (f : List Dt → List (List Dt)) (xs : List Dt) (n : Nat) : (chL f xs (n + 1)).map PyData.tuple = (chL f xs n).map PyData.tuple ++ (f (xs.drop (n + 1))).map fun o => PyData.tuple (xs.getD n .none :: o) := by
  show (chL f xs n ++ chG f xs n).map PyData.tuple = _
  unfold chG
  rw [List.map_append, List.map_map]
  rfl
theorem chL_len {f : List Dt → List (List Dt)} {xs : List Dt} {c : Nat} (h : ∀ a, (f (xs.drop (a + 1))).length ≤ c) : ∀ m, (chL f xs m).length ≤ m * c
  | 0 => Nat.zero_le _
  | m + 1 => by
    have := chL_len h m
    have := h m
    unfold chL chG
    rw [List.length_append, List.length_map, Nat.succ_mul]
    omega
theorem ch_len : ∀ (k : Nat) {xs : List Dt}, xs.length ≤ 10 → (chF k xs).length ≤ 10 ^ k
  | 0, _, _ => Nat.le_refl _
  | k + 1, xs, h => by
    have q := chL_len (f := chF k) (xs := xs) (c := 10 ^ k) (fun a => ch_len k (by rw [List.length_drop]; omega)) (xs.length - k)
    refine Nat.le_trans q (Nat.le_trans (Nat.mul_le_mul_right _ (show xs.length - k ≤ 10 by omega)) ?_)
    rw [Nat.pow_succ]
    omega
theorem ch_each : ∀ (k : Nat) (xs : List Dt), ∀ o ∈ chF k xs, o.length = k := by
  intro k
  induction k with
  | zero => exact fun xs o ho => by rw [List.mem_singleton.mp ho]; rfl
  | succ k ih =>
    intro xs
    have all : ∀ m, ∀ o ∈ chL (chF k) xs m, o.length = k + 1 := by
      intro m
      induction m with
      | zero => exact fun o ho => nomatch ho
      | succ m im =>
        intro o ho
        rcases List.mem_append.mp ho with h | h
        · exact im o h
        · obtain ⟨q, hq, rfl⟩ := List.mem_map.mp h
          rw [List.length_cons, ih _ q hq]
    exact all _
theorem cut_drop {ds : List Dt} {k : Nat} : TD.cutD ds (some ((k : Nat) : Int)) none = ds.drop k := by
  unfold TD.cutD HT.sIx
  simp only [if_neg (show ¬ ((k : Nat) : Int) < 0 by omega), Int.toNat_natCast]
  by_cases h : k ≤ ds.length
  · rw [Nat.min_eq_left h]
    (exact List.take_of_length_le (by rw [List.length_drop]; omega))
  · rw [Nat.min_eq_right (by omega), List.drop_of_length_le (Nat.le_refl _), List.drop_of_length_le (by omega), List.take_nil]
abbrev R_ch (n : Nat) : FR := fun as β r β' => ∃ (xs : List Dt) (k : Nat), as = [.imm (.tuple xs), .imm (.int (k : Int))] ∧ k < n ∧ k ≤ 2 ∧ xs.length ≤ 10 ∧ r = .list ((chF k xs).map .tuple) ∧ β = none ∧ β' = none
theorem ch_bottom {P : Program} {w : World} {K : PySem.W.Frag} {mg : Str → Option Value} {base : Heap} (F : DefAt K "choices" (top 3)) (hX : K.In base) (hG : base.Ns mainGlobals mg) (S : FnScope ["items", "many", "found", "at", "others"] ["items", "many"] (defScope (top 3))) : FnG P w K mg base 2 "choices" ["items", "many"] (R_ch 0) :=
  fn_mk F hX hG S (fun as β r β' ⟨_, _, h, _⟩ => by rw [h]; rfl) (fun _ _ _ _ _ _ _ us hl => match us, hl with | [_, _], _ => rfl) fun f cdv A outer s H E hr => ⟨fun _ _ _ => False, ⟨fun _ _ _ _ _ _ h => h.elim⟩, fun as β r β' ⟨_, k, _, hk, _⟩ => absurd hk (Nat.not_lt_zero _)⟩
abbrev s_choices : Stmt := top 3
theorem sc_choices : FnScope ["items", "many", "found", "at", "others"] ["items", "many"] (defScope s_choices) := ⟨rfl, rfl, rfl, by decide +kernel, rfl, by decide +kernel, by decide +kernel⟩
theorem ok_choices {m : Nat} {P : Program} {w : World} {K : PySem.W.Frag} {mg : Str → Option Value} {base : Heap} {Y : Cn} (F : DefAt K "choices" s_choices) (hX : K.In base) (hG : base.Ns mainGlobals mg) (T : Txt K mg Y) (G_choices : FnG P w K mg base (m + 2) "choices" ["items", "many"] (R_ch m)) : FnG P w K mg base (m + 3) "choices" ["items", "many"] (R_ch (m + 1)) := by
  have nd := sc_choices.nd
  refine fn_mk F hX hG sc_choices (fun as β r β' h => by first | exact FR.len h | (obtain ⟨_, rfl, _⟩ := h; rfl) | (obtain ⟨_, _, rfl, _⟩ := h; rfl) | (obtain ⟨_, _, _, rfl, _⟩ := h; rfl) | (obtain ⟨_, _, _, _, rfl, _⟩ := h; rfl) | (obtain ⟨_, _, _, _, _, rfl, _⟩ := h; rfl)) (fun _ _ _ _ _ _ _ us hl => match us, hl with | [_, _], _ => rfl) (fun f cdv A outer s H E hr => ⟨_, (pss_cons (ps_if (pt_cmpR op_eq (pv 1) pe_int (nomark _)) (pss_one (ps_ret (pe_lst (pa_cons (pe_tup pa_nil) pa_nil)))) pss_nil) (pss_cons (ps_set (i := 2) nd rfl (Or.inl rfl) (pe_lst pa_nil)) (pss_cons (ps_for PassesOwn.never rfl (pi_range1 (by rfl) T.z_range (pa_cons (pe_op op_add (pe_op op_sub (pe_callB (c_lenK (K := K)) (by rfl) T.z_len bo_len (pa_cons (pv 0) pa_nil)) (pv 1)) pe_int) pa_nil)) (pg_name (i := 3) nd rfl (Or.inl rfl)) (pss_one (ps_for PassesOwn.never rfl (pi_list (pe_fn G_choices (hr.mono (by omega)) (pa_cons (pe_slice (sl_tupA (K := K)) (pv 0) (po_some (pe_op op_add (pv 3) pe_int)) po_none) (pa_cons (pe_op op_sub (pv 1) pe_int) pa_nil)))) (pg_name (i := 4) nd rfl (Or.inl rfl)) (pss_one (ps_expr (pe_castBM (K := K) (pe_bm PySem.F.plainAttrs_list PySem.F.slot_list_append PySem.F.type_list_append mt_append (pv 2) (pa_cons (pe_tup (pa_cons (pe_ix ix_tup (pv 0) (pv 3) (fun _ _ => rfl)) (pa_starK (K := K) (pv 4) pa_nil))) pa_nil)))))))) (pss_one (ps_ret (pv 2)))))), fun as β r β' hR => ?_⟩)
  obtain ⟨xs, k, rfl, hk, hk2, hl, rfl, rfl, rfl⟩ := hR
  dsimp only [cxOf, Cx.nox, Cx.wish]
  cases k with
  | zero => exact .ret (st_seqR (st_ifT ((t_test (d_eqI (d_var rfl) d_int)).to rfl) (st_ret (d_lst (ds := [.tuple []]) (a_lit (d_tup (ds := []) a_nil rfl (by decide)) a_nil) rfl (by decide)))))
  | succ k =>
    refine .ret (st_sq (st_ifF ((t_test (d_eqI (d_var rfl) d_int)).to (decide_eq_false (by omega))) st_next) (st_own (i := 2) (by show 2 < 5; decide) (en_lst (ds := []) a_nil (by decide)) ?_))
    show StP K 2 _ [some (.imm (.tuple xs)), some (.imm (.int ((k + 1 : Nat) : Int))), none, none, none] none (.list []) _ none
    have inner : ∀ (os : List (List Dt)) (a : Nat) (acc : List Dt) (z : Option Slot), a < xs.length → acc.length + os.length ≤ 50000 → (∀ o ∈ os, o.length ≤ 1000) → ∃ z', ForW K 2 4 (tDrop (tBM K "list" rAppend (tVar 2) (tCons (tTup (tCons (tOp (rIxT K) (tVar 0) (tVar 3)) (StX.tStar K (tVar 4) tNil))) tNil))) (os.map PyData.tuple) [some (.imm (.tuple xs)), some (.imm (.int ((k + 1 : Nat) : Int))), none, some (.imm (.int (a : Int))), z] none (.list acc) (.nx [some (.imm (.tuple xs)), some (.imm (.int ((k + 1 : Nat) : Int))), none, some (.imm (.int (a : Int))), z']) none (.list (acc ++ os.map fun o => .tuple (xs.getD a .none :: o))) := by
      intro os
      induction os with
      | nil => exact fun a acc z _ _ _ => ⟨z, by rw [List.map_nil, List.map_nil, List.append_nil]; exact .nil _ _ _⟩
      | cons o os ih =>
        intro a acc z ha hz ho
        rw [List.length_cons] at hz
        obtain ⟨z', h⟩ := ih a (acc ++ [.tuple (xs.getD a .none :: o)]) (some (.imm (.tuple o))) ha (by rw [List.length_append]; show acc.length + 1 + os.length ≤ 50000; omega) fun q hq => ho q (List.mem_cons_of_mem _ hq)
        have ol := ho o List.mem_cons_self
        have hat : atI xs (a : Int) = some (xs.getD a .none) := atI_nat (by rw [List.getElem?_eq_getElem ha, List.getD_eq_getElem?_getD, List.getElem?_eq_getElem ha]; rfl)
        refine ⟨z', ?_⟩
        rw [List.append_assoc] at h
        exact .nx (sw_app (d_tup (as := .imm (xs.getD a .none) :: (imms o ++ [])) (a_con (d_ixT (d_var rfl) (d_var rfl) hat) (a_star (d_var rfl) (.inr rfl) a_nil)) (by rw [List.append_nil]; rfl) (by rw [List.length_cons]; omega)) (by omega)) h
    have many : ((xs.length : Int) - ((k + 1 : Nat) : Int) + 1).toNat = xs.length - k := by omega
    obtain ⟨ρ', d', hF, hd⟩ := ForW.keep (K := K) (i := 2) (j := 3) (β := none) (es := rng 0 (xs.length - k)) (n := 0) (ρ := [some (.imm (.tuple xs)), some (.imm (.int ((k + 1 : Nat) : Int))), none, none, none]) (d := .list [])
      (tu := tFor (iList K (tCall (spR K (R_ch m)) [] E0 (tCons (tSl (rSlTa K) (tVar 0) (tPart (tOp (rI0 fun i j => V.int (i + j)) (tVar 3) (tC (V.int 1)))) tNoPart) (tCons (tOp (rI0 fun i j => V.int (i - j)) (tVar 1) (tC (V.int 1))) tNil)))) (gName 4) (tDrop (tBM K "list" rAppend (tVar 2) (tCons (tTup (tCons (tOp (rIxT K) (tVar 0) (tVar 3)) (StX.tStar K (tVar 4) tNil))) tNil))))
      (F := fun n ρ d => n ≤ xs.length - k → ∃ y z : Option Slot, ρ = [some (.imm (.tuple xs)), some (.imm (.int ((k + 1 : Nat) : Int))), none, y, z] ∧ d = .list ((chL (chF k) xs n).map PyData.tuple))
      (fun _ => ⟨none, none, rfl, rfl⟩) (fun n x ρ d hx hF => by
        rw [Nat.zero_add] at hF ⊢
        have hn : n < xs.length - k := by
          have := (List.getElem?_eq_some_iff.mp hx).1
          rwa [show (rng 0 (xs.length - k)).length = xs.length - k by unfold rng; rw [List.length_map, List.length_range]] at this
        obtain rfl : PyData.int (n : Int) = x := by
          unfold rng at hx
          rw [List.getElem?_map, List.getElem?_range hn] at hx
          have := Option.some.inj hx
          rw [← this]
          exact congrArg PyData.int (Int.zero_add _).symm
        obtain ⟨y, z, rfl, rfl⟩ := hF (by omega)
        have b1 := chL_len (f := chF k) (xs := xs) (c := 10 ^ k) (fun a => ch_len k (by rw [List.length_drop]; omega)) n
        have b2 := ch_len k (xs := xs.drop (n + 1)) (by rw [List.length_drop]; omega)
        have kk : 10 ^ k ≤ 10 := by
          have : k = 0 ∨ k = 1 := by omega
          (rcases this with rfl | rfl <;> decide)
        have b3 : n * 10 ^ k ≤ 100 := Nat.le_trans (Nat.mul_le_mul (show n ≤ 10 by omega) kk) (by decide)
        obtain ⟨z', h⟩ := inner (chF k (xs.drop (n + 1))) n ((chL (chF k) xs n).map PyData.tuple) z (by omega) (by rw [List.length_map]; omega) (fun o ho => by rw [ch_each k _ o ho]; omega)
        refine ⟨_, _, .inl (sw_forL (i := 2) (j := 4) (by decide) (ew_plain fun _ => d_call0 (a_con ((d_slTa (lo := some ((n : Int) + 1)) (hi := none) (d_var rfl) (o_some (d_add (d_var rfl) d_int)) o_none).to (d' := .tuple (xs.drop (n + 1))) (by rw [show (n : Int) + 1 = ((n + 1 : Nat) : Int) by omega, cut_drop])) (a_con ((d_sub (d_var rfl) d_int).to (d' := .int (k : Int)) (congrArg PyData.int (by omega))) a_nil)) ⟨xs.drop (n + 1), k, rfl, by omega, by omega, by rw [List.length_drop]; omega, rfl, rfl, rfl⟩) h), fun _ => ⟨_, z', rfl, ?_⟩⟩
        exact (congrArg PyData.list (chL_succ (chF k) xs n)).symm)
    rw [Nat.zero_add, show (rng 0 (xs.length - k)).length = xs.length - k by unfold rng; rw [List.length_map, List.length_range]] at hd
    obtain ⟨y, z, rfl, rfl⟩ := hd (Nat.le_refl _)
    refine sp_seq (sw_forR1 (i := 2) (j := 3) (by decide) (ew_plain fun _ => d_add (d_sub (d_len (d_var rfl) (.inr rfl)) (d_var rfl)) d_int) ⟨by omega, by omega⟩ (by rw [many]; exact hF)) (sp_end (st_ret (d_var rfl)))
end K73
set_option Elab.async false
set_option linter.all false
set_option maxRecDepth 100000
set_option maxHeartbeats 1100000
namespace K73
open PySem L2 TD PySem.Spec PyProof.Rows
open Evl (Ex ex_l ex_t fresh_back sq_of st_of sz_of sz_lt)
variable [TabW]
theorem lc_tups {K : PySem.W.Frag} {ρ : Rho} {β : Bag} {tt : TT} {te : TE} {j : Nat} (f : List Int → Bool) : ∀ {ns : List (List Int)}, (∀ l ∈ ns, TtB K tt (ρ.set j (some (Slot.imm (tupJ l)))) β (f l) β ∧ EvB K te (ρ.set j (some (Slot.imm (tupJ l)))) β (tupJ l) β) → LcR K j tt te (ns.map tupJ) ρ β ((ns.filter f).map tupJ) β
  | [], _ => .nil ρ β
  | l :: ns, h => by
    obtain ⟨h1, h2⟩ := h l List.mem_cons_self
    have ih := lc_tups f (ns := ns) fun m hm => h m (List.mem_cons_of_mem _ hm)
    rw [List.filter_cons]
    cases e : f l with
    | true =>
      rw [e] at h1
      rw [if_pos rfl]
      exact .yes h1 h2 ih
    | false =>
      rw [e] at h1
      rw [if_neg (Bool.false_ne_true)]
      exact .no h1 ih
theorem ch_all {P : Program} {w : World} {K : PySem.W.Frag} {mg : Str → Option Value} {base : Heap} {Y : Cn} (F : DefAt K "choices" s_choices) (hX : K.In base) (hG : base.Ns mainGlobals mg) (T : Txt K mg Y) : ∀ n, FnG P w K mg base (n + 2) "choices" ["items", "many"] (R_ch n)
  | 0 => ch_bottom F hX hG sc_choices
  | n + 1 => ok_choices F hX hG T (ch_all F hX hG T n)
def NoWeb (d : Dt) : Prop := d = .none ∨ (∃ i, d = .int i) ∨ (∃ ds, d = .tuple ds) ∨ (∃ ds, d = .list ds) ∨ ∃ s, d = .str s
theorem d_noWeb {K : PySem.W.Frag} {mg : Str → Option Value} {Y : Cn} {ρ : Rho} {β β1 : Bag} {te : TE} {d : Dt} (T : Txt K mg Y) (h : EvB K te ρ β d β1) (hd : NoWeb d) : EvB K (tCB (rIsiR K) (tCons te (tCons (tC (.ref Y.cl)) tNil))) ρ β (.bool false) β1 := by
  rcases hd with rfl | ⟨i, rfl⟩ | ⟨ds, rfl⟩ | ⟨ds, rfl⟩ | ⟨s, rfl⟩
  · exact d_isNon h T.kN
  · exact d_isInt0 h T.kI
  · exact d_isNo h (.inl ⟨_, rfl⟩) T.kT T.kL T.kS
  · exact d_isNo h (.inr (.inl ⟨_, rfl⟩)) T.kT T.kL T.kS
  · exact d_isNo h (.inr (.inr ⟨_, rfl⟩)) T.kT T.kL T.kS
theorem ties_few {ts : List (List Int)} (h : ∀ t ∈ ts, t ∈ tiesL) (nd : ts.Nodup) : ts.length ≤ 6 := List.Nodup.length_le_of_subset (l₂ := tiesL) nd h
theorem WebOk.more {ts : List (List Int)} {l : List Int} (h : WebOk ts) (hl : l ∈ tiesL) (hn : l ∉ ts) : WebOk (ts ++ [l]) := by
  have all : ∀ t ∈ ts ++ [l], t ∈ tiesL := fun t ht => by
    rcases List.mem_append.mp ht with q | q
    · exact h.tie t q
    · rw [List.mem_singleton.mp q]
      exact hl
  have nd : (ts ++ [l]).Nodup := List.nodup_append.mpr ⟨h.nd, by simp, fun a ha b hb e => hn (by rw [← List.mem_singleton.mp hb, ← e]; exact ha)⟩
  exact ⟨by rw [List.length_append]; exact Nat.le_trans h.pos (Nat.le_add_right _ _), ties_few all nd, all, nd⟩
theorem WebOk.less {ts : List (List Int)} {l : List Int} (h : WebOk ts) (hl : l ∈ ts) (h1 : ts.length ≠ 1) : WebOk (ts.filter fun o => !decide (o = l)) := by
  have sub : ∀ t ∈ ts.filter (fun o => !decide (o = l)), t ∈ ts := fun t ht => (List.mem_filter.mp ht).1
  have nd := h.nd.sublist (List.filter_sublist (p := fun o => !decide (o = l)))
  refine ⟨?_, ties_few (fun t ht => h.tie t (sub t ht)) nd, fun t ht => h.tie t (sub t ht), nd⟩
  obtain ⟨m, hm, ne⟩ : ∃ m ∈ ts, m ≠ l := by
    match ts, h.nd, h.pos, h1 with
    | [x], _, _, h1 => exact absurd rfl h1
    | x :: y :: r, nd, _, _ =>
      by_cases e : x = l
      · exact ⟨y, by simp, fun z => (List.nodup_cons.mp nd).1 (by rw [e, ← z]; exact List.mem_cons_self)⟩
      · exact ⟨x, by simp, e⟩
  exact List.length_pos_iff.mpr (List.ne_nil_of_mem (List.mem_filter.mpr ⟨hm, by simpa using ne⟩))
abbrev s_need_web : Stmt := top 41
theorem sc_need_web : FnScope ["web"] ["web"] (defScope s_need_web) := ⟨rfl, rfl, rfl, by decide +kernel, rfl, by decide +kernel, by decide +kernel⟩
abbrev R_need_web (Y : Cn) : FX := fun as β r β' => ∃ d, as = [.imm d] ∧ NoWeb d ∧ r = .ex Y.cV none ∧ β = none ∧ β' = none
theorem ok_need_web {P : Program} {w : World} {K : PySem.W.Frag} {mg : Str → Option Value} {base : Heap} {Y : Cn} (F : DefAt K "need_web" s_need_web) (hX : K.In base) (hG : base.Ns mainGlobals mg) (T : Txt K mg Y)  : FnX P w K mg base 1 "need_web" ["web"] (R_need_web Y) := by
  have nd := sc_need_web.nd
  refine fnX_mk F hX hG sc_need_web (fun as β r β' h => by first | exact FR.len h | (obtain ⟨_, rfl, _⟩ := h; rfl) | (obtain ⟨_, _, rfl, _⟩ := h; rfl) | (obtain ⟨_, _, _, rfl, _⟩ := h; rfl) | (obtain ⟨_, _, _, _, rfl, _⟩ := h; rfl) | (obtain ⟨_, _, _, _, _, rfl, _⟩ := h; rfl)) (fun _ _ _ _ _ _ _ us hl => match us, hl with | [_], _ => rfl) (fun f cdv A outer s H E hr => ⟨_, (pss_one (ps_if (pt_not (pt_val (pe_callB (call_isiK (K := K)) (by rfl) T.z_isinstance bo_isinstance (pa_cons (pv 0) (pa_cons (pe_glob (v := .ref _) (by rfl) T.k_Web rfl) pa_nil))))) (pss_one (ps_raiseBare T.b_InvalidWeb (takes_of rfl rfl rfl rfl))) pss_nil)), fun as β r β' hR => ?_⟩)
  obtain ⟨d, rfl, hd, rfl, rfl, rfl⟩ := hR
  exact .ex (stR_ifT ((t_not (t_B (d_noWeb T (d_var rfl) hd))).to rfl) st_raise0)
abbrev s_Web_ties : Stmt := inCls (top 48) 2
theorem sc_Web_ties : FnScope ["self"] ["self"] (defScope s_Web_ties) := ⟨rfl, rfl, rfl, by decide +kernel, rfl, by decide +kernel, by decide +kernel⟩
abbrev R_Web_ties (Y : Cn) : FR := fun as β r β' => ∃ ts, as = [.imm (webD Y.cl ts)] ∧ r = .tuple (ts.map tupJ) ∧ β = none ∧ β' = none
theorem ok_Web_ties {P : Program} {w : World} {K : PySem.W.Frag} {mg : Str → Option Value} {base : Heap} {Y : Cn} (F : PropAt K Y.cl "ties" "Web.ties" s_Web_ties) (hX : K.In base) (hG : base.Ns mainGlobals mg) (T : Txt K mg Y)  : FnP P w K mg base 1 Y.cl "ties" (R_Web_ties Y) := by
  have nd := sc_Web_ties.nd
  refine prop_mk F sc_Web_ties (fun as β r β' h => by first | (obtain ⟨_, rfl, _⟩ := h; rfl) | (obtain ⟨_, _, rfl, _⟩ := h; rfl) | (obtain ⟨_, _, _, rfl, _⟩ := h; rfl) | (obtain ⟨_, _, _, _, rfl, _⟩ := h; rfl) | (obtain ⟨_, _, _, _, _, rfl, _⟩ := h; rfl) | (obtain ⟨_, _, _, _, _, _, rfl, _⟩ := h; rfl)) (fun _ _ _ _ _ _ _ us hl => match us, hl with | [_], _ => rfl) (fun f cdv A outer s H E hr => ⟨_, (pss_one (ps_ret (pe_fld (pv 0) (by rfl)))), fun as β r β' hR => ?_⟩)
  obtain ⟨ts, rfl, rfl, rfl, rfl⟩ := hR
  exact .ret (st_ret (d_fld (d_var rfl) T.m_ties rfl))
abbrev s_Web_is_whole : Stmt := inCls (top 48) 3
theorem sc_Web_is_whole : FnScope ["self"] ["self"] (defScope s_Web_is_whole) := ⟨rfl, rfl, rfl, by decide +kernel, rfl, by decide +kernel, by decide +kernel⟩
abbrev R_Web_is_whole (Y : Cn) : FR := fun as β r β' => ∃ ts, as = [.imm (webD Y.cl ts)] ∧ (∀ t ∈ ts, t ∈ tiesL) ∧ r = .bool (decide ((reachF ts).length = 4)) ∧ β = none ∧ β' = none
theorem ok_Web_is_whole {P : Program} {w : World} {K : PySem.W.Frag} {mg : Str → Option Value} {base : Heap} {Y : Cn} (F : PropAt K Y.cl "is_whole" "Web.is_whole" s_Web_is_whole) (hX : K.In base) (hG : base.Ns mainGlobals mg) (T : Txt K mg Y) (G_reached_from_first : FnG P w K mg base 1 "reached_from_first" ["ties"] R_reached_from_first) : FnP P w K mg base 2 Y.cl "is_whole" (R_Web_is_whole Y) := by
  have nd := sc_Web_is_whole.nd
  refine prop_mk F sc_Web_is_whole (fun as β r β' h => by first | (obtain ⟨_, rfl, _⟩ := h; rfl) | (obtain ⟨_, _, rfl, _⟩ := h; rfl) | (obtain ⟨_, _, _, rfl, _⟩ := h; rfl) | (obtain ⟨_, _, _, _, rfl, _⟩ := h; rfl) | (obtain ⟨_, _, _, _, _, rfl, _⟩ := h; rfl) | (obtain ⟨_, _, _, _, _, _, rfl, _⟩ := h; rfl)) (fun _ _ _ _ _ _ _ us hl => match us, hl with | [_], _ => rfl) (fun f cdv A outer s H E hr => ⟨_, (pss_one (ps_ret (pe_cmpR op_eq (pe_callB (c_lenK (K := K)) (by rfl) T.z_len bo_len (pa_cons (pe_fn G_reached_from_first (hr.mono (by decide)) (pa_cons (pe_fld (pv 0) (by rfl)) pa_nil)) pa_nil)) (pe_callB (c_lenK (K := K)) (by rfl) T.z_len bo_len (pa_cons (pe_glob (v := .ref _) (by rfl) T.c_POINTS rfl) pa_nil)) (nomark _)))), fun as β r β' hR => ?_⟩)
  obtain ⟨ts, rfl, hT, rfl, rfl, rfl⟩ := hR
  refine .ret (st_ret ((d_eqI (d_len (c_f1 (x := ts) (d_fld (d_var rfl) T.m_ties rfl) hT) (.inl rfl)) (d_lenKI T.q_POINTS)).to ?_))
  rw [List.length_map]
  exact congrArg PyData.bool (decide_eq_decide.mpr (by show (((reachF ts).length : Nat) : Int) = ((4 : Nat) : Int) ↔ _; omega))
abbrev s_Web_lot_over : Stmt := inCls (top 48) 4
theorem sc_Web_lot_over : FnScope ["self", "prime", "one", "other"] ["self", "prime"] (defScope s_Web_lot_over) := ⟨rfl, rfl, rfl, by decide +kernel, rfl, by decide +kernel, by decide +kernel⟩
abbrev R_Web_lot_over (Y : Cn) : FX := fun as β r β' => ∃ ts d, as = [.imm (webD Y.cl ts), .imm d] ∧ Num.isPrime d = false ∧ r = .ex Y.cN (some ("given", d)) ∧ β = none ∧ β' = none
theorem ok_Web_lot_over {P : Program} {w : World} {K : PySem.W.Frag} {mg : Str → Option Value} {base : Heap} {Y : Cn} (F : MethAt K Y.cl "lot_over" "Web.lot_over" s_Web_lot_over) (hX : K.In base) (hG : base.Ns mainGlobals mg) (T : Txt K mg Y) (G_need_prime : FnX P w K mg base 3 "need_prime" ["prime"] (R_need_prime Y)) : FnMX P w K mg base 4 Y.cl "lot_over" ["self", "prime"] (R_Web_lot_over Y) := by
  have nd := sc_Web_lot_over.nd
  refine methX_mk F sc_Web_lot_over (fun as β r β' h => by first | (obtain ⟨_, rfl, _⟩ := h; rfl) | (obtain ⟨_, _, rfl, _⟩ := h; rfl) | (obtain ⟨_, _, _, rfl, _⟩ := h; rfl) | (obtain ⟨_, _, _, _, rfl, _⟩ := h; rfl) | (obtain ⟨_, _, _, _, _, rfl, _⟩ := h; rfl) | (obtain ⟨_, _, _, _, _, _, rfl, _⟩ := h; rfl)) (fun _ _ _ _ _ _ _ us hl => match us, hl with | [_, _], _ => rfl) (fun f cdv A outer s H E hr => ⟨_, (pss_cons (ps_expr (pe_fnX G_need_prime (hr.mono (by decide)) (pass_x (takes_of rfl rfl rfl rfl)) (pa_cons (pv 1) pa_nil))) pss_never), fun as β r β' hR => ?_⟩)
  obtain ⟨ts, d, rfl, h, rfl, rfl, rfl⟩ := hR
  exact .ex (stR_seq (stR_drop (x_raise0 (a_con (d_var rfl) a_nil) ⟨d, rfl, .inr ⟨h, rfl⟩, rfl, rfl⟩)))
abbrev s_Web_with_tie : Stmt := inCls (top 48) 5
theorem sc_Web_with_tie : FnScope ["self", "tie"] ["self", "tie"] (defScope s_Web_with_tie) := ⟨rfl, rfl, rfl, by decide +kernel, rfl, by decide +kernel, by decide +kernel⟩
abbrev R_Web_with_tie (Y : Cn) : FX := fun as β r β' => ∃ ts d, as = [.imm (webD Y.cl ts), .imm d] ∧ WebOk ts ∧ (((isTieD d = false ∨ ∃ l, d = tupJ l ∧ l ∈ ts) ∧ r = .ex Y.cO none) ∨ (∃ l, d = tupJ l ∧ l ∈ tiesL ∧ l ∉ ts ∧ r = .ok (webD Y.cl (sortX (ts ++ [l]))))) ∧ β = none ∧ β' = none
theorem ok_Web_with_tie {P : Program} {w : World} {K : PySem.W.Frag} {mg : Str → Option Value} {base : Heap} {Y : Cn} (F : MethAt K Y.cl "with_tie" "Web.with_tie" s_Web_with_tie) (hX : K.In base) (hG : base.Ns mainGlobals mg) (T : Txt K mg Y) (G_Web_init : FnI P w K mg base 5 "Web" Y.cl ["self", "ties"] (R_Web_init Y)) (G_is_tie : FnG P w K mg base 4 "is_tie" ["value"] R_is_tie) : FnMX P w K mg base 7 Y.cl "with_tie" ["self", "tie"] (R_Web_with_tie Y) := by
  have nd := sc_Web_with_tie.nd
  refine methX_mk F sc_Web_with_tie (fun as β r β' h => by first | (obtain ⟨_, rfl, _⟩ := h; rfl) | (obtain ⟨_, _, rfl, _⟩ := h; rfl) | (obtain ⟨_, _, _, rfl, _⟩ := h; rfl) | (obtain ⟨_, _, _, _, rfl, _⟩ := h; rfl) | (obtain ⟨_, _, _, _, _, rfl, _⟩ := h; rfl) | (obtain ⟨_, _, _, _, _, _, rfl, _⟩ := h; rfl)) (fun _ _ _ _ _ _ _ us hl => match us, hl with | [_, _], _ => rfl) (fun f cdv A outer s H E hr => ⟨_, (pss_cons (ps_if (PW.pt (pw_or (pt_not (pt_val (pe_fn G_is_tie (hr.mono (by decide)) (pa_cons (pv 1) pa_nil)))) (pw_or1 (pt_cmpR (op_inTup (K := K) (units1 hr)) (pv 1) (pe_fld (pv 0) (by rfl)) (by rfl))))) (pss_one (ps_raiseBare T.b_InvalidOperation (takes_of rfl rfl rfl rfl))) pss_nil) (pss_one (ps_ret (pe_new G_Web_init (hr.mono (by decide)) (pass_x (takes_of rfl rfl rfl rfl)) (pa_cons (pe_tup (pa_starK (K := K) (pe_fld (pv 0) (by rfl)) (pa_cons (pv 1) pa_nil))) pa_nil))))), fun as β r β' hR => ?_⟩)
  obtain ⟨ts, d, rfl, hW, h, rfl, rfl⟩ := hR
  have c1 : ∀ d, TtB K (tNot (tB (tCall (spR K R_is_tie) [] E0 (tCons (tVar 1) tNil)))) (startR ["self", "tie"] [.imm (webD Y.cl ts), .imm d]) none (!isTieD d) none := fun d => t_not (t_B (c_f1 (d_var rfl) trivial))
  have c2 : ∀ l, TtB K (tTest (tOp (rInTup K) (tVar 1) (tFld K (tVar 0) "_ties"))) (startR ["self", "tie"] [.imm (webD Y.cl ts), .imm (tupJ l)]) none (decide (l ∈ ts)) none := fun l => t_test (d_inTT (d_var rfl) (d_fld (d_var rfl) T.m_ties rfl))
  rcases h with ⟨h, rfl⟩ | ⟨l, rfl, hl, hn, rfl⟩
  · rcases h with h | ⟨l, rfl, hl⟩
    · exact .ex (stR_seq (stR_ifT (t_orT ((c1 d).to (by rw [h] <;> rfl))) st_raise0))
    · exact .ex (stR_seq (stR_ifT (t_orF ((c1 _).to (by rw [tie_is l (hW.tie l hl)] <;> rfl)) ((c2 l).to (decide_eq_true hl))) st_raise0))
  · have hM := hW.more hl hn
    have few := hM.few
    refine .ok (.ret (st_sq (st_ifF (t_orF ((c1 _).to (by rw [tie_is l hl] <;> rfl)) ((c2 l).to (decide_eq_false hn))) st_next) (st_ret (x_new (ps := webF (sortX (ts ++ [l]))) (a_con (d := .tuple ((ts ++ [l]).map tupJ)) (d_tup (as := imms (ts.map tupJ) ++ [.imm (tupJ l)]) (a_star (d_fld (d_var rfl) T.m_ties rfl) (.inr rfl) (a_con (d_var rfl) a_nil)) (by rw [List.map_append]; unfold imms; rw [List.map_append]; rfl) (by rw [List.length_map]; omega)) a_nil) ⟨_, rfl, .inr ⟨ts ++ [l], rfl, hM, rfl⟩, rfl, rfl⟩))))
abbrev s_Web_without_tie : Stmt := inCls (top 48) 6
theorem sc_Web_without_tie : FnScope ["self", "tie", "other"] ["self", "tie"] (defScope s_Web_without_tie) := ⟨rfl, rfl, rfl, by decide +kernel, rfl, by decide +kernel, by decide +kernel⟩
abbrev R_Web_without_tie (Y : Cn) : FX := fun as β r β' => ∃ ts d, as = [.imm (webD Y.cl ts), .imm d] ∧ WebOk ts ∧ (((isTieD d = false ∨ ∃ l, d = tupJ l ∧ l ∈ tiesL ∧ l ∉ ts) ∧ r = .ex Y.cO none) ∨ (∃ l, d = tupJ l ∧ l ∈ ts ∧ ((ts.length = 1 ∧ r = .ex Y.cR (some ("reason", .tuple [.str "last"]))) ∨ (ts.length ≠ 1 ∧ r = .ok (webD Y.cl (sortX (ts.filter fun o => !decide (o = l)))))))) ∧ β = none ∧ β' = none
theorem ok_Web_without_tie {P : Program} {w : World} {K : PySem.W.Frag} {mg : Str → Option Value} {base : Heap} {Y : Cn} (F : MethAt K Y.cl "without_tie" "Web.without_tie" s_Web_without_tie) (hX : K.In base) (hG : base.Ns mainGlobals mg) (T : Txt K mg Y) (G_Web_init : FnI P w K mg base 5 "Web" Y.cl ["self", "ties"] (R_Web_init Y)) (G_is_tie : FnG P w K mg base 4 "is_tie" ["value"] R_is_tie) : FnMX P w K mg base 7 Y.cl "without_tie" ["self", "tie"] (R_Web_without_tie Y) := by
  have nd := sc_Web_without_tie.nd
  refine methX_mk F sc_Web_without_tie (fun as β r β' h => by first | (obtain ⟨_, rfl, _⟩ := h; rfl) | (obtain ⟨_, _, rfl, _⟩ := h; rfl) | (obtain ⟨_, _, _, rfl, _⟩ := h; rfl) | (obtain ⟨_, _, _, _, rfl, _⟩ := h; rfl) | (obtain ⟨_, _, _, _, _, rfl, _⟩ := h; rfl) | (obtain ⟨_, _, _, _, _, _, rfl, _⟩ := h; rfl)) (fun _ _ _ _ _ _ _ us hl => match us, hl with | [_, _], _ => rfl) (fun f cdv A outer s H E hr => ⟨_, (pss_cons (ps_if (PW.pt (pw_or (pt_not (pt_val (pe_fn G_is_tie (hr.mono (by decide)) (pa_cons (pv 1) pa_nil)))) (pw_or1 (pt_cmpR (op_notInT (K := K) (units1 hr)) (pv 1) (pe_fld (pv 0) (by rfl)) (by rfl))))) (pss_one (ps_raiseBare T.b_InvalidOperation (takes_of rfl rfl rfl rfl))) pss_nil) (pss_cons (ps_if (pt_cmpR op_eq (pe_callB (c_lenK (K := K)) (by rfl) T.z_len bo_len (pa_cons (pe_fld (pv 0) (by rfl)) pa_nil)) pe_int (nomark _)) (pss_one (ps_raiseOwn T.o_Refused hr (takes_of rfl rfl rfl rfl) (pa_cons (pe_tup (pa_cons pe_str pa_nil)) pa_nil))) pss_nil) (pss_one (ps_ret (pe_new G_Web_init (hr.mono (by decide)) (pass_x (takes_of rfl rfl rfl rfl)) (pa_cons (pe_callTy c_tuple (by rfl) T.z_tuple bo_tuple (pa_cons (pe_lc (own := [("other", 2)]) rfl nd (pi_tup (pe_fld (pv 0) (by rfl))) (blkOk_by (N := ["self", "tie", "other"]) (sc := defScope s_Web_without_tie) (by decide +kernel)) (fun _ _ _ _ _ => by exact (pg_name (i := 2) nd rfl (Or.inl rfl))) (fun _ _ _ _ _ => by exact (pts_one (pt_cmpR (op_ofK (K := K) (r := rNeD) (op_neD hr.units)) (pv 2) (pv 1) (nomark _)))) (fun _ _ _ _ _ => by exact (pv 2))) pa_nil)) pa_nil)))))), fun as β r β' hR => ?_⟩)
  obtain ⟨ts, d, rfl, hW, h, rfl, rfl⟩ := hR
  have few := hW.few
  have c1 : ∀ d, TtB K (tNot (tB (tCall (spR K R_is_tie) [] E0 (tCons (tVar 1) tNil)))) (startR ["self", "tie", "other"] [.imm (webD Y.cl ts), .imm d]) none (!isTieD d) none := fun d => t_not (t_B (c_f1 (d_var rfl) trivial))
  have c2 : ∀ l, TtB K (tTest (tOp (rNotInT K) (tVar 1) (tFld K (tVar 0) "_ties"))) (startR ["self", "tie", "other"] [.imm (webD Y.cl ts), .imm (tupJ l)]) none (!decide (l ∈ ts)) none := fun l => t_test (d_notInTT (d_var rfl) (d_fld (d_var rfl) T.m_ties rfl))
  have c3 : ∀ l, TtB K (tTest (tOp rEq (tCB (TD.rLen K) (tCons (tFld K (tVar 0) "_ties") tNil)) (tC (.int 1)))) (startR ["self", "tie", "other"] [.imm (webD Y.cl ts), .imm (tupJ l)]) none (decide (ts.length = 1)) none := fun l => (t_test (d_eqI (d_len (d_fld (d_var rfl) T.m_ties rfl) (.inr rfl)) d_int)).to (by rw [List.length_map]; exact decide_eq_decide.mpr (by omega))
  rcases h with ⟨h, rfl⟩ | ⟨l, rfl, hl, h⟩
  · rcases h with h | ⟨l, rfl, hl, hn⟩
    · exact .ex (stR_seq (stR_ifT (t_orT ((c1 d).to (by rw [h] <;> rfl))) st_raise0))
    · exact .ex (stR_seq (stR_ifT (t_orF ((c1 _).to (by rw [tie_is l hl] <;> rfl)) ((c2 l).to (by rw [decide_eq_false hn]; rfl))) st_raise0))
  · have go : TtB K (tOr (tNot (tB (tCall (spR K R_is_tie) [] E0 (tCons (tVar 1) tNil)))) (tTest (tOp (rNotInT K) (tVar 1) (tFld K (tVar 0) "_ties")))) (startR ["self", "tie", "other"] [.imm (webD Y.cl ts), .imm (tupJ l)]) none false none := t_orF ((c1 _).to (by rw [tie_is l (hW.tie l hl)] <;> rfl)) ((c2 l).to (by rw [decide_eq_true hl]; rfl))
    rcases h with ⟨h1, rfl⟩ | ⟨h1, rfl⟩
    · exact .ex (stR_then (st_ifF go st_next) (stR_seq (stR_ifT ((c3 l).to (decide_eq_true h1)) (st_raiseK (d_tup (ds := [.str "last"]) (a_lit d_str a_nil) rfl (by decide))))))
    · have hM := hW.less hl h1
      have le : (ts.filter fun o => !decide (o = l)).length ≤ ts.length := List.length_filter_le _ _
      exact .ok (.ret (st_sq (st_ifF go st_next) (st_sq (st_ifF ((c3 l).to (decide_eq_false h1)) st_next) (st_ret (x_new (ps := webF (sortX (ts.filter fun o => !decide (o = l)))) (a_con (d := .tuple ((ts.filter fun o => !decide (o = l)).map tupJ)) (d_tupleOf (d_lcT (ds := ts.map tupJ) (d_fld (d_var rfl) T.m_ties rfl) (lc_tups (fun o => !decide (o = l)) fun o ho => ⟨t_test (d_neTT (d_var rfl) (d_var rfl)), d_var rfl⟩) (by rw [List.length_map]; omega) (wipe_ok (by decide)))) a_nil) ⟨_, rfl, .inr ⟨_, rfl, hM, rfl⟩, rfl, rfl⟩)))))
abbrev s_Web_renamed : Stmt := inCls (top 48) 7
theorem sc_Web_renamed : FnScope ["self", "points", "pairs", "one", "other", "pair"] ["self", "points"] (defScope s_Web_renamed) := ⟨rfl, rfl, rfl, by decide +kernel, rfl, by decide +kernel, by decide +kernel⟩
abbrev R_Web_renamed (Y : Cn) : FX := fun as β r β' => ∃ ts d, as = [.imm (webD Y.cl ts), .imm d] ∧ allPts d = false ∧ r = .ex Y.cO none ∧ β = none ∧ β' = none
theorem ok_Web_renamed {P : Program} {w : World} {K : PySem.W.Frag} {mg : Str → Option Value} {base : Heap} {Y : Cn} (F : MethAt K Y.cl "renamed" "Web.renamed" s_Web_renamed) (hX : K.In base) (hG : base.Ns mainGlobals mg) (T : Txt K mg Y) (G_are_all_points : FnG P w K mg base 4 "are_all_points" ["value"] R_are_all_points) : FnMX P w K mg base 7 Y.cl "renamed" ["self", "points"] (R_Web_renamed Y) := by
  have nd := sc_Web_renamed.nd
  refine methX_mk F sc_Web_renamed (fun as β r β' h => by first | (obtain ⟨_, rfl, _⟩ := h; rfl) | (obtain ⟨_, _, rfl, _⟩ := h; rfl) | (obtain ⟨_, _, _, rfl, _⟩ := h; rfl) | (obtain ⟨_, _, _, _, rfl, _⟩ := h; rfl) | (obtain ⟨_, _, _, _, _, rfl, _⟩ := h; rfl) | (obtain ⟨_, _, _, _, _, _, rfl, _⟩ := h; rfl)) (fun _ _ _ _ _ _ _ us hl => match us, hl with | [_, _], _ => rfl) (fun f cdv A outer s H E hr => ⟨_, (pss_cons (ps_if (pt_not (pt_val (pe_fn G_are_all_points (hr.mono (by decide)) (pa_cons (pv 1) pa_nil)))) (pss_one (ps_raiseBare T.b_InvalidOperation (takes_of rfl rfl rfl rfl))) pss_nil) pss_never), fun as β r β' hR => ?_⟩)
  obtain ⟨ts, d, rfl, h, rfl, rfl, rfl⟩ := hR
  have c1 : TtB K (tNot (tB (tCall (spR K R_are_all_points) [] E0 (tCons (tVar 1) tNil)))) (startR ["self", "points", "pairs", "one", "other", "pair"] [.imm (webD Y.cl ts), .imm d]) none (!allPts d) none := t_not (t_B (c_f1 (d_var rfl) trivial))
  exact .ex (stR_seq (stR_ifT (c1.to (by rw [h] <;> rfl)) st_raise0))
abbrev s_Web_contains : Stmt := inCls (top 48) 8
theorem sc_Web_contains : FnScope ["self", "x"] ["self", "x"] (defScope s_Web_contains) := ⟨rfl, rfl, rfl, by decide +kernel, rfl, by decide +kernel, by decide +kernel⟩
abbrev R_Web_contains (Y : Cn) : FR := fun as β r β' => ∃ ts d, as = [.imm (webD Y.cl ts), .imm d] ∧ r = .bool (isTieD d && decide (ofT d ∈ ts)) ∧ β = none ∧ β' = none
theorem ok_Web_contains {P : Program} {w : World} {K : PySem.W.Frag} {mg : Str → Option Value} {base : Heap} {Y : Cn} (F : MethAt K Y.cl "__contains__" "Web.__contains__" s_Web_contains) (hX : K.In base) (hG : base.Ns mainGlobals mg) (T : Txt K mg Y) (G_is_tie : FnG P w K mg base 4 "is_tie" ["value"] R_is_tie) : FnM P w K mg base 5 Y.cl "__contains__" ["self", "x"] (R_Web_contains Y) := by
  have nd := sc_Web_contains.nd
  refine meth_mk F sc_Web_contains (fun as β r β' h => by first | (obtain ⟨_, rfl, _⟩ := h; rfl) | (obtain ⟨_, _, rfl, _⟩ := h; rfl) | (obtain ⟨_, _, _, rfl, _⟩ := h; rfl) | (obtain ⟨_, _, _, _, rfl, _⟩ := h; rfl) | (obtain ⟨_, _, _, _, _, rfl, _⟩ := h; rfl) | (obtain ⟨_, _, _, _, _, _, rfl, _⟩ := h; rfl)) (fun _ _ _ _ _ _ _ us hl => match us, hl with | [_, _], _ => rfl) (fun f cdv A outer s H E hr => ⟨_, (pss_one (ps_ret (pe_and (pe_fn G_is_tie (hr.mono (by decide)) (pa_cons (pv 1) pa_nil)) (pe_one (pe_cmpR (op_inTup (K := K) (units1 hr)) (pv 1) (pe_fld (pv 0) (by rfl)) (by rfl)))))), fun as β r β' hR => ?_⟩)
  obtain ⟨ts, d, rfl, rfl, rfl, rfl⟩ := hR
  exact .ret (st_ret (d_and (c_f1 (d_var rfl) trivial) fun h => by
    obtain ⟨l, rfl, hl⟩ := tie_ex h
    exact (d_inTT (d_var rfl) (d_fld (d_var rfl) T.m_ties rfl)).to (by rw [ofT_tup])))
abbrev s_Web_len : Stmt := inCls (top 48) 9
theorem sc_Web_len : FnScope ["self"] ["self"] (defScope s_Web_len) := ⟨rfl, rfl, rfl, by decide +kernel, rfl, by decide +kernel, by decide +kernel⟩
abbrev R_Web_len (Y : Cn) : FR := fun as β r β' => ∃ ts, as = [.imm (webD Y.cl ts)] ∧ r = .int (ts.length : Int) ∧ β = none ∧ β' = none
theorem ok_Web_len {P : Program} {w : World} {K : PySem.W.Frag} {mg : Str → Option Value} {base : Heap} {Y : Cn} (F : MethAt K Y.cl "__len__" "Web.__len__" s_Web_len) (hX : K.In base) (hG : base.Ns mainGlobals mg) (T : Txt K mg Y)  : FnM P w K mg base 1 Y.cl "__len__" ["self"] (R_Web_len Y) := by
  have nd := sc_Web_len.nd
  refine meth_mk F sc_Web_len (fun as β r β' h => by first | (obtain ⟨_, rfl, _⟩ := h; rfl) | (obtain ⟨_, _, rfl, _⟩ := h; rfl) | (obtain ⟨_, _, _, rfl, _⟩ := h; rfl) | (obtain ⟨_, _, _, _, rfl, _⟩ := h; rfl) | (obtain ⟨_, _, _, _, _, rfl, _⟩ := h; rfl) | (obtain ⟨_, _, _, _, _, _, rfl, _⟩ := h; rfl)) (fun _ _ _ _ _ _ _ us hl => match us, hl with | [_], _ => rfl) (fun f cdv A outer s H E hr => ⟨_, (pss_one (ps_ret (pe_callB (c_lenK (K := K)) (by rfl) T.z_len bo_len (pa_cons (pe_fld (pv 0) (by rfl)) pa_nil)))), fun as β r β' hR => ?_⟩)
  obtain ⟨ts, rfl, rfl, rfl, rfl⟩ := hR
  exact .ret (st_ret ((d_len (d_fld (d_var rfl) T.m_ties rfl) (.inr rfl)).to (by rw [List.length_map])))
abbrev s_Web_eq : Stmt := inCls (top 48) 11
theorem sc_Web_eq : FnScope ["self", "other"] ["self", "other"] (defScope s_Web_eq) := ⟨rfl, rfl, rfl, by decide +kernel, rfl, by decide +kernel, by decide +kernel⟩
abbrev R_Web_eq (Y : Cn) : FR := fun as β r β' => ∃ ts d, as = [.imm (webD Y.cl ts), .imm d] ∧ ((NoWeb d ∧ r = .bool false) ∨ ∃ us, d = webD Y.cl us ∧ r = .bool (decide (ts = us))) ∧ β = none ∧ β' = none
theorem ok_Web_eq {P : Program} {w : World} {K : PySem.W.Frag} {mg : Str → Option Value} {base : Heap} {Y : Cn} (F : MethAt K Y.cl "__eq__" "Web.__eq__" s_Web_eq) (hX : K.In base) (hG : base.Ns mainGlobals mg) (T : Txt K mg Y)  : FnM P w K mg base 1 Y.cl "__eq__" ["self", "other"] (R_Web_eq Y) := by
  have nd := sc_Web_eq.nd
  refine meth_mk F sc_Web_eq (fun as β r β' h => by first | (obtain ⟨_, rfl, _⟩ := h; rfl) | (obtain ⟨_, _, rfl, _⟩ := h; rfl) | (obtain ⟨_, _, _, rfl, _⟩ := h; rfl) | (obtain ⟨_, _, _, _, rfl, _⟩ := h; rfl) | (obtain ⟨_, _, _, _, _, rfl, _⟩ := h; rfl) | (obtain ⟨_, _, _, _, _, _, rfl, _⟩ := h; rfl)) (fun _ _ _ _ _ _ _ us hl => match us, hl with | [_, _], _ => rfl) (fun f cdv A outer s H E hr => ⟨_, (pss_one (ps_ret (pe_and (pe_callB (call_isiK (K := K)) (by rfl) T.z_isinstance bo_isinstance (pa_cons (pv 1) (pa_cons (pe_glob (v := .ref _) (by rfl) T.k_Web rfl) pa_nil))) (pe_one (pe_cmpR (op_eqD hr.units) (pe_fld (pv 0) (by rfl)) (pe_fld (pv 1) (by rfl)) (nomark _)))))), fun as β r β' hR => ?_⟩)
  obtain ⟨ts, d, rfl, h, rfl, rfl⟩ := hR
  rcases h with ⟨h, rfl⟩ | ⟨us, rfl, rfl⟩
  · exact .ret (st_ret (d_andF (d_noWeb T (d_var rfl) h)))
  · exact .ret (st_ret (d_andT (d_isC (d_var rfl) T.iself) (d_eqTs (d_fld (d_var rfl) T.m_ties rfl) (d_fld (d_var rfl) T.m_ties rfl))))
abbrev s_Web_iter : Stmt := inCls (top 48) 10
theorem sc_Web_iter : FnScope ["self"] ["self"] (defScope s_Web_iter) := ⟨rfl, rfl, rfl, by decide +kernel, rfl, by decide +kernel, by decide +kernel⟩
theorem ok_Web_iter {P : Program} {w : World} {K : PySem.W.Frag} {mg : Str → Option Value} {base : Heap} {Y : Cn} (F : MethAt K Y.cl "__iter__" "Web.__iter__" s_Web_iter) (hX : K.In base) (hG : base.Ns mainGlobals mg) (T : Txt K mg Y) : FnIt P w K mg base 1 Y.cl "_ties" := by
  have nd := sc_Web_iter.nd
  refine fnIt_mk F sc_Web_iter (fun _ _ _ _ _ _ _ us hl => match us, hl with | [_], _ => rfl) (fun f cdv A outer s H E hr => ⟨_, (pss_one (ps_ret (pe_callB cr_iterT (by rfl) T.z_iter bo_iter (pa_cons (pe_fld (pv 0) (by rfl)) pa_nil)))), fun vs H Q E h => ?_⟩)
  obtain ⟨a, dx, t, fs, zs, rfl, h1, h2, h3, k⟩ := h
  exact ⟨_, rfl, a, Y.cl, dx, fs, .ref t, rfl, h1, F.ins.ic.cl, T.m_ties, h2, t, zs, rfl, h3, k⟩
abbrev s_open_ring : Stmt := top 49
theorem sc_open_ring : FnScope ["web", "ties", "point", "second", "last", "third"] ["web"] (defScope s_open_ring) := ⟨rfl, rfl, rfl, by decide +kernel, rfl, by decide +kernel, by decide +kernel⟩
abbrev R_open_ring (Y : Cn) : FX := fun as β r β' => ∃ d, as = [.imm d] ∧ NoWeb d ∧ r = .ex Y.cV none ∧ β = none ∧ β' = none
theorem ok_open_ring {P : Program} {w : World} {K : PySem.W.Frag} {mg : Str → Option Value} {base : Heap} {Y : Cn} (F : DefAt K "open_ring" s_open_ring) (hX : K.In base) (hG : base.Ns mainGlobals mg) (T : Txt K mg Y) (G_need_web : FnX P w K mg base 1 "need_web" ["web"] (R_need_web Y)) : FnX P w K mg base 3 "open_ring" ["web"] (R_open_ring Y) := by
  have nd := sc_open_ring.nd
  refine fnX_mk F hX hG sc_open_ring (fun as β r β' h => by first | exact FR.len h | (obtain ⟨_, rfl, _⟩ := h; rfl) | (obtain ⟨_, _, rfl, _⟩ := h; rfl) | (obtain ⟨_, _, _, rfl, _⟩ := h; rfl) | (obtain ⟨_, _, _, _, rfl, _⟩ := h; rfl) | (obtain ⟨_, _, _, _, _, rfl, _⟩ := h; rfl)) (fun _ _ _ _ _ _ _ us hl => match us, hl with | [_], _ => rfl) (fun f cdv A outer s H E hr => ⟨_, (pss_cons (ps_expr (pe_fnX G_need_web (hr.mono (by decide)) (pass_x (takes_of rfl rfl rfl rfl)) (pa_cons (pv 0) pa_nil))) pss_never), fun as β r β' hR => ?_⟩)
  obtain ⟨d, rfl, hd, rfl, rfl, rfl⟩ := hR
  exact .ex (stR_seq (stR_drop (x_raise0 (a_con (d_var rfl) a_nil) ⟨d, rfl, hd, rfl, rfl, rfl⟩)))
abbrev s_order_of_points : Stmt := top 50
theorem sc_order_of_points : FnScope ["web"] ["web"] (defScope s_order_of_points) := ⟨rfl, rfl, rfl, by decide +kernel, rfl, by decide +kernel, by decide +kernel⟩
abbrev R_order_of_points (Y : Cn) : FX := fun as β r β' => ∃ d, as = [.imm d] ∧ NoWeb d ∧ r = .ex Y.cV none ∧ β = none ∧ β' = none
theorem ok_order_of_points {P : Program} {w : World} {K : PySem.W.Frag} {mg : Str → Option Value} {base : Heap} {Y : Cn} (F : DefAt K "order_of_points" s_order_of_points) (hX : K.In base) (hG : base.Ns mainGlobals mg) (T : Txt K mg Y) (G_need_web : FnX P w K mg base 1 "need_web" ["web"] (R_need_web Y)) : FnX P w K mg base 3 "order_of_points" ["web"] (R_order_of_points Y) := by
  have nd := sc_order_of_points.nd
  refine fnX_mk F hX hG sc_order_of_points (fun as β r β' h => by first | exact FR.len h | (obtain ⟨_, rfl, _⟩ := h; rfl) | (obtain ⟨_, _, rfl, _⟩ := h; rfl) | (obtain ⟨_, _, _, rfl, _⟩ := h; rfl) | (obtain ⟨_, _, _, _, rfl, _⟩ := h; rfl) | (obtain ⟨_, _, _, _, _, rfl, _⟩ := h; rfl)) (fun _ _ _ _ _ _ _ us hl => match us, hl with | [_], _ => rfl) (fun f cdv A outer s H E hr => ⟨_, (pss_cons (ps_expr (pe_fnX G_need_web (hr.mono (by decide)) (pass_x (takes_of rfl rfl rfl rfl)) (pa_cons (pv 0) pa_nil))) pss_never), fun as β r β' hR => ?_⟩)
  obtain ⟨d, rfl, hd, rfl, rfl, rfl⟩ := hR
  exact .ex (stR_seq (stR_drop (x_raise0 (a_con (d_var rfl) a_nil) ⟨d, rfl, hd, rfl, rfl, rfl⟩)))
abbrev s_web_degrees : Stmt := top 52
theorem sc_web_degrees : FnScope ["web", "ties", "order", "counts"] ["web"] (defScope s_web_degrees) := ⟨rfl, rfl, rfl, by decide +kernel, rfl, by decide +kernel, by decide +kernel⟩
abbrev R_web_degrees (Y : Cn) : FX := fun as β r β' => ∃ d, as = [.imm d] ∧ NoWeb d ∧ r = .ex Y.cV none ∧ β = none ∧ β' = none
theorem ok_web_degrees {P : Program} {w : World} {K : PySem.W.Frag} {mg : Str → Option Value} {base : Heap} {Y : Cn} (F : DefAt K "web_degrees" s_web_degrees) (hX : K.In base) (hG : base.Ns mainGlobals mg) (T : Txt K mg Y) (G_need_web : FnX P w K mg base 1 "need_web" ["web"] (R_need_web Y)) : FnX P w K mg base 3 "web_degrees" ["web"] (R_web_degrees Y) := by
  have nd := sc_web_degrees.nd
  refine fnX_mk F hX hG sc_web_degrees (fun as β r β' h => by first | exact FR.len h | (obtain ⟨_, rfl, _⟩ := h; rfl) | (obtain ⟨_, _, rfl, _⟩ := h; rfl) | (obtain ⟨_, _, _, rfl, _⟩ := h; rfl) | (obtain ⟨_, _, _, _, rfl, _⟩ := h; rfl) | (obtain ⟨_, _, _, _, _, rfl, _⟩ := h; rfl)) (fun _ _ _ _ _ _ _ us hl => match us, hl with | [_], _ => rfl) (fun f cdv A outer s H E hr => ⟨_, (pss_cons (ps_expr (pe_fnX G_need_web (hr.mono (by decide)) (pass_x (takes_of rfl rfl rfl rfl)) (pa_cons (pv 0) pa_nil))) pss_never), fun as β r β' hR => ?_⟩)
  obtain ⟨d, rfl, hd, rfl, rfl, rfl⟩ := hR
  exact .ex (stR_seq (stR_drop (x_raise0 (a_con (d_var rfl) a_nil) ⟨d, rfl, hd, rfl, rfl, rfl⟩)))
abbrev s_is_order_of_points : Stmt := top 51
theorem sc_is_order_of_points : FnScope ["web", "value", "ties", "at", "point", "ahead", "other"] ["web", "value"] (defScope s_is_order_of_points) := ⟨rfl, rfl, rfl, by decide +kernel, rfl, by decide +kernel, by decide +kernel⟩
abbrev R_is_order_of_points (Y : Cn) : FX := fun as β r β' => ∃ d x, as = [.imm d, .imm x] ∧ NoWeb d ∧ r = .ex Y.cV none ∧ β = none ∧ β' = none
theorem ok_is_order_of_points {P : Program} {w : World} {K : PySem.W.Frag} {mg : Str → Option Value} {base : Heap} {Y : Cn} (F : DefAt K "is_order_of_points" s_is_order_of_points) (hX : K.In base) (hG : base.Ns mainGlobals mg) (T : Txt K mg Y) (G_need_web : FnX P w K mg base 1 "need_web" ["web"] (R_need_web Y)) : FnX P w K mg base 3 "is_order_of_points" ["web", "value"] (R_is_order_of_points Y) := by
  have nd := sc_is_order_of_points.nd
  refine fnX_mk F hX hG sc_is_order_of_points (fun as β r β' h => by first | exact FR.len h | (obtain ⟨_, rfl, _⟩ := h; rfl) | (obtain ⟨_, _, rfl, _⟩ := h; rfl) | (obtain ⟨_, _, _, rfl, _⟩ := h; rfl) | (obtain ⟨_, _, _, _, rfl, _⟩ := h; rfl) | (obtain ⟨_, _, _, _, _, rfl, _⟩ := h; rfl)) (fun _ _ _ _ _ _ _ us hl => match us, hl with | [_, _], _ => rfl) (fun f cdv A outer s H E hr => ⟨_, (pss_cons (ps_expr (pe_fnX G_need_web (hr.mono (by decide)) (pass_x (takes_of rfl rfl rfl rfl)) (pa_cons (pv 0) pa_nil))) pss_never), fun as β r β' hR => ?_⟩)
  obtain ⟨d, x, rfl, hd, rfl, rfl, rfl⟩ := hR
  exact .ex (stR_seq (stR_drop (x_raise0 (a_con (d_var rfl) a_nil) ⟨d, rfl, hd, rfl, rfl, rfl⟩)))
end K73
set_option Elab.async false
set_option linter.all false
set_option maxRecDepth 100000
set_option maxHeartbeats 4000100
namespace TD
open PySem L2 PySem.Spec PyProof.Rows
section
variable [TabW] {K : PySem.W.Frag} {ρ : Rho} {β β1 β2 : Bag} {ta tb te : TE} {d : Dt}
theorem d_neB {p q : Bool} (ha : EvB K ta ρ β (.bool p) β1) (hb : EvB K tb ρ β1 (.bool q) β2) : EvB K (tOp rNe ta tb) ρ β (.bool (!decide (p = q))) β2 := d_op ha hb fun b G H v w Q e h1 h2 k => by
  cases h1
  cases h2
  exact ⟨rfl, (by
    have := k (.bl (!decide (p = q))) G H (Step.refl e) (.bl _)
    cases p <;> cases q <;> exact this)⟩
end
end TD
set_option Elab.async false
set_option linter.all false
set_option maxRecDepth 100000
set_option maxHeartbeats 1100000
namespace K73
open PySem L2 TD PySem.Spec PyProof.Rows
open Evl (Ex ex_l ex_t fresh_back sq_of st_of sz_of sz_lt)
variable [TabW]
local macro_rules | `(tactic| walk_at "lit") => `(tactic| (first
  | exact a_nil
  | (refine a_lit ?_ ?_ <;> walk_at "lit")
  | exact d_int
  | exact d_neg d_int
  | exact d_var rfl
  | (refine d_tup ?_ rfl (by decide); walk_at "lit")
  | (refine d_lst ?_ rfl (by decide); walk_at "lit")))
def pieceF (t : List Int) : Str := ((Str.empty ++ (toString (t.getD 0 0) : Str)) ++ ("-" : Str)) ++ (toString (t.getD 1 0) : Str)
def pieceL (t : List Int) : Str := ((toString (t.getD 0 0) : Str) ++ ("-" : Str)) ++ (toString (t.getD 1 0) : Str)
def strW (ts : List (List Int)) : Str := Txt.join " " (("web" : Str) :: ts.map pieceF)
theorem piece_len : ∀ t ∈ tiesL, (Str.empty ++ (toString (t.getD 0 0) : Str)).length ≤ 100 ∧ ((Str.empty ++ (toString (t.getD 0 0) : Str)) ++ ("-" : Str)).length ≤ 100 ∧ (pieceF t).length ≤ 100 := by decide +kernel
theorem pieceL_len : ∀ t ∈ tiesL, (toString (t.getD 0 0) : Str).length + ("-" : Str).length ≤ 100 ∧ ((toString (t.getD 0 0) : Str) ++ ("-" : Str)).length + (toString (t.getD 1 0) : Str).length ≤ 100 := by decide +kernel
theorem piece_same : ∀ t ∈ tiesL, pieceL t = pieceF t := by decide +kernel
theorem tie_log : ∀ t ∈ tiesL, (t.getD 0 0).natAbs.log2 < 1920 ∧ (t.getD 1 0).natAbs.log2 < 1920 := by decide +kernel
theorem sz100 {n : Nat} (h : n ≤ 100) : n ≤ sizeLine := Nat.le_trans h (by decide)
theorem lens (ys : List Str) (h : ∀ y ∈ ys, y.length ≤ 100) : (ys.map (·.length)).sum ≤ 100 * ys.length := by
  induction ys with
  | nil => exact Nat.le_refl _
  | cons y ys ih =>
    have a := h y List.mem_cons_self
    have b := ih fun z hz => h z (List.mem_cons_of_mem _ hz)
    rw [List.map_cons, List.sum_cons, List.length_cons]
    omega
theorem web_len {ts : List (List Int)} (f : List Int → Str) (hf : ∀ t ∈ ts, (f t).length ≤ 100) (few : ts.length ≤ 6) : ((("web" : Str) :: ts.map f).map (·.length)).sum + (("web" : Str) :: ts.map f).length * (" " : Str).length ≤ 16777216 := by
  have a := lens (("web" : Str) :: ts.map f) fun y hy => by
    (rcases List.mem_cons.mp hy with rfl | hy)
    · decide +kernel
    · obtain ⟨t, ht, rfl⟩ := List.mem_map.mp hy
      exact hf t ht
  have b : (" " : Str).length = 1 := by decide +kernel
  rw [b]
  rw [List.length_cons, List.length_map] at a ⊢
  omega
def tiePr (t : List Int) : Dt × Dt := (.int (t.getD 0 0), .int (t.getD 1 0))
theorem ties_pairs : ∀ {ts : List (List Int)}, (∀ t ∈ ts, t ∈ tiesL) → (ts.map tiePr).map TD.pairD = ts.map tupJ
  | [], _ => rfl
  | t :: ts, h => by
    obtain ⟨a, b, rfl⟩ := tie_two (h t List.mem_cons_self)
    rw [List.map_cons, List.map_cons, List.map_cons, ties_pairs fun u hu => h u (List.mem_cons_of_mem _ hu)]
    rfl
theorem lcz_ties {K : PySem.W.Frag} {ρ : Rho} {β : Bag} {te : TE} {i j : Nat} (f : List Int → Str) : ∀ {ts : List (List Int)}, (∀ t ∈ ts, t ∈ tiesL) → (∀ t ∈ tiesL, EvB K te ((ρ.set i (some (Slot.imm (.int (t.getD 0 0))))).set j (some (Slot.imm (.int (t.getD 1 0))))) β (.str (f t)) β) → LcZ K i j tYes te (ts.map tiePr) ρ β (ts.map fun t => .str (f t)) β
  | [], _, _ => .nil ρ β
  | t :: ts, h, q => .yes t_yes0 (q t (h t List.mem_cons_self)) (lcz_ties f (fun u hu => h u (List.mem_cons_of_mem _ hu)) q)
theorem strs_map (ts : List (List Int)) (f : List Int → Str) : (ts.map fun t => PyData.str (f t)) = (ts.map f).map PyData.str := by rw [List.map_map] <;> rfl
def stepL (m t : List Int) : List Int := if (decide (t.getD 0 0 ∈ m) = decide (t.getD 1 0 ∈ m)) then m else m ++ [if t.getD 1 0 ∈ m then t.getD 0 0 else t.getD 1 0]
def passL' (m : List Int) (ts : List (List Int)) : List Int := ts.foldl stepL m
def metF (ts : List (List Int)) : List Int := ([0, 1, 2, 3] : List Int).foldl (fun m _ => passL' m ts) [1]
theorem stepL_len (m t : List Int) : (stepL m t).length ≤ m.length + 1 := by
  unfold stepL
  split
  · omega
  · rw [List.length_append]
    exact Nat.le_refl _
theorem passL_len : ∀ (ts : List (List Int)) (m : List Int), (passL' m ts).length ≤ m.length + ts.length
  | [], _ => Nat.le_refl _
  | t :: ts, m => by
    have a := passL_len ts (stepL m t)
    have b := stepL_len m t
    show (passL' (stepL m t) ts).length ≤ _
    rw [List.length_cons]
    omega
abbrev s_Web_full : Stmt := inCls (top 48) 1
theorem sc_Web_full : FnScope ["cls", "points"] ["cls", "points"] (defScope s_Web_full) := ⟨rfl, rfl, rfl, by decide +kernel, rfl, by decide +kernel, by decide +kernel⟩
abbrev R_Web_full (Y : Cn) : FX := fun as β r β' => ∃ d, as = [.fn Y.cl, .imm d] ∧ (((∀ xs, d = .tuple xs → 4 < xs.length) ∧ r = .ex Y.cV none) ∨ ∃ xs, d = .tuple xs ∧ xs.length ≤ 4 ∧ ((areT (.tuple ((chF 2 xs).map .tuple)) = false ∧ r = .ex Y.cV none) ∨ ∃ ts, (chF 2 xs).map PyData.tuple = ts.map tupJ ∧ WebOk ts ∧ r = .ok (webD Y.cl (sortX ts)))) ∧ β = none ∧ β' = none
theorem ok_Web_full {P : Program} {w : World} {K : PySem.W.Frag} {mg : Str → Option Value} {base : Heap} {Y : Cn} (F : CmAt K Y.cl "full" "Web.full" s_Web_full) (hX : K.In base) (hG : base.Ns mainGlobals mg) (T : Txt K mg Y) (G_Web_init : FnI P w K mg base 5 "Web" Y.cl ["self", "ties"] (R_Web_init Y)) (G_choices : FnG P w K mg base 5 "choices" ["items", "many"] (R_ch 3)) : FnCX P w K mg base 7 Y.cl "full" ["cls", "points"] (R_Web_full Y) := by
  have nd := sc_Web_full.nd
  refine clsX_mk F sc_Web_full (fun as β r β' h => by first | (obtain ⟨_, rfl, _⟩ := h; rfl) | (obtain ⟨_, _, rfl, _⟩ := h; rfl) | (obtain ⟨_, _, _, rfl, _⟩ := h; rfl) | (obtain ⟨_, _, _, _, rfl, _⟩ := h; rfl) | (obtain ⟨_, _, _, _, _, rfl, _⟩ := h; rfl) | (obtain ⟨_, _, _, _, _, _, rfl, _⟩ := h; rfl)) (fun _ _ _ _ _ _ _ us hl => match us, hl with | [_, _], _ => rfl) (fun f cdv A outer s H E hr => ⟨_, (pss_cons (ps_if (PW.pt (pw_or (pt_not (pt_val (pe_callB (call_isiK (K := K)) (by rfl) T.z_isinstance bo_isinstance (pa_cons (pv 1) (pa_cons (pe_bltn (v := .ty "tuple") (by rfl) T.z_tuple bo_tuple rfl) pa_nil))))) (pw_or1 (pt_cmpR op_gt (pe_callB (c_lenK (K := K)) (by rfl) T.z_len bo_len (pa_cons (pv 1) pa_nil)) (pe_callB (c_lenK (K := K)) (by rfl) T.z_len bo_len (pa_cons (pe_glob (v := .ref _) (by rfl) T.c_POINTS rfl) pa_nil)) (nomark _))))) (pss_one (ps_raiseBare T.b_InvalidWeb (takes_of rfl rfl rfl rfl))) pss_nil) (pss_one (ps_ret (pe_newV (i := 0) G_Web_init (hr.mono (by decide)) rfl (Or.inl rfl) (pass_x (takes_of rfl rfl rfl rfl)) (pa_cons (pe_callTy c_tuple (by rfl) T.z_tuple bo_tuple (pa_cons (pe_fn G_choices (hr.mono (by decide)) (pa_cons (pv 1) (pa_cons pe_int pa_nil))) pa_nil)) pa_nil))))), fun as β r β' hR => ?_⟩)
  obtain ⟨d, rfl, h, rfl, rfl⟩ := hR
  have c1 : ∀ xs, TtB K (tOr (tNot (tB (tCB (rIsiR K) (tCons (tVar 1) (tCons (tC (V.ty "tuple")) tNil))))) (tTest (tOp (rI0 fun i j => .bl (decide (j < i))) (tCB (TD.rLen K) (tCons (tVar 1) tNil)) (tCB (TD.rLen K) (tCons (tC (V.ref Y.aO)) tNil))))) (startR ["cls", "points"] [.fn Y.cl, .imm (.tuple xs)]) none (decide (4 < xs.length)) none := fun xs =>
    (t_orF ((t_not (t_B (d_isTup (d_var rfl)))).to rfl) (t_test (d_gt (d_len (d_var rfl) (.inr rfl)) (d_lenKI T.q_POINTS)))).to (decide_eq_decide.mpr (by show ((4 : Nat) : Int) < (xs.length : Int) ↔ _; omega))
  rcases h with ⟨h, rfl⟩ | ⟨xs, rfl, few, h⟩
  · cases d with
    | tuple xs => exact .ex (stR_seq (stR_ifT ((c1 xs).to (decide_eq_true (h xs rfl))) st_raise0))
    | none => exact .ex (stR_seq (stR_ifT (t_orT ((t_not (t_B (d_isTup (d_var rfl)))).to rfl)) st_raise0))
    | _ => exact .ex (stR_seq (stR_ifT (t_orT ((t_not (t_B (d_isTup (d_var rfl)))).to rfl)) st_raise0))
  · have go := st_ifF (K := K) (tu := tRaise0 Y.cV E) ((c1 xs).to (decide_eq_false (by omega))) st_next
    have ar : EvA K (tCons (tCB (rTupleOf K) (tCons (tCall (spR K (R_ch 3)) [] E0 (tCons (tVar 1) (tCons (tC (V.int 2)) tNil))) tNil)) tNil) (startR ["cls", "points"] [.fn Y.cl, .imm (.tuple xs)]) none [.imm (.tuple ((chF 2 xs).map .tuple))] none := a_con (d_tupleOf (d_call0 (a_con (d_var rfl) (a_con d_int a_nil)) ⟨xs, 2, rfl, by decide, by decide, by omega, rfl, rfl, rfl⟩)) a_nil
    rcases h with ⟨h, rfl⟩ | ⟨ts, e, hW, rfl⟩
    · exact .ex (stR_then go (stR_ret (x_newVR rfl ar ⟨_, rfl, .inl ⟨h, rfl⟩, rfl, rfl⟩)))
    · rw [e] at ar
      exact .ok (.ret (st_sq go (st_ret (x_newV (ps := webF (sortX ts)) rfl ar ⟨_, rfl, .inr ⟨ts, rfl, hW, rfl⟩, rfl, rfl⟩))))
abbrev s_Web_str : Stmt := inCls (top 48) 12
theorem sc_Web_str : FnScope ["self", "pieces", "one", "other"] ["self"] (defScope s_Web_str) := ⟨rfl, rfl, rfl, by decide +kernel, rfl, by decide +kernel, by decide +kernel⟩
abbrev R_Web_str (Y : Cn) : FR := fun as β r β' => ∃ ts, as = [.imm (webD Y.cl ts)] ∧ WebOk ts ∧ r = .str (strW ts) ∧ β = none ∧ β' = none
theorem ok_Web_str {P : Program} {w : World} {K : PySem.W.Frag} {mg : Str → Option Value} {base : Heap} {Y : Cn} (F : MethAt K Y.cl "__str__" "Web.__str__" s_Web_str) (hX : K.In base) (hG : base.Ns mainGlobals mg) (T : Txt K mg Y)  : FnM P w K mg base 1 Y.cl "__str__" ["self"] (R_Web_str Y) := by
  have nd := sc_Web_str.nd
  refine meth_mk F sc_Web_str (fun as β r β' h => by first | (obtain ⟨_, rfl, _⟩ := h; rfl) | (obtain ⟨_, _, rfl, _⟩ := h; rfl) | (obtain ⟨_, _, _, rfl, _⟩ := h; rfl) | (obtain ⟨_, _, _, _, rfl, _⟩ := h; rfl) | (obtain ⟨_, _, _, _, _, rfl, _⟩ := h; rfl) | (obtain ⟨_, _, _, _, _, _, rfl, _⟩ := h; rfl)) (fun _ _ _ _ _ _ _ us hl => match us, hl with | [_], _ => rfl) (fun f cdv A outer s H E hr => ⟨_, (pss_cons (ps_setLc (i := 1) (own := [("one", 2), ("other", 3)]) rfl nd rfl rfl (sw_true rfl rfl rfl (by decide +kernel)) (pi_tup (pe_fld (pv 0) (by rfl))) (blkOk_by (N := ["self", "pieces", "one", "other"]) (sc := defScope s_Web_str) (by decide +kernel)) (fun _ _ _ _ _ => by exact (pg_tupK (K := K) (n := 2) rfl (pgs_cons (pg_name (i := 2) nd rfl (Or.inl rfl)) (pgs_cons (pg_name (i := 3) nd rfl (Or.inl rfl)) pgs_nil)))) (fun _ _ _ _ _ => by exact pts_nil) (fun _ _ _ _ _ => by exact (pe_joined (PJ.cons (pe_fmt (pv 2)) (PJ.cons pe_str (PJ.cons (pe_fmt (pv 3)) PJ.nil)))))) (pss_one (ps_ret (pe_joinK (K := K) pe_str (pe_lst (pa_cons pe_str (pa_starK (K := K) (pv 1) pa_nil))))))), fun as β r β' hR => ?_⟩)
  obtain ⟨ts, rfl, hW, rfl, rfl, rfl⟩ := hR
  have few := hW.few
  refine .ret (st_sq (st_asg (d := .list ((ts.map pieceF).map .str)) ((d_lcTp (ps := ts.map tiePr) (rs := ts.map fun t => .str (pieceF t)) ((d_fld (d_var rfl) T.m_ties rfl).to (by rw [ties_pairs hW.tie])) (lcz_ties pieceF hW.tie fun t ht => ?_) (by rw [List.length_map]; omega) (show 2 ∈ [2, 3] by decide) (show 3 ∈ [2, 3] by decide)).to (by rw [strs_map]))) (st_ret ?_))
  · obtain ⟨l1, l2, l3⟩ := piece_len t ht
    obtain ⟨g1, g2⟩ := tie_log t ht
    exact d_joined (.cons (d_fmtI (d_var rfl) g1) (sz100 l1) (.cons d_str (sz100 l2) (.cons (d_fmtI (d_var rfl) g2) (sz100 l3) (.nil _))))
  · refine d_join (ys := ("web" : Str) :: ts.map pieceF) d_str (d_lst (as := .imm (.str "web") :: (imms ((ts.map pieceF).map PyData.str) ++ [])) (a_con d_str (a_star (d_var rfl) (.inl rfl) a_nil)) (by rw [List.append_nil]; rfl) ?_) (web_len pieceF (fun t ht => (piece_len t (hW.tie t ht)).2.2) few)
    rw [List.map_cons, List.length_cons, List.length_map, List.length_map]
    omega
abbrev s_law_all_ties : Stmt := top 58
theorem sc_law_all_ties : FnScope [] [] (defScope s_law_all_ties) := ⟨rfl, rfl, rfl, by decide +kernel, rfl, by decide +kernel, by decide +kernel⟩
abbrev R_law_all_ties : FR := fun as β r β' => ∃ _u : Unit, as = [] ∧ r = .list (tiesL.map tupJ) ∧ β = none ∧ β' = none
theorem ok_law_all_ties {P : Program} {w : World} {K : PySem.W.Frag} {mg : Str → Option Value} {base : Heap} {Y : Cn} (F : DefAt K "_law_all_ties" s_law_all_ties) (hX : K.In base) (hG : base.Ns mainGlobals mg) (T : Txt K mg Y)  : FnG P w K mg base 1 "_law_all_ties" [] R_law_all_ties := by
  have nd := sc_law_all_ties.nd
  refine fn_mk F hX hG sc_law_all_ties (fun as β r β' h => by first | exact FR.len h | (obtain ⟨_, rfl, _⟩ := h; rfl) | (obtain ⟨_, _, rfl, _⟩ := h; rfl) | (obtain ⟨_, _, _, rfl, _⟩ := h; rfl) | (obtain ⟨_, _, _, _, rfl, _⟩ := h; rfl) | (obtain ⟨_, _, _, _, _, rfl, _⟩ := h; rfl)) (fun _ _ _ _ _ _ _ us hl => match us, hl with | [], _ => rfl) (fun f cdv A outer s H E hr => ⟨_, (pss_one (ps_ret (pe_lst (pa_cons (pe_tup (pa_cons pe_int (pa_cons pe_int pa_nil))) (pa_cons (pe_tup (pa_cons pe_int (pa_cons pe_int pa_nil))) (pa_cons (pe_tup (pa_cons pe_int (pa_cons pe_int pa_nil))) (pa_cons (pe_tup (pa_cons pe_int (pa_cons pe_int pa_nil))) (pa_cons (pe_tup (pa_cons pe_int (pa_cons pe_int pa_nil))) (pa_cons (pe_tup (pa_cons pe_int (pa_cons pe_int pa_nil))) pa_nil))))))))), fun as β r β' hR => ?_⟩)
  obtain ⟨_, rfl, rfl, rfl, rfl⟩ := hR
  exact .ret (st_ret (d_lst (ds := tiesL.map tupJ) (by walk_at "lit") rfl (by decide)))
abbrev s_law_is_whole : Stmt := top 59
theorem sc_law_is_whole : FnScope ["_law_ties", "_law_met", "_law_turn", "_law_one", "_law_other"] ["_law_ties"] (defScope s_law_is_whole) := ⟨rfl, rfl, rfl, by decide +kernel, rfl, by decide +kernel, by decide +kernel⟩
abbrev R_law_is_whole : FR := fun as β r β' => ∃ ts, as = [.imm (.tuple (ts.map tupJ))] ∧ WebOk ts ∧ r = .bool (decide ((metF ts).length = 4)) ∧ β = none ∧ β' = none
theorem ok_law_is_whole {P : Program} {w : World} {K : PySem.W.Frag} {mg : Str → Option Value} {base : Heap} {Y : Cn} (F : DefAt K "_law_is_whole" s_law_is_whole) (hX : K.In base) (hG : base.Ns mainGlobals mg) (T : Txt K mg Y)  : FnG P w K mg base 1 "_law_is_whole" ["_law_ties"] R_law_is_whole := by
  have nd := sc_law_is_whole.nd
  refine fn_mk F hX hG sc_law_is_whole (fun as β r β' h => by first | exact FR.len h | (obtain ⟨_, rfl, _⟩ := h; rfl) | (obtain ⟨_, _, rfl, _⟩ := h; rfl) | (obtain ⟨_, _, _, rfl, _⟩ := h; rfl) | (obtain ⟨_, _, _, _, rfl, _⟩ := h; rfl) | (obtain ⟨_, _, _, _, _, rfl, _⟩ := h; rfl)) (fun _ _ _ _ _ _ _ us hl => match us, hl with | [_], _ => rfl) (fun f cdv A outer s H E hr => ⟨_, (pss_cons (ps_set (i := 1) nd rfl (Or.inl rfl) (pe_lst (pa_cons pe_int pa_nil))) (pss_cons (ps_for PassesOwn.never rfl (pi_range1 (by rfl) T.z_range (pa_cons pe_int pa_nil)) (pg_name (i := 2) nd rfl (Or.inl rfl)) (pss_one (ps_for PassesOwn.never rfl (pi_tup (pv 0)) (pg_tupK (K := K) (n := 2) rfl (pgs_cons (pg_name (i := 3) nd rfl (Or.inl rfl)) (pgs_cons (pg_name (i := 4) nd rfl (Or.inl rfl)) pgs_nil))) (pss_one (ps_if (pt_cmpR op_ne (pe_cmpR op_in_seq (pv 3) (pv 1) (by rfl)) (pe_cmpR op_in_seq (pv 4) (pv 1) (by rfl)) (nomark _)) (pss_one (ps_set (i := 1) nd rfl (Or.inl rfl) (pe_op op_cat (pv 1) (pe_lst (pa_cons (pe_ifExp (pt_cmpR op_in_seq (pv 4) (pv 1) (by rfl)) (pv 3) (pv 4)) pa_nil))))) pss_nil))))) (pss_one (ps_ret (pe_cmpR op_eq (pe_callB (c_lenK (K := K)) (by rfl) T.z_len bo_len (pa_cons (pv 1) pa_nil)) pe_int (nomark _)))))), fun as β r β' hR => ?_⟩)
  obtain ⟨ts, rfl, hW, rfl, rfl, rfl⟩ := hR
  dsimp only [cxOf, Cx.nox, Cx.wish]
  have few := hW.few
  refine .ret (st_sq (st_asg (d := lstI [1]) (d_lst (ds := [.int 1]) (a_lit d_int a_nil) rfl (by decide))) ?_)
  show StB K _ [some (.imm (.tuple (ts.map tupJ))), some (.imm (lstI [1])), none, none, none] none _ none
  have inner : ∀ (us : List (List Int)) (m : List Int) (x y z : Option Slot), (∀ t ∈ us, t ∈ tiesL) → m.length + us.length ≤ 1000 → ∃ y' z', ForU K [3, 4] (tIfS (tTest (tOp rNe (tOp (rIn K false) (tVar 3) (tVar 1)) (tOp (rIn K false) (tVar 4) (tVar 1)))) (tAsg (tOp rCat (tVar 1) (tLst (tCons (tIf (tTest (tOp (rIn K false) (tVar 4) (tVar 1))) (tVar 3) (tVar 4)) tNil))) (gName 1)) tNext) (us.map fun t => t.map PyData.int) [some (.imm (.tuple (ts.map tupJ))), some (.imm (lstI m)), x, y, z] none [some (.imm (.tuple (ts.map tupJ))), some (.imm (lstI (passL' m us))), x, y', z'] none := by
    intro us
    induction us with
    | nil => exact fun m x y z _ _ => ⟨y, z, .nil _ _⟩
    | cons t us ih =>
      intro m x y z hu hl
      obtain ⟨a, b, rfl⟩ := tie_two (hu t List.mem_cons_self)
      rw [List.length_cons] at hl
      have le := stepL_len m [a, b]
      obtain ⟨y', z', h⟩ := ih (stepL m [a, b]) x (some (.imm (.int a))) (some (.imm (.int b))) (fun t ht => hu t (List.mem_cons_of_mem _ ht)) (by omega)
      refine ⟨y', z', .nx ?_ h⟩
      show StB K _ [some (.imm (.tuple (ts.map tupJ))), some (.imm (lstI m)), x, some (.imm (.int a)), some (.imm (.int b))] none (.nx [some (.imm (.tuple (ts.map tupJ))), some (.imm (lstI (stepL m [a, b]))), x, some (.imm (.int a)), some (.imm (.int b))]) none
      have tt : TtB K (tTest (tOp rNe (tOp (rIn K false) (tVar 3) (tVar 1)) (tOp (rIn K false) (tVar 4) (tVar 1)))) [some (.imm (.tuple (ts.map tupJ))), some (.imm (lstI m)), x, some (.imm (.int a)), some (.imm (.int b))] none (!decide (decide (a ∈ m) = decide (b ∈ m))) none := t_test (d_neB (d_inI (d_var rfl) (d_var rfl) (.inl rfl)) (d_inI (d_var rfl) (d_var rfl) (.inl rfl)))
      by_cases h : decide (a ∈ m) = decide (b ∈ m)
      · have e : stepL m [a, b] = m := if_pos h
        rw [e]
        exact st_ifF (tt.to (by rw [decide_eq_true h]; rfl)) st_next
      · have e : stepL m [a, b] = m ++ [if b ∈ m then a else b] := if_neg h
        rw [e]
        have one : EvB K (tIf (tTest (tOp (rIn K false) (tVar 4) (tVar 1))) (tVar 3) (tVar 4)) [some (.imm (.tuple (ts.map tupJ))), some (.imm (lstI m)), x, some (.imm (.int a)), some (.imm (.int b))] none (.int (if b ∈ m then a else b)) none := by
          have q : TtB K (tTest (tOp (rIn K false) (tVar 4) (tVar 1))) [some (.imm (.tuple (ts.map tupJ))), some (.imm (lstI m)), x, some (.imm (.int a)), some (.imm (.int b))] none (decide (b ∈ m)) none := t_test (d_inI (d_var rfl) (d_var rfl) (.inl rfl))
          by_cases hb : b ∈ m
          · rw [if_pos hb]
            exact d_ifT (q.to (decide_eq_true hb)) (d_var rfl)
          · rw [if_neg hb]
            exact d_ifF (q.to (decide_eq_false hb)) (d_var rfl)
        refine st_ifT (tt.to (by rw [decide_eq_false h]; rfl)) (st_asg ((d_cat (ds := m.map PyData.int) (es := [.int (if b ∈ m then a else b)]) (d_var rfl) (d_lst (a_lit one a_nil) rfl (by show 1 ≤ 100000; decide)) (by rw [List.length_map]; show m.length + 1 ≤ 100000; omega)).to ?_))
        rw [lstI, List.map_append]
        rfl
  have outer : ∀ (ps : List Int) (m : List Int) (x y z : Option Slot), m.length + ps.length * 6 ≤ 900 → ∃ x' y' z', ForR K 2 (tFor (iTup K (tVar 0)) (gTup K 2 (gCons (gName 3) (gCons (gName 4) gNil))) (tIfS (tTest (tOp rNe (tOp (rIn K false) (tVar 3) (tVar 1)) (tOp (rIn K false) (tVar 4) (tVar 1)))) (tAsg (tOp rCat (tVar 1) (tLst (tCons (tIf (tTest (tOp (rIn K false) (tVar 4) (tVar 1))) (tVar 3) (tVar 4)) tNil))) (gName 1)) tNext)) (ps.map PyData.int) [some (.imm (.tuple (ts.map tupJ))), some (.imm (lstI m)), x, y, z] none (.nx [some (.imm (.tuple (ts.map tupJ))), some (.imm (lstI (ps.foldl (fun m _ => passL' m ts) m))), x', y', z']) none := by
    intro ps
    induction ps with
    | nil => exact fun m x y z _ => ⟨x, y, z, .nil _ _⟩
    | cons p ps ih =>
      intro m x y z hm
      rw [List.length_cons] at hm
      have le := passL_len ts m
      obtain ⟨y1, z1, h1⟩ := inner ts m (some (.imm (.int p))) y z hW.tie (by omega)
      obtain ⟨x', y', z', h⟩ := ih (passL' m ts) (some (.imm (.int p))) y1 z1 (by omega)
      exact ⟨x', y', z', .nx (st_forU (is := [3, 4]) (rows := ts.map fun t => t.map PyData.int) ((d_var rfl).to (by rw [List.map_map]; rfl)) rfl (fun q hq => by obtain ⟨t, ht, rfl⟩ := List.mem_map.mp hq; rw [List.length_map]; exact tie_len (hW.tie t ht)) h1) h⟩
  obtain ⟨x', y', z', h⟩ := outer [0, 1, 2, 3] [1] none none none (by decide)
  refine st_sq (st_forR1 (i := 4) d_int (by decide) h) (st_ret ((d_eqI (d_len (d_var rfl) (.inl rfl)) d_int).to ?_))
  rw [List.length_map]
  exact congrArg PyData.bool (decide_eq_decide.mpr (by show (((metF ts).length : Nat) : Int) = ((4 : Nat) : Int) ↔ _; omega))
end K73
set_option Elab.async false
set_option linter.all false
set_option maxRecDepth 100000
set_option maxHeartbeats 4100000
namespace TD
open PySem L2 StX PySem.Spec PyProof.Rows
open Evl (Ex ex_l ex_t fresh_back sq_of st_of sz_of sz_lt)
def rNotInO (C : Addr) (sp : Sp) : R2 := fun x y H Q => ∃ a dx fs, y = .ref a ∧ H a = some (.ins C dx fs) ∧ sp [y, x] H (fun v H' => ∃ c, v = .bl c ∧ Q (.bl (!c)) H') E0
section
variable [TabW] {P : Program} {w : World} {K : PySem.W.Frag} {mg : Str → Option Value} {base : Heap} {X : Cx} {k : Nat} {C : Addr} {ps : List Str} {R : FR}
/-- in says what the negated question denies -/
theorem op_notInO (F : FnM P w K mg base k C "__contains__" ps R) (hr : Room k X.A) (h1 : X.prog = P := by rfl) (h2 : X.w = w := by rfl) (h3 : X.K = K := by rfl) (h4 : X.mg = mg := by rfl) (h5 : X.base = base := by rfl) : OpR X (compareOp .NotIn) (rNotInO C (spR K R)) := by
  rintro pins s σ H x y v u Q I rx ry ⟨a, dx, fs, e, ha, q⟩
  have said := op_inO F hr h1 h2 h3 h4 h5 pins s σ H x y v u (fun r H' => ∃ c, r = .bl c ∧ Q (.bl (!c)) H') I rx ry ⟨a, dx, fs, e, ha, by
    obtain ⟨b, G, β, as, r, β', p1, p2, p3, p4, p5, p6, kk⟩ := q
    exact ⟨b, G, β, as, r, β', p1, p2, p3, p4, p5, p6, fun w G' H' s' k' d' => let ⟨c, e1, e2⟩ := kk w G' H' s' k' d'; ⟨c, e1, c, rfl, e2⟩⟩⟩
  have said : wpAny (model X.prog X.w) X.A (contains u v >>= fun b => pure (.bool b)) (EP X pins σ fun r H' => ∃ c, r = .bl c ∧ Q (.bl (!c)) H') X.xe s := said
  show wpAny (model X.prog X.w) X.A (contains u v >>= fun b => pure (.bool (!b))) (EP X pins σ Q) X.xe s
  have asked : wpAny (model X.prog X.w) X.A (contains u v) (fun b => EP X pins σ (fun r H' => ∃ c, r = .bl c ∧ Q (.bl (!c)) H') (.bool b)) X.xe s := fun Γ p hΓ => by
    have z := said Γ p hΓ
    rw [Sem.wp_bind'] at z
    exact z
  refine wpAny_bind (wpAny_mono asked (fun b s' z => ?_) fun _ _ z => z)
  obtain ⟨r, H', J, rv, c, rfl, q⟩ := z
  obtain rfl : b = c := Value.bool.inj rv
  exact wpAny_pure ⟨.bl (!b), H', J, rfl, q⟩
end
section
variable [TabW] {K : PySem.W.Frag} {ρ : Rho} {β β1 β2 : Bag} {ta tb : TE} {ps : List (Dt × Dt)} {C : Addr} {x : Dt} {c : Bool} {R : FR}
theorem d_notInO (ha : EvB K ta ρ β x β1) (hb : EvB K tb ρ β1 (oD C ps) β2) (hR : R [.imm (oD C ps), .imm x] none (.bool c) none) : EvB K (tOp (rNotInO C (spR K R)) ta tb) ρ β (.bool (!c)) β2 := by
  refine ⟨hb.som.trans ha.som, fun b G H σ Q E k => ha.run b G H σ _ E fun v G1 H1 s1 k1 d1 => hb.run b G1 H1 σ _ (E.step s1 k1) fun u G2 H2 s2 k2 d2 => ?_⟩
  obtain ⟨a, dx, fs, rfl, hc, hs, hp⟩ := den_oD d2
  have E2 := (E.step s1 k1).step s2 k2
  refine ⟨a, dx, fs, rfl, s2.s _ _ hs, b, G2, none, [.imm (oD C ps), .imm x], .bool c, none, s2.s, E2.tabs, (fun _ z => nomatch z), .cons d2 (.cons (d1.mono s2.g) .nil), hR, rfl, fun w G3 H3 s3 k3 d3 => ?_⟩
  cases d3
  exact ⟨c, rfl, k (.bl (!c)) G3 H3 ((s1.trans (ha.som ▸ s2)).trans s3.up) (k2.same s3) (.bl _)⟩
end
end TD
set_option Elab.async false
set_option linter.all false
set_option maxRecDepth 100000
set_option maxHeartbeats 1100000
namespace K73
open PySem L2 TD PySem.Spec PyProof.Rows
open Evl (Ex ex_l ex_t fresh_back sq_of st_of sz_of sz_lt)
variable [TabW]
local macro_rules | `(tactic| walk_at "lit2") => `(tactic| (first
  | exact a_nil
  | (refine a_lit ?_ ?_ <;> walk_at "lit2")
  | exact d_int
  | exact d_neg d_int
  | exact d_non
  | exact d_bl
  | exact d_str
  | exact d_var rfl
  | exact d_pow d_int d_int ⟨by decide, by decide⟩
  | (refine d_tup ?_ rfl (by decide); walk_at "lit2")
  | (refine d_lst ?_ rfl (by decide); walk_at "lit2")))
/-- one more tie is looked at: nothing is lost, what is tied comes in, nothing beyond -/
structure Steps (f : List Int → List Int → List Int) : Prop where
  keep : ∀ m t, ∀ x ∈ m, x ∈ f m t
  tie : ∀ m (a b : Int), (a ∈ m → b ∈ f m [a, b]) ∧ (b ∈ m → a ∈ f m [a, b])
  new : ∀ m (a b x : Int), x ∈ f m [a, b] → x ∈ m ∨ ((a ∈ m ∨ b ∈ m) ∧ (x = a ∨ x = b))
def Closed (ts : List (List Int)) (P : Int → Prop) : Prop := ∀ a b : Int, [a, b] ∈ ts → (P a ↔ P b)
section
variable {f : List Int → List Int → List Int} (S : Steps f)
include S
theorem Steps.sub : ∀ (us : List (List Int)) (m : List Int), ∀ x ∈ m, x ∈ us.foldl f m
  | [], _, _, h => h
  | u :: us, m, x, h => Steps.sub us (f m u) x (S.keep m u x h)
theorem Steps.grown : ∀ (us : List (List Int)) (m : List Int) (a b : Int), [a, b] ∈ us → (a ∈ m → b ∈ us.foldl f m) ∧ (b ∈ m → a ∈ us.foldl f m)
  | [], _, _, _, h => nomatch h
  | u :: us, m, a, b, h => by
    (rcases List.mem_cons.mp h with rfl | h)
    · exact ⟨fun z => S.sub us _ _ ((S.tie m a b).1 z), fun z => S.sub us _ _ ((S.tie m a b).2 z)⟩
    · have q := Steps.grown us (f m u) a b h
      exact ⟨fun z => q.1 (S.keep m u a z), fun z => q.2 (S.keep m u b z)⟩
theorem Steps.within {P : Int → Prop} : ∀ (us : List (List Int)) (m : List Int), (∀ u ∈ us, u ∈ tiesL) → Closed us P → (∀ x ∈ m, P x) → ∀ x ∈ us.foldl f m, P x
  | [], _, _, _, h => h
  | u :: us, m, hu, hc, h => by
    obtain ⟨a, b, rfl⟩ := tie_two (hu u List.mem_cons_self)
    refine Steps.within us _ (fun v hv => hu v (List.mem_cons_of_mem _ hv)) (fun c d hcd => hc c d (List.mem_cons_of_mem _ hcd)) fun x hx => ?_
    have ab := hc a b List.mem_cons_self
    rcases S.new m a b x hx with q | ⟨q, e⟩
    · exact h x q
    · have pa : P a := q.elim (h a) fun z => ab.mpr (h b z)
      rcases e with rfl | rfl
      · exact pa
      · exact ab.mp pa
end
theorem nodup_four {m : List Int} (nd : m.Nodup) (pt : ∀ x ∈ m, x ∈ ([1, 2, 3, 4] : List Int)) : m.length ≤ 4 := List.Nodup.length_le_of_subset nd pt
/-- four looks from the first point are enough -/
theorem Steps.done {f : List Int → List Int → List Int} (S : Steps f) {ts : List (List Int)} (hT : ∀ t ∈ ts, t ∈ tiesL) (nd : ∀ m t, m.Nodup → t ∈ tiesL → (f m t).Nodup) {m0 m1 m2 m3 m4 : List Int} (e0 : m0 = [1]) (e1 : m1 = ts.foldl f m0) (e2 : m2 = ts.foldl f m1) (e3 : m3 = ts.foldl f m2) (e4 : m4 = ts.foldl f m3) :
    m4.Nodup ∧ 1 ∈ m4 ∧ Closed ts (· ∈ m4) ∧ ∀ P : Int → Prop, Closed ts P → P 1 → ∀ x ∈ m4, P x := by
  have nds : ∀ (us : List (List Int)) (m : List Int), (∀ u ∈ us, u ∈ tiesL) → m.Nodup → (us.foldl f m).Nodup := by
    intro us
    induction us with
    | nil => exact fun _ _ h => h
    | cons u us ih => exact fun m hu h => ih _ (fun v hv => hu v (List.mem_cons_of_mem _ hv)) (nd m u h (hu u List.mem_cons_self))
  have n0 : m0.Nodup := by rw [e0]; decide
  have n1 : m1.Nodup := e1 ▸ nds ts m0 hT n0
  have n2 : m2.Nodup := e2 ▸ nds ts m1 hT n1
  have n3 : m3.Nodup := e3 ▸ nds ts m2 hT n2
  have n4 : m4.Nodup := e4 ▸ nds ts m3 hT n3
  have s1 : ∀ x ∈ m0, x ∈ m1 := e1 ▸ S.sub ts m0
  have s2 : ∀ x ∈ m1, x ∈ m2 := e2 ▸ S.sub ts m1
  have s3 : ∀ x ∈ m2, x ∈ m3 := e3 ▸ S.sub ts m2
  have s4 : ∀ x ∈ m3, x ∈ m4 := e4 ▸ S.sub ts m3
  have one : 1 ∈ m4 := s4 _ (s3 _ (s2 _ (s1 _ (by rw [e0]; exact List.mem_singleton.mpr rfl))))
  have least : ∀ P : Int → Prop, Closed ts P → P 1 → ∀ x ∈ m4, P x := fun P hc h1 => by
    have w : ∀ m, (∀ x ∈ m, P x) → ∀ x ∈ ts.foldl f m, P x := fun m => S.within ts m hT hc
    have z : ∀ x ∈ m0, P x := fun x hx => by
      rw [e0] at hx
      rw [List.mem_singleton.mp hx]
      exact h1
    rw [e4, e3, e2, e1]
    exact w _ (w _ (w _ (w _ z)))
  have pts : ∀ x ∈ m4, x ∈ ([1, 2, 3, 4] : List Int) := least (· ∈ ([1, 2, 3, 4] : List Int)) (fun a b h => by
    have := tie_pts _ (hT _ h)
    exact ⟨fun _ => this b (by simp), fun _ => this a (by simp)⟩) (by decide)
  have few := nodup_four n4 pts
  -- a look that brings nothing new has all that is tied
  have still : ∀ {m m' : List Int}, m' = ts.foldl f m → (∀ x ∈ m', x ∈ m) → Closed ts (· ∈ m) := fun {m m'} e h a b hab => by
    have g := S.grown ts m a b hab
    rw [← e] at g
    exact ⟨fun z => h b (g.1 z), fun z => h a (g.2 z)⟩
  have stays : ∀ {m m' : List Int}, m' = ts.foldl f m → Closed ts (· ∈ m) → ∀ x ∈ m', x ∈ m := fun {m m'} e hc => by
    rw [e]
    exact S.within ts m hT hc fun x hx => hx
  have same : ∀ {m m' : List Int}, (∀ x ∈ m, x ∈ m') → (∀ x ∈ m', x ∈ m) → Closed ts (· ∈ m) → Closed ts (· ∈ m') := fun {m m'} h h' hc a b hab => ⟨fun z => h b ((hc a b hab).mp (h' a z)), fun z => h a ((hc a b hab).mpr (h' b z))⟩
  have more : ∀ {m m' : List Int}, m.Nodup → (∀ x ∈ m, x ∈ m') → ¬ (∀ x ∈ m', x ∈ m) → m.length + 1 ≤ m'.length := fun {m m'} hn h hs => by
    obtain ⟨x, hx⟩ := Classical.not_forall.mp hs
    obtain ⟨hx, hn2⟩ := Classical.not_imp.mp hx
    have q : (x :: m).Nodup := List.nodup_cons.mpr ⟨hn2, hn⟩
    exact List.Nodup.length_le_of_subset q fun y hy => by
      (rcases List.mem_cons.mp hy with rfl | hy)
      · exact hx
      · exact h y hy
  refine ⟨n4, one, ?_, least⟩
  by_cases c1 : ∀ x ∈ m1, x ∈ m0
  · have d1 := same s1 c1 (still e1 c1)
    have d2 := same s2 (stays e2 d1) d1
    have d3 := same s3 (stays e3 d2) d2
    exact same s4 (stays e4 d3) d3
  · by_cases c2 : ∀ x ∈ m2, x ∈ m1
    · have d2 := same s2 c2 (still e2 c2)
      have d3 := same s3 (stays e3 d2) d2
      exact same s4 (stays e4 d3) d3
    · by_cases c3 : ∀ x ∈ m3, x ∈ m2
      · have d3 := same s3 c3 (still e3 c3)
        exact same s4 (stays e4 d3) d3
      · by_cases c4 : ∀ x ∈ m4, x ∈ m3
        · exact same s4 c4 (still e4 c4)
        · have l1 := more n0 s1 c1
          have l2 := more n1 s2 c2
          have l3 := more n2 s3 c3
          have l4 := more n3 s4 c4
          have l0 : m0.length = 1 := by rw [e0]; rfl
          omega
theorem steps_F : Steps stepF := by
  refine ⟨fun m t x hx => ?_, fun m a b => ?_, fun m a b x hx => ?_⟩
  · unfold stepF
    split
    · exact ordI_mem.mpr (List.mem_append_left _ hx)
    · exact hx
  · have e : ∀ h : a ∈ m ∨ b ∈ m, stepF m [a, b] = ordI (m ++ [a, b]) := fun h => if_pos h
    exact ⟨fun h => by rw [e (.inl h)]; exact ordI_mem.mpr (by simp), fun h => by rw [e (.inr h)]; exact ordI_mem.mpr (by simp)⟩
  · by_cases h : a ∈ m ∨ b ∈ m
    · have e : stepF m [a, b] = ordI (m ++ [a, b]) := if_pos h
      rw [e] at hx
      have q := ordI_mem.mp hx
      rcases List.mem_append.mp q with q | q
      · exact .inl q
      · simp only [List.mem_cons, List.not_mem_nil, or_false] at q
        exact .inr ⟨h, q⟩
    · have e : stepF m [a, b] = m := if_neg h
      rw [e] at hx
      exact .inl hx
theorem steps_L : Steps stepL := by
  have pos : ∀ (m : List Int) (a b : Int), decide (a ∈ m) = decide (b ∈ m) → stepL m [a, b] = m := fun m a b h => if_pos h
  have neg : ∀ (m : List Int) (a b : Int), ¬ decide (a ∈ m) = decide (b ∈ m) → stepL m [a, b] = m ++ [if b ∈ m then a else b] := fun m a b h => if_neg h
  refine ⟨fun m t x hx => ?_, fun m a b => ?_, fun m a b x hx => ?_⟩
  · unfold stepL
    split
    · exact hx
    · exact List.mem_append_left _ hx
  · by_cases h : decide (a ∈ m) = decide (b ∈ m)
    · rw [pos m a b h]
      have q : a ∈ m ↔ b ∈ m := decide_eq_decide.mp h
      exact ⟨q.mp, q.mpr⟩
    · rw [neg m a b h]
      have q : ¬ (a ∈ m ↔ b ∈ m) := fun z => h (decide_eq_decide.mpr z)
      (refine ⟨fun z => ?_, fun z => ?_⟩)
      · have nb : b ∉ m := fun y => q ⟨fun _ => y, fun _ => z⟩
        rw [if_neg nb]
        exact List.mem_append_right _ (List.mem_singleton.mpr rfl)
      · rw [if_pos z]
        exact List.mem_append_right _ (List.mem_singleton.mpr rfl)
  · by_cases h : decide (a ∈ m) = decide (b ∈ m)
    · rw [pos m a b h] at hx
      exact .inl hx
    · rw [neg m a b h] at hx
      have q : ¬ (a ∈ m ↔ b ∈ m) := fun z => h (decide_eq_decide.mpr z)
      rcases List.mem_append.mp hx with y | y
      · exact .inl y
      · have y := List.mem_singleton.mp y
        by_cases hb : b ∈ m
        · rw [if_pos hb] at y
          exact .inr ⟨.inr hb, .inl y⟩
        · rw [if_neg hb] at y
          exact .inr ⟨.inl (Classical.byContradiction fun z => q ⟨fun w => absurd w z, fun w => absurd w hb⟩), .inr y⟩
theorem stepF_nd (m t : List Int) (h : m.Nodup) (_ : t ∈ tiesL) : (stepF m t).Nodup := by
  unfold stepF
  split
  · exact ordI_nd _
  · exact h
theorem stepL_nd (m t : List Int) (h : m.Nodup) (ht : t ∈ tiesL) : (stepL m t).Nodup := by
  obtain ⟨a, b, rfl⟩ := tie_two ht
  by_cases e : decide (a ∈ m) = decide (b ∈ m)
  · rw [show stepL m [a, b] = m from if_pos e]
    exact h
  · rw [show stepL m [a, b] = m ++ [if b ∈ m then a else b] from if_neg e]
    have q : ¬ (a ∈ m ↔ b ∈ m) := fun z => e (decide_eq_decide.mpr z)
    have out : (if b ∈ m then a else b) ∉ m := by
      by_cases hb : b ∈ m
      · rw [if_pos hb]
        exact fun z => q ⟨fun _ => hb, fun _ => z⟩
      · rw [if_neg hb]
        exact hb
    exact List.nodup_append.mpr ⟨h, by simp, fun x hx y hy z => out (by rw [← List.mem_singleton.mp hy, ← z]; exact hx)⟩
theorem whole_eq {ts : List (List Int)} (h : WebOk ts) : decide ((reachF (sortX ts)).length = 4) = decide ((metF ts).length = 4) := by
  obtain ⟨n1, o1, c1, l1⟩ := steps_F.done h.sort.tie stepF_nd rfl rfl rfl rfl (rfl : reachF (sortX ts) = (sortX ts).foldl stepF _)
  obtain ⟨n2, o2, c2, l2⟩ := steps_L.done h.tie stepL_nd rfl rfl rfl rfl (rfl : metF ts = ts.foldl stepL _)
  have sub1 := l1 (· ∈ metF ts) (fun a b z => c2 a b (sortX_mem.mp z)) o2
  have sub2 := l2 (· ∈ reachF (sortX ts)) (fun a b z => c1 a b (sortX_mem.mpr z)) o1
  have le1 := List.Nodup.length_le_of_subset n1 sub1
  have le2 := List.Nodup.length_le_of_subset n2 sub2
  (exact decide_eq_decide.mpr (by omega))
abbrev oddV (C : Addr) (t : List Int) (ts : List (List Int)) : List Dt := [.none, .tuple ((t :: ts).map tupJ), .list (t.map PyData.int), .tuple [.int (t.getD 1 0), .int (t.getD 0 0)], .tuple [.bool true, .int 2], .str "1-2", tupJ [1, 2, 3], webD C (sortX (t :: ts)), .int 0]
theorem no_tie_back : ∀ t ∈ tiesL, isTieD (.tuple [.int (t.getD 1 0), .int (t.getD 0 0)]) = false := by decide +kernel
theorem no_tie_rows {t : List Int} {ts : List (List Int)} : isTieD (.tuple ((t :: ts).map tupJ)) = false := by
  refine Bool.eq_false_iff.mpr fun h => ?_
  obtain ⟨l, e, _⟩ := tie_ex h
  cases l with
  | nil => cases (PyData.tuple.inj e)
  | cons a l => cases (List.cons.inj (PyData.tuple.inj e)).1
theorem oddV_no {C : Addr} {t : List Int} {ts : List (List Int)} (ht : t ∈ tiesL) : ∀ d ∈ oddV C t ts, isTieD d = false := by
  intro d hd
  simp only [List.mem_cons, List.not_mem_nil, or_false] at hd
  rcases hd with rfl | rfl | rfl | rfl | rfl | rfl | rfl | rfl | rfl
  · rfl
  · exact no_tie_rows
  · rfl
  · exact no_tie_back t ht
  · decide +kernel
  · rfl
  · decide +kernel
  · rfl
  · rfl
theorem show_bl (b : Bool) : ShowOk (.bool b) := by cases b <;> exact ⟨rfl, by decide +kernel, by decide +kernel, by decide +kernel, by decide +kernel⟩
theorem WebOk.back {ts : List (List Int)} (h : WebOk ts) : WebOk ts.reverse ∧ sortX ts.reverse = sortX ts := by
  refine ⟨⟨by rw [List.length_reverse]; exact h.pos, by rw [List.length_reverse]; exact h.few, fun t ht => h.tie t (List.mem_reverse.mp ht), (List.reverse_perm ts).nodup_iff.mpr h.nd⟩, ?_⟩
  exact sortX_uniq ((sortX_perm _).trans (List.reverse_perm ts)) (sortX_up _)
abbrev s_law_value_right : Stmt := top 61
theorem sc_law_value_right : FnScope ["_law_bag_here", "_law_ties", "_law_web", "_law_one", "_law_other", "_law_tie", "_law_odd"] ["_law_bag_here", "_law_ties", "_law_web"] (defScope s_law_value_right) := ⟨rfl, rfl, rfl, by decide +kernel, rfl, by decide +kernel, by decide +kernel⟩
abbrev R_law_value_right (Y : Cn) : FR := fD (fun ts : List (List Int) => [.imm (.tuple (ts.map tupJ)), .imm (webD Y.cl (sortX ts))]) WebOk fun _ ns => (.bool true, (Num.grabF 9 ns).2)
theorem ok_law_value_right {P : Program} {w : World} {K : PySem.W.Frag} {mg : Str → Option Value} {base : Heap} {Y : Cn} (F : DefAt K "_law_value_right" s_law_value_right) (hX : K.In base) (hG : base.Ns mainGlobals mg) (T : Txt K mg Y) (G_law_one_of : FnG P w K mg base 2 "_law_one_of" ["_law_bag_here", "_law_items"] R_law_one_of) (G_Web_ties : FnP P w K mg base 1 Y.cl "ties" (R_Web_ties Y)) (G_Web_is_whole : FnP P w K mg base 2 Y.cl "is_whole" (R_Web_is_whole Y)) (G_law_is_whole : FnG P w K mg base 1 "_law_is_whole" ["_law_ties"] R_law_is_whole) (G_Web_init : FnI P w K mg base 5 "Web" Y.cl ["self", "ties"] (R_Web_init Y)) (G_law_all_ties : FnG P w K mg base 1 "_law_all_ties" [] R_law_all_ties) (G_Web_contains : FnM P w K mg base 5 Y.cl "__contains__" ["self", "x"] (R_Web_contains Y)) (G_Web_len : FnM P w K mg base 1 Y.cl "__len__" ["self"] (R_Web_len Y)) (G_Web_iter : FnIt P w K mg base 1 Y.cl "_ties") (G_Web_eq : FnM P w K mg base 1 Y.cl "__eq__" ["self", "other"] (R_Web_eq Y)) (G_Web_str : FnM P w K mg base 1 Y.cl "__str__" ["self"] (R_Web_str Y)) : FnH P w K mg base 9 "_law_value_right" ["_law_bag_here", "_law_ties", "_law_web"] (R_law_value_right Y) := by
  have nd := sc_law_value_right.nd
  refine fnH_mk F hX hG sc_law_value_right (fun as β r β' h => by first | exact FR.len h | (obtain ⟨_, rfl, _⟩ := h; rfl) | (obtain ⟨_, _, rfl, _⟩ := h; rfl) | (obtain ⟨_, _, _, rfl, _⟩ := h; rfl) | (obtain ⟨_, _, _, _, rfl, _⟩ := h; rfl) | (obtain ⟨_, _, _, _, _, rfl, _⟩ := h; rfl)) (fun _ _ _ _ _ _ _ us hl => match us, hl with | [_, _, _], _ => rfl) (fun f cdv A outer s H E hr => ⟨_, (pss_cons (ps_if (PW.pt (pw_or (pt_cmpR (op_neD hr.units) (pe_p G_Web_ties (hr.toRoom.mono (by decide)) (pv 2)) (pe_callTy c_tuple (by rfl) T.z_tuple bo_tuple (pa_cons (pe_callB (TDS.cr_sortQ (d := 2) (S := 0) (B := 10) (by decide)) (by rfl) T.z_sorted bo_sorted (pa_cons (pv 1) pa_nil)) pa_nil)) (nomark _)) (pw_or (pt_cmpR op_ne (pe_callB (c_lenO G_Web_len (hr.toRoom.mono (by decide))) (by rfl) T.z_len bo_len (pa_cons (pv 2) pa_nil)) (pe_callB (c_lenK (K := K)) (by rfl) T.z_len bo_len (pa_cons (pv 1) pa_nil)) (nomark _)) (pw_or1 (pt_cmpR (op_neD hr.units) (pe_callTy (c_listO G_Web_iter G_Web_len (hr.toRoom.mono (by decide)) (hr.toRoom.mono (by decide))) (by rfl) T.z_list bo_list (pa_cons (pv 2) pa_nil)) (pe_callB (TDS.cr_sortQ (d := 2) (S := 0) (B := 10) (by decide)) (by rfl) T.z_sorted bo_sorted (pa_cons (pv 1) pa_nil)) (nomark _)))))) (pss_one (ps_ret pe_bl)) pss_nil) (pss_cons (ps_if (pt_cmpR op_ne (pe_callTy (c_strO G_Web_str (hr.toRoom.mono (by decide))) (by rfl) T.z_str bo_str (pa_cons (pv 2) pa_nil)) (pe_joinK (K := K) pe_str (pe_op op_cat (pe_lst (pa_cons pe_str pa_nil)) (pe_lc (own := [("_law_one", 3), ("_law_other", 4)]) rfl nd (pi_list (pe_callB (TDS.cr_sortQ (d := 2) (S := 0) (B := 10) (by decide)) (by rfl) T.z_sorted bo_sorted (pa_cons (pv 1) pa_nil))) (blkOk_by (N := ["_law_bag_here", "_law_ties", "_law_web", "_law_one", "_law_other", "_law_tie", "_law_odd"]) (sc := defScope s_law_value_right) (by decide +kernel)) (fun _ _ _ _ _ => by exact (pg_tupK (K := K) (n := 2) rfl (pgs_cons (pg_name (i := 3) nd rfl (Or.inl rfl)) (pgs_cons (pg_name (i := 4) nd rfl (Or.inl rfl)) pgs_nil)))) (fun _ _ _ _ _ => by exact pts_nil) (fun _ _ _ _ _ => by exact (pe_op op_add_str (pe_op op_add_str (pe_callTy cr_strI (by rfl) T.z_str bo_str (pa_cons (pv 3) pa_nil)) pe_str) (pe_callTy cr_strI (by rfl) T.z_str bo_str (pa_cons (pv 4) pa_nil))))))) (nomark _)) (pss_one (ps_ret pe_bl)) pss_nil) (pss_cons (ps_if (pt_cmpR op_ne (pe_callB (call_rep (K := K) hr.gd hr.units) (by rfl) T.z_repr bo_repr (pa_cons (pe_p G_Web_is_whole (hr.toRoom.mono (by decide)) (pv 2)) pa_nil)) (pe_callB (call_rep (K := K) hr.gd hr.units) (by rfl) T.z_repr bo_repr (pa_cons (pe_fn G_law_is_whole (hr.toRoom.mono (by decide)) (pa_cons (pv 1) pa_nil)) pa_nil)) (nomark _)) (pss_one (ps_ret pe_bl)) pss_nil) (pss_cons (ps_if (pt_cmpR (op_neD hr.units) (pe_lc (own := [("_law_tie", 5)]) rfl nd (pi_list (pe_fn0 G_law_all_ties (hr.toRoom.mono (by decide)))) (blkOk_by (N := ["_law_bag_here", "_law_ties", "_law_web", "_law_one", "_law_other", "_law_tie", "_law_odd"]) (sc := defScope s_law_value_right) (by decide +kernel)) (fun _ _ _ _ _ => by exact (pg_name (i := 5) nd rfl (Or.inl rfl))) (fun _ _ _ _ _ => by exact (pts_one (pt_cmpR op_ne (pe_cmpR (op_inO G_Web_contains (hr.toRoom.mono (by decide))) (pv 5) (pv 2) (by rfl)) (pe_cmpR (op_inTup (K := K) (units1 hr.toRoom)) (pv 5) (pv 1) (by rfl)) (nomark _)))) (fun _ _ _ _ _ => by exact (pv 5))) (pe_lst pa_nil) (nomark _)) (pss_one (ps_ret pe_bl)) pss_nil) (pss_cons (ps_set (i := 6) nd rfl (Or.inl rfl) (pe_fn G_law_one_of (hr.toRoom.mono (by decide)) (pa_cons (pv 0) (pa_cons (pe_lst (pa_cons pe_non (pa_cons (pv 1) (pa_cons (pe_callTy c_list (by rfl) T.z_list bo_list (pa_cons (pe_ix ix_tup (pv 1) pe_int (fun _ _ => rfl)) pa_nil)) (pa_cons (pe_tup (pa_cons (pe_ix ix_tup (pe_ix ix_tup (pv 1) pe_int (fun _ _ => rfl)) pe_int (fun _ _ => rfl)) (pa_cons (pe_ix ix_tup (pe_ix ix_tup (pv 1) pe_int (fun _ _ => rfl)) pe_int (fun _ _ => rfl)) pa_nil))) (pa_cons (pe_tup (pa_cons pe_bl (pa_cons pe_int pa_nil))) (pa_cons pe_str (pa_cons (pe_tup (pa_cons pe_int (pa_cons pe_int (pa_cons pe_int pa_nil)))) (pa_cons (pv 2) (pa_cons pe_int pa_nil)))))))))) pa_nil)))) (pss_one (ps_ret (pe_and (pe_cmpR (op_notInO G_Web_contains (hr.toRoom.mono (by decide))) (pv 6) (pv 2) (by rfl)) (pe_and (pe_cmpR (op_eqO G_Web_eq (hr.toRoom.mono (by decide))) (pv 2) (pe_new (E := E0) G_Web_init (hr.toRoom.mono (by decide)) passL (pa_cons (pe_revT (pv 1)) pa_nil)) (nomark _)) (pe_and (pe_cmpR (op_neO G_Web_eq (hr.toRoom.mono (by decide)) T.nx) (pv 2) (pv 1) (nomark _)) (pe_one (pe_cmpR (op_neO G_Web_eq (hr.toRoom.mono (by decide)) T.nx) (pv 2) pe_non (nomark _))))))))))))), fun as β r β' hR => ?_⟩)
  obtain ⟨ts, n, ns, rfl, hW, hb, rfl, rfl, rfl⟩ := hR
  dsimp only [cxOf, Cx.nox, Cx.wish] at *
  have few := hW.few
  have pos := hW.pos
  have hS := hW.sort
  obtain ⟨t, us, rfl⟩ : ∃ t us, ts = t :: us := by
    cases ts with
    | nil => exact absurd pos (by decide)
    | cons t us => exact ⟨t, us, rfl⟩
  generalize hts : t :: us = ts at *
  have h0 : atI (ts.map tupJ) 0 = some (tupJ t) := by rw [← hts]; exact at0 _ _
  have ht : t ∈ tiesL := hW.tie t (by rw [← hts]; exact List.mem_cons_self)
  have so : ∀ {ρ : Rho} {β : Bag}, ρ[1]? = some (some (.imm (.tuple (ts.map tupJ)))) → EvB K (tCB (TDS.rSortQ K 2 0 10) (tCons (tVar 1) tNil)) ρ β (.list ((sortX ts).map tupJ)) β := fun h => d_sortTX (d_var h) (by omega) fun t ht => tie_ok3 (hW.tie t ht)
  refine .ret (st_sq (st_ifF (t_orF (TtB.to (t_test (d_neTs (ls := sortX ts) (ms := sortX ts) (d_prop (d_var rfl) ⟨sortX ts, rfl, rfl, rfl, rfl⟩) (d_tupleOf (so rfl)))) (by rw [decide_eq_true rfl]; rfl)) (t_orF (TtB.to (t_test (d_neI (d_lenO (n := ((sortX ts).length : Int)) (d_var rfl) ⟨sortX ts, rfl, rfl, rfl, rfl⟩ ⟨by omega, by rw [sortX_len]; omega⟩) (d_len (d_var rfl) (.inr rfl)))) (by rw [List.length_map, sortX_len, decide_eq_true rfl]; rfl)) (TtB.to (t_test (d_neLs (ls := sortX ts) (ms := sortX ts) (d_listO (d_var rfl) rfl ⟨sortX ts, rfl, by rw [List.length_map], rfl, rfl⟩ (by rw [List.length_map, sortX_len]; omega)) (so rfl))) (by rw [decide_eq_true rfl]; rfl)))) st_next) ?_)
  refine st_sq (st_ifF (TtB.to (t_test (d_neS (i := strW (sortX ts)) (j := Txt.join " " (("web" : Str) :: (sortX ts).map pieceL)) (d_strO (t := strW (sortX ts)) (d_var rfl) ⟨sortX ts, rfl, hS, rfl, rfl, rfl⟩) (d_join (ys := ("web" : Str) :: (sortX ts).map pieceL) d_str (EvB.to (d_cat (ds := [.str "web"]) (es := ((sortX ts).map pieceL).map .str) (d_lst (a_lit d_str a_nil) rfl (by decide)) ?lc (by rw [List.length_map, List.length_map, sortX_len]; show 1 + ts.length ≤ 100000; omega)) (by rfl)) (web_len pieceL (fun t ht => ?pl) hS.few)))) ?txt) st_next) ?_
  case pl => rw [piece_same t (hS.tie t ht)]; exact (piece_len t (hS.tie t ht)).2.2
  case txt =>
    have e : (sortX ts).map pieceL = (sortX ts).map pieceF := List.map_congr_left fun t ht => piece_same t (hS.tie t ht)
    rw [e]
    show (!decide (strW (sortX ts) = strW (sortX ts))) = false
    rw [decide_eq_true rfl]
    rfl
  case lc =>
    refine (d_lcLp (ps := (sortX ts).map tiePr) (rs := (sortX ts).map fun t => .str (pieceL t)) ((so rfl).to (by rw [ties_pairs hS.tie])) (lcz_ties pieceL hS.tie fun t ht => ?_) (by rw [List.length_map, sortX_len]; omega) (show 3 ∈ [3, 4] by decide) (show 4 ∈ [3, 4] by decide)).to (by rw [strs_map])
    obtain ⟨g1, g2⟩ := tie_log t ht
    obtain ⟨l1, l2⟩ := pieceL_len t ht
    exact d_addS (d_addS (d_strI (d_var rfl) g1) d_str (sz100 l1)) (d_strI (d_var rfl) g2) (sz100 l2)
  refine st_sq (st_ifF (TtB.to (t_test (d_neS (d_repr (d_prop (r := .bool (decide ((reachF (sortX ts)).length = 4))) (d_var rfl) ⟨sortX ts, rfl, hS.tie, rfl, rfl, rfl⟩) (show_bl _)) (d_repr (d_call0 (r := .bool (decide ((metF ts).length = 4))) (a_con (d_var rfl) a_nil) ⟨ts, rfl, hW, rfl, rfl, rfl⟩) (show_bl _)))) (by rw [whole_eq hW, decide_eq_true rfl]; rfl)) st_next) ?_
  have none_ : tiesL.filter (fun l => !decide ((isTieD (tupJ l) && decide (l ∈ sortX ts)) = decide (l ∈ ts))) = [] := by
    refine List.filter_eq_nil_iff.mpr fun l hl => ?_
    rw [tie_is l hl, Bool.true_and, show decide (l ∈ sortX ts) = decide (l ∈ ts) from decide_eq_decide.mpr sortX_mem, decide_eq_true rfl]
    decide
  refine st_sq (st_ifF (TtB.to (t_test (d_neLs (ls := tiesL.filter fun l => !decide ((isTieD (tupJ l) && decide (l ∈ sortX ts)) = decide (l ∈ ts))) (ms := []) (d_lcL (ds := tiesL.map tupJ) (d_call0 a_nil ⟨(), rfl, rfl, rfl, rfl⟩) (lc_tups _ fun l hl => ⟨t_test (d_neB (d_inO (c := isTieD (tupJ l) && decide (l ∈ sortX ts)) (d_var rfl) (d_var rfl) ⟨sortX ts, tupJ l, rfl, by rw [ofT_tup], rfl, rfl⟩) (d_inTT (d_var rfl) (d_var rfl))), d_var rfl⟩) (by rw [List.length_map]; exact Nat.le_trans (List.length_filter_le _ _) (by decide)) (wipe_ok (by decide))) (d_lst a_nil rfl (by decide)))) (by rw [none_, decide_eq_true rfl]; rfl)) st_next) ?_
  have m1 : (oddV Y.cl t us).getD (Num.grabF 9 ns).1.toNat .none ∈ oddV Y.cl t us := getD_mem (xs := oddV Y.cl t us) (by show _ :: _ ≠ []; exact List.cons_ne_nil _ _) ns
  have no := oddV_no ht _ m1
  obtain ⟨a, b, hab⟩ := tie_two ht
  refine st_seq (β1 := some (Num.grabF 9 ns).2) (st_asg (d := (oddV Y.cl t us).getD (Num.grabF 9 ns).1.toNat .none) (c_oneF (xs := oddV Y.cl t us) rfl (d_lst (ds := oddV Y.cl t us) (a_lit d_non (a_lit ((d_var rfl).to (by rw [hts])) (a_lit (d_listOf (d_ixT (d_var rfl) d_int h0) (.inr rfl)) (a_lit (d_tup (ds := [.int (t.getD 1 0), .int (t.getD 0 0)]) (a_lit (d_ixT (d_ixT (d_var rfl) d_int h0) d_int (by rw [hab]; rfl)) (a_lit (d_ixT (d_ixT (d_var rfl) d_int h0) d_int (by rw [hab]; exact at0 _ _)) a_nil)) rfl (by show 2 ≤ 100000; decide)) (a_lit (d_tup (ds := [.bool true, .int 2]) (a_lit d_bl (a_lit d_int a_nil)) rfl (by decide)) (a_lit d_str (a_lit (d_tup (ds := [.int 1, .int 2, .int 3]) (a_lit d_int (a_lit d_int (a_lit d_int a_nil))) rfl (by decide)) (a_lit ((d_var rfl).to (by rw [hts])) (a_lit d_int a_nil))))))))) rfl (by show 9 ≤ 100000; decide)) (by show _ :: _ ≠ []; exact List.cons_ne_nil _ _) (by show 9 ≤ 1000; decide) hb)) ?_
  generalize (oddV Y.cl t us).getD (Num.grabF 9 ns).1.toNat .none = odd at *
  generalize (Num.grabF 9 ns).2 = ms at *
  show StB K _ [some .bag, some (.imm (.tuple (ts.map tupJ))), some (.imm (webD Y.cl (sortX ts))), none, none, none, some (.imm odd)] (some ms) _ (some ms)
  obtain ⟨hB, eB⟩ := hW.back
  have bk : EvB K (tMake Y.cl (spI K Y.cl (R_Web_init Y)) [] E0 (tCons (tRevT K (tVar 1)) tNil)) [some .bag, some (.imm (.tuple (ts.map tupJ))), some (.imm (webD Y.cl (sortX ts))), none, none, none, some (.imm odd)] (some ms) (webD Y.cl (sortX ts)) (some ms) := by
    refine x_new (ps := webF (sortX ts)) (a_con (d := .tuple (ts.reverse.map tupJ)) ((d_revT (d_var rfl)).to (by rw [List.map_reverse])) a_nil) ⟨_, rfl, .inr ⟨ts.reverse, rfl, hB, ?_⟩, rfl, rfl⟩
    rw [eB]
  exact st_ret (d_andT ((d_notInO (c := isTieD odd && decide (ofT odd ∈ sortX ts)) (d_var rfl) (d_var rfl) ⟨sortX ts, odd, rfl, rfl, rfl, rfl⟩).to (by rw [no]; rfl)) (d_andT ((d_eqO (c := decide (sortX ts = sortX ts)) (d_var rfl) bk (.own _) ⟨sortX ts, _, rfl, .inr ⟨sortX ts, rfl, rfl⟩, rfl, rfl⟩).to (congrArg PyData.bool (decide_eq_true rfl))) (d_andT (d_neO (c := false) (d_var rfl) (d_var rfl) (.tup _ T.rT) ⟨sortX ts, _, rfl, .inl ⟨.inr (.inr (.inl ⟨_, rfl⟩)), rfl⟩, rfl, rfl⟩) (d_neO (c := false) (d_var rfl) d_non (.non T.rN) ⟨sortX ts, _, rfl, .inl ⟨.inl rfl, rfl⟩, rfl, rfl⟩))))
end K73
set_option Elab.async false
set_option linter.all false
set_option maxRecDepth 100000
set_option maxHeartbeats 4100000
namespace TD
open PySem L2 PySem.Spec PyProof.Rows LamX
open Evl (Ex ex_l ex_t fresh_back sq_of st_of sz_of sz_lt)
section
variable [TabW] {K : PySem.W.Frag} {b : Addr} {ρ ρ1 ρ2 : Rho} {β β1 β2 β3 : Bag} {te : TE} {ta : TA} {tu tw : TS} {o : Out} {G H G1 H1 G2 H2 : Hp} {σ : L2.St} {d : Dt}
theorem EnvD.setS {i : Nat} {v : V} {a : Slot} (E : EnvD K b β G H σ ρ) (h : DenS K b G v a) : EnvD K b β G H (σ.set i (some v)) (ρ.set i (some a)) := by
  cases a with
  | imm d => exact E.set h
  | bag =>
    have e : v = .ref b := h
    subst e
    exact E.setBag
  | fn f =>
    have e : v = .ref f := h
    subst e
    exact E.setFn
theorem DenSs.get {vs : List V} {as : List Slot} {i : Nat} {v : V} (h : DenSs K b G vs as) (hi : vs[i]? = some v) : ∃ a, as[i]? = some a ∧ DenS K b G v a := by
  revert i
  induction h with
  | nil => (intro i hi; simp at hi)
  | cons h1 _ ih =>
    intro i hi
    cases i with
    | zero => simp at hi; subst hi; exact ⟨_, rfl, h1⟩
    | succ i =>
      obtain ⟨a, z1, z2⟩ := ih (i := i) (by simpa using hi)
      exact ⟨a, by simpa using z1, z2⟩
inductive ForS (K : PySem.W.Frag) (j : Nat) (tu : TS) : List Slot → Rho → Bag → Out → Bag → Prop
  | nil (ρ : Rho) (β : Bag) : ForS K j tu [] ρ β (.nx ρ) β
  | nx {a : Slot} {as : List Slot} {ρ ρ1 : Rho} {β β1 β2 : Bag} {o : Out} : StB K tu (ρ.set j (some a)) β (.nx ρ1) β1 → ForS K j tu as ρ1 β1 o β2 → ForS K j tu (a :: as) ρ β o β2
  | ret {a : Slot} {as : List Slot} {ρ : Rho} {β β1 : Bag} {r : Dt} : StB K tu (ρ.set j (some a)) β (.ret r) β1 → ForS K j tu (a :: as) ρ β (.ret r) β1
theorem ForS.som {j : Nat} {as : List Slot} (h : ForS K j tu as ρ β o β2) : β2.isSome = β.isSome := by
  induction h with
  | nil => rfl
  | nx h _ ih => exact ih.trans h.som
  | ret h => exact h.som
/-- a def of the text, named -/
theorem s_fnC {f : Addr} : EvS K (tC (.ref f)) ρ β (.fn f) β := ⟨rfl, fun b G H σ Q E k => k _ G H (Step.refl E.sub) E.bagk rfl⟩
end
structure HeldX (P : Program) (w : World) (K : PySem.W.Frag) (mg : Str → Option Value) (base : Heap) (k : Nat) (f : Addr) (sp : Sp) : Prop where
  ex : ∃ (j : Nat) (fd : FuncData) (ps : List Str), j ≤ k ∧ FnOk P w K mg base (L2.CX P w) j f fd ps sp ∧ Binds K fd ps [] ∧ PySem.W.keepIn K (.ref f) = true
def tCallX (i : Nat) (S : Addr → Sp → Prop) (E : XK) (t : TA) : TE := fun σ H Q => ∃ (f : Addr) (sp : Sp), σ[i]? = some (some (.ref f)) ∧ S f sp ∧ t σ H fun vs H1 => sp (vs ++ []) H1 Q E
section
variable {X : Cx} {k i : Nat} {E : XK} {x : Str} {p pos : Pos} {e : Expr} {es : List Expr} {t : TA} {S : Addr → Sp → Prop}
theorem pe_callX (A : ∀ f sp, S f sp → HeldX X.prog X.w X.K X.mg X.base k f sp) (hr : Room k X.A) (hN : X.N[i]? = some x) (hv : Vis X.env.scope x) (hx : Passes (L2.CX X.prog X.w) X E) (ha : PA X (e :: es) t)
    (hdb : (x == ("__debug__" : Str)) = false := by decide)
    (hcd : (x == ("__classdict__" : Str)) = false := by decide)
    (he : starEach (e :: es) X.env = (false, eval e X.env) :: starEach es X.env := by rfl) (hpl : (backTo pos (starEach es X.env)).any (·.1) = false := by rfl) : PE X (.Call (.Name x p) (e :: es) [] pos) (tCallX i S E t) := by
  constructor
  rintro pins s σ H Q I ⟨f, sp, slot, told, args⟩
  rcases (A f sp told).ex with ⟨j, fd, ps, small, F, binds, kind⟩
  have call := pe_callL (p := p) F (hr.mono small) hN hv kind binds .nil hx ha hdb hcd he hpl
  exact call.run pins s σ H Q I ⟨slot, args⟩
end
section
variable [TabW] {P : Program} {w : World} {K : PySem.W.Frag} {mg : Str → Option Value} {base : Heap} {k : Nat} {x : Str} {ps : List Str} {R : FX}
theorem FnX.held (F : FnX P w K mg base k x ps R) : ∃ f, mg x = some (.ref f) ∧ ∀ j, k ≤ j → HeldX P w K mg base j f (spX K R) := by
  obtain ⟨f, fd, hm, hF, hb, hk⟩ := F.ex
  exact ⟨f, hm, fun j hj => ⟨k, fd, ps, hj, hF, hb, hk⟩⟩
end
section
variable [TabW] {K : PySem.W.Frag} {b : Addr} {ρ : Rho} {β β1 : Bag} {ta : TA} {as : List Slot} {R : FX} {r : Dt} {C : Addr} {k : Kept} {l : Clauses} {s fine : Str} {T : List (Addr × Str)} {i : Nat} {S : Addr → Sp → Prop} {f : Addr}
theorem d_lamExX (hw : ∀ P q, TabW.w P q ↔ (P, q) ∈ T) (hi : ρ[i]? = some (some (Slot.fn f))) (hS : S f (spX K R)) (ha : EvA K ta ρ β as β1) (hR : R as none (.ex C k) none) (ht : ToldAs K C l k s) : EvB K (tLam T (TTell K l fine) (fun E => tCallX i S E ta)) ρ β (.str s) β1 := by
  refine ⟨ha.som, fun b G H σ Q E kk => ⟨tabs_of hw E.tabs, fun H1 e t1 => ?_⟩⟩
  have s0 : Step b β.isSome G H G H1 := step_ext hw E.sub E.tabs e t1
  have k0 : BagOk b β G H1 := fun ns z => ⟨e _ _ (E.bagk ns z).1 NoT.lst.1, (E.bagk ns z).2⟩
  have E1 := E.step s0 k0
  exact ⟨f, _, E1.fnv i f hi, hS, (x_raise0 (E := tellX K Q l) ha hR).run b G H1 σ _ E1 fun dx G2 H2 s2 k2 ka => toldAs_run ht s2.s ka (kk _ G2 H2 (s0.trans s2) k2 (.str _))⟩
end
end TD
set_option Elab.async false
set_option linter.all false
set_option maxRecDepth 100000
set_option maxHeartbeats 1100000
namespace K73
open PySem L2 TD PySem.Spec PyProof.Rows
open Evl (Ex ex_l ex_t fresh_back sq_of st_of sz_of sz_lt)
variable [TabW]
abbrev s_law_word : Stmt := top 60
theorem sc_law_word : FnScope ["_law_call", "error"] ["_law_call"] (defScope s_law_word) := ⟨rfl, rfl, rfl, by decide +kernel, rfl, by decide +kernel, by decide +kernel⟩
abbrev Cn.cls (Y : Cn) : Clauses := [(Y.cV, .lit "web"), (Y.cO, .lit "operation"), (Y.cN, .fld "number " "given"), (Y.cR, .fld "refused " "reason")]
theorem gives {X : Cx} {K : PySem.W.Frag} {mg : Str → Option Value} {Y : Cn} {k : Nat} (hK : X.K = K) (hM : X.mg = mg) (hr : RoomG k X.A) (T : Txt K mg Y) (g : Addr) (cdg : Value) (q : Str) :
    LamX.GivesTo X ["_law_call", "error"] "_law_word" (defScope s_law_word) g cdg (defBody s_law_word) "_law_call" q (TTell K Y.cls "fine") := by
  subst hK hM
  have un : ∀ (s : Shared), (X.A.deeper (envOfC "_law_word" (defScope s_law_word) s.heap.objs.size g cdg)).units + 64 < cLine := fun s => by
    have := hr.un
    show X.A.units + 3 + 64 < cLine
    omega
  exact tells rfl (fun s H => cls_lit ⟨rfl, by decide, .inl T.b_InvalidWeb.gC⟩ (cls_lit ⟨rfl, by decide, .inl T.b_InvalidOperation.gC⟩ (cls_fld (newId := "") sc_law_word.nd rfl rfl ⟨rfl, by decide, .inl T.o_InvalidNumber.gC⟩ T.o_InvalidNumber.xf T.o_InvalidNumber.noN hr.gd (un s) rfl T.z_repr rfl (by decide) (by decide) rfl (cls_fld (newId := "") sc_law_word.nd rfl rfl ⟨rfl, by decide, .inl T.o_Refused.gC⟩ T.o_Refused.xf T.o_Refused.noN hr.gd (un s) rfl T.z_repr rfl (by decide) (by decide) rfl cls_nil))))
abbrev q1 : Str := ("_law_changes_right" : Str) ++ (".<locals>." : Str)
abbrev q2 : Str := ("_law_refused" : Str) ++ (".<locals>." : Str)
theorem qE1 : q1 ++ ("<lambda>" : Str) = "_law_changes_right.<locals>.<lambda>" := by decide +kernel
theorem qE2 : q2 ++ ("<lambda>" : Str) = "_law_refused.<locals>.<lambda>" := by decide +kernel
/-- a table of code objects, as its maker knows it -/
structure TbAt (base : Heap) (mg : Str → Option Value) (Y : Cn) (c : Addr) (q : Str) : Prop where
  ex : ∃ P, LamX.TabB base mg c P ∧ (P, q ++ ("<lambda>" : Str)) ∈ Y.T ∧ ∀ p ∈ Y.T, p.1 = P → p.2 = q ++ ("<lambda>" : Str)
theorem pe_tell {X : Cx} {K : PySem.W.Frag} {mg : Str → Option Value} {base : Heap} {Y : Cn} {k : Nat} {sc scope : Scope} {params : Arguments} {body : Expr} {t : XK → TE} {p lpos pos : Pos} {c : Addr} {q : Str}
    (hr : RoomG (k + 2) X.A) (WA : WordAt K mg "_law_word" s_law_word) (TB : TbAt base mg Y c q) (T : Txt K mg Y)
    (LB : LamX.lamSB sc scope = true) (hbind : ∀ (q : Str) (cl : List (Str × Addr)) (pm cv ctv : Value), bindArgs (PySem.W.kla_fn "<lambda>" q params body scope cl pm cv ctv) ⟨[], []⟩ = pure [])
    (hbody : ∀ (A : Around) (outer : List PySem.Env) (s : Shared) (H : Hp) (E : XK) (f c' : Addr), Room k (A.deeper (LamX.lamEnv X scope s.heap.objs.size f c')) → PE (LamX.lamCx X A outer s H E scope f c') body (t E))
    (hsc : X.env.scope = sc := by rfl) (hq : X.env.qual = q := by rfl) (hcode : X.env.code = .ref c := by rfl) (hdef : defaultsOf params X.env = ([], []) := by rfl)
    (hK : X.K = K := by rfl) (hM : X.mg = mg := by rfl) (hB : X.base = base := by rfl) (hg : Gl X "_law_word" := by rfl) :
    PE X (.Call (.Name "_law_word" p) [.Lambda params body scope lpos] [] pos) (LamX.tLam Y.T (TTell K Y.cls "fine") t) := by
  subst hsc hB hq
  obtain ⟨P, TB, hm, hu⟩ := TB.ex
  exact pe_word WA sc_law_word rfl (Or.inl rfl) (fun _ _ _ _ _ _ us hl => match us, hl with | [_], _ => rfl) (fun g cdg => gives hK hM hr T g cdg _) (hM ▸ TB) hcode hm hu hr.toRoom (LamX.lamS_by LB) hdef hbind hbody hK hM hg
theorem tb_at {base : Heap} {mg : Str → Option Value} {Y : Cn} {c P : Addr} {q : Str} (h : LamX.TabB base mg c P) (hm : (P, q ++ ("<lambda>" : Str)) ∈ Y.T) (hu : ∀ p ∈ Y.T, p.1 = P → p.2 = q ++ ("<lambda>" : Str)) : TbAt base mg Y c q := ⟨P, h, hm, hu⟩
abbrev wN (d : Dt) : Str := ("number " : Str) ++ d.shown
def tellB (d : Dt) : Bool := flatD d && d.showable && !d.hasDict && decide (d.depth ≤ 20) && decide (d.shown.length ≤ 1000) && PyData.canLay0 (.str (wN d))
theorem web_lay : PyData.canLay0 (.str "web") = true := by decide +kernel
theorem op_lay : PyData.canLay0 (.str "operation") = true := by decide +kernel
theorem tell_show {d : Dt} (h : tellB d = true) : ShowOk d ∧ d.shown.length ≤ 1000 ∧ PyData.canLay0 (.str (wN d)) = true := by
  unfold tellB at h
  simp only [Bool.and_eq_true, decide_eq_true_eq, Bool.not_eq_true'] at h
  obtain ⟨⟨⟨⟨⟨h1, h2⟩, h3⟩, h4⟩, h5⟩, h6⟩ := h
  exact ⟨⟨h1, h2, h3, h4, Nat.le_trans h5 (by decide)⟩, h5, h6⟩
theorem num_len {d : Dt} (h : tellB d = true) : ("number " : Str).length + d.shown.length ≤ sizeLine := by
  have h1 := (tell_show h).2.1
  have h2 : ("number " : Str).length = 7 := by decide +kernel
  have h3 : sizeLine = 16777216 := rfl
  omega
theorem told_num {K : PySem.W.Frag} {mg : Str → Option Value} {Y : Cn} {d : Dt} (T : Txt K mg Y) (h : tellB d = true) : ToldAs K Y.cN Y.cls (some ("given", d)) (wN d) := .next T.eNV (.next T.eNO (.fld T.eNN (tell_show h).1 (num_len h)))
theorem told_web {K : PySem.W.Frag} {mg : Str → Option Value} {Y : Cn} (T : Txt K mg Y) : ToldAs K Y.cV Y.cls none "web" := .lit T.eVV
theorem told_op {K : PySem.W.Frag} {mg : Str → Option Value} {Y : Cn} (T : Txt K mg Y) : ToldAs K Y.cO Y.cls none "operation" := .next T.eOV (.lit T.eOO)
abbrev lastD : Dt := .tuple [.str "last"]
abbrev lastT : Str := ("refused " : Str) ++ lastD.shown
theorem last_text : ("refused ('last',)" : Str) = lastT := by decide +kernel
theorem show_last : ShowOk lastD := ⟨rfl, by decide +kernel, by decide +kernel, by decide +kernel, by decide +kernel⟩
theorem last_len : ("refused " : Str).length + lastD.shown.length ≤ sizeLine := by
  have h1 : ("refused " : Str).length + lastD.shown.length ≤ 100 := by decide +kernel
  exact sz100 h1
theorem told_last {K : PySem.W.Frag} {mg : Str → Option Value} {Y : Cn} (T : Txt K mg Y) : ToldAs K Y.cR Y.cls (some ("reason", lastD)) lastT := .next T.eRV (.next T.eRO (.next T.eRN (.fld T.eRR show_last last_len)))
theorem flat_strs : ∀ ss : List Str, flatL (ss.map .str) = true
  | [] => rfl
  | s :: ss => by
    show (flatD (.str s) && flatL (ss.map .str)) = true
    rw [flat_strs ss]
    rfl
theorem lay_strs : ∀ ss : List Str, (∀ s ∈ ss, PyData.canLay0 (.str s) = true) → PyData.canLayAll0 (ss.map .str) = true
  | [], _ => rfl
  | s :: ss, h => by
    show (PyData.canLay0 (.str s) && PyData.canLayAll0 (ss.map .str)) = true
    rw [lay_strs ss fun t ht => h t (List.mem_cons_of_mem _ ht), h s (List.mem_cons_self ..)]
    rfl
theorem depth_strs : ∀ ss : List Str, PyData.depthAll (ss.map .str) = 0
  | [] => rfl
  | s :: ss => by
    show max (PyData.depth (.str s)) (PyData.depthAll (ss.map .str)) = 0
    rw [depth_strs ss]
    rfl
theorem shaped_strs {ss : List Str} (h : ∀ s ∈ ss, PyData.canLay0 (.str s) = true) : SeqAt.shaped (.list (ss.map .str)) = true := by
  show (PyData.canLayAll0 (ss.map .str) && decide (PyData.depthAll (ss.map .str) + 1 ≤ 64)) = true
  rw [lay_strs ss h, depth_strs]
  rfl
theorem eqv_strs : ∀ ss : List Str, PyData.eqvAll (ss.map .str) (ss.map .str) = true
  | [] => rfl
  | s :: ss => by
    show (PyData.eqv (.str s) (.str s) && PyData.eqvAll (ss.map .str) (ss.map .str)) = true
    rw [eqv_strs ss]
    have e : PyData.eqv (.str s) (.str s) = decide (s = s) := rfl
    rw [e, decide_eq_true rfl]
    rfl
theorem d_eqStrs {K : PySem.W.Frag} {ρ : Rho} {β β1 β2 : Bag} {ta tb : TE} {ss : List Str} (h : ∀ s ∈ ss, PyData.canLay0 (.str s) = true) (ha : EvB K ta ρ β (.list (ss.map .str)) β1) (hb : EvB K tb ρ β1 (.list (ss.map .str)) β2) : EvB K (tOp (rEqD K) ta tb) ρ β (.bool true) β2 :=
  (d_eqD ha hb (flat_strs ss) (flat_strs ss) (shaped_strs h) (shaped_strs h)).to (congrArg PyData.bool (eqv_strs ss))
theorem d_neStrs {K : PySem.W.Frag} {ρ : Rho} {β β1 β2 : Bag} {ta tb : TE} {ss : List Str} (h : ∀ s ∈ ss, PyData.canLay0 (.str s) = true) (ha : EvB K ta ρ β (.list (ss.map .str)) β1) (hb : EvB K tb ρ β1 (.list (ss.map .str)) β2) : EvB K (tOp (rNeD K) ta tb) ρ β (.bool false) β2 :=
  (d_neD ha hb (flat_strs ss) (flat_strs ss) (shaped_strs h) (shaped_strs h)).to (by
    show PyData.bool (!PyData.eqvAll (ss.map .str) (ss.map .str)) = _
    rw [eqv_strs]
    rfl)
abbrev chgBody (K : PySem.W.Frag) (Y : Cn) : TS := tIfS (tTest (tOp (rInTup K) (tVar 2) (tVar 0)))
  (tSeq (tAsg (LamX.tLam Y.T (TTell K Y.cls "fine") fun E => tMeth Y.cl "without_tie" (spX K (R_Web_without_tie Y)) [] E (tVar 1) (tCons (tVar 2) tNil)) (gName 3))
    (tSeq (tIfS (tTest (tOp rEq (tCB (TD.rLen K) (tCons (tVar 0) tNil)) (tC (V.int 1)))) (tIfS (tTest (tOp rNe (tVar 3) (tC (V.str "refused ('last',)")))) (tRet (tC (V.bl false))) tNext)
        (tIfS (tTest (tOp (rNeD K) (tProp Y.cl (spR K (R_Web_ties Y)) [] E0 (tMeth Y.cl "without_tie" (spX K (R_Web_without_tie Y)) [] E0 (tVar 1) (tCons (tVar 2) tNil))) (tCB (rTupleOf K) (tCons (tLc (iList K (tCB (TDS.rSortQ K 2 0 10) (tCons (tVar 0) tNil))) (gName 4) (tTest (tOp (rNeD K) (tVar 4) (tVar 2))) (tVar 4) [4]) tNil)))) (tRet (tC (V.bl false))) tNext))
      (tIfS (tTest (tOp rNe (LamX.tLam Y.T (TTell K Y.cls "fine") fun E => tMeth Y.cl "with_tie" (spX K (R_Web_with_tie Y)) [] E (tVar 1) (tCons (tVar 2) tNil)) (tC (V.str "operation")))) (tRet (tC (V.bl false))) tNext)))
  (tIfS (tTest (tOp (rNeD K) (tProp Y.cl (spR K (R_Web_ties Y)) [] E0 (tMeth Y.cl "with_tie" (spX K (R_Web_with_tie Y)) [] E0 (tVar 1) (tCons (tVar 2) tNil))) (tCB (rTupleOf K) (tCons (tCB (TDS.rSortQ K 2 0 10) (tCons (tOp (rCatA K) (tVar 0) (tTup (tCons (tVar 2) tNil))) tNil)) tNil)))) (tRet (tC (V.bl false)))
    (tIfS (tTest (tOp rNe (LamX.tLam Y.T (TTell K Y.cls "fine") fun E => tMeth Y.cl "without_tie" (spX K (R_Web_without_tie Y)) [] E (tVar 1) (tCons (tVar 2) tNil)) (tC (V.str "operation")))) (tRet (tC (V.bl false))) tNext))
theorem chg_turn {K : PySem.W.Frag} {mg : Str → Option Value} {Y : Cn} {ts : List (List Int)} (T : Txt K mg Y) (hW : WebOk ts) {l : List Int} (hl : l ∈ tiesL) (y : Option Slot) : ∃ y', StB K (chgBody K Y) [some (.imm (.tuple (ts.map tupJ))), some (.imm (webD Y.cl (sortX ts))), some (.imm (tupJ l)), y, none] none (.nx [some (.imm (.tuple (ts.map tupJ))), some (.imm (webD Y.cl (sortX ts))), some (.imm (tupJ l)), y', none]) none := by
  have few := hW.few
  have hS := hW.sort
  have to := told_op T
  have tl := told_last T
  have so : ∀ {ρ : Rho} {β : Bag}, ρ[0]? = some (some (.imm (.tuple (ts.map tupJ)))) → EvB K (tCB (TDS.rSortQ K 2 0 10) (tCons (tVar 0) tNil)) ρ β (.list ((sortX ts).map tupJ)) β := fun h => d_sortTX (d_var h) (by omega) fun t ht => tie_ok3 (hW.tie t ht)
  have up : ∀ f : List Int → Bool, sortX ((sortX ts).filter f) = (sortX ts).filter f := fun f => sortX_id ((sortX_up ts).sublist List.filter_sublist)
  have tin : ∀ y, TtB K (tTest (tOp (rInTup K) (tVar 2) (tVar 0))) [some (.imm (.tuple (ts.map tupJ))), some (.imm (webD Y.cl (sortX ts))), some (.imm (tupJ l)), y, none] none (decide (l ∈ ts)) none := fun y => t_test (d_inTT (d_var rfl) (d_var rfl))
  by_cases h : l ∈ ts
  · have hs : l ∈ sortX ts := sortX_mem.mpr h
    have wl : (sortX ts).length = ts.length := sortX_len ts
    by_cases h1 : ts.length = 1
    · refine ⟨some (.imm (.str lastT)), st_ifT ((tin y).to (decide_eq_true h)) (st_sq (st_asg (d := .str lastT) (d_lamR T.tabw (fun E => x_methR (d_var rfl) rfl (a_con (d_var rfl) a_nil) ⟨sortX ts, tupJ l, rfl, hS, .inr ⟨l, rfl, hs, .inl ⟨by omega, rfl⟩⟩, rfl, rfl⟩) rfl tl)) ?_)⟩
      show StB K _ [some (.imm (.tuple (ts.map tupJ))), some (.imm (webD Y.cl (sortX ts))), some (.imm (tupJ l)), some (.imm (.str lastT)), none] none _ none
      refine st_sq (st_ifT ((t_test (d_eqI (d_len (d_var rfl) (.inr rfl)) d_int)).to (by rw [List.length_map]; exact decide_eq_true (by omega))) (st_ifF ((t_test (d_neS (d_var rfl) d_str)).to (by rw [decide_eq_true last_text.symm]; rfl)) st_next)) ?_
      exact st_ifF (TtB.to (t_test (d_neS (i := "operation") (d_lamR T.tabw (fun E => x_methR (d_var rfl) rfl (a_con (d_var rfl) a_nil) ⟨sortX ts, tupJ l, rfl, hS, .inl ⟨.inr ⟨l, rfl, hs⟩, rfl⟩, rfl, rfl⟩) rfl to) d_str)) (by decide)) st_next
    · have ok : ∀ E : XK, EvB K (tMeth Y.cl "without_tie" (spX K (R_Web_without_tie Y)) [] E (tVar 1) (tCons (tVar 2) tNil)) [some (.imm (.tuple (ts.map tupJ))), some (.imm (webD Y.cl (sortX ts))), some (.imm (tupJ l)), y, none] none (webD Y.cl ((sortX ts).filter fun o => !decide (o = l))) none := fun E => x_meth (d_var rfl) rfl (a_con (d_var rfl) a_nil) ⟨sortX ts, tupJ l, rfl, hS, .inr ⟨l, rfl, hs, .inr ⟨by omega, by rw [up]⟩⟩, rfl, rfl⟩
      have ok2 : EvB K (tMeth Y.cl "without_tie" (spX K (R_Web_without_tie Y)) [] E0 (tVar 1) (tCons (tVar 2) tNil)) [some (.imm (.tuple (ts.map tupJ))), some (.imm (webD Y.cl (sortX ts))), some (.imm (tupJ l)), some (.imm (.str "fine")), none] none (webD Y.cl ((sortX ts).filter fun o => !decide (o = l))) none := x_meth (d_var rfl) rfl (a_con (d_var rfl) a_nil) ⟨sortX ts, tupJ l, rfl, hS, .inr ⟨l, rfl, hs, .inr ⟨by omega, by rw [up]⟩⟩, rfl, rfl⟩
      refine ⟨some (.imm (.str "fine")), st_ifT ((tin y).to (decide_eq_true h)) (st_sq (st_asg (d := .str "fine") (d_lamB T.tabw ok rfl)) ?_)⟩
      show StB K _ [some (.imm (.tuple (ts.map tupJ))), some (.imm (webD Y.cl (sortX ts))), some (.imm (tupJ l)), some (.imm (.str "fine")), none] none _ none
      refine st_sq (st_ifF ((t_test (d_eqI (d_len (d_var rfl) (.inr rfl)) d_int)).to (by rw [List.length_map]; exact decide_eq_false (by omega))) (st_ifF (TtB.to (t_test (d_neTs (ls := (sortX ts).filter fun o => !decide (o = l)) (ms := (sortX ts).filter fun o => !decide (o = l)) (d_prop ok2 ⟨_, rfl, rfl, rfl, rfl⟩) (d_tupleOf (d_lcL (so rfl) (lc_tups (fun o => !decide (o = l)) fun o ho => ⟨t_test (d_neTT (d_var rfl) (d_var rfl)), d_var rfl⟩) (by rw [List.length_map]; exact Nat.le_trans (List.length_filter_le _ _) (by omega)) (wipe_ok (by decide)))))) (by rw [decide_eq_true rfl]; rfl)) st_next)) ?_
      exact st_ifF (TtB.to (t_test (d_neS (i := "operation") (d_lamR T.tabw (fun E => x_methR (d_var rfl) rfl (a_con (d_var rfl) a_nil) ⟨sortX ts, tupJ l, rfl, hS, .inl ⟨.inr ⟨l, rfl, hs⟩, rfl⟩, rfl, rfl⟩) rfl to) d_str)) (by decide)) st_next
  · have hs : l ∉ sortX ts := fun z => h (sortX_mem.mp z)
    have hM := hW.more hl h
    have fm := hM.few
    have e : sortX (sortX ts ++ [l]) = sortX (ts ++ [l]) := sortX_uniq ((sortX_perm _).trans ((sortX_perm ts).append_right [l])) (sortX_up _)
    refine ⟨y, st_ifF ((tin y).to (decide_eq_false h)) (st_ifF (TtB.to (t_test (d_neTs (ls := sortX (ts ++ [l])) (ms := sortX (ts ++ [l])) (d_prop (x_meth (ps := webF (sortX ts)) (r := webD Y.cl (sortX (ts ++ [l]))) (d_var rfl) rfl (a_con (d_var rfl) a_nil) ⟨sortX ts, tupJ l, rfl, hS, .inr ⟨l, rfl, hl, hs, by rw [e]⟩, rfl, rfl⟩) ⟨_, rfl, rfl, rfl, rfl⟩) (d_tupleOf (d_sortTX (ns := ts ++ [l]) ((d_catA (ds := ts.map tupJ) (es := [tupJ l]) (d_var rfl) (d_tup (ds := [tupJ l]) (a_lit (d_var rfl) a_nil) rfl (by show 1 ≤ 100000; decide)) (by rw [List.length_map]; show ts.length + 1 ≤ 100000; omega)).to (by rw [List.map_append]; rfl)) (by omega) fun t ht => tie_ok3 (hM.tie t ht))))) (by rw [decide_eq_true rfl]; rfl)) (st_ifF (TtB.to (t_test (d_neS (i := "operation") (d_lamR T.tabw (fun E => x_methR (d_var rfl) rfl (a_con (d_var rfl) a_nil) ⟨sortX ts, tupJ l, rfl, hS, .inl ⟨.inr ⟨l, rfl, hl, hs⟩, rfl⟩, rfl, rfl⟩) rfl to) d_str)) (by decide)) st_next))⟩
abbrev s_law_changes_right : Stmt := top 62
theorem sc_law_changes_right : FnScope ["_law_ties", "_law_web", "_law_tie", "_law_told", "_law_one"] ["_law_ties", "_law_web"] (defScope s_law_changes_right) := ⟨rfl, rfl, rfl, by decide +kernel, rfl, by decide +kernel, by decide +kernel⟩
abbrev R_law_changes_right (Y : Cn) : FR := fun as β r β' => ∃ ts, as = [.imm (.tuple (ts.map tupJ)), .imm (webD Y.cl (sortX ts))] ∧ WebOk ts ∧ r = .bool true ∧ β = none ∧ β' = none
theorem ok_law_changes_right {P : Program} {w : World} {K : PySem.W.Frag} {mg : Str → Option Value} {base : Heap} {Y : Cn} (F : DefAtC K "_law_changes_right" s_law_changes_right Y.c1) (hX : K.In base) (hG : base.Ns mainGlobals mg) (T : Txt K mg Y) (WA : WordAt K mg "_law_word" s_law_word) (TB : TbAt base mg Y Y.c1 q1) (G_law_all_ties : FnG P w K mg base 1 "_law_all_ties" [] R_law_all_ties) (G_Web_ties : FnP P w K mg base 1 Y.cl "ties" (R_Web_ties Y)) (G_Web_without_tie : FnMX P w K mg base 7 Y.cl "without_tie" ["self", "tie"] (R_Web_without_tie Y)) (G_Web_with_tie : FnMX P w K mg base 7 Y.cl "with_tie" ["self", "tie"] (R_Web_with_tie Y)) : FnH P w K mg base 10 "_law_changes_right" ["_law_ties", "_law_web"] (R_law_changes_right Y) := by
  have nd := sc_law_changes_right.nd
  refine fnC_mk F hX hG sc_law_changes_right (fun as β r β' h => by first | exact FR.len h | (obtain ⟨_, rfl, _⟩ := h; rfl) | (obtain ⟨_, _, rfl, _⟩ := h; rfl) | (obtain ⟨_, _, _, rfl, _⟩ := h; rfl) | (obtain ⟨_, _, _, _, rfl, _⟩ := h; rfl) | (obtain ⟨_, _, _, _, _, rfl, _⟩ := h; rfl)) (fun _ _ _ _ _ _ _ us hl => match us, hl with | [_, _], _ => rfl) (fun f A outer s H E hr => ⟨_, (pss_cons (ps_for PassesOwn.never rfl (pi_list (pe_fn0 G_law_all_ties (hr.toRoom.mono (by decide)))) (pg_name (i := 2) nd rfl (Or.inr rfl)) (pss_one (ps_if (pt_cmpR (op_inTup (K := K) (units1 hr.toRoom)) (pv 2) (pv 0) (by rfl)) (pss_cons (ps_set (i := 3) nd rfl (Or.inl rfl) (pe_tell (k := 7) (sc := defScope s_law_changes_right) (hr.mono (by decide)) WA TB T (by decide +kernel) (fun _ _ _ _ _ => rfl) (fun A outer s H E f c' hr2 => by exact (pe_mXL G_Web_without_tie (hr2.mono (by decide)) (pv 1) (pa_cons (pv 2) pa_nil))))) (pss_cons (ps_if (pt_cmpR op_eq (pe_callB (c_lenK (K := K)) (by rfl) T.z_len bo_len (pa_cons (pv 0) pa_nil)) pe_int (nomark _)) (pss_one (ps_if (pt_cmpR op_ne (pv 3) pe_str (nomark _)) (pss_one (ps_ret pe_bl)) pss_nil)) (pss_one (ps_if (pt_cmpR (op_neD hr.units) (pe_p G_Web_ties (hr.toRoom.mono (by decide)) (pe_mX (E := E0) G_Web_without_tie (hr.toRoom.mono (by decide)) passL (pv 1) (pa_cons (pv 2) pa_nil))) (pe_callTy c_tuple (by rfl) T.z_tuple bo_tuple (pa_cons (pe_lc (own := [("_law_one", 4)]) rfl nd (pi_list (pe_callB (TDS.cr_sortQ (d := 2) (S := 0) (B := 10) (by decide)) (by rfl) T.z_sorted bo_sorted (pa_cons (pv 0) pa_nil))) (blkOk_by (N := ["_law_ties", "_law_web", "_law_tie", "_law_told", "_law_one"]) (sc := defScope s_law_changes_right) (by decide +kernel)) (fun _ _ _ _ _ => by exact (pg_name (i := 4) nd rfl (Or.inl rfl))) (fun _ _ _ _ _ => by exact (pts_one (pt_cmpR (op_ofK (K := K) (r := rNeD) (op_neD hr.units)) (pv 4) (pv 2) (nomark _)))) (fun _ _ _ _ _ => by exact (pv 4))) pa_nil)) (nomark _)) (pss_one (ps_ret pe_bl)) pss_nil))) (pss_one (ps_if (pt_cmpR op_ne (pe_tell (k := 7) (sc := defScope s_law_changes_right) (hr.mono (by decide)) WA TB T (by decide +kernel) (fun _ _ _ _ _ => rfl) (fun A outer s H E f c' hr2 => by exact (pe_mXL G_Web_with_tie (hr2.mono (by decide)) (pv 1) (pa_cons (pv 2) pa_nil)))) pe_str (nomark _)) (pss_one (ps_ret pe_bl)) pss_nil)))) (pss_one (ps_if (pt_cmpR (op_neD hr.units) (pe_p G_Web_ties (hr.toRoom.mono (by decide)) (pe_mX (E := E0) G_Web_with_tie (hr.toRoom.mono (by decide)) passL (pv 1) (pa_cons (pv 2) pa_nil))) (pe_callTy c_tuple (by rfl) T.z_tuple bo_tuple (pa_cons (pe_callB (TDS.cr_sortQ (d := 2) (S := 0) (B := 10) (by decide)) (by rfl) T.z_sorted bo_sorted (pa_cons (pe_op op_catA (pv 0) (pe_tup (pa_cons (pv 2) pa_nil))) pa_nil)) pa_nil)) (nomark _)) (pss_one (ps_ret pe_bl)) (pss_one (ps_if (pt_cmpR op_ne (pe_tell (k := 7) (sc := defScope s_law_changes_right) (hr.mono (by decide)) WA TB T (by decide +kernel) (fun _ _ _ _ _ => rfl) (fun A outer s H E f c' hr2 => by exact (pe_mXL G_Web_without_tie (hr2.mono (by decide)) (pv 1) (pa_cons (pv 2) pa_nil)))) pe_str (nomark _)) (pss_one (ps_ret pe_bl)) pss_nil))))))) (pss_one (ps_ret (pe_cmpR (op_eqD hr.units) (pe_p G_Web_ties (hr.toRoom.mono (by decide)) (pv 1)) (pe_callTy c_tuple (by rfl) T.z_tuple bo_tuple (pa_cons (pe_callB (TDS.cr_sortQ (d := 2) (S := 0) (B := 10) (by decide)) (by rfl) T.z_sorted bo_sorted (pa_cons (pv 0) pa_nil)) pa_nil)) (nomark _))))), fun as β r β' hR => ?_⟩)
  obtain ⟨ts, rfl, hW, rfl, rfl, rfl⟩ := hR
  dsimp only [cxOf, Cx.nox, Cx.wish] at *
  have few := hW.few
  have loop : ∀ (ls : List (List Int)) (x y : Option Slot), (∀ l ∈ ls, l ∈ tiesL) → ∃ x' y', ForR K 2 (chgBody K Y) (ls.map tupJ) [some (.imm (.tuple (ts.map tupJ))), some (.imm (webD Y.cl (sortX ts))), x, y, none] none (.nx [some (.imm (.tuple (ts.map tupJ))), some (.imm (webD Y.cl (sortX ts))), x', y', none]) none := by
    intro ls
    induction ls with
    | nil => exact fun x y _ => ⟨x, y, .nil _ _⟩
    | cons l ls ih =>
      intro x y hl
      obtain ⟨y1, h1⟩ := chg_turn T hW (hl l List.mem_cons_self) y
      obtain ⟨x', y', h⟩ := ih (some (.imm (tupJ l))) y1 fun m hm => hl m (List.mem_cons_of_mem _ hm)
      exact ⟨x', y', .nx h1 h⟩
  obtain ⟨x', y', h⟩ := loop tiesL none none fun _ z => z
  refine .ret (st_sq (st_forL (d_call0 a_nil ⟨(), rfl, rfl, rfl, rfl⟩) h) (st_ret ((d_eqTs (ls := sortX ts) (ms := sortX ts) (d_prop (d_var rfl) ⟨sortX ts, rfl, rfl, rfl, rfl⟩) (d_tupleOf (d_sortTX (d_var rfl) (by omega) fun t ht => tie_ok3 (hW.tie t ht)))).to (congrArg PyData.bool (decide_eq_true rfl)))))
end K73
set_option Elab.async false
set_option linter.all false
set_option maxRecDepth 100000
set_option maxHeartbeats 4100100
namespace TD
open PySem L2 PySem.Spec PyProof.Rows
open Evl (Ex ex_l ex_t fresh_back sq_of st_of sz_of sz_lt)
inductive ForWS [TabW] (K : PySem.W.Frag) (i j : Nat) (tu : TS) : List Slot → Rho → Bag → Dt → Rho → Bag → Dt → Prop
  | nil (ρ : Rho) (β : Bag) (d : Dt) : ForWS K i j tu [] ρ β d ρ β d
  | nx {a : Slot} {as : List Slot} {ρ ρ1 ρ2 : Rho} {β β1 β2 : Bag} {d d1 d2 : Dt} : StW K i tu (ρ.set j (some a)) β d (.nx ρ1) β1 d1 → ForWS K i j tu as ρ1 β1 d1 ρ2 β2 d2 → ForWS K i j tu (a :: as) ρ β d ρ2 β2 d2
section
variable [TabW] {K : PySem.W.Frag} {b : Addr} {ρ ρ1 ρ2 : Rho} {β β1 β2 : Bag} {ta : TA} {tu : TS} {d d2 : Dt} {as : List Slot} {i j : Nat} {G H : Hp} {σ : L2.St} {p : Addr} {v : V} {a : Slot}
theorem ForWS.som (h : ForWS K i j tu as ρ β d ρ2 β2 d2) : β2.isSome = β.isSome := by
  induction h with
  | nil => rfl
  | nx h _ ih => exact ih.trans h.som
theorem OwnW.setA (w : OwnW K b β i p G H σ ρ d) (hij : i ≠ j) (h : DenS K b G v a) : OwnW K b β i p G H (σ.set j (some v)) (ρ.set j (some a)) d where
  env := w.env.setS h
  slot := (List.getElem?_set_ne hij.symm).trans w.slot
  at_ := (List.getElem?_set_ne hij.symm).trans w.at_
  free := w.free
  nb := w.nb
  val := w.val
theorem sw_forS (hij : i ≠ j) (hl : ∀ q, EvA K ta (ρ.set i (some (.fn q))) β as β1) (h : ForWS K i j tu as ρ β1 d ρ2 β2 d2) (hz : as.length ≤ 100000) : StW K i (tFor (iTup K (tTup ta)) (gName j) tu) ρ β d (.nx ρ2) β2 d2 := by
  have som := (hl 0).som
  refine ⟨h.som.trans som, fun b G0 H0 G H σ p D gn s w k => (hl p).run b G H σ _ w.asFn fun vs G1 H1 s1 k1 d1 => ?_⟩
  refine ⟨sz_of (d1.length ▸ hz), fun q hq => ?_⟩
  have n0 : ∀ m, Step b m G1 H1 (upd G1 q (.tup vs)) (upd H1 q (.tup vs)) := fun m => Step.new s1.s hq
  have w2 := (w.step s1 k1 som).step (n0 _) (k1.same (n0 _)) rfl
  obtain ⟨Hb, gb, sb, sc⟩ := w2.base gn ((s.trans s1).trans (n0 _))
  have kb := k.of sb
  have held : SqT K (upd G1 q (.tup vs)) q vs := st_of upd_same
  refine ⟨q, rfl, ⟨vs, st_of upd_same⟩, for_tup (K := K) (a := q) (xs := vs) (fun n s' H' => ∃ G' r' b' d', Step b β.isSome (upd G1 q (.tup vs)) Hb G' H' ∧ b'.isSome = β.isSome ∧ OwnW K b b' i p G' H' s' r' d' ∧ ForWS K i j tu (as.drop n) r' b' d' ρ2 β2 d2) ⟨_, ρ, β1, d, sc, som, w2, h⟩ ?_ ?_ ?_⟩
  · rintro n s' H' _ ⟨G', r', b', d', st, _, w', _⟩
    exact ex_t w'.env.sub (ex_t st.g held)
  · rintro n u s' H' hi ⟨G', r', b', d', st, m, w', hr⟩
    obtain ⟨a, ha, da⟩ := d1.get hi
    obtain ⟨lt, e⟩ := List.getElem?_eq_some_iff.mp ha
    rw [List.drop_eq_getElem_cons lt, e] at hr
    have da : DenS K b G' u a := (da.mono (n0 false).g).mono st.g
    cases hr with
    | nx h1 h2 =>
      refine h1.run b (upd G1 q (.tup vs)) Hb G' H' _ p _ gb (by rw [m]; exact st) (w'.setA hij da) fun s3 G3 H3 st3 w3 => ?_
      exact ⟨G3, _, _, _, by rw [m] at st3; exact st3, h1.som.trans m, w3, h2⟩
  · rintro s' H' ⟨G', r', b', d', st, m, w', hr⟩
    rw [d1.length, List.drop_length] at hr
    cases hr
    exact kb s' G' H' st w'
end
end TD
set_option Elab.async false
set_option linter.all false
set_option maxRecDepth 100000
set_option maxHeartbeats 1100000
namespace K73
open PySem L2 TD PySem.Spec PyProof.Rows
open Evl (Ex ex_l ex_t fresh_back sq_of st_of sz_of sz_lt)
variable [TabW]
local macro_rules | `(tactic| walk_at "lit2") => `(tactic| (first
  | exact a_nil
  | (refine a_lit ?_ ?_ <;> walk_at "lit2")
  | exact d_int
  | exact d_neg d_int
  | exact d_non
  | exact d_bl
  | exact d_str
  | exact d_var rfl
  | exact d_pow d_int d_int ⟨by decide, by decide⟩
  | (refine d_tup ?_ rfl (by show (_ : Nat) ≤ 100000; simp); walk_at "lit2")
  | (refine d_lst ?_ rfl (by show (_ : Nat) ≤ 100000; simp); walk_at "lit2")))
theorem pe_fnLX {P : Program} {w : World} {K : PySem.W.Frag} {mg : Str → Option Value} {base : Heap} {k i : Nat} {x : Str} {S : Addr → Sp → Prop} {X : Cx} {A : Around} {outer : List PySem.Env} {s : Shared} {H : Hp} {E : XK} {scope : Scope} {f c' : Addr} {q pos : Pos} {e : Expr} {es : List Expr} {t : TA}
    (Ah : ∀ f sp, S f sp → HeldX P w K mg base k f sp) (hr : Room k (A.deeper (LamX.lamEnv X scope s.heap.objs.size f c'))) (ha : PA (LamX.lamCx X A outer s H E scope f c') (e :: es) t) (hN : X.N[i]? = some x := by rfl) (hv : scope.names.lookup x = some .free := by rfl) (hk : scope.kind = .function := by rfl) (h1 : X.prog = P := by rfl) (h2 : X.w = w := by rfl) (h3 : X.K = K := by rfl) (h4 : X.mg = mg := by rfl) (h5 : X.base = base := by rfl)
    (hdb : (x == ("__debug__" : Str)) = false := by decide) (hcd : (x == ("__classdict__" : Str)) = false := by decide) (hs : ∀ v : Env, starEach (e :: es) v = (false, eval e v) :: starEach es v := by intro _; rfl)
    (hp : ∀ v : Env, (backTo pos (starEach es v)).any (·.1) = false := by intro _; rfl) : PE (LamX.lamCx X A outer s H E scope f c') (.Call (.Name x q) (e :: es) [] pos) (tCallX i S E t) := by
  subst h1 h2 h3 h4 h5
  exact pe_callX (X := LamX.lamCx X A outer s H E scope f c') Ah hr hN (.inr (.inr hv)) (show Passes (L2.CX (LamX.lamCx X A outer s H E scope f c').prog (LamX.lamCx X A outer s H E scope f c').w) (LamX.lamCx X A outer s H E scope f c') E from pass_lam (X := X) hk) ha hdb hcd (hs _) (hp _)
abbrev someW (t : List Int) : List Dt := [.none, .tuple [], .list [tupJ t], tupJ t, .tuple [tupJ t, tupJ t], .tuple [tupJ [2, 1]], .tuple [tupJ [1, 5]], .tuple [tupJ [0, 1]], .tuple [tupJ [1, 1]], .tuple [.tuple [.int 1, .bool true]], .tuple [tupJ [1, 2, 3]], .tuple [.str "12"]]
abbrev moreW (t : List Int) : List Dt := [.tuple [tupJ t, .none], .tuple [.list [.int 1, .int 2]], .int 3]
theorem badW_no : ∀ t ∈ tiesL, ∀ d ∈ someW t ++ moreW t, areT d = false := by decide +kernel
abbrev ptsW : List Dt := [.none, .tuple [], tupJ [1], tupJ [2, 1], tupJ [1, 1], .list [.int 1, .int 2], tupJ [1, 5], tupJ [0, 1], tupJ [1, 2, 3, 4, 5], .tuple [.bool true, .int 2], .str "12"]
def fullNo : Dt → Bool
  | .tuple xs => decide (4 < xs.length) || (decide (xs.length ≤ 4) && !areT (.tuple ((chF 2 xs).map .tuple)))
  | _ => true
theorem ptsW_no : ∀ d ∈ ptsW, fullNo d = true := by decide +kernel
theorem fullNo_ex {d : Dt} (h : fullNo d = true) : (∀ xs, d = .tuple xs → 4 < xs.length) ∨ ∃ xs, d = .tuple xs ∧ xs.length ≤ 4 ∧ areT (.tuple ((chF 2 xs).map .tuple)) = false := by
  cases d with
  | tuple xs =>
    (rcases Bool.or_eq_true_iff.mp h with h | h)
    · exact .inl fun ys e => by cases e; exact of_decide_eq_true h
    · obtain ⟨h1, h2⟩ := Bool.and_eq_true_iff.mp h
      exact .inr ⟨xs, rfl, of_decide_eq_true h1, by simpa using h2⟩
  | _ => exact .inl fun ys e => nomatch e
abbrev oddW : List Dt := [.none, .tuple [], tupJ [2, 1], tupJ [1, 5], .list [.int 1, .int 2], tupJ [1, 2, 3], .str "12", .tuple [.bool true, .int 2], .int 0]
theorem oddW_no : ∀ d ∈ oddW, isTieD d = false := by decide +kernel
abbrev namW : List Dt := [.none, tupJ [1, 2, 3], tupJ [1, 2, 3, 3], .list [.int 1, .int 2, .int 3, .int 4], tupJ [0, 1, 2, 3], tupJ [1, 2, 3, 4, 5], .tuple [.bool true, .int 2, .int 3, .int 4]]
theorem ordA_id {ns : List Int} (h : ns.Pairwise (· ≤ ·)) : ordA ns = ns := (ordA_uniq (List.Perm.refl ns) h).symm
theorem namW_no : ∀ d ∈ namW, allPts d = false := by
  intro d hd
  simp only [List.mem_cons, List.not_mem_nil, or_false] at hd
  rcases hd with rfl | rfl | rfl | rfl | rfl | rfl | rfl
  · rfl
  · rfl
  · show (Num.allFit 0 4 (tupJ [1, 2, 3, 3]) && decide (ordA (ofT (tupJ [1, 2, 3, 3])) = [1, 2, 3, 4])) = false
    rw [ofT_tup, ordA_id (by decide)]
    decide +kernel
  · rfl
  · show (Num.allFit 0 4 (tupJ [0, 1, 2, 3]) && decide (ordA (ofT (tupJ [0, 1, 2, 3])) = [1, 2, 3, 4])) = false
    rw [ofT_tup, ordA_id (by decide)]
    decide +kernel
  · rfl
  · rfl
abbrev priW : List Dt := [.int 1, .int 4, .int (-2), .none, .bool true, .str "2", .int 23, .tuple [.int 2], .int (10 ^ (61 : Int).toNat)]
theorem priW_no : ∀ d ∈ priW, (!Num.isPrime d && tellB d) = true := by decide +kernel
abbrev nonW (C : Addr) (ts : List (List Int)) : List Dt := [.none, .tuple (ts.map tupJ), .tuple ((sortX ts).map tupJ), .str "web 1-2", .int 0, .tuple [webD C (sortX ts)]]
theorem nonW_no {C : Addr} {ts : List (List Int)} : ∀ d ∈ nonW C ts, NoWeb d := by
  intro d hd
  simp only [List.mem_cons, List.not_mem_nil, or_false] at hd
  rcases hd with rfl | rfl | rfl | rfl | rfl | rfl
  · exact .inl rfl
  · exact .inr (.inr (.inl ⟨_, rfl⟩))
  · exact .inr (.inr (.inl ⟨_, rfl⟩))
  · exact .inr (.inr (.inr (.inr ⟨_, rfl⟩)))
  · exact .inr (.inl ⟨_, rfl⟩)
  · exact .inr (.inr (.inl ⟨_, rfl⟩))
theorem web4_lay : ∀ s ∈ (["web", "web", "web", "web"] : List Str), PyData.canLay0 (.str s) = true := by
  intro s hs
  simp only [List.mem_cons, List.not_mem_nil, or_false] at hs
  rcases hs with h | h | h | h <;> rw [h] <;> exact web_lay
theorem op2_lay : ∀ s ∈ (["operation", "operation"] : List Str), PyData.canLay0 (.str s) = true := by
  intro s hs
  simp only [List.mem_cons, List.not_mem_nil, or_false] at hs
  rcases hs with h | h <;> rw [h] <;> exact op_lay
def refF (ns : List Int) : List Int := (Num.grabF 6 (Num.grabF 9 (Num.grabF 7 (Num.grabF 9 (Num.grabF 11 (Num.grabF 15 ns).2).2).2).2).2).2
abbrev s_law_refused : Stmt := top 63
theorem sc_law_refused : FnScope ["_law_bag_here", "_law_ties", "_law_web", "_law_tie", "_law_some", "_law_bad", "_law_points", "_law_odd", "_law_told", "_law_names", "_law_prime", "_law_none", "_law_call"] ["_law_bag_here", "_law_ties", "_law_web"] (defScope s_law_refused) := ⟨rfl, rfl, rfl, by decide +kernel, rfl, by decide +kernel, by decide +kernel⟩
abbrev R_law_refused (Y : Cn) : FR := fD (fun ts : List (List Int) => [.imm (.tuple (ts.map tupJ)), .imm (webD Y.cl (sortX ts))]) WebOk fun _ ns => (.bool true, refF ns)
theorem ok_law_refused {P : Program} {w : World} {K : PySem.W.Frag} {mg : Str → Option Value} {base : Heap} {Y : Cn} (F : DefAtC K "_law_refused" s_law_refused Y.c2) (hX : K.In base) (hG : base.Ns mainGlobals mg) (T : Txt K mg Y) (WA : WordAt K mg "_law_word" s_law_word) (TB : TbAt base mg Y Y.c2 q2) (G_law_one_of : FnG P w K mg base 2 "_law_one_of" ["_law_bag_here", "_law_items"] R_law_one_of) (G_Web_ties : FnP P w K mg base 1 Y.cl "ties" (R_Web_ties Y)) (G_Web_init : FnI P w K mg base 5 "Web" Y.cl ["self", "ties"] (R_Web_init Y)) (G_is_order_of_points : FnX P w K mg base 3 "is_order_of_points" ["web", "value"] (R_is_order_of_points Y)) (G_Web_full : FnCX P w K mg base 7 Y.cl "full" ["cls", "points"] (R_Web_full Y)) (G_Web_with_tie : FnMX P w K mg base 7 Y.cl "with_tie" ["self", "tie"] (R_Web_with_tie Y)) (G_Web_without_tie : FnMX P w K mg base 7 Y.cl "without_tie" ["self", "tie"] (R_Web_without_tie Y)) (G_Web_renamed : FnMX P w K mg base 7 Y.cl "renamed" ["self", "points"] (R_Web_renamed Y)) (G_Web_lot_over : FnMX P w K mg base 4 Y.cl "lot_over" ["self", "prime"] (R_Web_lot_over Y)) (G_order_of_points : FnX P w K mg base 3 "order_of_points" ["web"] (R_order_of_points Y)) (G_web_degrees : FnX P w K mg base 3 "web_degrees" ["web"] (R_web_degrees Y)) (G_open_ring : FnX P w K mg base 3 "open_ring" ["web"] (R_open_ring Y)) : FnH P w K mg base 10 "_law_refused" ["_law_bag_here", "_law_ties", "_law_web"] (R_law_refused Y) := by
  have nd := sc_law_refused.nd
  obtain ⟨f1, hm_open_ring, he1⟩ := G_open_ring.held
  obtain ⟨f2, hm_order_of_points, he2⟩ := G_order_of_points.held
  obtain ⟨f3, hm_web_degrees, he3⟩ := G_web_degrees.held
  have hheld : ∀ f sp, ((f = f1 ∧ sp = spX K (R_open_ring Y)) ∨ (f = f2 ∧ sp = spX K (R_order_of_points Y)) ∨ (f = f3 ∧ sp = spX K (R_web_degrees Y))) → HeldX P w K mg base 3 f sp := by
    rintro f sp (⟨rfl, rfl⟩ | ⟨rfl, rfl⟩ | ⟨rfl, rfl⟩)
    · exact he1 3 (by decide)
    · exact he2 3 (by decide)
    · exact he3 3 (by decide)
  refine fnC_mk F hX hG sc_law_refused (fun as β r β' h => by first | exact FR.len h | (obtain ⟨_, rfl, _⟩ := h; rfl) | (obtain ⟨_, _, rfl, _⟩ := h; rfl) | (obtain ⟨_, _, _, rfl, _⟩ := h; rfl) | (obtain ⟨_, _, _, _, rfl, _⟩ := h; rfl) | (obtain ⟨_, _, _, _, _, rfl, _⟩ := h; rfl)) (fun _ _ _ _ _ _ _ us hl => match us, hl with | [_, _, _], _ => rfl) (fun f A outer s H E hr => ⟨_, (pss_cons (ps_set (i := 3) nd rfl (Or.inl rfl) (pe_ix ix_tup (pv 1) pe_int (fun _ _ => rfl))) (pss_cons (ps_set (i := 4) nd rfl (Or.inl rfl) (pe_lst (pa_cons pe_non (pa_cons (pe_tup pa_nil) (pa_cons (pe_lst (pa_cons (pv 3) pa_nil)) (pa_cons (pv 3) (pa_cons (pe_tup (pa_cons (pv 3) (pa_cons (pv 3) pa_nil))) (pa_cons (pe_tup (pa_cons (pe_tup (pa_cons pe_int (pa_cons pe_int pa_nil))) pa_nil)) (pa_cons (pe_tup (pa_cons (pe_tup (pa_cons pe_int (pa_cons pe_int pa_nil))) pa_nil)) (pa_cons (pe_tup (pa_cons (pe_tup (pa_cons pe_int (pa_cons pe_int pa_nil))) pa_nil)) (pa_cons (pe_tup (pa_cons (pe_tup (pa_cons pe_int (pa_cons pe_int pa_nil))) pa_nil)) (pa_cons (pe_tup (pa_cons (pe_tup (pa_cons pe_int (pa_cons pe_bl pa_nil))) pa_nil)) (pa_cons (pe_tup (pa_cons (pe_tup (pa_cons pe_int (pa_cons pe_int (pa_cons pe_int pa_nil)))) pa_nil)) (pa_cons (pe_tup (pa_cons pe_str pa_nil)) pa_nil)))))))))))))) (pss_cons (ps_set (i := 5) nd rfl (Or.inr rfl) (pe_fn G_law_one_of (hr.toRoom.mono (by decide)) (pa_cons (pv 0) (pa_cons (pe_op op_cat (pv 4) (pe_lst (pa_cons (pe_tup (pa_cons (pv 3) (pa_cons pe_non pa_nil))) (pa_cons (pe_tup (pa_cons (pe_lst (pa_cons pe_int (pa_cons pe_int pa_nil))) pa_nil)) (pa_cons pe_int pa_nil))))) pa_nil)))) (pss_cons (ps_if (pt_cmpR op_ne (pe_tell (k := 6) (sc := defScope s_law_refused) (hr.mono (by decide)) WA TB T (by decide +kernel) (fun _ _ _ _ _ => rfl) (fun A outer s H E f c' hr2 => by exact (pe_newL G_Web_init (hr2.mono (by decide)) (pa_cons (pv 5) pa_nil)))) pe_str (nomark _)) (pss_one (ps_ret pe_bl)) pss_nil) (pss_cons (ps_set (i := 6) nd rfl (Or.inr rfl) (pe_fn G_law_one_of (hr.toRoom.mono (by decide)) (pa_cons (pv 0) (pa_cons (pe_lst (pa_cons pe_non (pa_cons (pe_tup pa_nil) (pa_cons (pe_tup (pa_cons pe_int pa_nil)) (pa_cons (pe_tup (pa_cons pe_int (pa_cons pe_int pa_nil))) (pa_cons (pe_tup (pa_cons pe_int (pa_cons pe_int pa_nil))) (pa_cons (pe_lst (pa_cons pe_int (pa_cons pe_int pa_nil))) (pa_cons (pe_tup (pa_cons pe_int (pa_cons pe_int pa_nil))) (pa_cons (pe_tup (pa_cons pe_int (pa_cons pe_int pa_nil))) (pa_cons (pe_tup (pa_cons pe_int (pa_cons pe_int (pa_cons pe_int (pa_cons pe_int (pa_cons pe_int pa_nil)))))) (pa_cons (pe_tup (pa_cons pe_bl (pa_cons pe_int pa_nil))) (pa_cons pe_str pa_nil)))))))))))) pa_nil)))) (pss_cons (ps_if (pt_cmpR op_ne (pe_tell (k := 7) (sc := defScope s_law_refused) (hr.mono (by decide)) WA TB T (by decide +kernel) (fun _ _ _ _ _ => rfl) (fun A outer s H E f c' hr2 => by exact (pe_cmXL G_Web_full (hr2.mono (by decide)) (pe_glob (v := .ref _) (by rfl) T.k_Web rfl) (pa_cons (pv 6) pa_nil)))) pe_str (nomark _)) (pss_one (ps_ret pe_bl)) pss_nil) (pss_cons (ps_set (i := 7) nd rfl (Or.inr rfl) (pe_fn G_law_one_of (hr.toRoom.mono (by decide)) (pa_cons (pv 0) (pa_cons (pe_lst (pa_cons pe_non (pa_cons (pe_tup pa_nil) (pa_cons (pe_tup (pa_cons pe_int (pa_cons pe_int pa_nil))) (pa_cons (pe_tup (pa_cons pe_int (pa_cons pe_int pa_nil))) (pa_cons (pe_lst (pa_cons pe_int (pa_cons pe_int pa_nil))) (pa_cons (pe_tup (pa_cons pe_int (pa_cons pe_int (pa_cons pe_int pa_nil)))) (pa_cons pe_str (pa_cons (pe_tup (pa_cons pe_bl (pa_cons pe_int pa_nil))) (pa_cons pe_int pa_nil)))))))))) pa_nil)))) (pss_cons (ps_set (i := 8) nd rfl (Or.inl rfl) (pe_lst (pa_cons (pe_tell (k := 7) (sc := defScope s_law_refused) (hr.mono (by decide)) WA TB T (by decide +kernel) (fun _ _ _ _ _ => rfl) (fun A outer s H E f c' hr2 => by exact (pe_mXL G_Web_with_tie (hr2.mono (by decide)) (pv 2) (pa_cons (pv 7) pa_nil)))) pa_nil))) (pss_cons (ps_expr (pe_castBM (K := K) (pe_bm PySem.F.plainAttrs_list PySem.F.slot_list_append PySem.F.type_list_append mt_append (pv 8) (pa_cons (pe_tell (k := 7) (sc := defScope s_law_refused) (hr.mono (by decide)) WA TB T (by decide +kernel) (fun _ _ _ _ _ => rfl) (fun A outer s H E f c' hr2 => by exact (pe_mXL G_Web_without_tie (hr2.mono (by decide)) (pv 2) (pa_cons (pv 7) pa_nil)))) pa_nil)))) (pss_cons (ps_if (pt_cmpR (op_neD hr.units) (pv 8) (pe_op op_rep (pe_lst (pa_cons pe_str pa_nil)) pe_int) (nomark _)) (pss_one (ps_ret pe_bl)) pss_nil) (pss_cons (ps_set (i := 9) nd rfl (Or.inr rfl) (pe_fn G_law_one_of (hr.toRoom.mono (by decide)) (pa_cons (pv 0) (pa_cons (pe_lst (pa_cons pe_non (pa_cons (pe_tup (pa_cons pe_int (pa_cons pe_int (pa_cons pe_int pa_nil)))) (pa_cons (pe_tup (pa_cons pe_int (pa_cons pe_int (pa_cons pe_int (pa_cons pe_int pa_nil))))) (pa_cons (pe_lst (pa_cons pe_int (pa_cons pe_int (pa_cons pe_int (pa_cons pe_int pa_nil))))) (pa_cons (pe_tup (pa_cons pe_int (pa_cons pe_int (pa_cons pe_int (pa_cons pe_int pa_nil))))) (pa_cons (pe_tup (pa_cons pe_int (pa_cons pe_int (pa_cons pe_int (pa_cons pe_int (pa_cons pe_int pa_nil)))))) (pa_cons (pe_tup (pa_cons pe_bl (pa_cons pe_int (pa_cons pe_int (pa_cons pe_int pa_nil))))) pa_nil)))))))) pa_nil)))) (pss_cons (ps_set (i := 10) nd rfl (Or.inr rfl) (pe_fn G_law_one_of (hr.toRoom.mono (by decide)) (pa_cons (pv 0) (pa_cons (pe_lst (pa_cons pe_int (pa_cons pe_int (pa_cons (pe_un un_neg pe_int) (pa_cons pe_non (pa_cons pe_bl (pa_cons pe_str (pa_cons pe_int (pa_cons (pe_tup (pa_cons pe_int pa_nil)) (pa_cons (pe_op op_powW pe_int pe_int) pa_nil)))))))))) pa_nil)))) (pss_cons (ps_if (pt_cmpR op_ne (pe_tell (k := 7) (sc := defScope s_law_refused) (hr.mono (by decide)) WA TB T (by decide +kernel) (fun _ _ _ _ _ => rfl) (fun A outer s H E f c' hr2 => by exact (pe_mXL G_Web_renamed (hr2.mono (by decide)) (pv 2) (pa_cons (pv 9) pa_nil)))) pe_str (nomark _)) (pss_one (ps_ret pe_bl)) pss_nil) (pss_cons (ps_if (pt_cmpR op_ne (pe_tell (k := 4) (sc := defScope s_law_refused) (hr.mono (by decide)) WA TB T (by decide +kernel) (fun _ _ _ _ _ => rfl) (fun A outer s H E f c' hr2 => by exact (pe_mXL G_Web_lot_over (hr2.mono (by decide)) (pv 2) (pa_cons (pv 10) pa_nil)))) (pe_op op_add_str pe_str (pe_callB (call_rep (K := K) hr.gd hr.units) (by rfl) T.z_repr bo_repr (pa_cons (pv 10) pa_nil))) (nomark _)) (pss_one (ps_ret pe_bl)) pss_nil) (pss_cons (ps_set (i := 11) nd rfl (Or.inr rfl) (pe_fn G_law_one_of (hr.toRoom.mono (by decide)) (pa_cons (pv 0) (pa_cons (pe_lst (pa_cons pe_non (pa_cons (pv 1) (pa_cons (pe_p G_Web_ties (hr.toRoom.mono (by decide)) (pv 2)) (pa_cons pe_str (pa_cons pe_int (pa_cons (pe_tup (pa_cons (pv 2) pa_nil)) pa_nil))))))) pa_nil)))) (pss_cons (ps_set (i := 8) nd rfl (Or.inl rfl) (pe_lst pa_nil)) (pss_cons (ps_for PassesOwn.never rfl (pi_tup (pe_tup (pa_cons (pe_glob (v := .ref _) (by rfl) hm_open_ring rfl) (pa_cons (pe_glob (v := .ref _) (by rfl) hm_order_of_points rfl) (pa_cons (pe_glob (v := .ref _) (by rfl) hm_web_degrees rfl) pa_nil))))) (pg_name (i := 12) nd rfl (Or.inr rfl)) (pss_one (ps_expr (pe_castBM (K := K) (pe_bm PySem.F.plainAttrs_list PySem.F.slot_list_append PySem.F.type_list_append mt_append (pv 8) (pa_cons (pe_tell (k := 3) (sc := defScope s_law_refused) (hr.mono (by decide)) WA TB T (by decide +kernel) (fun _ _ _ _ _ => rfl) (fun A outer s H E f c' hr2 => by exact (pe_fnLX hheld (hr2.mono (by decide)) (pa_cons (pv 11) pa_nil) (i := 12)))) pa_nil)))))) (pss_cons (ps_expr (pe_castBM (K := K) (pe_bm PySem.F.plainAttrs_list PySem.F.slot_list_append PySem.F.type_list_append mt_append (pv 8) (pa_cons (pe_tell (k := 3) (sc := defScope s_law_refused) (hr.mono (by decide)) WA TB T (by decide +kernel) (fun _ _ _ _ _ => rfl) (fun A outer s H E f c' hr2 => by exact (pe_fnL G_is_order_of_points (hr2.mono (by decide)) (pa_cons (pv 11) (pa_cons (pe_tup (pa_cons pe_int (pa_cons pe_int (pa_cons pe_int (pa_cons pe_int pa_nil))))) pa_nil))))) pa_nil)))) (pss_one (ps_ret (pe_cmpR (op_eqD hr.units) (pv 8) (pe_op op_rep (pe_lst (pa_cons pe_str pa_nil)) pe_int) (nomark _)))))))))))))))))))))), fun as β r β' hR => ?_⟩)
  obtain ⟨ts, n, ns, rfl, hW, hb, rfl, rfl, rfl⟩ := hR
  dsimp only [cxOf, Cx.nox, Cx.wish] at *
  have few := hW.few
  have pos := hW.pos
  have hS := hW.sort
  have tw := told_web T
  have to := told_op T
  obtain ⟨t, us, rfl⟩ : ∃ t us, ts = t :: us := by
    cases ts with
    | nil => exact absurd pos (by decide)
    | cons t us => exact ⟨t, us, rfl⟩
  generalize hts : t :: us = ts at *
  have h0 : atI (ts.map tupJ) 0 = some (tupJ t) := by rw [← hts]; exact at0 _ _
  have ht : t ∈ tiesL := hW.tie t (by rw [← hts]; exact List.mem_cons_self)
  have w1 : ∀ {ρ : Rho} {β : Bag} (a b : Int), EvB K (tTup (tCons (tTup (tCons (tC (V.int a)) (tCons (tC (V.int b)) tNil))) tNil)) ρ β (.tuple [tupJ [a, b]]) β := fun a b => d_tup (ds := [tupJ [a, b]]) (a_lit (d_tup (ds := [.int a, .int b]) (a_lit d_int (a_lit d_int a_nil)) rfl (by show 2 ≤ 100000; decide)) a_nil) rfl (by show 1 ≤ 100000; decide)
  have p2 : ∀ {ρ : Rho} {β : Bag} (a b : Int), EvB K (tTup (tCons (tC (V.int a)) (tCons (tC (V.int b)) tNil))) ρ β (tupJ [a, b]) β := fun a b => d_tup (ds := [.int a, .int b]) (a_lit d_int (a_lit d_int a_nil)) rfl (by show 2 ≤ 100000; decide)
  refine .ret (st_sq (st_asg (d := tupJ t) (d_ixT (d_var rfl) d_int h0)) ?_)
  show StB K _ [some .bag, some (.imm (.tuple (ts.map tupJ))), some (.imm (webD Y.cl (sortX ts))), some (.imm (tupJ t)), none, none, none, none, none, none, none, none, none] _ _ _
  refine st_sq (st_asg (d := .list (someW t)) (d_lst (ds := someW t) (a_lit d_non (a_lit (d_tup (ds := []) a_nil rfl (by decide)) (a_lit (d_lst (ds := [tupJ t]) (a_lit (d_var rfl) a_nil) rfl (by show 1 ≤ 100000; decide)) (a_lit (d_var rfl) (a_lit (d_tup (ds := [tupJ t, tupJ t]) (a_lit (d_var rfl) (a_lit (d_var rfl) a_nil)) rfl (by show 2 ≤ 100000; decide)) (a_lit (w1 2 1) (a_lit (w1 1 5) (a_lit (w1 0 1) (a_lit (w1 1 1) (a_lit (d_tup (ds := [.tuple [.int 1, .bool true]]) (a_lit (d_tup (ds := [.int 1, .bool true]) (a_lit d_int (a_lit d_bl a_nil)) rfl (by decide)) a_nil) rfl (by decide)) (a_lit (d_tup (ds := [tupJ [1, 2, 3]]) (a_lit (d_tup (ds := [.int 1, .int 2, .int 3]) (a_lit d_int (a_lit d_int (a_lit d_int a_nil))) rfl (by decide)) a_nil) rfl (by decide)) (a_lit (d_tup (ds := [.str "12"]) (a_lit d_str a_nil) rfl (by decide)) a_nil)))))))))))) rfl (by show 12 ≤ 100000; decide))) ?_
  show StB K _ [some .bag, some (.imm (.tuple (ts.map tupJ))), some (.imm (webD Y.cl (sortX ts))), some (.imm (tupJ t)), some (.imm (.list (someW t))), none, none, none, none, none, none, none, none] _ _ _
  have m1 : (someW t ++ moreW t).getD (Num.grabF 15 ns).1.toNat .none ∈ someW t ++ moreW t := getD_mem (xs := someW t ++ moreW t) (by show _ :: _ ≠ []; exact List.cons_ne_nil _ _) ns
  have b1 := Num.grab_bag (t := 15) (by decide) hb
  refine st_seq (β1 := some (Num.grabF 15 ns).2) (st_asg (d := (someW t ++ moreW t).getD (Num.grabF 15 ns).1.toNat .none) (c_oneF (xs := someW t ++ moreW t) rfl (d_cat (ds := someW t) (es := moreW t) (d_var rfl) (d_lst (ds := moreW t) (a_lit (d_tup (ds := [tupJ t, .none]) (a_lit (d_var rfl) (a_lit d_non a_nil)) rfl (by show 2 ≤ 100000; decide)) (a_lit (d_tup (ds := [.list [.int 1, .int 2]]) (a_lit (d_lst (ds := [.int 1, .int 2]) (a_lit d_int (a_lit d_int a_nil)) rfl (by decide)) a_nil) rfl (by decide)) (a_lit d_int a_nil))) rfl (by show 3 ≤ 100000; decide)) (by show 12 + 3 ≤ 100000; decide)) (by show _ :: _ ≠ []; exact List.cons_ne_nil _ _) (by show 15 ≤ 1000; decide) hb)) ?_
  have no1 := badW_no t ht _ m1
  unfold refF
  generalize (someW t ++ moreW t).getD (Num.grabF 15 ns).1.toNat .none = bad at *
  generalize (Num.grabF 15 ns).2 = n1 at *
  show StB K _ [some .bag, some (.imm (.tuple (ts.map tupJ))), some (.imm (webD Y.cl (sortX ts))), some (.imm (tupJ t)), some (.imm (.list (someW t))), some (.imm (bad)), none, none, none, none, none, none, none] (some n1) _ _
  refine st_sq (st_ifF (TtB.to (t_test (d_neS (i := "web") (d_lamR T.tabw (fun E => x_newR (a_con (d_var rfl) a_nil) ⟨bad, rfl, .inl ⟨no1, rfl⟩, rfl, rfl⟩) rfl tw) d_str)) (by decide)) st_next) ?_
  have m2 : ptsW.getD (Num.grabF 11 n1).1.toNat .none ∈ ptsW := getD_mem (xs := ptsW) (by decide) n1
  have b2 := Num.grab_bag (t := 11) (by decide) b1
  refine st_seq (β1 := some (Num.grabF 11 n1).2) (st_asg (d := ptsW.getD (Num.grabF 11 n1).1.toNat .none) (c_oneF (xs := ptsW) rfl (d_lst (ds := ptsW) (a_lit d_non (a_lit (d_tup (ds := []) a_nil rfl (by decide)) (a_lit (d_tup (ds := [.int 1]) (a_lit d_int a_nil) rfl (by decide)) (a_lit (p2 2 1) (a_lit (p2 1 1) (a_lit (d_lst (ds := [.int 1, .int 2]) (a_lit d_int (a_lit d_int a_nil)) rfl (by decide)) (a_lit (p2 1 5) (a_lit (p2 0 1) (a_lit (d_tup (ds := [.int 1, .int 2, .int 3, .int 4, .int 5]) (a_lit d_int (a_lit d_int (a_lit d_int (a_lit d_int (a_lit d_int a_nil))))) rfl (by decide)) (a_lit (d_tup (ds := [.bool true, .int 2]) (a_lit d_bl (a_lit d_int a_nil)) rfl (by decide)) (a_lit d_str a_nil))))))))))) rfl (by decide)) (by decide) (by decide) b1)) ?_
  have no2 := fullNo_ex (ptsW_no _ m2)
  generalize ptsW.getD (Num.grabF 11 n1).1.toNat .none = pts at *
  generalize (Num.grabF 11 n1).2 = n2 at *
  show StB K _ [some .bag, some (.imm (.tuple (ts.map tupJ))), some (.imm (webD Y.cl (sortX ts))), some (.imm (tupJ t)), some (.imm (.list (someW t))), some (.imm (bad)), some (.imm (pts)), none, none, none, none, none, none] (some n2) _ _
  refine st_sq (st_ifF (TtB.to (t_test (d_neS (i := "web") (d_lamR T.tabw (fun E => x_cmR (a_con (d_var rfl) a_nil) ⟨pts, rfl, no2.elim (fun h => .inl ⟨h, rfl⟩) (fun ⟨xs, e, l, h⟩ => .inr ⟨xs, e, l, .inl ⟨h, rfl⟩⟩), rfl, rfl⟩) rfl tw) d_str)) (by decide)) st_next) ?_
  have m3 : oddW.getD (Num.grabF 9 n2).1.toNat .none ∈ oddW := getD_mem (xs := oddW) (by decide) n2
  have b3 := Num.grab_bag (t := 9) (by decide) b2
  refine st_seq (β1 := some (Num.grabF 9 n2).2) (st_asg (d := oddW.getD (Num.grabF 9 n2).1.toNat .none) (c_oneF (xs := oddW) rfl (d_lst (ds := oddW) (a_lit d_non (a_lit (d_tup (ds := []) a_nil rfl (by decide)) (a_lit (p2 2 1) (a_lit (p2 1 5) (a_lit (d_lst (ds := [.int 1, .int 2]) (a_lit d_int (a_lit d_int a_nil)) rfl (by decide)) (a_lit (d_tup (ds := [.int 1, .int 2, .int 3]) (a_lit d_int (a_lit d_int (a_lit d_int a_nil))) rfl (by decide)) (a_lit d_str (a_lit (d_tup (ds := [.bool true, .int 2]) (a_lit d_bl (a_lit d_int a_nil)) rfl (by decide)) (a_lit d_int a_nil))))))))) rfl (by decide)) (by decide) (by decide) b2)) ?_
  have no3 := oddW_no _ m3
  generalize oddW.getD (Num.grabF 9 n2).1.toNat .none = odd at *
  generalize (Num.grabF 9 n2).2 = n3 at *
  show StB K _ [some .bag, some (.imm (.tuple (ts.map tupJ))), some (.imm (webD Y.cl (sortX ts))), some (.imm (tupJ t)), some (.imm (.list (someW t))), some (.imm (bad)), some (.imm (pts)), some (.imm (odd)), none, none, none, none, none] (some n3) _ _
  refine st_own (by show 8 < 13; decide) (en_lst (ds := [.str "operation"]) (a_lit (d_lamR T.tabw (fun E => x_methR (d_var rfl) rfl (a_con (d_var rfl) a_nil) ⟨sortX ts, odd, rfl, hS, .inl ⟨.inl no3, rfl⟩, rfl, rfl⟩) rfl to) a_nil) (by show 1 ≤ 100000; decide)) ?_
  refine sp_seq (sw_app (d_lamR T.tabw (fun E => x_methR (d_var rfl) rfl (a_con (d_var rfl) a_nil) ⟨sortX ts, odd, rfl, hS, .inl ⟨.inl no3, rfl⟩, rfl, rfl⟩) rfl to) (by show 1 ≤ 50000; decide)) (sp_end ?_)
  show StB K _ [some .bag, some (.imm (.tuple (ts.map tupJ))), some (.imm (webD Y.cl (sortX ts))), some (.imm (tupJ t)), some (.imm (.list (someW t))), some (.imm (bad)), some (.imm (pts)), some (.imm (odd)), some (.imm (.list ((["operation", "operation"] : List Str).map PyData.str))), none, none, none, none] (some n3) _ _
  refine st_sq (st_ifF (t_test (d_neStrs (ss := ["operation", "operation"]) op2_lay (d_var rfl) ((d_repL (ds := [.str "operation"]) (k := 2) (d_lst (ds := [.str "operation"]) (a_lit d_str a_nil) rfl (by decide)) d_int (by decide) (by decide) (by decide)).to rfl))) st_next) ?_
  have m4 : namW.getD (Num.grabF 7 n3).1.toNat .none ∈ namW := getD_mem (xs := namW) (by decide) n3
  have b4 := Num.grab_bag (t := 7) (by decide) b3
  refine st_seq (β1 := some (Num.grabF 7 n3).2) (st_asg (d := namW.getD (Num.grabF 7 n3).1.toNat .none) (c_oneF (xs := namW) rfl (d_lst (ds := namW) (a_lit d_non (a_lit (d_tup (ds := [.int 1, .int 2, .int 3]) (a_lit d_int (a_lit d_int (a_lit d_int a_nil))) rfl (by decide)) (a_lit (d_tup (ds := [.int 1, .int 2, .int 3, .int 3]) (a_lit d_int (a_lit d_int (a_lit d_int (a_lit d_int a_nil)))) rfl (by decide)) (a_lit (d_lst (ds := [.int 1, .int 2, .int 3, .int 4]) (a_lit d_int (a_lit d_int (a_lit d_int (a_lit d_int a_nil)))) rfl (by decide)) (a_lit (d_tup (ds := [.int 0, .int 1, .int 2, .int 3]) (a_lit d_int (a_lit d_int (a_lit d_int (a_lit d_int a_nil)))) rfl (by decide)) (a_lit (d_tup (ds := [.int 1, .int 2, .int 3, .int 4, .int 5]) (a_lit d_int (a_lit d_int (a_lit d_int (a_lit d_int (a_lit d_int a_nil))))) rfl (by decide)) (a_lit (d_tup (ds := [.bool true, .int 2, .int 3, .int 4]) (a_lit d_bl (a_lit d_int (a_lit d_int (a_lit d_int a_nil)))) rfl (by decide)) a_nil))))))) rfl (by decide)) (by decide) (by decide) b3)) ?_
  have no4 := namW_no _ m4
  generalize namW.getD (Num.grabF 7 n3).1.toNat .none = nam at *
  generalize (Num.grabF 7 n3).2 = n4 at *
  show StB K _ [some .bag, some (.imm (.tuple (ts.map tupJ))), some (.imm (webD Y.cl (sortX ts))), some (.imm (tupJ t)), some (.imm (.list (someW t))), some (.imm (bad)), some (.imm (pts)), some (.imm (odd)), some (.imm (.list ((["operation", "operation"] : List Str).map PyData.str))), some (.imm (nam)), none, none, none] (some n4) _ _
  have m5 : priW.getD (Num.grabF 9 n4).1.toNat .none ∈ priW := getD_mem (xs := priW) (by decide) n4
  have b5 := Num.grab_bag (t := 9) (by decide) b4
  refine st_seq (β1 := some (Num.grabF 9 n4).2) (st_asg (d := priW.getD (Num.grabF 9 n4).1.toNat .none) (c_oneF (xs := priW) rfl (d_lst (ds := priW) (a_lit d_int (a_lit d_int (a_lit (d_neg d_int) (a_lit d_non (a_lit d_bl (a_lit d_str (a_lit d_int (a_lit (d_tup (ds := [.int 2]) (a_lit d_int a_nil) rfl (by decide)) (a_lit (d_pow d_int d_int ⟨by decide, by decide⟩) a_nil))))))))) rfl (by decide)) (by decide) (by decide) b4)) ?_
  obtain ⟨no5, sh5⟩ := Bool.and_eq_true_iff.mp (priW_no _ m5)
  have no5 : Num.isPrime (priW.getD (Num.grabF 9 n4).1.toNat .none) = false := by simpa using no5
  generalize priW.getD (Num.grabF 9 n4).1.toNat .none = pri at *
  generalize (Num.grabF 9 n4).2 = n5 at *
  show StB K _ [some .bag, some (.imm (.tuple (ts.map tupJ))), some (.imm (webD Y.cl (sortX ts))), some (.imm (tupJ t)), some (.imm (.list (someW t))), some (.imm (bad)), some (.imm (pts)), some (.imm (odd)), some (.imm (.list ((["operation", "operation"] : List Str).map PyData.str))), some (.imm (nam)), some (.imm (pri)), none, none] (some n5) _ _
  refine st_sq (st_ifF (TtB.to (t_test (d_neS (i := "operation") (d_lamR T.tabw (fun E => x_methR (d_var rfl) rfl (a_con (d_var rfl) a_nil) ⟨sortX ts, nam, rfl, no4, rfl, rfl, rfl⟩) rfl to) d_str)) (by decide)) st_next) ?_
  refine st_sq (st_ifF (TtB.to (t_test (d_neS (i := wN pri) (j := wN pri) (d_lamR T.tabw (fun E => x_methR (d_var rfl) rfl (a_con (d_var rfl) a_nil) ⟨sortX ts, pri, rfl, no5, rfl, rfl, rfl⟩) rfl (told_num T sh5)) (d_addS d_str (d_repr (d_var rfl) (tell_show sh5).1) (num_len sh5)))) (by rw [decide_eq_true rfl]; rfl)) st_next) ?_
  have m6 : (nonW Y.cl ts).getD (Num.grabF 6 n5).1.toNat .none ∈ nonW Y.cl ts := getD_mem (xs := nonW Y.cl ts) (by show _ :: _ ≠ []; exact List.cons_ne_nil _ _) n5
  refine st_seq (β1 := some (Num.grabF 6 n5).2) (st_asg (d := (nonW Y.cl ts).getD (Num.grabF 6 n5).1.toNat .none) (c_oneF (xs := nonW Y.cl ts) rfl (d_lst (ds := nonW Y.cl ts) (a_lit d_non (a_lit (d_var rfl) (a_lit (d_prop (d_var rfl) ⟨sortX ts, rfl, rfl, rfl, rfl⟩) (a_lit d_str (a_lit d_int (a_lit (d_tup (ds := [webD Y.cl (sortX ts)]) (a_lit (d_var rfl) a_nil) rfl (by show 1 ≤ 100000; decide)) a_nil)))))) rfl (by show 6 ≤ 100000; decide)) (by show _ :: _ ≠ []; exact List.cons_ne_nil _ _) (by show 6 ≤ 1000; decide) b5)) ?_
  have no6 := nonW_no _ m6
  generalize (nonW Y.cl ts).getD (Num.grabF 6 n5).1.toNat .none = non at *
  generalize (Num.grabF 6 n5).2 = n6 at *
  show StB K _ [some .bag, some (.imm (.tuple (ts.map tupJ))), some (.imm (webD Y.cl (sortX ts))), some (.imm (tupJ t)), some (.imm (.list (someW t))), some (.imm (bad)), some (.imm (pts)), some (.imm (odd)), some (.imm (.list ((["operation", "operation"] : List Str).map PyData.str))), some (.imm (nam)), some (.imm (pri)), some (.imm (non)), none] (some n6) _ (some n6)
  have turn : ∀ (f : Addr) (Rf : FX) (o : Option Slot) (acc : List Dt), ((f = f1 ∧ spX K Rf = spX K (R_open_ring Y)) ∨ (f = f2 ∧ spX K Rf = spX K (R_order_of_points Y)) ∨ (f = f3 ∧ spX K Rf = spX K (R_web_degrees Y))) → Rf [.imm non] none (.ex Y.cV none) none → acc.length ≤ 1000 →
      StW K 8 (tDrop (tBM K "list" rAppend (tVar 8) (tCons (LamX.tLam Y.T (TTell K Y.cls "fine") (fun E => tCallX 12 (fun f sp => (f = f1 ∧ sp = spX K (R_open_ring Y)) ∨ (f = f2 ∧ sp = spX K (R_order_of_points Y)) ∨ (f = f3 ∧ sp = spX K (R_web_degrees Y))) E (tCons (tVar 11) tNil))) tNil))) (List.set [some .bag, some (.imm (.tuple (ts.map tupJ))), some (.imm (webD Y.cl (sortX ts))), some (.imm (tupJ t)), some (.imm (.list (someW t))), some (.imm (bad)), some (.imm (pts)), some (.imm (odd)), none, some (.imm (nam)), some (.imm (pri)), some (.imm (non)), o] 12 (some (.fn f))) (some n6) (.list acc) (.nx [some .bag, some (.imm (.tuple (ts.map tupJ))), some (.imm (webD Y.cl (sortX ts))), some (.imm (tupJ t)), some (.imm (.list (someW t))), some (.imm (bad)), some (.imm (pts)), some (.imm (odd)), none, some (.imm (nam)), some (.imm (pri)), some (.imm (non)), some (.fn f)]) (some n6) (.list (acc ++ [.str "web"])) := by
    intro f Rf o acc hf hR hl
    exact sw_app (d_lamExX (i := 12) (f := f) (R := Rf) T.tabw rfl hf (a_con (d_var rfl) a_nil) hR tw) (by omega)
  refine st_own (by show 8 < 13; decide) (en_lst (ds := []) a_nil (by decide)) ?_
  refine sp_seq (sw_forS (by decide) (fun q => a_cons s_fnC (a_cons s_fnC (a_cons s_fnC a_nil))) (.nx (turn f1 (R_open_ring Y) none [] (.inl ⟨rfl, rfl⟩) ⟨non, rfl, no6, rfl, rfl, rfl⟩ (by decide)) (.nx (turn f2 (R_order_of_points Y) _ [.str "web"] (.inr (.inl ⟨rfl, rfl⟩)) ⟨non, rfl, no6, rfl, rfl, rfl⟩ (by show 1 ≤ 1000; decide)) (.nx (turn f3 (R_web_degrees Y) _ [.str "web", .str "web"] (.inr (.inr ⟨rfl, rfl⟩)) ⟨non, rfl, no6, rfl, rfl, rfl⟩ (by show 2 ≤ 1000; decide)) (.nil _ _ _)))) (by show 3 ≤ 100000; decide)) ?_
  refine sp_seq (sw_app (x := .str "web") (d_lamEx T.tabw (a_con (d_var rfl) (a_con (d_tup (ds := [.int 1, .int 2, .int 3, .int 4]) (a_lit d_int (a_lit d_int (a_lit d_int (a_lit d_int a_nil)))) rfl (by decide)) a_nil)) ⟨non, _, rfl, no6, rfl, rfl, rfl⟩ tw) (by show 3 ≤ 50000; decide)) (sp_end ?_)
  exact st_ret (d_eqStrs (ss := ["web", "web", "web", "web"]) web4_lay (d_var rfl) ((d_repL (ds := [.str "web"]) (k := 4) (d_lst (ds := [.str "web"]) (a_lit d_str a_nil) rfl (by decide)) d_int (by decide) (by decide) (by decide)).to rfl))
end K73
set_option Elab.async false
set_option linter.all false
set_option maxRecDepth 100000
set_option maxHeartbeats 1100000
namespace K73
open PySem L2 TD PySem.Spec PyProof.Rows
open Evl (Ex ex_l ex_t fresh_back sq_of st_of sz_of sz_lt)
variable [TabW]
theorem cut_map {α : Type} {g : α → Dt} {ys : List α} {k : Int} (h : 0 ≤ k) : cutD (ys.map g) none (some k) = (ys.take k.toNat).map g := by
  rw [cut_take h, List.map_take]
/-- the items in a drawn order, told by the mirror -/
theorem c_mixF {K : PySem.W.Frag} {ρ : Rho} {tl : TE} {E : XK} {ns : List Int} {n : Int} {i : Nat} {α : Type} {g : α → Dt} (z : α) {xs : List α} (hi : ρ[i]? = some (some Slot.bag)) (h : EvB K tl ρ (some ns) (.list (xs.map g)) (some ns)) (hl : xs.length ≤ 1000) (hb : Num.BagI n ns) :
    EvB K (tCall (spR K R_law_mixed) [] E (tCons (tVar i) (tCons tl tNil))) ρ (some ns) (.list ((Num.mixP z xs.length xs ns).1.map g)) (some (Num.mixP z xs.length xs ns).2) := by
  have e := Num.mixF_map z g xs.length xs ns (Nat.le_refl _)
  refine d_call (a_bg hi (a_con h a_nil)) ⟨_, xs.map g, n, ns, rfl, ⟨.inl rfl, by rw [List.length_map]; exact hl⟩, hb, ?_, rfl, ?_⟩ rfl
  · rw [List.length_map, e]
  · rw [List.length_map, e]
theorem ties_up : tiesL.Pairwise fun x y => leL x y = true := by decide +kernel
theorem ties_nd : tiesL.Nodup := by decide +kernel
/-- the points in a drawn order, cut off and sorted -/
abbrev subsP : List (List Int) := [[1, 2], [1, 3], [1, 4], [2, 3], [2, 4], [3, 4], [1, 2, 3], [1, 2, 4], [1, 3, 4], [2, 3, 4], [1, 2, 3, 4]]
theorem subs_all {ps : List Int} (up : ps.Pairwise (· ≤ ·)) (nd : ps.Nodup) (pt : ∀ x ∈ ps, x ∈ ([1, 2, 3, 4] : List Int)) (two : 2 ≤ ps.length) : ps ∈ subsP := by
  have e : ps = ([1, 2, 3, 4] : List Int).filter fun x => decide (x ∈ ps) := by
    have p : ps.Perm (([1, 2, 3, 4] : List Int).filter fun x => decide (x ∈ ps)) := (List.perm_ext_iff_of_nodup nd (List.Nodup.sublist List.filter_sublist (by decide))).mpr fun x => by
      rw [List.mem_filter, decide_eq_true_eq]
      exact ⟨fun z => ⟨pt x z, z⟩, fun z => z.2⟩
    exact List.Perm.eq_of_pairwise (le := (· ≤ ·)) (fun _ _ _ _ a b => Int.le_antisymm a b) up (List.Pairwise.sublist List.filter_sublist (by decide)) p
  generalize (fun x => decide (x ∈ ps)) = f at e
  subst e
  cases h1 : f 1 <;> cases h2 : f 2 <;> cases h3 : f 3 <;> cases h4 : f 4 <;> simp [List.filter_cons, h1, h2, h3, h4] at two ⊢
def dueT (ps : List Int) : List (List Int) := tiesL.filter fun t => decide (t.getD 0 0 ∈ ps) && decide (t.getD 1 0 ∈ ps)
theorem subs_full : ∀ ps ∈ subsP, ps.length ≤ 4 ∧ (chF 2 (ps.map PyData.int)).map PyData.tuple = (dueT ps).map tupJ ∧ WebOk (dueT ps) := by
  have ok : ∀ ps ∈ subsP, 1 ≤ (dueT ps).length := by decide +kernel
  intro ps h
  have h1 := ok ps h
  have h2 : (dueT ps).Nodup := ties_nd.sublist List.filter_sublist
  have h3 : ∀ t ∈ dueT ps, t ∈ tiesL := fun t ht => (List.mem_filter.mp ht).1
  refine ⟨?_, ?_, h1, ties_few h3 h2, h3, h2⟩
  · revert ps
    decide +kernel
  · simp only [List.mem_cons, List.not_mem_nil, or_false] at h
    rcases h with rfl | rfl | rfl | rfl | rfl | rfl | rfl | rfl | rfl | rfl | rfl <;> rfl
theorem due_up (ps : List Int) : sortX (dueT ps) = dueT ps := sortX_id (ties_up.sublist List.filter_sublist)
def rightF (ns : List Int) : List Int :=
  refF (Num.grabF 3 (Num.mixP (0 : Int) 4 [1, 2, 3, 4] (Num.grabF 9 (Num.grabF 6 (Num.mixP [] 6 tiesL ns).2).2).2).2).2
abbrev s_law_right : Stmt := top 64
theorem sc_law_right : FnScope ["_law_bag_here", "_law_ties", "_law_web", "_law_points", "_law_due", "_law_tie"] ["_law_bag_here"] (defScope s_law_right) := ⟨rfl, rfl, rfl, by decide +kernel, rfl, by decide +kernel, by decide +kernel⟩
abbrev R_law_right : FR := fD (fun _ : Unit => []) (fun _ => True) fun _ ns => (.bool true, rightF ns)
theorem ok_law_right {P : Program} {w : World} {K : PySem.W.Frag} {mg : Str → Option Value} {base : Heap} {Y : Cn} (F : DefAt K "_law_right" s_law_right) (hX : K.In base) (hG : base.Ns mainGlobals mg) (T : Txt K mg Y) (G_Web_init : FnI P w K mg base 5 "Web" Y.cl ["self", "ties"] (R_Web_init Y)) (G_law_refused : FnH P w K mg base 10 "_law_refused" ["_law_bag_here", "_law_ties", "_law_web"] (R_law_refused Y)) (G_law_mixed : FnG P w K mg base 2 "_law_mixed" ["_law_bag_here", "_law_items"] R_law_mixed) (G_law_value_right : FnH P w K mg base 9 "_law_value_right" ["_law_bag_here", "_law_ties", "_law_web"] (R_law_value_right Y)) (G_law_changes_right : FnH P w K mg base 10 "_law_changes_right" ["_law_ties", "_law_web"] (R_law_changes_right Y)) (G_law_all_ties : FnG P w K mg base 1 "_law_all_ties" [] R_law_all_ties) (G_Web_ties : FnP P w K mg base 1 Y.cl "ties" (R_Web_ties Y)) (G_law_grab : FnG P w K mg base 1 "_law_grab" ["_law_bag_here", "_law_total"] R_law_grab) (G_Web_full : FnCX P w K mg base 7 Y.cl "full" ["cls", "points"] (R_Web_full Y)) : FnH P w K mg base 11 "_law_right" ["_law_bag_here"] R_law_right := by
  have nd := sc_law_right.nd
  refine fnH_mk F hX hG sc_law_right (fun as β r β' h => by first | exact FR.len h | (obtain ⟨_, rfl, _⟩ := h; rfl) | (obtain ⟨_, _, rfl, _⟩ := h; rfl) | (obtain ⟨_, _, _, rfl, _⟩ := h; rfl) | (obtain ⟨_, _, _, _, rfl, _⟩ := h; rfl) | (obtain ⟨_, _, _, _, _, rfl, _⟩ := h; rfl)) (fun _ _ _ _ _ _ _ us hl => match us, hl with | [_], _ => rfl) (fun f cdv A outer s H E hr => ⟨_, (pss_cons (ps_set (i := 1) nd rfl (Or.inl rfl) (pe_callTy c_tuple (by rfl) T.z_tuple bo_tuple (pa_cons (pe_slice sl_list (pe_fn G_law_mixed (hr.toRoom.mono (by decide)) (pa_cons (pv 0) (pa_cons (pe_fn0 G_law_all_ties (hr.toRoom.mono (by decide))) pa_nil))) po_none (po_some (pe_op op_add pe_int (pe_fn G_law_grab (hr.toRoom.mono (by decide)) (pa_cons (pv 0) (pa_cons pe_int pa_nil)))))) pa_nil))) (pss_cons (ps_set (i := 2) nd rfl (Or.inl rfl) (pe_new (E := E0) G_Web_init (hr.toRoom.mono (by decide)) passL (pa_cons (pv 1) pa_nil))) (pss_cons (ps_if (PW.pt (pw_or (pt_not (pt_val (pe_fnH G_law_value_right (hr.mono (by decide)) (pa_cons (pv 0) (pa_cons (pv 1) (pa_cons (pv 2) pa_nil)))))) (pw_or1 (pt_not (pt_val (pe_fnH G_law_changes_right (hr.mono (by decide)) (pa_cons (pv 1) (pa_cons (pv 2) pa_nil)))))))) (pss_one (ps_ret pe_bl)) pss_nil) (pss_cons (ps_set (i := 3) nd rfl (Or.inr rfl) (pe_callTy c_tuple (by rfl) T.z_tuple bo_tuple (pa_cons (pe_callB cr_sorted (by rfl) T.z_sorted bo_sorted (pa_cons (pe_slice sl_list (pe_fn G_law_mixed (hr.toRoom.mono (by decide)) (pa_cons (pv 0) (pa_cons (pe_lst (pa_cons pe_int (pa_cons pe_int (pa_cons pe_int (pa_cons pe_int pa_nil))))) pa_nil))) po_none (po_some (pe_op op_add pe_int (pe_fn G_law_grab (hr.toRoom.mono (by decide)) (pa_cons (pv 0) (pa_cons pe_int pa_nil)))))) pa_nil)) pa_nil))) (pss_cons (ps_setLc (i := 4) (own := [("_law_tie", 5)]) rfl nd rfl rfl (sw_true rfl rfl rfl (by decide +kernel)) (pi_list (pe_fn0 G_law_all_ties (hr.toRoom.mono (by decide)))) (blkOk_by (N := ["_law_bag_here", "_law_ties", "_law_web", "_law_points", "_law_due", "_law_tie"]) (sc := defScope s_law_right) (by decide +kernel)) (fun _ _ _ _ _ => by exact (pg_name (i := 5) nd rfl (Or.inl rfl))) (fun _ _ _ _ _ => by exact (pts_one (PW.pt (pw_and (pt_cmpR (op_ofK (K := K) (r := fun K => rIn K false) op_in_seq) (pe_ix (ix_ofK (K := K) (r := rIxT) ix_tup) (pv 5) pe_int (fun _ _ => rfl)) (pv 3) (by rfl)) (pw_and1 (pt_cmpR (op_ofK (K := K) (r := fun K => rIn K false) op_in_seq) (pe_ix (ix_ofK (K := K) (r := rIxT) ix_tup) (pv 5) pe_int (fun _ _ => rfl)) (pv 3) (by rfl))))))) (fun _ _ _ _ _ => by exact (pv 5))) (pss_one (ps_ret (pe_and (pe_cmpR (op_eqD hr.units) (pe_p G_Web_ties (hr.toRoom.mono (by decide)) (pe_cmX (E := E0) G_Web_full (hr.toRoom.mono (by decide)) passL (pe_glob (v := .ref _) (by rfl) T.k_Web rfl) (pa_cons (pv 3) pa_nil))) (pe_callTy c_tuple (by rfl) T.z_tuple bo_tuple (pa_cons (pv 4) pa_nil)) (nomark _)) (pe_one (pe_fnH G_law_refused (hr.mono (by decide)) (pa_cons (pv 0) (pa_cons (pv 1) (pa_cons (pv 2) pa_nil))))))))))))), fun as β r β' hR => ?_⟩)
  obtain ⟨_, n, ns, rfl, _, hb, rfl, rfl, rfl⟩ := hR
  dsimp only [cxOf, Cx.nox, Cx.wish] at *
  have mx := c_mixF (K := K) (E := E0) (ρ := startR ["_law_bag_here", "_law_ties", "_law_web", "_law_points", "_law_due", "_law_tie"] [.bag]) (tl := tCall (spR K R_law_all_ties) [] E0 tNil) (i := 0) (g := tupJ) [] (xs := tiesL) rfl (d_call0 a_nil ⟨(), rfl, rfl, rfl, rfl⟩) (by decide) hb
  have pm := Num.mixP_perm [] 6 tiesL ns rfl
  obtain ⟨n1, b1⟩ := Num.mixP_bag [] 6 tiesL ns (Nat.le_refl _) ⟨n, hb⟩
  unfold rightF
  have mx : EvB K (tCall (spR K R_law_mixed) [] E0 (tCons (tVar 0) (tCons (tCall (spR K R_law_all_ties) [] E0 tNil) tNil))) (startR ["_law_bag_here", "_law_ties", "_law_web", "_law_points", "_law_due", "_law_tie"] [.bag]) (some ns) (.list ((Num.mixP [] 6 tiesL ns).1.map tupJ)) (some (Num.mixP [] 6 tiesL ns).2) := mx
  generalize (Num.mixP [] 6 tiesL ns).1 = ys at *
  generalize (Num.mixP [] 6 tiesL ns).2 = v1 at *
  have g1 := Num.grab_rng (t := 6) (by decide) v1
  have b2 := Num.grab_bag (t := 6) (by decide) b1
  obtain ⟨ts, hts⟩ : ∃ ts, ts = ys.take (1 + (Num.grabF 6 v1).1).toNat := ⟨_, rfl⟩
  have yl : ys.length = 6 := pm.length_eq
  have hW : WebOk ts := by
    have nd : ys.Nodup := pm.nodup_iff.mpr ties_nd
    have l : ts.length = (1 + (Num.grabF 6 v1).1).toNat := by rw [hts, List.length_take]; omega
    exact ⟨by omega, by omega, fun t ht => pm.mem_iff.mp (List.mem_of_mem_take (hts ▸ ht)), hts ▸ nd.sublist (List.take_sublist ..)⟩
  have few := hW.few
  have gr : ∀ {ρ : Rho} {v : List Int} {m k : Int}, ρ[0]? = some (some Slot.bag) → 0 < k → k ≤ 100 → Num.BagI m v → EvB K (tCall (spR K R_law_grab) [] E0 (tCons (tVar 0) (tCons (tC (V.int k)) tNil))) ρ (some v) (.int (Num.grabF k v).1) (some (Num.grabF k v).2) := fun {ρ v m k} h0 h1 h2 h3 => c_fD (a := fun t : Int => [.imm (.int t)]) (P := fun t => 0 < t ∧ t.natAbs < 2 ^ 3000) (g := fun t ns => (.int (Num.grabF t ns).1, (Num.grabF t ns).2)) (x := k) (a_bg h0 (a_con d_int a_nil)) ⟨h1, Nat.lt_of_le_of_lt (m := 1000) (by omega) (by decide)⟩ h3
  refine .ret (st_seq (β1 := some (Num.grabF 6 v1).2) (st_asg (d := .tuple (ts.map tupJ)) (d_tupleOf (EvB.to (d_slL (lo := none) (hi := some (1 + (Num.grabF 6 v1).1)) mx o_none (o_some (d_add d_int (gr rfl (by decide) (by decide) b1)))) (by rw [cut_map (by omega), hts])))) ?_)
  generalize (Num.grabF 6 v1).2 = v2 at *
  show StB K _ [some .bag, some (.imm (.tuple (ts.map tupJ))), none, none, none, none] (some v2) _ _
  refine st_sq (st_asg (d := webD Y.cl (sortX ts)) (x_new (ps := webF (sortX ts)) (a_con (d_var rfl) a_nil) ⟨_, rfl, .inr ⟨ts, rfl, hW, rfl⟩, rfl, rfl⟩)) ?_
  show StB K _ [some .bag, some (.imm (.tuple (ts.map tupJ))), some (.imm (webD Y.cl (sortX ts))), none, none, none] (some v2) _ _
  have b3 := Num.grab_bag (t := 9) (by decide) b2
  refine st_seq (β1 := some (Num.grabF 9 v2).2) (st_ifF (t_orF (β1 := some (Num.grabF 9 v2).2) (TtB.to (t_not (t_B (c_fD (a := fun ts : List (List Int) => [.imm (.tuple (ts.map tupJ)), .imm (webD Y.cl (sortX ts))]) (P := WebOk) (g := fun _ ns => (.bool true, (Num.grabF 9 ns).2)) (x := ts) (a_bg rfl (a_con (d_var rfl) (a_con (d_var rfl) a_nil))) hW b2))) rfl) (TtB.to (t_not (t_B (d_call0 (a_con (d_var rfl) (a_con (d_var rfl) a_nil)) ⟨ts, rfl, hW, rfl, rfl, rfl⟩))) rfl)) st_next) ?_
  generalize (Num.grabF 9 v2).2 = v3 at *
  have mx := c_mixF (K := K) (E := E0) (ρ := [some .bag, some (.imm (.tuple (ts.map tupJ))), some (.imm (webD Y.cl (sortX ts))), none, none, none]) (tl := tLst (tCons (tC (V.int 1)) (tCons (tC (V.int 2)) (tCons (tC (V.int 3)) (tCons (tC (V.int 4)) tNil))))) (i := 0) (g := PyData.int) 0 (xs := [1, 2, 3, 4]) rfl (d_lst (ds := [.int 1, .int 2, .int 3, .int 4]) (a_lit d_int (a_lit d_int (a_lit d_int (a_lit d_int a_nil)))) rfl (by decide)) (by decide) b3
  have pz := Num.mixP_perm (0 : Int) 4 [1, 2, 3, 4] v3 rfl
  obtain ⟨n4, b4⟩ := Num.mixP_bag (0 : Int) 4 [1, 2, 3, 4] v3 (Nat.le_refl _) ⟨_, b3⟩
  have mx : EvB K (tCall (spR K R_law_mixed) [] E0 (tCons (tVar 0) (tCons (tLst (tCons (tC (V.int 1)) (tCons (tC (V.int 2)) (tCons (tC (V.int 3)) (tCons (tC (V.int 4)) tNil))))) tNil))) [some .bag, some (.imm (.tuple (ts.map tupJ))), some (.imm (webD Y.cl (sortX ts))), none, none, none] (some v3) (.list ((Num.mixP (0 : Int) 4 [1, 2, 3, 4] v3).1.map PyData.int)) (some (Num.mixP (0 : Int) 4 [1, 2, 3, 4] v3).2) := mx
  generalize (Num.mixP (0 : Int) 4 [1, 2, 3, 4] v3).1 = zs at *
  generalize (Num.mixP (0 : Int) 4 [1, 2, 3, 4] v3).2 = v4 at *
  have g2 := Num.grab_rng (t := 3) (by decide) v4
  have b5 := Num.grab_bag (t := 3) (by decide) b4
  have zl : zs.length = 4 := pz.length_eq
  obtain ⟨ps, hps⟩ : ∃ ps, ps = ordA (zs.take (2 + (Num.grabF 3 v4).1).toNat) := ⟨_, rfl⟩
  have hp : ps ∈ subsP := by
    have pe := ordA_perm (zs.take (2 + (Num.grabF 3 v4).1).toNat)
    rw [← hps] at pe
    have nd : zs.Nodup := pz.nodup_iff.mpr (by decide)
    refine subs_all (hps ▸ ordA_up _) (pe.nodup_iff.mpr (nd.sublist (List.take_sublist ..))) (fun x hx => pz.mem_iff.mp (List.mem_of_mem_take (pe.mem_iff.mp hx))) ?_
    rw [pe.length_eq, List.length_take]
    omega
  obtain ⟨p4, pf, pW⟩ := subs_full ps hp
  refine st_seq (β1 := some (Num.grabF 3 v4).2) (st_asg (d := tupJ ps) (d_tupleOf (EvB.to (d_sortLI (ns := zs.take (2 + (Num.grabF 3 v4).1).toNat) (EvB.to (d_slL (lo := none) (hi := some (2 + (Num.grabF 3 v4).1)) mx o_none (o_some (d_add d_int (gr rfl (by decide) (by decide) b4)))) (by rw [cut_map (by omega)])) (by rw [List.length_take]; omega)) (by rw [hps])))) ?_
  generalize (Num.grabF 3 v4).2 = v5 at *
  show StB K _ [some .bag, some (.imm (.tuple (ts.map tupJ))), some (.imm (webD Y.cl (sortX ts))), some (.imm (tupJ ps)), none, none] (some v5) _ _
  refine st_sq (st_asg (d := .list ((dueT ps).map tupJ)) (d_lcL (ds := tiesL.map tupJ) (d_call0 a_nil ⟨(), rfl, rfl, rfl, rfl⟩) (lc_tups (fun t => decide (t.getD 0 0 ∈ ps) && decide (t.getD 1 0 ∈ ps)) fun l hl => ?_) (by rw [List.length_map]; exact Nat.le_trans (List.length_filter_le _ _) (by decide)) (wipe_ok (by decide)))) ?_
  · obtain ⟨a, b, rfl⟩ := tie_two hl
    exact ⟨t_and (t_test (d_inI (d_ixT (ds := [.int a, .int b]) (d_var rfl) d_int (at0 _ _)) (d_var rfl) (.inr rfl))) fun _ => t_test (d_inI (d_ixT (ds := [.int a, .int b]) (d_var rfl) d_int rfl) (d_var rfl) (.inr rfl)), d_var rfl⟩
  show StB K _ [some .bag, some (.imm (.tuple (ts.map tupJ))), some (.imm (webD Y.cl (sortX ts))), some (.imm (tupJ ps)), some (.imm (.list ((dueT ps).map tupJ))), none] (some v5) _ _
  refine st_ret (d_andT ((d_eqTs (ls := dueT ps) (ms := dueT ps) (d_prop (x_cm (r := webD Y.cl (sortX (dueT ps))) (a_con (d_var rfl) a_nil) ⟨_, rfl, .inr ⟨ps.map PyData.int, rfl, by rw [List.length_map]; exact p4, .inr ⟨dueT ps, pf, pW, rfl⟩⟩, rfl, rfl⟩) ⟨_, rfl, by rw [due_up], rfl, rfl⟩) (d_tupleOf (d_var rfl))).to (congrArg PyData.bool (decide_eq_true rfl))) (c_fD (a := fun ts : List (List Int) => [.imm (.tuple (ts.map tupJ)), .imm (webD Y.cl (sortX ts))]) (P := WebOk) (g := fun _ ns => (.bool true, refF ns)) (x := ts) (a_bg rfl (a_con (d_var rfl) (a_con (d_var rfl) a_nil))) hW b5))
end K73
set_option Elab.async false
set_option linter.all false
set_option maxRecDepth 100000
set_option maxHeartbeats 1100000
namespace K73
open PySem L2 TD PySem.Spec PyProof.Rows
open Evl (Ex ex_l ex_t fresh_back sq_of st_of sz_of sz_lt rMax2)
variable [TabW]
abbrev s_law_bag : Stmt := top 54
theorem sc_law_bag : FnScope ["_law_script", "_law_spot", "_law_cell", "_law_great", "_law_mixed_here"] ["_law_script", "_law_spot"] (defScope s_law_bag) := ⟨rfl, rfl, rfl, by decide +kernel, rfl, by decide +kernel, by decide +kernel⟩
abbrev R_law_bag : PySem.W.Frag → Sp := spBag
theorem ok_law_bag {P : Program} {w : World} {K : PySem.W.Frag} {mg : Str → Option Value} {base : Heap}  (F : DefAt K "_law_bag" s_law_bag) (hX : K.In base) (hG : base.Ns mainGlobals mg) {Y : Cn} (T : Txt K mg Y)   : FnS P w K mg base 1 "_law_bag" ["_law_script", "_law_spot"] (R_law_bag K) := by
  have nd := sc_law_bag.nd
  refine fnS_mk F hX hG sc_law_bag ?len (fun _ _ _ _ _ _ _ us hl => match us, hl with | [_, _], _ => rfl) (fun f cdv A outer s H E hr => ⟨_, (pss_cons (ps_set (i := 2) nd rfl (Or.inl rfl) (pe_ifExp (pt_cmpR op_lt (pv 1) (pe_callB (c_lenK (K := K)) (by rfl) T.z_len bo_len (pa_cons (pv 0) pa_nil)) (nomark _)) (pe_ix ix_list (pv 0) (pv 1) (fun _ _ => rfl)) (pe_op op_add (pe_op op_add (pe_callB (cr_sum rfl) (by rfl) T.z_sum bo_sum (pa_cons (pe_slice sl_list (pv 0) po_none (po_some pe_int)) pa_nil)) (pe_op op_mul pe_int (pv 1))) pe_int))) (pss_cons (ps_set (i := 3) nd rfl (Or.inl rfl) (pe_op op_mod (pe_callTy c_int (by rfl) T.z_int bo_int (pa_cons (pe_callB c_abs (by rfl) T.z_abs bo_abs (pa_cons (pv 2) pa_nil)) pa_nil)) (pe_op op_powW (pe_op op_powW pe_int pe_int) pe_int))) (pss_cons (ps_set (i := 4) nd rfl (Or.inl rfl) (pe_op op_add (pe_op op_add (pe_op op_add (pe_op op_mul (pe_op op_mod (pe_callTy c_int (by rfl) T.z_int bo_int (pa_cons (pv 3) pa_nil)) pe_int) pe_int) (pe_op op_mul pe_int (pv 1))) (pe_op op_mul pe_int (pe_callTy c_int (by rfl) T.z_int bo_int (pa_cons (pe_cmpR op_lt (pv 2) pe_int (nomark _)) pa_nil)))) pe_int)) (pss_one (ps_ret (pe_lst (pa_cons (pe_callB (c_max2 rfl) (by rfl) T.z_max bo_max (pa_cons pe_int (pa_cons (pe_op op_sub (pv 3) (pe_op op_powW pe_int pe_int)) pa_nil))) (pa_cons (pe_op op_mod (pe_callTy c_int (by rfl) T.z_int bo_int (pa_cons (pv 4) pa_nil)) pe_int) (pa_cons pe_int pa_nil))))))))), fun vs H Q E hsp => ?run⟩)
  case len =>
    rintro vs H Q E ⟨a, ns, spot, G, rfl, _⟩
    rfl
  case run =>
    dsimp only [cxOf, Cx.nox, Cx.wish]
    obtain ⟨a, ns, spot, G, rfl, e, tb, hS, h0, h10, k⟩ := hsp
    have hb : ∀ (b : Addr) (c : Int) (G' H' : Hp), Step b false G H G' H' → EnvD K b none G' H' [some (.ref a), some (.int spot), some (.int c), none, none] [none, some (.imm (.int spot)), some (.imm (.int c)), none, none] := fun b c G' H' s' => by
      refine ⟨s'.s, (fun _ z => nomatch z), rfl, fun i d hi => ?_, fun i hi => ?_, s'.tabs tb, fun i a hi => ?_⟩
      · match i, hi with
        | 0, hi => cases hi
        | 1, hi => cases hi; exact ⟨_, rfl, .int _⟩
        | 2, hi => cases hi; exact ⟨_, rfl, .int _⟩
        | 3, hi => cases hi
        | 4, hi => cases hi
        | n + 5, hi => cases hi
      · match i, hi with
        | 0, hi => cases hi
        | 1, hi => cases hi
        | 2, hi => cases hi
        | 3, hi => cases hi
        | 4, hi => cases hi
        | n + 5, hi => cases hi
      · match i, hi with
        | 0, hi => cases hi
        | 1, hi => cases hi
        | 2, hi => cases hi
        | 3, hi => cases hi
        | 4, hi => cases hi
        | n + 5, hi => cases hi
    have tail : ∀ (b : Addr) (c : Int) (G' H' : Hp) (D : Ends), D.rt = Q → Step b false G H G' H' → (tSeq (tAsg (tOp (rI (fun _ j => 0 < j) fun i j => .int (i % j)) (tCB rInt1 (tCons (tCB rAbs (tCons (tVar 2) tNil)) tNil)) (tOp (rI CPowW fun i j => .int (i ^ j.toNat)) (tOp (rI CPowW fun i j => .int (i ^ j.toNat)) (tC (.int 10)) (tC (.int 45))) (tC (.int 13)))) (gName 3)) (tSeq (tAsg (tOp (rI0 fun i j => .int (i + j)) (tOp (rI0 fun i j => .int (i + j)) (tOp (rI0 fun i j => .int (i + j)) (tOp (rI CMul fun i j => .int (i * j)) (tOp (rI (fun _ j => 0 < j) fun i j => .int (i % j)) (tCB rInt1 (tCons (tVar 3) tNil)) (tC (.int 2305843009213693723))) (tC (.int 1000403))) (tOp (rI CMul fun i j => .int (i * j)) (tC (.int 9041)) (tVar 1))) (tOp (rI CMul fun i j => .int (i * j)) (tC (.int 47)) (tCB rInt1 (tCons (tOp (rI0 fun i j => .bl (decide (i < j))) (tVar 2) (tC (.int 0))) tNil)))) (tC (.int 31))) (gName 4))
        (tRet (tLst (tCons (tCB rMax2 (tCons (tC (.int 0)) (tCons (tOp (rI0 fun i j => .int (i - j)) (tVar 3) (tOp (rI CPowW fun i j => .int (i ^ j.toNat)) (tC (.int 10)) (tC (.int 18)))) tNil))) (tCons (tOp (rI (fun _ j => 0 < j) fun i j => .int (i % j)) (tCB rInt1 (tCons (tVar 4) tNil)) (tC (.int 2305843009213693951))) (tCons (tC (.int 0)) tNil))))))) D [some (.ref a), some (.int spot), some (.int c), none, none] H' := by
      intro b c G' H' D hD s'
      have hpp : (0 : Int) < (10 ^ (45 : Int).toNat) ^ (13 : Int).toNat := by decide
      have cp : CPowW (10 ^ (45 : Int).toNat) 13 := ⟨by decide, by decide⟩
      refine (st_asg (d_mod (d_intI (d_abs (d_var rfl))) (d_pow (d_pow d_int d_int ⟨by decide, by decide⟩) d_int cp) hpp)).run b G' H' _ _ (hb b c G' H' s') fun σ2 G2 H2 s2 E2 => ?_
      refine (st_asg (d_add (d_add (d_add (d_mul (d_mod (d_intI (d_var rfl)) d_int (by decide)) d_int (.inr (by decide))) (d_mul d_int (d_var rfl) (.inl (by decide)))) (d_mul d_int (d_intB (d_lt (d_var rfl) d_int)) (.inl (by decide)))) d_int)).run b G2 H2 _ _ E2 fun σ3 G3 H3 s3 E3 => ?_
      dsimp only [tRet]
      unfold tLst
      refine' EvA.run (as := imms (List.map PyData.int [if (TD.absI c % (10 ^ 45) ^ 13 - 10 ^ 18) > 0 then TD.absI c % (10 ^ 45) ^ 13 - 10 ^ 18 else 0, (((TD.absI c % (10 ^ 45) ^ 13) % 2305843009213693723 * 1000403 + 9041 * spot) + 47 * (if decide (c < 0) = true then 1 else 0) + 31) % 2305843009213693951, 0])) (β' := none) ?ea b G3 H3 σ3 _ E3 fun vs G4 H4 s4 k4 d4 => ?_
      case ea => exact a_con (β1 := none) (d_max2 (β1 := none) d_int (d_sub (β1 := none) (d_var rfl) (d_pow (β1 := none) d_int d_int ⟨by decide, by decide⟩))) (a_con (β1 := none) (d_mod (β1 := none) (d_intI (d_var rfl)) d_int (by show (0 : Int) < 2305843009213693951; decide)) (a_con (β1 := none) d_int a_nil))
      have s := ((s'.trans s2).trans s3).trans s4
      have dl := DenSs.imm (ds := List.map PyData.int [if (TD.absI c % (10 ^ 45) ^ 13 - 10 ^ 18) > 0 then TD.absI c % (10 ^ 45) ^ 13 - 10 ^ 18 else 0, (((TD.absI c % (10 ^ 45) ^ 13) % 2305843009213693723 * 1000403 + 9041 * spot) + 47 * (if decide (c < 0) = true then 1 else 0) + 31) % 2305843009213693951, 0]) d4
      have ev := dl.ints
      subst ev
      refine ⟨by show 3 ≤ sizeLine; decide, fun p hp => ?_⟩
      have gp : G4 p = none := fresh_back s.s hp
      have hp0 : Gone H p := fun o t z => by
        obtain ⟨o', _, z2⟩ := s.stay p o t z
        rw [hp] at z2
        cases z2
      have sm : ∀ xs : List V, Step p false G H G4 (upd H4 p (.lst xs)) := fun xs => by
        have sm : Step b false G H G4 (upd H4 p (.lst xs)) := s.mut hp0 gp (LstAt.none hp)
        exact ⟨sm.g, sm.s, sm.fresh, fun x o _ t h => sm.keep x o (fun z => nomatch z) t h, sm.stay, sm.tabs⟩
      rw [hD]
      exact k p G4 _ _ (sm _) gp upd_same (bag_ok h0)
    have hSH := ex_l e hS
    refine ⟨_, rfl, _, rfl, a, ns.map V.int, rfl, .inl hSH, spot, _, rfl, rfl, _, rfl, ?_⟩
    by_cases hlt : spot < ((ns.map V.int).length : Int)
    · dsimp only []
      rw [if_pos (decide_eq_true hlt)]
      obtain ⟨m, hm⟩ : ∃ m : Nat, spot = (m : Int) := ⟨spot.toNat, by omega⟩
      subst hm
      have hlt' : m < ns.length := by rw [List.length_map] at hlt; omega
      exact ⟨_, rfl, _, rfl, a, ns.map V.int, (m : Int), V.int ns[m], rfl, rfl, hSH, atI_nat (by rw [List.getElem?_map, List.getElem?_eq_getElem hlt']; rfl), tail 0 _ G H _ rfl (Step.refl e)⟩
    · dsimp only []
      rw [if_neg (by rw [decide_eq_false hlt]; decide)]
      refine ⟨_, rfl, 1, rfl, a, ns.map V.int, rfl, hSH, fun p hp => ?_⟩
      have n := Step.new (b := 0) (m := false) (o := .lst (cutV (ns.map V.int) none (some 1))) e hp
      have ec : cutV (ns.map V.int) none (some 1) = ((ns.drop (HT.sIx ns.length 0 none)).take (HT.sIx ns.length ns.length (some 1) - HT.sIx ns.length 0 none)).map V.int := by
        unfold cutV
        rw [List.map_take, List.map_drop, List.length_map]
      exact ⟨p, _, rfl, sq_of (by rw [upd_same, ec]), _, rfl, 127, spot, rfl, rfl, .inl (by decide), _, _, rfl, rfl, _, _, rfl, rfl, tail 0 _ _ _ _ rfl n⟩
end K73
set_option Elab.async false
set_option linter.all false
set_option maxRecDepth 100000
set_option maxHeartbeats 1100000
namespace K73
open PySem L2 TD PySem.Spec PyProof.Rows
open Evl (Ex ex_l ex_t fresh_back sq_of st_of sz_of sz_lt rMax2)
variable [TabW]
theorem two_web : WebOk [[2, 3], [1, 4]] := ⟨by decide, by decide, by decide, by decide⟩
theorem two_sort : sortX [[2, 3], [1, 4]] = [[1, 4], [2, 3]] := (sortX_uniq (ns := [[2, 3], [1, 4]]) (rs := [[1, 4], [2, 3]]) (List.Perm.swap _ _ _) (by decide +kernel)).symm
theorem two_text : strW (sortX [[2, 3], [1, 4]]) = ("web 1-4 2-3" : Str) := by
  rw [two_sort]
  decide +kernel
theorem reachF_one : reachF [[1, 2]] = [1, 2] := by
  have s1 : stepF [1] [1, 2] = [1, 2] := (show stepF [1] [1, 2] = ordI ([1] ++ [1, 2]) from if_pos (by decide)).trans (ordI_uniq (xs := [1] ++ [1, 2]) (ms := [1, 2]) (by decide) (fun k => by simp)).symm
  have s2 : stepF [1, 2] [1, 2] = [1, 2] := (show stepF [1, 2] [1, 2] = ordI ([1, 2] ++ [1, 2]) from if_pos (by decide)).trans (ordI_uniq (xs := [1, 2] ++ [1, 2]) (ms := [1, 2]) (by decide) (fun k => by simp; omega)).symm
  show stepF (stepF (stepF (stepF [1] [1, 2]) [1, 2]) [1, 2]) [1, 2] = [1, 2]
  rw [s1, s2, s2, s2]
theorem due_one : dueT [1, 2] = [[1, 2]] := by decide +kernel
theorem not_whole : decide ((reachF (dueT [1, 2])).length = 4) = false := by
  rw [due_one, reachF_one]
  rfl
abbrev s_law : Stmt := top 65
theorem sc_law : FnScope ["_law_script", "_law_spot"] ["_law_script"] (defScope s_law) := ⟨rfl, rfl, rfl, by decide +kernel, rfl, by decide +kernel, by decide +kernel⟩
abbrev R_law : PySem.W.Frag → Sp := spLaw
theorem ok_law {P : Program} {w : World} {K : PySem.W.Frag} {mg : Str → Option Value} {base : Heap}  (F : DefAt K "law" s_law) (hX : K.In base) (hG : base.Ns mainGlobals mg) {Y : Cn} (T : Txt K mg Y)  (G_law_right : FnH P w K mg base 11 "_law_right" ["_law_bag_here"] R_law_right) (G_Web_is_whole : FnP P w K mg base 2 Y.cl "is_whole" (R_Web_is_whole Y)) (G_law_bag : FnS P w K mg base 1 "_law_bag" ["_law_script", "_law_spot"] (R_law_bag K)) (G_Web_init : FnI P w K mg base 5 "Web" Y.cl ["self", "ties"] (R_Web_init Y)) (G_Web_full : FnCX P w K mg base 7 Y.cl "full" ["cls", "points"] (R_Web_full Y)) (G_Web_str : FnM P w K mg base 1 Y.cl "__str__" ["self"] (R_Web_str Y)) : FnSG P w K mg base 12 "law" ["_law_script"] (R_law K) := by
  have nd := sc_law.nd
  refine fnSG_mk F hX hG sc_law ?len (fun _ _ _ _ _ _ _ us hl => match us, hl with | [_], _ => rfl) (fun f cdv A outer s H E hr => ⟨_, (pss_cons (ps_for PassesOwn.never rfl (pi_range1 (by rfl) T.z_range (pa_cons (pe_callB (c_max2 rfl) (by rfl) T.z_max bo_max (pa_cons pe_int (pa_cons (pe_callB (c_min2 rfl) (by rfl) T.z_min bo_min (pa_cons pe_int (pa_cons (pe_callB (c_lenK (K := K)) (by rfl) T.z_len bo_len (pa_cons (pv 0) pa_nil)) pa_nil))) pa_nil))) pa_nil)) (pg_name (i := 1) nd rfl (Or.inl rfl)) (pss_one (ps_if (pt_not (pt_val (pe_fnH G_law_right (hr.mono (by decide)) (pa_cons (pe_fnS G_law_bag (hr.toRoom.mono (by decide)) (pa_cons (pv 0) (pa_cons (pv 1) pa_nil))) pa_nil)))) (pss_one (ps_ret pe_bl)) pss_nil))) (pss_one (ps_ret (pe_and (pe_cmpR op_eq (pe_callTy (c_strO G_Web_str (hr.toRoom.mono (by decide))) (by rfl) T.z_str bo_str (pa_cons (pe_new (E := E0) G_Web_init (hr.toRoom.mono (by decide)) passL (pa_cons (pe_tup (pa_cons (pe_tup (pa_cons pe_int (pa_cons pe_int pa_nil))) (pa_cons (pe_tup (pa_cons pe_int (pa_cons pe_int pa_nil))) pa_nil))) pa_nil)) pa_nil)) pe_str (nomark _)) (pe_one (pe_not (pe_p G_Web_is_whole (hr.toRoom.mono (by decide)) (pe_cmX (E := E0) G_Web_full (hr.toRoom.mono (by decide)) passL (pe_glob (v := .ref _) (by rfl) T.k_Web rfl) (pa_cons (pe_tup (pa_cons pe_int (pa_cons pe_int pa_nil))) pa_nil))))))))), fun vs H Q E hsp => ?run⟩)
  case len =>
    rintro vs H Q E ⟨a, ns, G, rfl, _⟩
    rfl
  case run =>
    obtain ⟨a, ns, G, rfl, eG, tbG, hS, hl, k⟩ := hsp
    refine ⟨_, rfl, a, ns.map V.int, rfl, .inl (ex_l eG hS), ?_⟩
    refine ⟨3, _, rfl, ?_⟩
    refine ⟨1, _, rfl, ?_⟩
    refine ⟨_, rfl, ?_, ?_, ?_⟩
    · split <;> split <;> omega
    · rw [List.length_map]; split <;> split <;> omega
    refine for_range (lo := 0) (n := _) (fun i σ' H' => ∃ G', Ex G' H' ∧ TabsOk G' H' ∧ σ'.length = 2 ∧ σ'[0]? = some (some (.ref a)) ∧ SqL K G' a (ns.map V.int)) ⟨G, eG, tbG, rfl, rfl, hS⟩ ?_ ?_
    · rintro i σ' H' hi ⟨G', e, tb, hl6, h0, hS'⟩
      have hi3 : i < 3 := by
        have : (if (if ((ns.map V.int).length : Int) < 3 then ((ns.map V.int).length : Int) else 3) > 1 then (if ((ns.map V.int).length : Int) < 3 then ((ns.map V.int).length : Int) else 3) else 1) ≤ (3 : Int) := by split <;> split <;> omega
        omega
      have q0 : (σ'.set 1 (some (V.int (0 + (i : Int)))))[0]? = some (some (.ref a)) := by rw [List.getElem?_set_ne (by decide)]; exact h0
      have q1 : (σ'.set 1 (some (V.int (0 + (i : Int)))))[1]? = some (some (.int (0 + (i : Int)))) := List.getElem?_set_self (by omega)
      refine ⟨_, q0, _, q1, a, ns, 0 + (i : Int), G', rfl, e, tb, hS', by omega, by omega, fun p G2 H2 bag s2 gp hp hbag => ?_⟩
      refine ⟨p, G2, some bag, [.bag], _, some _, s2.s, s2.tabs tb, fun ns z => by cases z; exact ⟨hp, gp⟩, .cons rfl .nil, ⟨(), _, bag, rfl, trivial, hbag, rfl, rfl, rfl⟩, rfl, fun v G3 H3 s3 k3 d3 => ?_⟩
      cases d3
      refine ⟨true, rfl, ?_⟩
      dsimp only
      rw [if_neg (by decide)]
      exact ⟨G3, s3.s, s3.tabs (s2.tabs tb), by rw [List.length_set]; exact hl6, q0, ex_l (s2.g.trans s3.g) hS'⟩
    · rintro σ' H' ⟨G', e, tb, hl6, h0, hS'⟩
      have E5 : EnvD K 0 none G' H' σ' [none, none] := by
        refine ⟨e, (fun _ z => nomatch z), hl6, fun j d hj => ?_, fun j hj => ?_, tb, fun j a hj => ?_⟩
        · match j, hj with
          | 0, hj => cases hj
          | 1, hj => cases hj
          | n + 2, hj => cases hj
        · match j, hj with
          | 0, hj => cases hj
          | 1, hj => cases hj
          | n + 2, hj => cases hj
        · match j, hj with
          | 0, hj => cases hj
          | 1, hj => cases hj
          | n + 2, hj => cases hj
      dsimp only []
      refine StB.run (o := .ret (.bool true)) (β' := none) ?st 0 G' H' σ' _ E5 fun v G2 H2 s2 k2 d2 => ?_
      case st =>
        have hw := two_web
        have p2 : ∀ {ρ : Rho} (a b : Int), EvB K (tTup (tCons (tC (.int a)) (tCons (tC (.int b)) tNil))) ρ none (tupJ [a, b]) none := fun a b => d_tup (ds := [.int a, .int b]) (a_lit d_int (a_lit d_int a_nil)) rfl (show 2 ≤ 100000 by decide)
        exact st_ret (d_andT ((d_eqS (d_strO (t := strW (sortX [[2, 3], [1, 4]])) (x_new (ps := webF (sortX [[2, 3], [1, 4]])) (a_lit (d_tup (ds := [tupJ [2, 3], tupJ [1, 4]]) (a_lit (p2 2 3) (a_lit (p2 1 4) a_nil)) rfl (show 2 ≤ 100000 by decide)) a_nil) ⟨_, rfl, .inr ⟨[[2, 3], [1, 4]], rfl, hw, rfl⟩, rfl, rfl⟩) ⟨_, rfl, hw.sort, rfl, rfl, rfl⟩) d_str).to (congrArg PyData.bool (decide_eq_true two_text))) (d_not ((d_prop (r := .bool (decide ((reachF (dueT [1, 2])).length = 4))) (x_cm (r := webD Y.cl (sortX (dueT [1, 2]))) (a_con (p2 1 2) a_nil) ⟨_, rfl, .inr ⟨[.int 1, .int 2], rfl, by decide, .inr ⟨dueT [1, 2], (subs_full [1, 2] (by decide)).2.1, (subs_full [1, 2] (by decide)).2.2, rfl⟩⟩, rfl, rfl⟩) ⟨_, rfl, by rw [due_up]; exact (subs_full [1, 2] (by decide)).2.2.tie, by rw [due_up], rfl, rfl⟩).to (congrArg PyData.bool not_whole))))
      · cases d2
        exact k H2
end K73
set_option Elab.async false
set_option linter.all false
set_option maxRecDepth 100000
set_option maxHeartbeats 3000000
namespace TD
open PySem L2 PySem.Spec PyProof.Rows
end TD
set_option Elab.async false
set_option linter.all false
set_option maxRecDepth 100000
set_option maxHeartbeats 5000000
namespace K73
open PySem L2 TD PySem.Spec PyProof.Rows
theorem tb_1 [TabW] {base : Heap} {mg : Str → Option Value} {Y : Cn} (h : LamX.TabB base mg Y.c1 Y.P1) (n12 : Y.P1 ≠ Y.P2) : TbAt base mg Y Y.c1 q1 := by
  refine tb_at h (by rw [qE1]; exact List.mem_cons_self ..) fun p hp e => ?_
  rw [qE1]
  simp only [Cn.T, List.mem_cons, List.not_mem_nil, or_false] at hp
  rcases hp with rfl | rfl
  · rfl
  · exact absurd e.symm n12
theorem tb_2 [TabW] {base : Heap} {mg : Str → Option Value} {Y : Cn} (h : LamX.TabB base mg Y.c2 Y.P2) (n12 : Y.P1 ≠ Y.P2) : TbAt base mg Y Y.c2 q2 := by
  refine tb_at h (by rw [qE2]; exact List.mem_cons_of_mem _ (List.mem_cons_self ..)) fun p hp e => ?_
  rw [qE2]
  simp only [Cn.T, List.mem_cons, List.not_mem_nil, or_false] at hp
  rcases hp with rfl | rfl
  · exact absurd e n12
  · rfl
theorem ve_ArithmeticError : ∀ o : Value, refuseLoop o "__setattr__" [.type "ArithmeticError", .type "Exception", .type "BaseException", .type "object"] = pure () := fun o => by rfl
structure DefsAt (K : PySem.W.Frag) (cl c1 c2 : Addr) : Prop where
  d_is_integer : DefAt K "is_integer" s_is_integer
  d_need_web : DefAt K "need_web" s_need_web
  d_reached_from_first : DefAt K "reached_from_first" s_reached_from_first
  d_law_bag : DefAt K "_law_bag" s_law_bag
  d_law_grab : DefAt K "_law_grab" s_law_grab
  d_law_all_ties : DefAt K "_law_all_ties" s_law_all_ties
  d_law_is_whole : DefAt K "_law_is_whole" s_law_is_whole
  d_law_word : DefAt K "_law_word" s_law_word
  d_Web_ties : PropAt K cl "ties" "Web.ties" s_Web_ties
  d_Web_len : MethAt K cl "__len__" "Web.__len__" s_Web_len
  d_Web_iter : MethAt K cl "__iter__" "Web.__iter__" s_Web_iter
  d_Web_eq : MethAt K cl "__eq__" "Web.__eq__" s_Web_eq
  d_Web_str : MethAt K cl "__str__" "Web.__str__" s_Web_str
  d_is_prime : DefAt K "is_prime" s_is_prime
  d_fits : DefAt K "fits" s_fits
  d_law_one_of : DefAt K "_law_one_of" s_law_one_of
  d_law_mixed : DefAt K "_law_mixed" s_law_mixed
  d_Web_is_whole : PropAt K cl "is_whole" "Web.is_whole" s_Web_is_whole
  d_need_prime : DefAt K "need_prime" s_need_prime
  d_all_fit : DefAt K "all_fit" s_all_fit
  d_open_ring : DefAt K "open_ring" s_open_ring
  d_order_of_points : DefAt K "order_of_points" s_order_of_points
  d_is_order_of_points : DefAt K "is_order_of_points" s_is_order_of_points
  d_web_degrees : DefAt K "web_degrees" s_web_degrees
  d_is_tie : DefAt K "is_tie" s_is_tie
  d_are_all_points : DefAt K "are_all_points" s_are_all_points
  d_Web_lot_over : MethAt K cl "lot_over" "Web.lot_over" s_Web_lot_over
  d_choices : DefAt K "choices" s_choices
  d_Web_init : InitAt K "Web" cl "Web.__init__" s_Web_init
  d_Web_contains : MethAt K cl "__contains__" "Web.__contains__" s_Web_contains
  d_Web_full : CmAt K cl "full" "Web.full" s_Web_full
  d_Web_with_tie : MethAt K cl "with_tie" "Web.with_tie" s_Web_with_tie
  d_Web_without_tie : MethAt K cl "without_tie" "Web.without_tie" s_Web_without_tie
  d_Web_renamed : MethAt K cl "renamed" "Web.renamed" s_Web_renamed
  d_law_value_right : DefAt K "_law_value_right" s_law_value_right
  d_law_changes_right : DefAtC K "_law_changes_right" s_law_changes_right c1
  d_law_refused : DefAtC K "_law_refused" s_law_refused c2
  d_law_right : DefAt K "_law_right" s_law_right
  d_law : DefAt K "law" s_law
theorem all_mk [iT : TabW] {l : PySem.W.OpenLaw} {w : World} {K : PySem.W.Frag} {h : Heap} {mg : Str → Option Value} {fa aP aT aO cN cV cO cR cl c1 P1 c2 P2 : Addr} {tg : Tok} (X : K.In h) (G : h.Ns mainGlobals mg) (hfa : mg "law" = some (.ref fa)) (I_cl : InsK K cl) (D : DefsAt K cl c1 c2)
    (z_abs : PySem.W.nsIn K mainGlobals "abs" = some none)
    (z_all : PySem.W.nsIn K mainGlobals "all" = some none)
    (z_any : PySem.W.nsIn K mainGlobals "any" = some none)
    (z_bool : PySem.W.nsIn K mainGlobals "bool" = some none)
    (z_enumerate : PySem.W.nsIn K mainGlobals "enumerate" = some none)
    (z_int : PySem.W.nsIn K mainGlobals "int" = some none)
    (z_isinstance : PySem.W.nsIn K mainGlobals "isinstance" = some none)
    (z_iter : PySem.W.nsIn K mainGlobals "iter" = some none)
    (z_len : PySem.W.nsIn K mainGlobals "len" = some none)
    (z_list : PySem.W.nsIn K mainGlobals "list" = some none)
    (z_max : PySem.W.nsIn K mainGlobals "max" = some none)
    (z_min : PySem.W.nsIn K mainGlobals "min" = some none)
    (z_range : PySem.W.nsIn K mainGlobals "range" = some none)
    (z_repr : PySem.W.nsIn K mainGlobals "repr" = some none)
    (z_set : PySem.W.nsIn K mainGlobals "set" = some none)
    (z_sorted : PySem.W.nsIn K mainGlobals "sorted" = some none)
    (z_str : PySem.W.nsIn K mainGlobals "str" = some none)
    (z_sum : PySem.W.nsIn K mainGlobals "sum" = some none)
    (z_tuple : PySem.W.nsIn K mainGlobals "tuple" = some none)
    (z_zip : PySem.W.nsIn K mainGlobals "zip" = some none)
    (m_gcd : PySem.W.nsIn K mainGlobals "gcd" = some (some (.builtin "math.gcd")))
    (o_InvalidNumber : OwnC K mg "InvalidNumber" "given" cN)
    (o_Refused : OwnC K mg "Refused" "reason" cR)
    (b_InvalidWeb : BareC K mg "InvalidWeb" cV)
    (b_InvalidOperation : BareC K mg "InvalidOperation" cO)
    (eVV : PySem.W.exmOne K (.ref cV) (.ref cV) = some true)
    (eOV : PySem.W.exmOne K (.ref cO) (.ref cV) = some false)
    (eOO : PySem.W.exmOne K (.ref cO) (.ref cO) = some true)
    (eNV : PySem.W.exmOne K (.ref cN) (.ref cV) = some false)
    (eNO : PySem.W.exmOne K (.ref cN) (.ref cO) = some false)
    (eNN : PySem.W.exmOne K (.ref cN) (.ref cN) = some true)
    (eRV : PySem.W.exmOne K (.ref cR) (.ref cV) = some false)
    (eRO : PySem.W.exmOne K (.ref cR) (.ref cO) = some false)
    (eRN : PySem.W.exmOne K (.ref cR) (.ref cN) = some false)
    (eRR : PySem.W.exmOne K (.ref cR) (.ref cR) = some true)
    (k_Web : PySem.W.nsIn K mainGlobals "Web" = some (some (.ref cl)))
    (nx : PySem.W.findIn K (.ref cl) "__ne__" = some (some (.builtin "object.__ne__")))
    (rT : PySem.W.notFirst K cl (.type "tuple") = true)
    (rN : PySem.W.notFirst K cl (.type "NoneType") = true)
    (kT : PySem.W.kitOne K (.type "tuple") (.ref cl) = some false)
    (kL : PySem.W.kitOne K (.type "list") (.ref cl) = some false)
    (kS : PySem.W.kitOne K (.type "str") (.ref cl) = some false)
    (kI : PySem.W.kitOne K (.type "int") (.ref cl) = some false)
    (kN : PySem.W.kitOne K (.type "NoneType") (.ref cl) = some false)
    (m_ties : PySem.W.findIn K (.ref cl) "_ties" = some none)
    (n12 : P1 ≠ P2)
    (c_TOO_GREAT : PySem.W.nsIn K mainGlobals "TOO_GREAT" = some (some (.int 1000000000000000000000000000000000000000000000000000000000000 tg)))
    (c_PRIMES : PySem.W.nsIn K mainGlobals "PRIMES" = some (some (.ref aP)))
    (q_PRIMES : ∀ H, SqT K H aP (Num.primes.map V.int))
    (c_TIES : PySem.W.nsIn K mainGlobals "TIES" = some (some (.ref aT)))
    (q_TIES : KTups K aT tiesL)
    (c_POINTS : PySem.W.nsIn K mainGlobals "POINTS" = some (some (.ref aO)))
    (q_POINTS : ∀ H, SqT K H aO (([1, 2, 3, 4] : List Int).map V.int))
    (hw : ∀ Q q, TabW.w Q q ↔ (Q, q) ∈ (⟨tg, aP, aT, aO, cN, cV, cO, cR, cl, c1, P1, c2, P2⟩ : Cn).T) :
    ∃ fd : FuncData, (∀ (s : Shared) (v : Value), BindsTo s fd ⟨[v], []⟩ [("_law_script", v)]) ∧ ∀ base : Heap, K.In base → base.Ns mainGlobals mg → (∀ p ∈ [(c1, P1), (c2, P2)], LamX.TabB base mg p.1 p.2) → FnOkG l.prog w K mg base CX0 12 fa fd ["_law_script"] (spLaw K) := by
  have T : Txt K mg ⟨tg, aP, aT, aO, cN, cV, cO, cR, cl, c1, P1, c2, P2⟩ := {
    z_abs := PySem.W.mg_none_of X G z_abs
    z_all := PySem.W.mg_none_of X G z_all
    z_any := PySem.W.mg_none_of X G z_any
    z_bool := PySem.W.mg_none_of X G z_bool
    z_enumerate := PySem.W.mg_none_of X G z_enumerate
    z_int := PySem.W.mg_none_of X G z_int
    z_isinstance := PySem.W.mg_none_of X G z_isinstance
    z_iter := PySem.W.mg_none_of X G z_iter
    z_len := PySem.W.mg_none_of X G z_len
    z_list := PySem.W.mg_none_of X G z_list
    z_max := PySem.W.mg_none_of X G z_max
    z_min := PySem.W.mg_none_of X G z_min
    z_range := PySem.W.mg_none_of X G z_range
    z_repr := PySem.W.mg_none_of X G z_repr
    z_set := PySem.W.mg_none_of X G z_set
    z_sorted := PySem.W.mg_none_of X G z_sorted
    z_str := PySem.W.mg_none_of X G z_str
    z_sum := PySem.W.mg_none_of X G z_sum
    z_tuple := PySem.W.mg_none_of X G z_tuple
    z_zip := PySem.W.mg_none_of X G z_zip
    m_gcd := PySem.W.mg_of X G m_gcd
    o_InvalidNumber := o_InvalidNumber
    o_Refused := o_Refused
    b_InvalidWeb := b_InvalidWeb
    b_InvalidOperation := b_InvalidOperation
    eVV := eVV
    eOV := eOV
    eOO := eOO
    eNV := eNV
    eNO := eNO
    eNN := eNN
    eRV := eRV
    eRO := eRO
    eRN := eRN
    eRR := eRR
    ins := I_cl
    k_Web := PySem.W.mg_of X G k_Web
    iself := I_cl.ic.me
    nx := nx
    rT := rT
    rN := rN
    kT := kT
    kL := kL
    kS := kS
    kI := kI
    kN := kN
    m_ties := m_ties
    n12 := n12
    tabw := hw
    c_TOO_GREAT := PySem.W.mg_of X G c_TOO_GREAT
    c_PRIMES := PySem.W.mg_of X G c_PRIMES
    q_PRIMES := q_PRIMES
    c_TIES := PySem.W.mg_of X G c_TIES
    q_TIES := q_TIES
    c_POINTS := PySem.W.mg_of X G c_POINTS
    q_POINTS := q_POINTS }
  have all : ∀ base : Heap, K.In base → base.Ns mainGlobals mg → (∀ p ∈ [(c1, P1), (c2, P2)], LamX.TabB base mg p.1 p.2) → FnSG l.prog w K mg base 12 "law" ["_law_script"] (spLaw K) := by
    intro base hX hG hTB
    have TB1 := tb_1 (Y := ⟨tg, aP, aT, aO, cN, cV, cO, cR, cl, c1, P1, c2, P2⟩) (hTB (c1, P1) (by simp)) n12
    have TB2 := tb_2 (Y := ⟨tg, aP, aT, aO, cN, cV, cO, cR, cl, c1, P1, c2, P2⟩) (hTB (c2, P2) (by simp)) n12
    have WA : WordAt K mg "_law_word" s_law_word := wordAt_of D.d_law_word hX hG
    have G_is_integer := ok_is_integer (P := l.prog) (w := w) D.d_is_integer hX hG T 
    have G_need_web := ok_need_web (P := l.prog) (w := w) D.d_need_web hX hG T 
    have G_reached_from_first := ok_reached_from_first (P := l.prog) (w := w) D.d_reached_from_first hX hG T 
    have G_law_bag := ok_law_bag (P := l.prog) (w := w) D.d_law_bag hX hG T 
    have G_law_grab := ok_law_grab (P := l.prog) (w := w) D.d_law_grab hX hG T 
    have G_law_all_ties := ok_law_all_ties (P := l.prog) (w := w) D.d_law_all_ties hX hG T 
    have G_law_is_whole := ok_law_is_whole (P := l.prog) (w := w) D.d_law_is_whole hX hG T 
    have G_Web_ties := ok_Web_ties (P := l.prog) (w := w) D.d_Web_ties hX hG T 
    have G_Web_len := ok_Web_len (P := l.prog) (w := w) D.d_Web_len hX hG T 
    have G_Web_iter := ok_Web_iter (P := l.prog) (w := w) D.d_Web_iter hX hG T 
    have G_Web_eq := ok_Web_eq (P := l.prog) (w := w) D.d_Web_eq hX hG T 
    have G_Web_str := ok_Web_str (P := l.prog) (w := w) D.d_Web_str hX hG T 
    have G_is_prime := ok_is_prime (P := l.prog) (w := w) D.d_is_prime hX hG T (G_is_integer := G_is_integer)
    have G_fits := ok_fits (P := l.prog) (w := w) D.d_fits hX hG T (G_is_integer := G_is_integer)
    have G_law_one_of := ok_law_one_of (P := l.prog) (w := w) D.d_law_one_of hX hG T (G_law_grab := G_law_grab)
    have G_law_mixed := ok_law_mixed (P := l.prog) (w := w) D.d_law_mixed hX hG T (G_law_grab := G_law_grab)
    have G_Web_is_whole := ok_Web_is_whole (P := l.prog) (w := w) D.d_Web_is_whole hX hG T (G_reached_from_first := G_reached_from_first)
    have G_need_prime := ok_need_prime (P := l.prog) (w := w) D.d_need_prime hX hG T (G_is_prime := G_is_prime)
    have G_all_fit := ok_all_fit (P := l.prog) (w := w) D.d_all_fit hX hG T (G_fits := G_fits)
    have G_open_ring := ok_open_ring (P := l.prog) (w := w) D.d_open_ring hX hG T (G_need_web := G_need_web)
    have G_order_of_points := ok_order_of_points (P := l.prog) (w := w) D.d_order_of_points hX hG T (G_need_web := G_need_web)
    have G_is_order_of_points := ok_is_order_of_points (P := l.prog) (w := w) D.d_is_order_of_points hX hG T (G_need_web := G_need_web)
    have G_web_degrees := ok_web_degrees (P := l.prog) (w := w) D.d_web_degrees hX hG T (G_need_web := G_need_web)
    have G_is_tie := ok_is_tie (P := l.prog) (w := w) D.d_is_tie hX hG T (G_all_fit := G_all_fit)
    have G_are_all_points := ok_are_all_points (P := l.prog) (w := w) D.d_are_all_points hX hG T (G_all_fit := G_all_fit)
    have G_Web_lot_over := ok_Web_lot_over (P := l.prog) (w := w) D.d_Web_lot_over hX hG T (G_need_prime := G_need_prime)
    have G_choices := ch_all (P := l.prog) (w := w) D.d_choices hX hG T 3
    have G_Web_init := ok_Web_init (P := l.prog) (w := w) D.d_Web_init hX hG T (G_is_tie := G_is_tie)
    have G_Web_contains := ok_Web_contains (P := l.prog) (w := w) D.d_Web_contains hX hG T (G_is_tie := G_is_tie)
    have G_Web_full := ok_Web_full (P := l.prog) (w := w) D.d_Web_full hX hG T (G_Web_init := G_Web_init) (G_choices := G_choices)
    have G_Web_with_tie := ok_Web_with_tie (P := l.prog) (w := w) D.d_Web_with_tie hX hG T (G_Web_init := G_Web_init) (G_is_tie := G_is_tie)
    have G_Web_without_tie := ok_Web_without_tie (P := l.prog) (w := w) D.d_Web_without_tie hX hG T (G_Web_init := G_Web_init) (G_is_tie := G_is_tie)
    have G_Web_renamed := ok_Web_renamed (P := l.prog) (w := w) D.d_Web_renamed hX hG T (G_are_all_points := G_are_all_points)
    have G_law_value_right := ok_law_value_right (P := l.prog) (w := w) D.d_law_value_right hX hG T (G_law_one_of := G_law_one_of) (G_Web_ties := G_Web_ties) (G_Web_is_whole := G_Web_is_whole) (G_law_is_whole := G_law_is_whole) (G_Web_init := G_Web_init) (G_law_all_ties := G_law_all_ties) (G_Web_contains := G_Web_contains) (G_Web_len := G_Web_len) (G_Web_iter := G_Web_iter) (G_Web_eq := G_Web_eq) (G_Web_str := G_Web_str)
    have G_law_changes_right := ok_law_changes_right (P := l.prog) (w := w) D.d_law_changes_right hX hG T WA TB1 (G_law_all_ties := G_law_all_ties) (G_Web_ties := G_Web_ties) (G_Web_without_tie := G_Web_without_tie) (G_Web_with_tie := G_Web_with_tie)
    have G_law_refused := ok_law_refused (P := l.prog) (w := w) D.d_law_refused hX hG T WA TB2 (G_law_one_of := G_law_one_of) (G_Web_ties := G_Web_ties) (G_Web_init := G_Web_init) (G_is_order_of_points := G_is_order_of_points) (G_Web_full := G_Web_full) (G_Web_with_tie := G_Web_with_tie) (G_Web_without_tie := G_Web_without_tie) (G_Web_renamed := G_Web_renamed) (G_Web_lot_over := G_Web_lot_over) (G_order_of_points := G_order_of_points) (G_web_degrees := G_web_degrees) (G_open_ring := G_open_ring)
    have G_law_right := ok_law_right (P := l.prog) (w := w) D.d_law_right hX hG T (G_Web_init := G_Web_init) (G_law_refused := G_law_refused) (G_law_mixed := G_law_mixed) (G_law_value_right := G_law_value_right) (G_law_changes_right := G_law_changes_right) (G_law_all_ties := G_law_all_ties) (G_Web_ties := G_Web_ties) (G_law_grab := G_law_grab) (G_Web_full := G_Web_full)
    have G_law := ok_law (P := l.prog) (w := w) D.d_law hX hG T (G_law_right := G_law_right) (G_Web_is_whole := G_Web_is_whole) (G_law_bag := G_law_bag) (G_Web_init := G_Web_init) (G_Web_full := G_Web_full) (G_Web_str := G_Web_str)
    exact G_law
  obtain ⟨f, fd, ha, hF⟩ := D.d_law.ex
  have e := hfa.symm.trans (PySem.W.mg_of X G ha)
  cases e
  obtain ⟨oc, od, kV, doc, pm, an, cdv, ct, osl, efd, hlk, _⟩ := hF.ex
  refine ⟨fd, fun s v => ?_, fun base hX hG hTB => ?_⟩
  · subst efd
    exact .of_eq rfl
  · obtain ⟨f', fd', hm', hok, oc', od', osl', hlk'⟩ := (all base hX hG hTB).ex
    have e := hfa.symm.trans hm'
    cases e
    rw [hlk] at hlk'
    cases hlk'
    exact hok
end K73
set_option Elab.async false
set_option linter.all false
set_option maxRecDepth 100000
set_option maxHeartbeats 4100500
namespace TD
open PySem L2 PySem.Spec PyProof.Rows
open Evl (Ex ex_l ex_t fresh_back sq_of st_of sz_of sz_lt)
end TD
set_option Elab.async false
set_option linter.all false
set_option maxRecDepth 100000
set_option maxHeartbeats 4100000
namespace TD
open PySem L2 PySem.Spec PyProof.Rows
open Evl (Ex ex_l ex_t fresh_back sq_of st_of sz_of sz_lt)
mutual
/-- no object within -/
def noO : Dt → Bool
  | .list ds => noOL ds
  | .tuple ds => noOL ds
  | .dict ps => noOP ps
  | _ => true
def noOL : List Dt → Bool
  | [] => true
  | d :: ds => noO d && noOL ds
def noOP : List (Dt × Dt) → Bool
  | [] => true
  | (.none, .int _) :: _ => false
  | (_, d) :: ps => noO d && noOP ps
end
section
variable {K : PySem.W.Frag} {G Gd : Hp} {x C dx : Addr} {fs : List (Str × V)}
theorem ne_at {a : Addr} {o : HO} (hx : G x = some (.ins C dx fs)) (h : G a = some o) (ho : ∀ C dx fs, o ≠ .ins C dx fs) : a ≠ x := fun z => by
  rw [z, hx] at h
  exact ho _ _ _ (Option.some.inj h).symm
theorem rd_off {a : Addr} {u : HO} (hx : G x = some (.ins C dx fs)) (hd : ∀ y, y ≠ x → Gd y = G y) (hu : ∀ C dx fs, u ≠ .ins C dx fs) (h : Rd G a u) : Rd Gd a u := by
  rcases h with h | ⟨o, h⟩
  · exact .inl (by rw [hd _ (ne_at hx h hu)]; exact h)
  · exact .inr ⟨o, by rw [hd _ (ne_at hx h (fun _ _ _ z => nomatch z))]; exact h⟩
theorem noO_pair {k d : Dt} {ps : List (Dt × Dt)} (h : noOP ((k, d) :: ps) = true) : noO d = true ∧ noOP ps = true := by
  unfold noOP at h
  split at h
  · rename_i e
    cases e
  · cases h
  · rename_i e
    cases e
    exact Bool.and_eq_true_iff.mp h
mutual
theorem Den.noO (hx : G x = some (.ins C dx fs)) (hd : ∀ y, y ≠ x → Gd y = G y) : ∀ {d : Dt} {v : V}, Den K G v d → noO d = true → Den K Gd v d
  | .none, _, h, _ => by cases h; exact .non
  | .bool b, _, h, _ => by cases h; exact .bl b
  | .int i, _, h, _ => by cases h; exact .int i
  | .str s, _, h, _ => by cases h; exact .str s
  | .list ds, _, h, n => by
    unfold TD.noO at n
    cases h with
    | lst hs hl => exact .lst (by rw [hd _ (ne_at hx hs (fun _ _ _ z => nomatch z))]; exact hs) (DenL.noO hx hd hl n)
  | .tuple ds, _, h, n => by
    unfold TD.noO at n
    cases h with
    | tup hs hl => exact .tup (by rw [hd _ (ne_at hx hs (fun _ _ _ z => nomatch z))]; exact hs) (DenL.noO hx hd hl n)
  | .dict kvs, _, h, n => by
    unfold TD.noO at n
    cases h with
    | dct hs => exact .dct (rd_off hx hd (fun _ _ _ z => nomatch z) hs)
    | dcE hs ht =>
      refine .dcE (by rw [hd _ (ne_at hx hs (fun _ _ _ z => nomatch z))]; exact hs) ?_
      rcases ht with (h | ⟨o, h⟩) | h
      · exact .inl (.inl (by rw [hd _ (ne_at hx h (fun _ _ _ z => nomatch z))]; exact h))
      · exact .inl (.inr ⟨o, by rw [hd _ (ne_at hx h (fun _ _ _ z => nomatch z))]; exact h⟩)
      · exact .inr h
    | dcI hs hp => exact .dcI (rd_off hx hd (fun _ _ _ z => nomatch z) hs) (DenP.noO hx hd hp (noO_pair n).2)
    | dcT hs hp =>
      exact .dcT (rd_off hx hd (fun _ _ _ z => nomatch z) hs) (DenT.noO hx hd hp (noO_pair n).2)
    | ins hc hs hp =>
      unfold noOP at n
      cases n
theorem DenT.noO (hx : G x = some (.ins C dx fs)) (hd : ∀ y, y ≠ x → Gd y = G y) : ∀ {ps : List (Dt × Dt)} {kvs : List (List Key × V)}, DenT K G kvs ps → noOP ps = true → DenT K Gd kvs ps
  | [], _, h, _ => by cases h; exact .nil
  | q :: ps, _, h, n => by
    cases h with
    | cons h1 h2 => exact .cons (Den.noO hx hd h1 (noO_pair n).1) (DenT.noO hx hd h2 (noO_pair n).2)
theorem DenP.noO (hx : G x = some (.ins C dx fs)) (hd : ∀ y, y ≠ x → Gd y = G y) : ∀ {ps : List (Dt × Dt)} {kvs : List (Int × V)}, DenP K G kvs ps → noOP ps = true → DenP K Gd kvs ps
  | [], _, h, _ => by cases h; exact .nil
  | q :: ps, _, h, n => by
    cases h with
    | cons h1 h2 => exact .cons (Den.noO hx hd h1 (noO_pair n).1) (DenP.noO hx hd h2 (noO_pair n).2)
theorem DenL.noO (hx : G x = some (.ins C dx fs)) (hd : ∀ y, y ≠ x → Gd y = G y) : ∀ {ds : List Dt} {vs : List V}, DenL K G vs ds → noOL ds = true → DenL K Gd vs ds
  | [], _, h, _ => by cases h; exact .nil
  | d :: ds, _, h, n => by
    unfold noOL at n
    rw [Bool.and_eq_true] at n
    cases h with
    | cons h1 h2 => exact .cons (Den.noO hx hd h1 n.1) (DenL.noO hx hd h2 n.2)
end
theorem DenF.noO (hx : G x = some (.ins C dx fs)) (hd : ∀ y, y ≠ x → Gd y = G y) : ∀ {ps : List (Dt × Dt)} {gs : List (Str × V)}, DenF K G gs ps → noOP ps = true → DenF K Gd gs ps
  | [], _, h, _ => by cases h; exact .nil
  | q :: ps, _, h, n => by
    cases h with
    | cons h1 h2 => exact .cons (Den.noO hx hd h1 (noO_pair n).1) (DenF.noO hx hd h2 (noO_pair n).2)
end
end TD
set_option Elab.async false
set_option linter.all false
set_option maxRecDepth 100000
set_option maxHeartbeats 4100000
namespace TD
open PySem L2 PySem.Spec PyProof.Rows
open Evl (Ex ex_l ex_t fresh_back sq_of st_of sz_of sz_lt)
section
variable [TabW] {K : PySem.W.Frag} {b : Addr} {ρ ρ1 : Rho} {β β1 β2 : Bag} {t : TA} {d x : Dt} {C : Addr} {ps : List (Dt × Dt)} {as : List Slot} {E : XK} {G H G0 H0 G1 H1 G2 H2 : Hp} {σ : L2.St} {p : Addr}
theorem own_made {m : Bool} {Q : VK} (E1 : EnvD K b β1 G1 H1 σ ρ) (hm : β1.isSome = m) {q dx : Addr} (hx : H1 q = none) (hn : noOP ps = true) (s2 : Step b false G1 H1 G2 H2) (d2 : Den K G2 (.ref q) (oD C ps))
    (k : ∀ p u G3 H3 Hb, Step b m G1 H1 G3 Hb → Gone Hb p → Step b m G3 Hb G3 H3 → BagOk b β1 G3 H3 → G3 p = none → (β1.isSome = true → p ≠ b) → H3 p = some u → Held K G3 u (oD C ps) → Q (.ref p) H3) : Q (.ref q) H2 := by
  obtain ⟨a, dx', fs, e, hc, hs, hp⟩ := den_oD d2
  obtain rfl : q = a := V.ref.inj e
  have k1 := E1.bagk
  have gx : G1 q = none := fresh_back E1.sub hx
  obtain ⟨Gd, hGd⟩ : ∃ Gd : Hp, Gd = fun y => if y = q then none else G2 y := ⟨_, rfl⟩
  have g1 : Gd q = none := by rw [hGd]; exact if_pos rfl
  have g2 : ∀ y, y ≠ q → Gd y = G2 y := fun y hy => by rw [hGd]; exact if_neg hy
  have s3 : Step b m G1 H1 Gd H2 := by
    refine ⟨fun y u h => ?_, fun y u h => ?_, fun y o h t h2 => ?_, fun y o n t h => s2.keep y o (fun z => nomatch z) t h, s2.stay, fun t => ⟨(s2.tabs t).tab, fun y ps z => ?_⟩⟩
    · have hy : y ≠ q := fun z => by rw [z, gx] at h; cases h
      rw [g2 y hy]
      exact s2.g _ _ h
    · by_cases hy : y = q
      · rw [hy, g1] at h; cases h
      · rw [g2 y hy] at h
        exact s2.s _ _ h
    · have hy : y ≠ q := fun z => by rw [z, hx] at h2; cases h2
      rw [g2 y hy]
      exact s2.fresh y o h t h2
    · by_cases hy : y = q
      · rw [hy, g1] at z; cases z
      · rw [g2 y hy] at z
        exact (s2.tabs t).free y ps z
  have kb : BagOk b β1 Gd H2 := by
    have k3 := k1.same s2
    intro ns e
    obtain ⟨q1, q2⟩ := k3 ns e
    refine ⟨q1, ?_⟩
    by_cases hy : b = q
    · rw [hy]; exact g1
    · rw [g2 b hy]; exact q2
  have nb : β1.isSome = true → q ≠ b := fun z r => by
    obtain ⟨ns, e2⟩ := Option.isSome_iff_exists.mp z
    have := (k1 ns e2).1
    rw [← r, hx] at this
    cases this
  have hh : Held K Gd (.ins C dx' fs) (oD C ps) := .ins hc (hp.noO hs g2 hn)
  have w : OwnW K b β1 0 q Gd H2 [some (.ref q)] [none] (oD C ps) := ⟨⟨s3.s, kb, rfl, (fun i d z => by cases i <;> simp at z), (fun i z => by cases i <;> simp at z), s3.tabs E1.tabs, fun i a z => by cases i <;> simp at z⟩, rfl, rfl, g1, nb, _, s2.s _ _ hs, hh⟩
  subst hm
  obtain ⟨Hb, gb, sb, sc⟩ := w.base (Gone.none hx) s3
  exact k q _ Gd H2 Hb sb gb sc kb g1 nb (s2.s _ _ hs) hh
end
end TD
set_option Elab.async false
set_option linter.all false
set_option maxRecDepth 100000
set_option maxHeartbeats 4100000
namespace TD
open PySem L2 StX PySem.Spec PyProof.Rows
open Evl (Ex ex_l ex_t fresh_back sq_of st_of sz_of sz_lt)
end TD
set_option Elab.async false
set_option linter.all false
set_option maxRecDepth 100000
set_option maxHeartbeats 3000000
namespace TD
open PySem L2 PySem.Spec PyProof.Rows
namespace Hk
/-- looks that go together: facts, and defs told by the library's DefA -/
structure Ck where
  fa : List (PySem.W.Frag → Bool)
  fn : List He5.DefA
abbrev Al : Type := Bool × He.AlD
def Ck.obs (c : Ck) (K : PySem.W.Frag) : Al := (c.fa.all fun f => f K, He5.obsA [] c.fn K)
def Ck.val (c : Ck) : Al := (true, He5.valA c.fn)
abbrev Ok (c : Ck) (K : PySem.W.Frag) : Prop := c.obs K = c.val
def hookC (as ts : List Addr) (cs : List Ck) : PySem.W.Hook where
  α := List Al × List (Option Obj)
  obs := fun s => (cs.map fun c => c.obs (He.frG s.heap.get? as), ts.map s.heap.get?)
  val := fun _ => (cs.map Ck.val, ts.map fun _ => some TD.emptyTab)
  says := fun _ h => ∃ K : PySem.W.Frag, K.In h ∧ (∀ c ∈ cs, Ok c K) ∧ (∀ t ∈ ts, h.get? t = some TD.emptyTab) ∧ ∀ a, a ∉ as → K.lookup a = none
  of := fun w s e => by
    (have e1 := congrArg Prod.fst e)
    have e2 := congrArg Prod.snd e
    refine ⟨_, He.frG_in, List.map_inj_left.mp e1, List.map_inj_left.mp e2, fun a ha => ?_⟩
    cases q : (He.frG s.heap.get? as).lookup a with
    | none => rfl
    | some o =>
      exfalso
      have go : ∀ as : List Addr, (He.frG s.heap.get? as).lookup a = some o → a ∈ as := by
        intro as
        induction as with
        | nil => exact fun z => nomatch (show (none : Option Obj) = some o from z)
        | cons b r ih =>
          intro z
          unfold He.frG at z
          rw [List.filterMap_cons] at z
          cases hb : s.heap.get? b with
          | none =>
            rw [hb] at z
            exact List.mem_cons_of_mem _ (ih z)
          | some ob =>
            rw [hb] at z
            have z : (match a == b with | true => some ob | false => (He.frG s.heap.get? r).lookup a) = some o := z
            cases y : a == b with
            | true => rw [beq_iff_eq.mp y]; exact List.mem_cons_self
            | false =>
              rw [y] at z
              exact List.mem_cons_of_mem _ (ih z)
      exact ha (go as q)
  keeps := fun _ _ _ ⟨K, h1, h2, h3, h4⟩ k => ⟨K, PySem.W.Frag.In.keeps h1 k, h2, fun t ht => k _ _ (h3 t ht), h4⟩
def obC (as ts : List Addr) (cs : List Ck) (s : PySem.W.SharedT) : List Al × List (Option Obj) := (cs.map fun c => c.obs (He.frG (HandSHeadRun.getT s) as), ts.map (HandSHeadRun.getT s))
theorem obC_eq (as ts : List Addr) (cs : List Ck) (s : PySem.W.SharedT) : obC as ts cs s = (hookC as ts cs).obs s.abs := by
  have e : HandSHeadRun.getT s = s.abs.heap.get? := funext (HandSHeadRun.getT_eq s)
  unfold obC
  rw [e]
  rfl
section
open HandSHeadRun PySem.W
variable {r : PySem.W.OpenRow} {q : Program} {M : Nat} {loose : List Str} {w : World} {as ts : List Addr} {cs : List Ck}
/-- the same for a program with imports at its head -/
abbrev RunI (r : PySem.W.OpenRow) (M : Nat) (w : World) {β : Type} (f : Shared × PySem.W.SharedT → β) (v : β) : Prop := (wholeF (fun p => stepQ (denQ tabQ) p w) fenceQ M r.prog).map f = some v
theorem run_ofI (h1 : RunI r M w (fun x => looksF r.prog x.1.heap x.2.abs) true) (h2 : RunI r M w (fun x => seenQ q loose (importedModules r.prog.main.body) (fun s => xlAt q [] s && recOk r.toRowW.records s) x.2.abs) (openGood q loose))
    (h3 : ∀ c ∈ cs, RunI r M w (fun x => c.obs (He.frG (HandSHeadRun.getT x.2) as)) c.val) (h4 : RunI r M w (fun x => ts.map (HandSHeadRun.getT x.2)) (ts.map fun _ => some TD.emptyTab)) : RunEqI r q (hookC as ts cs) (obC as ts cs) M loose w := by
  unfold RunI at h1 h2 h3 h4
  unfold RunEqI
  revert h1 h2 h3 h4
  generalize wholeF (fun p => stepQ (denQ tabQ) p w) fenceQ M r.prog = e
  intro h1 h2 h3 h4
  cases e with
  | none => exact nomatch h1
  | some x =>
    have e1 := Option.some.inj h1
    have e2 := Option.some.inj h2
    have e4 := Option.some.inj h4
    dsimp only at e1 e2 e4
    show some (looksF r.prog x.1.heap x.2.abs, seenQ q loose (importedModules r.prog.main.body) (fun s => xlAt q [] s && recOk r.toRowW.records s) x.2.abs, obC as ts cs x.2) = some (true, openGood q loose, (cs.map Ck.val, ts.map fun _ => some TD.emptyTab))
    rw [e1, e2]
    unfold obC
    rw [e4, List.map_inj_left.mpr fun c hc => Option.some.inj (h3 c hc)]
end
section
variable {K : PySem.W.Frag}
variable {h : Heap} {mg : Str → Option Value}
/-- a def as it was looked at -/
def Told (K : PySem.W.Frag) (d : He5.DefA) : Prop := ∃ fd, FunD K d.name d.qual d.params d.body d.scope (d.dvs K) (d.kws K) (d.at_ K) fd
theorem Ok.fact {c : Ck} (k : Ok c K) (i : Nat) {f : PySem.W.Frag → Bool} (h : c.fa[i]? = some f := by rfl) : f K = true := List.all_eq_true.mp (congrArg Prod.fst k) f (List.mem_of_getElem? h)
theorem Ok.def_ {c : Ck} (k : Ok c K) (i : Nat) {d : He5.DefA} (h : c.fn[i]? = some d := by rfl) : Told K d := He5.SaysA.def_ (congrArg Prod.snd k) i h
def gloB (K : PySem.W.Frag) (x : Str) : Bool := He.eqO (PySem.W.nsIn K mainGlobals x) (some (some (.ref (He.ga K x))))
theorem gloB_ok {x : Str} (h : gloB K x = true) : PySem.W.nsIn K mainGlobals x = some (some (.ref (He.ga K x))) := He.eqO_ok h
/-- a def st at p, named x, qualified q, with the defaults dfl -/
def ddA (p : PySem.W.Frag → Addr) (x q : Str) (st : Stmt) (dfl : List He.Dv := []) : He5.DefA := { at_ := p, name := x, qual := q, params := defArgs st, body := defBody st, scope := defScope st, dfl := dfl }
theorem Told.fun_ {p : PySem.W.Frag → Addr} {x q : Str} {st : Stmt} (h : Told K (ddA p x q st)) : ∃ fd, Fun K x q st (p K) fd := let ⟨fd, F⟩ := h; ⟨fd, He5.fun_of F⟩
/-- a def of the module; under another name -/
abbrev ddG (x : Str) (st : Stmt) : He5.DefA := ddA (fun K => He.ga K x) x x st
theorem def_of {x : Str} {st : Stmt} (h : Told K (ddG x st)) (hb : gloB K x = true) : DefAt K x st := let ⟨fd, F⟩ := h.fun_; ⟨_, fd, gloB_ok hb, F⟩
/-- a maker of lambdas, its code object at c -/
def fdB (K : PySem.W.Frag) (a : Addr) (p : FuncData → Bool) : Bool := match K.lookup a with
  | none => false
  | some o => match o.data with
    | .func f => p f
    | _ => false
def codeB (K : PySem.W.Frag) (x : Str) (c : Addr) : Bool := fdB K (He.ga K x) fun f => decide (f.code = .ref c)
def defCB (K : PySem.W.Frag) (x : Str) (c : Addr) : Bool := gloB K x && codeB K x c
theorem defC_of {x : Str} {st : Stmt} {c : Addr} (h : Told K (ddG x st)) (hb : defCB K x c = true) : DefAtC K x st c := by
  obtain ⟨g, b⟩ := He.ba hb
  obtain ⟨fd, F⟩ := h.fun_
  obtain ⟨⟨oc, od, kV, doc, pm, an, cdv, ct, osl, rfl, l, q⟩, kp⟩ := F
  have l : K.lookup (He.ga K x) = _ := l
  unfold codeB fdB at b
  rw [l] at b
  obtain rfl : cdv = .ref c := of_decide_eq_true b
  exact ⟨_, oc, od, kV, doc, pm, an, ct, osl, gloB_ok g, l, q, kp⟩
/-- a class of one's own -/
def insB (K : PySem.W.Frag) (C : Addr) : Bool := PySem.W.plainGet K C Str.empty && (PySem.W.hasDictIn K C && (PySem.W.plainOver K C && (He.eqO (PySem.W.findIn K (.ref C) "__setattr__") (some (some (.builtin "object.__setattr__"))) &&
  (He.eqO (PySem.W.findIn K (.ref C) "__class__") (some (some (.builtin "object.__class__"))) && (He.eqO (PySem.W.specialIn K (.builtin "object.__class__") "__get__") (some (some (.builtin "getset_descriptor.__get__"))) && (decide (PySem.W.takesIn K (.builtin "object.__class__") = some true) &&
  (decide (PySem.W.mroIn K C (.type "object") = some true) && (decide (PySem.W.kitOne K (.ref C) (.ref C) = some true) && tyNames.all fun T => decide (PySem.W.kitOne K (.ref C) (.type T) = some false)))))))))
theorem insB_ok {C : Addr} (h : insB K C = true) : InsK K C :=
  have p1 := He.ba h
  have p2 := He.ba p1.2
  have p3 := He.ba p2.2
  have p4 := He.ba p3.2
  have p5 := He.ba p4.2
  have p6 := He.ba p5.2
  have p7 := He.ba p6.2
  have p8 := He.ba p7.2
  have p9 := He.ba p8.2
  ⟨⟨⟨p1.1, p2.1, p3.1, He.eqO_ok p4.1⟩, He.eqO_ok p5.1, He.eqO_ok p6.1, of_decide_eq_true p7.1, of_decide_eq_true p8.1, of_decide_eq_true p9.1⟩, fun T hT => of_decide_eq_true (List.all_eq_true.mp p9.2 T hT)⟩
/-- its methods, its __init__, its properties -/
abbrev ddM (x m q : Str) (st : Stmt) : He5.DefA := ddA (fun K => He.ma K (He.ga K x) m) m q st
def methB (K : PySem.W.Frag) (x m : Str) : Bool := He.eqO (PySem.W.findIn K (.ref (He.ga K x)) m) (some (some (.ref (He.ma K (He.ga K x) m)))) && (PySem.W.isFn K (.ref (He.ma K (He.ga K x) m)) && PySem.W.keepIn K (.ref (He.ma K (He.ga K x) m)))
theorem meth_of {x m q : Str} {st : Stmt} (I : InsK K (He.ga K x)) (h : Told K (ddM x m q st)) (hb : methB K x m = true) : MethAt K (He.ga K x) m q st :=
  have p1 := He.ba hb
  have p2 := He.ba p1.2
  let ⟨fd, F⟩ := h.fun_
  ⟨⟨_, fd, ⟨He.eqO_ok p1.1, p2.1, p2.2⟩, F⟩, I⟩
def mkB (K : PySem.W.Frag) (x : Str) : Bool := gloB K x && (PySem.W.makesIn K (He.ga K x) && (He.eqO (PySem.W.findIn K (.ref (He.ga K x)) "__init__") (some (some (.ref (He.ma K (He.ga K x) "__init__")))) && (PySem.W.isFn K (.ref (He.ma K (He.ga K x) "__init__")) && PySem.W.keepIn K (.ref (He.ga K x)))))
theorem mkB_ok {x : Str} (h : mkB K x = true) : PySem.W.nsIn K mainGlobals x = some (some (.ref (He.ga K x))) ∧ L2.Mk K (He.ga K x) (He.ma K (He.ga K x) "__init__") :=
  have p1 := He.ba h
  have p2 := He.ba p1.2
  have p3 := He.ba p2.2
  have p4 := He.ba p3.2
  ⟨gloB_ok p1.1, p2.1, He.eqO_ok p3.1, p4.1, p4.2⟩
theorem init_of {x q : Str} {st : Stmt} (I : InsK K (He.ga K x)) (h : Told K (ddM x "__init__" q st)) (hb : mkB K x = true) : InitAt K x (He.ga K x) q st :=
  let ⟨fd, F⟩ := h.fun_
  ⟨⟨_, fd, (mkB_ok hb).1, (mkB_ok hb).2, F⟩, I⟩
def pf (K : PySem.W.Frag) (x m : Str) : Addr := match PySem.W.recIn K (He.ma K (He.ga K x) m) "property" with
  | some (.ref f :: _) => f
  | _ => 0
abbrev ddP (x m q : Str) (st : Stmt) : He5.DefA := ddA (fun K => pf K x m) m q st
def propB (K : PySem.W.Frag) (x m : Str) : Bool := He.eqO (PySem.W.findIn K (.ref (He.ga K x)) m) (some (some (.ref (He.ma K (He.ga K x) m)))) && (He.eqO (PySem.W.specialIn K (.ref (He.ma K (He.ga K x) m)) "__get__") (some (some (.builtin "property.__get__"))) && (decide (PySem.W.takesIn K (.ref (He.ma K (He.ga K x) m)) = some true) &&
  (match PySem.W.recIn K (He.ma K (He.ga K x) m) "property" with | some (.ref _ :: _) => true | _ => false)))
theorem prop_of {x m q : Str} {st : Stmt} (I : InsK K (He.ga K x)) (h : Told K (ddP x m q st)) (hb : propB K x m = true) : PropAt K (He.ga K x) m q st := by
  have p1 := He.ba hb
  have p2 := He.ba p1.2
  have p3 := He.ba p2.2
  obtain ⟨fd, F⟩ := h.fun_
  refine ⟨⟨_, pf K x m, fd, ⟨He.eqO_ok p1.1, He.eqO_ok p2.1, of_decide_eq_true p3.1, ?_⟩, F⟩, I⟩
  have z := p3.2
  unfold pf
  split at z
  · rename_i f rest e
    rw [e]
    exact ⟨rest, rfl⟩
  · cases z
/-- classes of errors: of one's own with a field, of their name alone -/
def clsB (K : PySem.W.Frag) (C : Addr) (newId : String) (bt : List Value) : Bool := match K.lookup C with
  | some ⟨.type t, _, .cls cd, sl⟩ => decide (t = "type") && (decide (cd.mro = .ref C :: bt) && (cd.hasDict && (!cd.hasDel && (match sl.toList with | [_, _, _, _, some (.builtin n), _] => decide (n = newId) | _ => false))))
  | _ => false
theorem clsB_ok {C : Addr} {newId : String} {bt : List Value} (h : clsB K C newId bt = true) : ∃ nm q N bs sn sub ab col dd k0 k1 k2 k3 k5, K.lookup C = some (excClassObj nm q C N bs bt true sn sub ab col dd k0 k1 k2 k3 k5 newId) := by
  unfold clsB at h
  split at h
  · rename_i t dd cd sl e
    (obtain ⟨h1, h⟩ := Bool.and_eq_true_iff.mp h)
    (obtain ⟨h2, h⟩ := Bool.and_eq_true_iff.mp h)
    obtain ⟨h3, h⟩ := Bool.and_eq_true_iff.mp h
    obtain ⟨h4, h5⟩ := Bool.and_eq_true_iff.mp h
    split at h5
    · rename_i k0 k1 k2 k3 n k5 es
      have e1 := of_decide_eq_true h1
      have e2 := of_decide_eq_true h2
      (have e5 := of_decide_eq_true h5)
      subst e1 e5
      have esl : sl = #[k0, k1, k2, k3, some (.builtin n), k5] := by
        have := congrArg List.toArray es
        rwa [Array.toArray_toList] at this
      obtain ⟨c1, c2, c3, c4, c5, c6, c7, c8, c9, c10, c11⟩ := cd
      have e3 : c6 = true := h3
      have e4 : c11 = false := by simpa using h4
      have e2 : c3 = .ref C :: bt := e2
      subst e3 e4 e2 esl
      exact ⟨c1, c5, c4, c2, c7, c8, c9, c10, dd, k0, k1, k2, k3, k5, e⟩
    · cases h5
  · cases h
def ownB (K : PySem.W.Frag) (x f : Str) (newId : String) (bt : List Value) : Bool := gloB K x && (clsB K (He.ga K x) newId bt && (He.eqO (PySem.W.findIn K (.ref (He.ga K x)) "__setattr__") (some (some (.builtin "object.__setattr__"))) &&
  (He.eqO (PySem.W.findIn K (.ref (He.ga K x)) "__getattribute__") (some (some (.builtin "BaseException.__getattribute__"))) && (He.eqO (PySem.W.findIn K (.ref (He.ga K x)) "__getattr__") (some none) && (decide (PySem.W.subIn K (.ref (He.ga K x)) (.type "BaseException") = some true) &&
  (PySem.W.hasDictIn K (He.ga K x) && (He.eqO (PySem.W.findIn K (.ref (He.ga K x)) f) (some none) && (He.eqO (PySem.W.findIn K (.ref (He.ga K x)) "__init__") (some (some (.ref (He.ma K (He.ga K x) "__init__")))) && (decide (PySem.W.typeIn K (.ref (He.ma K (He.ga K x) "__init__")) = some (.type "function")) &&
  (PySem.W.keepIn K (.ref (He.ga K x)) && (decide (PySem.W.typeIn K (.ref (He.ga K x)) = some (.type "type")) && fdB K (He.ma K (He.ga K x) "__init__") fun f => decide (f.kwdefaults = .none))))))))))))
theorem own_of {B newId initId : String} {bt : List Value} {x f q : Str} {st : Stmt} {p p' q1 q2 q3 q4 : Pos} (F : PySem.ExcBaseFacts B newId initId bt) (hf : TO.Fld f) (hob : bt.contains (.type "object") = true) (hps : ∀ o : Value, refuseLoop o "__setattr__" bt = pure ()) (X : K.In h) (G : h.Ns mainGlobals mg)
    (hd : Told K (ddM x "__init__" q st)) (hb : ownB K x f newId bt = true) (a1 : defArgs st = TO.inArgs f p p') (a2 : defBody st = TO.inBody f q1 q2 q3 q4) (a3 : defScope st = TO.inScope f) : OwnC K mg x f (He.ga K x) := by
  have p1 := He.ba hb
  have p2 := He.ba p1.2
  have p3 := He.ba p2.2
  have p4 := He.ba p3.2
  have p5 := He.ba p4.2
  have p6 := He.ba p5.2
  have p7 := He.ba p6.2
  have p8 := He.ba p7.2
  have p9 := He.ba p8.2
  have p10 := He.ba p9.2
  have p11 := He.ba p10.2
  have p12 := He.ba p11.2
  obtain ⟨nm, qn, N, bs, sn, sub, ab, col, dd, k0, k1, k2, k3, k5, cl⟩ := clsB_ok p2.1
  obtain ⟨_, ⟨⟨oc, od, kV, doc, pm, an, cdv, ct, osl, rfl, l, c⟩, _⟩⟩ := hd.fun_
  have l : K.lookup (He.ma K (He.ga K x) "__init__") = _ := l
  have z := p12.2
  unfold fdB at z
  rw [l] at z
  obtain rfl : kV = .none := of_decide_eq_true z
  have l : K.lookup (He.ma K (He.ga K x) "__init__") = some ⟨oc, od, .func (PySem.W.fnOf "__init__" q (defArgs st) (defBody st) (defScope st) .none .none doc pm an cdv ct), osl⟩ := l
  rw [a1, a2, a3] at l
  exact ownC_mk (rs := []) F hf hob hps X G (gloB_ok p1.1) cl (He.eqO_ok p3.1) (He.eqO_ok p4.1) (He.eqO_ok p5.1) (of_decide_eq_true p6.1) p7.1 (He.eqO_ok p8.1) (He.eqO_ok p9.1) (of_decide_eq_true p10.1) p11.1 (of_decide_eq_true p12.1) l c
def bareB (K : PySem.W.Frag) (x : Str) (newId : String) (bt : List Value) : Bool := gloB K x && (PySem.W.excIn K (He.ga K x) bt newId && (PySem.W.keepIn K (.ref (He.ga K x)) && (decide (PySem.W.subIn K (.ref (He.ga K x)) (.type "BaseException") = some true) && decide (PySem.W.typeIn K (.ref (He.ga K x)) = some (.type "type")))))
theorem bare_of {B newId initId : String} {bt : List Value} {x : Str} (F : PySem.ExcBaseFacts B newId initId bt) (X : K.In h) (G : h.Ns mainGlobals mg) (hb : bareB K x newId bt = true) : BareC K mg x (He.ga K x) :=
  have p1 := He.ba hb
  have p2 := He.ba p1.2
  have p3 := He.ba p2.2
  have p4 := He.ba p3.2
  bareC_mk F X G (gloB_ok p1.1) p2.1 p3.1 (of_decide_eq_true p4.1) (of_decide_eq_true p4.2)
/-- an int of the module, its token -/
def tk (K : PySem.W.Frag) (x : Str) : Tok := match PySem.W.nsIn K mainGlobals x with
  | some (some (.int _ t)) => t
  | _ => 0
end
end Hk
/-- a law's end over a head by facts -/
theorem walkH [TabW] {l : PySem.W.OpenLaw} {k : Nat} {q : Program} {loose : List Str} {XP : (Str → Option Value) → Heap → Prop} {YP : World → Heap → Prop} {d : DefRec} {x : Str} (cs : List (Addr × Addr)) (hw : ∀ Q y, TabW.w Q y → Q ∈ cs.map (·.2))
    (hn : l.most = some 63) (hdf : d.params.defaults = []) (hr : Room k callerA)
    (F : ∀ (w : World) (mg : Str → Option Value) (g : Addr) (h : Heap), YP w h → h.Ns mainGlobals mg → mg d.name = some (.ref g) → ∃ K : PySem.W.Frag, K.In h ∧
      (∀ p ∈ cs, h.get? p.2 = some TD.emptyTab ∧ K.lookup p.2 = none ∧ PySem.W.codeHdIn K p.1 p.2 = true) ∧ ∃ fd : FuncData, (∀ (s : Shared) (u : Value), BindsTo s fd ⟨[u], []⟩ [(x, u)]) ∧
      ∀ base : Heap, K.In base → base.Ns mainGlobals mg → (∀ p ∈ cs, LamX.TabB base mg p.1 p.2) → FnOkG l.prog w K mg base CX0 k g fd [x] (spLaw K)) :
    PySem.W.WalkO q loose XP YP l.row.toRowW d [] (fun f us => PySem.call f us) :=
  Att.attach_callB hn hdf fun w _ _ mg _ fa _ _ _ _ _ _ _ G Y _ _ _ hmg hobj hints hlen _ hg => by
    obtain ⟨K, KX, hc, fd, hb, hF⟩ := F w mg fa _ Y G.T.g hmg
    exact call_lawG KX G.T.g G.T.b G.T.builtins G.T.nolimit hg (fun p hp => (hc p hp).1) (fun p hp => (hc p hp).2.1) (fun p hp => PySem.W.codeHd_of_K KX (hc p hp).2.2) hw G.T.bmain hobj hints hlen hr hF hb
end TD
set_option Elab.async false
set_option linter.all false
set_option maxRecDepth 100000
set_option maxHeartbeats 3000000
namespace TD
namespace Hk
open PySem L2 PySem.Spec PyProof.Rows
section
variable {K : PySem.W.Frag}
/-- a classmethod's def -/
abbrev ddC (x m q : Str) (st : Stmt) : He5.DefA := ddA (fun K => He5.wf K (He.ga K x) "classmethod" m) m q st
def cmB (K : PySem.W.Frag) (x m : Str) : Bool := PySem.W.readsIn K (He.ga K x) (.type "type") && (He.eqO (PySem.W.specialIn K (.ref (He.ga K x)) "__getattribute__") (some (some (.builtin "type.__getattribute__"))) &&
  (He5.wrapB K (He.ga K x) "classmethod" "classmethod.__get__" m && PySem.W.fnIn K (He5.wf K (He.ga K x) "classmethod" m)))
theorem cm_of {x m q : Str} {st : Stmt} (h : Told K (ddC x m q st)) (hb : cmB K x m = true) : CmAt K (He.ga K x) m q st :=
  have p1 := He.ba hb
  have p2 := He.ba p1.2
  have p3 := He.ba p2.2
  let ⟨fd, F⟩ := h.fun_
  ⟨_, _, _, fd, ⟨p1.1, He.eqO_ok p2.1⟩, He5.cmet_of p3.1 p3.2, F⟩
/-- kept tuples -/
def intsB : List Value → List Int → Bool
  | [], [] => true
  | .int i _ :: vs, n :: ns => decide (i = n) && intsB vs ns
  | _, _ => false
def seqB (K : PySem.W.Frag) (a : Addr) (p : List Value → Bool) : Bool := match K.lookup a with
  | some ⟨.type c, _, .seq its _, _⟩ => decide (c = "tuple") && (decide (its.size ≤ sizeLine) && p its.toList)
  | _ => false
def rowsB (K : PySem.W.Frag) : List Value → List (List Int) → Bool
  | [], [] => true
  | .ref a :: vs, ns :: rows => seqB K a (fun l => intsB l ns) && rowsB K vs rows
  | _, _ => false
def tupsB (K : PySem.W.Frag) (x : Str) (rows : List (List Int)) : Bool := seqB K (He.ga K x) fun l => rowsB K l rows
def intTB (K : PySem.W.Frag) (x : Str) (ns : List Int) : Bool := seqB K (He.ga K x) fun l => intsB l ns
theorem intsB_ok : ∀ {vs : List Value} {ns : List Int}, intsB vs ns = true → Vals (ns.map V.int) vs
  | [], [], _ => .nil
  | [], _ :: _, h => nomatch h
  | .int i t :: vs, n :: ns, h => by
    obtain ⟨h1, h2⟩ := He.ba (show (decide (i = n) && intsB vs ns) = true from h)
    obtain rfl := of_decide_eq_true h1
    exact .cons ⟨t, rfl⟩ (intsB_ok h2)
  | .int _ _ :: _, [], h => nomatch h
  | v :: vs, [], h => by cases v <;> cases h
  | .none :: _, _ :: _, h => nomatch h
  | .bool _ :: _, _ :: _, h => nomatch h
  | v :: vs, n :: ns, h => by
    cases v with
    | int i t =>
      obtain ⟨h1, h2⟩ := He.ba (show (decide (i = n) && intsB vs ns) = true from h)
      obtain rfl := of_decide_eq_true h1
      exact .cons ⟨t, rfl⟩ (intsB_ok h2)
    | _ => cases h
theorem seqB_ok {a : Addr} {p : List Value → Bool} (h : seqB K a p = true) : ∃ l, p l = true ∧ ∀ ys, Vals ys l → ∀ H : Hp, SqT K H a ys := by
  unfold seqB at h
  split at h
  · rename_i c d its n sl e
    obtain ⟨h1, h2⟩ := He.ba h
    obtain ⟨h3, h4⟩ := He.ba h2
    refine ⟨its.toList, h4, fun ys r H => .inr ⟨_, its, n, e, congrArg Value.type (of_decide_eq_true h1), rfl, of_decide_eq_true h3, r⟩⟩
  · cases h
theorem dp_ints {H : Hp} : ∀ ns : List Int, DpAll K H (ns.map V.int) (ns.map PyData.int)
  | [] => .nil
  | n :: ns => .cons (.int n) (dp_ints ns)
theorem rowsB_ok : ∀ {vs : List Value} {rows : List (List Int)}, rowsB K vs rows = true → ∃ ys : List V, ys.length = rows.length ∧ Vals ys vs ∧ ∀ H : Hp, DpAll K H ys (rows.map tupJ)
  | [], [], _ => ⟨[], rfl, .nil, fun _ => .nil⟩
  | [], _ :: _, h => nomatch h
  | v :: vs, [], h => by cases v <;> cases h
  | v :: vs, ns :: rows, h => by
    cases v with
    | ref a =>
      obtain ⟨h1, h2⟩ := He.ba (show (seqB K a (fun l => intsB l ns) && rowsB K vs rows) = true from h)
      obtain ⟨ys, e, r, d⟩ := rowsB_ok h2
      obtain ⟨l, p, q⟩ := seqB_ok h1
      exact ⟨.ref a :: ys, congrArg (· + 1) e, .cons rfl r, fun H => .cons (.tup (q _ (intsB_ok p) H) (dp_ints ns)) (d H)⟩
    | _ => cases h
theorem tupsB_ok {x : Str} {rows : List (List Int)} (h : tupsB K x rows = true) : KTups K (He.ga K x) rows := by
  obtain ⟨l, p, q⟩ := seqB_ok h
  obtain ⟨ys, e, r, d⟩ := rowsB_ok p
  exact fun H => ⟨.tup (q ys r H) (d H), ys, e, q ys r H⟩
theorem intTB_ok {x : Str} {ns : List Int} (h : intTB K x ns = true) (H : Hp) : SqT K H (He.ga K x) (ns.map V.int) := by
  obtain ⟨l, p, q⟩ := seqB_ok h
  exact q _ (intsB_ok p) H
end
end Hk
end TD
set_option Elab.async false
set_option linter.all false
set_option maxRecDepth 100000
set_option maxHeartbeats 0
namespace K73
open PySem L2 TD PySem.Spec PyProof.Rows
def loose0 : List Str := [Str.ofString "_wall", Str.ofString "choices", Str.ofString "TangentError", Str.ofString "InvalidLot", Str.ofString "InvalidWeb", Str.ofString "InvalidOperation", Str.ofString "InvalidNumber", Str.ofString "TooMany", Str.ofString "Refused", Str.ofString "PRIMES", Str.ofString "TOO_GREAT", Str.ofString "is_integer", Str.ofString "is_prime", Str.ofString "need_prime", Str.ofString "fits", Str.ofString "all_fit", Str.ofString "settled", Str.ofString "inverse_of", Str.ofString "divisor_of", Str.ofString "made_normal", Str.ofString "MAX_ENTRY", Str.ofString "is_normal_triple", Str.ofString "is_small", Str.ofString "fits_line", Str.ofString "lies_on", Str.ofString "crossed", Str.ofString "MAX_LINES", Str.ofString "are_lines", Str.ofString "lines_through", Str.ofString "Lot"]
def loose1 : List Str := [Str.ofString "POINTS", Str.ofString "TIES", Str.ofString "is_tie", Str.ofString "are_all_points", Str.ofString "need_web", Str.ofString "line_between", Str.ofString "tied_to", Str.ofString "reached_from_first", Str.ofString "are_tied", Str.ofString "order_in", Str.ofString "counts_ahead", Str.ofString "Web", Str.ofString "open_ring", Str.ofString "order_of_points", Str.ofString "is_order_of_points", Str.ofString "web_degrees", Str.ofString "_law_bag", Str.ofString "_law_grab", Str.ofString "_law_one_of", Str.ofString "_law_mixed", Str.ofString "_law_all_ties", Str.ofString "_law_is_whole", Str.ofString "_law_word", Str.ofString "_law_value_right", Str.ofString "_law_changes_right", Str.ofString "_law_refused", Str.ofString "_law_right"]
def loose : List Str := loose0 ++ loose1
abbrev RO : PySem.W.OpenRow := PySem.W.OpenLaw.row PySem.Challenge.rw_tangentrows_k73_webs_as_values_and_error
def asK : List Addr := (List.range 1400).filter fun a => !([691, 696] : List Addr).contains a
def look0 : Hk.Ck := ⟨[
  fun K => He.eqO (PySem.W.nsIn K mainGlobals "abs") (some none),
  fun K => He.eqO (PySem.W.nsIn K mainGlobals "all") (some none),
  fun K => He.eqO (PySem.W.nsIn K mainGlobals "any") (some none),
  fun K => He.eqO (PySem.W.nsIn K mainGlobals "bool") (some none),
  fun K => He.eqO (PySem.W.nsIn K mainGlobals "enumerate") (some none),
  fun K => He.eqO (PySem.W.nsIn K mainGlobals "int") (some none),
  fun K => He.eqO (PySem.W.nsIn K mainGlobals "isinstance") (some none),
  fun K => He.eqO (PySem.W.nsIn K mainGlobals "iter") (some none),
  fun K => He.eqO (PySem.W.nsIn K mainGlobals "len") (some none),
  fun K => He.eqO (PySem.W.nsIn K mainGlobals "list") (some none),
  fun K => He.eqO (PySem.W.nsIn K mainGlobals "max") (some none),
  fun K => He.eqO (PySem.W.nsIn K mainGlobals "min") (some none),
  fun K => He.eqO (PySem.W.nsIn K mainGlobals "range") (some none),
  fun K => He.eqO (PySem.W.nsIn K mainGlobals "repr") (some none),
  fun K => He.eqO (PySem.W.nsIn K mainGlobals "set") (some none),
  fun K => He.eqO (PySem.W.nsIn K mainGlobals "sorted") (some none),
  fun K => He.eqO (PySem.W.nsIn K mainGlobals "str") (some none),
  fun K => He.eqO (PySem.W.nsIn K mainGlobals "sum") (some none),
  fun K => He.eqO (PySem.W.nsIn K mainGlobals "tuple") (some none),
  fun K => He.eqO (PySem.W.nsIn K mainGlobals "zip") (some none),
  fun K => He.eqO (PySem.W.nsIn K mainGlobals "gcd") (some (some (.builtin "math.gcd"))),
  fun K => Hk.ownB K "InvalidNumber" "given" "IndexError.__new__" [.type "IndexError", .type "LookupError", .type "Exception", .type "BaseException", .type "object"],
  fun K => Hk.ownB K "Refused" "reason" "ArithmeticError.__new__" [.type "ArithmeticError", .type "Exception", .type "BaseException", .type "object"]],
 [Hk.ddM "InvalidNumber" "__init__" "InvalidNumber.__init__" (inCls (top 9) 0),
  Hk.ddM "Refused" "__init__" "Refused.__init__" (inCls (top 11) 0),
  Hk.ddG "is_integer" s_is_integer,
  Hk.ddG "need_web" s_need_web,
  Hk.ddG "reached_from_first" s_reached_from_first,
  Hk.ddG "_law_bag" s_law_bag,
  Hk.ddG "_law_grab" s_law_grab,
  Hk.ddG "_law_all_ties" s_law_all_ties,
  Hk.ddG "_law_is_whole" s_law_is_whole,
  Hk.ddG "_law_word" s_law_word]⟩
def look1 : Hk.Ck := ⟨[
  fun K => Hk.bareB K "InvalidWeb" "ValueError.__new__" [.type "ValueError", .type "Exception", .type "BaseException", .type "object"],
  fun K => Hk.bareB K "InvalidOperation" "ValueError.__new__" [.type "ValueError", .type "Exception", .type "BaseException", .type "object"],
  fun K => decide (PySem.W.exmOne K (.ref (He.ga K "InvalidWeb")) (.ref (He.ga K "InvalidWeb")) = some true),
  fun K => decide (PySem.W.exmOne K (.ref (He.ga K "InvalidOperation")) (.ref (He.ga K "InvalidWeb")) = some false),
  fun K => decide (PySem.W.exmOne K (.ref (He.ga K "InvalidOperation")) (.ref (He.ga K "InvalidOperation")) = some true),
  fun K => decide (PySem.W.exmOne K (.ref (He.ga K "InvalidNumber")) (.ref (He.ga K "InvalidWeb")) = some false),
  fun K => decide (PySem.W.exmOne K (.ref (He.ga K "InvalidNumber")) (.ref (He.ga K "InvalidOperation")) = some false),
  fun K => decide (PySem.W.exmOne K (.ref (He.ga K "InvalidNumber")) (.ref (He.ga K "InvalidNumber")) = some true),
  fun K => decide (PySem.W.exmOne K (.ref (He.ga K "Refused")) (.ref (He.ga K "InvalidWeb")) = some false),
  fun K => decide (PySem.W.exmOne K (.ref (He.ga K "Refused")) (.ref (He.ga K "InvalidOperation")) = some false),
  fun K => decide (PySem.W.exmOne K (.ref (He.ga K "Refused")) (.ref (He.ga K "InvalidNumber")) = some false),
  fun K => decide (PySem.W.exmOne K (.ref (He.ga K "Refused")) (.ref (He.ga K "Refused")) = some true),
  fun K => Hk.gloB K "Web",
  fun K => decide (PySem.W.findIn K (.ref (He.ga K "Web")) "__ne__" = some (some (.builtin "object.__ne__"))),
  fun K => decide (PySem.W.notFirst K (He.ga K "Web") (.type "tuple") = true),
  fun K => decide (PySem.W.notFirst K (He.ga K "Web") (.type "NoneType") = true),
  fun K => decide (PySem.W.kitOne K (.type "tuple") (.ref (He.ga K "Web")) = some false),
  fun K => decide (PySem.W.kitOne K (.type "list") (.ref (He.ga K "Web")) = some false),
  fun K => decide (PySem.W.kitOne K (.type "str") (.ref (He.ga K "Web")) = some false),
  fun K => decide (PySem.W.kitOne K (.type "int") (.ref (He.ga K "Web")) = some false),
  fun K => decide (PySem.W.kitOne K (.type "NoneType") (.ref (He.ga K "Web")) = some false),
  fun K => He.eqO (PySem.W.findIn K (.ref (He.ga K "Web")) "_ties") (some none),
  fun K => He.eqO (PySem.W.nsIn K mainGlobals "TOO_GREAT") (some (some (.int 1000000000000000000000000000000000000000000000000000000000000 (Hk.tk K "TOO_GREAT")))),
  fun K => Hk.gloB K "PRIMES"],
 [Hk.ddP "Web" "ties" "Web.ties" s_Web_ties,
  Hk.ddM "Web" "__len__" "Web.__len__" s_Web_len,
  Hk.ddM "Web" "__iter__" "Web.__iter__" s_Web_iter,
  Hk.ddM "Web" "__eq__" "Web.__eq__" s_Web_eq,
  Hk.ddM "Web" "__str__" "Web.__str__" s_Web_str,
  Hk.ddG "is_prime" s_is_prime,
  Hk.ddG "fits" s_fits,
  Hk.ddG "_law_one_of" s_law_one_of,
  Hk.ddG "_law_mixed" s_law_mixed,
  Hk.ddP "Web" "is_whole" "Web.is_whole" s_Web_is_whole]⟩
def look2 : Hk.Ck := ⟨[
  fun K => He.tupB K "PRIMES" [.int 2, .int 3, .int 5, .int 7, .int 11, .int 13, .int 17, .int 19],
  fun K => Hk.gloB K "TIES",
  fun K => Hk.tupsB K "TIES" tiesL,
  fun K => Hk.gloB K "POINTS",
  fun K => Hk.intTB K "POINTS" [1, 2, 3, 4],
  fun K => Hk.insB K (He.ga K "Web"),
  fun K => Hk.gloB K "is_integer",
  fun K => Hk.gloB K "need_web",
  fun K => Hk.gloB K "reached_from_first",
  fun K => Hk.gloB K "_law_bag",
  fun K => Hk.gloB K "_law_grab",
  fun K => Hk.gloB K "_law_all_ties",
  fun K => Hk.gloB K "_law_is_whole",
  fun K => Hk.gloB K "_law_word",
  fun K => Hk.propB K "Web" "ties",
  fun K => Hk.methB K "Web" "__len__",
  fun K => Hk.methB K "Web" "__iter__",
  fun K => Hk.methB K "Web" "__eq__",
  fun K => Hk.methB K "Web" "__str__",
  fun K => Hk.gloB K "is_prime",
  fun K => Hk.gloB K "fits",
  fun K => Hk.gloB K "_law_one_of",
  fun K => Hk.gloB K "_law_mixed"],
 [Hk.ddG "need_prime" s_need_prime,
  Hk.ddG "all_fit" s_all_fit,
  Hk.ddG "open_ring" s_open_ring,
  Hk.ddG "order_of_points" s_order_of_points,
  Hk.ddG "is_order_of_points" s_is_order_of_points,
  Hk.ddG "web_degrees" s_web_degrees,
  Hk.ddG "is_tie" s_is_tie,
  Hk.ddG "are_all_points" s_are_all_points,
  Hk.ddM "Web" "lot_over" "Web.lot_over" s_Web_lot_over,
  Hk.ddG "choices" s_choices]⟩
def look3 : Hk.Ck := ⟨[
  fun K => Hk.propB K "Web" "is_whole",
  fun K => Hk.gloB K "need_prime",
  fun K => Hk.gloB K "all_fit",
  fun K => Hk.gloB K "open_ring",
  fun K => Hk.gloB K "order_of_points",
  fun K => Hk.gloB K "is_order_of_points",
  fun K => Hk.gloB K "web_degrees",
  fun K => Hk.gloB K "is_tie",
  fun K => Hk.gloB K "are_all_points",
  fun K => Hk.methB K "Web" "lot_over",
  fun K => Hk.gloB K "choices",
  fun K => Hk.mkB K "Web",
  fun K => Hk.methB K "Web" "__contains__",
  fun K => Hk.cmB K "Web" "full",
  fun K => Hk.methB K "Web" "with_tie",
  fun K => Hk.methB K "Web" "without_tie",
  fun K => Hk.methB K "Web" "renamed",
  fun K => Hk.gloB K "_law_value_right",
  fun K => Hk.defCB K "_law_changes_right" 693,
  fun K => Hk.defCB K "_law_refused" 700,
  fun K => Hk.gloB K "_law_right",
  fun K => Hk.gloB K "law",
  fun K => PySem.W.codeHdIn K 693 691,
  fun K => PySem.W.codeHdIn K 700 696],
 [Hk.ddM "Web" "__init__" "Web.__init__" s_Web_init,
  Hk.ddM "Web" "__contains__" "Web.__contains__" s_Web_contains,
  Hk.ddC "Web" "full" "Web.full" s_Web_full,
  Hk.ddM "Web" "with_tie" "Web.with_tie" s_Web_with_tie,
  Hk.ddM "Web" "without_tie" "Web.without_tie" s_Web_without_tie,
  Hk.ddM "Web" "renamed" "Web.renamed" s_Web_renamed,
  Hk.ddG "_law_value_right" s_law_value_right,
  Hk.ddG "_law_changes_right" s_law_changes_right,
  Hk.ddG "_law_refused" s_law_refused,
  Hk.ddG "_law_right" s_law_right,
  Hk.ddG "law" s_law]⟩
open HandSHeadRun PySem.W in
theorem run_looks (w : World) : Hk.RunI RO 20000 w (fun x => looksF RO.prog x.1.heap x.2.abs) true := by
  kernel_rfl
open HandSHeadRun PySem.W in
theorem run_seen (w : World) : Hk.RunI RO 20000 w (fun x => seenQ (PySem.W.view RO.prog [0, 65]) loose (importedModules RO.prog.main.body) (fun s => xlAt (PySem.W.view RO.prog [0, 65]) [] s && recOk RO.toRowW.records s) x.2.abs) (openGood (PySem.W.view RO.prog [0, 65]) loose) := by
  kernel_rfl
theorem run_0 (w : World) : Hk.RunI RO 20000 w (fun x => look0.obs (He.frG (HandSHeadRun.getT x.2) asK)) look0.val := by
  kernel_rfl
theorem run_1 (w : World) : Hk.RunI RO 20000 w (fun x => look1.obs (He.frG (HandSHeadRun.getT x.2) asK)) look1.val := by
  kernel_rfl
theorem run_2 (w : World) : Hk.RunI RO 20000 w (fun x => look2.obs (He.frG (HandSHeadRun.getT x.2) asK)) look2.val := by
  kernel_rfl
theorem run_3 (w : World) : Hk.RunI RO 20000 w (fun x => look3.obs (He.frG (HandSHeadRun.getT x.2) asK)) look3.val := by
  kernel_rfl
theorem run_tabs (w : World) : Hk.RunI RO 20000 w (fun x => ([691, 696] : List Addr).map (HandSHeadRun.getT x.2)) (([691, 696] : List Addr).map fun _ => some TD.emptyTab) := by
  kernel_rfl
theorem run (w : World) : HandSHeadRun.RunEqI RO (PySem.W.view RO.prog [0, 65]) (Hk.hookC asK [691, 696] [look0, look1, look2, look3]) (Hk.obC asK [691, 696] [look0, look1, look2, look3]) 20000 loose w := by
  refine Hk.run_ofI (run_looks w) (run_seen w) (fun c hc => ?_) (run_tabs w)
  simp only [List.mem_cons, List.not_mem_nil, or_false] at hc
  rcases hc with rfl | rfl | rfl | rfl
  · exact run_0 w
  · exact run_1 w
  · exact run_2 w
  · exact run_3 w
theorem facts [iT : TabW] {w : World} {K : PySem.W.Frag} {h : Heap} {mg : Str → Option Value} {fa : Addr} (KX : K.In h) (G : h.Ns mainGlobals mg) (hmg : mg "law" = some (.ref fa)) (c : ∀ c ∈ [look0, look1, look2, look3], Hk.Ok c K)
    (hw : ∀ Q q, TabW.w Q q ↔ (Q, q) ∈ ([((691 : Addr), ("_law_changes_right.<locals>.<lambda>" : Str)), ((696 : Addr), ("_law_refused.<locals>.<lambda>" : Str))] : List (Addr × Str))) :
    (PySem.W.codeHdIn K 693 691 = true ∧ PySem.W.codeHdIn K 700 696 = true) ∧ ∃ fd : FuncData, (∀ (s : Shared) (v : Value), BindsTo s fd ⟨[v], []⟩ [("_law_script", v)]) ∧ ∀ base : Heap, K.In base → base.Ns mainGlobals mg → (∀ p ∈ ([(693, 691), (700, 696)] : List (Addr × Addr)), LamX.TabB base mg p.1 p.2) → FnOkG PySem.Challenge.rw_tangentrows_k73_webs_as_values_and_error.prog w K mg base CX0 12 fa fd ["_law_script"] (spLaw K) := by
  have k0 : Hk.Ok look0 K := c look0 (by simp)
  have k1 : Hk.Ok look1 K := c look1 (by simp)
  have k2 : Hk.Ok look2 K := c look2 (by simp)
  have k3 : Hk.Ok look3 K := c look3 (by simp)
  have F0 : (He.eqO (PySem.W.nsIn K mainGlobals "abs") (some none)) = true := k0.fact 0
  have F1 : (He.eqO (PySem.W.nsIn K mainGlobals "all") (some none)) = true := k0.fact 1
  have F2 : (He.eqO (PySem.W.nsIn K mainGlobals "any") (some none)) = true := k0.fact 2
  have F3 : (He.eqO (PySem.W.nsIn K mainGlobals "bool") (some none)) = true := k0.fact 3
  have F4 : (He.eqO (PySem.W.nsIn K mainGlobals "enumerate") (some none)) = true := k0.fact 4
  have F5 : (He.eqO (PySem.W.nsIn K mainGlobals "int") (some none)) = true := k0.fact 5
  have F6 : (He.eqO (PySem.W.nsIn K mainGlobals "isinstance") (some none)) = true := k0.fact 6
  have F7 : (He.eqO (PySem.W.nsIn K mainGlobals "iter") (some none)) = true := k0.fact 7
  have F8 : (He.eqO (PySem.W.nsIn K mainGlobals "len") (some none)) = true := k0.fact 8
  have F9 : (He.eqO (PySem.W.nsIn K mainGlobals "list") (some none)) = true := k0.fact 9
  have F10 : (He.eqO (PySem.W.nsIn K mainGlobals "max") (some none)) = true := k0.fact 10
  have F11 : (He.eqO (PySem.W.nsIn K mainGlobals "min") (some none)) = true := k0.fact 11
  have F12 : (He.eqO (PySem.W.nsIn K mainGlobals "range") (some none)) = true := k0.fact 12
  have F13 : (He.eqO (PySem.W.nsIn K mainGlobals "repr") (some none)) = true := k0.fact 13
  have F14 : (He.eqO (PySem.W.nsIn K mainGlobals "set") (some none)) = true := k0.fact 14
  have F15 : (He.eqO (PySem.W.nsIn K mainGlobals "sorted") (some none)) = true := k0.fact 15
  have F16 : (He.eqO (PySem.W.nsIn K mainGlobals "str") (some none)) = true := k0.fact 16
  have F17 : (He.eqO (PySem.W.nsIn K mainGlobals "sum") (some none)) = true := k0.fact 17
  have F18 : (He.eqO (PySem.W.nsIn K mainGlobals "tuple") (some none)) = true := k0.fact 18
  have F19 : (He.eqO (PySem.W.nsIn K mainGlobals "zip") (some none)) = true := k0.fact 19
  have F20 : (He.eqO (PySem.W.nsIn K mainGlobals "gcd") (some (some (.builtin "math.gcd")))) = true := k0.fact 20
  have F21 : (Hk.ownB K "InvalidNumber" "given" "IndexError.__new__" [.type "IndexError", .type "LookupError", .type "Exception", .type "BaseException", .type "object"]) = true := k0.fact 21
  have F22 : (Hk.ownB K "Refused" "reason" "ArithmeticError.__new__" [.type "ArithmeticError", .type "Exception", .type "BaseException", .type "object"]) = true := k0.fact 22
  have F23 : (Hk.bareB K "InvalidWeb" "ValueError.__new__" [.type "ValueError", .type "Exception", .type "BaseException", .type "object"]) = true := k1.fact 0
  have F24 : (Hk.bareB K "InvalidOperation" "ValueError.__new__" [.type "ValueError", .type "Exception", .type "BaseException", .type "object"]) = true := k1.fact 1
  have F25 : (decide (PySem.W.exmOne K (.ref (He.ga K "InvalidWeb")) (.ref (He.ga K "InvalidWeb")) = some true)) = true := k1.fact 2
  have F26 : (decide (PySem.W.exmOne K (.ref (He.ga K "InvalidOperation")) (.ref (He.ga K "InvalidWeb")) = some false)) = true := k1.fact 3
  have F27 : (decide (PySem.W.exmOne K (.ref (He.ga K "InvalidOperation")) (.ref (He.ga K "InvalidOperation")) = some true)) = true := k1.fact 4
  have F28 : (decide (PySem.W.exmOne K (.ref (He.ga K "InvalidNumber")) (.ref (He.ga K "InvalidWeb")) = some false)) = true := k1.fact 5
  have F29 : (decide (PySem.W.exmOne K (.ref (He.ga K "InvalidNumber")) (.ref (He.ga K "InvalidOperation")) = some false)) = true := k1.fact 6
  have F30 : (decide (PySem.W.exmOne K (.ref (He.ga K "InvalidNumber")) (.ref (He.ga K "InvalidNumber")) = some true)) = true := k1.fact 7
  have F31 : (decide (PySem.W.exmOne K (.ref (He.ga K "Refused")) (.ref (He.ga K "InvalidWeb")) = some false)) = true := k1.fact 8
  have F32 : (decide (PySem.W.exmOne K (.ref (He.ga K "Refused")) (.ref (He.ga K "InvalidOperation")) = some false)) = true := k1.fact 9
  have F33 : (decide (PySem.W.exmOne K (.ref (He.ga K "Refused")) (.ref (He.ga K "InvalidNumber")) = some false)) = true := k1.fact 10
  have F34 : (decide (PySem.W.exmOne K (.ref (He.ga K "Refused")) (.ref (He.ga K "Refused")) = some true)) = true := k1.fact 11
  have F35 : (Hk.gloB K "Web") = true := k1.fact 12
  have F36 : (decide (PySem.W.findIn K (.ref (He.ga K "Web")) "__ne__" = some (some (.builtin "object.__ne__")))) = true := k1.fact 13
  have F37 : (decide (PySem.W.notFirst K (He.ga K "Web") (.type "tuple") = true)) = true := k1.fact 14
  have F38 : (decide (PySem.W.notFirst K (He.ga K "Web") (.type "NoneType") = true)) = true := k1.fact 15
  have F39 : (decide (PySem.W.kitOne K (.type "tuple") (.ref (He.ga K "Web")) = some false)) = true := k1.fact 16
  have F40 : (decide (PySem.W.kitOne K (.type "list") (.ref (He.ga K "Web")) = some false)) = true := k1.fact 17
  have F41 : (decide (PySem.W.kitOne K (.type "str") (.ref (He.ga K "Web")) = some false)) = true := k1.fact 18
  have F42 : (decide (PySem.W.kitOne K (.type "int") (.ref (He.ga K "Web")) = some false)) = true := k1.fact 19
  have F43 : (decide (PySem.W.kitOne K (.type "NoneType") (.ref (He.ga K "Web")) = some false)) = true := k1.fact 20
  have F44 : (He.eqO (PySem.W.findIn K (.ref (He.ga K "Web")) "_ties") (some none)) = true := k1.fact 21
  have F45 : (He.eqO (PySem.W.nsIn K mainGlobals "TOO_GREAT") (some (some (.int 1000000000000000000000000000000000000000000000000000000000000 (Hk.tk K "TOO_GREAT"))))) = true := k1.fact 22
  have F46 : (Hk.gloB K "PRIMES") = true := k1.fact 23
  have F47 : (He.tupB K "PRIMES" [.int 2, .int 3, .int 5, .int 7, .int 11, .int 13, .int 17, .int 19]) = true := k2.fact 0
  have F48 : (Hk.gloB K "TIES") = true := k2.fact 1
  have F49 : (Hk.tupsB K "TIES" tiesL) = true := k2.fact 2
  have F50 : (Hk.gloB K "POINTS") = true := k2.fact 3
  have F51 : (Hk.intTB K "POINTS" [1, 2, 3, 4]) = true := k2.fact 4
  have F52 : (Hk.insB K (He.ga K "Web")) = true := k2.fact 5
  have F53 : (Hk.gloB K "is_integer") = true := k2.fact 6
  have F54 : (Hk.gloB K "need_web") = true := k2.fact 7
  have F55 : (Hk.gloB K "reached_from_first") = true := k2.fact 8
  have F56 : (Hk.gloB K "_law_bag") = true := k2.fact 9
  have F57 : (Hk.gloB K "_law_grab") = true := k2.fact 10
  have F58 : (Hk.gloB K "_law_all_ties") = true := k2.fact 11
  have F59 : (Hk.gloB K "_law_is_whole") = true := k2.fact 12
  have F60 : (Hk.gloB K "_law_word") = true := k2.fact 13
  have F61 : (Hk.propB K "Web" "ties") = true := k2.fact 14
  have F62 : (Hk.methB K "Web" "__len__") = true := k2.fact 15
  have F63 : (Hk.methB K "Web" "__iter__") = true := k2.fact 16
  have F64 : (Hk.methB K "Web" "__eq__") = true := k2.fact 17
  have F65 : (Hk.methB K "Web" "__str__") = true := k2.fact 18
  have F66 : (Hk.gloB K "is_prime") = true := k2.fact 19
  have F67 : (Hk.gloB K "fits") = true := k2.fact 20
  have F68 : (Hk.gloB K "_law_one_of") = true := k2.fact 21
  have F69 : (Hk.gloB K "_law_mixed") = true := k2.fact 22
  have F70 : (Hk.propB K "Web" "is_whole") = true := k3.fact 0
  have F71 : (Hk.gloB K "need_prime") = true := k3.fact 1
  have F72 : (Hk.gloB K "all_fit") = true := k3.fact 2
  have F73 : (Hk.gloB K "open_ring") = true := k3.fact 3
  have F74 : (Hk.gloB K "order_of_points") = true := k3.fact 4
  have F75 : (Hk.gloB K "is_order_of_points") = true := k3.fact 5
  have F76 : (Hk.gloB K "web_degrees") = true := k3.fact 6
  have F77 : (Hk.gloB K "is_tie") = true := k3.fact 7
  have F78 : (Hk.gloB K "are_all_points") = true := k3.fact 8
  have F79 : (Hk.methB K "Web" "lot_over") = true := k3.fact 9
  have F80 : (Hk.gloB K "choices") = true := k3.fact 10
  have F81 : (Hk.mkB K "Web") = true := k3.fact 11
  have F82 : (Hk.methB K "Web" "__contains__") = true := k3.fact 12
  have F83 : (Hk.cmB K "Web" "full") = true := k3.fact 13
  have F84 : (Hk.methB K "Web" "with_tie") = true := k3.fact 14
  have F85 : (Hk.methB K "Web" "without_tie") = true := k3.fact 15
  have F86 : (Hk.methB K "Web" "renamed") = true := k3.fact 16
  have F87 : (Hk.gloB K "_law_value_right") = true := k3.fact 17
  have F88 : (Hk.defCB K "_law_changes_right" 693) = true := k3.fact 18
  have F89 : (Hk.defCB K "_law_refused" 700) = true := k3.fact 19
  have F90 : (Hk.gloB K "_law_right") = true := k3.fact 20
  have F91 : (Hk.gloB K "law") = true := k3.fact 21
  have F92 : (PySem.W.codeHdIn K 693 691) = true := k3.fact 22
  have F93 : (PySem.W.codeHdIn K 700 696) = true := k3.fact 23
  have D0 := k0.def_ 0 (d := Hk.ddM "InvalidNumber" "__init__" "InvalidNumber.__init__" (inCls (top 9) 0))
  have D1 := k0.def_ 1 (d := Hk.ddM "Refused" "__init__" "Refused.__init__" (inCls (top 11) 0))
  have D2 := k0.def_ 2 (d := Hk.ddG "is_integer" s_is_integer)
  have D3 := k0.def_ 3 (d := Hk.ddG "need_web" s_need_web)
  have D4 := k0.def_ 4 (d := Hk.ddG "reached_from_first" s_reached_from_first)
  have D5 := k0.def_ 5 (d := Hk.ddG "_law_bag" s_law_bag)
  have D6 := k0.def_ 6 (d := Hk.ddG "_law_grab" s_law_grab)
  have D7 := k0.def_ 7 (d := Hk.ddG "_law_all_ties" s_law_all_ties)
  have D8 := k0.def_ 8 (d := Hk.ddG "_law_is_whole" s_law_is_whole)
  have D9 := k0.def_ 9 (d := Hk.ddG "_law_word" s_law_word)
  have D10 := k1.def_ 0 (d := Hk.ddP "Web" "ties" "Web.ties" s_Web_ties)
  have D11 := k1.def_ 1 (d := Hk.ddM "Web" "__len__" "Web.__len__" s_Web_len)
  have D12 := k1.def_ 2 (d := Hk.ddM "Web" "__iter__" "Web.__iter__" s_Web_iter)
  have D13 := k1.def_ 3 (d := Hk.ddM "Web" "__eq__" "Web.__eq__" s_Web_eq)
  have D14 := k1.def_ 4 (d := Hk.ddM "Web" "__str__" "Web.__str__" s_Web_str)
  have D15 := k1.def_ 5 (d := Hk.ddG "is_prime" s_is_prime)
  have D16 := k1.def_ 6 (d := Hk.ddG "fits" s_fits)
  have D17 := k1.def_ 7 (d := Hk.ddG "_law_one_of" s_law_one_of)
  have D18 := k1.def_ 8 (d := Hk.ddG "_law_mixed" s_law_mixed)
  have D19 := k1.def_ 9 (d := Hk.ddP "Web" "is_whole" "Web.is_whole" s_Web_is_whole)
  have D20 := k2.def_ 0 (d := Hk.ddG "need_prime" s_need_prime)
  have D21 := k2.def_ 1 (d := Hk.ddG "all_fit" s_all_fit)
  have D22 := k2.def_ 2 (d := Hk.ddG "open_ring" s_open_ring)
  have D23 := k2.def_ 3 (d := Hk.ddG "order_of_points" s_order_of_points)
  have D24 := k2.def_ 4 (d := Hk.ddG "is_order_of_points" s_is_order_of_points)
  have D25 := k2.def_ 5 (d := Hk.ddG "web_degrees" s_web_degrees)
  have D26 := k2.def_ 6 (d := Hk.ddG "is_tie" s_is_tie)
  have D27 := k2.def_ 7 (d := Hk.ddG "are_all_points" s_are_all_points)
  have D28 := k2.def_ 8 (d := Hk.ddM "Web" "lot_over" "Web.lot_over" s_Web_lot_over)
  have D29 := k2.def_ 9 (d := Hk.ddG "choices" s_choices)
  have D30 := k3.def_ 0 (d := Hk.ddM "Web" "__init__" "Web.__init__" s_Web_init)
  have D31 := k3.def_ 1 (d := Hk.ddM "Web" "__contains__" "Web.__contains__" s_Web_contains)
  have D32 := k3.def_ 2 (d := Hk.ddC "Web" "full" "Web.full" s_Web_full)
  have D33 := k3.def_ 3 (d := Hk.ddM "Web" "with_tie" "Web.with_tie" s_Web_with_tie)
  have D34 := k3.def_ 4 (d := Hk.ddM "Web" "without_tie" "Web.without_tie" s_Web_without_tie)
  have D35 := k3.def_ 5 (d := Hk.ddM "Web" "renamed" "Web.renamed" s_Web_renamed)
  have D36 := k3.def_ 6 (d := Hk.ddG "_law_value_right" s_law_value_right)
  have D37 := k3.def_ 7 (d := Hk.ddG "_law_changes_right" s_law_changes_right)
  have D38 := k3.def_ 8 (d := Hk.ddG "_law_refused" s_law_refused)
  have D39 := k3.def_ 9 (d := Hk.ddG "_law_right" s_law_right)
  have D40 := k3.def_ 10 (d := Hk.ddG "law" s_law)
  have I_cl := Hk.insB_ok F52
  refine ⟨⟨F92, F93⟩, ?_⟩
  exact K73.all_mk (l := PySem.Challenge.rw_tangentrows_k73_webs_as_values_and_error) (tg := (Hk.tk K "TOO_GREAT")) (aP := (He.ga K "PRIMES")) (aT := (He.ga K "TIES")) (aO := (He.ga K "POINTS")) (cN := (He.ga K "InvalidNumber")) (cV := (He.ga K "InvalidWeb")) (cO := (He.ga K "InvalidOperation")) (cR := (He.ga K "Refused")) (cl := (He.ga K "Web")) (c1 := 693) (P1 := 691) (c2 := 700) (P2 := 696) KX G hmg I_cl ⟨(Hk.def_of D2 F53), (Hk.def_of D3 F54), (Hk.def_of D4 F55), (Hk.def_of D5 F56), (Hk.def_of D6 F57), (Hk.def_of D7 F58), (Hk.def_of D8 F59), (Hk.def_of D9 F60), (Hk.prop_of I_cl D10 F61), (Hk.meth_of I_cl D11 F62), (Hk.meth_of I_cl D12 F63), (Hk.meth_of I_cl D13 F64), (Hk.meth_of I_cl D14 F65), (Hk.def_of D15 F66), (Hk.def_of D16 F67), (Hk.def_of D17 F68), (Hk.def_of D18 F69), (Hk.prop_of I_cl D19 F70), (Hk.def_of D20 F71), (Hk.def_of D21 F72), (Hk.def_of D22 F73), (Hk.def_of D23 F74), (Hk.def_of D24 F75), (Hk.def_of D25 F76), (Hk.def_of D26 F77), (Hk.def_of D27 F78), (Hk.meth_of I_cl D28 F79), (Hk.def_of D29 F80), (Hk.init_of I_cl D30 F81), (Hk.meth_of I_cl D31 F82), (Hk.cm_of D32 F83), (Hk.meth_of I_cl D33 F84), (Hk.meth_of I_cl D34 F85), (Hk.meth_of I_cl D35 F86), (Hk.def_of D36 F87), (Hk.defC_of D37 F88), (Hk.defC_of D38 F89), (Hk.def_of D39 F90), (Hk.def_of D40 F91)⟩ (He.eqO_ok F0) (He.eqO_ok F1) (He.eqO_ok F2) (He.eqO_ok F3) (He.eqO_ok F4) (He.eqO_ok F5) (He.eqO_ok F6) (He.eqO_ok F7) (He.eqO_ok F8) (He.eqO_ok F9) (He.eqO_ok F10) (He.eqO_ok F11) (He.eqO_ok F12) (He.eqO_ok F13) (He.eqO_ok F14) (He.eqO_ok F15) (He.eqO_ok F16) (He.eqO_ok F17) (He.eqO_ok F18) (He.eqO_ok F19) (He.eqO_ok F20) (Hk.own_of PySem.F.excBase_IndexError TD.fld_given (by rfl) TD.ve_IndexError KX G D0 F21 rfl rfl rfl) (Hk.own_of PySem.F.excBase_ArithmeticError TD.fld_reason (by rfl) K73.ve_ArithmeticError KX G D1 F22 rfl rfl rfl) (Hk.bare_of PySem.F.excBase_ValueError KX G F23) (Hk.bare_of PySem.F.excBase_ValueError KX G F24) (of_decide_eq_true F25) (of_decide_eq_true F26) (of_decide_eq_true F27) (of_decide_eq_true F28) (of_decide_eq_true F29) (of_decide_eq_true F30) (of_decide_eq_true F31) (of_decide_eq_true F32) (of_decide_eq_true F33) (of_decide_eq_true F34) (Hk.gloB_ok F35) (of_decide_eq_true F36) (of_decide_eq_true F37) (of_decide_eq_true F38) (of_decide_eq_true F39) (of_decide_eq_true F40) (of_decide_eq_true F41) (of_decide_eq_true F42) (of_decide_eq_true F43) (He.eqO_ok F44) (by decide) (He.eqO_ok F45) (Hk.gloB_ok F46) (fun H => He.tupB_ok (vs := [.int 2, .int 3, .int 5, .int 7, .int 11, .int 13, .int 17, .int 19]) F47 H) (Hk.gloB_ok F48) (Hk.tupsB_ok F49) (Hk.gloB_ok F50) (Hk.intTB_ok (ns := [1, 2, 3, 4]) F51) hw
end K73
open PySem PySem.W PySem.Calls PyProof.Rows
set_option maxRecDepth 100000 in
set_option maxHeartbeats 0 in
theorem PySem.Challenge.cw_tangentrows_k73_webs_as_values_and_error_holds : PySem.Challenge.rw_tangentrows_k73_webs_as_values_and_error.Holds := by
  w_on; o_law
  refine HandSHeadRun.head_imp (r := OpenLaw.row PySem.Challenge.rw_tangentrows_k73_webs_as_values_and_error) (q := view (OpenLaw.row PySem.Challenge.rw_tangentrows_k73_webs_as_values_and_error).prog [0, 65]) (H := TD.Hk.hookC K73.asK [691, 696] [K73.look0, K73.look1, K73.look2, K73.look3]) (ob := TD.Hk.obC K73.asK [691, 696] [K73.look0, K73.look1, K73.look2, K73.look3]) (M := 20000) (loose := K73.loose) (d := HandSHeadRun.topDef (OpenLaw.row PySem.Challenge.rw_tangentrows_k73_webs_as_values_and_error).prog 65) (kwd := []) (TD.Hk.obC_eq _ _ _)
    K73.run (by kernel_rfl) (by kernel_rfl) (by kernel_rfl) (by rfl) (by first | assumption | decide +kernel) (by decide +kernel) ⟨rfl, rfl, rfl, rfl, rfl, by decide +kernel⟩ ?hw ?hc
  case hw => w_witness2
  case hc =>
    refine @TD.walkH ⟨fun Q q => (Q, q) ∈ [((691 : Addr), ("_law_changes_right.<locals>.<lambda>" : Str)), ((696 : Addr), ("_law_refused.<locals>.<lambda>" : Str))]⟩ PySem.Challenge.rw_tangentrows_k73_webs_as_values_and_error 12 _ _ _ _ _ "_law_script" [(693, 691), (700, 696)] (fun Q q h => by simp only [List.mem_cons, List.not_mem_nil, or_false, Prod.mk.injEq] at h; simp only [List.map_cons, List.map_nil, List.mem_cons, List.not_mem_nil, or_false]; rcases h with ⟨rfl, _⟩ | ⟨rfl, _⟩ <;> simp) rfl (by kernel_rfl) ⟨rfl, by decide, by decide⟩ ?F
    intro w mg fa h Y G hmg0
    obtain ⟨K, KX, c, ht, hl⟩ := Y
    have hmg : mg ("law" : PySem.Str) = some (.ref fa) := by
      have e : (HandSHeadRun.topDef (OpenLaw.row PySem.Challenge.rw_tangentrows_k73_webs_as_values_and_error).prog 65).name = ("law" : PySem.Str) := by kernel_rfl
      rw [← e]
      exact hmg0
    obtain ⟨hcs, hfd⟩ := @K73.facts ⟨fun Q q => (Q, q) ∈ [((691 : Addr), ("_law_changes_right.<locals>.<lambda>" : Str)), ((696 : Addr), ("_law_refused.<locals>.<lambda>" : Str))]⟩ w K h mg fa KX G hmg c (fun _ _ => Iff.rfl)
    refine ⟨K, KX, fun p hp => ?_, hfd⟩
    simp only [List.mem_cons, List.not_mem_nil, or_false] at hp
    rcases hp with rfl | rfl
    · exact ⟨ht 691 (by simp), hl 691 (by decide +kernel), hcs.1⟩
    · exact ⟨ht 696 (by simp), hl 696 (by decide +kernel), hcs.2⟩
