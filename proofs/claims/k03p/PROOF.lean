import PyProof.Rows.All
import Wide.All
import OpenK.AllK
import Wide.FinOn
import HandS.ForMost
import HandS.Evl
import HandS.Lambda
import HandS.IsInst
import HandS.Gcd
import HandS.Wide
import HandS.Deep
import HandS.Zip
import HandS.Ends
import HandS.NoneIn
import HandS.TupSets
import PySem.PyData
import PyProof.Lay0
import HandS.TupAny
import HandS.Style
import HandS.Exc
import HandS.TryMany
import HandS.ExcField
import HandS.ExcOwn
import HandS.WordsExc
import HandS.EndTab
import HandS.Conv
import HandS.TupMul
import KE.KSortedM
import PySem.Challenge.RW_tangentrows_k03_whole_determinants_and_t
import KE.GoesMore
import HandS.WideBits
import HandS.Dict
import HandS.More
import HandS.SortKw
import HandS.Iter
import KE.GoesZip
import KE.KExcInit
import HandS.Walk
/-! ## TdBase -/
set_option Elab.async false
set_option linter.all false
set_option maxRecDepth 100000
set_option maxHeartbeats 3000000
/-! A reading told over plain data: what a value stands for (Den), a def's slots as data (Rho), what a term of readings comes to (EvB, TtB, StB). One list of ints that is changed by callees (the bag) goes beside. -/
namespace TD
open PySem L2
open Evl (Ex ex_l ex_t fresh_back sq_of st_of sz_of sz_lt)

abbrev Dt := PyData
mutual
inductive Den (K : PySem.W.Frag) (G : Hp) : V → Dt → Prop
  | non : Den K G .non .none
  | bl (b : Bool) : Den K G (.bl b) (.bool b)
  | int (i : Int) : Den K G (.int i) (.int i)
  | str (x : Str) : Den K G (.str x) (.str x)
  | lst {a : Addr} {xs : List V} {ds : List Dt} : G a = some (.lst xs) → DenL K G xs ds → Den K G (.ref a) (.list ds)
  | tup {a : Addr} {xs : List V} {ds : List Dt} : SqT K G a xs → DenL K G xs ds → Den K G (.ref a) (.tuple ds)
  | dct {a : Addr} {kvs : List (Key × V)} : G a = some (.dK kvs) → Den K G (.ref a) (.dict [])
  | dcE {a t : Addr} {k : Str} {i j : Int} : G a = some (.dK [(.inr k, .ref t)]) → SqT K G t [.int i, .int j] → Den K G (.ref a) (.dict [(.str k, .tuple [.int i, .int j])])
  | dcI {a : Addr} {kvs : List (Int × V)} {ps : List (Dt × Dt)} : G a = some (.dK (kvs.map fun q => (Sum.inl q.1, q.2))) → DenP K G kvs ps → Den K G (.ref a) (.dict ((.none, .none) :: ps))
inductive DenP (K : PySem.W.Frag) (G : Hp) : List (Int × V) → List (Dt × Dt) → Prop
  | nil : DenP K G [] []
  | cons {i : Int} {v : V} {kvs : List (Int × V)} {d : Dt} {ps : List (Dt × Dt)} : Den K G v d → DenP K G kvs ps → DenP K G ((i, v) :: kvs) ((.int i, d) :: ps)
inductive DenL (K : PySem.W.Frag) (G : Hp) : List V → List Dt → Prop
  | nil : DenL K G [] []
  | cons {v : V} {vs : List V} {d : Dt} {ds : List Dt} : Den K G v d → DenL K G vs ds → DenL K G (v :: vs) (d :: ds)
end
section
variable {K : PySem.W.Frag} {G G' : Hp}
mutual
theorem Den.mono (e : Ex G G') : ∀ {d : Dt} {v : V}, Den K G v d → Den K G' v d
  | .none, _, h => by cases h; exact .non
  | .bool b, _, h => by cases h; exact .bl b
  | .int i, _, h => by cases h; exact .int i
  | .str x, _, h => by cases h; exact .str x
  | .list ds, _, h => by
    cases h with
    | lst hs hd => exact .lst (e _ _ hs) (DenL.mono e hd)
  | .tuple ds, _, h => by
    cases h with
    | tup hs hd => exact .tup (ex_t e hs) (DenL.mono e hd)
  | .dict kvs, _, h => by
    cases h with
    | dct hs => exact .dct (e _ _ hs)
    | dcE hs ht => exact .dcE (e _ _ hs) (ex_t e ht)
    | dcI hs hp => exact .dcI (e _ _ hs) (DenP.mono e hp)
theorem DenP.mono (e : Ex G G') : ∀ {ps : List (Dt × Dt)} {kvs : List (Int × V)}, DenP K G kvs ps → DenP K G' kvs ps
  | [], _, h => by cases h; exact .nil
  | q :: ps, _, h => by
    cases h with
    | cons h1 h2 => exact .cons (Den.mono e h1) (DenP.mono e h2)
theorem DenL.mono (e : Ex G G') : ∀ {ds : List Dt} {vs : List V}, DenL K G vs ds → DenL K G' vs ds
  | [], _, h => by cases h; exact .nil
  | d :: ds, _, h => by
    cases h with
    | cons h1 h2 => exact .cons (Den.mono e h1) (DenL.mono e h2)
end
theorem DenL.length : ∀ {vs : List V} {ds : List Dt}, DenL K G vs ds → vs.length = ds.length
  | [], [], _ => rfl
  | [], _ :: _, h => nomatch h
  | _ :: _, [], h => nomatch h
  | _ :: _, _ :: _, .cons _ h => congrArg (· + 1) h.length
theorem DenL.get : ∀ {vs : List V} {ds : List Dt} {i : Nat} {v : V}, DenL K G vs ds → vs[i]? = some v → ∃ d, ds[i]? = some d ∧ Den K G v d
  | [], [], _, _, _, h => by simp at h
  | [], _ :: _, _, _, h, _ => nomatch h
  | _ :: _, [], _, _, h, _ => nomatch h
  | _ :: _, d :: _, 0, _, .cons h1 _, h => by simp at h; subst h; exact ⟨d, rfl, h1⟩
  | _ :: _, _ :: _, i + 1, v, .cons _ h2, h => by
    obtain ⟨d, h3, h4⟩ := DenL.get (i := i) (v := v) h2 (by simpa using h)
    exact ⟨d, by simpa using h3, h4⟩
theorem DenL.get' : ∀ {vs : List V} {ds : List Dt} {i : Nat} {d : Dt}, DenL K G vs ds → ds[i]? = some d → ∃ v, vs[i]? = some v ∧ Den K G v d
  | [], [], _, _, _, h => by simp at h
  | [], _ :: _, _, _, h, _ => nomatch h
  | _ :: _, [], _, _, h, _ => nomatch h
  | v :: _, d :: _, 0, _, .cons h1 _, h => by simp at h; subst h; exact ⟨v, rfl, h1⟩
  | _ :: _, _ :: _, i + 1, d, .cons _ h2, h => by
    obtain ⟨v, h3, h4⟩ := DenL.get' (i := i) (d := d) h2 (by simpa using h)
    exact ⟨v, by simpa using h3, h4⟩
theorem DenL.append : ∀ {vs ws : List V} {ds es : List Dt}, DenL K G vs ds → DenL K G ws es → DenL K G (vs ++ ws) (ds ++ es)
  | [], _, [], _, _, h => h
  | [], _, _ :: _, _, h, _ => nomatch h
  | _ :: _, _, [], _, h, _ => nomatch h
  | _ :: _, _, _ :: _, _, .cons h1 h2, h => .cons h1 (DenL.append h2 h)
theorem DenL.drop : ∀ (n : Nat) {vs : List V} {ds : List Dt}, DenL K G vs ds → DenL K G (vs.drop n) (ds.drop n)
  | 0, _, _, h => h
  | _ + 1, [], [], _ => .nil
  | _ + 1, [], _ :: _, h => nomatch h
  | _ + 1, _ :: _, [], h => nomatch h
  | n + 1, _ :: _, _ :: _, .cons _ h => DenL.drop n h
theorem DenL.take : ∀ (n : Nat) {vs : List V} {ds : List Dt}, DenL K G vs ds → DenL K G (vs.take n) (ds.take n)
  | 0, _, _, _ => .nil
  | _ + 1, [], [], _ => .nil
  | _ + 1, [], _ :: _, h => nomatch h
  | _ + 1, _ :: _, [], h => nomatch h
  | n + 1, _ :: _, _ :: _, .cons h1 h => .cons h1 (DenL.take n h)
theorem DenL.ints : ∀ {vs : List V} {ns : List Int}, DenL K G vs (ns.map PyData.int) → vs = ns.map V.int
  | [], [], _ => rfl
  | [], _ :: _, h => nomatch h
  | _ :: _, [], h => nomatch h
  | _ :: _, n :: ns, .cons h1 h2 => by
    cases h1
    rw [DenL.ints h2]
    rfl
theorem DenL.of_ints : ∀ (ns : List Int), DenL K G (ns.map V.int) (ns.map PyData.int)
  | [] => .nil
  | n :: ns => .cons (.int n) (DenL.of_ints ns)
theorem DenL.bls : ∀ {vs : List V} {ns : List Bool}, DenL K G vs (ns.map PyData.bool) → vs = ns.map V.bl
  | [], [], _ => rfl
  | [], _ :: _, h => nomatch h
  | _ :: _, [], h => nomatch h
  | _ :: _, n :: ns, .cons h1 h2 => by
    cases h1
    rw [DenL.bls h2]
    rfl
end

/-! ### the state -/
/-- the tables of code objects that the text's lambdas write: where they stand, the name of their code objects -/
class TabW where
  w : Addr → Str → Prop
def NoTabs (G : Hp) : Prop := ∀ x ps, G x ≠ some (.tbl ps)
structure TabsOk [TabW] (G H : Hp) : Prop where
  tab : ∀ P q, TabW.w P q → LamX.TabS H P q
  free : NoTabs G
def NoT (o : HO) : Prop := ∀ ps, o ≠ .tbl ps
theorem NoT.lst {xs : List V} : NoT (.lst xs) := fun _ z => by cases z
inductive Slot where
  | imm (d : Dt)
  | bag
  | fn (a : Addr)
abbrev Rho := List (Option Slot)
/-- the bag's numbers, where there is a bag -/
abbrev Bag := Option (List Int)
def BagOk (b : Addr) (β : Bag) (G H : Hp) : Prop := ∀ ns, β = some ns → H b = some (.lst (ns.map V.int)) ∧ G b = none
structure EnvD [TabW] (K : PySem.W.Frag) (b : Addr) (β : Bag) (G H : Hp) (σ : L2.St) (ρ : Rho) : Prop where
  sub : Ex G H
  bagk : BagOk b β G H
  len : σ.length = ρ.length
  imm : ∀ (i : Nat) (d : Dt), ρ[i]? = some (some (Slot.imm d)) → ∃ v, σ[i]? = some (some v) ∧ Den K G v d
  bagv : ∀ (i : Nat), ρ[i]? = some (some Slot.bag) → σ[i]? = some (some (V.ref b))
  tabs : TabsOk G H
  fnv : ∀ (i : Nat) (a : Addr), ρ[i]? = some (some (Slot.fn a)) → σ[i]? = some (some (V.ref a))
/-- m: there is a bag, which may change -/
structure Step [TabW] (b : Addr) (m : Bool) (G H G' H' : Hp) : Prop where
  g : Ex G G'
  s : Ex G' H'
  fresh : ∀ x o, G x = none → NoT o → H x = some o → G' x = none
  keep : ∀ x o, (m = true → x ≠ b) → NoT o → H x = some o → H' x = some o
  stay : ∀ x o, NoT o → H x = some o → ∃ o', NoT o' ∧ H' x = some o'
  tabs : TabsOk G H → TabsOk G' H'
section
variable [TabW] {K : PySem.W.Frag} {b : Addr} {m : Bool} {β β' : Bag} {G H G1 H1 G2 H2 : Hp} {σ : L2.St} {ρ : Rho}
theorem Step.refl (e : Ex G H) : Step b m G H G H := ⟨Ex.refl G, e, fun _ _ h _ _ => h, fun _ _ _ _ h => h, fun _ o t h => ⟨o, t, h⟩, fun h => h⟩
theorem Step.trans (x : Step b m G H G1 H1) (y : Step b m G1 H1 G2 H2) : Step b m G H G2 H2 :=
  ⟨x.g.trans y.g, y.s, fun a o h1 t h2 => let ⟨o', t', h'⟩ := x.stay a o t h2; y.fresh a o' (x.fresh a o h1 t h2) t' h', fun a o n t h => y.keep a o n t (x.keep a o n t h), fun a o t h => let ⟨o', t', h'⟩ := x.stay a o t h; y.stay a o' t' h', fun h => y.tabs (x.tabs h)⟩
theorem Step.up (x : Step b false G H G1 H1) : Step b m G H G1 H1 := ⟨x.g, x.s, x.fresh, fun a o _ t h => x.keep a o (fun z => by cases z) t h, x.stay, x.tabs⟩
/-- a new object -/
theorem Step.new {p : Addr} {o : HO} (e : Ex G H) (hp : H p = none) (nt : NoT o := by intro _ z; cases z) : Step b m G H (upd G p o) (upd H p o) := by
  have gp : G p = none := fresh_back e hp
  refine ⟨Ex.new gp, fun a u h => ?_, fun a u h1 t h2 => ?_, fun a u _ _ h => ?_, fun a u t h => ?_, fun h => ⟨fun P q w => (h.tab P q w).ext fun a u z => ?_, fun x ps z => ?_⟩⟩
  · by_cases z : a = p
    · subst z; rw [upd_same] at h ⊢; exact h
    · rw [upd_ne z] at h ⊢; exact e a u h
  · rw [upd_ne (ne_of_none h2 hp)]; exact h1
  · rw [upd_ne (ne_of_none h hp)]; exact h
  · exact ⟨u, t, by rw [upd_ne (ne_of_none h hp)]; exact h⟩
  · rw [upd_ne (ne_of_none z hp)]; exact z
  · by_cases q : x = p
    · rw [q, upd_same] at z; exact nt ps (Option.some.inj z)
    · rw [upd_ne q] at z; exact h.free x ps z
theorem BagOk.step {m} (x : Step b m G H G1 H1) (h : BagOk b β G H) (hm : β.isSome = true → m = true → False ∨ H1 b = H b) : BagOk b β G1 H1 := fun ns e => by
  obtain ⟨h1, h2⟩ := h ns e
  refine ⟨?_, x.fresh b _ h2 NoT.lst h1⟩
  cases m with
  | false => exact x.keep b _ (fun z => by cases z) NoT.lst h1
  | true =>
    rcases hm (by rw [e]; rfl) rfl with z | z
    · exact z.elim
    · rw [z]; exact h1
theorem BagOk.same (x : Step b false G H G1 H1) (h : BagOk b β G H) : BagOk b β G1 H1 := BagOk.step x h fun _ z => by cases z
theorem BagOk.gone (x : Step b m G H G1 H1) (h : BagOk b β G H) : β.isSome = true → G1 b = none := fun z => by
  obtain ⟨ns, e⟩ := Option.isSome_iff_exists.mp z
  obtain ⟨h1, h2⟩ := h ns e
  exact x.fresh b _ h2 NoT.lst h1
theorem EnvD.step (E : EnvD K b β G H σ ρ) (x : Step b m G H G1 H1) (hb : BagOk b β' G1 H1) : EnvD K b β' G1 H1 σ ρ :=
  ⟨x.s, hb, E.len, fun i d h => let ⟨v, h1, h2⟩ := E.imm i d h; ⟨v, h1, h2.mono x.g⟩, E.bagv, x.tabs E.tabs, E.fnv⟩
theorem EnvD.same (E : EnvD K b β G H σ ρ) (x : Step b false G H G1 H1) : EnvD K b β G1 H1 σ ρ := E.step x (E.bagk.same x)
theorem EnvD.set {i : Nat} {v : V} {d : Dt} (E : EnvD K b β G H σ ρ) (h : Den K G v d) : EnvD K b β G H (σ.set i (some v)) (ρ.set i (some (.imm d))) := by
  refine ⟨E.sub, E.bagk, by rw [List.length_set, List.length_set]; exact E.len, fun j e hj => ?_, fun j hj => ?_, E.tabs, fun j a hj => ?_⟩
  · by_cases z : i = j
    · subst z
      have hl : i < ρ.length := by
        have := (List.getElem?_eq_some_iff.mp hj).1
        rw [List.length_set] at this
        exact this
      rw [List.getElem?_set_self hl] at hj
      cases hj
      exact ⟨v, List.getElem?_set_self (by rw [E.len]; exact hl), h⟩
    · rw [List.getElem?_set_ne z] at hj
      rw [List.getElem?_set_ne z]
      exact E.imm j e hj
  · by_cases z : i = j
    · subst z
      have hl : i < ρ.length := by
        have := (List.getElem?_eq_some_iff.mp hj).1
        rw [List.length_set] at this
        exact this
      rw [List.getElem?_set_self hl] at hj
      cases hj
    · rw [List.getElem?_set_ne z] at hj
      rw [List.getElem?_set_ne z]
      exact E.bagv j hj
  · by_cases z : i = j
    · subst z
      have hl : i < ρ.length := by
        have := (List.getElem?_eq_some_iff.mp hj).1
        rw [List.length_set] at this
        exact this
      rw [List.getElem?_set_self hl] at hj
      cases hj
    · rw [List.getElem?_set_ne z] at hj
      rw [List.getElem?_set_ne z]
      exact E.fnv j a hj
theorem EnvD.setBag {i : Nat} (E : EnvD K b β G H σ ρ) : EnvD K b β G H (σ.set i (some (.ref b))) (ρ.set i (some .bag)) := by
  refine ⟨E.sub, E.bagk, by rw [List.length_set, List.length_set]; exact E.len, fun j e hj => ?_, fun j hj => ?_, E.tabs, fun j a hj => ?_⟩
  · by_cases z : i = j
    · subst z
      have hl : i < ρ.length := by
        have := (List.getElem?_eq_some_iff.mp hj).1
        rw [List.length_set] at this
        exact this
      rw [List.getElem?_set_self hl] at hj
      cases hj
    · rw [List.getElem?_set_ne z] at hj
      rw [List.getElem?_set_ne z]
      exact E.imm j e hj
  · by_cases z : i = j
    · subst z
      have hl : i < ρ.length := by
        have := (List.getElem?_eq_some_iff.mp hj).1
        rw [List.length_set] at this
        exact this
      exact List.getElem?_set_self (by rw [E.len]; exact hl)
    · rw [List.getElem?_set_ne z] at hj
      rw [List.getElem?_set_ne z]
      exact E.bagv j hj
  · by_cases z : i = j
    · subst z
      have hl : i < ρ.length := by
        have := (List.getElem?_eq_some_iff.mp hj).1
        rw [List.length_set] at this
        exact this
      rw [List.getElem?_set_self hl] at hj
      cases hj
    · rw [List.getElem?_set_ne z] at hj
      rw [List.getElem?_set_ne z]
      exact E.fnv j a hj
theorem EnvD.setFn {i : Nat} {f : Addr} (E : EnvD K b β G H σ ρ) : EnvD K b β G H (σ.set i (some (.ref f))) (ρ.set i (some (.fn f))) := by
  refine ⟨E.sub, E.bagk, by rw [List.length_set, List.length_set]; exact E.len, fun j e hj => ?_, fun j hj => ?_, E.tabs, fun j a hj => ?_⟩
  · by_cases z : i = j
    · subst z
      have hl : i < ρ.length := by
        have := (List.getElem?_eq_some_iff.mp hj).1
        rw [List.length_set] at this
        exact this
      rw [List.getElem?_set_self hl] at hj
      cases hj
    · rw [List.getElem?_set_ne z] at hj
      rw [List.getElem?_set_ne z]
      exact E.imm j e hj
  · by_cases z : i = j
    · subst z
      have hl : i < ρ.length := by
        have := (List.getElem?_eq_some_iff.mp hj).1
        rw [List.length_set] at this
        exact this
      rw [List.getElem?_set_self hl] at hj
      cases hj
    · rw [List.getElem?_set_ne z] at hj
      rw [List.getElem?_set_ne z]
      exact E.bagv j hj
  · by_cases z : i = j
    · subst z
      have hl : i < ρ.length := by
        have := (List.getElem?_eq_some_iff.mp hj).1
        rw [List.length_set] at this
        exact this
      rw [List.getElem?_set_self hl] at hj
      cases hj
      exact List.getElem?_set_self (by rw [E.len]; exact hl)
    · rw [List.getElem?_set_ne z] at hj
      rw [List.getElem?_set_ne z]
      exact E.fnv j a hj
theorem EnvD.unset {i : Nat} (E : EnvD K b β G H σ ρ) : EnvD K b β G H (σ.set i none) (ρ.set i none) := by
  refine ⟨E.sub, E.bagk, by rw [List.length_set, List.length_set]; exact E.len, fun j e hj => ?_, fun j hj => ?_, E.tabs, fun j a hj => ?_⟩
  · by_cases z : i = j
    · subst z
      have hl : i < ρ.length := by
        have := (List.getElem?_eq_some_iff.mp hj).1
        rw [List.length_set] at this
        exact this
      rw [List.getElem?_set_self hl] at hj
      cases hj
    · rw [List.getElem?_set_ne z] at hj
      rw [List.getElem?_set_ne z]
      exact E.imm j e hj
  · by_cases z : i = j
    · subst z
      have hl : i < ρ.length := by
        have := (List.getElem?_eq_some_iff.mp hj).1
        rw [List.length_set] at this
        exact this
      rw [List.getElem?_set_self hl] at hj
      cases hj
    · rw [List.getElem?_set_ne z] at hj
      rw [List.getElem?_set_ne z]
      exact E.bagv j hj
  · by_cases z : i = j
    · subst z
      have hl : i < ρ.length := by
        have := (List.getElem?_eq_some_iff.mp hj).1
        rw [List.length_set] at this
        exact this
      rw [List.getElem?_set_self hl] at hj
      cases hj
    · rw [List.getElem?_set_ne z] at hj
      rw [List.getElem?_set_ne z]
      exact E.fnv j a hj
def wipeR (ρ : Rho) : List Nat → Rho
  | [] => ρ
  | v :: vs => (wipeR ρ vs).set v none
theorem EnvD.wipe (E : EnvD K b β G H σ ρ) : ∀ vs : List Nat, EnvD K b β G H (L2.wipe σ vs) (wipeR ρ vs)
  | [] => E
  | v :: vs => (EnvD.wipe E vs).unset
end

/-! ### what a reading comes to -/
/-- an expression: the datum d, the bag behind it β' -/
structure EvB [TabW] (K : PySem.W.Frag) (te : TE) (ρ : Rho) (β : Bag) (d : Dt) (β' : Bag) : Prop where
  som : β'.isSome = β.isSome
  run : ∀ (b : Addr) (G H : Hp) (σ : L2.St) (Q : VK), EnvD K b β G H σ ρ → (∀ v G' H', Step b β.isSome G H G' H' → BagOk b β' G' H' → Den K G' v d → Q v H') → te σ H Q
structure TtB [TabW] (K : PySem.W.Frag) (tt : TT) (ρ : Rho) (β : Bag) (c : Bool) (β' : Bag) : Prop where
  som : β'.isSome = β.isSome
  run : ∀ (b : Addr) (G H : Hp) (σ : L2.St) (Q : Bool → Hp → Prop), EnvD K b β G H σ ρ → (∀ G' H', Step b β.isSome G H G' H' → BagOk b β' G' H' → Q c H') → tt σ H Q
/-- arguments: data, or the bag itself -/
def DenS (K : PySem.W.Frag) (b : Addr) (G : Hp) (v : V) : Slot → Prop
  | .imm d => Den K G v d
  | .bag => v = .ref b
  | .fn a => v = .ref a
inductive DenSs (K : PySem.W.Frag) (b : Addr) (G : Hp) : List V → List Slot → Prop
  | nil : DenSs K b G [] []
  | cons {v : V} {vs : List V} {a : Slot} {as : List Slot} : DenS K b G v a → DenSs K b G vs as → DenSs K b G (v :: vs) (a :: as)
structure EvS [TabW] (K : PySem.W.Frag) (te : TE) (ρ : Rho) (β : Bag) (a : Slot) (β' : Bag) : Prop where
  som : β'.isSome = β.isSome
  run : ∀ (b : Addr) (G H : Hp) (σ : L2.St) (Q : VK), EnvD K b β G H σ ρ → (∀ v G' H', Step b β.isSome G H G' H' → BagOk b β' G' H' → DenS K b G' v a → Q v H') → te σ H Q
structure EvA [TabW] (K : PySem.W.Frag) (ta : TA) (ρ : Rho) (β : Bag) (as : List Slot) (β' : Bag) : Prop where
  som : β'.isSome = β.isSome
  run : ∀ (b : Addr) (G H : Hp) (σ : L2.St) (Q : List V → Hp → Prop), EnvD K b β G H σ ρ → (∀ vs G' H', Step b β.isSome G H G' H' → BagOk b β' G' H' → DenSs K b G' vs as → Q vs H') → ta σ H Q
inductive Out where
  | nx (ρ : Rho)
  | ret (d : Dt)
  | brk (ρ : Rho)
  | ct (ρ : Rho)
def OutOk [TabW] (K : PySem.W.Frag) (b : Addr) (m : Bool) (β' : Bag) (G H : Hp) (D : Ends) : Out → Prop
  | .nx ρ' => ∀ σ' G' H', Step b m G H G' H' → EnvD K b β' G' H' σ' ρ' → D.nx σ' H'
  | .brk ρ' => ∀ σ' G' H', Step b m G H G' H' → EnvD K b β' G' H' σ' ρ' → D.bk σ' H'
  | .ct ρ' => ∀ σ' G' H', Step b m G H G' H' → EnvD K b β' G' H' σ' ρ' → D.ct σ' H'
  | .ret d => ∀ v G' H', Step b m G H G' H' → BagOk b β' G' H' → Den K G' v d → D.rt v H'
structure StB [TabW] (K : PySem.W.Frag) (ts : TS) (ρ : Rho) (β : Bag) (o : Out) (β' : Bag) : Prop where
  som : β'.isSome = β.isSome
  run : ∀ (b : Addr) (G H : Hp) (σ : L2.St) (D : Ends), EnvD K b β G H σ ρ → OutOk K b β.isSome β' G H D o → ts D σ H
end TD
/-! ## TdEv -/
set_option Elab.async false
set_option linter.all false
set_option maxRecDepth 100000
set_option maxHeartbeats 3000000
/-! What the terms come to: expressions. -/
namespace TD
open PySem L2
open Evl (Ex ex_l ex_t fresh_back sq_of st_of sz_of sz_lt rMax2)
section
variable [TabW] {K : PySem.W.Frag} {b : Addr} {ρ : Rho} {β β1 β2 β3 : Bag} {ta tb te tc : TE} {tt tu : TT} {x y z d : Dt} {G H G1 H1 G2 H2 : Hp} {σ : L2.St}

theorem BagOk.of_false {G H G1 H1} (x : Step b false G H G1 H1) (h : BagOk b β G H) : BagOk b β G1 H1 := h.same x
/-- the leaf: the state as it stands -/
theorem ev_now (h : ∀ b G H σ, EnvD K b β G H σ ρ → ∀ Q : VK, (∀ v, Den K G v d → Q v H) → te σ H Q) : EvB K te ρ β d β :=
  ⟨rfl, fun b G H σ Q E k => h b G H σ E Q fun v hv => k v G H (Step.refl E.sub) E.bagk hv⟩
theorem d_var {i : Nat} (h : ρ[i]? = some (some (Slot.imm d))) : EvB K (tVar i) ρ β d β := ev_now fun b G H σ E Q k => by
  obtain ⟨v, h1, h2⟩ := E.imm i d h
  exact ⟨v, h1, k v h2⟩
theorem d_int {i : Int} : EvB K (tC (.int i)) ρ β (.int i) β := ev_now fun _ _ _ _ _ _ k => k _ (.int i)
theorem d_bl {c : Bool} : EvB K (tC (.bl c)) ρ β (.bool c) β := ev_now fun _ _ _ _ _ _ k => k _ (.bl c)
theorem d_non : EvB K (tC .non) ρ β .none β := ev_now fun _ _ _ _ _ _ k => k _ .non
theorem d_str {s : Str} : EvB K (tC (.str s)) ρ β (.str s) β := ev_now fun _ _ _ _ _ _ k => k _ (.str s)
/-- a constant of the module, a tuple or list of the written part -/
theorem d_ref {a : Addr} (h : ∀ G, Den K G (.ref a) d) : EvB K (tC (.ref a)) ρ β d β := ev_now fun _ G _ _ _ _ k => k _ (h G)
theorem EvB.to {d' : Dt} (h : EvB K te ρ β d β1) (e : d = d') : EvB K te ρ β d' β1 := e ▸ h
theorem TtB.to {c c' : Bool} (h : TtB K tt ρ β c β1) (e : c = c') : TtB K tt ρ β c' β1 := e ▸ h

/-! ### two parts, one part -/
theorem d_op {r : R2} (ha : EvB K ta ρ β x β1) (hb : EvB K tb ρ β1 y β2)
    (hr : ∀ (b : Addr) (G H : Hp) (v w : V) (Q : VK), Ex G H → Den K G v x → Den K G w y → (∀ u G' H', Step b false G H G' H' → Den K G' u z → Q u H') → r v w H Q) : EvB K (tOp r ta tb) ρ β z β2 := by
  refine ⟨hb.som.trans ha.som, fun b G H σ Q E k => ?_⟩
  refine ha.run b G H σ _ E fun v G1 H1 s1 k1 d1 => ?_
  refine hb.run b G1 H1 σ _ (E.step s1 k1) fun w G2 H2 s2 k2 d2 => ?_
  rw [ha.som] at s2
  exact hr b G2 H2 v w Q s2.s (d1.mono s2.g) d2 fun u G3 H3 s3 d3 => k u G3 H3 ((s1.trans s2).trans s3.up) (k2.same s3) d3
theorem d_un {r : V → Hp → VK → Prop} (ha : EvB K ta ρ β x β1) (hr : ∀ (b : Addr) (G H : Hp) (v : V) (Q : VK), Ex G H → Den K G v x → (∀ u G' H', Step b false G H G' H' → Den K G' u z → Q u H') → r v H Q) : EvB K (tUn r ta) ρ β z β1 := by
  refine ⟨ha.som, fun b G H σ Q E k => ?_⟩
  refine ha.run b G H σ _ E fun v G1 H1 s1 k1 d1 => ?_
  exact hr b G1 H1 v Q s1.s d1 fun u G3 H3 s3 d3 => k u G3 H3 (s1.trans s3.up) (k1.same s3) d3
/-! ### ints -/
def toD : V → Dt
  | .int i => .int i
  | .bl c => .bool c
  | .str s => .str s
  | _ => .none
theorem den_toI {G : Hp} (i : Int) : Den K G (.int i) (toD (.int i)) := .int i
theorem d_rI0 {g : Int → Int → V} {i j : Int} (ha : EvB K ta ρ β (.int i) β1) (hb : EvB K tb ρ β1 (.int j) β2) (hz : ∀ G, Den K G (g i j) z) : EvB K (tOp (rI0 g) ta tb) ρ β z β2 :=
  d_op ha hb fun b G H v w Q e h1 h2 k => by
    cases h1
    cases h2
    exact ⟨i, j, rfl, rfl, k _ G H (Step.refl e) (hz G)⟩
theorem d_rI {C : Int → Int → Prop} {g : Int → Int → V} {i j : Int} (ha : EvB K ta ρ β (.int i) β1) (hb : EvB K tb ρ β1 (.int j) β2) (hc : C i j) (hz : ∀ G, Den K G (g i j) z) : EvB K (tOp (rI C g) ta tb) ρ β z β2 :=
  d_op ha hb fun b G H v w Q e h1 h2 k => by
    cases h1
    cases h2
    exact ⟨i, j, rfl, rfl, hc, k _ G H (Step.refl e) (hz G)⟩
theorem d_add {i j : Int} (ha : EvB K ta ρ β (.int i) β1) (hb : EvB K tb ρ β1 (.int j) β2) : EvB K (tOp (rI0 fun i j => .int (i + j)) ta tb) ρ β (.int (i + j)) β2 := d_rI0 ha hb fun _ => .int _
theorem d_sub {i j : Int} (ha : EvB K ta ρ β (.int i) β1) (hb : EvB K tb ρ β1 (.int j) β2) : EvB K (tOp (rI0 fun i j => .int (i - j)) ta tb) ρ β (.int (i - j)) β2 := d_rI0 ha hb fun _ => .int _
theorem d_lt {i j : Int} (ha : EvB K ta ρ β (.int i) β1) (hb : EvB K tb ρ β1 (.int j) β2) : EvB K (tOp (rI0 fun i j => .bl (decide (i < j))) ta tb) ρ β (.bool (decide (i < j))) β2 := d_rI0 ha hb fun _ => .bl _
theorem d_le {i j : Int} (ha : EvB K ta ρ β (.int i) β1) (hb : EvB K tb ρ β1 (.int j) β2) : EvB K (tOp (rI0 fun i j => .bl (decide (i ≤ j))) ta tb) ρ β (.bool (decide (i ≤ j))) β2 := d_rI0 ha hb fun _ => .bl _
theorem d_gt {i j : Int} (ha : EvB K ta ρ β (.int i) β1) (hb : EvB K tb ρ β1 (.int j) β2) : EvB K (tOp (rI0 fun i j => .bl (decide (j < i))) ta tb) ρ β (.bool (decide (j < i))) β2 := d_rI0 ha hb fun _ => .bl _
theorem d_ge {i j : Int} (ha : EvB K ta ρ β (.int i) β1) (hb : EvB K tb ρ β1 (.int j) β2) : EvB K (tOp (rI0 fun i j => .bl (decide (j ≤ i))) ta tb) ρ β (.bool (decide (j ≤ i))) β2 := d_rI0 ha hb fun _ => .bl _
theorem d_mul {i j : Int} {C : Int → Int → Prop} (ha : EvB K ta ρ β (.int i) β1) (hb : EvB K tb ρ β1 (.int j) β2) (hc : C i j) : EvB K (tOp (rI C fun i j => .int (i * j)) ta tb) ρ β (.int (i * j)) β2 := d_rI ha hb hc fun _ => .int _
theorem d_mod {i j : Int} {C : Int → Int → Prop} (ha : EvB K ta ρ β (.int i) β1) (hb : EvB K tb ρ β1 (.int j) β2) (hc : C i j) : EvB K (tOp (rI C fun i j => .int (i % j)) ta tb) ρ β (.int (i % j)) β2 := d_rI ha hb hc fun _ => .int _
theorem d_div {i j : Int} {C : Int → Int → Prop} (ha : EvB K ta ρ β (.int i) β1) (hb : EvB K tb ρ β1 (.int j) β2) (hc : C i j) : EvB K (tOp (rI C fun i j => .int (i / j)) ta tb) ρ β (.int (i / j)) β2 := d_rI ha hb hc fun _ => .int _
theorem d_pow {i j : Int} {C : Int → Int → Prop} (ha : EvB K ta ρ β (.int i) β1) (hb : EvB K tb ρ β1 (.int j) β2) (hc : C i j) : EvB K (tOp (rI C fun i j => .int (i ^ j.toNat)) ta tb) ρ β (.int (i ^ j.toNat)) β2 := d_rI ha hb hc fun _ => .int _
theorem d_neg {i : Int} (ha : EvB K ta ρ β (.int i) β1) : EvB K (tUn (rU fun i => .int (-i)) ta) ρ β (.int (-i)) β1 := d_un ha fun b G H v Q e h1 k => by
  cases h1
  exact ⟨i, rfl, k _ G H (Step.refl e) (.int _)⟩
/-! ### == of scalars -/
theorem d_eqI {i j : Int} (ha : EvB K ta ρ β (.int i) β1) (hb : EvB K tb ρ β1 (.int j) β2) : EvB K (tOp rEq ta tb) ρ β (.bool (decide (i = j))) β2 := d_op ha hb fun b G H v w Q e h1 h2 k => by
  cases h1
  cases h2
  have q : decide (V.int i = V.int j) = decide (i = j) := by
    by_cases z : i = j
    · subst z; simp
    · rw [decide_eq_false z]; exact decide_eq_false fun q => z (V.int.inj q)
  exact ⟨rfl, by rw [q]; exact k _ G H (Step.refl e) (.bl _)⟩
theorem d_neI {i j : Int} (ha : EvB K ta ρ β (.int i) β1) (hb : EvB K tb ρ β1 (.int j) β2) : EvB K (tOp rNe ta tb) ρ β (.bool (!decide (i = j))) β2 := d_op ha hb fun b G H v w Q e h1 h2 k => by
  cases h1
  cases h2
  have q : decide (V.int i = V.int j) = decide (i = j) := by
    by_cases z : i = j
    · subst z; simp
    · rw [decide_eq_false z]; exact decide_eq_false fun q => z (V.int.inj q)
  exact ⟨rfl, by rw [q]; exact k _ G H (Step.refl e) (.bl _)⟩
theorem str_dec (i j : Str) : decide (V.str i = V.str j) = decide (i = j) := by
  by_cases z : i = j
  · subst z; simp
  · rw [decide_eq_false z]; exact decide_eq_false fun q => z (V.str.inj q)
theorem d_eqS {i j : Str} (ha : EvB K ta ρ β (.str i) β1) (hb : EvB K tb ρ β1 (.str j) β2) : EvB K (tOp rEq ta tb) ρ β (.bool (decide (i = j))) β2 := d_op ha hb fun b G H v w Q e h1 h2 k => by
  cases h1
  cases h2
  exact ⟨rfl, by rw [str_dec]; exact k _ G H (Step.refl e) (.bl _)⟩
theorem d_neS {i j : Str} (ha : EvB K ta ρ β (.str i) β1) (hb : EvB K tb ρ β1 (.str j) β2) : EvB K (tOp rNe ta tb) ρ β (.bool (!decide (i = j))) β2 := d_op ha hb fun b G H v w Q e h1 h2 k => by
  cases h1
  cases h2
  exact ⟨rfl, by rw [str_dec]; exact k _ G H (Step.refl e) (.bl _)⟩
/-! ### data without dicts -/
mutual
def flatD : Dt → Bool
  | .dict _ => false
  | .list xs => flatL xs
  | .tuple xs => flatL xs
  | _ => true
def flatL : List Dt → Bool
  | [] => true
  | d :: ds => flatD d && flatL ds
end
mutual
theorem Den.dp : ∀ {d : Dt} {v : V}, Ex G H → Den K G v d → flatD d = true → Dp K H v d
  | .none, _, _, h, _ => by cases h; exact .non
  | .bool c, _, _, h, _ => by cases h; exact .bl c
  | .int i, _, _, h, _ => by cases h; exact .int i
  | .str s, _, _, h, _ => by cases h; exact .str s
  | .list ds, _, e, h, f => by
    cases h with
    | lst hs hd => exact .lst (sq_of (e _ _ hs)) (DenL.dp e hd (by unfold flatD at f; exact f))
  | .tuple ds, _, e, h, f => by
    cases h with
    | tup hs hd => exact .tup (ex_t e hs) (DenL.dp e hd (by unfold flatD at f; exact f))
  | .dict _, _, _, _, f => by unfold flatD at f; cases f
theorem DenL.dp : ∀ {ds : List Dt} {vs : List V}, Ex G H → DenL K G vs ds → flatL ds = true → DpAll K H vs ds
  | [], _, _, h, _ => by cases h; exact .nil
  | d :: ds, _, e, h, f => by
    unfold flatL at f
    rw [Bool.and_eq_true] at f
    cases h with
    | cons h1 h2 => exact .cons (Den.dp e h1 f.1) (DenL.dp e h2 f.2)
end
theorem d_eqD (ha : EvB K ta ρ β x β1) (hb : EvB K tb ρ β1 y β2) (fx : flatD x = true) (fy : flatD y = true) (sx : SeqAt.shaped x = true) (sy : SeqAt.shaped y = true) : EvB K (tOp (rEqD K) ta tb) ρ β (.bool (PyData.eqv x y)) β2 :=
  d_op ha hb fun b G H v w Q e h1 h2 k => ⟨x, y, h1.dp e fx, h2.dp e fy, sx, sy, k _ G H (Step.refl e) (.bl _)⟩
theorem d_neD (ha : EvB K ta ρ β x β1) (hb : EvB K tb ρ β1 y β2) (fx : flatD x = true) (fy : flatD y = true) (sx : SeqAt.shaped x = true) (sy : SeqAt.shaped y = true) : EvB K (tOp (rNeD K) ta tb) ρ β (.bool (!PyData.eqv x y)) β2 :=
  d_op ha hb fun b G H v w Q e h1 h2 k => ⟨x, y, h1.dp e fx, h2.dp e fy, sx, sy, k _ G H (Step.refl e) (.bl _)⟩
/-! ### places and slices -/
theorem atI_map {α γ : Type} {xs : List α} {ys : List γ} (hl : xs.length = ys.length) {i : Int} {n : Nat} (h : ixN ys.length i = some n) : ixN xs.length i = some n := by rw [hl]; exact h
theorem den_at {xs : List V} {ds : List Dt} {i : Int} {d : Dt} (h : DenL K G xs ds) (ha : atI ds i = some d) : ∃ v, atI xs i = some v ∧ Den K G v d := by
  unfold atI at ha ⊢
  obtain ⟨n, h1, h2⟩ := Option.bind_eq_some_iff.mp ha
  obtain ⟨v, h3, h4⟩ := h.get' h2
  exact ⟨v, by rw [h.length, h1]; exact h3, h4⟩
theorem d_ixL {ds : List Dt} {i : Int} (ha : EvB K ta ρ β (.list ds) β1) (hb : EvB K tb ρ β1 (.int i) β2) (hi : atI ds i = some d) : EvB K (tOp (rIxL K) ta tb) ρ β d β2 := d_op ha hb fun b G H v w Q e h1 h2 k => by
  cases h2
  cases h1 with
  | lst hs hd =>
    obtain ⟨u, h3, h4⟩ := den_at hd hi
    exact ⟨_, _, i, u, rfl, rfl, sq_of (e _ _ hs), h3, k u G H (Step.refl e) h4⟩
theorem d_ixT {ds : List Dt} {i : Int} (ha : EvB K ta ρ β (.tuple ds) β1) (hb : EvB K tb ρ β1 (.int i) β2) (hi : atI ds i = some d) : EvB K (tOp (rIxT K) ta tb) ρ β d β2 := d_op ha hb fun b G H v w Q e h1 h2 k => by
  cases h2
  cases h1 with
  | tup hs hd =>
    obtain ⟨u, h3, h4⟩ := den_at hd hi
    exact ⟨_, _, i, u, rfl, rfl, ex_t e hs, h3, k u G H (Step.refl e) h4⟩
/-- of a list or a tuple -/
theorem d_ix {ds : List Dt} {i : Int} (ha : EvB K ta ρ β x β1) (hx : x = .list ds ∨ x = .tuple ds) (hb : EvB K tb ρ β1 (.int i) β2) (hi : atI ds i = some d) : EvB K (tOp (rIx K) ta tb) ρ β d β2 := d_op ha hb fun b G H v w Q e h1 h2 k => by
  cases h2
  rcases hx with rfl | rfl
  · cases h1 with
    | lst hs hd =>
      obtain ⟨u, h3, h4⟩ := den_at hd hi
      exact .inl ⟨_, _, i, u, rfl, rfl, sq_of (e _ _ hs), h3, k u G H (Step.refl e) h4⟩
  · cases h1 with
    | tup hs hd =>
      obtain ⟨u, h3, h4⟩ := den_at hd hi
      exact .inr (.inl ⟨_, _, i, u, rfl, rfl, ex_t e hs, h3, k u G H (Step.refl e) h4⟩)
def EvO (K : PySem.W.Frag) (to : TO) (ρ : Rho) (β : Bag) (o : Option Int) (β' : Bag) : Prop := β'.isSome = β.isSome ∧ ∀ (b : Addr) (G H : Hp) (σ : L2.St) (Q : Option Int → Hp → Prop), EnvD K b β G H σ ρ → (∀ G' H', Step b β.isSome G H G' H' → BagOk b β' G' H' → Q o H') → to σ H Q
theorem o_none : EvO K tNoPart ρ β none β := ⟨rfl, fun b G H σ Q E k => k G H (Step.refl E.sub) E.bagk⟩
theorem o_some {i : Int} (h : EvB K te ρ β (.int i) β1) : EvO K (tPart te) ρ β (some i) β1 := ⟨h.som, fun b G H σ Q E k => h.run b G H σ _ E fun v G1 H1 s1 k1 d1 => by
  cases d1
  exact ⟨i, rfl, k G1 H1 s1 k1⟩⟩
def cutD (xs : List Dt) (lo hi : Option Int) : List Dt := (xs.drop (HT.sIx xs.length 0 lo)).take (HT.sIx xs.length xs.length hi - HT.sIx xs.length 0 lo)
theorem den_cut {xs : List V} {ds : List Dt} {lo hi : Option Int} (h : DenL K G xs ds) : DenL K G (cutV xs lo hi) (cutD ds lo hi) := by
  unfold cutV cutD
  rw [h.length]
  exact (h.drop _).take _
theorem d_slL {tl th : TO} {ds : List Dt} {lo hi : Option Int} (ha : EvB K te ρ β (.list ds) β1) (h1 : EvO K tl ρ β1 lo β2) (h2 : EvO K th ρ β2 hi β3) : EvB K (tSl (rSlL K) te tl th) ρ β (.list (cutD ds lo hi)) β3 := by
  refine ⟨h2.1.trans (h1.1.trans ha.som), fun b G H σ Q E k => ?_⟩
  refine ha.run b G H σ _ E fun v G1 H1 s1 k1 d1 => ?_
  have E1 := E.step s1 k1
  refine h1.2 b G1 H1 σ _ E1 fun G2 H2 s2 k2 => ?_
  have E2 := E1.step s2 k2
  refine h2.2 b G2 H2 σ _ E2 fun G3 H3 s3 k3 => ?_
  rw [h1.1, ha.som] at s3
  rw [ha.som] at s2
  have d3 := (d1.mono s2.g).mono s3.g
  cases d3 with
  | @lst a xs _ hs hd =>
    refine ⟨_, _, rfl, sq_of (s3.s _ _ hs), fun p hp => ?_⟩
    have n := Step.new (b := b) (m := false) (o := .lst (cutV xs lo hi)) s3.s hp
    exact k (.ref p) _ _ (((s1.trans s2).trans s3).trans n.up) (k3.same n) (.lst upd_same ((den_cut hd).mono n.g))
/-! ### displays -/
theorem s_imm (h : EvB K te ρ β d β1) : EvS K te ρ β (.imm d) β1 := ⟨h.som, fun b G H σ Q E k => h.run b G H σ Q E k⟩
theorem s_bag {i : Nat} (h : ρ[i]? = some (some Slot.bag)) : EvS K (tVar i) ρ β .bag β := ⟨rfl, fun b G H σ Q E k => ⟨_, E.bagv i h, k _ G H (Step.refl E.sub) E.bagk rfl⟩⟩
theorem s_fn {i : Nat} {a : Addr} (h : ρ[i]? = some (some (Slot.fn a))) : EvS K (tVar i) ρ β (.fn a) β := ⟨rfl, fun b G H σ Q E k => ⟨_, E.fnv i a h, k _ G H (Step.refl E.sub) E.bagk rfl⟩⟩
theorem DenS.mono {a : Slot} {v : V} (e : Ex G G1) (h : DenS K b G v a) : DenS K b G1 v a := by
  cases a with
  | imm d => exact Den.mono e h
  | bag => exact h
  | fn a => exact h
theorem DenSs.mono {as : List Slot} {vs : List V} (e : Ex G G1) (h : DenSs K b G vs as) : DenSs K b G1 vs as := by
  induction h with
  | nil => exact .nil
  | cons h _ ih => exact .cons (h.mono e) ih
theorem a_nil : EvA K tNil ρ β [] β := ⟨rfl, fun b G H σ Q E k => k [] G H (Step.refl E.sub) E.bagk .nil⟩
theorem a_cons {tr : TA} {a : Slot} {as : List Slot} (h : EvS K te ρ β a β1) (hr : EvA K tr ρ β1 as β2) : EvA K (tCons te tr) ρ β (a :: as) β2 := by
  refine ⟨hr.som.trans h.som, fun b G H σ Q E k => ?_⟩
  refine h.run b G H σ _ E fun v G1 H1 s1 k1 d1 => ?_
  refine hr.run b G1 H1 σ _ (E.step s1 k1) fun vs G2 H2 s2 k2 d2 => ?_
  rw [h.som] at s2
  exact k _ G2 H2 (s1.trans s2) k2 (.cons (d1.mono s2.g) d2)
theorem a_con {tr : TA} {as : List Slot} (h : EvB K te ρ β d β1) (hr : EvA K tr ρ β1 as β2) : EvA K (tCons te tr) ρ β (.imm d :: as) β2 := a_cons (s_imm h) hr
def imms (ds : List Dt) : List Slot := ds.map Slot.imm
theorem DenSs.imm : ∀ {vs : List V} {ds : List Dt}, DenSs K b G vs (imms ds) → DenL K G vs ds
  | _, [], h => by cases h; exact .nil
  | _, d :: ds, h => by
    cases h with
    | cons h1 h2 => exact .cons h1 (DenSs.imm h2)
theorem DenL.ss : ∀ {vs : List V} {ds : List Dt}, DenL K G vs ds → DenSs K b G vs (imms ds)
  | [], [], _ => .nil
  | [], _ :: _, h => nomatch h
  | _ :: _, [], h => nomatch h
  | _ :: _, _ :: _, .cons h1 h2 => .cons h1 (DenL.ss h2)
theorem DenSs.length {as : List Slot} {vs : List V} (h : DenSs K b G vs as) : vs.length = as.length := by
  induction h with
  | nil => rfl
  | cons _ _ ih => exact congrArg (· + 1) ih
theorem d_tup {t : TA} {as : List Slot} {ds : List Dt} (h : EvA K t ρ β as β1) (ha : as = imms ds) (hl : ds.length ≤ 100000) : EvB K (tTup t) ρ β (.tuple ds) β1 := by
  refine ⟨h.som, fun b G H σ Q E k => ?_⟩
  refine h.run b G H σ _ E fun vs G1 H1 s1 k1 d1 => ?_
  subst ha
  have dl := d1.imm
  refine ⟨sz_of (by rw [dl.length]; exact hl), fun p hp => ?_⟩
  have n := Step.new (b := b) (m := false) (o := .tup vs) s1.s hp
  exact k (.ref p) _ _ (s1.trans n.up) (k1.same n) (.tup (st_of upd_same) (dl.mono n.g))
theorem d_lst {t : TA} {as : List Slot} {ds : List Dt} (h : EvA K t ρ β as β1) (ha : as = imms ds) (hl : ds.length ≤ 100000) : EvB K (tLst t) ρ β (.list ds) β1 := by
  refine ⟨h.som, fun b G H σ Q E k => ?_⟩
  refine h.run b G H σ _ E fun vs G1 H1 s1 k1 d1 => ?_
  subst ha
  have dl := d1.imm
  refine ⟨sz_of (by rw [dl.length]; exact hl), fun p hp => ?_⟩
  have n := Step.new (b := b) (m := false) (o := .lst vs) s1.s hp
  exact k (.ref p) _ _ (s1.trans n.up) (k1.same n) (.lst upd_same (dl.mono n.g))
/-! ### built-ins -/
theorem d_cb {r : List V → Hp → VK → Prop} {t : TA} {as : List Slot} {ds : List Dt} (h : EvA K t ρ β as β1) (ha : as = imms ds)
    (hr : ∀ (b : Addr) (G H : Hp) (vs : List V) (Q : VK), Ex G H → DenL K G vs ds → (∀ u G' H', Step b false G H G' H' → Den K G' u z → Q u H') → r vs H Q) : EvB K (tCB r t) ρ β z β1 := by
  refine ⟨h.som, fun b G H σ Q E k => ?_⟩
  refine h.run b G H σ _ E fun vs G1 H1 s1 k1 d1 => ?_
  subst ha
  exact hr b G1 H1 vs Q s1.s d1.imm fun u G3 H3 s3 d3 => k u G3 H3 (s1.trans s3.up) (k1.same s3) d3
theorem den1 {vs : List V} (h : DenL K G vs [d]) : ∃ v, vs = [v] ∧ Den K G v d := by
  cases h with
  | cons h1 h2 => cases h2; exact ⟨_, rfl, h1⟩
theorem den2 {vs : List V} (h : DenL K G vs [x, y]) : ∃ v w, vs = [v, w] ∧ Den K G v x ∧ Den K G w y := by
  cases h with
  | cons h1 h2 =>
    obtain ⟨w, rfl, h3⟩ := den1 h2
    exact ⟨_, w, rfl, h1, h3⟩
/-- what a call of one datum asks -/
theorem d_c1 {r : List V → Hp → VK → Prop} (h : EvB K te ρ β x β1) (hr : ∀ (b : Addr) (G H : Hp) (v : V) (Q : VK), Ex G H → Den K G v x → (∀ u G' H', Step b false G H G' H' → Den K G' u z → Q u H') → r [v] H Q) : EvB K (tCB r (tCons te tNil)) ρ β z β1 :=
  d_cb (ds := [x]) (a_con h a_nil) rfl fun b G H vs Q e dl k => by
    obtain ⟨v, rfl, dv⟩ := den1 dl
    exact hr b G H v Q e dv k
theorem d_c2 {r : List V → Hp → VK → Prop} (h : EvB K ta ρ β x β1) (h' : EvB K tb ρ β1 y β2) (hr : ∀ (b : Addr) (G H : Hp) (v w : V) (Q : VK), Ex G H → Den K G v x → Den K G w y → (∀ u G' H', Step b false G H G' H' → Den K G' u z → Q u H') → r [v, w] H Q) : EvB K (tCB r (tCons ta (tCons tb tNil))) ρ β z β2 :=
  d_cb (ds := [x, y]) (a_con h (a_con h' a_nil)) rfl fun b G H vs Q e dl k => by
    obtain ⟨v, w, rfl, dv, dw⟩ := den2 dl
    exact hr b G H v w Q e dv dw k
def rAbs : List V → Hp → VK → Prop := fun xs H Q => ∃ i, xs = [.int i] ∧ Q (.int (if i < 0 then -i else i)) H
def rMin2 : List V → Hp → VK → Prop := fun xs H Q => ∃ i j, xs = [.int i, .int j] ∧ Q (.int (if j < i then j else i)) H
def rInt1 : List V → Hp → VK → Prop := fun xs H Q => (∃ i, xs = [.int i] ∧ Q (.int i) H) ∨ ∃ k, xs = [.bl k] ∧ Q (.int (if k then 1 else 0)) H
def rLen (K : PySem.W.Frag) : List V → Hp → VK → Prop := fun xs H Q => ∃ p ys, xs = [.ref p] ∧ (SqL K H p ys ∨ SqT K H p ys) ∧ Q (.int ys.length) H
def rListOf (K : PySem.W.Frag) : List V → Hp → VK → Prop := fun xs H Q => ∃ p ys, xs = [.ref p] ∧ (SqL K H p ys ∨ SqT K H p ys) ∧ ∀ l, H l = none → Q (.ref l) (upd H l (.lst ys))
def rTupleOf (K : PySem.W.Frag) : List V → Hp → VK → Prop := fun xs H Q => ∃ p ys, xs = [.ref p] ∧ ((SqL K H p ys ∧ ∀ l, H l = none → Q (.ref l) (upd H l (.tup ys))) ∨ (SqT K H p ys ∧ Q (.ref p) H))
omit [TabW] in
theorem c_abs {X : Cx} : CallR X (.builtin "abs") rAbs := call_abs
omit [TabW] in
theorem c_max2 {X : Cx} (hc : X.calm = true) : CallR X (.builtin "max") rMax2 := call_max2 hc
omit [TabW] in
theorem c_min2 {X : Cx} (hc : X.calm = true) : CallR X (.builtin "min") rMin2 := call_min2 hc
omit [TabW] in
theorem c_int {X : Cx} : CallR X (.type "int") rInt1 := call_int1
omit [TabW] in
theorem c_len {X : Cx} : CallR X (.builtin "len") (rLen X.K) := call_len_seq
omit [TabW] in
theorem c_list {X : Cx} : CallR X (.type "list") (rListOf X.K) := call_list_of
omit [TabW] in
theorem c_tuple {X : Cx} : CallR X (.type "tuple") (rTupleOf X.K) := call_tuple_of
def absI (i : Int) : Int := if i < 0 then -i else i
theorem d_abs {i : Int} (h : EvB K te ρ β (.int i) β1) : EvB K (tCB rAbs (tCons te tNil)) ρ β (.int (absI i)) β1 := d_c1 h fun b G H v Q e dv k => by
  cases dv
  exact ⟨i, rfl, k _ G H (Step.refl e) (.int _)⟩
theorem d_max2 {i j : Int} (h : EvB K ta ρ β (.int i) β1) (h' : EvB K tb ρ β1 (.int j) β2) : EvB K (tCB rMax2 (tCons ta (tCons tb tNil))) ρ β (.int (if j > i then j else i)) β2 := d_c2 h h' fun b G H v w Q e dv dw k => by
  cases dv
  cases dw
  exact ⟨i, j, rfl, k _ G H (Step.refl e) (.int _)⟩
theorem d_min2 {i j : Int} (h : EvB K ta ρ β (.int i) β1) (h' : EvB K tb ρ β1 (.int j) β2) : EvB K (tCB rMin2 (tCons ta (tCons tb tNil))) ρ β (.int (if j < i then j else i)) β2 := d_c2 h h' fun b G H v w Q e dv dw k => by
  cases dv
  cases dw
  exact ⟨i, j, rfl, k _ G H (Step.refl e) (.int _)⟩
theorem d_intI {i : Int} (h : EvB K te ρ β (.int i) β1) : EvB K (tCB rInt1 (tCons te tNil)) ρ β (.int i) β1 := d_c1 h fun b G H v Q e dv k => by
  cases dv
  exact .inl ⟨i, rfl, k _ G H (Step.refl e) (.int _)⟩
theorem d_intB {c : Bool} (h : EvB K te ρ β (.bool c) β1) : EvB K (tCB rInt1 (tCons te tNil)) ρ β (.int (if c then 1 else 0)) β1 := d_c1 h fun b G H v Q e dv k => by
  cases dv
  exact .inr ⟨c, rfl, k _ G H (Step.refl e) (.int _)⟩
/-- a list or a tuple of ds -/
def SeqD (x : Dt) (ds : List Dt) : Prop := x = .list ds ∨ x = .tuple ds
theorem Den.seq {v : V} {ds : List Dt} (h : Den K G v x) (hx : SeqD x ds) (e : Ex G H) : ∃ p ys, v = .ref p ∧ (SqL K H p ys ∨ SqT K H p ys) ∧ DenL K G ys ds := by
  rcases hx with rfl | rfl
  · cases h with
    | lst hs hd => exact ⟨_, _, rfl, .inl (sq_of (e _ _ hs)), hd⟩
  · cases h with
    | tup hs hd => exact ⟨_, _, rfl, .inr (ex_t e hs), hd⟩
theorem d_len {ds : List Dt} (h : EvB K te ρ β x β1) (hx : SeqD x ds) : EvB K (tCB (rLen K) (tCons te tNil)) ρ β (.int (ds.length : Int)) β1 := d_c1 h fun b G H v Q e dv k => by
  obtain ⟨p, ys, rfl, hq, hd⟩ := dv.seq hx e
  exact ⟨p, ys, rfl, hq, by rw [hd.length]; exact k _ G H (Step.refl e) (.int _)⟩
theorem d_listOf {ds : List Dt} (h : EvB K te ρ β x β1) (hx : SeqD x ds) : EvB K (tCB (rListOf K) (tCons te tNil)) ρ β (.list ds) β1 := d_c1 h fun b G H v Q e dv k => by
  obtain ⟨p, ys, rfl, hq, hd⟩ := dv.seq hx e
  refine ⟨p, ys, rfl, hq, fun l hl => ?_⟩
  have n := Step.new (b := b) (m := false) (o := .lst ys) e hl
  exact k _ _ _ n (.lst upd_same (hd.mono n.g))
theorem d_tupleOf {ds : List Dt} (h : EvB K te ρ β (.list ds) β1) : EvB K (tCB (rTupleOf K) (tCons te tNil)) ρ β (.tuple ds) β1 := d_c1 h fun b G H v Q e dv k => by
  cases dv with
  | @lst a ys _ hs hd =>
    refine ⟨_, ys, rfl, .inl ⟨sq_of (e _ _ hs), fun l hl => ?_⟩⟩
    have n := Step.new (b := b) (m := false) (o := .tup ys) e hl
    exact k _ _ _ n (.tup (st_of upd_same) (hd.mono n.g))
theorem d_tupleOfT {ds : List Dt} (h : EvB K te ρ β (.tuple ds) β1) : EvB K (tCB (rTupleOf K) (tCons te tNil)) ρ β (.tuple ds) β1 := d_c1 h fun b G H v Q e dv k => by
  have dv' := dv
  cases dv with
  | @tup a ys _ hs hd => exact ⟨_, ys, rfl, .inr ⟨ex_t e hs, k _ G H (Step.refl e) dv'⟩⟩
theorem d_slT {tl th : TO} {ds : List Dt} {lo hi : Option Int} (ha : EvB K te ρ β (.tuple ds) β1) (h1 : EvO K tl ρ β1 lo β2) (h2 : EvO K th ρ β2 hi β3) (hn : ¬ (HT.sIx ds.length 0 lo = 0 ∧ HT.sIx ds.length ds.length hi = ds.length)) : EvB K (tSl (rSlT K) te tl th) ρ β (.tuple (cutD ds lo hi)) β3 := by
  refine ⟨h2.1.trans (h1.1.trans ha.som), fun b G H σ Q E k => ?_⟩
  refine ha.run b G H σ _ E fun v G1 H1 s1 k1 d1 => ?_
  have E1 := E.step s1 k1
  refine h1.2 b G1 H1 σ _ E1 fun G2 H2 s2 k2 => ?_
  have E2 := E1.step s2 k2
  refine h2.2 b G2 H2 σ _ E2 fun G3 H3 s3 k3 => ?_
  rw [h1.1, ha.som] at s3
  rw [ha.som] at s2
  have d3 := (d1.mono s2.g).mono s3.g
  cases d3 with
  | @tup a xs _ hs hd =>
    refine ⟨_, xs, rfl, ex_t s3.s hs, by rw [hd.length]; exact hn, fun p hp => ?_⟩
    have n := Step.new (b := b) (m := false) (o := .tup (cutV xs lo hi)) s3.s hp
    exact k (.ref p) _ _ (((s1.trans s2).trans s3).trans n.up) (k3.same n) (.tup (st_of upd_same) ((den_cut hd).mono n.g))
/-! ### + of lists, of tuples; a list times a number -/
theorem d_cat {ds es : List Dt} (ha : EvB K ta ρ β (.list ds) β1) (hb : EvB K tb ρ β1 (.list es) β2) (hz : ds.length + es.length ≤ 100000) : EvB K (tOp rCat ta tb) ρ β (.list (ds ++ es)) β2 := d_op ha hb fun b G H v w Q e h1 h2 k => by
  cases h1 with
  | @lst a xs _ hs hd =>
    cases h2 with
    | @lst c ys _ hs' hd' =>
      refine ⟨a, c, xs, ys, rfl, rfl, e _ _ hs, e _ _ hs', sz_of (by rw [hd.length, hd'.length]; exact hz), fun p hp => ?_⟩
      have n := Step.new (b := b) (m := false) (o := .lst (xs ++ ys)) e hp
      exact k _ _ _ n (.lst upd_same ((hd.append hd').mono n.g))
theorem d_catT {ds es : List Dt} (ha : EvB K ta ρ β (.tuple ds) β1) (hb : EvB K tb ρ β1 (.tuple es) β2) (hz : ds.length + es.length ≤ 100000) (hn : ds ≠ []) : EvB K (tOp (rCatT K) ta tb) ρ β (.tuple (ds ++ es)) β2 := d_op ha hb fun b G H v w Q e h1 h2 k => by
  have h1' := h1
  cases h1 with
  | @tup a xs _ hs hd =>
    cases h2 with
    | @tup c ys _ hs' hd' =>
      refine ⟨a, c, xs, ys, rfl, rfl, ex_t e hs, ex_t e hs', fun z => ?_, sz_of (by rw [hd.length, hd'.length]; exact hz), fun z => ?_, fun z p hp => ?_⟩
      · subst z
        cases hd
        exact hn rfl
      · subst z
        cases hd'
        rw [List.append_nil] at k
        exact k _ G H (Step.refl e) h1'
      · have n := Step.new (b := b) (m := false) (o := .tup (xs ++ ys)) e hp
        exact k _ _ _ n (.tup (st_of upd_same) ((hd.append hd').mono n.g))
/-! ### sums, greatest ones, any, all -/
theorem d_sum {ns : List Int} (h : EvB K te ρ β (.list (ns.map .int)) β1) : EvB K (tCB (rSum K) (tCons te tNil)) ρ β (.int ns.sum) β1 := d_c1 h fun b G H v Q e dv k => by
  cases dv with
  | @lst a xs _ hs hd =>
    have := hd.ints
    subst this
    exact ⟨a, ns, rfl, sq_of (e _ _ hs), k _ G H (Step.refl e) (.int _)⟩
theorem d_all {bs : List Bool} (h : EvB K te ρ β (.list (bs.map .bool)) β1) : EvB K (tCB (rAll K) (tCons te tNil)) ρ β (.bool (bs.all id)) β1 := d_c1 h fun b G H v Q e dv k => by
  cases dv with
  | @lst a xs _ hs hd =>
    have := hd.bls
    subst this
    exact ⟨a, bs, rfl, sq_of (e _ _ hs), k _ G H (Step.refl e) (.bl _)⟩
theorem d_anyB {bs : List Bool} (h : EvB K te ρ β (.list (bs.map .bool)) β1) : EvB K (tCB (rAny K) (tCons te tNil)) ρ β (.bool (bs.any id)) β1 := d_c1 h fun b G H v Q e dv k => by
  cases dv with
  | @lst a xs _ hs hd =>
    have := hd.bls
    subst this
    exact ⟨a, bs, rfl, sq_of (e _ _ hs), k _ G H (Step.refl e) (.bl _)⟩
/-- the greatest of some ints: M is it -/
theorem d_max {ns : List Int} {M : Int} (h : EvB K te ρ β (.list (ns.map .int)) β1) (hM : M ∈ ns) (hg : ∀ y ∈ ns, y ≤ M) : EvB K (tCB (rMax K) (tCons te tNil)) ρ β (.int M) β1 := d_c1 h fun b G H v Q e dv k => by
  cases dv with
  | @lst a xs _ hs hd =>
    have := hd.ints
    subst this
    refine ⟨a, ns, rfl, sq_of (e _ _ hs), List.length_pos_of_mem hM, fun m hm hle => ?_⟩
    have e1 : m = M := Int.le_antisymm (hg m hm) (hle M hM)
    rw [e1]
    exact k _ G H (Step.refl e) (.int _)
theorem d_gcd {i j : Int} (h : EvB K ta ρ β (.int i) β1) (h' : EvB K tb ρ β1 (.int j) β2) : EvB K (tCB rGcd (tCons ta (tCons tb tNil))) ρ β (.int ((Nat.gcd i.natAbs j.natAbs : Nat) : Int)) β2 := d_c2 h h' fun b G H v w Q e dv dw k => by
  cases dv
  cases dw
  exact ⟨i, j, rfl, k _ G H (Step.refl e) (.int _)⟩
/-! ### isinstance -/
def tyD : Dt → String
  | .none => "NoneType"
  | .bool _ => "bool"
  | .int _ => "int"
  | .str _ => "str"
  | .list _ => "list"
  | .tuple _ => "tuple"
  | .dict _ => "dict"
theorem Den.ty {v : V} (h : Den K G v x) (e : Ex G H) : TyX K H v (.type (tyD x)) := by
  cases x with
  | none => cases h; exact .base .non
  | bool c => cases h; exact .base (.bl c)
  | int i => cases h; exact .base (.int i)
  | str s => cases h; exact .base (.str s)
  | list ds =>
    cases h with
    | lst hs hd => exact .base (.lst (e _ _ hs))
  | tuple ds =>
    cases h with
    | tup hs hd =>
      rcases ex_t e hs with (h1 | ⟨o, h1⟩) | ⟨o, its, n, h1, h2, _⟩
      · exact .base (.tup h1)
      · exact .fTuple h1
      · exact .kTuple h1 h2
  | dict kvs =>
    cases h with
    | dct hs => exact .base (.dK (e _ _ hs))
    | dcE hs _ => exact .base (.dK (e _ _ hs))
    | dcI hs _ => exact .base (.dK (e _ _ hs))
theorem d_isi {T : String} {c : Bool} (h : EvB K te ρ β x β1) (hk : kitB (tyD x) T = some c) : EvB K (tCB (rIsi K) (tCons te (tCons (tC (.ty T)) tNil))) ρ β (.bool c) β1 := by
  refine ⟨h.som, fun b G H σ Q E k => ?_⟩
  refine h.run b G H σ _ E fun v G1 H1 s1 k1 d1 => ?_
  exact ⟨v, .ty T, _, _, c, rfl, .ty T, d1.ty s1.s, kit_ty hk, k _ G1 H1 s1 k1 (.bl c)⟩
def isIntD : Dt → Bool
  | .int _ => true
  | .bool _ => true
  | _ => false
def isBoolD : Dt → Bool
  | .bool _ => true
  | _ => false
def isTupD : Dt → Bool
  | .tuple _ => true
  | _ => false
def isStrD : Dt → Bool
  | .str _ => true
  | _ => false
def isListD : Dt → Bool
  | .list _ => true
  | _ => false
def isDictD : Dt → Bool
  | .dict _ => true
  | _ => false
theorem kit_int : ∀ x : Dt, kitB (tyD x) "int" = some (isIntD x)
  | .none => by decide +kernel
  | .bool _ => by show kitB "bool" "int" = some true; decide +kernel
  | .int _ => by show kitB "int" "int" = some true; decide +kernel
  | .str _ => by show kitB "str" "int" = some false; decide +kernel
  | .list _ => by show kitB "list" "int" = some false; decide +kernel
  | .tuple _ => by show kitB "tuple" "int" = some false; decide +kernel
  | .dict _ => by show kitB "dict" "int" = some false; decide +kernel
theorem kit_bool : ∀ x : Dt, kitB (tyD x) "bool" = some (isBoolD x)
  | .none => by decide +kernel
  | .bool _ => by show kitB "bool" "bool" = some true; decide +kernel
  | .int _ => by show kitB "int" "bool" = some false; decide +kernel
  | .str _ => by show kitB "str" "bool" = some false; decide +kernel
  | .list _ => by show kitB "list" "bool" = some false; decide +kernel
  | .tuple _ => by show kitB "tuple" "bool" = some false; decide +kernel
  | .dict _ => by show kitB "dict" "bool" = some false; decide +kernel
theorem kit_tup : ∀ x : Dt, kitB (tyD x) "tuple" = some (isTupD x)
  | .none => by decide +kernel
  | .bool _ => by show kitB "bool" "tuple" = some false; decide +kernel
  | .int _ => by show kitB "int" "tuple" = some false; decide +kernel
  | .str _ => by show kitB "str" "tuple" = some false; decide +kernel
  | .list _ => by show kitB "list" "tuple" = some false; decide +kernel
  | .tuple _ => by show kitB "tuple" "tuple" = some true; decide +kernel
  | .dict _ => by show kitB "dict" "tuple" = some false; decide +kernel
theorem kit_str : ∀ x : Dt, kitB (tyD x) "str" = some (isStrD x)
  | .none => by decide +kernel
  | .bool _ => by show kitB "bool" "str" = some false; decide +kernel
  | .int _ => by show kitB "int" "str" = some false; decide +kernel
  | .str _ => by show kitB "str" "str" = some true; decide +kernel
  | .list _ => by show kitB "list" "str" = some false; decide +kernel
  | .tuple _ => by show kitB "tuple" "str" = some false; decide +kernel
  | .dict _ => by show kitB "dict" "str" = some false; decide +kernel
theorem d_isInt (h : EvB K te ρ β x β1) : EvB K (tCB (rIsi K) (tCons te (tCons (tC (.ty "int")) tNil))) ρ β (.bool (isIntD x)) β1 := d_isi h (kit_int x)
theorem d_isBool (h : EvB K te ρ β x β1) : EvB K (tCB (rIsi K) (tCons te (tCons (tC (.ty "bool")) tNil))) ρ β (.bool (isBoolD x)) β1 := d_isi h (kit_bool x)
theorem d_isTup (h : EvB K te ρ β x β1) : EvB K (tCB (rIsi K) (tCons te (tCons (tC (.ty "tuple")) tNil))) ρ β (.bool (isTupD x)) β1 := d_isi h (kit_tup x)
theorem d_isStr (h : EvB K te ρ β x β1) : EvB K (tCB (rIsi K) (tCons te (tCons (tC (.ty "str")) tNil))) ρ β (.bool (isStrD x)) β1 := d_isi h (kit_str x)
/-! ### a value or another, by a test -/
theorem d_andF (h : EvB K ta ρ β (.bool false) β1) : EvB K (tAndV ta tb) ρ β (.bool false) β1 := ⟨h.som, fun b G H σ Q E k => h.run b G H σ _ E fun v G1 H1 s1 k1 d1 => by
  cases d1
  exact ⟨false, rfl, by rw [if_neg (Bool.false_ne_true)]; exact k _ G1 H1 s1 k1 (.bl _)⟩⟩
theorem d_andT (h : EvB K ta ρ β (.bool true) β1) (h' : EvB K tb ρ β1 d β2) : EvB K (tAndV ta tb) ρ β d β2 := ⟨h'.som.trans h.som, fun b G H σ Q E k => h.run b G H σ _ E fun v G1 H1 s1 k1 d1 => by
  cases d1
  refine ⟨true, rfl, ?_⟩
  rw [if_pos rfl]
  refine h'.run b G1 H1 σ _ (E.step s1 k1) fun w G2 H2 s2 k2 d2 => ?_
  rw [h.som] at s2
  exact k w G2 H2 (s1.trans s2) k2 d2⟩
/-- both bools, the bag as it was -/
theorem d_and {p q : Bool} (h : EvB K ta ρ β (.bool p) β) (h' : p = true → EvB K tb ρ β (.bool q) β) : EvB K (tAndV ta tb) ρ β (.bool (p && q)) β := by
  cases p with
  | false => exact d_andF h
  | true => exact d_andT h (h' rfl)
theorem d_orT (h : EvB K ta ρ β (.bool true) β1) : EvB K (tOrV ta tb) ρ β (.bool true) β1 := ⟨h.som, fun b G H σ Q E k => h.run b G H σ _ E fun v G1 H1 s1 k1 d1 => by
  cases d1
  exact ⟨true, rfl, by rw [if_pos rfl]; exact k _ G1 H1 s1 k1 (.bl _)⟩⟩
theorem d_orF (h : EvB K ta ρ β (.bool false) β1) (h' : EvB K tb ρ β1 d β2) : EvB K (tOrV ta tb) ρ β d β2 := ⟨h'.som.trans h.som, fun b G H σ Q E k => h.run b G H σ _ E fun v G1 H1 s1 k1 d1 => by
  cases d1
  refine ⟨false, rfl, ?_⟩
  rw [if_neg (Bool.false_ne_true)]
  refine h'.run b G1 H1 σ _ (E.step s1 k1) fun w G2 H2 s2 k2 d2 => ?_
  rw [h.som] at s2
  exact k w G2 H2 (s1.trans s2) k2 d2⟩
theorem d_or {p q : Bool} (h : EvB K ta ρ β (.bool p) β) (h' : p = false → EvB K tb ρ β (.bool q) β) : EvB K (tOrV ta tb) ρ β (.bool (p || q)) β := by
  cases p with
  | true => exact d_orT h
  | false => exact d_orF h (h' rfl)
theorem d_not {p : Bool} (h : EvB K ta ρ β (.bool p) β1) : EvB K (tNotV ta) ρ β (.bool (!p)) β1 := ⟨h.som, fun b G H σ Q E k => h.run b G H σ _ E fun v G1 H1 s1 k1 d1 => by
  cases d1
  exact ⟨p, rfl, k _ G1 H1 s1 k1 (.bl _)⟩⟩
theorem t_test {p : Bool} (h : EvB K te ρ β (.bool p) β1) : TtB K (tTest te) ρ β p β1 := ⟨h.som, fun b G H σ Q E k => h.run b G H σ _ E fun v G1 H1 s1 k1 d1 => by
  cases d1
  exact ⟨p, rfl, k G1 H1 s1 k1⟩⟩
theorem t_B {p : Bool} (h : EvB K te ρ β (.bool p) β1) : TtB K (tB te) ρ β p β1 := ⟨h.som, fun b G H σ Q E k => h.run b G H σ _ E fun v G1 H1 s1 k1 d1 => by
  cases d1
  exact ⟨p, rfl, k G1 H1 s1 k1⟩⟩
theorem t_not {p : Bool} (h : TtB K tt ρ β p β1) : TtB K (tNot tt) ρ β (!p) β1 := ⟨h.som, fun b G H σ Q E k => h.run b G H σ _ E fun G1 H1 s1 k1 => k G1 H1 s1 k1⟩
theorem t_andF (h : TtB K tt ρ β false β1) : TtB K (tAnd tt tu) ρ β false β1 := ⟨h.som, fun b G H σ Q E k => h.run b G H σ _ E fun G1 H1 s1 k1 => by
  rw [if_neg (Bool.false_ne_true)]
  exact k G1 H1 s1 k1⟩
theorem t_andT {q : Bool} (h : TtB K tt ρ β true β1) (h' : TtB K tu ρ β1 q β2) : TtB K (tAnd tt tu) ρ β q β2 := ⟨h'.som.trans h.som, fun b G H σ Q E k => h.run b G H σ _ E fun G1 H1 s1 k1 => by
  rw [if_pos rfl]
  refine h'.run b G1 H1 σ _ (E.step s1 k1) fun G2 H2 s2 k2 => ?_
  rw [h.som] at s2
  exact k G2 H2 (s1.trans s2) k2⟩
theorem t_and {p q : Bool} (h : TtB K tt ρ β p β) (h' : p = true → TtB K tu ρ β q β) : TtB K (tAnd tt tu) ρ β (p && q) β := by
  cases p with
  | false => exact t_andF h
  | true => exact t_andT h (h' rfl)
theorem t_orT (h : TtB K tt ρ β true β1) : TtB K (tOr tt tu) ρ β true β1 := ⟨h.som, fun b G H σ Q E k => h.run b G H σ _ E fun G1 H1 s1 k1 => by
  rw [if_pos rfl]
  exact k G1 H1 s1 k1⟩
theorem t_orF {q : Bool} (h : TtB K tt ρ β false β1) (h' : TtB K tu ρ β1 q β2) : TtB K (tOr tt tu) ρ β q β2 := ⟨h'.som.trans h.som, fun b G H σ Q E k => h.run b G H σ _ E fun G1 H1 s1 k1 => by
  rw [if_neg (Bool.false_ne_true)]
  refine h'.run b G1 H1 σ _ (E.step s1 k1) fun G2 H2 s2 k2 => ?_
  rw [h.som] at s2
  exact k G2 H2 (s1.trans s2) k2⟩
theorem t_or {p q : Bool} (h : TtB K tt ρ β p β) (h' : p = false → TtB K tu ρ β q β) : TtB K (tOr tt tu) ρ β (p || q) β := by
  cases p with
  | true => exact t_orT h
  | false => exact t_orF h (h' rfl)
theorem t_yes {p : Bool} (h : p = true → TtB K tt ρ β p β1) (e : p = true) : TtB K tt ρ β true β1 := e ▸ h e
theorem d_if {p : Bool} (h : TtB K tt ρ β p β1) (h1 : p = true → EvB K ta ρ β1 d β2) (h2 : p = false → EvB K tb ρ β1 d β2) : EvB K (tIf tt ta tb) ρ β d β2 := by
  cases p with
  | true =>
    refine ⟨(h1 rfl).som.trans h.som, fun b G H σ Q E k => h.run b G H σ _ E fun G1 H1 s1 k1 => ?_⟩
    rw [if_pos rfl]
    refine (h1 rfl).run b G1 H1 σ _ (E.step s1 k1) fun w G2 H2 s2 k2 d2 => ?_
    rw [h.som] at s2
    exact k w G2 H2 (s1.trans s2) k2 d2
  | false =>
    refine ⟨(h2 rfl).som.trans h.som, fun b G H σ Q E k => h.run b G H σ _ E fun G1 H1 s1 k1 => ?_⟩
    rw [if_neg (Bool.false_ne_true)]
    refine (h2 rfl).run b G1 H1 σ _ (E.step s1 k1) fun w G2 H2 s2 k2 d2 => ?_
    rw [h.som] at s2
    exact k w G2 H2 (s1.trans s2) k2 d2
theorem d_ifT (h : TtB K tt ρ β true β1) (h1 : EvB K ta ρ β1 d β2) : EvB K (tIf tt ta tb) ρ β d β2 := d_if h (fun _ => h1) fun z => by cases z
theorem d_ifF (h : TtB K tt ρ β false β1) (h1 : EvB K tb ρ β1 d β2) : EvB K (tIf tt ta tb) ρ β d β2 := d_if h (fun z => by cases z) fun _ => h1
/-- a < b < c of ints and the like -/
theorem d_chain {r r' : R2} {p q : Bool} (ha : EvB K ta ρ β x β1) (hb : EvB K tb ρ β1 y β2) (hc : p = true → EvB K tc ρ β2 z β2)
    (h1 : ∀ (G H : Hp) (v w : V) (Q : VK), Ex G H → Den K G v x → Den K G w y → Q (.bl p) H → r v w H Q) (h2 : p = true → ∀ (G H : Hp) (v w : V) (Q : VK), Ex G H → Den K G v y → Den K G w z → Q (.bl q) H → r' v w H Q) :
    EvB K (tChain r r' ta tb tc) ρ β (.bool (p && q)) β2 := by
  refine ⟨hb.som.trans ha.som, fun b G H σ Q E k => ?_⟩
  refine ha.run b G H σ _ E fun v G1 H1 s1 k1 d1 => ?_
  have E1 := E.step s1 k1
  refine hb.run b G1 H1 σ _ E1 fun w G2 H2 s2 k2 d2 => ?_
  have E2 := E1.step s2 k2
  rw [ha.som] at s2
  refine h1 G2 H2 v w _ s2.s (d1.mono s2.g) d2 ⟨p, rfl, ?_⟩
  cases p with
  | false =>
    rw [if_neg (Bool.false_ne_true)]
    exact k _ G2 H2 (s1.trans s2) k2 (.bl _)
  | true =>
    rw [if_pos rfl]
    refine (hc rfl).run b G2 H2 σ _ E2 fun u G3 H3 s3 k3 d3 => ?_
    rw [hb.som, ha.som] at s3
    exact h2 rfl G3 H3 w u _ s3.s (d2.mono s3.g) d3 (k _ G3 H3 ((s1.trans s2).trans s3) k3 (.bl _))
theorem d_chLtLt {i j l : Int} (ha : EvB K ta ρ β (.int i) β1) (hb : EvB K tb ρ β1 (.int j) β2) (hc : EvB K tc ρ β2 (.int l) β2) : EvB K (tChain (rI0 fun i j => .bl (decide (i < j))) (rI0 fun i j => .bl (decide (i < j))) ta tb tc) ρ β (.bool (decide (i < j) && decide (j < l))) β2 :=
  d_chain ha hb (fun _ => hc) (fun G H v w Q e h1 h2 q => by cases h1; cases h2; exact ⟨i, j, rfl, rfl, q⟩) fun _ G H v w Q e h1 h2 q => by cases h1; cases h2; exact ⟨j, l, rfl, rfl, q⟩
theorem d_chLeLt {i j l : Int} (ha : EvB K ta ρ β (.int i) β1) (hb : EvB K tb ρ β1 (.int j) β2) (hc : EvB K tc ρ β2 (.int l) β2) : EvB K (tChain (rI0 fun i j => .bl (decide (i ≤ j))) (rI0 fun i j => .bl (decide (i < j))) ta tb tc) ρ β (.bool (decide (i ≤ j) && decide (j < l))) β2 :=
  d_chain ha hb (fun _ => hc) (fun G H v w Q e h1 h2 q => by cases h1; cases h2; exact ⟨i, j, rfl, rfl, q⟩) fun _ G H v w Q e h1 h2 q => by cases h1; cases h2; exact ⟨j, l, rfl, rfl, q⟩
theorem d_chLeLe {i j l : Int} (ha : EvB K ta ρ β (.int i) β1) (hb : EvB K tb ρ β1 (.int j) β2) (hc : EvB K tc ρ β2 (.int l) β2) : EvB K (tChain (rI0 fun i j => .bl (decide (i ≤ j))) (rI0 fun i j => .bl (decide (i ≤ j))) ta tb tc) ρ β (.bool (decide (i ≤ j) && decide (j ≤ l))) β2 :=
  d_chain ha hb (fun _ => hc) (fun G H v w Q e h1 h2 q => by cases h1; cases h2; exact ⟨i, j, rfl, rfl, q⟩) fun _ G H v w Q e h1 h2 q => by cases h1; cases h2; exact ⟨j, l, rfl, rfl, q⟩
/-! ### in -/
theorem d_inT {xs : List V} {ds : List Dt} (hx : EvB K ta ρ β x β1) (hy : EvB K tb ρ β1 y β2) (hs : SeqD y ds) {c : Bool} (hc : ∀ (G : Hp) (v : V) (ws : List V), Den K G v x → DenL K G ws ds → flatV v = true ∧ ws.all flatV = true ∧ inV v ws = c) : EvB K (tOp (rIn K false) ta tb) ρ β (.bool c) β2 :=
  d_op hx hy fun b G H v w Q e h1 h2 k => by
    obtain ⟨p, ys, rfl, hq, hd⟩ := h2.seq hs e
    obtain ⟨f1, f2, f3⟩ := hc G v ys h1 hd
    exact ⟨p, ys, rfl, hq, f1, f2, by rw [if_neg Bool.false_ne_true, f3]; exact k _ G H (Step.refl e) (.bl _)⟩
theorem ints_flat : ∀ ns : List Int, (ns.map V.int).all flatV = true
  | [] => rfl
  | n :: ns => by
    show (flatV (.int n) && (ns.map V.int).all flatV) = true
    rw [ints_flat ns]
    rfl
theorem inV_ints (i : Int) : ∀ ns : List Int, inV (.int i) (ns.map V.int) = decide (i ∈ ns)
  | [] => rfl
  | n :: ns => by
    have ih := inV_ints i ns
    unfold inV at ih ⊢
    rw [List.map_cons, List.any_cons, ih]
    have e : eqV (V.int n) (V.int i) = decide (n = i) := rfl
    rw [e]
    by_cases h : n = i
    · subst h; simp
    · by_cases h2 : i ∈ ns
      · simp [h2]
      · have h3 : ¬ i = n := fun z => h z.symm
        simp [h, h2, h3]
/-- an int in a tuple or list of ints -/
theorem d_inI {i : Int} {ns : List Int} (hx : EvB K ta ρ β (.int i) β1) (hy : EvB K tb ρ β1 y β2) (hs : SeqD y (ns.map .int)) : EvB K (tOp (rIn K false) ta tb) ρ β (.bool (decide (i ∈ ns))) β2 :=
  d_inT (xs := []) hx hy hs fun G v ws h1 h2 => by
    cases h1
    have := h2.ints
    subst this
    exact ⟨rfl, ints_flat ns, inV_ints i ns⟩
end
end TD
/-! ## TdSt -/
set_option Elab.async false
set_option linter.all false
set_option maxRecDepth 100000
set_option maxHeartbeats 3000000
/-! What the terms come to: statements, loops, comprehensions, defs. -/
namespace TD
open PySem L2
open Evl (Ex ex_l ex_t fresh_back sq_of st_of sz_of sz_lt)
section
variable [TabW] {K : PySem.W.Frag} {b : Addr} {ρ ρ' ρ1 : Rho} {β β1 β2 β3 : Bag} {ta tb te tc : TE} {tt : TT} {tu tw ts : TS} {x y z d : Dt} {o : Out} {G H G1 H1 G2 H2 : Hp} {σ : L2.St}

/-! ### statements -/
theorem OutOk.of {D D' : Ends} {m : Bool} (s : Step b m G H G1 H1) (h : OutOk K b m β G H D o) : OutOk K b m β G1 H1 D o := by
  cases o with
  | nx r => exact fun σ' G' H' s' e => h σ' G' H' (s.trans s') e
  | brk r => exact fun σ' G' H' s' e => h σ' G' H' (s.trans s') e
  | ct r => exact fun σ' G' H' s' e => h σ' G' H' (s.trans s') e
  | ret d => exact fun v G' H' s' e dv => h v G' H' (s.trans s') e dv
theorem st_asg {i : Nat} (h : EvB K te ρ β d β1) : StB K (tAsg te (gName i)) ρ β (.nx (ρ.set i (some (Slot.imm d)))) β1 := ⟨h.som, fun b G H σ D E k => h.run b G H σ _ E fun v G1 H1 s1 k1 d1 =>
  k (σ.set i (some v)) G1 H1 s1 ((E.step s1 k1).set d1)⟩
theorem st_ret (h : EvB K te ρ β d β1) : StB K (tRet te) ρ β (.ret d) β1 := ⟨h.som, fun b G H σ D E k => h.run b G H σ _ E fun v G1 H1 s1 k1 d1 => k v G1 H1 s1 k1 d1⟩
theorem st_drop (h : EvB K te ρ β d β1) : StB K (tDrop te) ρ β (.nx ρ) β1 := ⟨h.som, fun b G H σ D E k => h.run b G H σ _ E fun v G1 H1 s1 k1 d1 => k σ G1 H1 s1 (E.step s1 k1)⟩
theorem st_next : StB K tNext ρ β (.nx ρ) β := ⟨rfl, fun b G H σ D E k => k σ G H (Step.refl E.sub) E⟩
theorem st_break : StB K tBreak ρ β (.brk ρ) β := ⟨rfl, fun b G H σ D E k => k σ G H (Step.refl E.sub) E⟩
theorem st_cont : StB K tCont ρ β (.ct ρ) β := ⟨rfl, fun b G H σ D E k => k σ G H (Step.refl E.sub) E⟩
theorem st_seq (h : StB K tu ρ β (.nx ρ1) β1) (h' : StB K tw ρ1 β1 o β2) : StB K (tSeq tu tw) ρ β o β2 := ⟨h'.som.trans h.som, fun b G H σ D E k => h.run b G H σ { D with nx := tw D } E fun σ1 G1 H1 s1 E1 =>
  h'.run b G1 H1 σ1 D E1 (by rw [h.som]; exact k.of (D' := D) s1)⟩
theorem st_seqR (h : StB K tu ρ β (.ret d) β1) : StB K (tSeq tu tw) ρ β (.ret d) β1 := ⟨h.som, fun b G H σ D E k => h.run b G H σ { D with nx := tw D } E k⟩
theorem st_seqB (h : StB K tu ρ β (.brk ρ1) β1) : StB K (tSeq tu tw) ρ β (.brk ρ1) β1 := ⟨h.som, fun b G H σ D E k => h.run b G H σ { D with nx := tw D } E k⟩
theorem st_seqC (h : StB K tu ρ β (.ct ρ1) β1) : StB K (tSeq tu tw) ρ β (.ct ρ1) β1 := ⟨h.som, fun b G H σ D E k => h.run b G H σ { D with nx := tw D } E k⟩
theorem st_if {p : Bool} (h : TtB K tt ρ β p β1) (h1 : p = true → StB K tu ρ β1 o β2) (h2 : p = false → StB K tw ρ β1 o β2) : StB K (tIfS tt tu tw) ρ β o β2 := by
  cases p with
  | true =>
    refine ⟨(h1 rfl).som.trans h.som, fun b G H σ D E k => h.run b G H σ _ E fun G1 H1 s1 k1 => ?_⟩
    rw [if_pos rfl]
    exact (h1 rfl).run b G1 H1 σ D (E.step s1 k1) (by rw [h.som]; exact k.of (D' := D) s1)
  | false =>
    refine ⟨(h2 rfl).som.trans h.som, fun b G H σ D E k => h.run b G H σ _ E fun G1 H1 s1 k1 => ?_⟩
    rw [if_neg (Bool.false_ne_true)]
    exact (h2 rfl).run b G1 H1 σ D (E.step s1 k1) (by rw [h.som]; exact k.of (D' := D) s1)
theorem st_ifT (h : TtB K tt ρ β true β1) (h1 : StB K tu ρ β1 o β2) : StB K (tIfS tt tu tw) ρ β o β2 := st_if h (fun _ => h1) fun z => by cases z
theorem st_ifF (h : TtB K tt ρ β false β1) (h1 : StB K tw ρ β1 o β2) : StB K (tIfS tt tu tw) ρ β o β2 := st_if h (fun z => by cases z) fun _ => h1
/-- a, b = e1, e2, plain local names -/
theorem st_par {i j : Nat} (h : EvB K ta ρ β x β1) (h' : EvB K tb ρ β1 y β2) : StB K (tPar i j (tCons ta (tCons tb tNil))) ρ β (.nx ((ρ.set i (some (Slot.imm x))).set j (some (Slot.imm y)))) β2 := by
  refine ⟨h'.som.trans h.som, fun b G H σ D E k => ?_⟩
  refine h.run b G H σ _ E fun v G1 H1 s1 k1 d1 => ?_
  refine h'.run b G1 H1 σ _ (E.step s1 k1) fun w G2 H2 s2 k2 d2 => ?_
  refine ⟨v, w, rfl, ?_⟩
  rw [h.som] at s2
  exact k _ G2 H2 (s1.trans s2) ((((E.step s1 k1).step s2 k2).set (d1.mono s2.g)).set d2)
/-! ### unpacking a tuple into names -/
def gNames : List Nat → TGs
  | [] => gNil
  | i :: is => gCons (gName i) (gNames is)
def setR (ρ : Rho) : List Nat → List Dt → Rho
  | i :: is, d :: ds => setR (ρ.set i (some (Slot.imm d))) is ds
  | _, _ => ρ
theorem gNames_run {Q : L2.St → Hp → Prop} : ∀ {is : List Nat} {vs : List V} {ds : List Dt} {σ : L2.St} {ρ : Rho}, DenL K G vs ds → vs.length = is.length → EnvD K b β G H σ ρ → (∀ σ', EnvD K b β G H σ' (setR ρ is ds) → Q σ' H) → gNames is vs σ H Q
  | [], [], [], σ, ρ, _, _, E, k => ⟨rfl, k σ E⟩
  | [], _ :: _, _, _, _, _, h, _, _ => by cases h
  | [], [], _ :: _, _, _, h, _, _, _ => nomatch h
  | _ :: _, [], _, _, _, _, h, _, _ => by cases h
  | _ :: _, _ :: _, [], _, _, h, _, _, _ => nomatch h
  | i :: is, v :: vs, d :: ds, σ, ρ, .cons h1 h2, hl, E, k => ⟨v, vs, rfl, gNames_run h2 (Nat.succ.inj hl) (E.set h1) k⟩
theorem st_unpack {is : List Nat} {n : Nat} {ds : List Dt} (h : EvB K te ρ β (.tuple ds) β1) (hn : ds.length = n) (hi : is.length = n) : StB K (tAsg te (gTup K n (gNames is))) ρ β (.nx (setR ρ is ds)) β1 := ⟨h.som, fun b G H σ D E k => h.run b G H σ _ E fun v G1 H1 s1 k1 d1 => by
  cases d1 with
  | @tup a xs _ hs hd =>
    refine ⟨a, xs, rfl, ex_t s1.s hs, by rw [hd.length]; exact hn, ?_⟩
    exact gNames_run hd (by rw [hd.length, hn, hi]) (E.step s1 k1) fun σ' E' => k σ' G1 H1 s1 E'⟩

end

/-! ### loops -/
inductive ForR [TabW] (K : PySem.W.Frag) (j : Nat) (tu : TS) : List Dt → Rho → Bag → Out → Bag → Prop
  | nil (ρ : Rho) (β : Bag) : ForR K j tu [] ρ β (.nx ρ) β
  | nx {d : Dt} {ds : List Dt} {ρ ρ1 : Rho} {β β1 β2 : Bag} {o : Out} : StB K tu (ρ.set j (some (Slot.imm d))) β (.nx ρ1) β1 → ForR K j tu ds ρ1 β1 o β2 → ForR K j tu (d :: ds) ρ β o β2
  | ct {d : Dt} {ds : List Dt} {ρ ρ1 : Rho} {β β1 β2 : Bag} {o : Out} : StB K tu (ρ.set j (some (Slot.imm d))) β (.ct ρ1) β1 → ForR K j tu ds ρ1 β1 o β2 → ForR K j tu (d :: ds) ρ β o β2
  | brk {d : Dt} {ds : List Dt} {ρ ρ1 : Rho} {β β1 : Bag} : StB K tu (ρ.set j (some (Slot.imm d))) β (.brk ρ1) β1 → ForR K j tu (d :: ds) ρ β (.nx ρ1) β1
  | ret {d : Dt} {ds : List Dt} {ρ : Rho} {β β1 : Bag} {r : Dt} : StB K tu (ρ.set j (some (Slot.imm d))) β (.ret r) β1 → ForR K j tu (d :: ds) ρ β (.ret r) β1
section
variable [TabW] {K : PySem.W.Frag} {b : Addr} {ρ ρ' ρ1 : Rho} {β β1 β2 β3 : Bag} {ta tb te tc : TE} {tt : TT} {tu tw ts : TS} {x y z d : Dt} {o : Out} {G H G1 H1 G2 H2 : Hp} {σ : L2.St}
theorem ForR.som {j : Nat} {ds : List Dt} (h : ForR K j tu ds ρ β o β2) : β2.isSome = β.isSome := by
  induction h with
  | nil => rfl
  | nx h _ ih => exact ih.trans h.som
  | ct h _ ih => exact ih.trans h.som
  | brk h => exact h.som
  | ret h => exact h.som
/-- one turn of a for, at any next -/
theorem for_turn {j : Nat} {ds : List Dt} {D : Ends} {m : Bool} {v : V} {N : L2.St → Hp → Prop} (hm : m = β.isSome) (h : ForR K j tu (d :: ds) ρ β o β2) (E : EnvD K b β G H σ ρ) (dv : Den K G v d)
    (s : Step b m G1 H1 G H) (k : OutOk K b m β2 G1 H1 D o) (hN : ∀ σ' G' H' ρ' β', Step b m G1 H1 G' H' → β'.isSome = m → EnvD K b β' G' H' σ' ρ' → ForR K j tu ds ρ' β' o β2 → N σ' H') :
    tu { D with nx := N, ct := N, bk := D.nx } (σ.set j (some v)) H := by
  have E' := E.set (i := j) dv
  subst hm
  cases h with
  | nx h hr => exact h.run b G H _ _ E' fun σ' G' H' s' e => hN σ' G' H' _ _ (s.trans s') h.som e hr
  | ct h hr => exact h.run b G H _ _ E' fun σ' G' H' s' e => hN σ' G' H' _ _ (s.trans s') h.som e hr
  | brk h => exact h.run b G H _ _ E' fun σ' G' H' s' e => k σ' G' H' (s.trans s') e
  | ret h => exact h.run b G H _ _ E' fun w G' H' s' e dw => k w G' H' (s.trans s') e dw
theorem st_forL {j : Nat} {tl : TE} {ds : List Dt} (hl : EvB K tl ρ β (.list ds) β1) (h : ForR K j tu ds ρ β1 o β2) : StB K (tFor (iList K tl) (gName j) tu) ρ β o β2 := by
  refine ⟨h.som.trans hl.som, fun b G H σ D E k => ?_⟩
  refine hl.run b G H σ _ E fun v G1 H1 s1 k1 d1 => ?_
  cases d1 with
  | @lst a xs _ hs hd =>
    refine ⟨a, rfl, ⟨xs, sq_of (s1.s _ _ hs)⟩, for_list (K := K) (a := a) (xs := xs) (fun i σ' H' => ∃ G' ρ' β', Step b β.isSome G1 H1 G' H' ∧ β'.isSome = β.isSome ∧ EnvD K b β' G' H' σ' ρ' ∧ ForR K j tu (ds.drop i) ρ' β' o β2) ?_ ?_ ?_ ?_⟩
    · exact ⟨G1, ρ, β1, Step.refl s1.s, hl.som, E.step s1 k1, h⟩
    · rintro i σ' H' _ ⟨G', ρ', β', s', _⟩
      exact sq_of (s'.s _ _ (s'.g _ _ hs))
    · rintro i v σ' H' hi ⟨G', ρ', β', s', m', E', r'⟩
      obtain ⟨d, hd1, hd2⟩ := hd.get hi
      have e : ds.drop i = d :: ds.drop (i + 1) := by
        obtain ⟨hlt, he⟩ := List.getElem?_eq_some_iff.mp hd1
        rw [← he]
        exact List.drop_eq_getElem_cons hlt
      rw [e] at r'
      exact for_turn (m := β.isSome) m'.symm r' E' (hd2.mono s'.g) s' (k.of (D' := D) s1) fun σ2 G2 H2 ρ2 β2' s2 m2 E2 r2 => ⟨G2, ρ2, β2', s2, m2, E2, r2⟩
    · rintro σ' H' ⟨G', ρ', β', s', m', E', r'⟩
      rw [hd.length, List.drop_length] at r'
      cases r'
      exact k σ' G' H' (s1.trans s') E'
theorem st_forT {j : Nat} {tl : TE} {ds : List Dt} (hl : EvB K tl ρ β (.tuple ds) β1) (h : ForR K j tu ds ρ β1 o β2) : StB K (tFor (iTup K tl) (gName j) tu) ρ β o β2 := by
  refine ⟨h.som.trans hl.som, fun b G H σ D E k => ?_⟩
  refine hl.run b G H σ _ E fun v G1 H1 s1 k1 d1 => ?_
  cases d1 with
  | @tup a xs _ hs hd =>
    refine ⟨a, rfl, ⟨xs, ex_t s1.s hs⟩, for_tup (K := K) (a := a) (xs := xs) (fun i σ' H' => ∃ G' ρ' β', Step b β.isSome G1 H1 G' H' ∧ β'.isSome = β.isSome ∧ EnvD K b β' G' H' σ' ρ' ∧ ForR K j tu (ds.drop i) ρ' β' o β2) ?_ ?_ ?_ ?_⟩
    · exact ⟨G1, ρ, β1, Step.refl s1.s, hl.som, E.step s1 k1, h⟩
    · rintro i σ' H' _ ⟨G', ρ', β', s', _⟩
      exact ex_t s'.s (ex_t s'.g hs)
    · rintro i v σ' H' hi ⟨G', ρ', β', s', m', E', r'⟩
      obtain ⟨d, hd1, hd2⟩ := hd.get hi
      have e : ds.drop i = d :: ds.drop (i + 1) := by
        obtain ⟨hlt, he⟩ := List.getElem?_eq_some_iff.mp hd1
        rw [← he]
        exact List.drop_eq_getElem_cons hlt
      rw [e] at r'
      exact for_turn (m := β.isSome) m'.symm r' E' (hd2.mono s'.g) s' (k.of (D' := D) s1) fun σ2 G2 H2 ρ2 β2' s2 m2 E2 r2 => ⟨G2, ρ2, β2', s2, m2, E2, r2⟩
    · rintro σ' H' ⟨G', ρ', β', s', m', E', r'⟩
      rw [hd.length, List.drop_length] at r'
      cases r'
      exact k σ' G' H' (s1.trans s') E'
def rng (lo : Int) (n : Nat) : List Dt := (List.range n).map fun (i : Nat) => PyData.int (lo + (i : Int))
theorem rng_length (lo : Int) (n : Nat) : (rng lo n).length = n := by unfold rng; rw [List.length_map, List.length_range]
theorem rng_drop {lo : Int} {n i : Nat} (h : i < n) : (rng lo n).drop i = .int (lo + (i : Int)) :: (rng lo n).drop (i + 1) := by
  have hl : i < (rng lo n).length := by rw [rng_length]; exact h
  have e : (rng lo n)[i]'hl = .int (lo + (i : Int)) := by simp [rng]
  rw [List.drop_eq_getElem_cons (hl), e]
theorem a_int1 {te : TE} {i : Int} (h : EvB K te ρ β (.int i) β1) (R : It → Hp → Prop) {m : Bool} (hm : m = β.isSome) (E : EnvD K b β G H σ ρ) (k : ∀ G1 H1, Step b m G H G1 H1 → BagOk b β1 G1 H1 → -(2 ^ 62) ≤ i ∧ i < 2 ^ 62 ∧ R (Itr 0 i.toNat) H1) : iRng1 (tCons te tNil) σ H R := by
  subst hm
  refine h.run b G H σ _ E fun v G1 H1 s1 k1 d1 => ?_
  cases d1
  obtain ⟨q1, q2, q3⟩ := k G1 H1 s1 k1
  exact ⟨i, rfl, q1, q2, q3⟩
theorem st_forR1 {j : Nat} {i : Int} (hl : EvB K te ρ β (.int i) β1) (hb : -(2 ^ 62) ≤ i ∧ i < 2 ^ 62) (h : ForR K j tu (rng 0 i.toNat) ρ β1 o β2) : StB K (tFor (iRng1 (tCons te tNil)) (gName j) tu) ρ β o β2 := by
  refine ⟨h.som.trans hl.som, fun b G H σ D E k => ?_⟩
  refine a_int1 hl _ rfl E fun G1 H1 s1 k1 => ⟨hb.1, hb.2, ?_⟩
  refine for_range (lo := 0) (n := i.toNat) (fun i' σ' H' => ∃ G' ρ' β', Step b β.isSome G1 H1 G' H' ∧ β'.isSome = β.isSome ∧ EnvD K b β' G' H' σ' ρ' ∧ ForR K j tu ((rng 0 i.toNat).drop i') ρ' β' o β2) ?_ ?_ ?_
  · exact ⟨G1, ρ, β1, Step.refl s1.s, hl.som, E.step s1 k1, h⟩
  · rintro i' σ' H' hi ⟨G', ρ', β', s', m', E', r'⟩
    rw [rng_drop hi] at r'
    exact for_turn (m := β.isSome) m'.symm r' E' (.int _) s' (k.of (D' := D) s1) fun σ2 G2 H2 ρ2 β2' s2 m2 E2 r2 => ⟨G2, ρ2, β2', s2, m2, E2, r2⟩
  · rintro σ' H' ⟨G', ρ', β', s', m', E', r'⟩
    have e : (rng 0 i.toNat).drop i.toNat = [] := by rw [List.drop_eq_nil_iff, rng_length]; exact Nat.le_refl _
    rw [e] at r'
    cases r'
    exact k σ' G' H' (s1.trans s') E'
/-! ### while: n turns at most -/
end
inductive WhR [TabW] (K : PySem.W.Frag) (tt : TT) (tu : TS) : Nat → Rho → Bag → Out → Bag → Prop
  | done {n : Nat} {ρ : Rho} {β β1 : Bag} : TtB K tt ρ β false β1 → WhR K tt tu n ρ β (.nx ρ) β1
  | nx {n : Nat} {ρ ρ1 : Rho} {β β1 β2 β3 : Bag} {o : Out} : TtB K tt ρ β true β1 → StB K tu ρ β1 (.nx ρ1) β2 → WhR K tt tu n ρ1 β2 o β3 → WhR K tt tu (n + 1) ρ β o β3
  | ret {n : Nat} {ρ : Rho} {β β1 β2 : Bag} {r : Dt} : TtB K tt ρ β true β1 → StB K tu ρ β1 (.ret r) β2 → WhR K tt tu n ρ β (.ret r) β2
section
variable [TabW] {K : PySem.W.Frag} {b : Addr} {ρ ρ' ρ1 : Rho} {β β1 β2 β3 : Bag} {ta tb te tc : TE} {tt : TT} {tu tw ts : TS} {x y z d : Dt} {o : Out} {G H G1 H1 G2 H2 : Hp} {σ : L2.St}
theorem WhR.som {n : Nat} (h : WhR K tt tu n ρ β o β2) : β2.isSome = β.isSome := by
  induction h with
  | done h => exact h.som
  | nx h1 h2 _ ih => exact ih.trans (h2.som.trans h1.som)
  | ret h1 h2 => exact h2.som.trans h1.som
theorem st_while {n : Nat} (h : WhR K tt tu n ρ β o β2) : StB K (tWhile tt tu) ρ β o β2 := by
  refine ⟨h.som, fun b G H σ D E k => ?_⟩
  refine ⟨fun m σ' H' => ∃ G' ρ' β', Step b β.isSome G H G' H' ∧ β'.isSome = β.isSome ∧ EnvD K b β' G' H' σ' ρ' ∧ WhR K tt tu m ρ' β' o β2, ⟨n, G, ρ, β, Step.refl E.sub, rfl, E, h⟩, ?_⟩
  rintro m σ' H' ⟨G', ρ', β', s', m', E', r'⟩
  cases r' with
  | done ht =>
    refine ht.run b G' H' σ' _ E' fun G1 H1 s1 k1 => ?_
    rw [if_neg (Bool.false_ne_true)]
    rw [m'] at s1
    exact k σ' G1 H1 (s'.trans s1) (E'.step s1 k1)
  | @nx n' _ ρ1 _ β1 β2' _ _ ht hu hr =>
    refine ht.run b G' H' σ' _ E' fun G1 H1 s1 k1 => ?_
    rw [if_pos rfl]
    rw [m'] at s1
    refine ⟨fun σ2 H2 => ∃ G2, Step b β.isSome G H G2 H2 ∧ EnvD K b β2' G2 H2 σ2 ρ1, ?_, ?_⟩
    · rintro σ2 H2 ⟨G2, s2, E2⟩
      exact ⟨n', Nat.lt_succ_self _, G2, ρ1, β2', s2, hu.som.trans (ht.som.trans m'), E2, hr⟩
    · refine hu.run b G1 H1 σ' _ (E'.step s1 k1) fun σ2 G2 H2 s2 E2 => ?_
      rw [ht.som, m'] at s2
      exact ⟨G2, (s'.trans s1).trans s2, E2⟩
  | ret ht hu =>
    refine ht.run b G' H' σ' _ E' fun G1 H1 s1 k1 => ?_
    rw [if_pos rfl]
    rw [m'] at s1
    refine ⟨fun _ _ => False, fun _ _ z => z.elim, ?_⟩
    refine hu.run b G1 H1 σ' _ (E'.step s1 k1) fun v G2 H2 s2 k2 d2 => ?_
    rw [ht.som, m'] at s2
    exact k v G2 H2 ((s'.trans s1).trans s2) k2 d2
end

/-! ### comprehensions -/
inductive LcR [TabW] (K : PySem.W.Frag) (j : Nat) (tt : TT) (te : TE) : List Dt → Rho → Bag → List Dt → Bag → Prop
  | nil (ρ : Rho) (β : Bag) : LcR K j tt te [] ρ β [] β
  | yes {d r : Dt} {ds rs : List Dt} {ρ : Rho} {β β1 β2 β3 : Bag} : TtB K tt (ρ.set j (some (Slot.imm d))) β true β1 → EvB K te (ρ.set j (some (Slot.imm d))) β1 r β2 → LcR K j tt te ds ρ β2 rs β3 → LcR K j tt te (d :: ds) ρ β (r :: rs) β3
  | no {d : Dt} {ds rs : List Dt} {ρ : Rho} {β β1 β3 : Bag} : TtB K tt (ρ.set j (some (Slot.imm d))) β false β1 → LcR K j tt te ds ρ β1 rs β3 → LcR K j tt te (d :: ds) ρ β rs β3
section
variable [TabW] {K : PySem.W.Frag} {b : Addr} {ρ ρ' ρ1 : Rho} {β β1 β2 β3 : Bag} {ta tb te tc : TE} {tt : TT} {tu tw ts : TS} {x y z d : Dt} {o : Out} {G H G1 H1 G2 H2 : Hp} {σ : L2.St}
theorem LcR.som {j : Nat} {ds rs : List Dt} (h : LcR K j tt te ds ρ β rs β2) : β2.isSome = β.isSome := by
  induction h with
  | nil => rfl
  | yes h1 h2 _ ih => exact ih.trans (h2.som.trans h1.som)
  | no h1 _ ih => exact ih.trans h1.som
theorem LcR.len {j : Nat} {ds rs : List Dt} (h : LcR K j tt te ds ρ β rs β2) : rs.length ≤ ds.length := by
  induction h with
  | nil => exact Nat.le_refl _
  | yes h1 h2 _ ih => exact Nat.succ_le_succ ih
  | no h1 _ ih => exact Nat.le_succ_of_le ih
/-- the tests hold or not, by f; the items are g's: nothing is drawn -/
theorem LcR.pure {j : Nat} (f : Dt → Bool) (g : Dt → Dt) : ∀ {ds : List Dt}, (∀ d ∈ ds, TtB K tt (ρ.set j (some (Slot.imm d))) β (f d) β) → (∀ d ∈ ds, f d = true → EvB K te (ρ.set j (some (Slot.imm d))) β (g d) β) → LcR K j tt te ds ρ β ((ds.filter f).map g) β
  | [], _, _ => .nil ρ β
  | d :: ds, h1, h2 => by
    have ih := LcR.pure f g (ds := ds) (fun e he => h1 e (List.mem_cons_of_mem _ he)) (fun e he => h2 e (List.mem_cons_of_mem _ he))
    have t := h1 d List.mem_cons_self
    cases hf : f d with
    | true =>
      rw [List.filter_cons, if_pos hf, List.map_cons]
      rw [hf] at t
      exact .yes t (h2 d List.mem_cons_self hf) ih
    | false =>
      rw [List.filter_cons, if_neg (by rw [hf]; decide)]
      rw [hf] at t
      exact .no t ih
theorem t_yes0 : TtB K tYes ρ β true β := ⟨rfl, fun b G H σ Q E k => k G H (Step.refl E.sub) E.bagk⟩
theorem LcR.map {j : Nat} (g : Dt → Dt) {ds : List Dt} (h2 : ∀ d ∈ ds, EvB K te (ρ.set j (some (Slot.imm d))) β (g d) β) : LcR K j tYes te ds ρ β (ds.map g) β := by
  have h := LcR.pure (K := K) (tt := tYes) (te := te) (ρ := ρ) (β := β) (j := j) (fun _ => true) g (ds := ds) (fun _ _ => t_yes0) fun d hd _ => h2 d hd
  rw [List.filter_eq_self.mpr fun _ _ => rfl] at h
  exact h
/-- the state between the turns -/
structure LcW [TabW] (K : PySem.W.Frag) (b : Addr) (m : Bool) (G1 H1 : Hp) (Dl : Addr) (rs : List Dt) (β3 : Bag) (P : List Dt → Bag → Prop) (H : Hp) : Prop where
  ex : ∃ (G : Hp) (β : Bag) (done rest : List Dt) (acc : List V), Step b m G1 H1 G H ∧ BagOk b β G H ∧ β.isSome = m ∧ G Dl = none ∧ H Dl = some (.lst acc) ∧ DenL K G acc done ∧ done ++ rest = rs ∧ P rest β
theorem LstAt.none {H : Hp} {Dl : Addr} (h : H Dl = none) : ∀ o, H Dl = some o → ∃ xs, o = HO.lst xs := fun o e => by rw [h] at e; cases e
theorem LstAt.of {H : Hp} {Dl : Addr} {xs : List V} (h : H Dl = some (.lst xs)) : ∀ o, H Dl = some o → ∃ xs, o = HO.lst xs := fun o e => by rw [h] at e; cases e; exact ⟨xs, rfl⟩
/-- nothing but a table -/
def Gone (H : Hp) (p : Addr) : Prop := ∀ o, NoT o → H p ≠ some o
theorem Gone.none {H : Hp} {p : Addr} (h : H p = none) : Gone H p := fun o _ z => by rw [h] at z; cases z
theorem Gone.ne {H : Hp} {p a : Addr} {o : HO} (g : Gone H p) (t : NoT o) (h : H a = some o) : a ≠ p := fun z => g o t (by rw [← z]; exact h)
/-- a table stays one if a list is written -/
theorem tab_upd {Dl P : Addr} {q : Str} {ob : HO} {H : Hp} (h : LamX.TabS H P q) (hl : ∀ o, H Dl = some o → ∃ xs, o = HO.lst xs) : LamX.TabS (upd H Dl ob) P q := by
  obtain ⟨ps, h1, h2, h3⟩ := h
  refine ⟨ps, ?_, h2, fun pos cv hc => ?_⟩
  · rw [upd_ne fun z => ?_]
    · exact h1
    · rw [← z] at hl
      obtain ⟨_, e⟩ := hl _ h1
      cases e
  · obtain ⟨c, e1, e2⟩ := h3 pos cv hc
    refine ⟨c, e1, ?_⟩
    rw [upd_ne fun z => ?_]
    · exact e2
    · rw [← z] at hl
      obtain ⟨_, e⟩ := hl _ e2
      unfold LamX.CodeO at e
      cases e
theorem Step.mut {m : Bool} {Dl : Addr} {ob : HO} (s : Step b m G1 H1 G H) (h1 : Gone H1 Dl) (h2 : G Dl = none) (hl : ∀ o, H Dl = some o → ∃ xs, o = HO.lst xs) : Step b m G1 H1 G (upd H Dl ob) := by
  refine ⟨s.g, s.s.mut h2, s.fresh, fun a u n t h => ?_, fun a u t h => ?_, fun h => ⟨fun P q w => tab_upd ((s.tabs h).tab P q w) hl, (s.tabs h).free⟩⟩
  · rw [upd_ne (h1.ne t h)]
    exact s.keep a u n t h
  · rw [upd_ne (h1.ne t h)]
    exact s.stay a u t h
theorem BagOk.mut {Dl : Addr} {ob : HO} (k : BagOk b β G H) (n : β.isSome = true → Dl ≠ b) : BagOk b β G (upd H Dl ob) := fun ns e => by
  obtain ⟨h1, h2⟩ := k ns e
  exact ⟨by rw [upd_ne (Ne.symm (n (by rw [e]; rfl)))]; exact h1, h2⟩
/-- one turn, with the element at hand -/
theorem lc_turn {j : Nat} {m : Bool} {Dl : Addr} {ds rs : List Dt} {σ0 : L2.St} {v : V} (hD : H1 Dl = none) (nb : m = true → Dl ≠ b) (hz : rs.length ≤ 100000) (E1 : ∀ G H β, Step b m G1 H1 G H → BagOk b β G H → EnvD K b β G H σ0 ρ)
    (hv : Den K G1 v d) (hw : LcW K b m G1 H1 Dl rs β3 (fun rest β => LcR K j tt te (d :: ds) ρ β rest β3) H) :
    tt (σ0.set j (some v)) H fun c H3 => if c = true then te (σ0.set j (some v)) H3 fun y H4 => ∃ acc, H4 Dl = some (.lst acc) ∧ acc.length < sizeLine ∧ LcW K b m G1 H1 Dl rs β3 (fun rest β => LcR K j tt te ds ρ β rest β3) (upd H4 Dl (.lst (acc ++ [y])))
      else LcW K b m G1 H1 Dl rs β3 (fun rest β => LcR K j tt te ds ρ β rest β3) H3 := by
  obtain ⟨G, β, done, rest, acc, s, kb, hm, gD, hH, ha, hr, r⟩ := hw
  have E := (E1 G H β s kb).set (i := j) (hv.mono s.g)
  cases r with
  | @yes _ r' _ rs' _ _ β1 β2 _ ht he hr' =>
    refine ht.run b G H _ _ E fun G3 H3 s3 k3 => ?_
    rw [if_pos rfl]
    rw [hm] at s3
    refine he.run b G3 H3 _ _ (E.step s3 k3) fun y G4 H4 s4 k4 d4 => ?_
    rw [ht.som, hm] at s4
    have hH3 := s3.keep Dl _ nb NoT.lst hH
    have hH4 := s4.keep Dl _ nb NoT.lst hH3
    have gD3 := s3.fresh Dl _ gD NoT.lst hH
    have gD4 := s4.fresh Dl _ gD3 NoT.lst hH3
    have m2 : β2.isSome = m := he.som.trans (ht.som.trans hm)
    have hlen : acc.length = done.length := ha.length
    have hrl : rs.length = done.length + (rs'.length + 1) := by rw [← hr, List.length_append, List.length_cons]
    refine ⟨acc, hH4, sz_lt (by omega), ⟨G4, β2, done ++ [r'], rs', acc ++ [y], ((s.trans s3).trans s4).mut (Gone.none hD) gD4 (LstAt.of hH4), k4.mut (by rw [m2]; exact nb), m2, gD4, upd_same, ?_, ?_, hr'⟩⟩
    · exact (ha.mono (s3.g.trans s4.g)).append (.cons d4 .nil)
    · rw [← hr, List.append_assoc]
      rfl
  | @no _ _ _ _ _ β1 _ ht hr' =>
    refine ht.run b G H _ _ E fun G3 H3 s3 k3 => ?_
    rw [if_neg (Bool.false_ne_true)]
    rw [hm] at s3
    exact ⟨G3, β1, done, rest, acc, s.trans s3, k3, ht.som.trans hm, s3.fresh Dl _ gD NoT.lst hH, s3.keep Dl _ nb NoT.lst hH, ha.mono s3.g, hr, hr'⟩
theorem lc_start {m : Bool} {Dl : Addr} {rs : List Dt} {P : List Dt → Bag → Prop} (e : Ex G1 H1) (hD : H1 Dl = none) (kb : BagOk b β G1 H1) (hm : β.isSome = m) (nb : m = true → Dl ≠ b) (h : P rs β) : LcW K b m G1 H1 Dl rs β3 P (upd H1 Dl (.lst [])) :=
  ⟨G1, β, [], rs, [], (Step.refl e).mut (Gone.none hD) (fresh_back e hD) (LstAt.none hD), kb.mut (by rw [hm]; exact nb), hm, fresh_back e hD, upd_same, .nil, rfl, h⟩
theorem lc_end {j : Nat} {m : Bool} {Dl : Addr} {rs : List Dt} {Q : VK} (e : Ex G1 H1) (hD : H1 Dl = none) (nb : m = true → Dl ≠ b) (hw : LcW K b m G1 H1 Dl rs β3 (fun rest β => LcR K j tt te [] ρ β rest β3) H)
    (k : ∀ v G' H', Step b m G1 H1 G' H' → BagOk b β3 G' H' → Den K G' v (.list rs) → Q v H') : Q (.ref Dl) H := by
  obtain ⟨G, β, done, rest, acc, s, kb, hm, gD, hH, ha, hr, r⟩ := hw
  cases r
  rw [List.append_nil] at hr
  subst hr
  have ex : Ex G (upd G Dl (.lst acc)) := Ex.new gD
  refine k (.ref Dl) (upd G Dl (.lst acc)) H ⟨s.g.trans ex, fun a u h => ?_, fun a u h1 t h2 => ?_, s.keep, s.stay, fun h => ⟨(s.tabs h).tab, fun x ps z => ?_⟩⟩ (fun ns q => ?_) (.lst upd_same (ha.mono ex))
  · by_cases z : a = Dl
    · subst z; rw [upd_same] at h; cases h; exact hH
    · rw [upd_ne z] at h; exact s.s a u h
  · rw [upd_ne (ne_of_none h2 hD)]
    exact s.fresh a u h1 t h2
  · by_cases q : x = Dl
    · rw [q, upd_same] at z; cases z
    · rw [upd_ne q] at z; exact (s.tabs h).free x ps z
  · obtain ⟨q1, q2⟩ := kb ns q
    exact ⟨q1, by rw [upd_ne (Ne.symm (nb (by rw [← hm, q]; rfl)))]; exact q2⟩
theorem bag_ne {m : Bool} {Dl : Addr} (kb : BagOk b β G H) (hm : β.isSome = m) (hD : H Dl = none) : m = true → Dl ≠ b := fun z q => by
  rw [← hm] at z
  obtain ⟨ns, e⟩ := Option.isSome_iff_exists.mp z
  have := (kb ns e).1
  rw [← q, hD] at this
  cases this
/-- a comprehension over a list -/
theorem d_lcL {j : Nat} {vs : List Nat} {tl : TE} {ds rs : List Dt} (hl : EvB K tl ρ β (.list ds) β1) (h : LcR K j tt te ds (wipeR ρ vs) β1 rs β2) (hz : rs.length ≤ 100000)
    (hw : ∀ (σ : L2.St) x, wipe ((wipe σ vs).set j (some x)) vs = wipe σ vs) : EvB K (tLc (iList K tl) (gName j) tt te vs) ρ β (.list rs) β2 := by
  refine ⟨h.som.trans hl.som, fun b G H σ Q E k => ?_⟩
  refine hl.run b G H σ _ E fun v G1 H1 s1 k1 d1 => ?_
  have E1 := E.step s1 k1
  cases d1 with
  | @lst a xs _ hs hd =>
    refine ⟨a, rfl, ⟨xs, sq_of (s1.s _ _ hs)⟩, fun Dl hD => ?_⟩
    have nb := bag_ne k1 hl.som hD
    refine lc_list (K := K) (a := a) (xs := xs) (fun i H' => LcW K b β.isSome G1 H1 Dl rs β2 (fun rest β' => LcR K j tt te (ds.drop i) (wipeR ρ vs) β' rest β2) H') ?_ ?_ ?_ ?_
    · exact lc_start s1.s hD k1 hl.som nb h
    · rintro i H' _ ⟨G', β', done, rest, acc, s', _⟩
      exact sq_of (s'.s _ _ (s'.g _ _ hs))
    · rintro i x H' hi w'
      obtain ⟨d, hd1, hd2⟩ := hd.get hi
      have e : ds.drop i = d :: ds.drop (i + 1) := by
        obtain ⟨hlt, he⟩ := List.getElem?_eq_some_iff.mp hd1
        rw [← he]
        exact List.drop_eq_getElem_cons hlt
      rw [e] at w'
      exact ⟨hw σ x, lc_turn hD nb hz (fun G' H' β' s' kb' => (E1.wipe vs).step s' kb') hd2 w'⟩
    · rintro H' w'
      rw [hd.length, List.drop_length] at w'
      exact lc_end s1.s hD nb w' fun v G' H'' s' kb' dv => k v G' H'' (s1.trans s') kb' dv
theorem d_lcT {j : Nat} {vs : List Nat} {tl : TE} {ds rs : List Dt} (hl : EvB K tl ρ β (.tuple ds) β1) (h : LcR K j tt te ds (wipeR ρ vs) β1 rs β2) (hz : rs.length ≤ 100000)
    (hw : ∀ (σ : L2.St) x, wipe ((wipe σ vs).set j (some x)) vs = wipe σ vs) : EvB K (tLc (iTup K tl) (gName j) tt te vs) ρ β (.list rs) β2 := by
  refine ⟨h.som.trans hl.som, fun b G H σ Q E k => ?_⟩
  refine hl.run b G H σ _ E fun v G1 H1 s1 k1 d1 => ?_
  have E1 := E.step s1 k1
  cases d1 with
  | @tup a xs _ hs hd =>
    refine ⟨a, rfl, ⟨xs, ex_t s1.s hs⟩, fun Dl hD => ?_⟩
    have nb := bag_ne k1 hl.som hD
    refine lc_tup (K := K) (a := a) (xs := xs) (fun i H' => LcW K b β.isSome G1 H1 Dl rs β2 (fun rest β' => LcR K j tt te (ds.drop i) (wipeR ρ vs) β' rest β2) H') ?_ ?_ ?_ ?_
    · exact lc_start s1.s hD k1 hl.som nb h
    · rintro i H' _ ⟨G', β', done, rest, acc, s', _⟩
      exact ex_t s'.s (ex_t s'.g hs)
    · rintro i x H' hi w'
      obtain ⟨d, hd1, hd2⟩ := hd.get hi
      have e : ds.drop i = d :: ds.drop (i + 1) := by
        obtain ⟨hlt, he⟩ := List.getElem?_eq_some_iff.mp hd1
        rw [← he]
        exact List.drop_eq_getElem_cons hlt
      rw [e] at w'
      exact ⟨hw σ x, lc_turn hD nb hz (fun G' H' β' s' kb' => (E1.wipe vs).step s' kb') hd2 w'⟩
    · rintro H' w'
      rw [hd.length, List.drop_length] at w'
      exact lc_end s1.s hD nb w' fun v G' H'' s' kb' dv => k v G' H'' (s1.trans s') kb' dv
theorem d_lcR1 {j : Nat} {vs : List Nat} {i : Int} {rs : List Dt} (hl : EvB K ta ρ β (.int i) β1) (hb : -(2 ^ 62) ≤ i ∧ i < 2 ^ 62) (h : LcR K j tt te (rng 0 i.toNat) (wipeR ρ vs) β1 rs β2) (hz : rs.length ≤ 100000)
    (hw : ∀ (σ : L2.St) x, wipe ((wipe σ vs).set j (some x)) vs = wipe σ vs) : EvB K (tLc (iRng1 (tCons ta tNil)) (gName j) tt te vs) ρ β (.list rs) β2 := by
  refine ⟨h.som.trans hl.som, fun b G H σ Q E k => ?_⟩
  refine a_int1 hl _ rfl E fun G1 H1 s1 k1 => ⟨hb.1, hb.2, fun Dl hD => ?_⟩
  have E1 := E.step s1 k1
  have nb := bag_ne k1 hl.som hD
  refine lc_range (lo := 0) (n := i.toNat) (fun i' H' => LcW K b β.isSome G1 H1 Dl rs β2 (fun rest β' => LcR K j tt te ((rng 0 i.toNat).drop i') (wipeR ρ vs) β' rest β2) H') ?_ ?_ ?_
  · exact lc_start s1.s hD k1 hl.som nb h
  · rintro i' H' hi w'
    rw [rng_drop hi] at w'
    exact ⟨hw σ _, lc_turn hD nb hz (fun G' H' β' s' kb' => (E1.wipe vs).step s' kb') (.int _) w'⟩
  · rintro H' w'
    have e : (rng 0 i.toNat).drop i.toNat = [] := by rw [List.drop_eq_nil_iff, rng_length]; exact Nat.le_refl _
    rw [e] at w'
    exact lc_end s1.s hD nb w' fun v G' H'' s' kb' dv => k v G' H'' (s1.trans s') kb' dv
theorem d_lcR2 {j : Nat} {vs : List Nat} {lo i : Int} {rs : List Dt} (hl0 : EvB K ta ρ β (.int lo) β1) (hl : EvB K tb ρ β1 (.int i) β2) (hb : -(2 ^ 62) ≤ lo ∧ lo < 2 ^ 62 ∧ -(2 ^ 62) ≤ i ∧ i < 2 ^ 62) (h : LcR K j tt te (rng lo (i - lo).toNat) (wipeR ρ vs) β2 rs β3) (hz : rs.length ≤ 100000)
    (hw : ∀ (σ : L2.St) x, wipe ((wipe σ vs).set j (some x)) vs = wipe σ vs) : EvB K (tLc (iRng2 (tCons ta (tCons tb tNil))) (gName j) tt te vs) ρ β (.list rs) β3 := by
  refine ⟨h.som.trans (hl.som.trans hl0.som), fun b G H σ Q E k => ?_⟩
  refine hl0.run b G H σ _ E fun v G0 H0 s0 k0 d0 => ?_
  refine hl.run b G0 H0 σ _ (E.step s0 k0) fun w G1 H1 s1 k1 d1 => ?_
  rw [hl0.som] at s1
  have d0' := d0.mono s1.g
  have s1 := s0.trans s1
  cases d0
  cases d1
  refine ⟨lo, i, rfl, hb, fun Dl hD => ?_⟩
  have E1 := E.step s1 k1
  have nb := bag_ne k1 (hl.som.trans hl0.som) hD
  refine lc_range (lo := lo) (n := (i - lo).toNat) (fun i' H' => LcW K b β.isSome G1 H1 Dl rs β3 (fun rest β' => LcR K j tt te ((rng lo (i - lo).toNat).drop i') (wipeR ρ vs) β' rest β3) H') ?_ ?_ ?_
  · exact lc_start s1.s hD k1 (hl.som.trans hl0.som) nb h
  · rintro i' H' hi w'
    rw [rng_drop hi] at w'
    exact ⟨hw σ _, lc_turn hD nb hz (fun G' H' β' s' kb' => (E1.wipe vs).step s' kb') (.int _) w'⟩
  · rintro H' w'
    have e : (rng lo (i - lo).toNat).drop (i - lo).toNat = [] := by rw [List.drop_eq_nil_iff, rng_length]; exact Nat.le_refl _
    rw [e] at w'
    exact lc_end s1.s hD nb w' fun v G' H'' s' kb' dv => k v G' H'' (s1.trans s') kb' dv
end
end TD
/-! ## TdFn -/
set_option Elab.async false
set_option linter.all false
set_option maxRecDepth 100000
set_option maxHeartbeats 3000000
/-! Defs by what they do with data. -/
namespace TD
open PySem L2 PySem.Spec PyProof.Rows
open Evl (Ex ex_l ex_t fresh_back sq_of st_of sz_of sz_lt)
theorem wipe_set {j : Nat} {y : Option V} : ∀ {vs : List Nat} {σ : L2.St}, j ∈ vs → wipe (σ.set j y) vs = wipe σ vs
  | [], _, h => by cases h
  | v :: vs, σ, h => by
    unfold wipe
    by_cases z : j ∈ vs
    · rw [wipe_set z]
    · have e : j = v := by
        rcases List.mem_cons.mp h with h | h
        · exact h
        · exact absurd h z
      subst e
      have q : ∀ {ws : List Nat} {τ : L2.St}, j ∉ ws → wipe (τ.set j y) ws = (wipe τ ws).set j y := by
        intro ws
        induction ws with
        | nil => intro τ _; rfl
        | cons w ws ih =>
          intro τ hn
          unfold wipe
          rw [ih (fun m => hn (List.mem_cons_of_mem _ m)), List.set_comm _ _ (fun e => hn (by rw [e]; exact List.mem_cons_self))]
      rw [q z, List.set_set]
theorem wipe_wipe : ∀ {vs : List Nat} {σ : L2.St}, wipe (wipe σ vs) vs = wipe σ vs
  | vs, σ => by
    have q : ∀ {ws : List Nat} {τ : L2.St}, (∀ w ∈ ws, w ∈ vs) → wipe (wipe τ ws) vs = wipe τ vs := by
      intro ws
      induction ws with
      | nil => intro τ _; rfl
      | cons w ws ih =>
        intro τ hs
        show wipe ((wipe τ ws).set w none) vs = _
        rw [wipe_set (hs w List.mem_cons_self)]
        exact ih fun u hu => hs u (List.mem_cons_of_mem _ hu)
    exact q fun w h => h
theorem wipe_ok {j : Nat} {vs : List Nat} (h : j ∈ vs) (σ : L2.St) (x : V) : wipe ((wipe σ vs).set j (some x)) vs = wipe σ vs := by rw [wipe_set h, wipe_wipe]

/-- what a def makes of its arguments: the arguments, the bag ahead, the answer, the bag behind -/
abbrev FR := List Slot → Bag → Dt → Bag → Prop
def spR [TabW] (K : PySem.W.Frag) (R : FR) : Sp := fun vs H Q _ => ∃ (b : Addr) (G : Hp) (β : Bag) (as : List Slot) (r : Dt) (β' : Bag), Ex G H ∧ TabsOk G H ∧ BagOk b β G H ∧ DenSs K b G vs as ∧ R as β r β' ∧ β'.isSome = β.isSome ∧
  ∀ v G' H', Step b β.isSome G H G' H' → BagOk b β' G' H' → Den K G' v r → Q v H'
/-- a function of data, with no bag -/
def fR (n : Nat) (f : List Dt → Option Dt) : FR := fun as β r β' => ∃ ds : List Dt, as = imms ds ∧ ds.length = n ∧ f ds = some r ∧ β = none ∧ β' = none
def startR (N : List Str) (as : List Slot) : Rho := as.map some ++ List.replicate (N.length - as.length) none
section
variable [TabW] {K : PySem.W.Frag} {b : Addr} {β β' β1 β2 : Bag} {G H : Hp} {ρ : Rho}
theorem start_env {N : List Str} {vs : List V} {as : List Slot} (e : Ex G H) (tb : TabsOk G H) (kb : BagOk b β G H) (h : DenSs K b G vs as) : EnvD K b β G H (L2.start N vs) (startR N as) := by
  have hl := h.length
  have get : ∀ (i : Nat) (a : Slot), (startR N as)[i]? = some (some a) → ∃ v, (L2.start N vs)[i]? = some (some v) ∧ DenS K b G v a := by
    intro i a hi
    have hia : i < as.length := by
      by_cases z : i < as.length
      · exact z
      · unfold startR at hi
        rw [List.getElem?_append_right (by simpa using z), List.getElem?_replicate] at hi
        split at hi <;> cases hi
    unfold startR at hi
    rw [List.getElem?_append_left (by simpa using hia), List.getElem?_map] at hi
    have ha : as[i]? = some a := by
      cases q : as[i]? with
      | none => rw [q] at hi; cases hi
      | some a' => rw [q] at hi; cases hi; rfl
    have q : ∀ {vs : List V} {as : List Slot} {i : Nat}, DenSs K b G vs as → as[i]? = some a → ∃ v, vs[i]? = some v ∧ DenS K b G v a := by
      intro vs as i hd
      induction hd generalizing i with
      | nil => intro z; simp at z
      | cons h1 _ ih =>
        intro z
        cases i with
        | zero => simp at z; subst z; exact ⟨_, rfl, h1⟩
        | succ i =>
          obtain ⟨v, z1, z2⟩ := ih (i := i) (by simpa using z)
          exact ⟨v, by simpa using z1, z2⟩
    obtain ⟨v, h1, h2⟩ := q h ha
    refine ⟨v, ?_, h2⟩
    unfold L2.start
    rw [List.getElem?_append_left (by rw [List.length_map, hl]; exact hia), List.getElem?_map, h1]
    rfl
  refine ⟨e, kb, ?_, fun i d hi => get i (.imm d) hi, fun i hi => ?_, tb, fun i a hi => get i (.fn a) hi |>.elim fun v h => by have h2 : v = .ref a := h.2; rw [← h2]; exact h.1⟩
  · unfold L2.start startR
    rw [List.length_append, List.length_append, List.length_map, List.length_map, List.length_replicate, List.length_replicate, hl]
  · obtain ⟨v, h1, h2⟩ := get i .bag hi
    have : v = .ref b := h2
    subst this
    exact h1
/-- a body that returns, or comes to its end -/
inductive BodyR [TabW] (K : PySem.W.Frag) (t : TS) (ρ : Rho) (β : Bag) (r : Dt) (β' : Bag) : Prop
  | ret : StB K t ρ β (.ret r) β' → BodyR K t ρ β r β'
  | fall (ρ' : Rho) : StB K t ρ β (.nx ρ') β' → r = .none → BodyR K t ρ β r β'
theorem fn_read {R : FR} {N : List Str} {t : TS} (h : ∀ as β r β', R as β r β' → BodyR K t (startR N as) β r β') {vs : List V} {H : Hp} {Q : VK} {E : XK} (hsp : spR K R vs H Q E) : t { nx := fun _ H' => Q .non H', rt := Q } (L2.start N vs) H := by
  obtain ⟨b, G, β, as, r, β', e, tb, kb, ha, hR, hm, k⟩ := hsp
  have E0 := start_env (N := N) e tb kb ha
  cases h _ _ _ _ hR with
  | ret hb => exact hb.run b G H _ _ E0 fun v G' H' s' k' d' => k v G' H' s' k' d'
  | fall ρ' hb hr =>
    subst hr
    exact hb.run b G H _ _ E0 fun σ' G' H' s' e' => k .non G' H' s' e'.bagk .non
/-- a call of it, with the bag or without -/
theorem d_call {R : FR} {E : XK} {t : TA} {as : List Slot} {r : Dt} (ha : EvA K t ρ β as β1) (hR : R as β1 r β2) (hm : β2.isSome = β1.isSome) : EvB K (tCall (spR K R) [] E t) ρ β r β2 := by
  refine ⟨hm.trans ha.som, fun b G H σ Q E' k => ?_⟩
  refine ha.run b G H σ _ E' fun vs G1 H1 s1 k1 d1 => ?_
  rw [List.append_nil]
  refine ⟨b, G1, β1, as, r, β2, s1.s, (E'.step s1 k1).tabs, k1, d1, hR, hm, fun v G2 H2 s2 k2 d2 => ?_⟩
  rw [ha.som] at s2
  exact k v G2 H2 (s1.trans s2) k2 d2
theorem d_call0 {R : FR} {E : XK} {t : TA} {as : List Slot} {r : Dt} (ha : EvA K t ρ β as β1) (hR : R as none r none) : EvB K (tCall (spR K R) [] E t) ρ β r β1 := by
  refine ⟨ha.som, fun b G H σ Q E' k => ?_⟩
  refine ha.run b G H σ _ E' fun vs G1 H1 s1 k1 d1 => ?_
  rw [List.append_nil]
  exact ⟨b, G1, none, as, r, none, s1.s, (E'.step s1 k1).tabs, (fun _ z => nomatch z), d1, hR, rfl, fun v G2 H2 s2 k2 d2 => k v G2 H2 (s1.trans s2.up) (k1.same s2) d2⟩
theorem d_callF {n : Nat} {f : List Dt → Option Dt} {E : XK} {t : TA} {as : List Slot} {ds : List Dt} {r : Dt} (ha : EvA K t ρ β as β1) (he : as = imms ds) (hn : ds.length = n) (hf : f ds = some r) : EvB K (tCall (spR K (fR n f)) [] E t) ρ β r β1 :=
  d_call0 ha ⟨ds, he, hn, hf, rfl, rfl⟩
end

/-! ### the defs of the text -/
structure FnG [TabW] (P : Program) (w : World) (K : PySem.W.Frag) (mg : Str → Option Value) (base : Heap) (k : Nat) (x : Str) (ps : List Str) (R : FR) : Prop where
  ex : ∃ (f : Addr) (fd : FuncData), mg x = some (.ref f) ∧ FnOk P w K mg base CX0 k f fd ps (spR K R) ∧ Binds K fd ps [] ∧ PySem.W.keepIn K (.ref f) = true
section
variable [TabW] {X : Cx} {k : Nat} {x : Str} {ps : List Str} {R : FR} {q pos : Pos} {e : Expr} {es : List Expr} {t : TA}
theorem pe_fn {P : Program} {w : World} {K : PySem.W.Frag} {mg : Str → Option Value} {base : Heap} (F : FnG P w K mg base k x ps R) (hr : Room k X.A) (ha : PA X (e :: es) t) (h1 : X.prog = P := by rfl) (h2 : X.w = w := by rfl) (h3 : X.K = K := by rfl) (h4 : X.mg = mg := by rfl) (h5 : X.base = base := by rfl)
    (hg : Gl X x := by rfl) (hdb : (x == ("__debug__" : Str)) = false := by decide) (hs : starEach (e :: es) X.env = (false, eval e X.env) :: starEach es X.env := by rfl)
    (hp : (backTo pos (starEach es X.env)).any (·.1) = false := by rfl) : PE X (.Call (.Name x q) (e :: es) [] pos) (tCall (spR K R) [] E0 t) := by
  obtain ⟨f, fd, hm, hf, hb, hk⟩ := F.ex
  subst h1 h2 h3 h4 h5
  exact pe_call hf hr hg hm hk hb .nil pass0 ha hdb hs hp
end
/-- where a def of the text stands -/
structure DefAt (K : PySem.W.Frag) (x : Str) (st : Stmt) : Prop where
  ex : ∃ (f : Addr) (fd : FuncData), PySem.W.nsIn K mainGlobals x = some (some (.ref f)) ∧ Fun K x x st f fd
theorem defAt_mk {K : PySem.W.Frag} {x : Str} {st : Stmt} {f : Addr} {oc : Value} {od an : Option Addr} {osl : Array (Option Value)} {kV doc pm cdv ct : Value} (a : PySem.W.nsIn K mainGlobals x = some (some (.ref f)))
    (l : K.lookup f = some ⟨oc, od, .func (PySem.W.fnOf x x (defArgs st) (defBody st) (defScope st) .none kV doc pm an cdv ct), osl⟩) (c : PySem.W.codeIn K cdv x = true) (k : PySem.W.keepIn K (.ref f) = true) : DefAt K x st := ⟨f, _, a, fun_mk l c k⟩
section
variable [TabW] {P : Program} {w : World} {K : PySem.W.Frag} {mg : Str → Option Value} {base : Heap} {k : Nat} {x : Str} {st : Stmt} {N ps : List Str} {R : FR}
/-- THE RULE for a def -/
theorem fn_mk (F : DefAt K x st) (hX : K.In base) (hG : base.Ns mainGlobals mg) (S : FnScope N ps (defScope st)) (hlen : ∀ as β r β', R as β r β' → as.length = ps.length)
    (hb : ∀ (f : Addr) (kV doc pm : Value) (an : Option Addr) (cdv ct : Value) (us : List Value), us.length = ps.length → bindArgs (PySem.W.fnOf x x (defArgs st) (defBody st) (defScope st) .none kV doc pm an cdv ct) ⟨us, []⟩ = pure (ps.zip us))
    (hbody : ∀ (f : Addr) (cdv : Value) (A : Around) (outer : List PySem.Env) (s : Shared) (H : Hp) (E : XK), Room k (A.deeper (envOfC x (defScope st) s.heap.objs.size f cdv)) →
      ∃ t, PSs (cxOf CX0 P w K mg base N x (defScope st) f cdv A outer s H E).nox (defBody st) t ∧ ∀ as β r β', R as β r β' → BodyR K t (startR N as) β r β') : FnG P w K mg base (k + 1) x ps R := by
  obtain ⟨f, fd, ha, hF⟩ := F.ex
  refine ⟨f, fd, PySem.W.mg_of hX hG ha, ?_, hF.binds (hb f), hF.kp⟩
  refine hF.ok S (fun vs H Q E hsp => ?_) fun cdv A outer s H vs Q E hr hsp => ?_
  · obtain ⟨b, G, β, as, r, β', _, _, _, hd, hR, _⟩ := hsp
    rw [hd.length]
    exact hlen _ _ _ _ hR
  · obtain ⟨t, h1, h2⟩ := hbody f cdv A outer s H E hr
    exact ⟨t, h1, fn_read h2 hsp⟩
end
end TD
/-! ## TdX -/
set_option Elab.async false
set_option linter.all false
set_option maxRecDepth 100000
set_option maxHeartbeats 3000000
/-! Further rules of my own over the hand layer, and what they come to. -/
namespace TD
open PySem L2 PySem.Spec PyProof.Rows
open Evl (Ex ex_l ex_t fresh_back sq_of st_of sz_of sz_lt)
theorem units1 {k : Nat} {A : Around} (r : Room k A) : A.units + 65 < cLine := by have := r.un; omega
def CPowW (i j : Int) : Prop := 0 ≤ j ∧ (Builtin.Int.intBits i : Int) * j ≤ 2 ^ 27
theorem op_powW {X : Cx} : OpR X (binaryOp .Pow) (rI CPowW fun i j => .int (i ^ j.toNat)) := opI fun _ _ _ _ _ _ _ hc q => pow_int hc.1 hc.2 q
theorem bo_int : bootBuiltins "int" = some (.type "int") := by decide +kernel
theorem bo_bool : bootBuiltins "bool" = some (.type "bool") := by decide +kernel
theorem bo_tuple : bootBuiltins "tuple" = some (.type "tuple") := by decide +kernel
theorem bo_list : bootBuiltins "list" = some (.type "list") := by decide +kernel
theorem bo_str : bootBuiltins "str" = some (.type "str") := by decide +kernel
theorem bo_dict : bootBuiltins "dict" = some (.type "dict") := by decide +kernel
theorem bo_set : bootBuiltins "set" = some (.type "set") := by decide +kernel
theorem bo_abs : bootBuiltins "abs" = some (.builtin "abs") := by decide +kernel
theorem bo_len : bootBuiltins "len" = some (.builtin "len") := by decide +kernel
theorem bo_sum : bootBuiltins "sum" = some (.builtin "sum") := by decide +kernel
theorem bo_max : bootBuiltins "max" = some (.builtin "max") := by decide +kernel
theorem bo_min : bootBuiltins "min" = some (.builtin "min") := by decide +kernel
theorem bo_all : bootBuiltins "all" = some (.builtin "all") := by decide +kernel
theorem bo_any : bootBuiltins "any" = some (.builtin "any") := by decide +kernel
theorem bo_repr : bootBuiltins "repr" = some (.builtin "repr") := by decide +kernel
theorem bo_sorted : bootBuiltins "sorted" = some (.builtin "sorted") := by decide +kernel
theorem bo_isinstance : bootBuiltins "isinstance" = some (.builtin "isinstance") := by decide +kernel
/-! ### a walk over a list or a tuple -/
section
variable {X : Cx} {tg : Expr}
def iSeq (K : PySem.W.Frag) (tl : TE) : TI := fun σ H R => tl σ H fun x H1 => ∃ a, x = .ref a ∧ (((∃ xs, SqL K H1 a xs) ∧ R (Itl K a) H1) ∨ ((∃ xs, SqT K H1 a xs) ∧ R (Itt K a) H1))
theorem pi_seq {l : Expr} {tl : TE} (hl : PE X l tl) : PI X tg l (iSeq X.K tl) := ⟨fun pins s σ H R I h => thn (hl.run pins s σ H _ I h) fun u t1 z => by
  obtain ⟨y, J, V1, ry, a, rfl, ⟨⟨xs, hq⟩, q⟩ | ⟨⟨xs, hq⟩, q⟩⟩ := z
  all_goals cases ry
  all_goals have new := V1.fpOk (Nat.le_refl _) (V1.hok.fresh (Nat.le_refl _))
  · obtain ⟨us, _, pl, _⟩ := V1.list hq
    exact wpAny_pyIter_list pl.isList ⟨_, [_], _, _, J, rfl, V1.kept (t' := t1.toks) (fun _ _ => Heap.get?_push_of_some _), turn_list a _, ⟨_, Heap.get?_push_size _ rfl, rfl, rfl⟩, (fun c hc => by
      rw [List.mem_singleton.mp hc]; exact new), q⟩
  · obtain ⟨us, _, pt, _⟩ := V1.tuple hq
    exact wpAny_pyIter_tuple (show t1.heap.IsTuple a us.toArray from pt) ⟨_, [_], _, _, J, rfl, V1.kept (t' := t1.toks) (fun _ _ => Heap.get?_push_of_some _), turn_tuple a _, ⟨_, Heap.get?_push_size _ rfl, rfl, rfl⟩, (fun c hc => by
      rw [List.mem_singleton.mp hc]; exact new), q⟩⟩
end
section
variable [TabW] {K : PySem.W.Frag} {b : Addr} {ρ ρ' ρ1 : Rho} {β β1 β2 β3 : Bag} {ta tb te tc : TE} {tt : TT} {tu tw ts : TS} {x y z d : Dt} {o : Out} {G H G1 H1 G2 H2 : Hp} {σ : L2.St}
theorem st_forQ {j : Nat} {tl : TE} {ds : List Dt} (hl : EvB K tl ρ β x β1) (hx : SeqD x ds) (h : ForR K j tu ds ρ β1 o β2) : StB K (tFor (iSeq K tl) (gName j) tu) ρ β o β2 := by
  refine ⟨h.som.trans hl.som, fun b G H σ D E k => ?_⟩
  refine hl.run b G H σ _ E fun v G1 H1 s1 k1 d1 => ?_
  rcases hx with rfl | rfl
  · cases d1 with
    | @lst a xs _ hs hd =>
      refine ⟨a, rfl, .inl ⟨⟨xs, sq_of (s1.s _ _ hs)⟩, for_list (K := K) (a := a) (xs := xs) (fun i σ' H' => ∃ G' ρ' β', Step b β.isSome G1 H1 G' H' ∧ β'.isSome = β.isSome ∧ EnvD K b β' G' H' σ' ρ' ∧ ForR K j tu (ds.drop i) ρ' β' o β2) ?_ ?_ ?_ ?_⟩⟩
      · exact ⟨G1, ρ, β1, Step.refl s1.s, hl.som, E.step s1 k1, h⟩
      · rintro i σ' H' _ ⟨G', ρ', β', s', _⟩
        exact sq_of (s'.s _ _ (s'.g _ _ hs))
      · rintro i v σ' H' hi ⟨G', ρ', β', s', m', E', r'⟩
        obtain ⟨d, hd1, hd2⟩ := hd.get hi
        have e : ds.drop i = d :: ds.drop (i + 1) := by
          obtain ⟨hlt, he⟩ := List.getElem?_eq_some_iff.mp hd1
          rw [← he]
          exact List.drop_eq_getElem_cons hlt
        rw [e] at r'
        exact for_turn (m := β.isSome) m'.symm r' E' (hd2.mono s'.g) s' (k.of (D' := D) s1) fun σ2 G2 H2 ρ2 β2' s2 m2 E2 r2 => ⟨G2, ρ2, β2', s2, m2, E2, r2⟩
      · rintro σ' H' ⟨G', ρ', β', s', m', E', r'⟩
        rw [hd.length, List.drop_length] at r'
        cases r'
        exact k σ' G' H' (s1.trans s') E'
  · cases d1 with
    | @tup a xs _ hs hd =>
      refine ⟨a, rfl, .inr ⟨⟨xs, ex_t s1.s hs⟩, for_tup (K := K) (a := a) (xs := xs) (fun i σ' H' => ∃ G' ρ' β', Step b β.isSome G1 H1 G' H' ∧ β'.isSome = β.isSome ∧ EnvD K b β' G' H' σ' ρ' ∧ ForR K j tu (ds.drop i) ρ' β' o β2) ?_ ?_ ?_ ?_⟩⟩
      · exact ⟨G1, ρ, β1, Step.refl s1.s, hl.som, E.step s1 k1, h⟩
      · rintro i σ' H' _ ⟨G', ρ', β', s', _⟩
        exact ex_t s'.s (ex_t s'.g hs)
      · rintro i v σ' H' hi ⟨G', ρ', β', s', m', E', r'⟩
        obtain ⟨d, hd1, hd2⟩ := hd.get hi
        have e : ds.drop i = d :: ds.drop (i + 1) := by
          obtain ⟨hlt, he⟩ := List.getElem?_eq_some_iff.mp hd1
          rw [← he]
          exact List.drop_eq_getElem_cons hlt
        rw [e] at r'
        exact for_turn (m := β.isSome) m'.symm r' E' (hd2.mono s'.g) s' (k.of (D' := D) s1) fun σ2 G2 H2 ρ2 β2' s2 m2 E2 r2 => ⟨G2, ρ2, β2', s2, m2, E2, r2⟩
      · rintro σ' H' ⟨G', ρ', β', s', m', E', r'⟩
        rw [hd.length, List.drop_length] at r'
        cases r'
        exact k σ' G' H' (s1.trans s') E'
theorem d_lcQ {j : Nat} {vs : List Nat} {tl : TE} {ds rs : List Dt} (hl : EvB K tl ρ β x β1) (hx : SeqD x ds) (h : LcR K j tt te ds (wipeR ρ vs) β1 rs β2) (hz : rs.length ≤ 100000)
    (hw : ∀ (σ : L2.St) x, wipe ((wipe σ vs).set j (some x)) vs = wipe σ vs) : EvB K (tLc (iSeq K tl) (gName j) tt te vs) ρ β (.list rs) β2 := by
  refine ⟨h.som.trans hl.som, fun b G H σ Q E k => ?_⟩
  refine hl.run b G H σ _ E fun v G1 H1 s1 k1 d1 => ?_
  have E1 := E.step s1 k1
  rcases hx with rfl | rfl
  · cases d1 with
    | @lst a xs _ hs hd =>
      refine ⟨a, rfl, .inl ⟨⟨xs, sq_of (s1.s _ _ hs)⟩, fun Dl hD => ?_⟩⟩
      have nb := bag_ne k1 hl.som hD
      refine lc_list (K := K) (a := a) (xs := xs) (fun i H' => LcW K b β.isSome G1 H1 Dl rs β2 (fun rest β' => LcR K j tt te (ds.drop i) (wipeR ρ vs) β' rest β2) H') ?_ ?_ ?_ ?_
      · exact lc_start s1.s hD k1 hl.som nb h
      · rintro i H' _ ⟨G', β', done, rest, acc, s', _⟩
        exact sq_of (s'.s _ _ (s'.g _ _ hs))
      · rintro i x H' hi w'
        obtain ⟨d, hd1, hd2⟩ := hd.get hi
        have e : ds.drop i = d :: ds.drop (i + 1) := by
          obtain ⟨hlt, he⟩ := List.getElem?_eq_some_iff.mp hd1
          rw [← he]
          exact List.drop_eq_getElem_cons hlt
        rw [e] at w'
        exact ⟨hw σ x, lc_turn hD nb hz (fun G' H' β' s' kb' => (E1.wipe vs).step s' kb') hd2 w'⟩
      · rintro H' w'
        rw [hd.length, List.drop_length] at w'
        exact lc_end s1.s hD nb w' fun v G' H'' s' kb' dv => k v G' H'' (s1.trans s') kb' dv
  · cases d1 with
    | @tup a xs _ hs hd =>
      refine ⟨a, rfl, .inr ⟨⟨xs, ex_t s1.s hs⟩, fun Dl hD => ?_⟩⟩
      have nb := bag_ne k1 hl.som hD
      refine lc_tup (K := K) (a := a) (xs := xs) (fun i H' => LcW K b β.isSome G1 H1 Dl rs β2 (fun rest β' => LcR K j tt te (ds.drop i) (wipeR ρ vs) β' rest β2) H') ?_ ?_ ?_ ?_
      · exact lc_start s1.s hD k1 hl.som nb h
      · rintro i H' _ ⟨G', β', done, rest, acc, s', _⟩
        exact ex_t s'.s (ex_t s'.g hs)
      · rintro i x H' hi w'
        obtain ⟨d, hd1, hd2⟩ := hd.get hi
        have e : ds.drop i = d :: ds.drop (i + 1) := by
          obtain ⟨hlt, he⟩ := List.getElem?_eq_some_iff.mp hd1
          rw [← he]
          exact List.drop_eq_getElem_cons hlt
        rw [e] at w'
        exact ⟨hw σ x, lc_turn hD nb hz (fun G' H' β' s' kb' => (E1.wipe vs).step s' kb') hd2 w'⟩
      · rintro H' w'
        rw [hd.length, List.drop_length] at w'
        exact lc_end s1.s hD nb w' fun v G' H'' s' kb' dv => k v G' H'' (s1.trans s') kb' dv
/-! ### any of some ints -/
omit [TabW] in
theorem truth_ints {prog : Program} {w : World} {A : Around} {ns : List Int} {its : List Value} (e : Vals (ns.map V.int) its) :
    TruthOf prog w A (fun i v => its.toArray[i]? = some v) (fun i => (ns.map (· != 0)).getD i false) := fun i v s Q E hv hq => by
  have hv' : its[i]? = some v := by simpa using (hv)
  have hl : its.length = ns.length := by rw [← e.length, List.length_map]
  have hi : i < ns.length := by rw [← hl]; exact (List.getElem?_eq_some_iff.mp hv').1
  have h1 : (ns.map V.int)[i]? = some (V.int ns[i]) := by simp [hi]
  obtain ⟨u, h2, h3⟩ := e.get h1
  rw [hv'] at h2
  cases h2
  obtain ⟨t, rfl⟩ := h3
  have hg : (ns.map (· != 0)).getD i false = (ns[i] != 0) := by simp [hi]
  have hq' : Q ((ns.map (· != 0)).getD i false) s := hq
  rw [hg] at hq'
  exact PyProof.Rows.truthy_int hq'
end
def rAnyT (K : PySem.W.Frag) : List V → Hp → VK → Prop := fun vs H Q => ∃ (a : Addr) (ns : List Int), vs = [V.ref a] ∧ SqT K H a (ns.map V.int) ∧ Q (.bl (ns.any (· != 0))) H
theorem cr_anyT {X : Cx} (hc : X.calm = true) : CallR X (.builtin "any") (rAnyT X.K) := by
  rintro pins s σ H vs us Q I r ⟨a, ns, rfl, hs, q⟩
  obtain ⟨its, rv, ht, hz⟩ := I.tuple hs
  rw [Vals.ref1 r]
  have hlt : a < s.heap.objs.size := ht.lt
  have hne : a ≠ s.heap.objs.size := Nat.ne_of_lt (hlt)
  refine call_any_walk (wpAny_pyIter_tuple (show s.heap.IsTuple a its.toArray from ht) ?_)
  refine ⟨_, _, _, _, _, _, _, rfl, Walks.tuple (A := X.A.in1) (I.ok.hd hc) _ a hne its.toArray, ⟨⟨_, Heap.get?_push_size _ rfl, rfl, rfl⟩, ?_⟩, truth_ints rv, fun h' tk hk => ?_⟩
  · obtain ⟨o, h1, h2⟩ := (show s.heap.IsTuple a its.toArray from ht)
    exact ⟨o, Heap.get?_push_of_some _ h1, h2⟩
  · refine ⟨.bl _, H, I.kept fun b o eo => hk b o (fun hmem => ?_) (Heap.get?_push_of_some _ eo), ?_, q⟩
    · obtain e1 | hmem := List.mem_cons.mp hmem
      · exact (Nat.lt_irrefl _ (e1 ▸ Heap.lt_size eo)).elim
      · cases hmem
    · show (Value.bool _ : Value) = Value.bool _
      have hl : its.toArray.size = (ns.map (· != 0)).length := by rw [List.size_toArray, ← rv.length, List.length_map, List.length_map]
      rw [hl, L2.any_range, List.any_map]
      rfl
def rReprB : List V → Hp → VK → Prop := fun xs H Q => ∃ c : Bool, xs = [.bl c] ∧ Q (.str (if c then "True" else "False")) H
theorem call_repr_b {X : Cx} : CallR X (.builtin "repr") rReprB := by
  rintro pins s σ H xs us Q I r ⟨i, rfl, q⟩
  obtain ⟨u, rfl, hu⟩ := vals1 r
  cases hu
  exact PySem.P.repr_of_bool ⟨.str _, H, I.tok _, ⟨_, rfl⟩, q⟩
section
variable [TabW] {K : PySem.W.Frag} {b : Addr} {ρ ρ' ρ1 : Rho} {β β1 β2 β3 : Bag} {ta tb te tc : TE} {tt : TT} {tu tw ts : TS} {x y z d : Dt} {o : Out} {G H G1 H1 G2 H2 : Hp} {σ : L2.St}
theorem d_anyT {ns : List Int} (h : EvB K te ρ β (.tuple (ns.map .int)) β1) : EvB K (tCB (rAnyT K) (tCons te tNil)) ρ β (.bool (ns.any (· != 0))) β1 := d_c1 h fun b G H v Q e dv k => by
  cases dv with
  | @tup a xs _ hs hd =>
    have := hd.ints
    subst this
    exact ⟨a, ns, rfl, ex_t e hs, k _ G H (Step.refl e) (.bl _)⟩
def boolT (c : Bool) : Str := if c then "True" else "False"
theorem d_reprB {c : Bool} (h : EvB K te ρ β (.bool c) β1) : EvB K (tCB rReprB (tCons te tNil)) ρ β (.str (boolT c)) β1 := d_c1 h fun b G H v Q e dv k => by
  cases dv
  exact ⟨c, rfl, k _ G H (Step.refl e) (.str _)⟩
theorem boolT_inj {c e : Bool} : (boolT c = boolT e) ↔ c = e := by cases c <;> cases e <;> decide
/-- a truth -/
def tTruth (K : PySem.W.Frag) (te : TE) : TT := fun σ H Q => te σ H fun x H' => ∃ k, TruV K x H' k ∧ Q k H'
theorem pt_tru {X : Cx} {K : PySem.W.Frag} {e : Expr} {te : TE} (he : PE X e te) (hw : ∀ whole, isTrue e X.env whole = (do let v ← whole; standAt e.pos; holding [v] (truthy v)) := by intro _; rfl) (h3 : X.K = K := by rfl) : PT X e (tTruth K te) := by
  subst h3
  exact pt_truth he hw
theorem t_truthI {i : Int} (h : EvB K te ρ β (.int i) β1) : TtB K (tTruth K te) ρ β (i != 0) β1 := ⟨h.som, fun b G H σ Q E k => h.run b G H σ _ E fun v G1 H1 s1 k1 d1 => by
  cases d1
  exact ⟨_, rfl, k G1 H1 s1 k1⟩⟩
theorem d_inD {ds : List Dt} (hx : EvB K ta ρ β x β1) (hy : EvB K tb ρ β1 (.list ds) β2) (fx : flatD x = true) (fy : flatL ds = true) (sx : SeqAt.shaped x = true) (sy : SeqAt.shaped (.list ds) = true) : EvB K (tOp (rInD K) ta tb) ρ β (.bool (ds.any fun z => PyData.eqv z x)) β2 :=
  d_op hx hy fun b G H v w Q e h1 h2 k => ⟨x, ds, h1.dp e fx, h2.dp e (by unfold flatD; exact fy), sx, sy, k _ G H (Step.refl e) (.bl _)⟩
theorem d_notInD {ds : List Dt} (hx : EvB K ta ρ β x β1) (hy : EvB K tb ρ β1 (.list ds) β2) (fx : flatD x = true) (fy : flatL ds = true) (sx : SeqAt.shaped x = true) (sy : SeqAt.shaped (.list ds) = true) : EvB K (tOp (rNotInD K) ta tb) ρ β (.bool (!ds.any fun z => PyData.eqv z x)) β2 :=
  d_op hx hy fun b G H v w Q e h1 h2 k => ⟨x, ds, h1.dp e fx, h2.dp e (by unfold flatD; exact fy), sx, sy, k _ G H (Step.refl e) (.bl _)⟩
/-! ### // by any divisor but 0 -/
def CDivV (_ j : Int) : Prop := j ≠ 0 ∧ j.natAbs.log2 < 9000
theorem op_fdivV {X : Cx} : OpR X (binaryOp .FloorDiv) (rI CDivV fun i j => .int (i.fdiv j)) := opI fun _ _ _ _ _ _ _ hc q => floordiv_int hc.1 q (.inl (PyProof.noPylong_of_log2 hc.2))
theorem d_fdiv {i j : Int} {C : Int → Int → Prop} (ha : EvB K ta ρ β (.int i) β1) (hb : EvB K tb ρ β1 (.int j) β2) (hc : C i j) : EvB K (tOp (rI C fun i j => .int (i.fdiv j)) ta tb) ρ β (.int (i.fdiv j)) β2 := d_rI ha hb hc fun _ => .int _
/-! ### tuples and lists of ints compared -/
theorem eqv_ints : ∀ ms ns : List Int, PyData.eqvAll (ms.map .int) (ns.map .int) = decide (ms = ns)
  | [], [] => rfl
  | [], _ :: _ => rfl
  | _ :: _, [] => rfl
  | m :: ms, n :: ns => by
    show (PyData.eqv (.int m) (.int n) && PyData.eqvAll (ms.map .int) (ns.map .int)) = _
    rw [eqv_ints ms ns]
    have e : PyData.eqv (.int m) (.int n) = decide (m = n) := rfl
    rw [e]
    by_cases h1 : m = n
    · by_cases h2 : ms = ns
      · simp [h1, h2]
      · simp [h1, h2]
    · simp [h1]
theorem flat_ints : ∀ ns : List Int, flatL (ns.map .int) = true
  | [] => rfl
  | n :: ns => by
    show (flatD (.int n) && flatL (ns.map .int)) = true
    rw [flat_ints ns]
    rfl
theorem lay_ints : ∀ ns : List Int, PyData.canLayAll0 (ns.map .int) = true
  | [] => rfl
  | n :: ns => by
    show (PyData.canLay0 (.int n) && PyData.canLayAll0 (ns.map .int)) = true
    rw [lay_ints ns]
    rfl
theorem depth_ints : ∀ ns : List Int, PyData.depthAll (ns.map .int) = 0
  | [] => rfl
  | n :: ns => by
    show max (PyData.depth (.int n)) (PyData.depthAll (ns.map .int)) = 0
    rw [depth_ints ns]
    rfl
theorem shaped_tup (ns : List Int) : SeqAt.shaped (.tuple (ns.map .int)) = true := by
  show (PyData.canLayAll0 (ns.map .int) && decide (PyData.depthAll (ns.map .int) + 1 ≤ 64)) = true
  rw [lay_ints, depth_ints]
  rfl
theorem shaped_lst (ns : List Int) : SeqAt.shaped (.list (ns.map .int)) = true := by
  show (PyData.canLayAll0 (ns.map .int) && decide (PyData.depthAll (ns.map .int) + 1 ≤ 64)) = true
  rw [lay_ints, depth_ints]
  rfl
theorem d_eqTT {ms ns : List Int} (ha : EvB K ta ρ β (.tuple (ms.map .int)) β1) (hb : EvB K tb ρ β1 (.tuple (ns.map .int)) β2) : EvB K (tOp (rEqD K) ta tb) ρ β (.bool (decide (ms = ns))) β2 :=
  (d_eqD ha hb (flat_ints ms) (flat_ints ns) (shaped_tup ms) (shaped_tup ns)).to (congrArg PyData.bool (eqv_ints ms ns))
theorem d_neTT {ms ns : List Int} (ha : EvB K ta ρ β (.tuple (ms.map .int)) β1) (hb : EvB K tb ρ β1 (.tuple (ns.map .int)) β2) : EvB K (tOp (rNeD K) ta tb) ρ β (.bool (!decide (ms = ns))) β2 :=
  (d_neD ha hb (flat_ints ms) (flat_ints ns) (shaped_tup ms) (shaped_tup ns)).to (congrArg (fun c => PyData.bool (!c)) (eqv_ints ms ns))
theorem d_eqLL {ms ns : List Int} (ha : EvB K ta ρ β (.list (ms.map .int)) β1) (hb : EvB K tb ρ β1 (.list (ns.map .int)) β2) : EvB K (tOp (rEqD K) ta tb) ρ β (.bool (decide (ms = ns))) β2 :=
  (d_eqD ha hb (flat_ints ms) (flat_ints ns) (shaped_lst ms) (shaped_lst ns)).to (congrArg PyData.bool (eqv_ints ms ns))
theorem d_neLL {ms ns : List Int} (ha : EvB K ta ρ β (.list (ms.map .int)) β1) (hb : EvB K tb ρ β1 (.list (ns.map .int)) β2) : EvB K (tOp (rNeD K) ta tb) ρ β (.bool (!decide (ms = ns))) β2 :=
  (d_neD ha hb (flat_ints ms) (flat_ints ns) (shaped_lst ms) (shaped_lst ns)).to (congrArg (fun c => PyData.bool (!c)) (eqv_ints ms ns))
/-! ### comprehensions over ints -/
theorem filter_ints (f : Int → Bool) (g : Int → Dt) (F : Dt → Bool) (G' : Dt → Dt) (hF : ∀ n, F (.int n) = f n) (hG : ∀ n, G' (.int n) = g n) : ∀ ns : List Int, ((ns.map PyData.int).filter F).map G' = (ns.filter f).map g
  | [] => rfl
  | n :: ns => by
    have ih := filter_ints f g F G' hF hG ns
    rw [List.map_cons, List.filter_cons, List.filter_cons, hF]
    cases f n with
    | true => simp only [if_true]; rw [List.map_cons, List.map_cons, hG, ih]
    | false => simp only [Bool.false_eq_true, if_false]; exact ih
def intV : Dt → Int
  | .int i => i
  | _ => 0
theorem lc_ints {j : Nat} (f : Int → Bool) (g : Int → Dt) {ns : List Int} (h1 : ∀ n ∈ ns, TtB K tt (ρ.set j (some (Slot.imm (.int n)))) β (f n) β) (h2 : ∀ n ∈ ns, f n = true → EvB K te (ρ.set j (some (Slot.imm (.int n)))) β (g n) β) :
    LcR K j tt te (ns.map .int) ρ β ((ns.filter f).map g) β := by
  rw [← filter_ints f g (fun d => f (intV d)) (fun d => g (intV d)) (fun _ => rfl) (fun _ => rfl) ns]
  refine LcR.pure _ _ (fun d hd => ?_) fun d hd hf => ?_
  · obtain ⟨n, hn, rfl⟩ := List.mem_map.mp hd
    exact h1 n hn
  · obtain ⟨n, hn, rfl⟩ := List.mem_map.mp hd
    exact h2 n hn hf
theorem lc_ints' {j : Nat} (g : Int → Dt) {ns : List Int} (h2 : ∀ n ∈ ns, EvB K te (ρ.set j (some (Slot.imm (.int n)))) β (g n) β) : LcR K j tYes te (ns.map .int) ρ β (ns.map g) β := by
  have h := lc_ints (K := K) (tt := tYes) (te := te) (ρ := ρ) (β := β) (j := j) (fun _ => true) g (ns := ns) (fun _ _ => t_yes0) fun n hn _ => h2 n hn
  rw [List.filter_eq_self.mpr fun _ _ => rfl] at h
  exact h
end
end TD
/-! ## NumM -/
set_option linter.all false
/-! Numbers over a prime, in plain Lean: what the program and the laws reckon. -/
namespace Num
open PySem
abbrev Dt := PyData
def big : Int := 1000000000000000000000000000000000000000000000000000000000000
def isInteger : Dt → Bool
  | .int i => decide (-big < i) && decide (i < big)
  | _ => false
def primes : List Int := [2, 3, 5, 7, 11, 13, 17, 19]
def isPrime : Dt → Bool
  | .int p => decide (p = 0) || decide (p ∈ primes)
  | _ => false
/-- a prime of the package, as a number -/
def PrimeI (p : Int) : Prop := p = 0 ∨ p ∈ primes
theorem PrimeI.small {p : Int} (h : PrimeI p) : 0 ≤ p ∧ p ≤ 19 := by
  rcases h with rfl | h
  · decide
  · unfold primes at h
    simp only [List.mem_cons, or_false, List.not_mem_nil] at h
    omega
theorem isPrime_int (p : Int) : isPrime (.int p) = (isInteger (.int p) && (decide (p = 0) || decide (p ∈ primes))) := by
  show (decide (p = 0) || decide (p ∈ primes)) = _
  by_cases h : PrimeI p
  · have hs := h.small
    have h1 : isInteger (.int p) = true := by
      show (decide (-big < p) && decide (p < big)) = true
      unfold big
      rw [decide_eq_true (by omega), decide_eq_true (by omega)]
      rfl
    rw [h1, Bool.true_and]
  · have h1 : ¬ p = 0 := fun z => h (.inl z)
    have h2 : ¬ p ∈ primes := fun z => h (.inr z)
    rw [decide_eq_false h1, decide_eq_false h2, Bool.false_or, Bool.and_false]
theorem isPrime_of {p : Int} (h : PrimeI p) : isPrime (.int p) = true := by
  show (decide (p = 0) || decide (p ∈ primes)) = true
  rcases h with h | h
  · rw [decide_eq_true h]; rfl
  · rw [decide_eq_true h, Bool.or_true]
def fits (p : Int) : Dt → Bool
  | .int i => (decide (-big < i) && decide (i < big)) && (decide (p = 0) || (decide (0 ≤ i) && decide (i < p)))
  | _ => false
def allFit (p : Int) (n : Int) : Dt → Bool
  | .tuple ds => decide ((ds.length : Int) = n) && ds.all (fits p)
  | _ => false
def settled (p n : Int) : Int := if p ≠ 0 then n % p else n
/-- the numbers from lo on, n of them -/
def upto (lo : Int) (n : Nat) : List Int := (List.range n).map fun (i : Nat) => lo + (i : Int)
def invs (p a : Int) : List Int := (upto 1 (p - 1).toNat).filter fun o => decide (a * o % p = 1)
def inv (p a : Int) : Int := (invs p a).headD 0
def gcdI (i j : Int) : Int := ((Nat.gcd i.natAbs j.natAbs : Nat) : Int)
def gcdL : Int → List Int → Int
  | s, [] => s
  | s, n :: ns => gcdL (gcdI s n) ns
theorem gcdL_one : ∀ ns : List Int, gcdL 1 ns = 1
  | [] => rfl
  | n :: ns => by
    unfold gcdL
    have e : gcdI 1 n = 1 := by
      unfold gcdI
      show ((Nat.gcd 1 n.natAbs : Nat) : Int) = 1
      rw [Nat.gcd_one_left]
      rfl
    rw [e, gcdL_one ns]
def firstI (ns : List Int) : Int := (ns.filter fun n => !decide (n = 0)).headD 0
def made (p : Int) (ns : List Int) : List Int :=
  if p ≠ 0 then ns.map fun n => n * inv p (firstI ns) % p
  else ns.map fun n => n.fdiv (if firstI ns < 0 then -(gcdL 0 ns) else gcdL 0 ns)
/-- what made asks: a number other than 0, and its inverse -/
structure MadeOk (p : Int) (ns : List Int) : Prop where
  pr : PrimeI p
  ex : ∃ n ∈ ns, n ≠ 0
  lt : p ≠ 0 → ∀ n ∈ ns, 0 ≤ n ∧ n < p
  len : ns.length ≤ 140
  sz : ∀ n ∈ ns, n.natAbs < 2 ^ 1000
theorem gcdI_dvd (i j : Int) : gcdI i j ∣ i ∧ gcdI i j ∣ j := by
  unfold gcdI
  exact ⟨Int.ofNat_dvd_left.mpr (Nat.gcd_dvd_left _ _), Int.ofNat_dvd_left.mpr (Nat.gcd_dvd_right _ _)⟩
theorem gcdL_dvd : ∀ (ns : List Int) (s : Int), gcdL s ns ∣ s ∧ ∀ n ∈ ns, gcdL s ns ∣ n
  | [], s => ⟨Int.dvd_refl s, fun n h => by cases h⟩
  | m :: ns, s => by
    obtain ⟨h1, h2⟩ := gcdL_dvd ns (gcdI s m)
    obtain ⟨g1, g2⟩ := gcdI_dvd s m
    refine ⟨Int.dvd_trans h1 g1, fun n hn => ?_⟩
    obtain rfl | hn := List.mem_cons.mp hn
    · exact Int.dvd_trans h1 g2
    · exact h2 n hn
theorem gcdL_nn : ∀ (ns : List Int) (s : Int), 0 ≤ s → 0 ≤ gcdL s ns
  | [], s, h => h
  | m :: ns, s, _ => gcdL_nn ns (gcdI s m) (Int.natCast_nonneg _)
theorem gcdL_pos {ns : List Int} (h : ∃ n ∈ ns, n ≠ 0) : 0 < gcdL 0 ns := by
  obtain ⟨n, hn, h0⟩ := h
  have h1 := gcdL_nn ns 0 (Int.le_refl 0)
  have h2 := (gcdL_dvd ns 0).2 n hn
  rcases Int.lt_or_eq_of_le h1 with h3 | h3
  · exact h3
  · rw [← h3] at h2
    exact absurd (Int.zero_dvd.mp h2) h0
theorem gcdL_le {ns : List Int} {n : Int} (hn : n ∈ ns) (h0 : n ≠ 0) : (gcdL 0 ns).natAbs ≤ n.natAbs := by
  have h2 := (gcdL_dvd ns 0).2 n hn
  exact Nat.le_of_dvd (Int.natAbs_pos.mpr h0) (Int.natAbs_dvd_natAbs.mpr h2)
theorem first_cons {ns : List Int} (h : ∃ n ∈ ns, n ≠ 0) : ∃ rest, (ns.filter fun n => !decide (n = 0)) = firstI ns :: rest ∧ firstI ns ∈ ns ∧ firstI ns ≠ 0 := by
  obtain ⟨n, hn, h0⟩ := h
  have hm : n ∈ ns.filter fun n => !decide (n = 0) := List.mem_filter.mpr ⟨hn, by simp [h0]⟩
  unfold firstI
  cases e : ns.filter fun n => !decide (n = 0) with
  | nil => rw [e] at hm; cases hm
  | cons m rest =>
    have h1 : m ∈ ns.filter fun n => !decide (n = 0) := by rw [e]; exact List.mem_cons_self
    obtain ⟨h2, h3⟩ := List.mem_filter.mp h1
    exact ⟨rest, rfl, h2, by simpa using h3⟩
theorem inv_all : ∀ p ∈ primes, ∀ a ∈ upto 1 (p - 1).toNat, (invs p a).isEmpty = false := by decide +kernel
theorem mem_upto {lo a : Int} {n : Nat} (h1 : lo ≤ a) (h2 : a < lo + n) : a ∈ upto lo n := by
  unfold upto
  exact List.mem_map.mpr ⟨(a - lo).toNat, List.mem_range.mpr (by omega), by omega⟩
theorem inv_cons {p a : Int} (hp : PrimeI p) (h0 : p ≠ 0) (h1 : 0 < a) (h2 : a < p) : ∃ rest, invs p a = inv p a :: rest := by
  rcases hp with rfl | hp
  · exact absurd rfl h0
  · have := inv_all p hp a (mem_upto (by omega) (by omega))
    unfold inv
    cases e : invs p a with
    | nil => rw [e] at this; cases this
    | cons b rest => exact ⟨rest, rfl⟩
theorem inv_lt {p a : Int} (hp : PrimeI p) (h0 : p ≠ 0) (h1 : 0 < a) (h2 : a < p) : 1 ≤ inv p a ∧ inv p a < p ∧ a * inv p a % p = 1 := by
  obtain ⟨rest, e⟩ := inv_cons hp h0 h1 h2
  have hm : inv p a ∈ invs p a := by rw [e]; exact List.mem_cons_self
  obtain ⟨h3, h4⟩ := List.mem_filter.mp hm
  obtain ⟨i, hi, hj⟩ := List.mem_map.mp h3
  have := List.mem_range.mp hi
  have := hp.small
  refine ⟨by omega, by omega, of_decide_eq_true h4⟩
theorem log_lt {n : Nat} (h : n < 2 ^ 1000) : n.log2 < 9000 := by
  by_cases z : n = 0
  · subst z; decide
  · have := (Nat.log2_lt z).mpr h
    omega
theorem MadeOk.first {p : Int} {ns : List Int} (h : MadeOk p ns) (h0 : p ≠ 0) : 0 < firstI ns ∧ firstI ns < p := by
  obtain ⟨_, _, h1, h2⟩ := first_cons h.ex
  have := h.lt h0 _ h1
  omega
end Num
/-! ## NumN -/
set_option linter.all false
/-! Normal triples, crosses: the numbers. -/
namespace Num
open PySem
def toI : Dt → Int
  | .int i => i
  | _ => 0
theorem map_toI (ns : List Int) : (ns.map PyData.int).map toI = ns := by
  rw [List.map_map]
  exact List.map_id ns
theorem allFit_ints {p n : Int} : ∀ {ds : List Dt}, allFit p n (.tuple ds) = true → ∃ ns : List Int, ds = ns.map PyData.int ∧ (ns.length : Int) = n ∧ ∀ m ∈ ns, (-big < m ∧ m < big) ∧ (p = 0 ∨ (0 ≤ m ∧ m < p)) := by
  intro ds h
  have h : (decide ((ds.length : Int) = n) && ds.all (fits p)) = true := h
  obtain ⟨h1, h2⟩ := Bool.and_eq_true_iff.mp h
  have h1 := of_decide_eq_true h1
  have q : ∀ ds : List Dt, ds.all (fits p) = true → ∃ ns : List Int, ds = ns.map PyData.int ∧ ∀ m ∈ ns, (-big < m ∧ m < big) ∧ (p = 0 ∨ (0 ≤ m ∧ m < p)) := by
    intro ds
    induction ds with
    | nil => exact fun _ => ⟨[], rfl, fun m h => by cases h⟩
    | cons d ds ih =>
      intro h
      rw [List.all_cons] at h
      obtain ⟨a1, a2⟩ := Bool.and_eq_true_iff.mp h
      obtain ⟨ns, rfl, hn⟩ := ih a2
      cases d with
      | int i =>
        refine ⟨i :: ns, rfl, fun m hm => ?_⟩
        obtain rfl | hm := List.mem_cons.mp hm
        · have a1 : ((decide (-big < m) && decide (m < big)) && (decide (p = 0) || (decide (0 ≤ m) && decide (m < p)))) = true := a1
          simp only [Bool.and_eq_true, Bool.or_eq_true, decide_eq_true_eq] at a1
          exact a1
        · exact hn m hm
      | _ => cases a1
  obtain ⟨ns, rfl, hn⟩ := q ds h2
  exact ⟨ns, rfl, by rw [List.length_map] at h1; exact h1, hn⟩
theorem allFit_of {p n : Int} {ns : List Int} (h1 : (ns.length : Int) = n) (h2 : ∀ m ∈ ns, (-big < m ∧ m < big) ∧ (p = 0 ∨ (0 ≤ m ∧ m < p))) : allFit p n (.tuple (ns.map PyData.int)) = true := by
  show (decide (((ns.map PyData.int).length : Int) = n) && (ns.map PyData.int).all (fits p)) = true
  rw [List.length_map, decide_eq_true h1, Bool.true_and, List.all_eq_true]
  intro d hd
  obtain ⟨m, hm, rfl⟩ := List.mem_map.mp hd
  show ((decide (-big < m) && decide (m < big)) && (decide (p = 0) || (decide (0 ≤ m) && decide (m < p)))) = true
  simp only [Bool.and_eq_true, Bool.or_eq_true, decide_eq_true_eq]
  exact h2 m hm
/-- a normal triple, of ints -/
def normI (p : Int) (ns : List Int) : Bool := allFit p 3 (.tuple (ns.map PyData.int)) && ns.any (· != 0) && decide (made p ns = ns)
def isNormal (p : Int) : Dt → Bool
  | .tuple ds => allFit p 3 (.tuple ds) && (ds.map toI).any (· != 0) && decide (made p (ds.map toI) = ds.map toI)
  | _ => false
theorem isNormal_ints (p : Int) (ns : List Int) : isNormal p (.tuple (ns.map PyData.int)) = normI p ns := by
  show (allFit p 3 (.tuple (ns.map PyData.int)) && ((ns.map PyData.int).map toI).any (· != 0) && decide (made p ((ns.map PyData.int).map toI) = (ns.map PyData.int).map toI)) = _
  rw [map_toI]
  rfl
def smallL (ns : List Int) : Bool := ns.all fun n => decide (n.natAbs ≤ 1000)
def isLine (p : Int) : Dt → Bool
  | .tuple ds => isNormal p (.tuple ds) && smallL (ds.map toI)
  | _ => false
def lineI (p : Int) (ns : List Int) : Bool := normI p ns && smallL ns
theorem isLine_ints (p : Int) (ns : List Int) : isLine p (.tuple (ns.map PyData.int)) = lineI p ns := by
  show (isNormal p (.tuple (ns.map PyData.int)) && smallL ((ns.map PyData.int).map toI)) = _
  rw [isNormal_ints, map_toI]
  rfl
theorem any_ex {ns : List Int} : ns.any (· != 0) = true ↔ ∃ n ∈ ns, n ≠ 0 := by
  rw [List.any_eq_true]
  constructor
  · rintro ⟨n, h1, h2⟩; exact ⟨n, h1, by simpa using h2⟩
  · rintro ⟨n, h1, h2⟩; exact ⟨n, h1, by simpa using h2⟩
theorem big_lt {m : Int} (h : -big < m ∧ m < big) : m.natAbs < 2 ^ 200 := by
  unfold big at h
  have : m.natAbs < 1000000000000000000000000000000000000000000000000000000000000 := by omega
  exact Nat.lt_trans this (by decide)
theorem up1000 {n : Nat} (h : n < 2 ^ 200) : n < 2 ^ 1000 := Nat.lt_of_lt_of_le h (Nat.pow_le_pow_right (by decide) (by decide))
theorem madeOk_fit {p : Int} {ns : List Int} (hp : PrimeI p) (h : allFit p 3 (.tuple (ns.map PyData.int)) = true) (ha : ns.any (· != 0) = true) : MadeOk p ns := by
  obtain ⟨ms, e, hl, hm⟩ := allFit_ints h
  have e : ns = ms := by
    have := congrArg (List.map toI) e
    rw [map_toI, map_toI] at this
    exact this
  subst e
  refine ⟨hp, any_ex.mp ha, fun h0 n hn => ?_, by omega, fun n hn => up1000 (big_lt (hm n hn).1)⟩
  rcases (hm n hn).2 with h | h
  · exact absurd h h0
  · exact h
/-- what a normal triple is -/
structure NT (p : Int) (ns : List Int) : Prop where
  ok : MadeOk p ns
  len : ns.length = 3
  fit : allFit p 3 (.tuple (ns.map PyData.int)) = true
  sz : ∀ n ∈ ns, -big < n ∧ n < big
  eq : made p ns = ns
theorem NT.of {p : Int} {ns : List Int} (hp : PrimeI p) (h : normI p ns = true) : NT p ns := by
  unfold normI at h
  obtain ⟨h1, h3⟩ := Bool.and_eq_true_iff.mp h
  obtain ⟨h1, h2⟩ := Bool.and_eq_true_iff.mp h1
  obtain ⟨ms, e, hl, hm⟩ := allFit_ints h1
  have e : ns = ms := by
    have := congrArg (List.map toI) e
    rw [map_toI, map_toI] at this
    exact this
  subst e
  exact ⟨madeOk_fit hp h1 h2, by omega, h1, fun n hn => (hm n hn).1, of_decide_eq_true h3⟩
theorem NT.to {p : Int} {ns : List Int} (h : NT p ns) : normI p ns = true := by
  unfold normI
  rw [h.fit, any_ex.mpr h.ok.ex, decide_eq_true h.eq]
  rfl
theorem NT.cons {p : Int} {ns : List Int} (h : NT p ns) : ∃ a b c, ns = [a, b, c] := by
  have hl := h.len
  match ns, hl with
  | [a, b, c], _ => exact ⟨a, b, c, rfl⟩
def dot (x y : List Int) : Int := ((x.zip y).map fun q => q.1 * q.2).sum
/-- the cross of two triples -/
def crossI : List Int → List Int → List Int
  | [a, b, c], [d, e, f] => [b * f - c * e, c * d - a * f, a * e - b * d]
  | _, _ => []
/-! ### multiples -/
def gN : Nat → List Int → Nat
  | s, [] => s
  | s, n :: ns => gN (Nat.gcd s n.natAbs) ns
theorem gcdL_nat : ∀ (ns : List Int) (s : Nat), gcdL (s : Int) ns = ((gN s ns : Nat) : Int)
  | [], s => rfl
  | n :: ns, s => by
    show gcdL (gcdI (s : Int) n) ns = _
    have e : gcdI (s : Int) n = ((Nat.gcd s n.natAbs : Nat) : Int) := rfl
    rw [e, gcdL_nat ns]
    rfl
theorem gN_mul (k : Int) : ∀ (ns : List Int) (s : Nat), gN (k.natAbs * s) (ns.map fun n => k * n) = k.natAbs * gN s ns
  | [], s => rfl
  | n :: ns, s => by
    show gN (Nat.gcd (k.natAbs * s) (k * n).natAbs) (ns.map fun n => k * n) = k.natAbs * gN (Nat.gcd s n.natAbs) ns
    rw [Int.natAbs_mul, Nat.gcd_mul_left, gN_mul k ns]
theorem gcdL_mul (k : Int) (ns : List Int) : gcdL 0 (ns.map fun n => k * n) = (k.natAbs : Int) * gcdL 0 ns := by
  have h1 := gcdL_nat (ns.map fun n => k * n) 0
  have h2 := gcdL_nat ns 0
  have h3 := gN_mul k ns 0
  rw [Nat.mul_zero] at h3
  have h1 : gcdL 0 (ns.map fun n => k * n) = ((gN 0 (ns.map fun n => k * n) : Nat) : Int) := h1
  have h2 : gcdL 0 ns = ((gN 0 ns : Nat) : Int) := h2
  rw [h1, h2, h3, Int.natCast_mul]
theorem first_map (f : Int → Int) : ∀ {ns : List Int}, (∀ n ∈ ns, f n = 0 ↔ n = 0) → f 0 = 0 → firstI (ns.map f) = f (firstI ns)
  | [], _, h0 => h0.symm
  | n :: ns, h, h0 => by
    have ih := first_map f (ns := ns) (fun m hm => h m (List.mem_cons_of_mem _ hm)) h0
    unfold firstI at ih ⊢
    rw [List.map_cons, List.filter_cons, List.filter_cons]
    by_cases z : n = 0
    · have z' := (h n List.mem_cons_self).mpr z
      simp only [z, z', h0, decide_true, Bool.not_true, Bool.false_eq_true, if_false]
      exact ih
    · have z' : ¬ f n = 0 := fun e => z ((h n List.mem_cons_self).mp e)
      simp only [z, z', decide_false, Bool.not_false, if_true]
      rfl
theorem made_zero (ns : List Int) : made 0 ns = ns.map fun n => n.fdiv (if firstI ns < 0 then -(gcdL 0 ns) else gcdL 0 ns) := if_neg (by decide)
theorem made0_mul {k : Int} (hk : k ≠ 0) {ns : List Int} (hx : ∃ n ∈ ns, n ≠ 0) : made 0 (ns.map fun n => k * n) = made 0 ns := by
  rw [made_zero, made_zero, gcdL_mul, first_map (fun n => k * n) (fun n _ => ⟨fun h => (Int.mul_eq_zero.mp h).resolve_left hk, fun h => by rw [h]; exact Int.mul_zero k⟩) (Int.mul_zero k), List.map_map]
  obtain ⟨_, _, _, hf⟩ := first_cons hx
  have hg := gcdL_pos hx
  refine List.map_congr_left fun n hn => ?_
  obtain ⟨q, hq⟩ := (gcdL_dvd ns 0).2 n hn
  generalize gcdL 0 ns = g at *
  generalize firstI ns = f at *
  show (k * n).fdiv (if k * f < 0 then -((k.natAbs : Int) * g) else (k.natAbs : Int) * g) = n.fdiv (if f < 0 then -g else g)
  have e : (if k * f < 0 then -((k.natAbs : Int) * g) else (k.natAbs : Int) * g) = k * (if f < 0 then -g else g) := by
    rcases Int.lt_or_gt_of_ne hk with h1 | h1
    · have ha : (k.natAbs : Int) = -k := by omega
      rcases Int.lt_or_gt_of_ne hf with h2 | h2
      · have h3 : ¬ k * f < 0 := by have := Int.mul_pos_of_neg_of_neg h1 h2; omega
        rw [if_neg h3, if_pos h2, ha]
        grind
      · have h3 : k * f < 0 := Int.mul_neg_of_neg_of_pos h1 h2
        rw [if_pos h3, if_neg (by omega), ha]
        grind
    · have ha : (k.natAbs : Int) = k := by omega
      rcases Int.lt_or_gt_of_ne hf with h2 | h2
      · have h3 : k * f < 0 := Int.mul_neg_of_pos_of_neg h1 h2
        rw [if_pos h3, if_pos h2, ha]
        grind
      · have h3 : ¬ k * f < 0 := by have := Int.mul_pos h1 h2; omega
        rw [if_neg h3, if_neg (by omega), ha]
  rw [e]
  have hs : (if f < 0 then -g else g) ≠ 0 := by split <;> omega
  have e2 : ∃ q', n = (if f < 0 then -g else g) * q' := by
    split
    · exact ⟨-q, by rw [hq]; grind⟩
    · exact ⟨q, hq⟩
  generalize (if f < 0 then -g else g) = s at *
  obtain ⟨q', rfl⟩ := e2
  rw [← Int.mul_assoc, Int.mul_fdiv_cancel_left _ (Int.mul_ne_zero hk hs), Int.mul_fdiv_cancel_left _ hs]
theorem prime_pos {p : Int} (hp : PrimeI p) (h0 : p ≠ 0) : 2 ≤ p ∧ p ≤ 19 := by
  rcases hp with h | h
  · exact absurd h h0
  · unfold primes at h
    simp only [List.mem_cons, or_false, List.not_mem_nil] at h
    omega
theorem inv_mod {p a : Int} (hp : PrimeI p) (h0 : p ≠ 0) (ha : a % p ≠ 0) : ∃ i q, 1 ≤ i ∧ i < p ∧ a * i = 1 + p * q ∧ inv p (a % p) = i := by
  have h2 := prime_pos hp h0
  have h3 : 0 ≤ a % p := Int.emod_nonneg _ (by omega)
  have h4 : a % p < p := Int.emod_lt_of_pos _ (by omega)
  obtain ⟨i1, i2, i3⟩ := inv_lt hp h0 (a := a % p) (by omega) h4
  have h5 := Int.emod_add_mul_ediv (a % p * inv p (a % p)) p
  have h6 := Int.emod_add_mul_ediv a p
  generalize inv p (a % p) = i at *
  refine ⟨i, a % p * i / p + a / p * i, i1, i2, ?_, rfl⟩
  rw [i3] at h5
  generalize a % p * i / p = u at *
  generalize a / p = v at *
  generalize a % p = w at *
  grind
theorem mul_zero_mod {p a b : Int} (hp : PrimeI p) (h0 : p ≠ 0) (ha : a % p ≠ 0) (h : a * b % p = 0) : b % p = 0 := by
  obtain ⟨i, q, _, _, e, _⟩ := inv_mod hp h0 ha
  obtain ⟨r, hr⟩ := Int.dvd_of_emod_eq_zero h
  refine Int.emod_eq_zero_of_dvd ⟨i * r - q * b, ?_⟩
  grind
theorem emod_eq_of {p a b c : Int} (h : a = b + p * c) : a % p = b % p := by
  rw [h, Int.add_mul_emod_self_left]
theorem madeP_mul {p k : Int} (hp : PrimeI p) (h0 : p ≠ 0) (hk : k % p ≠ 0) {ns : List Int} (hb : ∀ n ∈ ns, 0 ≤ n ∧ n < p) (hx : ∃ n ∈ ns, n ≠ 0) : made p (ns.map fun n => k * n % p) = made p ns := by
  have h2 := prime_pos hp h0
  have hz : ∀ n ∈ ns, k * n % p = 0 ↔ n = 0 := fun n hn => by
    have := hb n hn
    constructor
    · intro h
      have := mul_zero_mod hp h0 hk h
      rw [Int.emod_eq_of_lt (by omega) (by omega)] at this
      exact this
    · rintro rfl
      simp
  obtain ⟨_, _, hm, hf⟩ := first_cons hx
  have hfb := hb _ hm
  have hfz := hz _ hm
  unfold made
  rw [if_pos h0, if_pos h0, first_map (fun n => k * n % p) hz (by simp), List.map_map]
  generalize firstI ns = f at *
  have hkf : (k * f) % p ≠ 0 := fun z => hf (hfz.mp z)
  have hff : f % p = f := Int.emod_eq_of_lt (by omega) (by omega)
  obtain ⟨i, q, _, _, e1, e2⟩ := inv_mod hp h0 (a := f) (by rw [hff]; exact hf)
  obtain ⟨j, r, _, _, e3, e4⟩ := inv_mod hp h0 hkf
  rw [hff] at e2
  refine List.map_congr_left fun n hn => ?_
  show k * n % p * inv p (k * f % p) % p = n * inv p f % p
  rw [e2, e4]
  have h6 := Int.emod_add_mul_ediv (k * n) p
  generalize k * n % p = u at *
  generalize k * n / p = v at *
  exact emod_eq_of (c := n * i * r - k * n * j * q - v * j) (by grind)
/-- two normal tuples of which one is a multiple of the other are one -/
def low (p : Int) (n : Int) : Int := settled p n
theorem made_low {p k : Int} (hp : PrimeI p) (hk : settled p k ≠ 0) {ns : List Int} (hb : p ≠ 0 → ∀ n ∈ ns, 0 ≤ n ∧ n < p) (hx : ∃ n ∈ ns, n ≠ 0) : made p (ns.map fun n => settled p (k * n)) = made p ns := by
  by_cases h0 : p = 0
  · subst h0
    have e : settled 0 k = k := rfl
    rw [e] at hk
    exact made0_mul hk hx
  · have e : ∀ n, settled p n = n % p := fun n => by unfold settled; rw [if_pos h0]
    simp only [e] at hk ⊢
    exact madeP_mul hp h0 hk (hb h0) hx
theorem settled_sub {p a b : Int} (h : settled p (a - b) = 0) : settled p a = settled p b := by
  unfold settled at h ⊢
  split
  · rename_i h0
    rw [if_pos h0] at h
    exact Int.emod_eq_emod_iff_emod_sub_eq_zero.mpr h
  · rename_i h0
    rw [if_neg h0] at h
    omega
theorem settled_mul {p a b : Int} (hp : PrimeI p) (ha : settled p a ≠ 0) (h : settled p (a * b) = 0) : settled p b = 0 := by
  unfold settled at ha h ⊢
  split
  · rename_i h0
    rw [if_pos h0] at ha h
    exact mul_zero_mod hp h0 ha h
  · rename_i h0
    rw [if_neg h0] at ha h
    rcases Int.mul_eq_zero.mp h with h | h
    · exact absurd h ha
    · exact h
theorem settled_id {p : Int} {ns : List Int} (h : MadeOk p ns) {n : Int} (hn : n ∈ ns) : settled p n = n := by
  unfold settled
  split
  · rename_i h0
    have := h.lt h0 n hn
    exact Int.emod_eq_of_lt (by omega) (by omega)
  · rfl
/-- normal triples whose cross is zero are one -/
theorem cross_zero {p : Int} {x y : List Int} (hx : NT p x) (hy : NT p y) (h : ∀ n ∈ crossI x y, settled p n = 0) : x = y := by
  obtain ⟨a, b, c, rfl⟩ := hx.cons
  obtain ⟨d, e, f, rfl⟩ := hy.cons
  have hp := hx.ok.pr
  have h1 : settled p (b * f) = settled p (c * e) := settled_sub (h _ (by simp [crossI]))
  have h2 : settled p (c * d) = settled p (a * f) := settled_sub (h _ (by simp [crossI]))
  have h3 : settled p (a * e) = settled p (b * d) := settled_sub (h _ (by simp [crossI]))
  have sx : ∀ n ∈ [a, b, c], settled p n = n := fun n hn => settled_id hx.ok hn
  have sy : ∀ n ∈ [d, e, f], settled p n = n := fun n hn => settled_id hy.ok hn
  have sz : settled p 0 = 0 := by unfold settled; split <;> simp
  have key : ∀ (k l : Int), settled p k ≠ 0 → (∀ v ∈ [(a, d), (b, e), (c, f)], settled p (k * v.2) = settled p (l * v.1)) → l ∈ [d, e, f] → k ∈ [a, b, c] → [a, b, c] = [d, e, f] := by
    intro k l hk hv hl hkm
    have e1 := hv (a, d) (by simp)
    have e2 := hv (b, e) (by simp)
    have e3 := hv (c, f) (by simp)
    have hl0 : settled p l ≠ 0 := by
      intro hl0
      have l0 : l = 0 := by rw [sy l hl] at hl0; exact hl0
      subst l0
      simp only [Int.zero_mul, sz] at e1 e2 e3
      obtain ⟨n, hn, hz⟩ := hy.ok.ex
      have q1 := settled_mul hp hk e1
      have q2 := settled_mul hp hk e2
      have q3 := settled_mul hp hk e3
      rw [sy d (by simp)] at q1
      rw [sy e (by simp)] at q2
      rw [sy f (by simp)] at q3
      simp only [List.mem_cons, or_false, List.not_mem_nil] at hn
      rcases hn with rfl | rfl | rfl
      · exact hz q1
      · exact hz q2
      · exact hz q3
    have m1 := made_low hp hk (ns := [d, e, f]) hy.ok.lt hy.ok.ex
    have m2 := made_low hp hl0 (ns := [a, b, c]) hx.ok.lt hx.ok.ex
    rw [hy.eq] at m1
    rw [hx.eq] at m2
    rw [← m1, ← m2]
    congr 1
    show [settled p (l * a), settled p (l * b), settled p (l * c)] = [settled p (k * d), settled p (k * e), settled p (k * f)]
    rw [e1, e2, e3]
  obtain ⟨n, hn, hz⟩ := hx.ok.ex
  have hs : settled p n ≠ 0 := by rw [sx n hn]; exact hz
  simp only [List.mem_cons, or_false, List.not_mem_nil] at hn
  rcases hn with rfl | rfl | rfl
  · refine key n d hs (fun v hv => ?_) (by simp) (by simp)
    simp only [List.mem_cons, or_false, List.not_mem_nil] at hv
    rcases hv with rfl | rfl | rfl
    · show settled p (n * d) = settled p (d * n)
      rw [Int.mul_comm]
    · show settled p (n * e) = settled p (d * b)
      rw [h3, Int.mul_comm]
    · show settled p (n * f) = settled p (d * c)
      rw [← h2, Int.mul_comm]
  · refine key n e hs (fun v hv => ?_) (by simp) (by simp)
    simp only [List.mem_cons, or_false, List.not_mem_nil] at hv
    rcases hv with rfl | rfl | rfl
    · show settled p (n * d) = settled p (e * a)
      rw [← h3, Int.mul_comm]
    · show settled p (n * e) = settled p (e * n)
      rw [Int.mul_comm]
    · show settled p (n * f) = settled p (e * c)
      rw [h1, Int.mul_comm]
  · refine key n f hs (fun v hv => ?_) (by simp) (by simp)
    simp only [List.mem_cons, or_false, List.not_mem_nil] at hv
    rcases hv with rfl | rfl | rfl
    · show settled p (n * d) = settled p (f * a)
      rw [h2, Int.mul_comm]
    · show settled p (n * e) = settled p (f * b)
      rw [← h1, Int.mul_comm]
    · show settled p (n * f) = settled p (f * n)
      rw [Int.mul_comm]
theorem cross_len {p : Int} {x y : List Int} (hx : NT p x) (hy : NT p y) : (crossI x y).length = 3 := by
  obtain ⟨a, b, c, rfl⟩ := hx.cons
  obtain ⟨d, e, f, rfl⟩ := hy.cons
  rfl
theorem mul_sz {a b : Int} (ha : a.natAbs < 2 ^ 200) (hb : b.natAbs < 2 ^ 200) : (a * b).natAbs < 2 ^ 400 := by
  rw [Int.natAbs_mul, show (400 : Nat) = 200 + 200 from rfl, Nat.pow_add]
  exact Nat.mul_lt_mul'' ha hb
theorem sub_sz {a b : Int} (ha : a.natAbs < 2 ^ 400) (hb : b.natAbs < 2 ^ 400) : (a - b).natAbs < 2 ^ 401 := by
  have : (2 : Nat) ^ 401 = 2 ^ 400 + 2 ^ 400 := by rw [show (401 : Nat) = 400 + 1 from rfl, Nat.pow_succ]; omega
  generalize (2 : Nat) ^ 400 = z at *
  omega
theorem cross_sz {p : Int} {x y : List Int} (hx : NT p x) (hy : NT p y) : ∀ n ∈ crossI x y, n.natAbs < 2 ^ 401 := by
  have sx := fun n hn => big_lt (hx.sz n hn)
  have sy := fun n hn => big_lt (hy.sz n hn)
  obtain ⟨a, b, c, rfl⟩ := hx.cons
  obtain ⟨d, e, f, rfl⟩ := hy.cons
  intro n hn
  simp only [crossI, List.mem_cons, List.not_mem_nil, or_false] at hn
  rcases hn with rfl | rfl | rfl
  all_goals exact sub_sz (mul_sz (sx _ (by simp)) (sy _ (by simp))) (mul_sz (sx _ (by simp)) (sy _ (by simp)))
theorem settled_sz {p n : Int} {k : Nat} (hp : PrimeI p) (h : n.natAbs < 2 ^ k) (hk : 5 ≤ k) : (settled p n).natAbs < 2 ^ k := by
  unfold settled
  split
  · rename_i h0
    have h2 := prime_pos hp h0
    have h3 : 0 ≤ n % p := Int.emod_nonneg _ (by omega)
    have h4 : n % p < p := Int.emod_lt_of_pos _ (by omega)
    have h5 : 2 ^ 5 ≤ 2 ^ k := Nat.pow_le_pow_right (by decide) hk
    have : (2 : Nat) ^ 5 = 32 := by decide
    omega
  · exact h
theorem settled_rng {p n : Int} (hp : PrimeI p) (h0 : p ≠ 0) : 0 ≤ settled p n ∧ settled p n < p := by
  have h2 := prime_pos hp h0
  unfold settled
  rw [if_pos h0]
  exact ⟨Int.emod_nonneg _ (by omega), Int.emod_lt_of_pos _ (by omega)⟩
/-- the numbers of a cross, over the prime -/
def crossS (p : Int) (x y : List Int) : List Int := (crossI x y).map (settled p)
theorem cross_ok {p : Int} {x y : List Int} (hx : NT p x) (hy : NT p y) (hn : x ≠ y) : MadeOk p (crossS p x y) := by
  have hp := hx.ok.pr
  refine ⟨hp, ?_, fun h0 n hn' => ?_, by unfold crossS; rw [List.length_map, cross_len hx hy]; decide, fun n hn' => ?_⟩
  · by_cases z : ∀ n ∈ crossI x y, settled p n = 0
    · exact absurd (cross_zero hx hy z) hn
    · obtain ⟨n, h1⟩ := Classical.not_forall.mp z
      obtain ⟨h2, h3⟩ := Classical.not_imp.mp h1
      exact ⟨_, List.mem_map_of_mem h2, h3⟩
  · obtain ⟨m, hm, rfl⟩ := List.mem_map.mp hn'
    exact settled_rng hp h0
  · obtain ⟨m, hm, rfl⟩ := List.mem_map.mp hn'
    exact Nat.lt_of_lt_of_le (settled_sz hp (cross_sz hx hy m hm) (by decide)) (Nat.pow_le_pow_right (by decide) (by decide))
def absI (n : Int) : Int := ((n.natAbs : Nat) : Int)
theorem max_ex : ∀ {ns : List Int}, ns ≠ [] → ∃ M ∈ ns, ∀ n ∈ ns, n ≤ M
  | [], h => absurd rfl h
  | [n], _ => ⟨n, List.mem_cons_self, fun m hm => by simp at hm; omega⟩
  | n :: m :: ns, _ => by
    obtain ⟨M, h1, h2⟩ := max_ex (ns := m :: ns) (by simp)
    by_cases z : n ≤ M
    · refine ⟨M, List.mem_cons_of_mem _ h1, fun k hk => ?_⟩
      obtain rfl | hk := List.mem_cons.mp hk
      · exact z
      · exact h2 k hk
    · refine ⟨n, List.mem_cons_self, fun k hk => ?_⟩
      obtain rfl | hk := List.mem_cons.mp hk
      · omega
      · have := h2 k hk; omega
theorem max_small {ns : List Int} {M : Int} (hM : M ∈ ns.map absI) (hg : ∀ n ∈ ns.map absI, n ≤ M) : decide (M ≤ 1000) = smallL ns := by
  unfold smallL
  rw [Bool.eq_iff_iff, decide_eq_true_eq, List.all_eq_true]
  constructor
  · intro h n hn
    have := hg _ (List.mem_map_of_mem hn)
    unfold absI at this
    apply decide_eq_true; omega
  · intro h
    obtain ⟨n, hn, rfl⟩ := List.mem_map.mp hM
    have := of_decide_eq_true (h n hn)
    unfold absI
    omega
theorem made_len (p : Int) (ns : List Int) : (made p ns).length = ns.length := by
  unfold made
  split <;> rw [List.length_map]
theorem isNormal_no {p : Int} {ds : List Dt} (h : allFit p 3 (.tuple ds) = false) : isNormal p (.tuple ds) = false := by
  show (allFit p 3 (.tuple ds) && (ds.map toI).any (· != 0) && decide (made p (ds.map toI) = ds.map toI)) = false
  rw [h]
  rfl
theorem isLine_no {p : Int} {ds : List Dt} (h : isNormal p (.tuple ds) = false) : isLine p (.tuple ds) = false := by
  show (isNormal p (.tuple ds) && smallL (ds.map toI)) = false
  rw [h]
  rfl
end Num
/-! ## NumL -/
set_option linter.all false
/-! What the law reckons: its own draws and normal triples, mirrored. -/
namespace Num
open PySem
def grabF (t : Int) : List Int → Int × List Int
  | [a, m, c] => if 0 < a then (a % t, [a.fdiv t, m, c]) else
      let o := (m + 1048627 * (c + 1)) % 2305843009213693951
      ((((o * o % 2305843009213693723 * o + 8147 * (c + 1)) % 2305843009213693921).fdiv 16384) % t, [a, m, c + 1])
  | ns => (0, ns)
structure BagI (n : Int) (ns : List Int) : Prop where
  ex : ∃ a m c, ns = [a, m, c] ∧ 0 ≤ a ∧ a.natAbs < 2 ^ 3000 ∧ 0 ≤ m ∧ m < 2305843009213693951 ∧ 0 ≤ c ∧ c ≤ n
theorem BagI.mono {n k : Int} {ns : List Int} (h : BagI n ns) (hk : n ≤ k) : BagI k ns := by
  obtain ⟨a, m, c, e, h1, h2, h3, h4, h5, h6⟩ := h.ex
  exact ⟨a, m, c, e, h1, h2, h3, h4, h5, by omega⟩
theorem grab_rng {t : Int} (ht : 0 < t) (ns : List Int) : 0 ≤ (grabF t ns).1 ∧ (grabF t ns).1 < t := by
  unfold grabF
  split
  · split
    · exact ⟨Int.emod_nonneg _ (by omega), Int.emod_lt_of_pos _ ht⟩
    · exact ⟨Int.emod_nonneg _ (by omega), Int.emod_lt_of_pos _ ht⟩
  · exact ⟨Int.le_refl 0, ht⟩
theorem grab_bag {t n : Int} (ht : 0 < t) {ns : List Int} (h : BagI n ns) : BagI (n + 1) (grabF t ns).2 := by
  obtain ⟨a, m, c, rfl, h1, h2, h3, h4, h5, h6⟩ := h.ex
  unfold grabF
  split
  · rename_i a' m' c' e
    cases e
    split
    · refine ⟨_, _, _, rfl, ?_, ?_, h3, h4, h5, by omega⟩
      · rw [Int.fdiv_eq_ediv_of_nonneg _ (by omega)]; exact Int.ediv_nonneg h1 (by omega)
      · rw [Int.fdiv_eq_ediv_of_nonneg _ (by omega)]
        refine Nat.lt_of_le_of_lt ?_ h2
        have e1 := Int.ediv_nonneg h1 (show 0 ≤ t by omega)
        have e2 := Int.ediv_le_self t h1
        omega
    · exact ⟨_, _, _, rfl, h1, h2, h3, h4, by omega, by omega⟩
  · rename_i hne
    exact absurd rfl (hne a m c)
def oneF (xs : List Int) (ns : List Int) : Int × List Int := (xs.getD (grabF xs.length ns).1.toNat 0, (grabF xs.length ns).2)
theorem one_mem {xs : List Int} (h : xs ≠ []) (ns : List Int) : (oneF xs ns).1 ∈ xs := by
  have hl : 0 < xs.length := List.length_pos_iff.mpr h
  have hg := grab_rng (t := xs.length) (by omega) ns
  unfold oneF
  have : (grabF xs.length ns).1.toNat < xs.length := by omega
  show xs.getD _ 0 ∈ xs
  rw [List.getD_eq_getElem?_getD, List.getElem?_eq_getElem this]
  exact List.getElem_mem this
theorem one_bag {xs : List Int} (h : xs ≠ []) {n : Int} {ns : List Int} (hb : BagI n ns) : BagI (n + 1) (oneF xs ns).2 := grab_bag (by have := List.length_pos_iff.mpr h; omega) hb
def drawnPrimes : List Int := [0, 0, 0, 2, 3, 5, 7, 0, 11, 0]
def primeF (ns : List Int) : Int × List Int := oneF drawnPrimes ns
theorem primeF_ok (ns : List Int) : PrimeI (primeF ns).1 := by
  have h := one_mem (xs := drawnPrimes) (by decide) ns
  show PrimeI (oneF drawnPrimes ns).1
  generalize (oneF drawnPrimes ns).1 = q at *
  unfold drawnPrimes at h
  simp only [List.mem_cons, or_false, List.not_mem_nil] at h
  unfold PrimeI primes
  simp only [List.mem_cons, List.not_mem_nil, or_false]
  omega
def allZero (ns : List Int) : Bool := ns.all fun n => decide (n = 0)
/-- the law's normal tuple -/
def normalF (p : Int) (ns : List Int) : List Int :=
  if allZero (ns.map (settled p)) then ns.map (settled p) else made p (ns.map (settled p))
theorem allZero_ex {ns : List Int} (h : allZero ns = false) : ∃ n ∈ ns, n ≠ 0 := by
  unfold allZero at h
  rw [List.all_eq_false] at h
  obtain ⟨n, h1, h2⟩ := h
  exact ⟨n, h1, by simpa using h2⟩
theorem allZero_filter {ns : List Int} : (ns.filter fun n => !decide (n = 0)) = [] ↔ allZero ns = true := by
  rw [List.filter_eq_nil_iff]
  unfold allZero
  rw [List.all_eq_true]
  constructor
  · intro h n hn; have := h n hn; simpa using this
  · intro h n hn; have := h n hn; simpa using this
theorem told_ok {p : Int} {ns : List Int} (hp : PrimeI p) (hl : ns.length ≤ 140) (hs : ∀ n ∈ ns, n.natAbs < 2 ^ 1000) (h : allZero (ns.map (settled p)) = false) : MadeOk p (ns.map (settled p)) := by
  refine ⟨hp, allZero_ex h, fun h0 n hn => ?_, by rw [List.length_map]; exact hl, fun n hn => ?_⟩
  · obtain ⟨m, _, rfl⟩ := List.mem_map.mp hn
    exact settled_rng hp h0
  · obtain ⟨m, hm, rfl⟩ := List.mem_map.mp hn
    exact settled_sz hp (hs m hm) (by decide)
theorem normalF_len (p : Int) (ns : List Int) : (normalF p ns).length = ns.length := by
  unfold normalF
  split
  · rw [List.length_map]
  · rw [made_len, List.length_map]
def crossF (p : Int) (x y : List Int) : List Int := normalF p (crossI x y)
def numberF (p s : Int) (ns : List Int) : Int × List Int :=
  if p = 0 then ((grabF (2 * s + 1) ns).1 - s, (grabF (2 * s + 1) ns).2) else grabF p ns
/-- n draws, one behind the other -/
def drawsF (f : List Int → Int × List Int) : Nat → List Int → List Int × List Int
  | 0, ns => ([], ns)
  | k + 1, ns => ((f ns).1 :: (drawsF f k (f ns).2).1, (drawsF f k (f ns).2).2)
def lineF (p s : Int) (ns : List Int) : List Int × List Int :=
  (if normalF p (drawsF (numberF p s) 3 ns).1 ≠ [0, 0, 0] then normalF p (drawsF (numberF p s) 3 ns).1 else [0, 0, 1], (drawsF (numberF p s) 3 ns).2)
theorem number_bag {p s n : Int} (hp : PrimeI p) (hs : 0 ≤ s) {ns : List Int} (hb : BagI n ns) : BagI (n + 1) (numberF p s ns).2 := by
  unfold numberF
  split
  · exact grab_bag (by omega) hb
  · rename_i h0
    exact grab_bag (by have := prime_pos hp h0; omega) hb
theorem number_rng {p s : Int} (hp : PrimeI p) (hs : 0 ≤ s) (ns : List Int) : -s ≤ (numberF p s ns).1 ∧ (numberF p s ns).1 ≤ max s 19 ∧ (p ≠ 0 → 0 ≤ (numberF p s ns).1 ∧ (numberF p s ns).1 < p) ∧ (p = 0 → (numberF p s ns).1 ≤ s) := by
  unfold numberF
  split
  · have := grab_rng (t := 2 * s + 1) (by omega) ns
    rename_i h0
    refine ⟨?_, ?_, fun h => absurd h0 h, fun _ => ?_⟩ <;> (show _ ≤ _; simp only; omega)
  · rename_i h0
    have h2 := prime_pos hp h0
    have := grab_rng (t := p) (by omega) ns
    refine ⟨by omega, by omega, fun _ => this, fun h => absurd h h0⟩
theorem draws_bag {f : List Int → Int × List Int} (hf : ∀ {n : Int} {ns : List Int}, BagI n ns → BagI (n + 1) (f ns).2) : ∀ (k : Nat) {n : Int} {ns : List Int}, BagI n ns → BagI (n + k) (drawsF f k ns).2
  | 0, n, ns, h => h.mono (by omega)
  | k + 1, n, ns, h => (draws_bag hf k (hf h)).mono (by omega)
theorem draws_len (f : List Int → Int × List Int) : ∀ (k : Nat) (ns : List Int), (drawsF f k ns).1.length = k
  | 0, _ => rfl
  | k + 1, ns => congrArg (· + 1) (draws_len f k _)
theorem draws_all {f : List Int → Int × List Int} {P : Int → Prop} (hf : ∀ ns, P (f ns).1) : ∀ (k : Nat) (ns : List Int), ∀ x ∈ (drawsF f k ns).1, P x
  | 0, _, x, h => by cases h
  | k + 1, ns, x, h => by
    obtain rfl | h := List.mem_cons.mp h
    · exact hf ns
    · exact draws_all hf k _ x h
theorem line_bag {p s n : Int} (hp : PrimeI p) (hs : 0 ≤ s) {ns : List Int} (hb : BagI n ns) : BagI (n + 3) (lineF p s ns).2 := draws_bag (fun h => number_bag hp hs h) 3 hb
/-- every line -/
def everyF (p : Int) : List (List Int) :=
  if p = 0 then (upto 0 14).map fun a => [1, a, a * a + 2]
  else (upto 0 p.toNat).foldl (fun acc o => acc ++ (upto 0 p.toNat).map fun r => [1, o, r]) ([0, 0, 1] :: (upto 0 p.toNat).map fun o => [0, 1, o])
theorem log_lt3 {n : Nat} (h : n < 2 ^ 3000) : n.log2 < 9000 := by
  by_cases z : n = 0
  · subst z; decide
  · have := (Nat.log2_lt z).mpr h
    omega
theorem crossI_sz {x y : List Int} (hx : ∀ n ∈ x, n.natAbs < 2 ^ 200) (hy : ∀ n ∈ y, n.natAbs < 2 ^ 200) : ∀ n ∈ crossI x y, n.natAbs < 2 ^ 401 := by
  intro n hn
  unfold crossI at hn
  split at hn
  · simp only [List.mem_cons, or_false, List.not_mem_nil] at hn
    rcases hn with rfl | rfl | rfl
    all_goals exact sub_sz (mul_sz (hx _ (by simp)) (hy _ (by simp))) (mul_sz (hx _ (by simp)) (hy _ (by simp)))
  · cases hn
theorem sz1000 {k : Nat} (hk : k ≤ 1000) {n : Int} (h : n.natAbs < 2 ^ k) : n.natAbs < 2 ^ 1000 := Nat.lt_of_lt_of_le h (Nat.pow_le_pow_right (by decide) hk)
theorem three {x : List Int} (h : x.length = 3) : ∃ a b c, x = [a, b, c] := by
  match x, h with
  | [a, b, c], _ => exact ⟨a, b, c, rfl⟩
def multF (p : Int) (x : List Int) (ns : List Int) : List Int × List Int :=
  if p = 0 then (x.map fun n => settled p ((oneF [1, -1, 2, -7, 10000000000000000000000000000000000000000] ns).1 * n), (oneF [1, -1, 2, -7, 10000000000000000000000000000000000000000] ns).2)
  else (x.map fun n => settled p ((1 + (grabF (p - 1) ns).1) * n), (grabF (p - 1) ns).2)
def pointF (p : Int) (x y : List Int) (ns : List Int) : List Int × List Int :=
  if (grabF 3 ns).1 = 0 then (crossF p x (lineF p 5 (grabF 3 ns).2).1, (lineF p 5 (grabF 3 ns).2).2)
  else if (grabF 3 ns).1 = 1 ∧ p = 0 then
    (normalF 0 [1 + (grabF 10000000000000000000000000 (grabF 3 ns).2).1, 0 - (grabF 100000000000000000000 (grabF 10000000000000000000000000 (grabF 3 ns).2).2).1, y.headD 0], (grabF 100000000000000000000 (grabF 10000000000000000000000000 (grabF 3 ns).2).2).2)
  else lineF p 4 (grabF 3 ns).2
/-- the law's own look -/
def isI : Dt → Bool
  | .int _ => true
  | _ => false
def lawN (p m : Int) : Dt → Bool
  | .tuple ds => decide (ds.length = 3) && ds.all isI && ((ds.map toI).all fun n => decide ((if p = 0 then 0 - m else 0) ≤ n) && decide (n ≤ if p = 0 then m else p - 1)) && !decide (ds.map toI = [0, 0, 0]) && decide (normalF p (ds.map toI) = ds.map toI)
  | _ => false
def simpleD : Dt → Bool
  | .none => true
  | .bool _ => true
  | .int _ => true
  | .str s => PyData.canLay0 (.str s)
  | _ => false
def nearD : Dt → Bool
  | .tuple ds => decide (ds.length ≤ 100) && ds.all simpleD
  | _ => true
theorem upto_len (lo : Int) (n : Nat) : (upto lo n).length = n := by unfold upto; rw [List.length_map, List.length_range]
theorem upto_mem {lo a : Int} {n : Nat} (h : a ∈ upto lo n) : lo ≤ a ∧ a < lo + n := by
  obtain ⟨i, hi, hj⟩ := List.mem_map.mp h
  have := List.mem_range.mp hi
  omega
def lawI (p m : Int) (ns : List Int) : Bool := decide (ns.length = 3) && (ns.all fun n => decide ((if p = 0 then 0 - m else 0) ≤ n) && decide (n ≤ if p = 0 then m else p - 1)) && !decide (ns = [0, 0, 0]) && decide (normalF p ns = ns)
theorem all_isI (ns : List Int) : (ns.map PyData.int).all isI = true := by
  rw [List.all_map, List.all_eq_true]
  intro n _
  rfl
theorem lawN_ints (p m : Int) (ns : List Int) : lawN p m (.tuple (ns.map PyData.int)) = lawI p m ns := by
  show (decide ((ns.map PyData.int).length = 3) && (ns.map PyData.int).all isI && (((ns.map PyData.int).map toI).all fun n => decide ((if p = 0 then 0 - m else 0) ≤ n) && decide (n ≤ if p = 0 then m else p - 1)) && !decide ((ns.map PyData.int).map toI = [0, 0, 0]) && decide (normalF p ((ns.map PyData.int).map toI) = (ns.map PyData.int).map toI)) = _
  rw [map_toI, List.length_map, all_isI, Bool.and_true]
  rfl
theorem lawN_len {p m : Int} {ds : List Dt} (h : ds.length ≠ 3) : lawN p m (.tuple ds) = false := by
  show (decide (ds.length = 3) && ds.all isI && _ && _ && _) = false
  rw [decide_eq_false h]
  rfl
theorem lawN_no {p m : Int} {ds : List Dt} (h : ds.all isI = false) : lawN p m (.tuple ds) = false := by
  show (decide (ds.length = 3) && ds.all isI && _ && _ && _) = false
  rw [h, Bool.and_false]
  rfl
theorem all_ints : ∀ {ds : List Dt}, ds.all isI = true → ∃ ns : List Int, ds = ns.map PyData.int
  | [], _ => ⟨[], rfl⟩
  | d :: ds, h => by
    rw [List.all_cons] at h
    obtain ⟨h1, h2⟩ := Bool.and_eq_true_iff.mp h
    obtain ⟨ns, rfl⟩ := all_ints h2
    cases d with
    | int i => exact ⟨i :: ns, rfl⟩
    | _ => cases h1
theorem fdiv_abs {n g : Int} (hg : g ≠ 0) (hd : g ∣ n) : (n.fdiv g).natAbs ≤ n.natAbs := by
  obtain ⟨q, rfl⟩ := hd
  rw [Int.mul_fdiv_cancel_left _ hg, Int.natAbs_mul]
  exact Nat.le_mul_of_pos_left _ (Int.natAbs_pos.mpr hg)
/-- a made tuple is no greater than what it is made of -/
theorem made_sz {p : Int} {ns : List Int} (h : MadeOk p ns) {k : Nat} (hk : 19 ≤ k) (hz : ∀ n ∈ ns, n.natAbs ≤ k) : ∀ n ∈ made p ns, n.natAbs ≤ k := by
  intro n hn
  by_cases h0 : p = 0
  · subst h0
    rw [made_zero] at hn
    obtain ⟨m, hm, rfl⟩ := List.mem_map.mp hn
    have hg := gcdL_pos h.ex
    have hd := (gcdL_dvd ns 0).2 m hm
    refine Nat.le_trans (fdiv_abs ?_ ?_) (hz m hm)
    · split <;> omega
    · split
      · exact Int.neg_dvd.mpr hd
      · exact hd
  · unfold made at hn
    rw [if_pos h0] at hn
    obtain ⟨m, hm, rfl⟩ := List.mem_map.mp hn
    have h2 := prime_pos h.pr h0
    have h3 := Int.emod_nonneg (m * inv p (firstI ns)) (show p ≠ 0 by omega)
    have h4 := Int.emod_lt_of_pos (m * inv p (firstI ns)) (show 0 < p by omega)
    omega
theorem settled_abs {p n : Int} (hp : PrimeI p) {k : Nat} (hk : 19 ≤ k) (h : n.natAbs ≤ k) : (settled p n).natAbs ≤ k := by
  by_cases h0 : p = 0
  · subst h0; exact h
  · have := settled_rng (n := n) hp h0
    have := prime_pos hp h0
    omega
theorem normalF_sz {p : Int} {ns : List Int} (hp : PrimeI p) (hl : ns.length ≤ 140) {k : Nat} (hk : 19 ≤ k) (hk2 : k < 2 ^ 1000) (hz : ∀ n ∈ ns, n.natAbs ≤ k) : ∀ n ∈ normalF p ns, n.natAbs ≤ k := by
  have hz' : ∀ n ∈ ns.map (settled p), n.natAbs ≤ k := fun n hn => by
    obtain ⟨m, hm, rfl⟩ := List.mem_map.mp hn
    exact settled_abs hp hk (hz m hm)
  unfold normalF
  split
  · exact hz'
  · rename_i h
    exact made_sz (told_ok hp hl (fun n hn => Nat.lt_of_le_of_lt (hz n hn) hk2) (Bool.eq_false_iff.mpr h)) hk hz'
theorem line_sz {p s : Int} (hp : PrimeI p) (h0 : 0 ≤ s) (h1 : s ≤ 1000) (ns : List Int) : (lineF p s ns).1.length = 3 ∧ ∀ n ∈ (lineF p s ns).1, n.natAbs < 2 ^ 200 := by
  have hl := draws_len (numberF p s) 3 ns
  have hz := draws_all (f := numberF p s) (P := fun x => x.natAbs ≤ 1000) (fun ns => by have := number_rng hp h0 ns; omega) 3 ns
  have h2 := normalF_sz hp (by omega) (by decide) (Nat.lt_of_lt_of_le (m := 2 ^ 10) (by decide) (Nat.pow_le_pow_right (by decide) (by decide))) hz
  have h3 := normalF_len p (drawsF (numberF p s) 3 ns).1
  have h4 : (1000 : Nat) < 2 ^ 200 := by decide
  unfold lineF
  split
  · exact ⟨by rw [h3, hl], fun n hn => Nat.lt_of_le_of_lt (h2 n hn) h4⟩
  · refine ⟨rfl, fun n hn => ?_⟩
    have hn : n ∈ [0, 0, 1] := hn
    simp only [List.mem_cons, or_false, List.not_mem_nil] at hn
    rcases hn with rfl | rfl | rfl <;> decide
theorem settled_same {p : Int} {ns : List Int} (h : ∀ n ∈ ns, p ≠ 0 → 0 ≤ n ∧ n < p) : ns.map (settled p) = ns := by
  have e : ns.map (settled p) = ns.map id := List.map_congr_left fun n hn => by
    unfold settled
    split
    · rename_i h0
      have := h n hn h0
      exact Int.emod_eq_of_lt (by omega) (by omega)
    · rfl
  rw [e, List.map_id]
theorem lawI_true {p m : Int} {ns : List Int} : lawI p m ns = true ↔ ns.length = 3 ∧ (∀ n ∈ ns, (if p = 0 then 0 - m else 0) ≤ n ∧ n ≤ if p = 0 then m else p - 1) ∧ ns ≠ [0, 0, 0] ∧ normalF p ns = ns := by
  unfold lawI
  simp only [Bool.and_eq_true, List.all_eq_true, decide_eq_true_eq, Bool.not_eq_true', decide_eq_false_iff_not]
  constructor
  · rintro ⟨⟨⟨h1, h2⟩, h3⟩, h4⟩; exact ⟨h1, h2, h3, h4⟩
  · rintro ⟨h1, h2, h3, h4⟩; exact ⟨⟨⟨h1, h2⟩, h3⟩, h4⟩
theorem zero3 {ns : List Int} (h : ns.length = 3) : (∃ n ∈ ns, n ≠ 0) ↔ ns ≠ [0, 0, 0] := by
  obtain ⟨a, b, c, rfl⟩ := three h
  simp only [List.mem_cons, List.not_mem_nil, or_false, ne_eq, List.cons.injEq, and_true, exists_eq_or_imp, exists_eq_left]
  omega
theorem normI_true {p : Int} {ns : List Int} : normI p ns = true ↔ ns.length = 3 ∧ (∀ n ∈ ns, (-big < n ∧ n < big) ∧ (p = 0 ∨ (0 ≤ n ∧ n < p))) ∧ ns ≠ [0, 0, 0] ∧ made p ns = ns := by
  unfold normI
  simp only [Bool.and_eq_true, decide_eq_true_eq, any_ex]
  constructor
  · rintro ⟨⟨h1, h2⟩, h3⟩
    obtain ⟨ms, e, hl, hm⟩ := allFit_ints h1
    have e : ns = ms := by
      have := congrArg (List.map toI) e
      rw [map_toI, map_toI] at this
      exact this
    subst e
    have hl : ns.length = 3 := by omega
    exact ⟨hl, hm, (zero3 hl).mp h2, h3⟩
  · rintro ⟨h1, h2, h3, h4⟩
    exact ⟨⟨allFit_of (by omega) h2, (zero3 h1).mpr h3⟩, h4⟩
theorem normal_made {p : Int} {ns : List Int} (hl : ns.length = 3) (hr : ∀ n ∈ ns, p ≠ 0 → 0 ≤ n ∧ n < p) (hz : ns ≠ [0, 0, 0]) : normalF p ns = made p ns := by
  unfold normalF
  rw [settled_same hr]
  have h : ¬ allZero ns = true := fun h => by
    obtain ⟨n, h1, h2⟩ := (zero3 hl).mpr hz
    unfold allZero at h
    exact h2 (of_decide_eq_true (List.all_eq_true.mp h n h1))
  rw [if_neg h]
theorem law_norm {p : Int} (hp : PrimeI p) (ns : List Int) : lawI p (big - 1) ns = normI p ns := by
  rw [Bool.eq_iff_iff, lawI_true, normI_true]
  have hs := hp.small
  constructor
  · rintro ⟨h1, h2, h3, h4⟩
    have hr : ∀ n ∈ ns, (-big < n ∧ n < big) ∧ (p = 0 ∨ (0 ≤ n ∧ n < p)) := fun n hn => by
      have := h2 n hn
      by_cases h0 : p = 0
      · rw [if_pos h0, if_pos h0] at this
        exact ⟨by omega, .inl h0⟩
      · rw [if_neg h0, if_neg h0] at this
        exact ⟨by unfold big; omega, .inr (by omega)⟩
    refine ⟨h1, hr, h3, ?_⟩
    rw [← normal_made h1 (fun n hn h0 => (hr n hn).2.resolve_left h0) h3]
    exact h4
  · rintro ⟨h1, h2, h3, h4⟩
    refine ⟨h1, fun n hn => ?_, h3, ?_⟩
    · have := h2 n hn
      by_cases h0 : p = 0
      · rw [if_pos h0, if_pos h0]; omega
      · rw [if_neg h0, if_neg h0]; omega
    · rw [normal_made h1 (fun n hn h0 => (h2 n hn).2.resolve_left h0) h3]
      exact h4
theorem law_line {p : Int} (hp : PrimeI p) (ns : List Int) : lawI p 1000 ns = lineI p ns := by
  unfold lineI
  rw [Bool.eq_iff_iff, Bool.and_eq_true, ← law_norm hp, lawI_true, lawI_true]
  have hs := hp.small
  unfold smallL
  simp only [List.all_eq_true, decide_eq_true_eq]
  constructor
  · rintro ⟨h1, h2, h3, h4⟩
    refine ⟨⟨h1, fun n hn => ?_, h3, h4⟩, fun n hn => ?_⟩
    · have := h2 n hn
      by_cases h0 : p = 0
      · rw [if_pos h0, if_pos h0] at *; unfold big; omega
      · rw [if_neg h0, if_neg h0] at *; omega
    · have := h2 n hn
      by_cases h0 : p = 0
      · rw [if_pos h0, if_pos h0] at this; omega
      · rw [if_neg h0, if_neg h0] at this; omega
  · rintro ⟨⟨h1, h2, h3, h4⟩, h5⟩
    refine ⟨h1, fun n hn => ?_, h3, h4⟩
    have := h2 n hn
    have := h5 n hn
    by_cases h0 : p = 0
    · rw [if_pos h0, if_pos h0]; omega
    · rw [if_neg h0, if_neg h0] at *; omega
theorem lawN_norm {p : Int} (hp : PrimeI p) (d : Dt) : lawN p (big - 1) d = isNormal p d := by
  cases d with
  | tuple ds =>
    by_cases h : ds.all isI = true
    · obtain ⟨ns, rfl⟩ := all_ints h
      rw [lawN_ints, isNormal_ints, law_norm hp]
    · rw [lawN_no (Bool.eq_false_iff.mpr h), isNormal_no]
      rw [Bool.eq_false_iff]
      intro z
      obtain ⟨ns, rfl, _⟩ := allFit_ints z
      exact h (all_isI ns)
  | _ => rfl
theorem lawN_line {p : Int} (hp : PrimeI p) (d : Dt) : lawN p 1000 d = isLine p d := by
  cases d with
  | tuple ds =>
    by_cases h : ds.all isI = true
    · obtain ⟨ns, rfl⟩ := all_ints h
      rw [lawN_ints, isLine_ints, law_line hp]
    · rw [lawN_no (Bool.eq_false_iff.mpr h), isLine_no]
      rw [isNormal_no]
      rw [Bool.eq_false_iff]
      intro z
      obtain ⟨ns, rfl, _⟩ := allFit_ints z
      exact h (all_isI ns)
  | _ => rfl
def spliceF (x : List Int) (w : Nat) (e : Dt) : Dt := .tuple ((x.take w).map PyData.int ++ [e] ++ (x.drop (w + 1)).map PyData.int)
def tupD (ns : List Int) : Dt := .tuple (ns.map PyData.int)
/-- the values near a line -/
def nearF (p : Int) (x : List Int) (w : Nat) : List Dt :=
  [tupD x, .list (x.map PyData.int), tupD (x.take 2), tupD (x ++ [0]), tupD [0, 0, 0], tupD x.reverse, .none, .str "100", .tuple [.bool true, .int 0, .int 0], .tuple [.int 1, .bool false, .int 0]]
  ++ [PyData.int 0, .int 1, .int p, .int (0 - x.getD w 0), .int (x.getD w 0 + 1), .int 1001, .int 100000000000000000000000000000000000000000000000000000000000, .int 1000000000000000000000000000000000000000000000000000000000000, .str "1", .none].map (spliceF x w)
  ++ [tupD (x.map fun n => 2 * n), tupD (x.map fun n => 0 - n), tupD [1, 1000, -1000], .dict [], .int 7]
theorem nearD_tup {ns : List Int} (h : ns.length ≤ 100) : nearD (tupD ns) = true := by
  show (decide ((ns.map PyData.int).length ≤ 100) && (ns.map PyData.int).all simpleD) = true
  rw [List.length_map, decide_eq_true h, Bool.true_and, List.all_map, List.all_eq_true]
  exact fun _ _ => rfl
theorem near_ok {p : Int} {x : List Int} (h : x.length = 3) (w : Nat) : ∀ d ∈ nearF p x w, nearD d = true := by
  have hs : ∀ e, simpleD e = true → nearD (spliceF x w e) = true := fun e he => by
    have q : ∀ ns : List Int, (ns.map PyData.int).all simpleD = true := fun ns => by
      rw [List.all_map, List.all_eq_true]
      exact fun _ _ => rfl
    show (decide (((x.take w).map PyData.int ++ [e] ++ (x.drop (w + 1)).map PyData.int).length ≤ 100) && ((x.take w).map PyData.int ++ [e] ++ (x.drop (w + 1)).map PyData.int).all simpleD) = true
    rw [List.all_append, List.all_append, q, q, List.length_append, List.length_append, List.length_map, List.length_map, List.length_take, List.length_drop]
    have e1 : [e].all simpleD = true := by show (simpleD e && true) = true; rw [he]; rfl
    rw [e1, decide_eq_true (by show _ + 1 + _ ≤ 100; omega)]
    rfl
  intro d hd
  unfold nearF at hd
  obtain hd | hd := List.mem_append.mp hd
  · obtain hd | hd := List.mem_append.mp hd
    · simp only [List.mem_cons, or_false, List.not_mem_nil] at hd
      rcases hd with rfl | rfl | rfl | rfl | rfl | rfl | rfl | rfl | rfl | rfl
      · exact nearD_tup (by omega)
      · rfl
      · exact nearD_tup (by rw [List.length_take]; omega)
      · exact nearD_tup (by rw [List.length_append]; show _ + 1 ≤ 100; omega)
      · rfl
      · exact nearD_tup (by rw [List.length_reverse]; omega)
      · rfl
      · rfl
      · rfl
      · rfl
    · obtain ⟨e, he, rfl⟩ := List.mem_map.mp (hd)
      refine hs e ?_
      simp only [List.mem_cons, or_false, List.not_mem_nil] at he
      rcases he with rfl | rfl | rfl | rfl | rfl | rfl | rfl | rfl | rfl | rfl <;> first | rfl | decide +kernel
  · simp only [List.mem_cons, or_false, List.not_mem_nil] at hd
    rcases hd with rfl | rfl | rfl | rfl | rfl
    · exact nearD_tup (by rw [List.length_map]; omega)
    · exact nearD_tup (by rw [List.length_map]; omega)
    · rfl
    · rfl
    · rfl
/-- every drawn line is small -/
theorem line_small {p s : Int} (hp : PrimeI p) (h0 : 0 ≤ s) (h1 : s ≤ 1000) (ns : List Int) : (lineF p s ns).1.length = 3 ∧ ∀ n ∈ (lineF p s ns).1, n.natAbs ≤ 1000 := by
  have hl := draws_len (numberF p s) 3 ns
  have hz := draws_all (f := numberF p s) (P := fun x => x.natAbs ≤ 1000) (fun ns => by have := number_rng hp h0 ns; omega) 3 ns
  have h2 := normalF_sz hp (by omega) (by decide) (Nat.lt_of_lt_of_le (m := 2 ^ 10) (by decide) (Nat.pow_le_pow_right (by decide) (by decide))) hz
  have h3 := normalF_len p (drawsF (numberF p s) 3 ns).1
  unfold lineF
  split
  · exact ⟨by rw [h3, hl], h2⟩
  · refine ⟨rfl, fun n hn => ?_⟩
    have hn : n ∈ [0, 0, 1] := hn
    simp only [List.mem_cons, or_false, List.not_mem_nil] at hn
    rcases hn with rfl | rfl | rfl <;> decide
theorem every_small : ∀ p ∈ drawnPrimes, ∀ l ∈ everyF p, l.length = 3 ∧ ∀ n ∈ l, n.natAbs ≤ 1000 := by decide +kernel
theorem every_len : ∀ p ∈ drawnPrimes, 7 ≤ (everyF p).length ∧ (everyF p).length ≤ 1000 := by decide +kernel
theorem every_nodup : ∀ p ∈ drawnPrimes, (everyF p).Nodup := by decide +kernel
theorem every_line : ∀ p ∈ drawnPrimes, ∀ l ∈ everyF p, lineI p l = true := by decide +kernel
end Num
/-! ## NumR -/
set_option linter.all false
/-! What the law's comparisons come to: the numbers. -/
namespace Num
open PySem
theorem made_ex {p : Int} {ns : List Int} (h : MadeOk p ns) : ∃ n ∈ made p ns, n ≠ 0 := by
  obtain ⟨n, hn, h0⟩ := h.ex
  by_cases hp0 : p = 0
  · subst hp0
    rw [made_zero]
    have hg := gcdL_pos h.ex
    obtain ⟨q, hq⟩ := (gcdL_dvd ns 0).2 n hn
    refine ⟨_, List.mem_map_of_mem hn, fun z => h0 ?_⟩
    have e2 : ∃ q', n = (if firstI ns < 0 then -gcdL 0 ns else gcdL 0 ns) * q' := by
      split
      · exact ⟨-q, by rw [hq]; grind⟩
      · exact ⟨q, hq⟩
    have hs : (if firstI ns < 0 then -gcdL 0 ns else gcdL 0 ns) ≠ 0 := by split <;> omega
    generalize (if firstI ns < 0 then -gcdL 0 ns else gcdL 0 ns) = s at *
    obtain ⟨q', rfl⟩ := e2
    rw [Int.mul_fdiv_cancel_left _ hs] at z
    rw [z, Int.mul_zero]
  · obtain ⟨f1, f2⟩ := h.first hp0
    obtain ⟨i1, i2, i3⟩ := inv_lt h.pr hp0 f1 f2
    unfold made
    rw [if_pos hp0]
    refine ⟨_, List.mem_map_of_mem hn, fun z => h0 ?_⟩
    have hb := h.lt hp0 n hn
    have hi : inv p (firstI ns) % p ≠ 0 := by rw [Int.emod_eq_of_lt (by omega) (by omega)]; omega
    have := mul_zero_mod h.pr hp0 hi (by rw [Int.mul_comm]; exact z)
    rw [Int.emod_eq_of_lt (by omega) (by omega)] at this
    exact this
theorem made_lt {p : Int} {ns : List Int} (hp : PrimeI p) (h0 : p ≠ 0) : ∀ n ∈ made p ns, 0 ≤ n ∧ n < p := by
  have h2 := prime_pos hp h0
  intro n hn
  unfold made at hn
  rw [if_pos h0] at hn
  obtain ⟨m, _, rfl⟩ := List.mem_map.mp hn
  exact ⟨Int.emod_nonneg _ (by omega), Int.emod_lt_of_pos _ (by omega)⟩
/-- made twice is made once -/
theorem made_made {p : Int} {ns : List Int} (h : MadeOk p ns) : made p (made p ns) = made p ns := by
  by_cases hp0 : p = 0
  · subst hp0
    have hx := made_ex h
    have hg := gcdL_pos h.ex
    have hs : (if firstI ns < 0 then -gcdL 0 ns else gcdL 0 ns) ≠ 0 := by split <;> omega
    have e : (made 0 ns).map (fun n => (if firstI ns < 0 then -gcdL 0 ns else gcdL 0 ns) * n) = ns := by
      rw [made_zero, List.map_map]
      have : ∀ n ∈ ns, ((fun n => (if firstI ns < 0 then -gcdL 0 ns else gcdL 0 ns) * n) ∘ fun n => n.fdiv (if firstI ns < 0 then -gcdL 0 ns else gcdL 0 ns)) n = id n := fun n hn => by
        obtain ⟨q, hq⟩ := (gcdL_dvd ns 0).2 n hn
        have e2 : ∃ q', n = (if firstI ns < 0 then -gcdL 0 ns else gcdL 0 ns) * q' := by
          split
          · exact ⟨-q, by rw [hq]; grind⟩
          · exact ⟨q, hq⟩
        show (if firstI ns < 0 then -gcdL 0 ns else gcdL 0 ns) * n.fdiv (if firstI ns < 0 then -gcdL 0 ns else gcdL 0 ns) = n
        generalize (if firstI ns < 0 then -gcdL 0 ns else gcdL 0 ns) = s at *
        obtain ⟨q', rfl⟩ := e2
        rw [Int.mul_fdiv_cancel_left _ hs]
      rw [List.map_congr_left this, List.map_id]
    have := made0_mul hs hx
    rw [e] at this
    exact this.symm
  · obtain ⟨f1, f2⟩ := h.first hp0
    obtain ⟨i1, i2, i3⟩ := inv_lt h.pr hp0 f1 f2
    have e : made p ns = ns.map fun n => inv p (firstI ns) * n % p := by
      unfold made
      rw [if_pos hp0]
      exact List.map_congr_left fun n _ => by rw [Int.mul_comm]
    have hi : inv p (firstI ns) % p ≠ 0 := by rw [Int.emod_eq_of_lt (by omega) (by omega)]; omega
    have := madeP_mul h.pr hp0 hi (h.lt hp0) h.ex
    rw [← e] at this
    exact this
/-- the law's normal tuple is zero, or normal -/
theorem normalF_norm {p : Int} {ns : List Int} (hp : PrimeI p) (hl : ns.length = 3) (hz : ∀ n ∈ ns, n.natAbs < 10 ^ 60) : normalF p ns = [0, 0, 0] ∨ normI p (normalF p ns) = true := by
  have hbig : big = ((10 ^ 60 : Nat) : Int) := by decide
  by_cases h : allZero (ns.map (settled p)) = true
  · left
    have e : normalF p ns = ns.map (settled p) := if_pos h
    rw [e]
    obtain ⟨a, b, c, e3⟩ := three (x := ns.map (settled p)) (by rw [List.length_map]; exact hl)
    rw [e3] at h ⊢
    unfold allZero at h
    simp only [List.all_cons, List.all_nil, Bool.and_true, Bool.and_eq_true, decide_eq_true_eq] at h
    obtain ⟨rfl, rfl, rfl⟩ := h
    rfl
  · right
    have e : normalF p ns = made p (ns.map (settled p)) := if_neg h
    have hM := told_ok (ns := ns) hp (by omega) (fun n hn => Nat.lt_trans (hz n hn) (by decide +kernel)) (Bool.eq_false_iff.mpr h)
    have hsz := normalF_sz (ns := ns) hp (by omega) (k := 10 ^ 60 - 1) (by decide) (by decide +kernel) fun n hn => by have := hz n hn; omega
    rw [e] at hsz ⊢
    rw [normI_true]
    have hlen : (made p (ns.map (settled p))).length = 3 := by rw [made_len, List.length_map]; exact hl
    refine ⟨hlen, fun n hn => ⟨by have := hsz n hn; omega, ?_⟩, (zero3 hlen).mp (made_ex hM), made_made hM⟩
    by_cases h0 : p = 0
    · exact .inl h0
    · exact .inr (made_lt hp h0 n hn)
theorem one_line : ∀ p ∈ (0 :: primes : List Int), lineI p [0, 0, 1] = true := by decide +kernel
theorem smallL_of {ns : List Int} (h : ∀ n ∈ ns, n.natAbs ≤ 1000) : smallL ns = true := by
  unfold smallL
  rw [List.all_eq_true]
  exact fun n hn => decide_eq_true (h n hn)
theorem lineF_line {p s : Int} (hp : PrimeI p) (h0 : 0 ≤ s) (h1 : s ≤ 1000) (ns : List Int) : lineI p (lineF p s ns).1 = true := by
  have hs := line_small hp h0 h1 ns
  have hl := draws_len (numberF p s) 3 ns
  have hz := draws_all (f := numberF p s) (P := fun x => x.natAbs < 10 ^ 60) (fun ns => by have := number_rng hp h0 ns; exact Nat.lt_of_le_of_lt (m := 1000) (by omega) (by decide)) 3 ns
  have hn := normalF_norm hp hl hz
  unfold lineI
  rw [smallL_of hs.2, Bool.and_true]
  unfold lineF
  split
  · rename_i h
    rcases hn with hn | hn
    · exact absurd hn h
    · exact hn
  · have := one_line p (by rcases hp with h | h <;> simp [h])
    unfold lineI at this
    exact (Bool.and_eq_true_iff.mp this).1
/-- crosses -/
theorem crossF_made {p : Int} {x y : List Int} (hx : NT p x) (hy : NT p y) (hn : x ≠ y) : crossF p x y = made p (crossS p x y) := by
  have hM := cross_ok hx hy hn
  unfold crossF normalF
  have h : ¬ allZero ((crossI x y).map (settled p)) = true := fun h => by
    obtain ⟨n, h1, h2⟩ := hM.ex
    unfold allZero at h
    exact h2 (of_decide_eq_true (List.all_eq_true.mp h n h1))
  rw [if_neg h]
  rfl
theorem settled_neg (p n : Int) : settled p (-1 * settled p n) = settled p (-n) := by
  unfold settled
  split
  · have h6 := Int.emod_add_mul_ediv n p
    refine emod_eq_of (c := n / p) ?_
    grind
  · omega
/-- the other way about -/
theorem made_swap {p : Int} {x y : List Int} (hx : NT p x) (hy : NT p y) (hn : x ≠ y) : made p (crossS p y x) = made p (crossS p x y) := by
  have hM := cross_ok hx hy hn
  have hk : settled p (-1) ≠ 0 := by
    unfold settled
    split
    · rename_i h0
      have := prime_pos hx.ok.pr h0
      intro z
      have := Int.dvd_of_emod_eq_zero z
      obtain ⟨q, hq⟩ := this
      have : p ∣ 1 := ⟨-q, by grind⟩
      have := Int.le_of_dvd (by decide) this
      omega
    · decide
  have := made_low hx.ok.pr hk hM.lt hM.ex
  rw [← this]
  congr 1
  obtain ⟨a, b, c, rfl⟩ := hx.cons
  obtain ⟨d, e, f, rfl⟩ := hy.cons
  unfold crossS crossI
  simp only [List.map_cons, List.map_nil, settled_neg]
  have e1 : -(b * f - c * e) = e * c - f * b := by grind
  have e2 : -(c * d - a * f) = f * a - d * c := by grind
  have e3 : -(a * e - b * d) = d * b - e * a := by grind
  rw [e1, e2, e3]
theorem lineI_nt {p : Int} {x : List Int} (hp : PrimeI p) (h : lineI p x = true) : NT p x ∧ ∀ n ∈ x, n.natAbs ≤ 1000 := by
  obtain ⟨h1, h2⟩ := Bool.and_eq_true_iff.mp h
  refine ⟨NT.of hp h1, fun n hn => ?_⟩
  unfold smallL at h2
  exact of_decide_eq_true (List.all_eq_true.mp h2 n hn)
theorem mul_small {a b : Int} {k l : Nat} (ha : a.natAbs ≤ k) (hb : b.natAbs ≤ l) : (a * b).natAbs ≤ k * l := by
  rw [Int.natAbs_mul]
  exact Nat.mul_le_mul ha hb
/-- a drawn point is zero, or a point -/
theorem pointF_norm {p : Int} {x y : List Int} (hp : PrimeI p) (hx : lineI p x = true) (hy : lineI p y = true) (ns : List Int) : (pointF p x y ns).1 = [0, 0, 0] ∨ normI p (pointF p x y ns).1 = true := by
  obtain ⟨nx, sx⟩ := lineI_nt hp hx
  obtain ⟨ny, sy⟩ := lineI_nt hp hy
  unfold pointF
  split
  · obtain ⟨hl, hs⟩ := line_small hp (s := 5) (by decide) (by decide) (grabF 3 ns).2
    obtain ⟨a, b, c, rfl⟩ := nx.cons
    obtain ⟨d, e, f, e3⟩ := three hl
    show crossF p _ (lineF p 5 (grabF 3 ns).2).1 = _ ∨ normI p (crossF p _ (lineF p 5 (grabF 3 ns).2).1) = true
    rw [e3] at hs ⊢
    have hbig : 1000 * 1000 + 1000 * 1000 < 10 ^ 60 := by decide
    have ms : ∀ {i j : Int}, i ∈ [a, b, c] → j ∈ [d, e, f] → (i * j).natAbs ≤ 1000 * 1000 := fun hi hj => mul_small (sx _ hi) (hs _ hj)
    refine normalF_norm hp rfl fun n hn => ?_
    simp only [crossI, List.mem_cons, List.not_mem_nil, or_false] at hn
    have q1 := ms (i := b) (j := f) (by simp) (by simp)
    have q2 := ms (i := c) (j := e) (by simp) (by simp)
    have q3 := ms (i := c) (j := d) (by simp) (by simp)
    have q4 := ms (i := a) (j := f) (by simp) (by simp)
    have q5 := ms (i := a) (j := e) (by simp) (by simp)
    have q6 := ms (i := b) (j := d) (by simp) (by simp)
    rcases hn with rfl | rfl | rfl <;> omega
  · split
    · rename_i h
      obtain ⟨_, rfl⟩ := h
      have r1 := grab_rng (t := 10000000000000000000000000) (by decide) (grabF 3 ns).2
      have r2 := grab_rng (t := 100000000000000000000) (by decide) (grabF 10000000000000000000000000 (grabF 3 ns).2).2
      obtain ⟨y0, y1, y2, rfl⟩ := ny.cons
      have s0 := sy y0 (by simp)
      have hbig : 10000000000000000000000001 < 10 ^ 60 := by decide
      refine normalF_norm hp rfl fun n hn => ?_
      simp only [List.mem_cons, or_false, List.not_mem_nil] at hn
      rcases hn with rfl | rfl | rfl
      · omega
      · omega
      · exact Nat.lt_of_le_of_lt s0 (by decide)
    · right
      have := lineF_line hp (s := 4) (by decide) (by decide) (grabF 3 ns).2
      exact (Bool.and_eq_true_iff.mp this).1
theorem point_bag {p : Int} {x y : List Int} (hp : PrimeI p) {n : Int} {ns : List Int} (hb : BagI n ns) : ∃ m, BagI m (pointF p x y ns).2 := by
  have b1 := grab_bag (t := 3) (by decide) hb
  unfold pointF
  split
  · exact ⟨_, line_bag hp (by decide) b1⟩
  · split
    · exact ⟨_, grab_bag (by decide) (grab_bag (by decide) b1)⟩
    · exact ⟨_, line_bag hp (by decide) b1⟩
/-- a multiple leads back -/
theorem multF_ok {p : Int} {x : List Int} (hp : PrimeI p) (hx : lineI p x = true) (ns : List Int) :
    allFit p 3 (.tuple ((multF p x ns).1.map PyData.int)) = true ∧ (multF p x ns).1.any (· != 0) = true ∧ made p (multF p x ns).1 = x := by
  obtain ⟨nx, sx⟩ := lineI_nt hp hx
  have key : ∀ k : Int, settled p k ≠ 0 → k.natAbs ≤ 10 ^ 40 → allFit p 3 (.tuple ((x.map fun n => settled p (k * n)).map PyData.int)) = true ∧ (x.map fun n => settled p (k * n)).any (· != 0) = true ∧ made p (x.map fun n => settled p (k * n)) = x := by
    intro k hk hk2
    refine ⟨allFit_of (by rw [List.length_map, nx.len]; rfl) fun m hm => ?_, any_ex.mpr ?_, ?_⟩
    · obtain ⟨n, hn, rfl⟩ := List.mem_map.mp hm
      by_cases h0 : p = 0
      · subst h0
        have hq := mul_small hk2 (sx n hn)
        have hbig : big = ((10 ^ 60 : Nat) : Int) := by decide
        have h4 : 10 ^ 40 * 1000 < 10 ^ 60 := by decide
        refine ⟨?_, .inl rfl⟩
        show -big < k * n ∧ k * n < big
        omega
      · have hr := settled_rng (n := k * n) hp h0
        have := prime_pos hp h0
        refine ⟨?_, .inr hr⟩
        unfold big
        omega
    · obtain ⟨n, hn, h0⟩ := nx.ok.ex
      refine ⟨_, List.mem_map_of_mem hn, fun z => h0 ?_⟩
      have := settled_mul hp hk z
      rw [settled_id nx.ok hn] at this
      exact this
    · rw [made_low hp hk nx.ok.lt nx.ok.ex]
      exact nx.eq
  unfold multF
  split
  · rename_i h0
    subst h0
    have hm := one_mem (xs := [1, -1, 2, -7, 10000000000000000000000000000000000000000]) (by decide) ns
    refine key _ ?_ ?_
    · show (oneF [1, -1, 2, -7, 10000000000000000000000000000000000000000] ns).1 ≠ 0
      generalize (oneF [1, -1, 2, -7, 10000000000000000000000000000000000000000] ns).1 = q at *
      simp only [List.mem_cons, or_false, List.not_mem_nil] at hm
      omega
    · generalize (oneF [1, -1, 2, -7, 10000000000000000000000000000000000000000] ns).1 = q at *
      simp only [List.mem_cons, or_false, List.not_mem_nil] at hm
      rcases hm with rfl | rfl | rfl | rfl | rfl <;> decide
  · rename_i h0
    have h2 := prime_pos hp h0
    have hg := grab_rng (t := p - 1) (by omega) ns
    refine key _ ?_ ?_
    · unfold settled
      rw [if_pos h0, Int.emod_eq_of_lt (by omega) (by omega)]
      omega
    · exact Nat.le_trans (m := 100) (by omega) (by decide)
theorem mult_bag {p : Int} {x : List Int} (hp : PrimeI p) {n : Int} {ns : List Int} (hb : BagI n ns) : ∃ m, BagI m (multF p x ns).2 := by
  unfold multF
  split
  · exact ⟨_, one_bag (by decide) hb⟩
  · rename_i h0
    have := prime_pos hp h0
    exact ⟨_, grab_bag (by omega) hb⟩
end Num
/-! ## NumA -/
set_option Elab.async false
set_option linter.all false
set_option maxRecDepth 100000
/-! Numbers: what may be judged and refused. Plain Lean. -/
namespace Num
open PySem
theorem isPrime_is {d : Dt} (h : isPrime d = true) : ∃ p, d = .int p ∧ PrimeI p := by
  cases d with
  | int p =>
    refine ⟨p, rfl, ?_⟩
    rw [isPrime_int] at h
    rcases Bool.or_eq_true_iff.mp (Bool.and_eq_true_iff.mp h).2 with h | h
    · exact .inl (of_decide_eq_true h)
    · exact .inr (of_decide_eq_true h)
  | _ => cases h
/-- a tuple of at most 140 numbers -/
def okNums (p : Int) : Dt → Bool
  | .tuple ds => decide (ds.length ≤ 140) && allFit p (ds.length : Int) (.tuple ds)
  | _ => false
/-- .. not all 0 -/
def okTup (p : Int) : Dt → Bool
  | .tuple ds => decide (ds.length ≤ 140) && allFit p (ds.length : Int) (.tuple ds) && (ds.map toI).any (· != 0)
  | _ => false
theorem okNums_is {p : Int} {d : Dt} (h : okNums p d = true) : ∃ ns : List Int, d = .tuple (ns.map PyData.int) ∧ ns.length ≤ 140 ∧ ∀ m ∈ ns, (-big < m ∧ m < big) ∧ (p = 0 ∨ (0 ≤ m ∧ m < p)) := by
  cases d with
  | tuple ds =>
    obtain ⟨h1, h2⟩ := Bool.and_eq_true_iff.mp h
    obtain ⟨ns, e, _, h3⟩ := allFit_ints h2
    subst e
    exact ⟨ns, rfl, by simpa using of_decide_eq_true h1, h3⟩
  | _ => cases h
theorem okTup_is {p : Int} {d : Dt} (h : okTup p d = true) : ∃ ns : List Int, d = .tuple (ns.map PyData.int) ∧ ns.length ≤ 140 ∧ (∀ m ∈ ns, (-big < m ∧ m < big) ∧ (p = 0 ∨ (0 ≤ m ∧ m < p))) ∧ ∃ n ∈ ns, n ≠ 0 := by
  cases d with
  | tuple ds =>
    obtain ⟨h1, h3⟩ := Bool.and_eq_true_iff.mp h
    obtain ⟨ns, e, h4, h5⟩ := okNums_is (p := p) (d := .tuple ds) h1
    cases e
    rw [map_toI] at h3
    exact ⟨ns, rfl, h4, h5, any_ex.mp h3⟩
  | _ => cases h
theorem okNums_of {p : Int} {ns : List Int} (hl : ns.length ≤ 140) (h : ∀ m ∈ ns, (-big < m ∧ m < big) ∧ (p = 0 ∨ (0 ≤ m ∧ m < p))) : okNums p (.tuple (ns.map PyData.int)) = true :=
  Bool.and_eq_true_iff.mpr ⟨decide_eq_true (by simpa using hl), allFit_of (by simp) h⟩
theorem okTup_of {p : Int} {ns : List Int} (hl : ns.length ≤ 140) (h : ∀ m ∈ ns, (-big < m ∧ m < big) ∧ (p = 0 ∨ (0 ≤ m ∧ m < p))) (hx : ∃ n ∈ ns, n ≠ 0) : okTup p (.tuple (ns.map PyData.int)) = true := by
  refine Bool.and_eq_true_iff.mpr ⟨okNums_of hl h, ?_⟩
  rw [map_toI]
  exact any_ex.mpr hx
theorem madeOk_tup {p : Int} {ns : List Int} (hp : PrimeI p) (hl : ns.length ≤ 140) (h : ∀ m ∈ ns, (-big < m ∧ m < big) ∧ (p = 0 ∨ (0 ≤ m ∧ m < p))) (hx : ∃ n ∈ ns, n ≠ 0) : MadeOk p ns := by
  refine ⟨hp, hx, fun h0 n hn => ?_, hl, fun n hn => up1000 (big_lt (h n hn).1)⟩
  rcases (h n hn).2 with h | h
  · exact absurd h h0
  · exact h
end Num
namespace Num
open PySem
theorem fits_small {p n : Int} (hp : PrimeI p) (n0 : 0 ≤ n) (np : n < p) : fits p (.int n) = true := by
  have := hp.small
  show ((decide (-big < n) && decide (n < big)) && (decide (p = 0) || (decide (0 ≤ n) && decide (n < p)))) = true
  rw [decide_eq_true (show -big < n by unfold big; omega), decide_eq_true (show n < big by unfold big; omega), decide_eq_true n0, decide_eq_true np, Bool.and_true, Bool.or_true]
  rfl
end Num
namespace Num
open PySem
theorem inv_perm_all : ∀ p ∈ primes, (upto 1 (p - 1).toNat).isPerm ((upto 1 (p - 1).toNat).map (inv p)) = true := by decide +kernel
theorem inv_perm {p : Int} (hp : PrimeI p) (h0 : p ≠ 0) : (upto 1 (p - 1).toNat).Perm ((upto 1 (p - 1).toNat).map (inv p)) := by
  rcases hp with h | h
  · exact absurd h h0
  · exact List.isPerm_iff.mp (inv_perm_all p h)
theorem inv_ones_all : ∀ p ∈ primes, decide ((((upto 1 (p - 1).toNat).zip ((upto 1 (p - 1).toNat).map (inv p))).map fun q => q.1 * q.2 % p) = List.replicate (p - 1).toNat 1) = true := by decide +kernel
theorem inv_ones {p : Int} (hp : PrimeI p) (h0 : p ≠ 0) : (((upto 1 (p - 1).toNat).zip ((upto 1 (p - 1).toNat).map (inv p))).map fun q => q.1 * q.2 % p) = List.replicate (p - 1).toNat 1 := by
  rcases hp with h | h
  · exact absurd h h0
  · exact of_decide_eq_true (inv_ones_all p h)
theorem upto_sorted (lo : Int) (n : Nat) : (upto lo n).Pairwise (· ≤ ·) := by
  unfold upto
  rw [List.pairwise_map]
  exact List.pairwise_le_range.imp fun h => by omega
end Num
namespace Num
open PySem
/-! ### the rows that are drawn -/
def valF (p : Int) (ns : List Int) : Int × List Int := if p > 0 then (1, ns) else oneF [2, -6, 4, 1] ns
def timesF (p : Int) (ns : List Int) : Int × List Int := if p = 0 then oneF [1, 1, -1, 6, 10 ^ 57, 10 ^ 58] ns else (1, ns)
def manyF (ns : List Int) : Int × List Int := oneF [1, 2, 3, 3, 5, 140] ns
def row0F (p : Int) (ns : List Int) : List Int × List Int := drawsF (numberF p 9) (manyF ns).1.toNat (manyF ns).2
def row1F (p : Int) (ns : List Int) : List Int × List Int :=
  ((row0F p ns).1.set (grabF (manyF ns).1 (valF p (row0F p ns).2).2).1.toNat (valF p (row0F p ns).2).1, (grabF (manyF ns).1 (valF p (row0F p ns).2).2).2)
def rowF (p : Int) (ns : List Int) : List Int × List Int := ((row1F p ns).1.map fun n => (timesF p (row1F p ns).2).1 * n, (timesF p (row1F p ns).2).2)
theorem many_mem (ns : List Int) : (manyF ns).1 = 1 ∨ (manyF ns).1 = 2 ∨ (manyF ns).1 = 3 ∨ (manyF ns).1 = 5 ∨ (manyF ns).1 = 140 := by
  have h := one_mem (xs := [1, 2, 3, 3, 5, 140]) (by decide) ns
  unfold manyF
  simp only [List.mem_cons, List.not_mem_nil, or_false] at h
  omega
theorem many_rng (ns : List Int) : 1 ≤ (manyF ns).1 ∧ (manyF ns).1 ≤ 140 := by
  have := many_mem ns
  omega
theorem val_mem {p : Int} (hp : PrimeI p) (ns : List Int) : (valF p ns).1 ≠ 0 ∧ (valF p ns).1.natAbs ≤ 9 ∧ (p ≠ 0 → (valF p ns).1 = 1) := by
  have hs := hp.small
  unfold valF
  by_cases h : p > 0
  · rw [if_pos h]
    show (1 : Int) ≠ 0 ∧ (1 : Int).natAbs ≤ 9 ∧ (p ≠ 0 → (1 : Int) = 1)
    exact ⟨by decide, by decide, fun _ => rfl⟩
  · rw [if_neg h]
    have hm := one_mem (xs := [2, -6, 4, 1]) (by decide) ns
    simp only [List.mem_cons, or_false, List.not_mem_nil] at hm
    refine ⟨?_, ?_, fun h0 => absurd h (by omega)⟩ <;> rcases hm with h | h | h | h <;> rw [h] <;> decide
theorem times_mem {p : Int} (ns : List Int) : (timesF p ns).1 ≠ 0 ∧ (timesF p ns).1.natAbs ≤ 10 ^ 58 ∧ (p ≠ 0 → (timesF p ns).1 = 1) := by
  unfold timesF
  by_cases h : p = 0
  · rw [if_pos h]
    have hm := one_mem (xs := [1, 1, -1, 6, 10 ^ 57, 10 ^ 58]) (by decide) ns
    simp only [List.mem_cons, or_false, List.not_mem_nil] at hm
    refine ⟨?_, ?_, fun h0 => absurd h h0⟩ <;> rcases hm with h | h | h | h | h | h <;> rw [h] <;> decide
  · rw [if_neg h]
    show (1 : Int) ≠ 0 ∧ (1 : Int).natAbs ≤ 10 ^ 58 ∧ (p ≠ 0 → (1 : Int) = 1)
    exact ⟨by decide, by decide, fun _ => rfl⟩
theorem row0_len (p : Int) (ns : List Int) : (row0F p ns).1.length = (manyF ns).1.toNat := draws_len _ _ _
theorem row0_all {p : Int} (hp : PrimeI p) (ns : List Int) : ∀ n ∈ (row0F p ns).1, n.natAbs ≤ 19 ∧ (p = 0 → n.natAbs ≤ 9) ∧ (p ≠ 0 → 0 ≤ n ∧ n < p) :=
  draws_all (P := fun n => n.natAbs ≤ 19 ∧ (p = 0 → n.natAbs ≤ 9) ∧ (p ≠ 0 → 0 ≤ n ∧ n < p)) (fun ns => by
    have h := number_rng hp (s := 9) (by decide) ns
    have hs := hp.small
    refine ⟨by omega, fun h0 => ?_, fun h0 => (h.2.2.1 h0)⟩
    subst h0
    have e : numberF 0 9 ns = ((grabF (2 * 9 + 1) ns).1 - 9, (grabF (2 * 9 + 1) ns).2) := by unfold numberF; rw [if_pos rfl]
    have g := grab_rng (t := 2 * 9 + 1) (by decide) ns
    rw [e]
    show ((grabF (2 * 9 + 1) ns).1 - 9).natAbs ≤ 9
    omega) _ _
theorem row1_all {p : Int} (hp : PrimeI p) (ns : List Int) : ∀ n ∈ (row1F p ns).1, n.natAbs ≤ 19 ∧ (p = 0 → n.natAbs ≤ 9) ∧ (p ≠ 0 → 0 ≤ n ∧ n < p) := by
  have hv := val_mem hp (row0F p ns).2
  intro n hn
  rcases List.mem_or_eq_of_mem_set hn with h | h
  · exact row0_all hp ns n h
  · rw [h]
    refine ⟨by omega, fun _ => hv.2.1, fun h0 => ?_⟩
    rw [hv.2.2 h0]
    have := prime_pos hp h0
    omega
theorem row_ok {p : Int} (hp : PrimeI p) (ns : List Int) : (rowF p ns).1.length ≤ 140 ∧ (∀ m ∈ (rowF p ns).1, (-big < m ∧ m < big) ∧ (p = 0 ∨ (0 ≤ m ∧ m < p))) ∧ ∃ n ∈ (rowF p ns).1, n ≠ 0 := by
  have hv := val_mem hp (row0F p ns).2
  have ht := times_mem (p := p) (row1F p ns).2
  have hm := many_rng ns
  have hl := row0_len p ns
  have hg := grab_rng (t := (manyF ns).1) (by omega) (valF p (row0F p ns).2).2
  have hp1 := hp.small
  have mem1 := row1_all hp ns
  refine ⟨?_, fun m hmm => ?_, ?_⟩
  · unfold rowF row1F
    rw [List.length_map, List.length_set, hl]
    omega
  · obtain ⟨n, hn, rfl⟩ := List.mem_map.mp hmm
    have h := mem1 n hn
    by_cases h0 : p = 0
    · have h9 := h.2.1 h0
      have e : ((timesF p (row1F p ns).2).1 * n).natAbs ≤ 10 ^ 58 * 9 := by
        rw [Int.natAbs_mul]
        exact Nat.mul_le_mul ht.2.1 h9
      refine ⟨?_, .inl h0⟩
      unfold big
      omega
    · show (-big < (timesF p (row1F p ns).2).1 * n ∧ (timesF p (row1F p ns).2).1 * n < big) ∧ _
      rw [ht.2.2 h0, Int.one_mul]
      have := h.2.2 h0
      exact ⟨by unfold big; omega, .inr this⟩
  · have hlt : (grabF (manyF ns).1 (valF p (row0F p ns).2).2).1.toNat < (row0F p ns).1.length := by rw [hl]; omega
    refine ⟨(timesF p (row1F p ns).2).1 * (valF p (row0F p ns).2).1, List.mem_map.mpr ⟨(valF p (row0F p ns).2).1, List.mem_set hlt _, rfl⟩, Int.mul_ne_zero ht.1 hv.1⟩
theorem one_bag' {xs : List Int} (h : xs ≠ []) {ns : List Int} (hb : ∃ n, BagI n ns) : ∃ n, BagI n (oneF xs ns).2 := let ⟨n, hn⟩ := hb; ⟨n + 1, one_bag h hn⟩
theorem row_bag {p : Int} (hp : PrimeI p) {ns : List Int} (hb : ∃ n, BagI n ns) : (∃ n, BagI n (manyF ns).2) ∧ (∃ n, BagI n (row0F p ns).2) ∧ (∃ n, BagI n (valF p (row0F p ns).2).2) ∧ (∃ n, BagI n (row1F p ns).2) ∧ ∃ n, BagI n (rowF p ns).2 := by
  have h1 := one_bag' (xs := [1, 2, 3, 3, 5, 140]) (by decide) hb
  obtain ⟨n1, h1'⟩ := h1
  have h2 : ∃ n, BagI n (row0F p ns).2 := ⟨_, draws_bag (fun h => number_bag hp (s := 9) (by decide) h) _ h1'⟩
  have h3 : ∃ n, BagI n (valF p (row0F p ns).2).2 := by
    unfold valF
    split
    · exact h2
    · exact one_bag' (by decide) h2
  have hm := many_rng ns
  obtain ⟨n3, h3'⟩ := h3
  have h4 : ∃ n, BagI n (row1F p ns).2 := ⟨n3 + 1, grab_bag (by omega) h3'⟩
  refine ⟨⟨n1, h1'⟩, h2, ⟨n3, h3'⟩, h4, ?_⟩
  show ∃ n, BagI n (timesF p (row1F p ns).2).2
  unfold timesF
  split
  · exact one_bag' (by decide) h4
  · exact h4
end Num
/-! ## NumB -/
set_option Elab.async false
set_option linter.all false
set_option maxRecDepth 100000
/-! Numbers: what is made normal, told in many ways. Plain Lean. -/
namespace Num
open PySem
/-- numbers as they are drawn and passed -/
structure NumsOk (p : Int) (ns : List Int) : Prop where
  pr : PrimeI p
  len : ns.length ≤ 140
  rng : ∀ m ∈ ns, (-big < m ∧ m < big) ∧ (p = 0 ∨ (0 ≤ m ∧ m < p))
  ex : ∃ n ∈ ns, n ≠ 0
theorem NumsOk.made {p : Int} {ns : List Int} (h : NumsOk p ns) : MadeOk p ns := madeOk_tup h.pr h.len h.rng h.ex
theorem NumsOk.tup {p : Int} {ns : List Int} (h : NumsOk p ns) : okTup p (.tuple (ns.map PyData.int)) = true := okTup_of h.len h.rng h.ex
theorem normal_same {p : Int} {ns : List Int} (h : MadeOk p ns) : normalF p ns = Num.made p ns := by
  have e : ns.map (settled p) = ns := by
    conv => rhs; rw [← List.map_id ns]
    exact List.map_congr_left fun n hn => settled_id h hn
  unfold normalF
  rw [e, if_neg]
  intro z
  obtain ⟨n, hn, h0⟩ := h.ex
  unfold allZero at z
  rw [List.all_eq_true] at z
  exact h0 (of_decide_eq_true (z n hn))
/-- the divisor with its sign -/
def sgnG (ns : List Int) : Int := if firstI ns < 0 then -(gcdL 0 ns) else gcdL 0 ns
theorem sgn_ne {ns : List Int} (hx : ∃ n ∈ ns, n ≠ 0) : sgnG ns ≠ 0 := by
  have := gcdL_pos hx
  unfold sgnG
  split <;> omega
theorem sgn_dvd {ns : List Int} {n : Int} (hn : n ∈ ns) : sgnG ns ∣ n := by
  have := (gcdL_dvd ns 0).2 n hn
  unfold sgnG
  split
  · exact Int.neg_dvd.mpr this
  · exact this
theorem made0_back {ns : List Int} (hx : ∃ n ∈ ns, n ≠ 0) : (made 0 ns).map (fun n => sgnG ns * n) = ns := by
  rw [made_zero, List.map_map]
  conv => rhs; rw [← List.map_id ns]
  refine List.map_congr_left fun n hn => ?_
  obtain ⟨q, hq⟩ := sgn_dvd hn
  show sgnG ns * n.fdiv (sgnG ns) = n
  have h0 := sgn_ne hx
  generalize sgnG ns = s at *
  rw [hq, Int.mul_fdiv_cancel_left _ h0]
theorem made_rng {p : Int} {ns : List Int} (h : NumsOk p ns) : ∀ m ∈ made p ns, (-big < m ∧ m < big) ∧ (p = 0 ∨ (0 ≤ m ∧ m < p)) := by
  intro m hm
  have hz := made_sz h.made (k := (big - 1).toNat) (by decide) (fun n hn => by have := (h.rng n hn).1; unfold big at *; omega) m hm
  have e : (big - 1).toNat = 999999999999999999999999999999999999999999999999999999999999 := by decide
  refine ⟨by rw [e] at hz; unfold big; omega, ?_⟩
  by_cases h0 : p = 0
  · exact .inl h0
  · right
    unfold made at hm
    rw [if_pos h0] at hm
    obtain ⟨n, hn, rfl⟩ := List.mem_map.mp hm
    have h2 := prime_pos h.pr h0
    exact ⟨Int.emod_nonneg _ (by omega), Int.emod_lt_of_pos _ (by omega)⟩
theorem NumsOk.madeNums {p : Int} {ns : List Int} (h : NumsOk p ns) : NumsOk p (Num.made p ns) := ⟨h.pr, by rw [made_len]; exact h.len, made_rng h, made_ex h.made⟩
theorem inv_ne {p : Int} {ns : List Int} (h : MadeOk p ns) (h0 : p ≠ 0) : inv p (firstI ns) % p ≠ 0 := by
  obtain ⟨f1, f2⟩ := h.first h0
  obtain ⟨i1, i2, i3⟩ := inv_lt h.pr h0 f1 f2
  rw [Int.emod_eq_of_lt (by omega) i2]
  omega
theorem made_back {p : Int} {ns : List Int} (h : MadeOk p ns) (h0 : p ≠ 0) : ((made p ns).map fun n => settled p (n * firstI ns)) = ns := by
  obtain ⟨f1, f2⟩ := h.first h0
  obtain ⟨i1, i2, i3⟩ := inv_lt h.pr h0 f1 f2
  unfold made
  rw [if_pos h0, List.map_map]
  conv => rhs; rw [← List.map_id ns]
  refine List.map_congr_left fun n hn => ?_
  have hb := h.lt h0 n hn
  show settled p (n * inv p (firstI ns) % p * firstI ns) = n
  unfold settled
  rw [if_pos h0]
  generalize firstI ns = f at *
  generalize inv p f = i at *
  have e1 := Int.emod_add_mul_ediv (n * i) p
  have e2 := Int.emod_add_mul_ediv (f * i) p
  rw [i3] at e2
  generalize n * i % p = u at *
  generalize n * i / p = v at *
  generalize f * i / p = t at *
  have e3 : u * f = n + p * (n * t - v * f) := by grind
  rw [emod_eq_of (b := n) (c := n * t - v * f) e3, Int.emod_eq_of_lt hb.1 hb.2]
theorem first_made {p : Int} {ns : List Int} (h : MadeOk p ns) : (p ≠ 0 → firstI (made p ns) = 1) ∧ (p = 0 → 0 < firstI (made p ns)) := by
  obtain ⟨_, _, hm, hf⟩ := first_cons h.ex
  constructor
  · intro h0
    obtain ⟨f1, f2⟩ := h.first h0
    obtain ⟨i1, i2, i3⟩ := inv_lt h.pr h0 f1 f2
    unfold made
    rw [if_pos h0, first_map (fun n => n * inv p (firstI ns) % p) (fun n hn => ?_) (by simp)]
    · exact i3
    · have hb := h.lt h0 n hn
      constructor
      · intro z
        rw [Int.mul_comm] at z
        have := mul_zero_mod h.pr h0 (inv_ne h h0) z
        rw [Int.emod_eq_of_lt hb.1 hb.2] at this
        exact this
      · rintro rfl
        simp
  · intro h0
    subst h0
    have hg := gcdL_pos h.ex
    rw [made_zero]
    show 0 < firstI (ns.map fun n => n.fdiv (sgnG ns))
    rw [first_map (fun n => n.fdiv (sgnG ns)) (fun n hn => ?_) (by simp)]
    · obtain ⟨q, hq⟩ := sgn_dvd hm
      have hs := sgn_ne h.ex
      show 0 < (firstI ns).fdiv (sgnG ns)
      have e : (firstI ns).fdiv (sgnG ns) = q := by
        conv => lhs; rw [hq]
        generalize sgnG ns = s at *
        rw [Int.mul_fdiv_cancel_left _ hs]
      rw [e]
      unfold sgnG at hq hs
      generalize firstI ns = f at *
      generalize gcdL 0 ns = g at *
      split at hq
      · rename_i h1
        rcases Int.lt_trichotomy q 0 with h2 | h2 | h2
        · have h3 := Int.mul_pos hg (show 0 < -q by omega)
          have h4 : -g * q = g * -q := by grind
          omega
        · subst h2; rw [Int.mul_zero] at hq; omega
        · exact h2
      · rename_i h1
        rcases Int.lt_trichotomy q 0 with h2 | h2 | h2
        · have h3 := Int.mul_pos hg (show 0 < -q by omega)
          have h4 : g * q = -(g * -q) := by grind
          omega
        · subst h2; rw [Int.mul_zero] at hq; omega
        · exact h2
    · obtain ⟨q, hq⟩ := sgn_dvd hn
      have hs := sgn_ne h.ex
      generalize sgnG ns = s at *
      subst hq
      rw [Int.mul_fdiv_cancel_left _ hs]
      constructor
      · rintro rfl; simp
      · intro z; exact (Int.mul_eq_zero.mp z).resolve_left hs
theorem gcd_made {ns : List Int} (h : MadeOk 0 ns) : gcdL 0 (made 0 ns) = 1 := by
  have e := gcdL_mul (sgnG ns) (made 0 ns)
  rw [made0_back h.ex] at e
  have hg := gcdL_pos h.ex
  have hs : ((sgnG ns).natAbs : Int) = gcdL 0 ns := by
    unfold sgnG
    split <;> omega
  rw [hs] at e
  have e1 : gcdL 0 ns * gcdL 0 (made 0 ns) = gcdL 0 ns * 1 := by rw [Int.mul_one]; exact e.symm
  exact Int.eq_of_mul_eq_mul_left (by omega) e1
/-- the factor that is drawn beside -/
def times2F (p : Int) (ns : List Int) : Int × List Int := if p = 0 then oneF [-1, 2, -3] ns else (1 + (grabF (p - 1) ns).1, (grabF (p - 1) ns).2)
theorem times2_ok {p : Int} (hp : PrimeI p) (ns : List Int) : (times2F p ns).1.natAbs ≤ 19 ∧ settled p (times2F p ns).1 ≠ 0 := by
  unfold times2F
  by_cases h0 : p = 0
  · rw [if_pos h0]
    have hm := one_mem (xs := [-1, 2, -3]) (by decide) ns
    simp only [List.mem_cons, or_false, List.not_mem_nil] at hm
    subst h0
    rcases hm with h | h | h <;> rw [h] <;> decide
  · rw [if_neg h0]
    have h2 := prime_pos hp h0
    have hg := grab_rng (t := p - 1) (by omega) ns
    show (1 + (grabF (p - 1) ns).1).natAbs ≤ 19 ∧ settled p (1 + (grabF (p - 1) ns).1) ≠ 0
    refine ⟨by omega, ?_⟩
    unfold settled
    rw [if_pos h0, Int.emod_eq_of_lt (by omega) (by omega)]
    omega
theorem times2_bag {p : Int} (hp : PrimeI p) {ns : List Int} (hb : ∃ n, BagI n ns) : ∃ n, BagI n (times2F p ns).2 := by
  unfold times2F
  by_cases h0 : p = 0
  · rw [if_pos h0]
    exact one_bag' (by decide) hb
  · rw [if_neg h0]
    obtain ⟨n, hn⟩ := hb
    have h2 := prime_pos hp h0
    exact ⟨n + 1, grab_bag (by omega) hn⟩
theorem row_nums {p : Int} (hp : PrimeI p) (ns : List Int) : NumsOk p (rowF p ns).1 := ⟨hp, (row_ok hp ns).1, (row_ok hp ns).2.1, (row_ok hp ns).2.2⟩
/-- a multiple of them, if it is not too great -/
theorem more_ok {p t : Int} {ns : List Int} (h : NumsOk p ns) (ht : settled p t ≠ 0) {M : Int} (hM : ∀ m ∈ (ns.map fun n => settled p (t * n)).map absI, m ≤ M) (hb : M < big) : NumsOk p (ns.map fun n => settled p (t * n)) ∧ made p (ns.map fun n => settled p (t * n)) = made p ns := by
  have e := made_low h.pr ht (fun h0 n hn => (h.made.lt h0 n hn)) h.ex
  refine ⟨⟨h.pr, by rw [List.length_map]; exact h.len, fun m hm => ?_, ?_⟩, e⟩
  · have h1 := hM (absI m) (List.mem_map.mpr ⟨m, hm, rfl⟩)
    unfold absI at h1
    refine ⟨by unfold big at *; omega, ?_⟩
    by_cases h0 : p = 0
    · exact .inl h0
    · obtain ⟨n, _, rfl⟩ := List.mem_map.mp hm
      exact .inr (settled_rng h.pr h0)
  · obtain ⟨n, hn, h0⟩ := h.ex
    refine ⟨settled p (t * n), List.mem_map.mpr ⟨n, hn, rfl⟩, fun z => h0 ?_⟩
    have z2 := settled_mul h.pr ht z
    rwa [settled_id h.made hn] at z2
end Num
/-! ## NumX -/
set_option Elab.async false
set_option linter.all false
set_option maxRecDepth 100000
/-! Four spots: brackets, cross ratios, and what a table makes of them. Plain Lean. -/
namespace Num
open PySem
/-- equal up to the prime -/
def Cong (p a b : Int) : Prop := settled p a = settled p b
theorem cong_iff {p a b : Int} : Cong p a b ↔ ∃ q, a = b + p * q := by
  unfold Cong settled
  by_cases h0 : p = 0
  · subst h0
    simp only [ne_eq, not_true_eq_false, if_false]
    exact ⟨fun h => ⟨0, by rw [h]; simp⟩, fun ⟨q, h⟩ => by rw [h]; simp⟩
  · rw [if_pos h0, if_pos h0]
    constructor
    · intro h
      have e1 := Int.emod_add_mul_ediv a p
      have e2 := Int.emod_add_mul_ediv b p
      exact ⟨a / p - b / p, by grind⟩
    · rintro ⟨q, h⟩
      exact emod_eq_of h
theorem Cong.refl (p a : Int) : Cong p a a := rfl
theorem Cong.symm {p a b : Int} (h : Cong p a b) : Cong p b a := Eq.symm h
theorem Cong.trans {p a b c : Int} (h : Cong p a b) (h' : Cong p b c) : Cong p a c := Eq.trans h h'
theorem Cong.add {p a b c d : Int} (h : Cong p a b) (h' : Cong p c d) : Cong p (a + c) (b + d) := by
  obtain ⟨q, rfl⟩ := cong_iff.mp h
  obtain ⟨r, rfl⟩ := cong_iff.mp h'
  exact cong_iff.mpr ⟨q + r, by grind⟩
theorem Cong.mul {p a b c d : Int} (h : Cong p a b) (h' : Cong p c d) : Cong p (a * c) (b * d) := by
  obtain ⟨q, rfl⟩ := cong_iff.mp h
  obtain ⟨r, rfl⟩ := cong_iff.mp h'
  exact cong_iff.mpr ⟨b * r + q * d + p * q * r, by grind⟩
theorem Cong.sub {p a b c d : Int} (h : Cong p a b) (h' : Cong p c d) : Cong p (a - c) (b - d) := by
  obtain ⟨q, rfl⟩ := cong_iff.mp h
  obtain ⟨r, rfl⟩ := cong_iff.mp h'
  exact cong_iff.mpr ⟨q - r, by grind⟩
theorem cong_settled (p a : Int) : Cong p (settled p a) a := by
  refine cong_iff.mpr ?_
  unfold settled
  by_cases h0 : p = 0
  · rw [if_neg (by simpa using h0)]
    exact ⟨0, by simp⟩
  · rw [if_pos h0]
    have e1 := Int.emod_add_mul_ediv a p
    exact ⟨-(a / p), by grind⟩
/-- a factor that can be undone -/
def UnitI (p k : Int) : Prop := settled p k ≠ 0
theorem UnitI.mul {p a b : Int} (hp : PrimeI p) (ha : UnitI p a) (hb : UnitI p b) : UnitI p (a * b) := fun z => hb (settled_mul hp ha z)
theorem UnitI.of_cong {p a b : Int} (h : Cong p a b) (ha : UnitI p a) : UnitI p b := fun z => ha (Eq.trans h z)
/-- the normal form depends on the residues alone -/
theorem normal_cong {p : Int} {xs ys : List Int} (h : xs.map (settled p) = ys.map (settled p)) : normalF p xs = normalF p ys := by
  unfold normalF
  rw [h]
theorem settled_zero (p : Int) : settled p 0 = 0 := by
  unfold settled
  split
  · exact Int.zero_emod p
  · rfl
theorem normal_mul {p k : Int} (hp : PrimeI p) (hk : UnitI p k) (xs : List Int) : normalF p (xs.map fun n => k * n) = normalF p xs := by
  have e : (xs.map fun n => k * n).map (settled p) = (xs.map (settled p)).map fun n => settled p (k * n) := by
    (rw [List.map_map, List.map_map])
    exact List.map_congr_left fun n _ => ((Cong.refl p k).mul (cong_settled p n)).symm
  unfold normalF
  rw [e]
  have hr : p ≠ 0 → ∀ n ∈ xs.map (settled p), 0 ≤ n ∧ n < p := fun h0 n hn => by
    obtain ⟨m, _, rfl⟩ := List.mem_map.mp hn
    exact settled_rng hp h0
  generalize xs.map (settled p) = ys at *
  cases hz : allZero ys with
  | true =>
    have hy : (ys.map fun n => settled p (k * n)) = ys := by
      conv => rhs; rw [← List.map_id ys]
      refine List.map_congr_left fun n hn => ?_
      have h0 : n = 0 := of_decide_eq_true ((List.all_eq_true.mp hz) n hn)
      subst h0
      rw [Int.mul_zero, settled_zero]
      rfl
    rw [hy, hz]
  | false =>
    have hx := allZero_ex hz
    have hz2 : allZero (ys.map fun n => settled p (k * n)) = false := by
      cases q : allZero (ys.map fun n => settled p (k * n)) with
      | false => rfl
      | true =>
        obtain ⟨n, hn, h0⟩ := hx
        have h1 := of_decide_eq_true ((List.all_eq_true.mp q) _ (List.mem_map_of_mem hn))
        have h2 := settled_mul hp hk h1
        refine absurd ?_ h0
        by_cases hp0 : p = 0
        · subst hp0
          exact h2
        · have := hr hp0 n hn
          unfold settled at h2
          rw [if_pos hp0, Int.emod_eq_of_lt this.1 this.2] at h2
          exact h2
    rw [hz2, if_neg (by decide), if_neg (by decide)]
    exact made_low hp hk hr hx
/-- a pair and its normal form: a factor lies between them -/
theorem pair_unit {p x y : Int} (hp : PrimeI p) (hx : x.natAbs < 2 ^ 1000) (hy : y.natAbs < 2 ^ 1000) : ∃ u v k, normalF p [x, y] = [u, v] ∧ UnitI p k ∧ Cong p x (k * u) ∧ Cong p y (k * v) := by
  cases hz : allZero ([x, y].map (settled p)) with
  | true =>
    have e : normalF p [x, y] = [settled p x, settled p y] := by
      unfold normalF
      rw [hz]
      rfl
    have one : UnitI p 1 := by
      unfold UnitI settled
      by_cases h0 : p = 0
      · subst h0; decide
      · have := prime_pos hp h0
        rw [if_pos h0, Int.emod_eq_of_lt (by decide) (by omega)]
        decide
    exact ⟨_, _, 1, e, one, by rw [Int.one_mul]; exact (cong_settled p x).symm, by rw [Int.one_mul]; exact (cong_settled p y).symm⟩
  | false =>
    have hM := told_ok (ns := [x, y]) hp (by show 2 ≤ 140; decide) (fun n hn => by
      simp only [List.mem_cons, List.not_mem_nil, or_false] at hn
      rcases hn with h | h <;> rw [h] <;> assumption) hz
    have e : normalF p [x, y] = made p ([x, y].map (settled p)) := by
      unfold normalF
      rw [hz]
      rfl
    rw [e]
    by_cases h0 : p = 0
    · subst h0
      have hb := made0_back hM.ex
      have hs := sgn_ne hM.ex
      have hl := made_len 0 ([x, y].map (settled 0))
      generalize sgnG ([x, y].map (settled 0)) = g at *
      generalize made 0 ([x, y].map (settled 0)) = t at *
      match t, hl with
      | [u, v], _ =>
        have h1 : g * u = settled 0 x := (List.cons.inj hb).1
        have h2 : g * v = settled 0 y := (List.cons.inj (List.cons.inj hb).2).1
        exact ⟨u, v, g, rfl, hs, (cong_settled 0 x).symm.trans (by rw [h1]; rfl), (cong_settled 0 y).symm.trans (by rw [h2]; rfl)⟩
    · have hb := made_back hM h0
      have hl := made_len p ([x, y].map (settled p))
      have hf := hM.first h0
      generalize firstI ([x, y].map (settled p)) = g at *
      generalize made p ([x, y].map (settled p)) = t at *
      match t, hl with
      | [u, v], _ =>
        have h1 : settled p (u * g) = settled p x := (List.cons.inj hb).1
        have h2 : settled p (v * g) = settled p y := (List.cons.inj (List.cons.inj hb).2).1
        refine ⟨u, v, g, rfl, ?_, (show settled p x = settled p (g * u) by rw [Int.mul_comm]; exact h1.symm), (show settled p y = settled p (g * v) by rw [Int.mul_comm]; exact h2.symm)⟩
        unfold UnitI settled
        rw [if_pos h0, Int.emod_eq_of_lt (by omega) hf.2]
        omega
theorem normal_of {p x y x' y' k : Int} (hp : PrimeI p) (hk : UnitI p k) (h1 : Cong p x (k * x')) (h2 : Cong p y (k * y')) : normalF p [x, y] = normalF p [x', y'] := by
  rw [← normal_mul hp hk [x', y']]
  exact normal_cong (by
    show [settled p x, settled p y] = [settled p (k * x'), settled p (k * y')]
    rw [show settled p x = settled p (k * x') from h1, show settled p y = settled p (k * y') from h2])
/-- what is made of a pair by whole numbers, made of its normal form -/
theorem normal_lin {p x y u v : Int} (hp : PrimeI p) (hx : x.natAbs < 2 ^ 1000) (hy : y.natAbs < 2 ^ 1000) (e : normalF p [x, y] = [u, v]) (a b c d : Int) : normalF p [a * x + b * y, c * x + d * y] = normalF p [a * u + b * v, c * u + d * v] := by
  obtain ⟨u', v', k, e', hk, h1, h2⟩ := pair_unit hp hx hy
  rw [e] at e'
  cases e'
  refine normal_of hp hk ?_ ?_
  · have := ((Cong.refl p a).mul h1).add ((Cong.refl p b).mul h2)
    rwa [show a * (k * u) + b * (k * v) = k * (a * u + b * v) by grind] at this
  · have := ((Cong.refl p c).mul h1).add ((Cong.refl p d).mul h2)
    rwa [show c * (k * u) + d * (k * v) = k * (c * u + d * v) by grind] at this
/-! ### brackets -/
def br (x y : Int × Int) : Int := x.1 * y.2 - x.2 * y.1
def crI (a b c d : Int × Int) : Int × Int := (br a c * br b d, br a d * br b c)
def crF (p : Int) (a b c d : Int × Int) : List Int := normalF p [(crI a b c d).1, (crI a b c d).2]
theorem crI_last (a b c d : Int × Int) : crI a b d c = ((crI a b c d).2, (crI a b c d).1) := rfl
theorem crI_pairs (a b c d : Int × Int) : crI c d a b = crI a b c d := by
  unfold crI br
  ext <;> dsimp only <;> grind
theorem crI_mid (a b c d : Int × Int) : crI a c b d = ((crI a b c d).1 - (crI a b c d).2, 0 - (crI a b c d).2) := by
  unfold crI br
  ext <;> dsimp only <;> grind
/-- a table's image, ahead of the normal form -/
def ledI (t : (Int × Int) × (Int × Int)) (s : Int × Int) : Int × Int := (t.2.1 * s.2 + t.2.2 * (0 - s.1), 0 - (t.1.1 * s.2 + t.1.2 * (0 - s.1)))
def detI (t : (Int × Int) × (Int × Int)) : Int := t.1.1 * t.2.2 - t.1.2 * t.2.1
theorem br_led (t : (Int × Int) × (Int × Int)) (x y : Int × Int) : br (ledI t x) (ledI t y) = detI t * br x y := by
  unfold br ledI detI
  dsimp only
  grind
theorem br_cong {p k l : Int} {x y u v : Int × Int} (h1 : Cong p x.1 (k * u.1)) (h2 : Cong p x.2 (k * u.2)) (h3 : Cong p y.1 (l * v.1)) (h4 : Cong p y.2 (l * v.2)) : Cong p (br x y) (k * l * br u v) := by
  have := (h1.mul h4).sub (h2.mul h3)
  unfold br
  rwa [show k * u.1 * (l * v.2) - k * u.2 * (l * v.1) = k * l * (u.1 * v.2 - u.2 * v.1) by grind] at this
/-- spots that are led by a table keep their cross ratio -/
theorem crF_led {p : Int} (hp : PrimeI p) {t : (Int × Int) × (Int × Int)} (ht : UnitI p (detI t)) {a b c d a' b' c' d' : Int × Int} {ka kb kc kd : Int} (ua : UnitI p ka) (ub : UnitI p kb) (uc : UnitI p kc) (ud : UnitI p kd)
    (ha : Cong p (ledI t a).1 (ka * a'.1) ∧ Cong p (ledI t a).2 (ka * a'.2)) (hb : Cong p (ledI t b).1 (kb * b'.1) ∧ Cong p (ledI t b).2 (kb * b'.2)) (hc : Cong p (ledI t c).1 (kc * c'.1) ∧ Cong p (ledI t c).2 (kc * c'.2)) (hd : Cong p (ledI t d).1 (kd * d'.1) ∧ Cong p (ledI t d).2 (kd * d'.2)) :
    crF p a' b' c' d' = crF p a b c d := by
  have hk : UnitI p (ka * kb * kc * kd) := UnitI.mul hp (UnitI.mul hp (UnitI.mul hp ua ub) uc) ud
  have hD : UnitI p (detI t * detI t) := UnitI.mul hp ht ht
  have e1 : Cong p (detI t * detI t * (crI a b c d).1) (ka * kb * kc * kd * (crI a' b' c' d').1) := by
    have := (br_cong ha.1 ha.2 hc.1 hc.2).mul (br_cong hb.1 hb.2 hd.1 hd.2)
    rw [br_led, br_led] at this
    unfold crI
    dsimp only
    rwa [show detI t * br a c * (detI t * br b d) = detI t * detI t * (br a c * br b d) by grind, show ka * kc * br a' c' * (kb * kd * br b' d') = ka * kb * kc * kd * (br a' c' * br b' d') by grind] at this
  have e2 : Cong p (detI t * detI t * (crI a b c d).2) (ka * kb * kc * kd * (crI a' b' c' d').2) := by
    have := (br_cong ha.1 ha.2 hd.1 hd.2).mul (br_cong hb.1 hb.2 hc.1 hc.2)
    rw [br_led, br_led] at this
    unfold crI
    dsimp only
    rwa [show detI t * br a d * (detI t * br b c) = detI t * detI t * (br a d * br b c) by grind, show ka * kd * br a' d' * (kb * kc * br b' c') = ka * kb * kc * kd * (br a' d' * br b' c') by grind] at this
  unfold crF
  rw [← normal_mul hp hk [(crI a' b' c' d').1, (crI a' b' c' d').2], ← normal_mul hp hD [(crI a b c d).1, (crI a b c d).2]]
  exact normal_cong (by
    show [settled p _, settled p _] = [settled p _, settled p _]
    rw [show settled p _ = settled p _ from e1.symm, show settled p _ = settled p _ from e2.symm])
/-! ### unlike spots -/
theorem cong_zero {p a : Int} : settled p a = 0 ↔ Cong p a 0 := by
  unfold Cong
  rw [settled_zero]
/-- two spots whose bracket is 0 are one -/
theorem br_unit {p : Int} (hp : PrimeI p) {x y : Int × Int} (nx : normalF p [x.1, x.2] = [x.1, x.2]) (ny : normalF p [y.1, y.2] = [y.1, y.2]) (hx : UnitI p x.1 ∨ UnitI p x.2) (hy : UnitI p y.1 ∨ UnitI p y.2) (hne : x ≠ y) : UnitI p (br x y) := by
  intro z
  have hc : Cong p (x.1 * y.2) (x.2 * y.1) := settled_sub z
  refine hne ?_
  have same : ∀ {k l : Int}, UnitI p k → UnitI p l → Cong p (k * x.1) (l * y.1) → Cong p (k * x.2) (l * y.2) → x = y := fun {k l} hk hl h1 h2 => by
    have e1 := normal_mul hp hk [x.1, x.2]
    have e2 := normal_mul hp hl [y.1, y.2]
    have e3 : normalF p ([x.1, x.2].map fun n => k * n) = normalF p ([y.1, y.2].map fun n => l * n) := normal_cong (by
      show [settled p (k * x.1), settled p (k * x.2)] = [settled p (l * y.1), settled p (l * y.2)]
      rw [show settled p (k * x.1) = settled p (l * y.1) from h1, show settled p (k * x.2) = settled p (l * y.2) from h2])
    rw [e1, e2, nx, ny] at e3
    have h3 := List.cons.inj e3
    exact Prod.ext h3.1 (List.cons.inj h3.2).1
  by_cases u1 : UnitI p x.1
  · have v1 : UnitI p y.1 := fun q => by
      have h0 : Cong p (x.1 * y.2) 0 := hc.trans (by
        have := (Cong.refl p x.2).mul (cong_zero.mp q)
        rwa [Int.mul_zero] at this)
      have h2 := settled_mul hp u1 (cong_zero.mpr h0)
      rcases hy with h | h
      · exact h q
      · exact h h2
    exact same v1 u1 (by rw [Int.mul_comm]; rfl) (by rw [Int.mul_comm]; exact hc.symm)
  · have q1 : settled p x.1 = 0 := Classical.byContradiction fun h => u1 h
    have u2 : UnitI p x.2 := hx.resolve_left u1
    have h0 : Cong p (x.2 * y.1) 0 := hc.symm.trans (by
      have := (cong_zero.mp q1).mul (Cong.refl p y.2)
      rwa [Int.zero_mul] at this)
    have r1 : settled p y.1 = 0 := settled_mul hp u2 (cong_zero.mpr h0)
    have v2 : UnitI p y.2 := hy.resolve_left fun h => h r1
    refine same v2 u2 ?_ (by rw [Int.mul_comm]; rfl)
    have a1 := (Cong.refl p y.2).mul (cong_zero.mp q1)
    rw [Int.mul_zero] at a1
    exact a1.trans h0.symm
end Num
/-! ## TdZ -/
set_option Elab.async false
set_option linter.all false
set_option maxRecDepth 100000
set_option maxHeartbeats 3000000
/-! A comprehension over zip of two tuples, or of two lists. -/
namespace TD
open PySem L2 PySem.Spec PyProof.Rows
open RZ
open Evl (Ex ex_l ex_t fresh_back sq_of st_of sz_of sz_lt)
inductive LcZ [TabW] (K : PySem.W.Frag) (i j : Nat) (tt : TT) (te : TE) : List (Dt × Dt) → Rho → Bag → List Dt → Bag → Prop
  | nil (ρ : Rho) (β : Bag) : LcZ K i j tt te [] ρ β [] β
  | yes {p : Dt × Dt} {r : Dt} {ps : List (Dt × Dt)} {rs : List Dt} {ρ : Rho} {β β1 β2 β3 : Bag} : TtB K tt ((ρ.set i (some (Slot.imm p.1))).set j (some (Slot.imm p.2))) β true β1 →
      EvB K te ((ρ.set i (some (Slot.imm p.1))).set j (some (Slot.imm p.2))) β1 r β2 → LcZ K i j tt te ps ρ β2 rs β3 → LcZ K i j tt te (p :: ps) ρ β (r :: rs) β3
section
variable [TabW] {K : PySem.W.Frag} {b : Addr} {ρ ρ' ρ1 ρx : Rho} {β β1 β2 β3 : Bag} {ta tb te tc : TE} {tt : TT} {x y z d : Dt} {G H G1 H1 G2 H2 : Hp} {σ σx : L2.St}
theorem LcZ.som {i j : Nat} {ps : List (Dt × Dt)} {rs : List Dt} (h : LcZ K i j tt te ps ρ β rs β2) : β2.isSome = β.isSome := by
  induction h with
  | nil => rfl
  | yes h1 h2 _ ih => exact ih.trans (h2.som.trans h1.som)
theorem LcZ.map {i j : Nat} (g : Dt × Dt → Dt) : ∀ {ps : List (Dt × Dt)}, (∀ p ∈ ps, EvB K te ((ρ.set i (some (Slot.imm p.1))).set j (some (Slot.imm p.2))) β (g p) β) → LcZ K i j tYes te ps ρ β (ps.map g) β
  | [], _ => .nil ρ β
  | p :: ps, h => .yes t_yes0 (h p List.mem_cons_self) (LcZ.map g fun q hq => h q (List.mem_cons_of_mem _ hq))
theorem pg_tupK {X : Cx} {K : PySem.W.Frag} {es : List Expr} {k : Nat} {pos : Pos} {t : TGs} {n : Nat} (hc : X.calm = true) (h : PGs X es t) (hK : X.K = K := by rfl)
    (hn : (assignEach es X.env).length = n := by rfl) (hst : (assignEach es X.env).findIdx? (·.1) = none := by rfl) : PG X (.Tuple es k pos) (gTup K n t) := by
  subst hK
  exact pg_tup hc h hn hst
/-- one turn that gives an item, whatever the target -/
theorem lc_turnG {m : Bool} {Dl : Addr} {rs : List Dt} {P P' : List Dt → Bag → Prop} (hD : H1 Dl = none) (nb : m = true → Dl ≠ b) (hz : rs.length ≤ 100000) (E1 : ∀ G β, Step b m G1 H1 G H → BagOk b β G H → EnvD K b β G H σx ρx)
    (hP : ∀ rest β, P rest β → ∃ (r : Dt) (rest' : List Dt) (β1 β2 : Bag), rest = r :: rest' ∧ TtB K tt ρx β true β1 ∧ EvB K te ρx β1 r β2 ∧ P' rest' β2) (hw : LcW K b m G1 H1 Dl rs β3 P H) :
    tt σx H fun c H3 => if c = true then te σx H3 fun y H4 => ∃ acc, H4 Dl = some (.lst acc) ∧ acc.length < sizeLine ∧ LcW K b m G1 H1 Dl rs β3 P' (upd H4 Dl (.lst (acc ++ [y]))) else LcW K b m G1 H1 Dl rs β3 P' H3 := by
  obtain ⟨G, β, done, rest, acc, s, kb, hm, gD, hH, ha, hr, hp⟩ := hw
  have E := E1 G β s kb
  obtain ⟨r, rest', β1, β2, hrr, ht, he, hp'⟩ := hP rest β hp
  refine ht.run b G H _ _ E fun G3 H3 s3 k3 => ?_
  rw [if_pos rfl]
  rw [hm] at s3
  refine he.run b G3 H3 _ _ (E.step s3 k3) fun y G4 H4 s4 k4 d4 => ?_
  rw [ht.som, hm] at s4
  have hH3 := s3.keep Dl _ nb NoT.lst hH
  have gD3 := s3.fresh Dl _ gD NoT.lst hH
  have gD4 := s4.fresh Dl _ gD3 NoT.lst hH3
  have m2 : β2.isSome = m := he.som.trans (ht.som.trans hm)
  have hlen : acc.length = done.length := ha.length
  have hrl : rs.length = done.length + (rest'.length + 1) := by rw [← hr, List.length_append, hrr, List.length_cons]
  refine ⟨acc, s4.keep Dl _ nb NoT.lst hH3, sz_lt (by omega), ⟨G4, β2, done ++ [r], rest', acc ++ [y], ((s.trans s3).trans s4).mut (Gone.none hD) gD4 (LstAt.of (s4.keep Dl _ nb NoT.lst hH3)), k4.mut (by rw [m2]; exact nb), m2, gD4, upd_same, (ha.mono (s3.g.trans s4.g)).append (.cons d4 .nil), ?_, hp'⟩⟩
  rw [← hr, hrr, List.append_assoc]
  rfl
theorem LcW.new {m : Bool} {Dl T : Addr} {o : HO} {rs : List Dt} {P : List Dt → Bag → Prop} (hw : LcW K b m G1 H1 Dl rs β3 P H) (hT : H T = none) : LcW K b m G1 H1 Dl rs β3 P (upd H T o) := by
  obtain ⟨G, β, done, rest, acc, s, kb, hm, gD, hH, ha, hr, hp⟩ := hw
  have h1T : Gone H1 T := fun u nt q => by
    obtain ⟨_, _, z⟩ := s.stay T u nt q
    rw [hT] at z
    cases z
  have gT : G T = none := fresh_back s.s hT
  have nD : Dl ≠ T := ne_of_none hH hT
  refine ⟨G, β, done, rest, acc, s.mut h1T gT (LstAt.none hT), fun ns e => ?_, hm, gD, by rw [upd_ne nD]; exact hH, ha, hr, hp⟩
  obtain ⟨q1, q2⟩ := kb ns e
  exact ⟨by rw [upd_ne (ne_of_none q1 hT)]; exact q1, q2⟩
/-- the pairs of two sequences -/
theorem d_lcZT {i j : Nat} {vs : List Nat} {xs ys rs : List Dt} (hx : EvB K ta ρ β (.tuple xs) β1) (hy : EvB K tb ρ β1 (.tuple ys) β2) (hxy : xs.length = ys.length) (h : LcZ K i j tt te (xs.zip ys) (wipeR ρ vs) β2 rs β3) (hz : rs.length ≤ 100000)
    (hi : i ∈ vs) (hj : j ∈ vs) : EvB K (tLc (iZipA K (tCons ta (tCons tb tNil))) (gTup K 2 (gCons (gName i) (gCons (gName j) gNil))) tt te vs) ρ β (.list rs) β3 := by
  refine ⟨h.som.trans (hy.som.trans hx.som), fun b G H σ Q E k => ?_⟩
  refine hx.run b G H σ _ E fun v G0 H0 s0 k0 d0 => ?_
  have E0 := E.step s0 k0
  refine hy.run b G0 H0 σ _ E0 fun w G1 H1 s1 k1 d1 => ?_
  have E1 := E0.step s1 k1
  rw [hx.som] at s1
  have d0' := d0.mono s1.g
  have s01 := s0.trans s1
  cases d0' with
  | @tup a vsx _ hs hd =>
    cases d1 with
    | @tup c vsy _ hs' hd' =>
      refine ⟨a, c, vsx, vsy, rfl, .inr ⟨ex_t s1.s hs, ex_t s1.s hs', fun Dl hD => ?_⟩⟩
      have nb := bag_ne k1 (hy.som.trans hx.som) hD
      have hl : (xs.zip ys).length = xs.length := by rw [List.length_zip]; omega
      have lx := hd.length
      have ly := hd'.length
      refine ⟨fun n q H' => q = xs.length - n ∧ n ≤ xs.length ∧ LcW K b β.isSome G1 H1 Dl rs β3 (fun rest β' => LcZ K i j tt te ((xs.zip ys).drop n) (wipeR ρ vs) β' rest β3) H', ⟨xs.length, by simp, Nat.zero_le _, lc_start s1.s hD k1 (hy.som.trans hx.som) nb h⟩, ?_⟩
      rintro n q H' ⟨rfl, hn, w'⟩
      have hG : Ex G1 H' := by
        obtain ⟨G', β', done, rest, acc, s', _⟩ := w'
        exact s'.g.trans s'.s
      by_cases hlt : n < xs.length
      · have h1 : vsx[n]? = some (vsx[n]'(by omega)) := List.getElem?_eq_getElem (by omega)
        have h2 : vsy[n]? = some (vsy[n]'(by omega)) := List.getElem?_eq_getElem (by omega)
        obtain ⟨dx, e1, e2⟩ := hd.get h1
        obtain ⟨dy, e3, e4⟩ := hd'.get h2
        refine .inr ⟨⟨vsx, vsy, _, _, ex_t hG hs, ex_t hG hs', h1, h2⟩, fun H2 => LcW K b β.isSome G1 H1 Dl rs β3 (fun rest β' => LcZ K i j tt te ((xs.zip ys).drop (n + 1)) (wipeR ρ vs) β' rest β3) H2, fun H2 w2 => ⟨xs.length - (n + 1), by omega, rfl, hlt, w2⟩, ?_⟩
        rintro x H2 ⟨T, vx, vy, rfl, hT, rfl, f1, f2⟩
        have g1 := f1 vsx (ex_t hG hs)
        have g2 := f2 vsy (ex_t hG hs')
        rw [h1] at g1
        rw [h2] at g2
        cases g1
        cases g2
        refine ⟨T, _, rfl, st_of upd_same, rfl, _, _, rfl, _, _, rfl, rfl, ?_⟩
        refine ⟨by rw [wipe_set hj, wipe_set hi, wipe_wipe], ?_⟩
        have e5 : (xs.zip ys).drop n = (dx, dy) :: (xs.zip ys).drop (n + 1) := by
          have hlt' : n < (xs.zip ys).length := by omega
          rw [List.drop_eq_getElem_cons (hlt')]
          congr 1
          rw [List.getElem_zip]
          have q1 := (List.getElem?_eq_some_iff.mp e1).2
          have q2 := (List.getElem?_eq_some_iff.mp e3).2
          rw [q1, q2]
        rw [e5] at w'
        refine lc_turnG (ρx := ((wipeR ρ vs).set i (some (Slot.imm dx))).set j (some (Slot.imm dy))) hD nb hz (fun G' β' s' kb' => ?_) ?_ (w'.new hT)
        · exact (((E1.wipe vs).step s' kb').set (e2.mono s'.g)).set (e4.mono s'.g)
        · rintro rest β' hr
          cases hr with
          | yes a1 a2 a3 => exact ⟨_, _, _, _, rfl, a1, a2, a3⟩
      · have e6 : n = xs.length := by omega
        subst e6
        refine .inl ⟨⟨vsx, vsy, ex_t hG hs, ex_t hG hs', .inl (by omega)⟩, ?_⟩
        have e7 : (xs.zip ys).drop xs.length = [] := by rw [List.drop_eq_nil_iff]; omega
        rw [e7] at w'
        obtain ⟨G', β', done, rest, acc, s', kb', hm', gD', hH', ha', hr', hp'⟩ := w'
        cases hp'
        refine lc_end (j := 0) (ρ := ρ) (tt := tt) (te := te) s1.s hD nb ⟨G', β3, done, [], acc, s', kb', hm', gD', hH', ha', hr', .nil _ _⟩ fun v G'' H'' s'' kb'' dv => k v G'' H'' (s01.trans s'') kb'' dv
theorem zip_ints : ∀ x y : List Int, (x.map PyData.int).zip (y.map PyData.int) = (x.zip y).map fun q => (PyData.int q.1, PyData.int q.2)
  | [], _ => rfl
  | _ :: _, [] => rfl
  | a :: x, b :: y => by
    exact congrArg ((PyData.int a, PyData.int b) :: ·) (zip_ints x y)
theorem LcZ.ints {i j : Nat} (g : Int → Int → Dt) : ∀ {x y : List Int}, (∀ n m, n ∈ x → m ∈ y → EvB K te ((ρ.set i (some (Slot.imm (.int n)))).set j (some (Slot.imm (.int m)))) β (g n m) β) → LcZ K i j tYes te ((x.zip y).map fun q => (PyData.int q.1, PyData.int q.2)) ρ β ((x.zip y).map fun q => g q.1 q.2) β
  | [], _, _ => .nil ρ β
  | _ :: _, [], _ => .nil ρ β
  | a :: x, b :: y, h => .yes t_yes0 (h a b List.mem_cons_self List.mem_cons_self) (LcZ.ints g fun n m h1 h2 => h n m (List.mem_cons_of_mem _ h1) (List.mem_cons_of_mem _ h2))
theorem absI_num (n : Int) : absI n = ((n.natAbs : Nat) : Int) := by
  unfold absI
  split <;> omega
end
end TD
/-! ## TdB -/
set_option Elab.async false
set_option linter.all false
set_option maxRecDepth 100000
set_option maxHeartbeats 3000000
/-! The bag: a list of ints that is read, changed and handed on. -/
namespace TD
open PySem L2 PySem.Spec PyProof.Rows
open Evl (Ex ex_l ex_t fresh_back sq_of st_of sz_of sz_lt)
section
variable [TabW] {K : PySem.W.Frag} {b : Addr} {ρ ρ' ρ1 : Rho} {β β1 β2 β3 : Bag} {ta tb te tc : TE} {tt : TT} {tu tw : TS} {o : Out} {x y z d : Dt} {G H G1 H1 G2 H2 : Hp} {σ : L2.St}
theorem d_ixB {i : Nat} {k n : Int} {ns : List Int} (hi : ρ[i]? = some (some Slot.bag)) (hb : EvB K tb ρ (some ns) (.int k) (some ns)) (hn : atI ns k = some n) : EvB K (tOp (rIxL K) (tVar i) tb) ρ (some ns) (.int n) (some ns) := by
  refine ⟨rfl, fun b G H σ Q E q => ?_⟩
  refine ⟨_, E.bagv i hi, ?_⟩
  refine hb.run b G H σ _ E fun v G1 H1 s1 k1 d1 => ?_
  cases d1
  refine ⟨b, ns.map V.int, k, V.int n, rfl, rfl, sq_of (k1 ns rfl).1, ?_, q _ G1 H1 s1 k1 (.int n)⟩
  unfold atI at hn ⊢
  obtain ⟨m, h1, h2⟩ := Option.bind_eq_some_iff.mp hn
  rw [List.length_map, h1]
  show (ns.map V.int)[m]? = _
  rw [List.getElem?_map, h2]
  rfl
theorem Step.bag {o : HO} (e : Ex G H) (hg : G b = none) (hl : ∀ o, H b = some o → ∃ xs, o = HO.lst xs) (ho : NoT o := by intro _ z; cases z) : Step b true G H G (upd H b o) := by
  refine ⟨Ex.refl G, e.mut hg, fun x _ h _ _ => h, fun x u n _ h => ?_, fun x u t h => ?_, fun h => ⟨fun P q w => tab_upd (h.tab P q w) hl, h.free⟩⟩
  · rw [upd_ne (n rfl)]; exact h
  · by_cases z : x = b
    · exact ⟨o, ho, by rw [z, upd_same]⟩
    · exact ⟨u, t, by rw [upd_ne z]; exact h⟩
theorem st_setB {i : Nat} {k n : Int} {ns : List Int} {j : Nat} (he : EvB K te ρ (some ns) (.int n) (some ns)) (hi : ρ[i]? = some (some Slot.bag)) (hj : ixN ns.length k = some j) : StB K (tAsg te (gSub (tVar i) (tC (.int k)) rSetL)) ρ (some ns) (.nx ρ) (some (ns.set j n)) := by
  refine ⟨rfl, fun b G H σ D E q => ?_⟩
  refine he.run b G H σ _ E fun v G1 H1 s1 k1 d1 => ?_
  cases d1
  refine ⟨_, E.bagv i hi, ?_⟩
  obtain ⟨h1, h2⟩ := k1 ns rfl
  have sb : Step b true G1 H1 G1 (upd H1 b (.lst ((ns.map V.int).set j (V.int n)))) := Step.bag s1.s h2 (LstAt.of h1)
  refine ⟨b, ns.map V.int, k, j, rfl, rfl, h1, by rw [List.length_map]; exact hj, ?_⟩
  have kb : BagOk b (some (ns.set j n)) G1 (upd H1 b (.lst ((ns.map V.int).set j (V.int n)))) := fun ms e => by
    cases e
    exact ⟨by rw [upd_same, List.map_set], h2⟩
  exact q σ G1 _ (s1.trans sb) (E.step (s1.trans sb) kb)
theorem s_bag' {i : Nat} (hi : ρ[i]? = some (some Slot.bag)) : EvS K (tVar i) ρ β .bag β := ⟨rfl, fun b G H σ Q E k => ⟨_, E.bagv i hi, k _ G H (Step.refl E.sub) E.bagk rfl⟩⟩
theorem a_bg {i : Nat} {tr : TA} {as : List Slot} (hi : ρ[i]? = some (some Slot.bag)) (hr : EvA K tr ρ β as β2) : EvA K (tCons (tVar i) tr) ρ β (.bag :: as) β2 := a_cons (s_bag' hi) hr
end
end TD
/-! ## TdK -/
set_option Elab.async false
set_option linter.all false
/-! Rules told over the fragment by name, for use inside comprehensions. -/
namespace TD
open PySem L2 PySem.Spec PyProof.Rows
theorem call_isiK {X : Cx} {K : PySem.W.Frag} (h : X.K = K := by rfl) : CallR X (.builtin "isinstance") (rIsi K) := h ▸ call_isi
theorem op_inDK {X : Cx} {K : PySem.W.Frag} (hu : X.A.units + 65 < cLine) (h : X.K = K := by rfl) : OpR X (compareOp .In) (rInD K) := h ▸ op_inD hu
theorem op_notInDK {X : Cx} {K : PySem.W.Frag} (hu : X.A.units + 65 < cLine) (h : X.K = K := by rfl) : OpR X (compareOp .NotIn) (rNotInD K) := h ▸ op_notInD hu
theorem c_lenK {X : Cx} {K : PySem.W.Frag} (h : X.K = K := by rfl) : CallR X (.builtin "len") (rLen K) := h ▸ c_len
end TD
/-! ## TdT -/
set_option Elab.async false
set_option linter.all false
set_option maxRecDepth 100000
set_option maxHeartbeats 3000000
/-! t[::-1] of a tuple; + of any two tuples. -/
namespace TD
open PySem L2 PySem.Spec PyProof.Rows
open Evl (Ex ex_l ex_t fresh_back sq_of st_of sz_of sz_lt)
section
open HT PyProof Calls
variable {prog : Program} {w : World} {A : Around} {s : Shared} {E : Value → Shared → Prop}
theorem adjust_rev (n : Nat) : Builtin.Slice.sliceAdjust none none (-1) (n : Int) = ((n : Int) - 1, -1) := rfl
theorem places_rev (n : Nat) : Builtin.Slice.slicePlaces ((n : Int) - 1) (-1) (-1) = n := by
  show (if (-1 : Int) > 0 then _ else _ : Int).toNat = n
  have h1 : ¬ ((-1 : Int) > 0) := by omega
  have h2 : (- -1 : Int) = 1 := rfl
  simp only [h1, if_false, h2, Int.ediv_one]
  split <;> omega
theorem fm_congr {α γ : Type} {f g : α → Option γ} : ∀ {xs : List α}, (∀ x ∈ xs, f x = g x) → xs.filterMap f = xs.filterMap g
  | [], _ => rfl
  | x :: xs, h => by
    rw [List.filterMap_cons, List.filterMap_cons, h x List.mem_cons_self, fm_congr fun y hy => h y (List.mem_cons_of_mem _ hy)]
theorem pick_rev (xs : Array Value) : ((List.range xs.size).filterMap fun (m : Nat) => xs[(((xs.size : Int) - 1) + (m : Int) * -1).toNat]?).toArray = xs.toList.reverse.toArray := by
  congr 1
  have e : ∀ m ∈ List.range xs.size, xs[(((xs.size : Int) - 1) + (m : Int) * -1).toNat]? = xs.toList.reverse[m]? := by
    intro m hm
    have hm := List.mem_range.mp hm
    have h1 : (((xs.size : Int) - 1) + (m : Int) * -1).toNat = xs.size - 1 - m := by omega
    rw [h1, List.getElem?_reverse (by rw [Array.length_toList]; exact hm), Array.length_toList, Array.getElem?_toList]
  rw [fm_congr e]
  have q : ∀ (ys : List Value), (List.range ys.length).filterMap (fun m => ys[m]?) = ys := by
    intro ys
    induction ys with
    | nil => rfl
    | cons y ys ih =>
      rw [List.length_cons, List.range_succ_eq_map, List.filterMap_cons, List.filterMap_map]
      show y :: List.filterMap ((fun m => (y :: ys)[m]?) ∘ Nat.succ) (List.range ys.length) = y :: ys
      congr 1
  have := q xs.toList.reverse
  rw [List.length_reverse, Array.length_toList] at this
  exact this
theorem sliceApplied_rev {sl : Addr} {vs : Value} {n : Nat} {Q : Int × Int × Nat → Shared → Prop} (hs : s.heap.IsSliceOf sl .none .none vs) (ps : IsPart vs (some (-1)))
    (h : Q ((n : Int) - 1, -1, n) s) : wpAny (model prog w) A (Builtin.Slice.sliceApplied (.ref sl) (pure (n : Int))) Q E s := by
  have fields : wpAny (model prog w) A (Builtin.Slice.sliceFields (.ref sl)) (fun r s' => r = (.none, .none, vs) ∧ s' = s) E s := by
    obtain ⟨ob, at_, _, dt⟩ := id hs
    unfold Builtin.Slice.sliceFields
    exact wpAny_bind (wpAny_field at_ dt (x := .none) rfl (wpAny_bind (wpAny_field at_ dt (x := .none) rfl (wpAny_bind (wpAny_field at_ dt (x := vs) rfl (wpAny_pure ⟨rfl, rfl⟩))))))
  unfold Builtin.Slice.sliceApplied
  refine wpAny_bind (thn fields fun r s' e => ?_)
  obtain ⟨rfl, rfl⟩ := e
  refine wpAny_bind (slicePart_ ps (show wpAny _ _ (if ((-1 : Int) == 0) = true then _ else _) _ _ s' from ?_))
  rw [if_neg (by decide)]
  refine wpAny_bind (slicePart_none (wpAny_bind (slicePart_none (wpAny_bind (wpAny_pure (wpAny_pure ?_))))))
  show Q ((n : Int) - 1, (-1 : Int), Builtin.Slice.slicePlaces ((n : Int) - 1) (-1) (-1)) s'
  rw [places_rev]
  exact h
end
section
open HT PyProof Calls
variable {prog : Program} {w : World} {A : Around} {s : Shared} {E : Value → Shared → Prop}
/-- the slice at sl, taken of the tuple at t -/
theorem getItem_tuple_rev {t sl : Addr} {items : Array Value} {vs : Value} {Q : Value → Shared → Prop} (ht : IsTup s.heap t items) (hs : s.heap.IsSliceOf sl .none .none vs) (ps : IsPart vs (some (-1))) (big : items.size ≤ sizeLine)
    (h : Q (.ref s.heap.objs.size) { s with heap := s.heap.push { cls := .type "tuple", data := .seq items.toList.reverse.toArray } }) : wpAny (model prog w) A (getItem (.ref t) (.ref sl)) Q E s := by
  have isSlice : s.TypeIs (.ref sl) "slice" := by
    obtain ⟨ob, at_, cl, _⟩ := id hs
    exact ⟨ob, at_, cl⟩
  have fits : sizeOk (.seq items.toList.reverse.toArray) := by
    show items.toList.reverse.toArray.size ≤ sizeLine
    rwa [List.size_toArray, List.length_reverse, Array.length_toList]
  have made : wpAny (model prog w) A.in1 (Builtin.«tuple.__getitem__» ⟨[.ref t, .ref sl], []⟩) (fun f s' => ∃ v, f = .done (.ret v) ∧ Q v s') E s := by
    have no : ¬ ((((items.size : Int) - 1) == 0 && (-1 : Int) == 1 && items.size == items.size) = true) := fun q => absurd (Bool.and_eq_true_iff.mp (Bool.and_eq_true_iff.mp q).1).2 (by decide)
    show wpAny (model prog w) A.in1 (Builtin.Tuple.tupleItemsOf (.ref t) >>= _) _ E s
    refine wpAny_bind (tupleItemsOf_ ht (wpAny_bind (wpAny_typeOf isSlice ?_)))
    rw [if_pos (by decide)]
    refine wpAny_bind (sliceApplied_rev hs ps (show wpAny _ _ (if (((items.size : Int) - 1) == 0 && (-1 : Int) == 1 && items.size == items.size) = true then _ else _) _ _ s from ?_))
    rw [if_neg no, pick_rev]
    exact wpAny_bind (wpAny_newObj_type (wpAny_pure ⟨_, rfl, h⟩) fits)
  unfold getItem
  exact wpAny_holding (wpAny_bind (wpAny_sequenceKey ht.typeIs (by decide) (wpAny_bind (wpAny_callSpecial?_slot (name := Str.ofString "__getitem__") ht.typeIs PyProof.Rows.slot_tuple_getitem (wpAny_call_entry PyProof.Rows.slot_tuple_getitem ht.typeIs entry_tuple_getitem (thn made fun f s' ⟨v, e, q⟩ => ⟨v, e, wpAny_pure q⟩) (args_tuple_getitem _ _))))))
end
/-- t[::-1] -/
def tRevT (K : PySem.W.Frag) (te : TE) : TE := fun σ H Q => te σ H fun x H1 => ∃ a xs, x = .ref a ∧ SqT K H1 a xs ∧ ∀ p, H1 p = none → Q (.ref p) (upd H1 p (.tup xs.reverse))
/-- the part -1 -/
theorem po_minus1 {X : Cx} {k : Nat} {p1 p2 : Pos} : PO X (some (.UnaryOp .USub (.Constant (.int 1) k p1) p2)) (tPart (tUn (rU fun i => .int (-i)) (tC (.int 1)))) := po_some (pe_un un_neg pe_int)
theorem pe_revT {X : Cx} {e : Expr} {te : TE} {k : Nat} {p1 p2 p3 pos : Pos} (he : PE X e te) : PE X (.Subscript e (.Slice none none (some (.UnaryOp .USub (.Constant (.int 1) k p1) p2)) p3) pos) (tRevT X.K te) where
  run pins s σ H Q I h := by
    refine Subscript_ (thn (he.run pins s σ H _ I h) fun v s1 z => ?_)
    obtain ⟨y, J, I1, rel, a, xs, rfl, hx, q⟩ := z
    cases rel
    refine wpAny_Slice (thn (po_none.run pins s1 σ J (fun l L => l = none ∧ L = J) I1 ⟨rfl, rfl⟩) fun v1 s2 ⟨_, _, I2, part1, z1, z2⟩ => ?_)
    cases z1; cases z2; cases part1
    refine thn (po_none.run pins s2 σ J (fun l L => l = none ∧ L = J) I2 ⟨rfl, rfl⟩) fun v2 s3 ⟨_, _, I3, part2, z1, z2⟩ => ?_
    cases z1; cases z2; cases part2
    refine thn (po_minus1.run pins s3 σ J (fun l L => l = some (-1) ∧ L = J) I3 ⟨1, rfl, -1, rfl, rfl, rfl⟩) fun v3 s4 ⟨_, _, I4, part3, z1, z2⟩ => ?_
    cases z1; cases z2
    have I5 := I4.kept (h' := s4.heap.push { cls := .type "slice", data := .fields #[.none, .none, v3] }) (t' := s4.toks) fun b ob q => Heap.get?_push_of_some _ q
    obtain ⟨its, vals, ht, hz⟩ := I5.tuple hx
    refine tail_any (ops := [.ref a, .ref s4.heap.objs.size]) ht.typeIs PyProof.Rows.slot_tuple_getitem.lookup (getItem_tuple_rev ht (Heap.IsSliceOf.new _ .none .none v3) part3 (by rw [List.size_toArray, ← vals.length]; exact hz) ?_) (by with_unfolding_all rfl)
    exact ⟨.ref _, _, I5.laid (t' := s4.toks) (o := .tup xs.reverse) (fun b ob q => Heap.get?_push_of_some _ q) (Nat.le_refl _) ⟨by rw [List.length_reverse]; exact hz, _, vals.reverse, IsTup.new _ _⟩, rfl, q _ (I5.hok.fresh (Nat.le_refl _))⟩
section
variable [TabW] {K : PySem.W.Frag} {b : Addr} {ρ ρ' ρ1 : Rho} {β β1 β2 β3 : Bag} {ta tb te tc : TE} {x y z d : Dt} {G H G1 H1 G2 H2 : Hp} {σ : L2.St}
theorem DenL.reverse : ∀ {vs : List V} {ds : List Dt}, DenL K G vs ds → DenL K G vs.reverse ds.reverse
  | [], [], _ => .nil
  | [], _ :: _, h => nomatch h
  | _ :: _, [], h => nomatch h
  | _ :: _, _ :: _, .cons h1 h2 => by
    simp only [List.reverse_cons]
    exact (DenL.reverse h2).append (.cons h1 .nil)
theorem d_revT {ds : List Dt} (h : EvB K te ρ β (.tuple ds) β1) : EvB K (tRevT K te) ρ β (.tuple ds.reverse) β1 := by
  refine ⟨h.som, fun b G H σ Q E k => ?_⟩
  refine h.run b G H σ _ E fun v G1 H1 s1 k1 d1 => ?_
  cases d1 with
  | @tup a xs _ hs hd =>
    refine ⟨a, xs, rfl, ex_t s1.s hs, fun p hp => ?_⟩
    have n := Step.new (b := b) (m := false) (o := .tup xs.reverse) s1.s hp
    exact k (.ref p) _ _ (s1.trans n.up) (k1.same n) (.tup (st_of upd_same) (hd.reverse.mono n.g))
theorem d_catA {ds es : List Dt} (ha : EvB K ta ρ β (.tuple ds) β1) (hb : EvB K tb ρ β1 (.tuple es) β2) (hz : ds.length + es.length ≤ 100000) : EvB K (tOp (rCatA K) ta tb) ρ β (.tuple (ds ++ es)) β2 := d_op ha hb fun b G H v w Q e h1 h2 k => by
  have h1' := h1
  have h2' := h2
  cases h1 with
  | @tup a xs _ hs hd =>
    cases h2 with
    | @tup c ys _ hs' hd' =>
      refine ⟨a, c, xs, ys, rfl, rfl, ex_t e hs, ex_t e hs', sz_of (by rw [hd.length, hd'.length]; exact hz), fun z => ?_, fun z1 z => ?_, fun z1 z p hp => ?_⟩
      · subst z
        cases hd
        exact k _ G H (Step.refl e) h2'
      · subst z
        cases hd'
        rw [List.append_nil] at k
        exact k _ G H (Step.refl e) h1'
      · have n := Step.new (b := b) (m := false) (o := .tup (xs ++ ys)) e hp
        exact k _ _ _ n (.tup (st_of upd_same) ((hd.append hd').mono n.g))
end
end TD
/-! ## TdG -/
set_option Elab.async false
set_option linter.all false
set_option maxRecDepth 100000
set_option maxHeartbeats 3000000
/-! A list of one's own that grows in a for, or shrinks in a comprehension. -/
namespace TD
open PySem L2 PySem.Spec PyProof.Rows
open Evl (Ex ex_l ex_t fresh_back sq_of st_of sz_of sz_lt)
section
variable [TabW] {K : PySem.W.Frag} {b : Addr} {ρ ρ' ρ1 : Rho} {β β1 β2 β3 : Bag} {ta : TA} {tl te tr tb tc : TE} {x y z d : Dt} {G H G1 H1 G2 H2 : Hp} {σ : L2.St}
theorem EnvD.mutl {l : Addr} {o : HO} (E : EnvD K b β G H σ ρ) (h2 : G l = none) (nb : β.isSome = true → l ≠ b) (hl : ∀ u, H l = some u → ∃ xs, u = HO.lst xs) : EnvD K b β G (upd H l o) σ ρ := ⟨E.sub.mut h2, E.bagk.mut nb, E.len, E.imm, E.bagv, ⟨fun P q w => tab_upd (E.tabs.tab P q w) hl, E.tabs.free⟩, E.fnv⟩
theorem EnvD.put {i : Nat} {v : Option V} (E : EnvD K b β G H σ ρ) (hi : ρ[i]? = some none) : EnvD K b β G H (σ.set i v) ρ := by
  refine ⟨E.sub, E.bagk, by rw [List.length_set]; exact E.len, fun j e hj => ?_, fun j hj => ?_, E.tabs, fun j a hj => ?_⟩
  · have z : i ≠ j := fun z => by
      subst z
      rw [hi] at hj
      cases hj
    rw [List.getElem?_set_ne z]
    exact E.imm j e hj
  · have z : i ≠ j := fun z => by
      subst z
      rw [hi] at hj
      cases hj
    rw [List.getElem?_set_ne z]
    exact E.bagv j hj
  · have z : i ≠ j := fun z => by
      subst z
      rw [hi] at hj
      cases hj
    rw [List.getElem?_set_ne z]
    exact E.fnv j a hj
theorem st_gather {i j : Nat} {ds0 es rs : List Dt} {g : Dt → Dt} (h0 : EvA K ta ρ β (imms ds0) β1) (hij : i ≠ j) (hi : ρ[i]? = some none) (hj : ρ.set j none = ρ) (ht : EvB K tl ρ β1 (.tuple es) β1)
    (hg : ∀ e ∈ es, EvB K te (ρ.set j (some (Slot.imm e))) β1 (g e) β1) (hr : ∀ v, EvB K tr (ρ.set j v) β1 (.list rs) β1) (hz : ds0.length + es.length + rs.length ≤ 100000) :
    StB K (tSeq (tAsg (tLst ta) (gName i)) (tSeq (tFor (iTup K tl) (gName j) (tDrop (tBM K "list" rAppend (tVar i) (tCons te tNil)))) (tRet (tOp rCat (tVar i) tr)))) ρ β (.ret (.list (ds0 ++ es.map g ++ rs))) β1 := by
  refine ⟨h0.som, fun b G H σ D E k => ?_⟩
  refine h0.run b G H σ _ E fun vs G0 H0 s0 k0 d0 => ?_
  have dl := d0.imm
  have E0 := E.step s0 k0
  refine ⟨sz_of (by rw [dl.length]; omega), fun p hp => ?_⟩
  have hm : β1.isSome = β.isSome := h0.som
  have np : β1.isSome = true → p ≠ b := bag_ne k0 rfl hp
  have gp : G0 p = none := fresh_back s0.s hp
  have sp : Step b β.isSome G0 H0 G0 (upd H0 p (.lst vs)) := (Step.refl s0.s).mut (Gone.none hp) gp (LstAt.none hp)
  have E1 : EnvD K b β1 G0 (upd H0 p (.lst vs)) (σ.set i (some (.ref p))) ρ := (E0.mutl gp np (LstAt.none hp)).put hi
  have hil : i < σ.length := by
    rw [E.len]
    exact (List.getElem?_eq_some_iff.mp hi).1
  have hpi : (σ.set i (some (V.ref p)))[i]? = some (some (.ref p)) := List.getElem?_set_self hil
  refine ht.run b G0 _ _ _ E1 fun v G2 H2 s2 k2 d2 => ?_
  rw [hm] at s2
  have E2 := E1.step s2 k2
  have hp2 : H2 p = some (.lst vs) := s2.keep p _ (fun q => np (hm.trans q)) NoT.lst upd_same
  have gp2 : G2 p = none := s2.fresh p _ gp NoT.lst upd_same
  cases d2 with
  | @tup a xs _ hs hd =>
    have s02 : Step b β.isSome G0 H0 G2 H2 := sp.trans s2
    refine ⟨a, rfl, ⟨xs, ex_t s2.s hs⟩, for_tup (K := K) (a := a) (xs := xs) (fun n σ' H' => ∃ G' v ws, Step b β.isSome G0 H0 G' H' ∧ Ex G2 G' ∧ EnvD K b β1 G' H' σ' (ρ.set j v) ∧ σ'[i]? = some (some (.ref p)) ∧ G' p = none ∧ H' p = some (.lst ws) ∧ DenL K G' ws (ds0 ++ (es.take n).map g)) ?_ ?_ ?_ ?_⟩
    · refine ⟨G2, none, vs, s02, Ex.refl G2, by rw [hj]; exact E2, hpi, gp2, hp2, ?_⟩
      rw [List.take_zero, List.map_nil, List.append_nil]
      exact dl.mono s2.g
    · rintro n σ' H' _ ⟨G', v, ws, s', e', _⟩
      exact ex_t s'.s (ex_t e' hs)
    · rintro n x σ' H' hn ⟨G', v, ws, s', e', E', hσ, g', h', dw⟩
      obtain ⟨e, he1, he2⟩ := hd.get hn
      have hlt := (List.getElem?_eq_some_iff.mp he1).1
      have E3 := E'.set (i := j) (he2.mono e')
      rw [List.set_set] at E3
      have hσ' : (σ'.set j (some x))[i]? = some (some (.ref p)) := by rw [List.getElem?_set_ne (Ne.symm hij)]; exact hσ
      refine ⟨_, hσ', .inl ⟨rfl, ws, sq_of h'⟩, ?_⟩
      refine (hg e (List.mem_of_getElem? he1)).run b G' H' _ _ E3 fun y G4 H4 s4 k4 d4 => ?_
      rw [hm] at s4
      have hp4 : H4 p = some (.lst ws) := s4.keep p _ (fun q => np (hm.trans q)) NoT.lst h'
      have gp4 : G4 p = none := s4.fresh p _ g' NoT.lst h'
      have hwl : ws.length = ds0.length + n := by
        rw [dw.length, List.length_append, List.length_map, List.length_take]
        omega
      refine ⟨p, ws, y, rfl, rfl, hp4, sz_lt (by omega), G4, some (Slot.imm e), ws ++ [y], (s'.trans s4).mut (Gone.none hp) gp4 (LstAt.of hp4), e'.trans s4.g, (E3.step s4 k4).mutl gp4 np (LstAt.of hp4), hσ', gp4, upd_same, ?_⟩
      have e9 : ds0 ++ (es.take (n + 1)).map g = (ds0 ++ (es.take n).map g) ++ [g e] := by
        rw [List.take_succ, he1, List.map_append, List.append_assoc]
        rfl
      rw [e9]
      exact (dw.mono s4.g).append (.cons d4 .nil)
    · rintro σ' H' ⟨G', v, ws, s', e', E', hσ, g', h', dw⟩
      rw [hd.length, List.take_length] at dw
      refine ⟨_, hσ, ?_⟩
      refine (hr v).run b G' H' _ _ E' fun u G5 H5 s5 k5 d5 => ?_
      rw [hm] at s5
      cases d5 with
      | @lst c zs _ hs5 hd5 =>
        have hp5 : H5 p = some (.lst ws) := s5.keep p _ (fun q => np (hm.trans q)) NoT.lst h'
        refine ⟨p, c, ws, zs, rfl, rfl, hp5, s5.s _ _ hs5, sz_of (by rw [dw.length, hd5.length, List.length_append, List.length_map]; omega), fun q hq => ?_⟩
        have n := Step.new (b := b) (m := false) (o := .lst (ws ++ zs)) s5.s hq
        exact k (.ref q) _ _ (((s0.trans s').trans s5).trans n.up) (k5.same n) (.lst upd_same (((dw.mono s5.g).append hd5).mono n.g))
def mixF (f : Int → List Int → Int × List Int) : Nat → List Dt → List Int → List Dt × List Int
  | 0, _, ns => ([], ns)
  | k + 1, ds, ns => (ds.getD (f ds.length ns).1.toNat .none :: (mixF f k (ds.eraseIdx (f ds.length ns).1.toNat) (f ds.length ns).2).1, (mixF f k (ds.eraseIdx (f ds.length ns).1.toNat) (f ds.length ns).2).2)
theorem DenL.erase : ∀ {vs : List V} {ds : List Dt} (k : Nat), DenL K G vs ds → DenL K G (vs.eraseIdx k) (ds.eraseIdx k)
  | [], [], _, _ => .nil
  | [], _ :: _, _, h => nomatch h
  | _ :: _, [], _, h => nomatch h
  | _ :: _, _ :: _, 0, .cons _ h2 => h2
  | _ :: _, _ :: _, k + 1, .cons h1 h2 => .cons h1 (DenL.erase k h2)
theorem seqIx {i : Int} {n : Nat} (h0 : 0 ≤ i) (h1 : i < n) : seqIndex? i n = some i.toNat := by
  unfold seqIndex?
  rw [if_neg (show ¬ i < 0 by omega)]
  show (if (decide (0 ≤ i) && decide (i < (n : Int))) = true then some i.toNat else none) = _
  rw [decide_eq_true h0, decide_eq_true h1]
  rfl
theorem st_mixed {ds : List Dt} {d : Dt} {R : FR} {ns : List Int} {P : List Int → Prop} (f : Int → List Int → Int × List Int) (hd : SeqD d ds) (hl : ds.length ≤ 1000) (hP : P ns) (hs : ∀ {n : Int} {ns : List Int}, P ns → 0 < n → P (f n ns).2)
    (hg : ∀ {n : Int} {ns : List Int}, 0 < n → 0 ≤ (f n ns).1 ∧ (f n ns).1 < n) (hR : ∀ {n : Int} {ns : List Int}, P ns → 0 < n → n ≤ 1000 → R [.bag, .imm (.int n)] (some ns) (.int (f n ns).1) (some (f n ns).2)) :
    StB K (tSeq (tAsg (tCB (rListOf K) (tCons (tVar 1) tNil)) (gName 2)) (tRet (tLc (iRng1 (tCons (tCB (rLen K) (tCons (tVar 1) tNil)) tNil)) (gName 3) tYes (tBM K "list" rPopAt (tVar 2) (tCons (tCall (spR K R) [] E0 (tCons (tVar 0) (tCons (tCB (rLen K) (tCons (tVar 2) tNil)) tNil))) tNil)) [3])))
      [some .bag, some (.imm d), none, none] (some ns) (.ret (.list (mixF f ds.length ds ns).1)) (some (mixF f ds.length ds ns).2) := by
  refine ⟨rfl, fun b G0 H0 σ D E k => ?_⟩
  obtain ⟨v1, hv1, dv1⟩ := E.imm 1 d rfl
  have hb0 := E.bagv 0 rfl
  have kb0 := E.bagk
  have σl : σ.length = 4 := E.len
  obtain ⟨pd, ys, rfl, hq, hdl⟩ := dv1.seq hd E.sub
  refine ⟨_, hv1, pd, ys, rfl, hq, fun p hp => ?_⟩
  have np : p ≠ b := bag_ne kb0 rfl hp rfl
  have gp : G0 p = none := fresh_back E.sub hp
  have hyl := hdl.length
  have hσ1 : (σ.set 2 (some (V.ref p)))[1]? = some (some (.ref pd)) := by rw [List.getElem?_set_ne (by decide)]; exact hv1
  have ex1 : Ex G0 (upd H0 p (.lst ys)) := E.sub.mut gp
  obtain ⟨pd', ys', e', hq', hdl'⟩ := dv1.seq hd ex1
  cases e'
  have hyl' := hdl'.length
  refine ⟨_, hσ1, pd, ys', rfl, hq', ?_⟩
  refine ⟨(ys'.length : Int), rfl, by omega, by omega, fun Dl hD => ?_⟩
  have hpD : p ≠ Dl := fun z => by rw [← z, upd_same] at hD; cases hD
  have hD0 : H0 Dl = none := by rw [upd_ne (Ne.symm hpD)] at hD; exact hD
  have nD : Dl ≠ b := bag_ne kb0 rfl hD0 rfl
  have gD : G0 Dl = none := fresh_back E.sub hD0
  have hn : ((ys'.length : Int)).toNat = ds.length := by omega
  refine lc_range (lo := 0) (n := ((ys'.length : Int)).toNat) (fun n H' => ∃ G' ns' ds' ws acc done, Step b true G0 H0 G' H' ∧ BagOk b (some ns') G' H' ∧ P ns' ∧ ds'.length + n = ds.length ∧ G' p = none ∧ H' p = some (.lst ws) ∧ DenL K G' ws ds' ∧ G' Dl = none ∧ H' Dl = some (.lst acc) ∧ DenL K G' acc done ∧ done.length = n ∧
    done ++ (mixF f ds'.length ds' ns').1 = (mixF f ds.length ds ns).1 ∧ (mixF f ds'.length ds' ns').2 = (mixF f ds.length ds ns).2) ?_ ?_ ?_
  · refine ⟨G0, ns, ds, ys, [], [], (Step.refl E.sub |>.mut (Gone.none hp) gp (LstAt.none hp)).mut (Gone.none hD0) gD (LstAt.none hD), (kb0.mut fun _ => np).mut fun _ => nD, hP, rfl, gp, by rw [upd_ne hpD, upd_same], hdl, gD, upd_same, .nil, rfl, rfl, rfl⟩
  · rintro n H' hlt ⟨G', ns', ds', ws, acc, done, s', k', hP', hlen, gp', hp', dw, gD', hD', da, hdn, ht, hns⟩
    have hpos : 0 < ds'.length := by omega
    obtain ⟨k0, hk0⟩ : ∃ k0, ds'.length = k0 + 1 := ⟨ds'.length - 1, by omega⟩
    have hwl := dw.length
    have hg' := hg (n := (ds'.length : Int)) (ns := ns') (by omega)
    have E' : EnvD K b (some ns') G' H' σ _ := E.step s' k'
    have E3 := ((E'.put (i := 2) (v := some (V.ref p)) rfl).put (i := 3) (v := none) rfl).put (i := 3) (v := some (V.int (0 + (n : Int)))) rfl
    have h2 : (((σ.set 2 (some (V.ref p))).set 3 none).set 3 (some (V.int (0 + (n : Int)))))[2]? = some (some (.ref p)) := by
      rw [List.getElem?_set_ne (by decide), List.getElem?_set_ne (by decide), List.getElem?_set_self (by omega)]
    have h0 : (((σ.set 2 (some (V.ref p))).set 3 none).set 3 (some (V.int (0 + (n : Int)))))[0]? = some (some (.ref b)) := by
      rw [List.getElem?_set_ne (by decide), List.getElem?_set_ne (by decide), List.getElem?_set_ne (by decide)]
      exact hb0
    refine ⟨wipe_ok (by decide) _ _, ?_⟩
    unfold tYes
    dsimp only []
    rw [if_pos rfl]
    refine ⟨_, h2, .inl ⟨rfl, ws, sq_of hp'⟩, ?_⟩
    refine ⟨_, h0, _, h2, p, ws, rfl, .inl (sq_of hp'), ?_⟩
    refine ⟨b, G', some ns', [.bag, .imm (.int (ds'.length : Int))], .int (f ds'.length ns').1, some (f ds'.length ns').2, s'.s, E'.tabs, k', .cons rfl (.cons (by rw [hwl]; exact .int _) .nil), hR hP' (by omega) (by omega), rfl, fun v G4 H4 s4 k4 d4 => ?_⟩
    cases d4
    have hp4 : H4 p = some (.lst ws) := s4.keep p _ (fun _ => np) NoT.lst hp'
    have gp4 : G4 p = none := s4.fresh p _ gp' NoT.lst hp'
    have hD4 : H4 Dl = some (.lst acc) := s4.keep Dl _ (fun _ => nD) NoT.lst hD'
    have gD4 : G4 Dl = none := s4.fresh Dl _ gD' NoT.lst hD'
    have hi : (f ds'.length ns').1.toNat < ws.length := by omega
    have hid : (f ds'.length ns').1.toNat < ds'.length := by omega
    obtain ⟨e, he1, he2⟩ := (dw.mono s4.g).get (List.getElem?_eq_getElem hi)
    refine ⟨p, ws, (f ds'.length ns').1, (f ds'.length ns').1.toNat, ws[(f ds'.length ns').1.toNat], rfl, rfl, hp4, by omega, by omega, seqIx (by omega) (by omega), List.getElem?_eq_getElem hi, ?_⟩
    have hal := da.length
    have hu : mixF f ds'.length ds' ns' = (ds'.getD (f ds'.length ns').1.toNat .none :: (mixF f k0 (ds'.eraseIdx (f ds'.length ns').1.toNat) (f ds'.length ns').2).1, (mixF f k0 (ds'.eraseIdx (f ds'.length ns').1.toNat) (f ds'.length ns').2).2) := by
      conv => lhs; rw [hk0]
      rw [mixF]
    have e2 : (ds'.eraseIdx (f ds'.length ns').1.toNat).length = k0 := by rw [List.length_eraseIdx, if_pos hid]; omega
    refine ⟨acc, by rw [upd_ne (Ne.symm hpD)]; exact hD4, sz_lt (by omega), ?_⟩
    refine ⟨G4, (f ds'.length ns').2, ds'.eraseIdx (f ds'.length ns').1.toNat, ws.eraseIdx (f ds'.length ns').1.toNat, acc ++ [ws[(f ds'.length ns').1.toNat]], done ++ [e], ((s'.trans s4).mut (Gone.none hp) gp4 (LstAt.of hp4)).mut (Gone.none hD0) gD4 (LstAt.of (by rw [upd_ne (Ne.symm hpD)]; exact hD4)), (k4.mut fun _ => np).mut fun _ => nD, hs hP' (by omega), ?_, gp4, by rw [upd_ne hpD, upd_same], (dw.mono s4.g).erase _, gD4, upd_same, (da.mono s4.g).append (.cons he2 .nil), by rw [List.length_append, hdn]; rfl, ?_, ?_⟩
    · rw [List.length_eraseIdx, if_pos hid]
      omega
    · rw [← ht, hu]
      have e1 : ds'.getD (f ds'.length ns').1.toNat .none = e := by rw [List.getD_eq_getElem?_getD, he1]; rfl
      rw [e1, e2, List.append_assoc]
      rfl
    · rw [← hns, hu, e2]
  · rintro H' ⟨G', ns', ds', ws, acc, done, s', k', hP', hlen, gp', hp', dw, gD', hD', da, hdn, ht, hns⟩
    have hnil : ds' = [] := List.length_eq_zero_iff.mp (by omega)
    subst hnil
    have ht : done ++ [] = (mixF f ds.length ds ns).1 := ht
    have hns : ns' = (mixF f ds.length ds ns).2 := hns
    refine lc_end (j := 0) (ρ := []) (β3 := some (mixF f ds.length ds ns).2) (tt := tYes) (te := tVar 0) (m := true) E.sub hD0 (fun _ => nD) ⟨G', some ns', done, [], acc, s', k', rfl, gD', hD', da, ht, ?_⟩ fun v G'' H'' s'' k'' dv => k v G'' H'' s'' k'' dv
    rw [hns]
    exact .nil _ _
theorem upd_upd {H : Hp} {p : Addr} {o o' : HO} : upd (upd H p o) p o' = upd H p o' := by
  funext q
  by_cases z : q = p
  · rw [z, upd_same, upd_same]
  · rw [upd_ne z, upd_ne z, upd_ne z]
theorem d_disp1 {i j : Int} : EvB K (tDisp [(tC (.int i), tC (.int j))]) ρ β (.dict []) β := by
  refine ⟨rfl, fun b G H σ Q E k => ?_⟩
  intro p hp
  refine ⟨upd_same, [(Sum.inl i, .int j)], rfl, by show 1 ≤ 15; decide, ?_⟩
  rw [upd_upd]
  have n := Step.new (b := b) (m := false) (o := .dK (mergeK [] [(Sum.inl i, V.int j)])) E.sub hp
  exact k (.ref p) _ _ n.up (E.bagk.same n) (.dct upd_same)
end
/-- a method's reading, told over the fragment by name -/
theorem pe_castBM {X : Cx} {K : PySem.W.Frag} {e : Expr} {T : String} {r : V → List V → Hp → VK → Prop} {to : TE} {t : TA} (h : PE X e (tBM X.K T r to t)) (hK : X.K = K := by rfl) : PE X e (tBM K T r to t) := hK ▸ h
end TD
/-! ## TdS -/
set_option Elab.async false
set_option linter.all false
set_option maxRecDepth 100000
set_option maxHeartbeats 3000000
/-! sorted of tuples of ints that may be below 0. -/
namespace TDS
open TS PySem PyProof.Rows
def shI (S : Int) (ns : List Int) : List Int := ns.map (· + S)
/-- where a tuple stands among the others -/
def cd (S B : Int) (ns : List Int) : Int := code B (shI S ns)
section
variable {prog : Program} {w : World} {s : Shared} {A : Around} {E : Value → Shared → Prop}
theorem lexS {S B : Int} {b : Bool} {Q : Bool → Shared → Prop} : ∀ {xs ys : List Value} {ns ms : List Int} (i : Nat), IntsAre xs ns → IntsAre ys ms → ns.length = ms.length → Bd B (shI S ns) → Bd B (shI S ms) →
    Q (decide (cd S B ns < cd S B ms)) s → PySem.W.KatLex prog w A b false Q (xs.zip ys) i s
  | _, _, _, _, i, .nil, .nil, _, _, _, h => PySem.W.kat_nil (by
      have e : decide (cd S B [] < cd S B []) = false := decide_eq_false (Int.lt_irrefl _)
      rw [e] at h
      exact h)
  | _, _, _, _, i, .nil, .cons _ _ _, hl, _, _, _ => by simp at hl
  | _, _, _, _, i, .cons _ _ _, .nil, hl, _, _, _ => by simp at hl
  | _, _, _, _, i, @IntsAre.cons p t xs ns hx, @IntsAre.cons q u ys ms hy, hl, h1, h2, h => by
    have hl2 := Nat.succ.inj hl
    have hs : (shI S ns).length = (shI S ms).length := by unfold shI; rw [List.length_map, List.length_map, hl2]
    by_cases e : p = q
    · subst e
      have d : decide (cd S B (p :: ns) < cd S B (p :: ms)) = decide (cd S B ns < cd S B ms) := decide_eq_decide.mpr (code_same hs)
      rw [d] at h
      exact PySem.W.kat_cons (wpAny_eqBool_int (by rw [beq_self_eq_true]; exact PySem.W.kat_yes (lexS (i + 1) hx hy hl2 h1.tail h2.tail h)))
    · have up : p < q → cd S B (p :: ns) < cd S B (q :: ms) := fun x => code_lt hs h1.tail h2.tail (show p + S < q + S by omega)
      have down : q < p → cd S B (q :: ms) < cd S B (p :: ns) := fun x => code_lt hs.symm h2.tail h1.tail (show q + S < p + S by omega)
      have d : decide (cd S B (p :: ns) < cd S B (q :: ms)) = decide (p < q) := decide_eq_decide.mpr ⟨fun x => Int.not_le.mp fun y => absurd (down (by omega)) (by omega), up⟩
      rw [d] at h
      exact PySem.W.kat_cons (wpAny_eqBool_int (by rw [beq_eq_false_iff_ne.mpr e]; exact PySem.W.kat_no (oneLt_ints _ h)))
/-- tuples of d ints each, at least -S and below B - S -/
def OkS (h : Heap) (d : Nat) (S B : Int) (vs : List Value) : Prop := ∀ v, v ∈ vs → ∃ ns, TupInts h v ns ∧ ns.length = d ∧ Bd B (shI S ns)
theorem OkS.keeps {h h' : Heap} {d : Nat} {S B : Int} {vs : List Value} (x : OkS h d S B vs) (k : ∀ b o, h.get? b = some o → o.cls = .type "tuple" → h'.get? b = some o) : OkS h' d S B vs := fun v hv => by
  obtain ⟨ns, t, r⟩ := x v hv
  exact ⟨ns, t.keeps k, r⟩
theorem firstsS {h : Heap} {d : Nat} {S B : Int} (hd : 1 ≤ d) : ∀ vs : List Value, OkS h d S B vs → ∃ fs, PySem.W.KatTups h vs fs ∧ fs.length = vs.length ∧ ∀ f ∈ fs, ∃ n t, f = Value.int n t
  | [], _ => ⟨[], .nil, rfl, fun _ hf => by cases hf⟩
  | v :: vs, x => by
    obtain ⟨fs, k, hl, hi⟩ := firstsS hd vs fun u hu => x u (List.mem_cons_of_mem _ hu)
    obtain ⟨ns, ⟨a, xs, rfl, ⟨o, ho, hc, n, hdt⟩, i⟩, hn, _⟩ := x v List.mem_cons_self
    have hlen := i.length
    cases q : xs.toList with
    | nil => rw [q] at hlen; simp at hlen; omega
    | cons y ys =>
      obtain ⟨m, t, hy⟩ := i.all y (by rw [q]; exact List.mem_cons_self)
      have h0 : xs[0]? = some y := by rw [← Array.getElem?_toList, q]; rfl
      exact ⟨y :: fs, .cons ho hc hdt h0 k, by simp [hl], fun f hf => (List.mem_cons.mp hf).elim (fun e => e ▸ ⟨m, t, hy⟩) (hi f)⟩
theorem kindS {d : Nat} {S B : Int} {vs : List Value} (hd : 1 ≤ d) (h2 : 2 ≤ vs.length) (x : OkS s.heap d S B vs) (Q : SortKind → Shared → Prop)
    (r : Value → Int) (hr : ∀ v ∈ vs, ∀ ns, TupInts s.heap v ns → r v = cd S B ns) (h : ∀ κ, Cmp prog w A s κ (pairsOf vs) r → Q κ s) : wpAny (model prog w) A (keyKind' vs.toArray) Q E s := by
  obtain ⟨fs, k, hl, hi⟩ := firstsS hd vs x
  refine PySem.W.kat_kind (T := Value.type "int") k (by omega) (fun f hf => by obtain ⟨i, tk, e⟩ := hi f hf; rw [e]; exact PySem.W.Looks.of_pure rfl) rfl (h _ ?_)
  intro p q hp hq Q' E' hQ
  rw [pairsOf_toList] at hp hq
  have mp : p.1 ∈ vs := (mem_zip_self hp).2
  have mq : q.1 ∈ vs := (mem_zip_self hq).2
  obtain ⟨ns, tp, lp, bp⟩ := x _ mp
  obtain ⟨ms, tq, lq, bq⟩ := x _ mq
  rw [hr _ mp ns tp, hr _ mq ms tq] at hQ
  obtain ⟨a, xs, e1, ⟨o, ho, _, n, hdt⟩, i⟩ := tp
  obtain ⟨a', ys, e2, ⟨o', ho', _, n', hdt'⟩, i'⟩ := tq
  have sz : decide (xs.size < ys.size) = false := decide_eq_false (by have l1 := i.length; have l2 := i'.length; rw [Array.length_toList] at l1; rw [Array.length_toList] at l2; omega)
  rw [e1, e2]
  exact PySem.W.kat_lt ho hdt ho' hdt' (by rw [sz]; exact lexS 0 i i' (by omega) bp bq hQ)
/-- xs.sort(), then the list again -/
theorem sortS {a : Addr} {vs : List Value} {n d : Nat} {S B : Int} {Q : Value → Shared → Prop} (ho : s.heap.get? a = some (seqObj "list" vs.toArray n)) (h64 : vs.length < 64) (hd : 1 ≤ d) (x : OkS s.heap d S B vs)
    (h : ∀ out : Array Value, out.toList.Perm vs → out.toList.Pairwise (fun u v => cd S B (intsOf s.heap u) ≤ cd S B (intsOf s.heap v)) → Q .none { s with heap := sortedHeap s.heap a vs out }) : wpAny (model prog w) A (call (.builtin "list.sort") [.ref a]) Q E s := by
  have other : ∀ b o, s.heap.get? b = some o → o.cls = .type "tuple" → b ≠ a := fun b o e hc z => by
    rw [z, ho] at e
    cases e
    exact absurd hc (by show ¬ Value.type "list" = Value.type "tuple"; decide)
  have mid := x.keeps (h' := midHeap s.heap a vs) fun b o e hc => midHeap_old (other b o e hc) e
  refine wpAny_call_entry slot_list_sort ⟨_, ho, rfl⟩ entry_list_sort (SK.plain_sort (r := fun v => cd S B (intsOf s.heap v)) ho h64 (fun h2 Q' hQ => kindS (s := { s with heap := midHeap s.heap a vs }) hd h2 mid Q' _ (fun v hv ns t => ?_) hQ) fun ps out h1 h2 h3 => ?_) (args_list_sort _)
  · obtain ⟨ns0, t0, -⟩ := x v hv
    have same := t.ints.symm.trans (t0.keeps (h' := midHeap s.heap a vs) fun b o e hc => midHeap_old (other b o e hc) e).ints
    show cd S B (intsOf s.heap v) = cd S B ns
    rw [t0.ints, same]
  · have r := out_rank (r := fun v => cd S B (intsOf s.heap v)) h1 h2 h3
    exact ⟨_, rfl, h out r.1 r.2⟩
/-- what holds of the tuples before a list is laid behind them, holds after -/
theorem OkS.push {h h' : Heap} {d : Nat} {S B : Int} {vs : List Value} (x : OkS h d S B vs) (old : ∀ b o, h.get? b = some o → h'.get? b = some o) : OkS h' d S B vs ∧ ∀ v ∈ vs, intsOf h' v = intsOf h v :=
  ⟨x.keeps fun b o q _ => old b o q, fun v hv => by obtain ⟨ns, t, _⟩ := x v hv; rw [t.ints, (t.keeps fun b o q _ => old b o q).ints]⟩
theorem sortedS {l : Addr} {vs : List Value} {d : Nat} {S B : Int} {Q : Value → Shared → Prop} (hl : s.heap.IsList l vs.toArray) (h64 : vs.length < 64) (hd : 1 ≤ d) (x : OkS s.heap d S B vs)
    (h : ∀ out : Array Value, out.toList.Perm vs → out.toList.Pairwise (fun u v => cd S B (intsOf s.heap u) ≤ cd S B (intsOf s.heap v)) → Q (.ref (s.heap.objs.size + 1)) { s with heap := sortedAll s.heap vs out }) : wpAny (model prog w) A (call (.builtin "sorted") [.ref l]) Q E s := by
  have few : vs.length ≤ sizeLine := by rw [sizeLine_eq]; omega
  refine Calls.call_function_entry kind_sorted plain_sorted entry_sorted (args_sorted1 _) (show wpAny _ _ (Builtin.«sorted» _) _ _ _ from ?_)
  unfold Builtin.«sorted»
  refine wpAny_bind (m := checkCount "sorted" 1 1 _) (wpAny_pure (wpAny_bind (collect_list hl (wpAny_bind (wpAny_newList ?_ few)) few)))
  have hsz : ((s.heap.push (seqObj "list" #[] 0)).update s.heap.objs.size (Obj.mapSeq (· ++ vs.toArray))).objs.size = s.heap.objs.size + 1 := by rw [Heap.size_update, size_push']
  generalize hm : (s.heap.push (seqObj "list" #[] 0)).update s.heap.objs.size (Obj.mapSeq (· ++ vs.toArray)) = hp at *
  have old : ∀ b o, s.heap.get? b = some o → (hp.push (seqObj "list" vs.toArray 0)).get? b = some o := fun b o q => by
    have lt := Heap.lt_size q
    rw [Heap.get?_push_ne _ _ _ (by rw [hsz]; exact Nat.ne_of_lt (Nat.lt_succ_of_lt lt)), ← hm, Heap.get?_update_ne _ _ _ _ (Nat.ne_of_lt lt), Heap.get?_push_ne _ _ _ (Nat.ne_of_lt lt), q]
  have at1 : (hp.push (seqObj "list" vs.toArray 0)).get? (s.heap.objs.size + 1) = some (seqObj "list" vs.toArray 0) := by rw [← hsz]; exact Heap.get?_push_size _ rfl
  show wpAny _ _ _ _ _ { s with heap := hp.push (seqObj "list" vs.toArray 0) }
  rw [hsz]
  obtain ⟨x', same⟩ := x.push old
  refine wpAny_bind (wpAny_holding (sortS (s := { s with heap := hp.push (seqObj "list" vs.toArray 0) }) at1 h64 hd x' fun out p1 p2 => wpAny_pure ⟨_, rfl, ?_⟩))
  have q := h out p1 (p2.imp_of_mem fun {u v} hu hv q => by rw [← same u (p1.mem_iff.mp hu), ← same v (p1.mem_iff.mp hv)]; exact q)
  rw [show sortedAll s.heap vs out = sortedHeap (hp.push (seqObj "list" vs.toArray 0)) (s.heap.objs.size + 1) vs out by rw [← hm]; rfl] at q
  exact q
end
end TDS

namespace TDS
open TS L2 PySem PySem.Spec PyProof.Rows
theorem perm_map {α γ : Type} {f : α → γ} : ∀ {l m : List γ}, l.Perm m → ∀ L : List α, m = L.map f → ∃ L' : List α, L'.Perm L ∧ l = L'.map f := by
  intro l m h
  induction h with
  | nil => exact fun L e => ⟨[], by
      have : L = [] := List.map_eq_nil_iff.mp e.symm
      rw [this], rfl⟩
  | @cons x l1 l2 _ ih =>
    intro L e
    cases L with
    | nil => cases e
    | cons a L2 =>
      rw [List.map_cons] at e
      injection e with e1 e2
      obtain ⟨L', h1, h2⟩ := ih L2 e2
      exact ⟨a :: L', h1.cons a, by rw [List.map_cons, e1, h2]⟩
  | swap x y l =>
    intro L e
    match L, e with
    | a :: b :: L2, e =>
      rw [List.map_cons] at e; rw [List.map_cons] at e
      injection e with e1 e2
      injection e2 with e2 e3
      exact ⟨b :: a :: L2, .swap a b L2, by rw [List.map_cons, List.map_cons, e1, e2, e3]⟩
  | trans _ _ ih1 ih2 =>
    intro L e
    obtain ⟨L2, h1, h2⟩ := ih2 L e
    obtain ⟨L1, h3, h4⟩ := ih1 L2 h2
    exact ⟨L1, h3.trans h1, h4⟩
section
variable {P : Program} {w : World} {A : Around} {s : Shared} {E : Value → Shared → Prop}
theorem sorted_setS {a : Addr} {L : List (Addr × List Int)} {es : Array (Int × Value)} {ep : Nat} {t : SetTable} {Q : Value → Shared → Prop} (R : SetTR P w s.heap a L es ep t) (hh : A.handled = none)
    {d : Nat} {S B : Int} (hd1 : 1 ≤ d) (hB : ∀ p ∈ L, p.2.length = d ∧ Bd B (shI S p.2))
    (hQ : ∀ s' p (out : Array Value) (c : Nat) (L' : List (Addr × List Int)), (∀ b o, s.heap.get? b = some o → s'.heap.get? b = some o) ∧ s'.gens = s.gens ∧ s'.os = s.os ∧ s.heap.objs.size ≤ p ∧
      s'.heap.get? p = some (seqObj "list" out c) ∧ out.toList = L'.map (fun q => Value.ref q.1) ∧ L'.Perm L ∧ L'.Pairwise (fun q r => cd S B q.2 ≤ cd S B r.2) → Q (.ref p) s') : wpAny (model P w) A (call (.builtin "sorted") [.ref a]) Q E s := by
  obtain ⟨ob, at_, ex, dt⟩ := R.ob
  have few := R.few
  have small := R.size
  refine Calls.call_function_entry kind_sorted plain_sorted entry_sorted (args_sorted1 _) (show wpAny _ _ (Builtin.«sorted» _) _ _ _ from ?_)
  unfold Builtin.«sorted»
  refine wpAny_bind (m := checkCount "sorted" 1 1 _) (wpAny_pure (wpAny_bind (collect_set (A := A.in1) hh ⟨ob, at_, ex.1, dt⟩ R.fits (by unfold scanBound; omega) R.tab.ris R.led fun s1 vs k1 hz g1 o1 pm => ?_)))
  rw [show es.toList.map (·.2) = L.map (fun q => Value.ref q.1) by rw [R.rows]; unfold rowsOf; rw [List.map_map] <;> rfl] at pm
  have len : vs.length < 64 := by rw [pm.length_eq, List.length_map]; omega
  refine wpAny_bind (wpAny_newList (show wpAny _ _ _ _ _ { s1 with heap := s1.heap.push (seqObj "list" vs.toArray 0) } from ?_) (by rw [sizeLine_eq]; omega))
  have tk : ∀ q ∈ L, TupInts (s1.heap.push (seqObj "list" vs.toArray 0)) (.ref q.1) q.2 := fun q hq => tupInts_of (P := P) (w := w) (isT_keep (R.tup q hq) fun b u e => Heap.get?_push_of_some _ (k1 b u e))
  have x : OkS (s1.heap.push (seqObj "list" vs.toArray 0)) d S B vs := fun v hv => by
    obtain ⟨q, hq, rfl⟩ := List.mem_map.mp (pm.mem_iff.mp hv)
    exact ⟨q.2, tk q hq, hB q hq⟩
  have at0 : (s1.heap.push (seqObj "list" vs.toArray 0)).get? s1.heap.objs.size = some (seqObj "list" vs.toArray 0) := Heap.get?_push_size _ rfl
  refine wpAny_bind (wpAny_holding (sortS (s := { s1 with heap := s1.heap.push (seqObj "list" vs.toArray 0) }) at0 len hd1 x fun out a1 a2 => wpAny_pure ⟨_, rfl, ?_⟩))
  obtain ⟨c, hc⟩ := sortedHeap_at (vs := vs) (out := out) at0
  obtain ⟨L', pL, eL⟩ := perm_map (a1.trans pm) L rfl
  refine hQ _ s1.heap.objs.size out c L' ⟨fun b u e => ?_, g1, o1, hz, hc, eL, pL, ?_⟩
  · have kept := k1 b u e
    have lt := Heap.lt_size kept
    exact (sortedHeap_old (Nat.ne_of_lt lt) (by rw [size_push']; exact Nat.lt_succ_of_lt lt)).trans (Heap.get?_push_of_some _ kept)
  · rw [eL, List.pairwise_map] at a2
    exact a2.imp_of_mem fun {q r} hq hr hle => by rw [← (tk q (pL.mem_iff.mp hq)).ints, ← (tk r (pL.mem_iff.mp hr)).ints]; exact hle
end
section
variable {X : Cx}
/-- sorted(set), the set of tuples of d ints, at least -S and below B - S -/
def rSortedS (K : PySem.W.Frag) (P : Program) (w : World) : List V → Hp → VK → Prop := fun vs H Q => ∃ (a : Addr) (L : List (Addr × List Int)) (d : Nat) (S B : Int), vs = [V.ref a] ∧ H a = some (SetTO P w a L) ∧ (∀ p ∈ L, SqT K H p.1 (p.2.map V.int)) ∧ 1 ≤ d ∧
  (∀ p ∈ L, p.2.length = d ∧ Bd B (shI S p.2)) ∧
  ∀ (L' : List (Addr × List Int)) (p : Addr), L'.Perm L → (L'.map (·.2)).Nodup → L'.length < 64 → L'.Pairwise (fun q r => cd S B q.2 ≤ cd S B r.2) → H p = none → Q (.ref p) (upd H p (.lst (L'.map fun q => V.ref q.1)))
theorem shared_eq {s s' : Shared} (h : s'.os = s.os) : s' = { s with heap := s'.heap, gens := s'.gens, drawn := s'.drawn, toks := s'.toks } := by
  cases s; cases s'; cases h; rfl
theorem cr_sortedS (hc : X.calm = true) : CallR X (.builtin "sorted") (rSortedS X.K X.prog X.w) := fun pins s σ H vs us Q I r h => by
  obtain ⟨a, L, d, S, B, rfl, ha, hk, hd, hB, q⟩ := h
  obtain ⟨es, ep, t, R⟩ := SetT0.full (I.hok a _ ha).1 fun p hp => I.isT (hk p hp)
  rw [Vals.ref1 r]
  refine sorted_setS R (I.ok.hd hc) hd hB fun s' p out c L' z => ?_
  obtain ⟨old, eg, eo, free, at_, eout, perm, up⟩ := z
  have len : L'.length < 64 := by have := R.few; rw [perm.length_eq]; exact this
  have none_ : H p = none := I.hok.fresh free
  rw [shared_eq eo]
  have vals : Vals (L'.map fun z => V.ref z.1) out.toList := by rw [eout]; exact vals_of_refs L'
  have J : Inv X pins σ (upd H p (.lst (L'.map fun z => V.ref z.1))) { s with heap := s'.heap, gens := s'.gens, drawn := s'.drawn, toks := s'.toks } := I.call (ch := []) (Un.laid old free none_) (I.hok.laid old free ⟨by rw [List.length_map, sizeLine_eq]; omega, out.toList, c, vals, at_⟩) (by rw [eg]; exact I.bare) fun _ z => nomatch z
  exact ⟨.ref p, _, J, rfl, q L' p perm ((perm.map (·.2)).nodup_iff.mpr R.nd) len up none_⟩
/-- sorted(xs), xs a list of fewer than 64 such tuples -/
def rSortS (K : PySem.W.Frag) (d : Nat) (S B : Int) : List V → Hp → VK → Prop := fun vs H Q => ∃ (a : Addr) (xs : List V), vs = [V.ref a] ∧ SqL K H a xs ∧ xs.length < 64 ∧ (∀ x ∈ xs, ∃ ns, TupI K H x ns ∧ ns.length = d ∧ Bd B (shI S ns)) ∧
  ∀ (ys : List V) (p : Addr), ys.Perm xs → ys.Pairwise (fun x y => ∀ n m, TupI K H x n → TupI K H y m → cd S B n ≤ cd S B m) → H p = none → Q (.ref p) (upd H p (.lst ys))
theorem cr_sortS {d : Nat} {S B : Int} (hd : 1 ≤ d) : CallR X (.builtin "sorted") (rSortS X.K d S B) := fun pins s σ H vs us Q I r h => by
  obtain ⟨a, xs, rfl, hs, len, hx, q⟩ := h
  obtain ⟨its, vals, hl, hz⟩ := I.list hs
  rw [Vals.ref1 r]
  obtain ⟨back, refs⟩ := bkV_refs vals fun x m => (hx x m).elim fun _ z => z.1.elim fun t e => ⟨t, e.1⟩
  have raw : ∀ {v : Value} {ns : List Int}, TupI X.K H (bkV v) ns → TupInts s.heap v ns := fun {v ns} z => z.elim fun t e => bkV_ref e.1 ▸ tupI_raw I e.2
  refine sortedS (d := d) (S := S) (B := B) hl.isList (by rw [← vals.length]; exact len) hd (fun v hv => ?_) fun out perm up => ?_
  · obtain ⟨ns, t, z⟩ := hx (bkV v) (by rw [back]; exact List.mem_map_of_mem hv)
    exact ⟨ns, raw t, z⟩
  · obtain ⟨ep, at_⟩ := PyProof.Rows.sortedAll_at s.heap its out
    have pm : (out.toList.map bkV).Perm xs := by rw [back]; exact perm.map bkV
    refine ⟨.ref _, upd H (s.heap.objs.size + 1) (.lst (out.toList.map bkV)), I.laid (t' := s.toks) (fun _ _ => PyProof.Rows.sortedAll_old) (Nat.le_succ _) ⟨by rw [pm.length_eq]; exact hz, out.toList, ep, bkV_vals fun u hu => refs u (perm.mem_iff.mp hu), at_⟩, rfl, q _ _ pm (List.pairwise_map.mpr (up.imp fun {u v} z n m hn hm => ?_)) (I.hok.fresh (Nat.le_succ _))⟩
    rw [← (raw hn).ints, ← (raw hm).ints]
    exact z
end
end TDS
/-! ## TdU -/
set_option Elab.async false
set_option linter.all false
set_option maxRecDepth 100000
set_option maxHeartbeats 3000000
/-! sorted(set(..)), sorted(..) of triples, not in a tuple of tuples, a list taken apart. -/
namespace TD
open PySem L2 PySem.Spec PyProof.Rows
open Evl (Ex ex_l ex_t fresh_back sq_of st_of sz_of sz_lt)
section
variable {X : Cx}
def rNotInT (K : PySem.W.Frag) : R2 := fun x y H Q => ∃ d ds, Dp K H x d ∧ Dp K H y (.tuple ds) ∧ SeqAt.shaped d = true ∧ SeqAt.shaped (.tuple ds) = true ∧ Q (.bl (!ds.any fun z => PyData.eqv z d)) H
theorem op_notInT {K : PySem.W.Frag} (hu : X.A.units + 65 < cLine) (hK : X.K = K := by rfl) : OpR X (compareOp .NotIn) (rNotInT K) := by
  subst hK
  rintro pins s σ H x y v u Q I rx ry ⟨d, ds, hd, he, sd, se, q⟩
  obtain ⟨_, r1⟩ := Dp.reads I d x v hd rx
  obtain ⟨_, r2⟩ := Dp.reads I (.tuple ds) y u he ry
  exact SeqAt.notIn_tuple_reads r2 r1 (SeqAt.canLay_of_shaped se) (SeqAt.canLay_of_shaped sd) (room_in_shaped sd hu) ⟨.bl _, H, I, rfl, q⟩
end
section
variable [TabW] {K : PySem.W.Frag} {b : Addr} {ρ ρ' ρ1 : Rho} {β β1 β2 β3 : Bag} {ta tb te tc : TE} {x y z d : Dt} {G H G1 H1 G2 H2 : Hp} {σ : L2.St}
theorem d_notInT {ds : List Dt} (hx : EvB K ta ρ β x β1) (hy : EvB K tb ρ β1 (.tuple ds) β2) (fx : flatD x = true) (fy : flatL ds = true) (sx : SeqAt.shaped x = true) (sy : SeqAt.shaped (.tuple ds) = true) : EvB K (tOp (rNotInT K) ta tb) ρ β (.bool (!ds.any fun z => PyData.eqv z x)) β2 :=
  d_op hx hy fun b G H v w Q e h1 h2 k => ⟨x, ds, h1.dp e fx, h2.dp e (by unfold flatD; exact fy), sx, sy, k _ G H (Step.refl e) (.bl _)⟩
theorem st_unpackL {is : List Nat} {n : Nat} {ds : List Dt} (h : EvB K te ρ β (.list ds) β1) (hn : ds.length = n) (hi : is.length = n) : StB K (tAsg te (gUnl K n (gNames is))) ρ β (.nx (setR ρ is ds)) β1 := ⟨h.som, fun b G H σ D E k => h.run b G H σ _ E fun v G1 H1 s1 k1 d1 => by
  cases d1 with
  | @lst a xs _ hs hd =>
    refine ⟨a, xs, rfl, sq_of (s1.s _ _ hs), by rw [hd.length]; exact hn, ?_⟩
    exact gNames_run hd (by rw [hd.length, hn, hi]) (E.step s1 k1) fun σ' E' => k σ' G1 H1 s1 E'⟩
abbrev tupJ (ns : List Int) : Dt := .tuple (ns.map PyData.int)
/-- the tuples' addresses -/
theorem DenL.refs : ∀ {xs : List V} {ns : List (List Int)}, DenL K G xs (ns.map tupJ) → ∃ ks : List (Addr × List Int), xs = ks.map (fun p => V.ref p.1) ∧ ns = ks.map (·.2) ∧ ∀ p ∈ ks, SqT K G p.1 (p.2.map V.int)
  | [], [], _ => ⟨[], rfl, rfl, fun _ h => by cases h⟩
  | [], _ :: _, h => nomatch h
  | _ :: _, [], h => nomatch h
  | x :: xs, n :: ns, .cons h1 h2 => by
    obtain ⟨ks, rfl, rfl, hk⟩ := DenL.refs h2
    cases h1 with
    | @tup a ys _ hs hd =>
      have := hd.ints
      subst this
      refine ⟨(a, n) :: ks, rfl, rfl, fun p hp => ?_⟩
      obtain rfl | hp := List.mem_cons.mp hp
      · exact hs
      · exact hk p hp
theorem DenL.of_refs : ∀ {ks : List (Addr × List Int)}, (∀ p ∈ ks, SqT K G p.1 (p.2.map V.int)) → DenL K G (ks.map fun p => V.ref p.1) ((ks.map (·.2)).map tupJ)
  | [], _ => .nil
  | p :: ks, h => .cons (.tup (h p List.mem_cons_self) (DenL.of_ints p.2)) (DenL.of_refs fun q hq => h q (List.mem_cons_of_mem _ hq))
end
/-! ### one order -/
theorem code_inj {B : Int} : ∀ {xs ys : List Int}, xs.length = ys.length → TS.Bd B xs → TS.Bd B ys → TS.code B xs = TS.code B ys → xs = ys
  | [], [], _, _, _, _ => rfl
  | [], _ :: _, h, _, _, _ => by simp at h
  | _ :: _, [], h, _, _, _ => by simp at h
  | x :: xs, y :: ys, hl, h1, h2, e => by
    have hl' : xs.length = ys.length := by simpa using hl
    rcases Int.lt_trichotomy x y with c | c | c
    · have := TS.code_lt hl' h1.tail h2.tail c; omega
    · subst c
      have e1 : ¬ TS.code B xs < TS.code B ys := fun z => by have := (TS.code_same (B := B) (d := x) hl').mpr z; omega
      have e2 : ¬ TS.code B ys < TS.code B xs := fun z => by have := (TS.code_same (B := B) (d := x) hl'.symm).mpr z; omega
      rw [code_inj hl' h1.tail h2.tail (by omega)]
    · have := TS.code_lt hl'.symm h2.tail h1.tail c; omega
theorem sh_inj {S : Int} {xs ys : List Int} (h : TDS.shI S xs = TDS.shI S ys) : xs = ys := by
  have : ∀ {xs ys : List Int}, TDS.shI S xs = TDS.shI S ys → xs = ys := by
    intro xs
    induction xs with
    | nil => intro ys h; cases ys with
      | nil => rfl
      | cons => cases h
    | cons x xs ih => intro ys h; cases ys with
      | nil => cases h
      | cons y ys =>
        unfold TDS.shI at h
        rw [List.map_cons] at h; rw [List.map_cons] at h
        injection h with h1 h2
        rw [ih h2, show x = y by omega]
  exact this h
/-- what may be sorted here -/
def OkT (ns : List Int) : Prop := ns.length = 3 ∧ TS.Bd 2001 (TDS.shI 1000 ns)
theorem cd_inj {x y : List Int} (hx : OkT x) (hy : OkT y) (h : TDS.cd 1000 2001 x = TDS.cd 1000 2001 y) : x = y :=
  sh_inj (code_inj (by unfold TDS.shI; rw [List.length_map, List.length_map, hx.1, hy.1]) hx.2 hy.2 h)
def leT (x y : List Int) : Bool := decide (TDS.cd 1000 2001 x ≤ TDS.cd 1000 2001 y)
def sortL (ns : List (List Int)) : List (List Int) := ns.mergeSort leT
theorem sortL_perm (ns : List (List Int)) : (sortL ns).Perm ns := List.mergeSort_perm ns leT
theorem sortL_uniq {ns rs : List (List Int)} (ho : ∀ x ∈ ns, OkT x) (hp : rs.Perm ns) (hs : rs.Pairwise fun x y => TDS.cd 1000 2001 x ≤ TDS.cd 1000 2001 y) : rs = sortL ns := by
  refine List.Perm.eq_of_pairwise (le := fun x y => TDS.cd 1000 2001 x ≤ TDS.cd 1000 2001 y) (fun x y hx hy h1 h2 => cd_inj (ho x (hp.mem_iff.mp hx)) (ho y ((sortL_perm ns).mem_iff.mp hy)) (by omega)) hs ?_ (hp.trans (sortL_perm ns).symm)
  refine (List.pairwise_mergeSort (le := leT) (fun a b c h1 h2 => ?_) (fun a b => ?_) ns).imp fun h => of_decide_eq_true h
  · have h1 := of_decide_eq_true h1
    have h2 := of_decide_eq_true h2
    apply decide_eq_true; omega
  · unfold leT
    simp only [Bool.or_eq_true, decide_eq_true_eq]
    omega
/-- the members, once each -/
def once : List (List Int) → List (List Int)
  | [] => []
  | x :: xs => if x ∈ once xs then once xs else x :: once xs
theorem once_mem {x : List Int} : ∀ {xs : List (List Int)}, x ∈ once xs ↔ x ∈ xs
  | [] => Iff.rfl
  | y :: xs => by
    unfold once
    split
    · rename_i h
      rw [once_mem, List.mem_cons]
      constructor
      · exact .inr
      · rintro (rfl | h')
        · exact once_mem.mp h
        · exact h'
    · rw [List.mem_cons, List.mem_cons, once_mem]
theorem once_nodup : ∀ xs : List (List Int), (once xs).Nodup
  | [] => List.nodup_nil
  | y :: xs => by
    unfold once
    split
    · exact once_nodup xs
    · rename_i h
      exact List.nodup_cons.mpr ⟨h, once_nodup xs⟩
def sortU (ns : List (List Int)) : List (List Int) := sortL (once ns)
theorem sortU_mem {ns : List (List Int)} {x : List Int} : x ∈ sortU ns ↔ x ∈ ns := by
  unfold sortU
  rw [(sortL_perm _).mem_iff, once_mem]
theorem sortU_nodup (ns : List (List Int)) : (sortU ns).Nodup := (sortL_perm _).nodup_iff.mpr (once_nodup ns)
section
variable [TabW] {K : PySem.W.Frag} {P : Program} {w : World} {b : Addr} {ρ ρ' ρ1 : Rho} {β β1 β2 β3 : Bag} {ta tb te tc : TE} {x y z d : Dt} {G H G1 H1 G2 H2 : Hp} {σ : L2.St}
theorem d_sortSet {ns : List (List Int)} (h : EvB K te ρ β (.list (ns.map tupJ)) β1) (hl : ns.length < 64) (ho : ∀ x ∈ ns, OkT x) : EvB K (tCB (TDS.rSortedS K P w) (tCons (tCB (rSetOfT K P w) (tCons te tNil)) tNil)) ρ β (.list ((sortU ns).map tupJ)) β1 := by
  refine ⟨h.som, fun b G H σ Q E k => ?_⟩
  refine h.run b G H σ _ E fun v G1 H1 s1 k1 d1 => ?_
  cases d1 with
  | @lst a xs _ hs hd =>
    obtain ⟨ks, rfl, rfl, hk⟩ := hd.refs
    rw [List.length_map] at hl
    refine ⟨a, ks, rfl, sq_of (s1.s _ _ hs), fun p hp => ex_t s1.s (hk p hp), hl, fun c L hc hL1 hL2 => ?_⟩
    have n1 := Step.new (b := b) (m := false) (o := SetTO P w c L) s1.s hc (by intro _ z; cases z)
    have hkL : ∀ p ∈ L, SqT K G1 p.1 (p.2.map V.int) := fun p hp => hk p (hL1 p hp)
    refine ⟨c, L, 3, 1000, 2001, rfl, upd_same, fun p hp => ex_t n1.s (ex_t n1.g (hkL p hp)), by decide, fun p hp => ho p.2 (List.mem_map_of_mem (hL1 p hp)), fun L' p hp hnd hlt hpw hfr => ?_⟩
    have n2 := Step.new (b := b) (m := false) (o := .lst (L'.map fun q => V.ref q.1)) n1.s hfr
    have n := n1.trans n2
    have e : L'.map (·.2) = sortU (ks.map (·.2)) := by
      refine sortL_uniq (fun x hx => ho x (once_mem.mp hx)) ?_ (List.pairwise_map.mpr hpw)
      refine (List.perm_ext_iff_of_nodup hnd (once_nodup _)).mpr fun x => ?_
      rw [once_mem]
      constructor
      · intro hx
        obtain ⟨q, hq, rfl⟩ := List.mem_map.mp hx
        exact List.mem_map_of_mem (hL1 q (hp.mem_iff.mp hq))
      · intro hx
        obtain ⟨q, hq, rfl⟩ := List.mem_map.mp hx
        exact ((hp.map (·.2)).mem_iff).mpr (hL2 q hq)
    rw [← e] at k
    exact k (.ref p) _ _ (s1.trans n.up) (k1.same n) (.lst upd_same (DenL.mono n.g (DenL.of_refs fun q hq => hkL q (hp.mem_iff.mp hq))))
theorem d_sortT {ns : List (List Int)} (h : EvB K te ρ β (.list (ns.map tupJ)) β1) (hl : ns.length < 64) (ho : ∀ x ∈ ns, OkT x) : EvB K (tCB (TDS.rSortS K 3 1000 2001) (tCons te tNil)) ρ β (.list ((sortL ns).map tupJ)) β1 := by
  refine d_c1 h fun b G H v Q e dv k => ?_
  cases dv with
  | @lst a xs _ hs hd =>
    obtain ⟨ks, rfl, rfl, hk⟩ := hd.refs
    rw [List.length_map] at hl
    refine ⟨a, _, rfl, sq_of (e _ _ hs), by rw [List.length_map]; exact hl, fun x hx => ?_, fun ys p hp hpw hfr => ?_⟩
    · obtain ⟨q, hq, rfl⟩ := List.mem_map.mp hx
      exact ⟨q.2, ⟨q.1, rfl, ex_t e (hk q hq)⟩, (ho q.2 (List.mem_map_of_mem hq)).1, (ho q.2 (List.mem_map_of_mem hq)).2⟩
    · obtain ⟨L', pL, rfl⟩ := TDS.perm_map hp ks rfl
      have n := Step.new (b := b) (m := false) (o := .lst (L'.map fun q => V.ref q.1)) e hfr
      have hkL : ∀ q ∈ L', SqT K G q.1 (q.2.map V.int) := fun q hq => hk q (pL.mem_iff.mp hq)
      have e2 : L'.map (·.2) = sortL (ks.map (·.2)) := by
        refine sortL_uniq ho (pL.map (·.2)) (List.pairwise_map.mpr ?_)
        exact List.Pairwise.imp_of_mem (fun {q r} hq hr h => h _ _ ⟨q.1, rfl, ex_t e (hkL q hq)⟩ ⟨r.1, rfl, ex_t e (hkL r hr)⟩) (List.pairwise_map.mp hpw)
      rw [← e2] at k
      exact k (.ref p) _ _ n (.lst upd_same (DenL.mono n.g (DenL.of_refs hkL)))
end
end TD
/-! ## TdTry -/
set_option Elab.async false
set_option linter.all false
set_option maxRecDepth 100000
set_option maxHeartbeats 4100000
/-! try with several except clauses, with a name or without. -/
namespace TD
open PySem L2 PySem.Spec PyProof.Rows
/-- a clause: its class, the slot of its name, its suite -/
abbrev Cl := Value × Option Nat × (Addr → Value → Option Addr → TS)
/-- the ends of a suite behind which the name is gone -/
def endN (D : Ends) : Option Nat → Ends
  | none => D
  | some i => { nx := fun τ h => D.nx (τ.set i none) h, rt := D.rt, bk := fun τ h => D.bk (τ.set i none) h, ct := fun τ h => D.ct (τ.set i none) h }
def setN (σ : L2.St) (a : Addr) : Option Nat → L2.St
  | none => σ
  | some i => σ.set i (some (.ref a))
def wNames (K : PySem.W.Frag) (n : Nat) (W0 : WX) (D : Ends) : List Cl → WX
  | [] => W0
  | (c, oi, ts) :: r => fun k d σ h => ∃ b, PySem.W.exmOne K k c = some b ∧ (b = true → σ.length = n → ∀ a, h a = none → ts a k d (endN D oi) (setN σ a oi) h) ∧ (b = false → wNames K n W0 D r k d σ h)
def Suite (X : Cx) (su : List Stmt) (ts : Addr → Value → Option Addr → TS) : Prop :=
  ∀ (a : Addr) (oe : Obj) (k : Value) (d : Option Addr) (pn : List (Addr × Obj)), Zc k d oe → (∃ vs, oe.data = .fields vs) → PSs (X.suite a ((a, oe) :: pn)) su (ts a k d)
inductive Cls (X : Cx) : List ExceptHandler → List Cl → Prop
  | nil : Cls X [] []
  | bare {x : Str} {c : Value} {ts : Addr → Value → Option Addr → TS} {s0 : Stmt} {su : List Stmt} {p q : Pos} {hs : List ExceptHandler} {l : List Cl} : Names X x c → Suite X (s0 :: su) ts → Cls X hs l →
      Cls X (.ExceptHandler (some (.Name x p)) none (s0 :: su) q :: hs) ((c, none, ts) :: l)
  | named {x n : Str} {i : Nat} {c : Value} {ts : Addr → Value → Option Addr → TS} {s0 : Stmt} {su : List Stmt} {p q : Pos} {hs : List ExceptHandler} {l : List Cl} : X.N.Nodup → X.N[i]? = some n → X.env.kindOf n = some .local → Names X x c → Suite X (s0 :: su) ts → Cls X hs l →
      Cls X (.ExceptHandler (some (.Name x p)) (some n) (s0 :: su) q :: hs) ((c, some i, ts) :: l)
section
variable {X : Cx} {bd : List Stmt} {h0 : ExceptHandler} {hs : List ExceptHandler} {l : List Cl} {pos : Pos} {tb : WX → TS} {W0 : WX}
theorem ps_tryN (st : X.stack = X.env :: X.outer) (fr : X.env.frame = some X.env.locals) (tk : Takes X W0)
    (hb : ∀ (W : WX) (pn : List (Addr × Obj)) (xe : Value → Shared → Prop), Takes (X.tr pn xe) W → PassesOwn (model X.prog X.w) X.A X.env xe → PSs (X.tr pn xe) bd (tb W))
    (hh : Cls X (h0 :: hs) l) : PS X (.Try bd (h0 :: hs) [] [] pos) (fun D σ H => tb (wNames X.K X.N.length W0 D l) D σ H) := by
  refine ⟨fun pins s σ H D I hrun => ?_⟩
  have okX := I.ok
  have frA : X.A.frames = some (X.env :: X.outer) := by rw [okX.frames, st]
  have body := hb (wNames X.K X.N.length W0 D l) (X.pn ++ pins) (fun e t₁ => wpAny (model X.prog X.w) X.A (noteFrame e X.env) (fun _ t₂ => wpAny (model X.prog X.w) X.A (setFlight e none) (fun _ t₃ => wpAny (model X.prog X.w) X.A (handleBy e X.env (h0 :: hs)) (SP X pins D) X.xe t₃) X.xe t₂) X.xe t₁)
  refine wpAny_Try_except (wpAny_mono ((body (fun u t xx => ?_) PassesOwn.looking).run [] s σ H D (I.toTry _) hrun) (fun fl t1 hsp => ?_) (fun e t1 he => he))
  · obtain ⟨a, Bg, tI, _, σ1, Hx, k, d, rfl, Jt, onB, upS, sk, fresh, oss, bare, wish⟩ := xx
    have J1 : Inv X pins σ1 Hx tI := Jt.ofTry okX
    rw [show (X.tr (X.pn ++ pins) _).stack = X.env :: X.outer from st] at sk
    refine Sky.land Zc.steady frA fr sk fun g3 fly3 ups3 => ?_
    have J3 : Inv X pins σ1 Hx { t with heap := g3 } := J1.landed onB fly3.1 (upS.trans ups3) oss bare
    obtain ⟨ob3, fv3, at3, zc3, dt3⟩ := fly3.there
    have apart : ∀ {g : Heap} {ob : Obj} {fv : Array Value}, g.FunFrames Bg (X.env :: X.outer) → g.get? a = some ob → ob.data = .fields fv → a ∉ frs (X.env :: X.outer) := fun {g ob fv} ff q1 q2 hm => by
      obtain ⟨_, ob', q3, q4⟩ := ff.mem hm
      rw [q1] at q3
      cases q3
      exact q4 _ q2
    have notIn := apart fly3.2.2.1 at3 dt3
    have notL : a ≠ X.env.locals := fun z => notIn (List.mem_filterMap.mpr ⟨X.env, List.mem_cons_self, by rw [fr, z]⟩)
    have notF : a ∉ X.fs := fun hm => by
      obtain ⟨en, hen, qn⟩ := List.mem_filterMap.mp hm
      exact notIn (List.mem_filterMap.mpr ⟨en, List.mem_cons_of_mem _ hen, qn⟩)
    have Sx := J3.suite at3 dt3 fresh notL notF
    have typ : PySem.W.Looks (model X.prog X.w) g3 (typeOf (.ref a)) k := fun A Q E s kk qq => wpAny_typeOf_ref (kk _ _ at3) (by rw [zc3.1]; exact qq)
    have name : ∀ {x : Str} {np : Pos} {c : Value} {Q E : Value → Shared → Prop}, Names X x c → Q c { t with heap := g3 } → wpAny (model X.prog X.w) (X.A.mark (some (.ref a))) (eval (.Name x np) X.env) Q E { t with heap := g3 } := fun {x np c Q E} hc qq => by
      obtain ⟨gx, dx, m1 | ⟨m1, m2, m3⟩⟩ := hc
      · exact ld_glob (X := X.suite a ((a, ob3) :: (X.pn ++ pins))) Sx gx m1 qq dx
      · exact ld_blt (X := X.suite a ((a, ob3) :: (X.pn ++ pins))) Sx gx m1 m2 qq m3 dx
    have all : ∀ {hs' : List ExceptHandler} {l' : List Cl}, Cls X hs' l' → wNames X.K X.N.length W0 D l' k d σ1 Hx → wpAny (model X.prog X.w) X.A (handleBy (.ref a) X.env hs') (SP X pins D) X.xe { t with heap := g3 } := by
      intro hs' l' hk
      induction hk with
      | nil =>
        intro wout
        obtain ⟨_, _, _, ob, fv, T, oT, tl, o1, o2, o3, o4, o5⟩ := id fly3
        refine wpAny_handleBy_nil ?_
        unfold PySem.passOn
        refine wpAny_bind (wpAny_field o1 o3 o4 ?_)
        rw [if_neg (by simp : ¬ ((Value.ref T == Value.none) = true))]
        have out : wpAny (model X.prog X.w) X.A (setFlight (.ref a) X.env.frame) (fun _ t4 => wpAny (model X.prog X.w) X.A (throw (.ref a) : Sem Flow) (SP X pins D) X.xe t4) X.xe { t with heap := g3 } := by
          rw [fr]
          exact HandSPX.setFlight_upZ fly3 fun g4 held4 ups4 => wpAny_throw (tk _ _ ⟨a, Bg, tI, pins, σ1, Hx, k, d, rfl, J1, onB, (upS.trans ups3).trans ups4, .inr (.inr (by rw [st]; exact held4)), fresh, oss, bare, wout⟩)
        first
          | exact wpAny_bind (wpAny_pure (wpAny_bind out))
          | exact wpAny_bind out
      | @bare x c ts s0 su np q hs2 l2 hc hsu _ ih =>
        rintro ⟨b, hb1, yes, no⟩
        have same := PySem.W.exm_one (M := model X.prog X.w) (J3.kIn) typ hb1
        refine wpAny_handleBy_cons (codeAny_handlers_test (name hc (same.here ?_))) (by intro z; cases z)
        cases b with
        | false => exact ih (no rfl)
        | true =>
          refine codeAny_handlers_suite (HandSPX.lands_againZ fly3 fun g4 fly4 ups4 => ?_)
          have J4 : Inv X pins σ1 Hx { t with heap := g4 } := J1.landed onB fly4.1 ((upS.trans ups3).trans ups4) oss bare
          obtain ⟨ob4, fv4, at4, zc4, dt4⟩ := fly4.there
          refine wpAny_mono ((hsu a ob4 k d (X.pn ++ pins) zc4 ⟨_, dt4⟩).run [] _ _ Hx _ (J4.suite at4 dt4 fresh notL notF) (yes rfl J1.len a fresh)) (fun fl t6 hsp => ?_) (fun _ _ z => z.elim)
          cases fl with
          | ret u =>
            obtain ⟨v6, τ, H6, S6, r6, q6⟩ := hsp
            exact ⟨_, _, _, S6.unsuite okX, r6, q6⟩
          | next =>
            obtain ⟨τ, H6, S6, q6⟩ := hsp
            exact ⟨_, _, S6.unsuite okX, q6⟩
          | brk =>
            obtain ⟨τ, H6, S6, q6⟩ := hsp
            exact ⟨_, _, S6.unsuite okX, q6⟩
          | cont =>
            obtain ⟨τ, H6, S6, q6⟩ := hsp
            exact ⟨_, _, S6.unsuite okX, q6⟩
      | @named x n i c ts s0 su np q hs2 l2 hN hi hln hc hsu _ ih =>
        rintro ⟨b, hb1, yes, no⟩
        have same := PySem.W.exm_one (M := model X.prog X.w) (J3.kIn) typ hb1
        refine wpAny_handleBy_cons (codeAny_handlers_test (name hc (same.here ?_))) (by intro z; cases z)
        cases b with
        | false => exact ih (no rfl)
        | true =>
          refine codeAny_handlers_suite_as (HandSPX.lands_againZ fly3 fun g4 fly4 ups4 => ?_)
          have J4 : Inv X pins σ1 Hx { t with heap := g4 } := J1.landed onB fly4.1 ((upS.trans ups3).trans ups4) oss bare
          obtain ⟨ob4, fv4, at4, zc4, dt4⟩ := fly4.there
          refine store_ok (X := X.suite a ((a, ob4) :: (X.pn ++ pins))) (v := .ref a) (J4.suite at4 dt4 fresh notL notF) hN hi (.inl hln) rfl (fun t5 S5 => ?_) (.inr hln)
          refine wpAny_mono ((hsu a ob4 k d (X.pn ++ pins) zc4 ⟨_, dt4⟩).run [] t5 _ Hx _ S5 (yes rfl J1.len a fresh)) (fun fl t6 hsp => ?_) (fun _ _ z => z.elim)
          cases fl with
          | ret u =>
            obtain ⟨v6, τ, H6, S6, r6, q6⟩ := hsp
            exact gone_ok (S6.unsuite okX) hN hi hln fun t7 J7 => ⟨_, _, _, J7, r6, q6⟩
          | next =>
            obtain ⟨τ, H6, S6, q6⟩ := hsp
            exact gone_ok (S6.unsuite okX) hN hi hln fun t7 J7 => ⟨_, _, J7, q6⟩
          | brk =>
            obtain ⟨τ, H6, S6, q6⟩ := hsp
            exact gone_ok (S6.unsuite okX) hN hi hln fun t7 J7 => ⟨_, _, J7, q6⟩
          | cont =>
            obtain ⟨τ, H6, S6, q6⟩ := hsp
            exact gone_ok (S6.unsuite okX) hN hi hln fun t7 J7 => ⟨_, _, J7, q6⟩
    exact all hh wish
  · cases fl with
    | ret u =>
      obtain ⟨v, τ, Hn, Jn, rn, qn⟩ := hsp
      exact ⟨v, τ, Hn, Jn.ofTry okX, rn, qn⟩
    | next =>
      obtain ⟨τ, Hn, Jn, qn⟩ := hsp
      exact wpAny_execs_nil ⟨τ, Hn, Jn.ofTry okX, qn⟩
    | brk =>
      obtain ⟨τ, Hn, Jn, qn⟩ := hsp
      exact ⟨τ, Hn, Jn.ofTry okX, qn⟩
    | cont =>
      obtain ⟨τ, Hn, Jn, qn⟩ := hsp
      exact ⟨τ, Hn, Jn.ofTry okX, qn⟩
end
end TD
/-! ## TdOwn -/
set_option Elab.async false
set_option linter.all false
set_option maxRecDepth 100000
set_option maxHeartbeats 4100000
/-! Own exception classes over any built-in one: with an __init__ that keeps its one argument in a field; made, raised, its field read. -/
namespace TO
open PySem PySem.W PySem.Calls PyProof.Rows PySem.HandSPX L2
open Builtin.ObjectAttr Builtin
/-! ### an own class's ancestors: own ones, then a built-in one's -/
def mroOver (rs : List Addr) (bt : List Value) : List Value := rs.map Value.ref ++ bt
theorem mro_has {bt : List Value} (T : String) : ∀ rs : List Addr, (mroOver rs bt).contains (.type T) = bt.contains (.type T)
  | [] => rfl
  | c :: rs => by
    show (Value.ref c :: mroOver rs bt).contains (.type T) = _
    rw [List.contains_cons, mro_has T rs]
    rfl
theorem mro_pass {bt : List Value} (o : Value) (h : refuseLoop o "__setattr__" bt = pure ()) : ∀ rs : List Addr, refuseLoop o "__setattr__" (mroOver rs bt) = pure ()
  | [] => h
  | c :: rs => by
    show refuseLoop o "__setattr__" (Value.ref c :: mroOver rs bt) = _
    rw [refuseLoop_ref]
    exact mro_pass o h rs
/-! ### the text of the __init__ -/
abbrev inArgs (f : Str) (p p' : Pos) : Arguments := { posonlyargs := [], args := [⟨"self", none, p⟩, ⟨f, none, p'⟩], vararg := none, kwonlyargs := [], kw_defaults := [], kwarg := none, defaults := [] }
abbrev inBody (f : Str) (q q' q2 q3 : Pos) : List Stmt := [.Assign [.Attribute (.Name "self" q) f q'] (.Name f q2) q3]
abbrev inScope (f : Str) : Scope := { kind := .function, names := [(PySem.Str.ofString "self", .local), (f, .local)], isGenerator := false, isCoroutine := false, more := [] }
/-- what is plain of a field's name -/
structure Fld (f : Str) : Prop where
  dbg : (f == ("__debug__" : Str)) = false
  kinds : ∀ u v : Value, ([(("self" : Str), u), (f, v)].all fun y => (inScope f).names.lookup y.1 == some .local || (inScope f).names.lookup y.1 == some .cell) = true
  kSelf : ∀ (q : Str) (L a : Addr) (cd : Value), (envOfC q (inScope f) L a cd).kindOf "self" = some .local
  kFld : ∀ (q : Str) (L a : Addr) (cd : Value), (envOfC q (inScope f) L a cd).kindOf f = some .local
  vSelf : ∀ (q : Str) (L a : Addr) (cd u v : Value), bindL (envOfC q (inScope f) L a cd).kindOf [("self", u), (f, v)] (fun _ => none) "self" = some u
  vFld : ∀ (q : Str) (L a : Addr) (cd u v : Value), bindL (envOfC q (inScope f) L a cd).kindOf [("self", u), (f, v)] (fun _ => none) f = some v
  binds : ∀ (s : Shared) (q : Str) (p p' q1 q2 q3 q4 : Pos) (doc pm : Value) (an : Option Addr) (cdv ct u v : Value), BindsTo s (fnOf "__init__" q (inArgs f p p') (inBody f q1 q2 q3 q4) (inScope f) .none .none doc pm an cdv ct) ⟨[u, v], []⟩ [("self", u), (f, v)]
  look : ∀ v : V, List.lookup f [(f, v)] = some v
/-- what the written part says of the class at C, its __init__ at fI -/
structure Own (K : Frag) (mg : Str → Option Value) (x f : Str) (C fI : Addr) (newId : String) (bt : List Value) : Prop where
  gC : mg x = some (.ref C)
  cls : ∃ nm q N bs sn sub ab col dd k0 k1 k2 k3 k5 rs, K.lookup C = some (excClassObj nm q C N bs (mroOver rs bt) true sn sub ab col dd k0 k1 k2 k3 k5 newId)
  (sa : findIn K (.ref C) "__setattr__" = some (some (.builtin "object.__setattr__")))
  xf : XfC K C
  noN : findIn K (.ref C) f = some none
  (iC : findIn K (.ref C) "__init__" = some (some (.ref fI))) (tC : typeIn K (.ref fI) = some (.type "function"))
  kC : keepIn K (.ref C) = true
  (exC : subIn K (.ref C) (.type "BaseException") = some true) (tyC : typeIn K (.ref C) = some (.type "type"))
  fn : ∃ (oc : Value) (od : Option Addr) (q : Str) (doc pm : Value) (an : Option Addr) (cdv ct : Value) (osl : Array (Option Value)) (p p' q1 q2 q3 q4 : Pos),
    K.lookup fI = some ⟨oc, od, .func (fnOf "__init__" q (inArgs f p p') (inBody f q1 q2 q3 q4) (inScope f) .none .none doc pm an cdv ct), osl⟩ ∧ codeIn K cdv q = true
section
variable {w : World} {prog : Program} {A : Around} {E : Value → Shared → Prop} {R : Result → Shared → Prop} {hp : Heap} {g : Array GenState} {d : Drawn} {t : Nat} {os : OsState}
/-- nothing in the classes stops a store: own ones have no rule for it, the built-in ones let it pass -/
theorem lets_store {K : Frag} {x C : Addr} {ox : Obj} {od : Option Obj} {cd : ClassData} {rs : List Addr} {bt : List Value} (X : K.In hp) (J : InstAt hp x ox C od) (hcd : clsIn K C = some cd) (hm : cd.mro = mroOver rs bt) (hps : ∀ o : Value, refuseLoop o "__setattr__" bt = pure ()) :
    Looks (model prog w) hp (refuseIfOverridden (.ref x) "__setattr__") () := by
  have order : Looks (model prog w) hp (mroOf (.ref C)) (mroOver rs bt) := by
    rw [← hm]
    exact (looks_clsIn X hcd).andThen .now
  rw [refuse_eq]
  apply J.type.andThen
  apply order.andThen
  rw [mro_pass _ (hps _)]
  exact .now
/-- its class has object among its ancestors -/
theorem over_object {K : Frag} {x C : Addr} {ox : Obj} {od : Option Obj} {cd : ClassData} {rs : List Addr} {bt : List Value} (X : K.In hp) (J : InstAt hp x ox C od) (hcd : clsIn K C = some cd) (hm : cd.mro = mroOver (C :: rs) bt) (hob : bt.contains (.type "object") = true) :
    Looks (model prog w) hp (isInstance (.ref x) (.type "object")) true := by
  apply J.type.andThen
  apply looks_mroIn X
  simp only [mroIn, hcd, Option.bind_some, hm, mro_has, hob]
  rfl
/-- the dict of an exception that has none as yet is made, and holds the one name -/
theorem first_name {M : Model} {Q : Fin → Shared → Prop} {name : Str} {tk : Tok} {v : Value} {x C tu : Addr} {cd : ClassData} (ax : hp.get? x = some (excO C tu)) (lc : Looks M hp (classData C) cd) (hh : cd.hasDict = true)
    (hq : ∀ h1 tk1 dx, (∀ b o, b ≠ x → hp.get? b = some o → h1.get? b = some o) → hp.objs.size ≤ dx → dx ≠ x → h1.get? x = some { excO C tu with dict := some dx } → h1.Ns1 dx (fun y => if y = name then some v else none) → Q (.done (.ret .none)) ⟨h1, g, d, tk1, os⟩) :
    wpAny M A (storeInOwnDict (.ref x) (.ref C) (.str name tk) name v false) Q E ⟨hp, g, d, t, os⟩ := by
  have far : hp.objs.size ≠ x := Nat.ne_of_gt (Heap.lt_size ax)
  have was := Heap.get?_push_of_some (dictOf [] 0) ax
  refine wpAny_bind (wpAny_pure (wpAny_bind (instanceDict_exc (s := ⟨hp, g, d, t, os⟩) ax lc hh (store_in_new ⟨dictOf [] 0, #[], 0, ?_, rfl, ?_, fun _ => rfl⟩ ?_))))
  · rw [Heap.get?_update_ne _ _ _ _ far]
    exact Heap.get?_push_at rfl rfl
  · intro z hz
    simp at hz
  · intro h1 tk1 holds others
    have now := Heap.get?_update_self (fun o : Obj => { o with dict := some hp.objs.size }) was rfl
    apply hq h1 tk1 hp.objs.size _ (Nat.le_refl _) far ((others.2 x far.symm).trans now) holds
    intro b o hb ho
    rw [others.2 b (Nat.ne_of_lt (Heap.lt_size ho)), Heap.get?_update_ne _ _ _ _ hb]
    (exact Heap.get?_push_of_some _ ho)
/-- self.f = v, on an exception without a dict as yet -/
theorem put_new {K : Frag} {name : Str} {tk : Tok} {v : Value} {x C tu : Addr} {cd : ClassData} {rs : List Addr} {bt : List Value} (X : K.In hp) (ax : hp.get? x = some (excO C tu)) (hcd : clsIn K C = some cd)
    (hm : cd.mro = .ref C :: mroOver rs bt) (hob : bt.contains (.type "object") = true) (hps : ∀ o : Value, refuseLoop o "__setattr__" bt = pure ()) (hh : cd.hasDict = true) (ha : findIn K (.ref C) name = some none)
    (hq : ∀ h1 tk1 dx, (∀ b o, b ≠ x → hp.get? b = some o → h1.get? b = some o) → hp.objs.size ≤ dx → dx ≠ x → h1.get? x = some { excO C tu with dict := some dx } → h1.Ns1 dx (fun y => if y = name then some v else none) → R (.ok (.ret .none)) ⟨h1, g, d, tk1, os⟩) :
    codeAny (model prog w) A (.call (.builtin "object.__setattr__") ⟨[.ref x, .str name tk, v], []⟩) R (⟨hp, g, d, t, os⟩ : Shared) := by
  have J : InstAt hp x (excO C tu) C none := ⟨ax, rfl, rfl, trivial⟩
  have store := F.store_object
  have none_ : Looks (model prog w) hp (storeTaker? none) none := .now
  have whose := looks_findIn (M := model prog w) X ha
  refine codeAny_call_builtin store.slot.plain store.entry ?_
  refine @check_slot (model prog w) _ _ ⟨hp, g, d, t, os⟩ "object.__setattr__" "object" "__setattr__" (.ref x) [.str name tk, v] [] _ store.kind store.split (over_object (rs := rs) X J hcd hm hob) (store.args (.ref x) (.str name tk) v) ?_
  rw [osa_eq]
  refine wpAny_bind ((lets_store (rs := C :: rs) X J hcd hm hps).at (wpAny_bind (J.type.at (wpAny_bind (whose.at (wpAny_bind (none_.at ?_)))))))
  exact first_name ax (looks_clsIn X hcd) hh hq
end
theorem len1 (v : Value) : [v].length ≤ sizeLine := by rw [sizeLine_eq]; exact (by decide : 1 ≤ 16777216)
theorem in_but {K : Frag} {h h1 : Heap} {x : Addr} (X : K.In h) (hx : K.lookup x = none) (k : ∀ b o, b ≠ x → h.get? b = some o → h1.get? b = some o) : K.In h1 := fun a o e => k a o (fun z => by rw [z, hx] at e; cases e) (X a o e)
/-- a local that stands -/
theorem ld_at {M : Model} {s : Shared} {q : Str} {sc : Scope} {L a : Addr} {cd : Value} {m : Str → Option Value} {x : Str} {pos : Pos} {v : Value} {Q : Value → Shared → Prop} {A : Around} {E : Value → Shared → Prop} (hn : s.heap.Ns L m) (hv : m x = some v) (hk : sc.kind = .function)
    (hl : (envOfC q sc L a cd).kindOf x = some .local) (hd : (x == ("__debug__" : Str)) = false) (h : Q v s) : wpAny M A (eval (.Name x pos) (envOfC q sc L a cd)) Q E s := wpAny_Name (wpAny_loadName_local hk hl hn hv h) hd
/-- behind the __init__ of a new exception at x -/
structure Laid (h h1 : Heap) (x C dx t : Addr) (f : Str) (v : Value) : Prop where
  keep : ∀ b o, b ≠ x → h.get? b = some o → h1.get? b = some o
  obj : h1.get? x = some { cls := .ref C, dict := some dx, data := .fields #[.ref t, .none, .none, .none, .bool false, .none] }
  big : h.objs.size ≤ dx
  ne : dx ≠ x
  ns : h1.Ns1 dx (fun y => if y = f then some v else none)
structure Done (h h1 : Heap) (e C dx : Addr) (f : Str) (v : Value) : Prop where
  keep : ∀ b o, h.get? b = some o → h1.get? b = some o
  new : h.objs.size ≤ e
  obj : ∃ oe vs, h1.get? e = some oe ∧ oe.cls = .ref C ∧ oe.dict = some dx ∧ oe.data = .fields vs ∧ vs[1]? = some .none
  big : h.objs.size ≤ dx
  ne : dx ≠ e
  ns : h1.Ns1 dx (fun y => if y = f then some v else none)
section
variable {w : World} {prog : Program} {A : Around} {E : Value → Shared → Prop} {R : Result → Shared → Prop} {s : Shared} {K : Frag} {mg : Str → Option Value} {C fI : Addr} {x f : Str} {B newId initId : String} {bt : List Value}
theorem own_init (T : Own K mg x f C fI newId bt) (D : Fld f) (hob : bt.contains (.type "object") = true) (hps : ∀ o : Value, refuseLoop o "__setattr__" bt = pure ()) {e t : Addr} {v : Value} (X : K.In s.heap) (lim : s.heap.NoLimit)
    (ax : s.heap.get? e = some (excO C t)) (nx : K.lookup e = none) (room : A.depth < recursionLimit) (hq : ∀ h1 tk dx, Laid s.heap h1 e C dx t f v → R (.ok (.ret .none)) { s with heap := h1, toks := tk }) :
    codeAny (model prog w) A (.call (.ref fI) ⟨[.ref e, v], []⟩) R s := by
  obtain ⟨oc, od, q, doc, pm, an, cdv, ct, osl, p, p', q1, q2, q3, q4, lk, hcd⟩ := T.fn
  obtain ⟨nm, qc, N, bs, sn, sub, ab, col, dd, k0, k1, k2, k3, k5, rs, hC⟩ := T.cls
  have hcl : clsIn K C = some { name := nm, bases := bs, mro := .ref C :: mroOver rs bt, ns := N, qualname := qc, hasDict := true, slotNames := sn, subclasses := sub, abstract := ab, collection := col, hasDel := false } := by unfold clsIn; rw [hC] <;> rfl
  refine Att.call_fn (binds := [("self", .ref e), (f, v)]) X lim lk hcd room (D.binds _ _ _ _ _ _ _ _ _ _ _ _ _ _ _) (D.kinds _ _) (fun s1 IC => ?_) rfl rfl rfl
  obtain ⟨h1, tk1, rfl⟩ := IC.toInCall.same
  have kk : ∀ b o, s.heap.get? b = some o → h1.get? b = some o := IC.toInCall.keep
  have hn := IC.toInCall.ns
  have ax1 := kk _ _ ax
  have X1 : K.In h1 := X.keeps kk
  show wpAny (model _ _) _ (execs _ _) _ _ _
  refine wpAny_execs_cons (plainObj_wpAny_Assign_Attribute (?_))
  refine ld_at (v := v) hn (D.vFld _ _ _ _ _ _) rfl (D.kFld _ _ _ _) D.dbg (ld_at (v := .ref e) hn (D.vSelf _ _ _ _ _ _) rfl (D.kSelf _ _ _ _) (by decide) ?_)
  refine set_plain X1 (ox := excO C t) (od := none) ⟨ax1, rfl, rfl, trivial⟩ T.sa ?_
  refine put_new X1 ax1 hcl rfl hob hps rfl T.noN (fun h3 tk3 dx k3 dn dne ax3 hn3 => ?_)
  show wpAny (model _ _) _ (execs _ _) _ _ _
  have z : s.heap.objs.size < h1.objs.size := hn.lt
  exact wpAny_execs_nil (hq h3 tk3 dx ⟨fun b o hb o1 => k3 b o hb (kk b o o1), ax3, Nat.le_of_lt (Nat.lt_of_lt_of_le z dn), dne, hn3⟩)
theorem own_made (F : ExcBaseFacts B newId initId bt) (T : Own K mg x f C fI newId bt) (D : Fld f) (hob : bt.contains (.type "object") = true) (hps : ∀ o : Value, refuseLoop o "__setattr__" bt = pure ()) {v : Value} (X : K.In s.heap) (lim : s.heap.NoLimit)
    (room : A.depth + 1 < recursionLimit) (hq : ∀ h1 tk e dx, Done s.heap h1 e C dx f v → R (.ok (.ret (.ref e))) { s with heap := h1, toks := tk }) : codeAny (model prog w) A (.call (.ref C) ⟨[v], []⟩) R s := by
  obtain ⟨nm, qc, N, bs, sn, sub, ab, col, dd, k0, k1, k2, k3, k5, rs, hC⟩ := T.cls
  obtain ⟨hp, g, dr, tk, os⟩ := (s)
  have kk : ∀ b o, hp.get? b = some o → ((hp.push (kdv_tup [v])).push (excO C hp.objs.size)).get? b = some o := fun b o z => Heap.get?_push_of_some _ (Heap.get?_push_of_some _ z)
  have at_ : ((hp.push (kdv_tup [v])).push (excO C hp.objs.size)).get? (hp.objs.size + 1) = some (excO C hp.objs.size) := by heap_get
  have nK : K.lookup (hp.objs.size + 1) = none := by
    cases z : K.lookup (hp.objs.size + 1) with
    | none => rfl
    | some o => exact absurd (Nat.lt_of_succ_lt (Heap.lt_size (X _ _ z))) (Nat.lt_irrefl _)
  refine call_own F (fun T => mro_has T rs) (X _ _ hC) (looks_findIn X T.iC) (fun o => bind_fn X o T.tC) (len1 v) ?_
  refine own_init (s := ⟨(hp.push (kdv_tup [v])).push (excO C hp.objs.size), g, dr, tk, os⟩) T D hob hps (X.keeps kk) (lim.keeps kk) at_ nK (by show A.depth + 1 < recursionLimit; exact room) fun h1 tk1 dx L => ?_
  have old : ∀ b o, hp.get? b = some o → h1.get? b = some o := fun b o z => L.keep b o (Nat.ne_of_lt (Nat.lt_succ_of_lt (Heap.lt_size z))) (kk b o z)
  have big : hp.objs.size + 1 + 1 ≤ dx := by
    have q := L.big
    first
      | exact q
      | (rw [Heap.size_push, Heap.size_push] at q; exact q)
      | (simpa only [Heap.size_push] using q)
  exact ⟨rfl, hq h1 tk1 (hp.objs.size + 1) dx ⟨old, Nat.le_succ _, ⟨_, _, L.obj, rfl, rfl, rfl, rfl⟩, Nat.le_trans (Nat.le_trans (Nat.le_succ _) (Nat.le_succ _)) big, L.ne, L.ns⟩⟩
end
/-! ### made in an expression, raised -/
theorem rel_fld {f : Str} (D : Fld f) {v : V} {u : Value} (r : RelV v u) (y : Str) : RelO (List.lookup y [(f, v)]) (if y = f then some u else none) := by
  by_cases h : y = f
  · subst h
    rw [if_pos rfl, D.look]
    exact r
  · rw [if_neg h]
    have q : (y == f) = false := by simpa using h
    have q2 : List.lookup y [(f, v)] = none := by simp [List.lookup, q]
    rw [q2]
    trivial
section
variable {X : Cx} {x f : Str} {C fI : Addr} {B newId initId : String} {bt : List Value}
/-- x(e) -/
def tMade (f : Str) (C : Addr) (ta : TA) : L2.St → Hp → XK → Prop := fun σ H Q => ta σ H fun vs H1 => ∃ v, vs = [v] ∧ ∀ d, H1 d = none → Q (.ref C) (some d) (upd H1 d (.xd [(f, v)]))
theorem pmk_made {a : Expr} {ta : TA} {p pos : Pos} {k : Nat} (F : ExcBaseFacts B newId initId bt) (T : Own X.K X.mg x f C fI newId bt) (D : Fld f) (hob : bt.contains (.type "object") = true) (hps : ∀ o : Value, refuseLoop o "__setattr__" bt = pure ())
    (hr : Room k X.A) (ha : PA X [a] ta) (hg : Gl X x) (hdb : (x == ("__debug__" : Str)) = false) (he : starEach (a :: []) X.env = (false, eval a X.env) :: starEach [] X.env) (hpl : (backTo pos (starEach [] X.env)).any (·.1) = false) :
    PMk X (.Call (.Name x p) [a] [] pos) (tMade f C ta) := by
  intro pins s σ H Q I h
  refine wpAny_Call_Name_kw (ld_glob I hg T.gC ?_ hdb)
  refine callWith_K (h₀ := X.base) I.ok.mod.kin T.kC (thn (ha.run pos pins s σ H _ I h) fun us s1 hh => ?_) he hpl
  obtain ⟨vs, H1, I1, r1, v, rfl, q1⟩ := hh
  refine ⟨I1.kIn, ?_⟩
  cases r1 with
  | cons rv rn =>
    rename_i u us'
    cases rn
    have lim := I1.nolimit
    show wpAny (model _ _) _ (call (.ref C) [u]) _ _ _
    obtain ⟨hp, g, dr, tk, os⟩ := (s1)
    refine wpAny_call (own_made F T D hob hps I1.kIn lim (by have := hr.dp; omega) fun h1 tk1 e d M => ?_)
    show MkP X pins σ Q (.ref e) ⟨h1, g, dr, tk1, os⟩
    obtain ⟨oe, fv, hoe, hc, hd, hdat, hn1⟩ := M.obj
    obtain ⟨G1, g1, g2⟩ := restrict h1 fun b => decide (b ≠ e)
    have same : ∀ b, b ≠ e → G1.get? b = h1.get? b := fun b hb => g1 b (decide_eq_true hb)
    have gone : G1.get? e = none := g2 e (by simp)
    have old : ∀ b o, hp.get? b = some o → G1.get? b = some o := fun b o q => (same b (Nat.ne_of_lt (Nat.lt_of_lt_of_le (Heap.lt_size q) M.new))).trans (M.keep b o q)
    have ob : ObjOk X.prog X.w (upd H1 d (.xd [(f, v)])) G1 d (.xd [(f, v)]) := ⟨_, M.ns.at (fun o q => (same d M.ne).trans q), fun y => rel_fld D rv y⟩
    have J : Inv X pins σ (upd H1 d (.xd [(f, v)])) ⟨G1, g, dr, tk1, os⟩ := I1.laid (t' := tk1) old M.big ob
    refine ⟨e, oe, fv, ⟨G1, g, dr, tk1, os⟩, _, .ref C, some d, rfl, J, fun b o q => ?_, gone, hoe, ⟨hc, hd⟩, hdat, hn1, ?_, rfl, I1.bare, raises_own T.exC T.tyC, q1 d (I1.hok.fresh M.big)⟩
    · have q : G1.get? b = some o := q
      by_cases hb : b = e
      · rw [hb, gone] at q
        cases q
      · exact (same b hb).symm.trans q
    · rw [upd_ne (Ne.symm M.ne)]
      exact I1.hok.fresh M.new
end
end TO
/-! ## TdE -/
set_option Elab.async false
set_option linter.all false
set_option maxRecDepth 100000
set_option maxHeartbeats 4100000
/-! Exceptions told over data: what raises, and with what; defs that may raise; repr; defs that want to know that nothing is being shown. -/
namespace TD
open PySem L2 PySem.Spec PyProof.Rows
open Evl (Ex ex_l ex_t fresh_back sq_of st_of sz_of sz_lt)
/-! ### repr -/
def rRep (K : PySem.W.Frag) : List V → Hp → VK → Prop := fun xs H Q => ∃ (v : V) (d : Dt), xs = [v] ∧ Dp K H v d ∧ d.showable = true ∧ d.hasDict = false ∧ d.depth ≤ 20 ∧ d.shown.length ≤ sizeLine ∧ Q (.str d.shown) H
theorem call_rep {X : Cx} {K : PySem.W.Frag} (hg : X.A.guards = some []) (hu : X.A.units + 64 < cLine) (h3 : X.K = K := by rfl) : CallR X (.builtin "repr") (rRep K) := by
  subst h3
  rintro pins s σ H xs us Q I r ⟨v, d, rfl, hd, h1, h2, hdp, hz, q⟩
  obtain ⟨u, rfl, ru⟩ := (vals1 r)
  obtain ⟨as, hR⟩ := Dp.reads I d v u hd ru
  have go : ∀ {a : Addr}, u = .ref a → wpAny (model X.prog X.w) X.A (call (.builtin "repr") [u]) (EP X pins σ Q) X.xe s := fun {a} e => by
    subst e
    exact PySem.repr_of_reads' hR h1 (PyData.noDict_hsm h2) hg (by omega) (fun _ _ z => z) (fun h' w' tk hk => ⟨.str _, H, I.kept hk, ⟨_, rfl⟩, q⟩) hz
  cases hd with
  | non =>
    cases ru
    exact PySem.P.repr_of_none ⟨.str _, H, I.tok _, ⟨_, rfl⟩, q⟩
  | bl c =>
    cases ru
    exact PySem.P.repr_of_bool ⟨.str _, H, I.tok _, ⟨_, rfl⟩, q⟩
  | int i =>
    obtain ⟨t, rfl⟩ := ru
    exact PySem.P.repr_of_int (by unfold PyData.showable at h1; exact of_decide_eq_true h1) ⟨.str _, H, I.tok _, ⟨_, rfl⟩, q⟩
  | str x =>
    obtain ⟨t, rfl⟩ := ru
    exact PySem.P.repr_of_str ⟨.str _, H, I.tok _, ⟨_, rfl⟩, q⟩ hz
  | lst hs ha =>
    cases ru
    exact go rfl
  | tup hs ha =>
    cases ru
    exact go rfl
/-- what may be shown -/
def ShowOk (d : Dt) : Prop := flatD d = true ∧ d.showable = true ∧ d.hasDict = false ∧ d.depth ≤ 20 ∧ d.shown.length ≤ sizeLine
section
variable [TabW] {K : PySem.W.Frag} {b : Addr} {ρ : Rho} {β β1 : Bag} {te : TE} {d : Dt}
theorem d_repr (h : EvB K te ρ β d β1) (hs : ShowOk d) : EvB K (tCB (rRep K) (tCons te tNil)) ρ β (.str d.shown) β1 := d_c1 h fun b G H v Q e dv k =>
  ⟨v, d, rfl, dv.dp e hs.1, hs.2.1, hs.2.2.1, hs.2.2.2.1, hs.2.2.2.2, k _ G H (Step.refl e) (.str _)⟩
end
/-! ### room, and nothing is being shown -/
structure RoomG (k : Nat) (A : Around) : Prop extends Room k A where
  gd : A.guards = some []
theorem RoomG.mono {j k : Nat} {A : Around} (r : RoomG k A) (h : j ≤ k) : RoomG j A := ⟨r.toRoom.mono h, r.gd⟩
theorem RoomG.deeper {k : Nat} {A : Around} (r : RoomG (k + 1) A) (env : Env) : RoomG k (A.deeper env) := ⟨r.toRoom.deeper env, r.gd⟩
/-- a def's promise, kept where nothing is being shown -/
structure FnOkG (P : Program) (w : World) (K : PySem.W.Frag) (mg : Str → Option Value) (base : Heap) (CX : CXT) (k : Nat) (f : Addr) (fd : FuncData) (ps : List Str) (sp : Sp) : Prop where
  (len : (∀ vs H Q E, sp vs H Q E → vs.length = ps.length))
  run : ∀ (A : Around) (outer : List Env) (s : Shared) (H : Hp) (args : Args) (us : List Value) (vs : List V) (Q : VK) (E : XK), RoomG k A → Env0 P w K mg base A outer s H → BindsTo s fd args (ps.zip us) → Vals vs us → sp vs H Q E →
    codeAny (model P w) A (Code.call (.ref f) args) (CR CX outer P w H s Q E) s
section
variable {X : Cx} {CX : CXT} {k : Nat} {f : Addr} {fd : FuncData} {ps : List Str} {sp : Sp} {E : XK} {x : Str} {p pos : Pos} {e : Expr} {es : List Expr} {t : TA}
theorem pe_callG (F : FnOkG X.prog X.w X.K X.mg X.base CX k f fd ps sp) (hr : RoomG k X.A) (hg : Gl X x) (hm : X.mg x = some (.ref f)) (hk : PySem.W.keepIn X.K (.ref f) = true) (hb : Binds X.K fd ps []) (hx : Passes CX X E)
    (ha : PA X (e :: es) t) (hdb : (x == ("__debug__" : Str)) = false) (he : starEach (e :: es) X.env = (false, eval e X.env) :: starEach es X.env) (hpl : (backTo pos (starEach es X.env)).any (·.1) = false) : PE X (.Call (.Name x p) (e :: es) [] pos) (tCall sp [] E t) := by
  refine ⟨fun pins s σ H Q I h => wpAny_Call_Name_kw (ld_glob I hg hm ?_ hdb)⟩
  refine PySem.W.callWith_K (h₀ := X.base) I.ok.mod.kin hk (thn (ha.run pos pins s σ H _ I h) fun us t1 hh => ?_) he hpl
  obtain ⟨vs, H1, I1, rv, q⟩ := hh
  have hl : (us ++ []).length = ps.length := by rw [List.append_nil, ← rv.length, ← List.append_nil vs]; exact F.len _ _ _ _ q
  have rv2 : Vals (vs ++ []) (us ++ []) := by rw [List.append_nil, List.append_nil]; exact rv
  refine ⟨I1.kIn, wpAny_call (codeAny_mono (F.run X.A X.stack t1 H1 ⟨us, []⟩ (us ++ []) (vs ++ []) Q E hr I1.env0 (hb t1 us I1.kIn hl) rv2 q) fun r t2 hq => ?_)⟩
  cases r with
  | error u => exact hx pins σ H1 t1 u t2 I1 hq
  | ok fl =>
    cases fl with
    | ret u => exact I1.after hq
    | _ => exact hq.elim
end
/-! ### what raises -/
abbrev Kept := Option (Str × Dt)
inductive Res where
  | ok (d : Dt)
  | ex (C : Addr) (k : Kept)
/-- how what is kept lies -/
def KeptAt (K : PySem.W.Frag) (G : Hp) : Option Addr → Kept → Prop
  | dx, none => dx = none
  | dx, some (f, d) => ∃ (a : Addr) (v : V), dx = some a ∧ G a = some (.xd [(f, v)]) ∧ Den K G v d
section
variable [TabW]
/-- the wish E takes the error -/
def ExTo (K : PySem.W.Frag) (b : Addr) (m : Bool) (β' : Bag) (G H : Hp) (E : XK) (C : Addr) (k : Kept) : Prop := ∀ dx G' H', Step b m G H G' H' → BagOk b β' G' H' → KeptAt K G' dx k → E (.ref C) dx H'
structure EvR (K : PySem.W.Frag) (E : XK) (te : TE) (ρ : Rho) (β : Bag) (C : Addr) (k : Kept) (β' : Bag) : Prop where
  som : β'.isSome = β.isSome
  run : ∀ (b : Addr) (G H : Hp) (σ : L2.St) (Q : VK), EnvD K b β G H σ ρ → ExTo K b β.isSome β' G H E C k → te σ H Q
structure StR (K : PySem.W.Frag) (E : XK) (ts : TS) (ρ : Rho) (β : Bag) (C : Addr) (k : Kept) (β' : Bag) : Prop where
  som : β'.isSome = β.isSome
  run : ∀ (b : Addr) (G H : Hp) (σ : L2.St) (D : Ends), EnvD K b β G H σ ρ → ExTo K b β.isSome β' G H E C k → ts D σ H
structure TtR (K : PySem.W.Frag) (E : XK) (tt : TT) (ρ : Rho) (β : Bag) (C : Addr) (k : Kept) (β' : Bag) : Prop where
  som : β'.isSome = β.isSome
  run : ∀ (b : Addr) (G H : Hp) (σ : L2.St) (Q : Bool → Hp → Prop), EnvD K b β G H σ ρ → ExTo K b β.isSome β' G H E C k → tt σ H Q
structure ArR (K : PySem.W.Frag) (E : XK) (ta : TA) (ρ : Rho) (β : Bag) (C : Addr) (k : Kept) (β' : Bag) : Prop where
  som : β'.isSome = β.isSome
  run : ∀ (b : Addr) (G H : Hp) (σ : L2.St) (Q : List V → Hp → Prop), EnvD K b β G H σ ρ → ExTo K b β.isSome β' G H E C k → ta σ H Q
end
section
variable [TabW] {K : PySem.W.Frag} {b : Addr} {ρ ρ1 : Rho} {β β1 β2 : Bag} {ta tb te : TE} {tt : TT} {ts tu tw : TS} {tl : TA} {d x : Dt} {G H G1 H1 : Hp} {E : XK} {C : Addr} {k : Kept} {c : Bool} {s : Slot}
theorem ExTo.of {m : Bool} (h : ExTo K b m β1 G H E C k) (s : Step b m G H G1 H1) : ExTo K b m β1 G1 H1 E C k := fun dx G' H' s' kb ka => h dx G' H' (s.trans s') kb ka
/-- behind a part that raises nothing -/
theorem evR_l {r : R2} (h : EvR K E ta ρ β C k β1) : EvR K E (tOp r ta tb) ρ β C k β1 := ⟨h.som, fun b G H σ Q e w => h.run b G H σ _ e w⟩
theorem evR_r {r : R2} (h : EvB K ta ρ β d β1) (h' : EvR K E tb ρ β1 C k β2) : EvR K E (tOp r ta tb) ρ β C k β2 := ⟨h'.som.trans h.som, fun b G H σ Q e w => h.run b G H σ _ e fun v G1 H1 s1 k1 _ => h'.run b G1 H1 σ _ (e.step s1 k1) (by rw [h.som]; exact w.of s1)⟩
theorem evR_un {r : V → Hp → VK → Prop} (h : EvR K E ta ρ β C k β1) : EvR K E (tUn r ta) ρ β C k β1 := ⟨h.som, fun b G H σ Q e w => h.run b G H σ _ e w⟩
theorem arR_hd (h : EvR K E te ρ β C k β1) : ArR K E (tCons te tl) ρ β C k β1 := ⟨h.som, fun b G H σ Q e w => h.run b G H σ _ e w⟩
theorem arR_tl (h : EvB K te ρ β d β1) (h' : ArR K E tl ρ β1 C k β2) : ArR K E (tCons te tl) ρ β C k β2 := ⟨h'.som.trans h.som, fun b G H σ Q e w => h.run b G H σ _ e fun v G1 H1 s1 k1 _ => h'.run b G1 H1 σ _ (e.step s1 k1) (by rw [h.som]; exact w.of s1)⟩
theorem evR_cb {r : List V → Hp → VK → Prop} (h : ArR K E tl ρ β C k β1) : EvR K E (tCB r tl) ρ β C k β1 := ⟨h.som, fun b G H σ Q e w => h.run b G H σ _ e w⟩
theorem evR_call {sp : Sp} {E' : XK} (h : ArR K E tl ρ β C k β1) : EvR K E (tCall sp [] E' tl) ρ β C k β1 := ⟨h.som, fun b G H σ Q e w => h.run b G H σ _ e w⟩
theorem ttR_test (h : EvR K E te ρ β C k β1) : TtR K E (tTest te) ρ β C k β1 := ⟨h.som, fun b G H σ Q e w => h.run b G H σ _ e w⟩
theorem stR_asg {g : TG} (h : EvR K E te ρ β C k β1) : StR K E (tAsg te g) ρ β C k β1 := ⟨h.som, fun b G H σ D e w => h.run b G H σ _ e w⟩
theorem stR_ret (h : EvR K E te ρ β C k β1) : StR K E (tRet te) ρ β C k β1 := ⟨h.som, fun b G H σ D e w => h.run b G H σ _ e w⟩
theorem stR_drop (h : EvR K E te ρ β C k β1) : StR K E (tDrop te) ρ β C k β1 := ⟨h.som, fun b G H σ D e w => h.run b G H σ _ e w⟩
theorem stR_seq (h : StR K E tu ρ β C k β1) : StR K E (tSeq tu tw) ρ β C k β1 := ⟨h.som, fun b G H σ D e w => h.run b G H σ _ e w⟩
theorem stR_then (h : StB K tu ρ β (.nx ρ1) β1) (h' : StR K E tw ρ1 β1 C k β2) : StR K E (tSeq tu tw) ρ β C k β2 := ⟨h'.som.trans h.som, fun b G H σ D e w => h.run b G H σ { D with nx := tw D } e fun σ1 G1 H1 s1 E1 =>
  h'.run b G1 H1 σ1 D E1 (by rw [h.som]; exact w.of s1)⟩
theorem stR_ifR (h : TtR K E tt ρ β C k β1) : StR K E (tIfS tt tu tw) ρ β C k β1 := ⟨h.som, fun b G H σ D e w => h.run b G H σ _ e w⟩
theorem stR_if (h : TtB K tt ρ β c β1) (h1 : c = true → StR K E tu ρ β1 C k β2) (h2 : c = false → StR K E tw ρ β1 C k β2) : StR K E (tIfS tt tu tw) ρ β C k β2 := by
  cases c with
  | true =>
    refine ⟨(h1 rfl).som.trans h.som, fun b G H σ D e w => h.run b G H σ _ e fun G1 H1 s1 k1 => ?_⟩
    rw [if_pos rfl]
    exact (h1 rfl).run b G1 H1 σ D (e.step s1 k1) (by rw [h.som]; exact w.of s1)
  | false =>
    refine ⟨(h2 rfl).som.trans h.som, fun b G H σ D e w => h.run b G H σ _ e fun G1 H1 s1 k1 => ?_⟩
    rw [if_neg (Bool.false_ne_true)]
    exact (h2 rfl).run b G1 H1 σ D (e.step s1 k1) (by rw [h.som]; exact w.of s1)
theorem stR_ifT (h : TtB K tt ρ β true β1) (h1 : StR K E tu ρ β1 C k β2) : StR K E (tIfS tt tu tw) ρ β C k β2 := stR_if h (fun _ => h1) fun z => by cases z
theorem stR_ifF (h : TtB K tt ρ β false β1) (h1 : StR K E tw ρ β1 C k β2) : StR K E (tIfS tt tu tw) ρ β C k β2 := stR_if h (fun z => by cases z) fun _ => h1
/-! ### raise -/
/-- raise x(e), of a class that keeps e in the field f -/
def tRaiseK (f : Str) (C : Addr) (E : XK) (ta : TA) : TS := fun _ σ H => TO.tMade f C ta σ H fun cls d H' => E cls d H'
/-- raise x('..') -/
def tRaise0 (C : Addr) (E : XK) : TS := fun _ _ H => E (.ref C) none H
theorem st_raiseK {f : Str} (h : EvB K te ρ β d β1) : StR K E (tRaiseK f C E (tCons te tNil)) ρ β C (some (f, d)) β1 := ⟨h.som, fun b G H σ D e w => h.run b G H σ _ e fun v G1 H1 s1 k1 dv =>
  ⟨v, rfl, fun a ha => by
    have n := Step.new (b := b) (m := false) (o := .xd [(f, v)]) s1.s ha
    exact w (some a) _ _ (s1.trans n.up) (k1.same n) ⟨a, v, rfl, upd_same, dv.mono n.g⟩⟩⟩
theorem st_raise0 : StR K E (tRaise0 C E) ρ β C none β := ⟨rfl, fun b G H σ D e w => w none G H (Step.refl e.sub) e.bagk rfl⟩
end
/-! ### defs that may raise -/
abbrev FX := List Slot → Bag → Res → Bag → Prop
section
variable [TabW]
def ToRes (K : PySem.W.Frag) (b : Addr) (m : Bool) (β' : Bag) (G H : Hp) (Q : VK) (E : XK) : Res → Prop
  | .ok r => ∀ v G' H', Step b m G H G' H' → BagOk b β' G' H' → Den K G' v r → Q v H'
  | .ex C k => ExTo K b m β' G H E C k
def spX (K : PySem.W.Frag) (R : FX) : Sp := fun vs H Q E => ∃ (b : Addr) (G : Hp) (β : Bag) (as : List Slot) (r : Res) (β' : Bag), Ex G H ∧ TabsOk G H ∧ BagOk b β G H ∧ DenSs K b G vs as ∧ R as β r β' ∧ β'.isSome = β.isSome ∧ ToRes K b β.isSome β' G H Q E r
inductive BodyX (K : PySem.W.Frag) (E : XK) (t : TS) (ρ : Rho) (β : Bag) (β' : Bag) : Res → Prop
  | ok {r : Dt} : BodyR K t ρ β r β' → BodyX K E t ρ β β' (.ok r)
  | ex {C : Addr} {k : Kept} : StR K E t ρ β C k β' → BodyX K E t ρ β β' (.ex C k)
structure FnX (P : Program) (w : World) (K : PySem.W.Frag) (mg : Str → Option Value) (base : Heap) (k : Nat) (x : Str) (ps : List Str) (R : FX) : Prop where
  ex : ∃ (f : Addr) (fd : FuncData), mg x = some (.ref f) ∧ FnOk P w K mg base (L2.CX P w) k f fd ps (spX K R) ∧ Binds K fd ps [] ∧ PySem.W.keepIn K (.ref f) = true
/-- a def that wants to know that nothing is being shown -/
structure FnH (P : Program) (w : World) (K : PySem.W.Frag) (mg : Str → Option Value) (base : Heap) (k : Nat) (x : Str) (ps : List Str) (R : FR) : Prop where
  ex : ∃ (f : Addr) (fd : FuncData), mg x = some (.ref f) ∧ FnOkG P w K mg base CX0 k f fd ps (spR K R) ∧ Binds K fd ps [] ∧ PySem.W.keepIn K (.ref f) = true
end
section
variable [TabW] {P : Program} {w : World} {K : PySem.W.Frag} {mg : Str → Option Value} {base : Heap} {X : Cx} {k : Nat} {x : Str} {ps : List Str} {R : FX} {R' : FR} {q pos : Pos} {e : Expr} {es : List Expr} {t : TA} {E : XK}
theorem pe_fnX (F : FnX P w K mg base k x ps R) (hr : Room k X.A) (hx : Passes (L2.CX X.prog X.w) X E) (ha : PA X (e :: es) t) (h1 : X.prog = P := by rfl) (h2 : X.w = w := by rfl) (h3 : X.K = K := by rfl) (h4 : X.mg = mg := by rfl) (h5 : X.base = base := by rfl)
    (hg : Gl X x := by rfl) (hdb : (x == ("__debug__" : Str)) = false := by decide) (hs : starEach (e :: es) X.env = (false, eval e X.env) :: starEach es X.env := by rfl)
    (hp : (backTo pos (starEach es X.env)).any (·.1) = false := by rfl) : PE X (.Call (.Name x q) (e :: es) [] pos) (tCall (spX K R) [] E t) := by
  obtain ⟨f, fd, hm, hf, hb, hk⟩ := F.ex
  subst h1 h2 h3 h4 h5
  exact pe_call hf hr hg hm hk hb .nil hx ha hdb hs hp
theorem pe_fnH (F : FnH P w K mg base k x ps R') (hr : RoomG k X.A) (ha : PA X (e :: es) t) (h1 : X.prog = P := by rfl) (h2 : X.w = w := by rfl) (h3 : X.K = K := by rfl) (h4 : X.mg = mg := by rfl) (h5 : X.base = base := by rfl)
    (hg : Gl X x := by rfl) (hdb : (x == ("__debug__" : Str)) = false := by decide) (hs : starEach (e :: es) X.env = (false, eval e X.env) :: starEach es X.env := by rfl)
    (hp : (backTo pos (starEach es X.env)).any (·.1) = false := by rfl) : PE X (.Call (.Name x q) (e :: es) [] pos) (tCall (spR K R') [] E0 t) := by
  obtain ⟨f, fd, hm, hf, hb, hk⟩ := F.ex
  subst h1 h2 h3 h4 h5
  exact pe_callG hf hr hg hm hk hb pass0 ha hdb hs hp
end
section
variable [TabW] {P : Program} {w : World} {K : PySem.W.Frag} {mg : Str → Option Value} {base : Heap} {k : Nat} {x : Str} {st : Stmt} {N ps : List Str} {R : FX} {R' : FR}
theorem fnX_read {t : TS} {vs : List V} {H : Hp} {Q : VK} {E : XK} (h : ∀ as β r β', R as β r β' → BodyX K E t (startR N as) β β' r) (hsp : spX K R vs H Q E) : t { nx := fun _ H' => Q .non H', rt := Q } (L2.start N vs) H := by
  obtain ⟨b, G, β, as, r, β', e, tb, kb, ha, hR, hm, kk⟩ := hsp
  have E0 := start_env (N := N) e tb kb ha
  cases h _ _ _ _ hR with
  | ok hb =>
    cases hb with
    | ret hb => exact hb.run b G H _ _ E0 fun v G' H' s' k' d' => kk v G' H' s' k' d'
    | fall ρ' hb hr =>
      subst hr
      exact hb.run b G H _ _ E0 fun σ' G' H' s' e' => kk .non G' H' s' e'.bagk .non
  | ex hb => exact hb.run b G H _ _ E0 kk
theorem fnX_mk (F : DefAt K x st) (hX : K.In base) (hG : base.Ns mainGlobals mg) (S : FnScope N ps (defScope st)) (hlen : ∀ as β r β', R as β r β' → as.length = ps.length)
    (hb : ∀ (f : Addr) (kV doc pm : Value) (an : Option Addr) (cdv ct : Value) (us : List Value), us.length = ps.length → bindArgs (PySem.W.fnOf x x (defArgs st) (defBody st) (defScope st) .none kV doc pm an cdv ct) ⟨us, []⟩ = pure (ps.zip us))
    (hbody : ∀ (f : Addr) (cdv : Value) (A : Around) (outer : List PySem.Env) (s : Shared) (H : Hp) (E : XK), Room k (A.deeper (envOfC x (defScope st) s.heap.objs.size f cdv)) →
      ∃ t, PSs (cxOf (L2.CX P w) P w K mg base N x (defScope st) f cdv A outer s H E) (defBody st) t ∧ ∀ as β r β', R as β r β' → BodyX K E t (startR N as) β β' r) : FnX P w K mg base (k + 1) x ps R := by
  obtain ⟨f, fd, ha, hF⟩ := F.ex
  refine ⟨f, fd, PySem.W.mg_of hX hG ha, ?_, hF.binds (hb f), hF.kp⟩
  refine hF.okX S (fun vs H Q E hsp => ?_) fun cdv A outer s H vs Q E hr hsp => ?_
  · obtain ⟨b, G, β, as, r, β', _, _, _, hd, hR, _⟩ := hsp
    rw [hd.length]
    exact hlen _ _ _ _ hR
  · obtain ⟨t, h1, h2⟩ := hbody f cdv A outer s H E hr
    exact ⟨t, h1, fnX_read h2 hsp⟩
theorem fnG_ok {sp : Sp} {f : Addr} {fd : FuncData} (hF : Fun K x x st f fd) (S : FnScope N ps (defScope st)) (hlen : ∀ vs H Q E, sp vs H Q E → vs.length = ps.length)
    (hbody : ∀ (cdv : Value) (A : Around) (outer : List PySem.Env) (s : Shared) (H : Hp) (vs : List V) (Q : VK) (E : XK), RoomG k (A.deeper (envOfC x (defScope st) s.heap.objs.size f cdv)) → sp vs H Q E →
      ∃ t, PSs (cxOf CX0 P w K mg base N x (defScope st) f cdv A outer s H E).nox (defBody st) t ∧ t { nx := fun _ H' => Q .non H', rt := Q } (L2.start N vs) H) : FnOkG P w K mg base CX0 (k + 1) f fd ps sp := by
  obtain ⟨oc, od, kV, doc, pm, an, cdv, ct, osl, rfl, lk, hcd⟩ := hF.ex
  refine ⟨hlen, fun A outer s H args us vs Q E hr e0 hb rv hsp => LamX.run_ofS lk hcd S hr.toRoom e0 hb rv (hlen _ _ _ _ hsp) fun _ => ?_⟩
  obtain ⟨t, h1, h2⟩ := hbody cdv A outer s H vs Q E (hr.deeper _) hsp
  exact ⟨t, h1.nox, h2⟩
theorem fnH_mk (F : DefAt K x st) (hX : K.In base) (hG : base.Ns mainGlobals mg) (S : FnScope N ps (defScope st)) (hlen : ∀ as β r β', R' as β r β' → as.length = ps.length)
    (hb : ∀ (f : Addr) (kV doc pm : Value) (an : Option Addr) (cdv ct : Value) (us : List Value), us.length = ps.length → bindArgs (PySem.W.fnOf x x (defArgs st) (defBody st) (defScope st) .none kV doc pm an cdv ct) ⟨us, []⟩ = pure (ps.zip us))
    (hbody : ∀ (f : Addr) (cdv : Value) (A : Around) (outer : List PySem.Env) (s : Shared) (H : Hp) (E : XK), RoomG k (A.deeper (envOfC x (defScope st) s.heap.objs.size f cdv)) →
      ∃ t, PSs (cxOf CX0 P w K mg base N x (defScope st) f cdv A outer s H E).nox (defBody st) t ∧ ∀ as β r β', R' as β r β' → BodyR K t (startR N as) β r β') : FnH P w K mg base (k + 1) x ps R' := by
  obtain ⟨f, fd, ha, hF⟩ := F.ex
  refine ⟨f, fd, PySem.W.mg_of hX hG ha, ?_, hF.binds (hb f), hF.kp⟩
  refine fnG_ok hF S (fun vs H Q E hsp => ?_) fun cdv A outer s H vs Q E hr hsp => ?_
  · obtain ⟨b, G, β, as, r, β', _, _, _, hd, hR, _⟩ := hsp
    rw [hd.length]
    exact hlen _ _ _ _ hR
  · obtain ⟨t, h1, h2⟩ := hbody f cdv A outer s H E hr
    exact ⟨t, h1, fn_read h2 hsp⟩
end
/-! ### a call of a def that may raise -/
section
variable [TabW] {K : PySem.W.Frag} {ρ : Rho} {β β1 β2 : Bag} {t : TA} {E : XK} {as : List Slot} {R : FX} {r : Dt} {C : Addr} {k : Kept}
theorem x_call (ha : EvA K t ρ β as β1) (hR : R as β1 (.ok r) β2) (hm : β2.isSome = β1.isSome) : EvB K (tCall (spX K R) [] E t) ρ β r β2 := by
  refine ⟨hm.trans ha.som, fun b G H σ Q E' kk => ha.run b G H σ _ E' fun vs G1 H1 s1 k1 d1 => ?_⟩
  rw [List.append_nil]
  refine ⟨b, G1, β1, as, .ok r, β2, s1.s, (E'.step s1 k1).tabs, k1, d1, hR, hm, fun v G2 H2 s2 k2 d2 => ?_⟩
  rw [ha.som] at s2
  exact kk v G2 H2 (s1.trans s2) k2 d2
theorem x_call0 (ha : EvA K t ρ β as β1) (hR : R as none (.ok r) none) : EvB K (tCall (spX K R) [] E t) ρ β r β1 := by
  refine ⟨ha.som, fun b G H σ Q E' kk => ha.run b G H σ _ E' fun vs G1 H1 s1 k1 d1 => ?_⟩
  rw [List.append_nil]
  exact ⟨b, G1, none, as, .ok r, none, s1.s, (E'.step s1 k1).tabs, (fun _ z => nomatch z), d1, hR, rfl, fun v G2 H2 s2 k2 d2 => kk v G2 H2 (s1.trans s2.up) (k1.same s2) d2⟩
theorem x_raise0 (ha : EvA K t ρ β as β1) (hR : R as none (.ex C k) none) : EvR K E (tCall (spX K R) [] E t) ρ β C k β1 := by
  refine ⟨ha.som, fun b G H σ Q E' kk => ha.run b G H σ _ E' fun vs G1 H1 s1 k1 d1 => ?_⟩
  rw [List.append_nil]
  exact ⟨b, G1, none, as, .ex C k, none, s1.s, (E'.step s1 k1).tabs, (fun _ z => nomatch z), d1, hR, rfl, fun dx G2 H2 s2 k2 ka => kk dx G2 H2 (s1.trans s2.up) (k1.same s2) ka⟩
end
end TD
/-! ## TdL -/
set_option Elab.async false
set_option linter.all false
set_option maxRecDepth 100000
set_option maxHeartbeats 4100000
/-! A def that calls what it gets and tells how that ends; a lambda of one call handed to it. -/
namespace TD
open PySem L2 PySem.Spec PyProof.Rows LamX
open Evl (Ex ex_l ex_t fresh_back sq_of st_of sz_of sz_lt)
/-- what a clause tells: a text; or a text and what repr makes of the error's field -/
inductive Tell where
  | lit (s : Str)
  | fld (pre f : Str)
abbrev Clauses := List (Addr × Tell)
def ShowAt (K : PySem.W.Frag) (H : Hp) (v : V) (t : Str) : Prop := ∃ d : Dt, Dp K H v d ∧ d.showable = true ∧ d.hasDict = false ∧ d.depth ≤ 20 ∧ d.shown.length ≤ sizeLine ∧ t = d.shown
/-- the wish about what is raised in it -/
def tellX (K : PySem.W.Frag) (Q : VK) : Clauses → XK
  | [] => fun _ _ _ => False
  | (c, .lit s) :: r => fun cls d H => ∃ b, PySem.W.exmOne K cls (.ref c) = some b ∧ (b = true → Q (.str s) H) ∧ (b = false → tellX K Q r cls d H)
  | (c, .fld pre f) :: r => fun cls d H => ∃ b, PySem.W.exmOne K cls (.ref c) = some b ∧ (b = true → cls = .ref c ∧ ∃ (dd : Addr) (fs : List (Str × V)) (v : V) (t : Str), d = some dd ∧ H dd = some (.xd fs) ∧ fs.lookup f = some v ∧ ShowAt K H v t ∧ pre.length + t.length ≤ sizeLine ∧ Q (.str (pre ++ t)) H) ∧
      (b = false → tellX K Q r cls d H)
/-- what it makes of the call's reading -/
def TTell (K : PySem.W.Frag) (l : Clauses) (fine : Str) : (XK → Hp → VK → Prop) → Hp → VK → Prop := fun tl H Q => tl (tellX K Q l) H (fun _ H' => Q (.str fine) H')
abbrev rAddS : R2 := fun x y H Q => ∃ i j, x = .str i ∧ y = .str j ∧ i.length + j.length ≤ sizeLine ∧ Q (.str (i ++ j)) H
def suT (K : PySem.W.Frag) (C : Addr) : Tell → Addr → Value → Option Addr → TS
  | .lit s => fun _ _ _ => tRet (tC (.str s))
  | .fld pre f => fun a k d => tRet (tOp rAddS (tC (.str pre)) (tCB (rRep K) (tCons (tXf a k d C f (tVar 1)) tNil)))
def nmT : Tell → Option Nat
  | .lit _ => none
  | .fld _ _ => some 1
def clT (K : PySem.W.Frag) : Clauses → List Cl
  | [] => []
  | (c, t) :: r => (.ref c, nmT t, suT K c t) :: clT K r
theorem clT_run {K : PySem.W.Frag} {Q : VK} {D : Ends} (hQ : D.rt = Q) : ∀ {l : Clauses} {cls : Value} {d : Option Addr} {σ : L2.St} {H : Hp}, tellX K Q l cls d H → wNames K 2 (fun _ _ _ _ => False) D (clT K l) cls d σ H
  | [], _, _, _, _, h => h
  | (c, .lit s) :: r, cls, d, σ, H, ⟨b, h1, h2, h3⟩ => ⟨b, h1, fun hb _ a _ => by
    show (endN D none).rt (.str s) H
    unfold endN
    rw [hQ]
    exact h2 hb, fun hb => clT_run hQ (h3 hb)⟩
  | (c, .fld pre f) :: r, cls, d, σ, H, ⟨b, h1, h2, h3⟩ => ⟨b, h1, fun hb hl a _ => by
    obtain ⟨e, dd, fs, v, t, ed, ea, lk, ⟨dt, hd, s1, s2, s3, s4, et⟩, hz, q⟩ := h2 hb
    have q1 : (σ.set 1 (some (V.ref a)))[1]? = some (some (.ref a)) := List.getElem?_set_self (by omega)
    refine ⟨_, q1, rfl, e, dd, fs, v, ed, ea, lk, v, dt, rfl, hd, s1, s2, s3, s4, pre, dt.shown, rfl, rfl, by rw [← et]; exact hz, ?_⟩
    show (endN D (some 1)).rt _ H
    unfold endN
    rw [hQ, ← et]
    exact q, fun hb => clT_run hQ (h3 hb)⟩
section
variable {X : Cx}
/-- the def that catches -/
theorem tells {Ng : List Str} {x a q fine : Str} {sg : Scope} {g : Addr} {cdg : Value} {l : Clauses} {h0 : ExceptHandler} {hs : List ExceptHandler} {p1 p2 p3 p4 p5 p6 : Pos} {j : Nat} (hN2 : Ng.length = 2)
    (hc : ∀ (s : Shared) (H : Hp), Cls (cxOf C8.CX0 X.prog X.w X.K X.mg X.base Ng x sg g cdg X.A X.stack s H C8.E0).nox (h0 :: hs) (clT X.K l)) :
    GivesTo X Ng x sg g cdg [.Try [.Expr (.Call (.Name a p1) [] [] p2) p3] (h0 :: hs) [] [] p4, .Return (some (.Constant (.str fine) j p5)) p6] a q (TTell X.K l fine) := by
  intro f c' s H Q tl act hco h
  refine ⟨_, pss_cons (ps_tryN (X := (cxOf C8.CX0 X.prog X.w X.K X.mg X.base Ng x sg g cdg X.A X.stack s H C8.E0).nox) (W0 := fun _ _ _ _ => False)
    (tb := fun W D σ H => ∃ Ec : XK, (∀ cls d σ' H', Ec cls d H' → W cls d σ' H') ∧ σ[0]? = some (some (.ref f)) ∧ H c' = some (CodeO c' q) ∧ tl Ec H (fun _ H' => D.nx σ H'))
    rfl rfl L2.takes0 (fun W pn xe tk _ => ?_) (hc s H)) (pss_one (ps_ret pe_str)), ?_⟩
  · refine ⟨fun pins t σ H D I hh => ?_⟩
    obtain ⟨Ec, hW, h1, h2, h3⟩ := hh
    exact (pss_one (ps_expr (act W pn xe Ec p1 p2 tk hW))).run pins t σ H D I ⟨h1, h2, h3⟩
  · refine ⟨tellX X.K Q l, fun cls d σ' H' hE => ?_, ?_, hco, h⟩
    · show wNames X.K Ng.length _ _ _ _ _ _ _
      rw [hN2]
      exact clT_run rfl hE
    · rw [show Ng = [Ng[0]'(by omega), Ng[1]'(by omega)] from by
        match Ng, hN2 with
        | [_, _], _ => rfl]
      rfl
end

/-! ### the clauses of a text -/
section
variable {X : Cx} {hs : List ExceptHandler} {l : Clauses}
theorem cls_nil : Cls X [] (clT X.K []) := .nil
theorem cls_lit {x s : Str} {C : Addr} {p q q1 : Pos} {j : Nat} {p1 : Pos} (n : Names X x (.ref C)) (r : Cls X hs (clT X.K l)) : Cls X (.ExceptHandler (some (.Name x p)) none [.Return (some (.Constant (.str s) j p1)) q1] q :: hs) (clT X.K ((C, .lit s) :: l)) :=
  .bare n (fun _ _ _ _ _ _ _ => pss_one (ps_ret pe_str)) r
theorem cls_fld {x n f pre newId : Str} {C : Addr} {p q q1 p1 p2 p3 p4 p5 p6 : Pos} {j : Nat} (hN : X.N.Nodup) (hi : X.N[1]? = some n) (hl : X.env.kindOf n = some .local) (nm : Names X x (.ref C)) (xf : XfC X.K C) (no : PySem.W.findIn X.K (.ref C) f = some none)
    (gd : X.A.guards = some []) (un : X.A.units + 64 < cLine) (gr : Gl X "repr") (mr : X.mg "repr" = none) (hb : attributeBase (.Name n p4) f X.env (eval (.Name n p4) X.env) = eval (.Name n p4) X.env) (dn : (n == ("__debug__" : Str)) = false) (cn : (n == ("__classdict__" : Str)) = false)
    (st : starEach (.Attribute (.Name n p4) f p5 :: []) X.env = (false, eval (.Attribute (.Name n p4) f p5) X.env) :: starEach [] X.env) (r : Cls X hs (clT X.K l)) :
    Cls X (.ExceptHandler (some (.Name x p)) (some n) [.Return (some (.BinOp (.Constant (.str pre) j p1) .Add (.Call (.Name "repr" p2) [.Attribute (.Name n p4) f p5] [] p3) p6)) q1] q :: hs) (clT X.K ((C, .fld pre f) :: l)) :=
  .named hN hi hl nm (fun a oe k d pn hz hf => pss_one (ps_ret (pe_op (X := X.suite a ((a, oe) :: pn)) op_add_str pe_str (pe_callB (X := X.suite a ((a, oe) :: pn)) (call_rep gd un) gr mr bo_repr (pa_cons (pe_xf xf no hz hf (pe_var (X := X.suite a ((a, oe) :: pn)) hi (.inl hl) dn cn) hb) pa_nil st))))) r
end
/-! ### a lambda of one call, handed to it -/
/-- the def that catches, where it stands -/
structure WordAt (K : PySem.W.Frag) (mg : Str → Option Value) (x : Str) (st : Stmt) : Prop where
  ex : ∃ (g : Addr) (fd : FuncData), mg x = some (.ref g) ∧ Fun K x x st g fd
theorem wordAt_of {K : PySem.W.Frag} {mg : Str → Option Value} {base : Heap} {x : Str} {st : Stmt} (D : DefAt K x st) (hX : K.In base) (hG : base.Ns mainGlobals mg) : WordAt K mg x st := by
  obtain ⟨f, fd, ha, hF⟩ := D.ex
  exact ⟨f, fd, PySem.W.mg_of hX hG ha, hF⟩
section
variable {X : Cx} {K : PySem.W.Frag} {mg : Str → Option Value}
theorem pe_word {T : List (Addr × Str)} {TT : (XK → Hp → VK → Prop) → Hp → VK → Prop} {x a : Str} {wst : Stmt} {Ng : List Str} {c P : Addr} {k : Nat} {params : Arguments} {body : Expr} {scope : Scope} {t : XK → TE} {p lpos pos : Pos}
    (W : WordAt K mg x wst) (Sg : FnScope Ng [a] (defScope wst)) (hNg : Ng[0]? = some a) (hva : Vis (defScope wst) a)
    (hbw : ∀ (kV doc pm : Value) (an : Option Addr) (cdv ct : Value) (us : List Value), us.length = 1 → bindArgs (PySem.W.fnOf x x (defArgs wst) (defBody wst) (defScope wst) .none kV doc pm an cdv ct) ⟨us, []⟩ = pure ([a].zip us))
    (hG : ∀ (g : Addr) (cdg : Value), GivesTo X Ng x (defScope wst) g cdg (defBody wst) a (X.env.qual ++ "<lambda>") TT) (TB : TabB X.base X.mg c P) (hcode : X.env.code = .ref c) (hmT : (P, X.env.qual ++ "<lambda>") ∈ T) (hu : ∀ p ∈ T, p.1 = P → p.2 = X.env.qual ++ "<lambda>")
    (hr : Room (k + 2) X.A) (L : LamS X.env.scope scope) (hdef : defaultsOf params X.env = ([], [])) (hbind : ∀ (q : Str) (cl : List (Str × Addr)) (pm cv ctv : Value), bindArgs (PySem.W.kla_fn "<lambda>" q params body scope cl pm cv ctv) ⟨[], []⟩ = pure [])
    (hbody : ∀ (A : Around) (outer : List PySem.Env) (s : Shared) (H : Hp) (E : XK) (f c' : Addr), Room k (A.deeper (lamEnv X scope s.heap.objs.size f c')) → PE (lamCx X A outer s H E scope f c') body (t E))
    (h3 : X.K = K := by rfl) (h4 : X.mg = mg := by rfl) (hg : Gl X x := by rfl) (hdb : (x == ("__debug__" : Str)) = false := by decide) (hd : (a == ("__debug__" : Str)) = false := by decide) (hcd : (a == ("__classdict__" : Str)) = false := by decide) :
    PE X (Expr.Call (.Name x p) [.Lambda params body scope lpos] [] pos) (tLam T TT t) := by
  subst h3 h4
  obtain ⟨g, fd, hm, hF⟩ := W.ex
  have kp := hF.kp
  have bd := hF.binds (ps := [a]) hbw
  obtain ⟨oc, od, kV, doc, pm, an, cdv, ct, osl, rfl, lk, hcdg⟩ := hF.ex
  exact pe_lamcall hg hm kp lk hcdg bd Sg hNg hva (hG g cdv) TB hcode hmT hu hr L hdef hbind hbody hdb hd hcd
end
/-- in a lambda's body what the call raises is handed on -/
theorem pass_lam {X : Cx} {A : Around} {outer : List PySem.Env} {s : Shared} {H : Hp} {E : XK} {scope : Scope} {f c' : Addr} (hk : scope.kind = .function) : Passes (L2.CX X.prog X.w) (lamCx X A outer s H E scope f c') E :=
  fun pins σ H' s' e s'' I c => passes_call (X := lamCx X A outer s H E scope f c') (W := fun cls d _ H => E cls d H) (takes_of rfl rfl rfl rfl) (fun _ _ _ _ h => h) pins σ H' s' e s'' I c
/-! ### what it comes to -/
/-- what a class's error is told as -/
inductive ToldAs (K : PySem.W.Frag) (C : Addr) : Clauses → Kept → Str → Prop
  | lit {s : Str} {l : Clauses} {k : Kept} : PySem.W.exmOne K (.ref C) (.ref C) = some true → ToldAs K C ((C, .lit s) :: l) k s
  | litOf {c : Addr} {s : Str} {l : Clauses} {k : Kept} : PySem.W.exmOne K (.ref C) (.ref c) = some true → ToldAs K C ((c, .lit s) :: l) k s
  | fld {pre f : Str} {l : Clauses} {d : Dt} : PySem.W.exmOne K (.ref C) (.ref C) = some true → ShowOk d → pre.length + d.shown.length ≤ sizeLine → ToldAs K C ((C, .fld pre f) :: l) (some (f, d)) (pre ++ d.shown)
  | next {c : Addr} {t : Tell} {l : Clauses} {k : Kept} {s : Str} : PySem.W.exmOne K (.ref C) (.ref c) = some false → ToldAs K C l k s → ToldAs K C ((c, t) :: l) k s
section
variable [TabW] {K : PySem.W.Frag} {b : Addr} {ρ : Rho} {β β1 : Bag} {ta : TA} {as : List Slot} {R : FX} {r : Dt} {C : Addr} {k : Kept} {l : Clauses} {s fine : Str} {T : List (Addr × Str)} {G H G1 H1 : Hp}
theorem toldAs_run {Q : VK} {dx : Option Addr} (h : ToldAs K C l k s) (e : Ex G H) (ka : KeptAt K G dx k) (q : Q (.str s) H) : tellX K Q l (.ref C) dx H := by
  induction h with
  | lit h1 => exact ⟨true, h1, fun _ => q, fun z => by cases z⟩
  | litOf h1 => exact ⟨true, h1, fun _ => q, fun z => by cases z⟩
  | @fld pre f l d h1 so hz =>
    obtain ⟨a, v, e1, e2, e3⟩ := ka
    refine ⟨true, h1, fun _ => ⟨rfl, a, [(f, v)], v, d.shown, e1, e _ _ e2, by simp [List.lookup], ⟨d, e3.dp e so.1, so.2.1, so.2.2.1, so.2.2.2.1, so.2.2.2.2, rfl⟩, hz, q⟩, fun z => by cases z⟩
  | @next c t l k s h1 _ ih =>
    cases t with
    | lit _ => exact ⟨false, h1, (fun z => by cases z), fun _ => ih ka q⟩
    | fld _ _ => exact ⟨false, h1, (fun z => by cases z), fun _ => ih ka q⟩
/-- the tables are written, all else stays -/
theorem step_ext {m : Bool} (hw : ∀ P q, TabW.w P q ↔ (P, q) ∈ T) (ex : Ex G H) (tb : TabsOk G H) (e : ExtN H H1) (t1 : Tabs T H1) : Step b m G H G H1 :=
  ⟨Ex.refl G, fun x o h => e x o (ex x o h) (fun ps z => tb.free x ps (by rw [h, z])), fun _ _ h _ _ => h, fun x o _ t h => e x o h t, fun x o t h => ⟨o, t, e x o h t⟩, fun tb => ⟨fun P q w => t1 (P, q) ((hw P q).mp w), tb.free⟩⟩
theorem tabs_of (hw : ∀ P q, TabW.w P q ↔ (P, q) ∈ T) (tb : TabsOk G H) : Tabs T H := fun p hp => tb.tab p.1 p.2 ((hw p.1 p.2).mpr hp)
theorem d_lamOk (hw : ∀ P q, TabW.w P q ↔ (P, q) ∈ T) (ha : EvA K ta ρ β as β1) (hR : R as none (.ok r) none) : EvB K (tLam T (TTell K l fine) (fun E => tCall (spX K R) [] E ta)) ρ β (.str fine) β1 := by
  refine ⟨ha.som, fun b G H σ Q E kk => ⟨tabs_of hw E.tabs, fun H1 e t1 => ?_⟩⟩
  have s0 : Step b β.isSome G H G H1 := step_ext hw E.sub E.tabs e t1
  have k0 : BagOk b β G H1 := fun ns z => ⟨e _ _ (E.bagk ns z).1 NoT.lst, (E.bagk ns z).2⟩
  exact (x_call0 (E := tellX K Q l) ha hR).run b G H1 σ _ (E.step s0 k0) fun v G2 H2 s2 k2 _ => kk _ G2 H2 (s0.trans s2) k2 (.str _)
theorem d_lamEx (hw : ∀ P q, TabW.w P q ↔ (P, q) ∈ T) (ha : EvA K ta ρ β as β1) (hR : R as none (.ex C k) none) (ht : ToldAs K C l k s) : EvB K (tLam T (TTell K l fine) (fun E => tCall (spX K R) [] E ta)) ρ β (.str s) β1 := by
  refine ⟨ha.som, fun b G H σ Q E kk => ⟨tabs_of hw E.tabs, fun H1 e t1 => ?_⟩⟩
  have s0 : Step b β.isSome G H G H1 := step_ext hw E.sub E.tabs e t1
  have k0 : BagOk b β G H1 := fun ns z => ⟨e _ _ (E.bagk ns z).1 NoT.lst, (E.bagk ns z).2⟩
  exact (x_raise0 (E := tellX K Q l) ha hR).run b G H1 σ _ (E.step s0 k0) fun dx G2 H2 s2 k2 ka => toldAs_run ht s2.s ka (kk _ G2 H2 (s0.trans s2) k2 (.str _))
end

/-! ### classes of errors, as a text has them -/
/-- a class that keeps its one argument in the field f -/
structure OwnC (K : PySem.W.Frag) (mg : Str → Option Value) (x f : Str) (C : Addr) : Prop where
  ex : ∃ (fI : Addr) (B newId initId : String) (bt : List Value), PySem.ExcBaseFacts B newId initId bt ∧ TO.Own K mg x f C fI newId bt ∧ TO.Fld f ∧ bt.contains (.type "object") = true ∧ ∀ o : Value, refuseLoop o "__setattr__" bt = pure ()
/-- a class of its own name alone -/
structure BareC (K : PySem.W.Frag) (mg : Str → Option Value) (x : Str) (C : Addr) : Prop where
  ex : ∃ (B newId initId : String) (bt : List Value), PySem.ExcBaseFacts B newId initId bt ∧ PySem.W.excIn K C bt newId = true ∧ mg x = some (.ref C) ∧ PySem.W.keepIn K (.ref C) = true ∧ PySem.W.subIn K (.ref C) (.type "BaseException") = some true ∧ PySem.W.typeIn K (.ref C) = some (.type "type")
theorem OwnC.gC {K : PySem.W.Frag} {mg : Str → Option Value} {x f : Str} {C : Addr} (O : OwnC K mg x f C) : mg x = some (.ref C) := by
  obtain ⟨_, _, _, _, _, _, T, _⟩ := O.ex
  exact T.gC
theorem OwnC.xf {K : PySem.W.Frag} {mg : Str → Option Value} {x f : Str} {C : Addr} (O : OwnC K mg x f C) : XfC K C := by
  obtain ⟨_, _, _, _, _, _, T, _⟩ := O.ex
  exact T.xf
theorem OwnC.noN {K : PySem.W.Frag} {mg : Str → Option Value} {x f : Str} {C : Addr} (O : OwnC K mg x f C) : PySem.W.findIn K (.ref C) f = some none := by
  obtain ⟨_, _, _, _, _, _, T, _⟩ := O.ex
  exact T.noN
theorem BareC.gC {K : PySem.W.Frag} {mg : Str → Option Value} {x : Str} {C : Addr} (O : BareC K mg x C) : mg x = some (.ref C) := by
  obtain ⟨_, _, _, _, _, _, h, _⟩ := O.ex
  exact h
section
variable {X : Cx} {K : PySem.W.Frag} {mg : Str → Option Value} {x f m : Str} {C : Addr} {k : Nat} {E : XK} {a : Expr} {ta : TA} {p pos pos2 p2 : Pos} {j : Nat}
theorem ps_raiseOwn (O : OwnC K mg x f C) (hr : Room k X.A) (tk : Takes X (fun cls d _ H => E cls d H)) (ha : PA X [a] ta) (hc : X.calm = true := by rfl) (h3 : X.K = K := by rfl) (h4 : X.mg = mg := by rfl) (hg : Gl X x := by rfl) (hdb : (x == ("__debug__" : Str)) = false := by decide)
    (he : starEach (a :: []) X.env = (false, eval a X.env) :: starEach [] X.env := by rfl) (hpl : (backTo pos (starEach [] X.env)).any (·.1) = false := by rfl) : PS X (.Raise (some (.Call (.Name x p) [a] [] pos)) none pos2) (tRaiseK f C E ta) := by
  subst h3 h4
  obtain ⟨fI, B, newId, initId, bt, F, T, D, hob, hps⟩ := O.ex
  exact ps_raise hc tk (TO.pmk_made F T D hob hps hr ha hg hdb he hpl)
theorem ps_raiseBare (O : BareC K mg x C) (tk : Takes X (fun cls d _ H => E cls d H)) (hc : X.calm = true := by rfl) (h3 : X.K = K := by rfl) (h4 : X.mg = mg := by rfl) (hg : Gl X x := by rfl) (hdb : (x == ("__debug__" : Str)) = false := by decide) :
    PS X (.Raise (some (.Call (.Name x p) [.Constant (.str m) j p2] [] pos)) none pos2) (tRaise0 C E) := by
  subst h3 h4
  obtain ⟨B, newId, initId, bt, F, q, gC, kC, sb, ty⟩ := O.ex
  exact ps_raise hc tk (pmk_own F q gC kC (raises_own sb ty) hg hdb)
end
/-- what a callee raises is handed on, in a def that may raise -/
theorem pass_x {X : Cx} {E : XK} (tk : Takes X (fun cls d _ H => E cls d H)) : Passes (L2.CX X.prog X.w) X E := passes_call tk fun _ _ _ _ h => h
/-- a def whose code object is known: one that makes lambdas -/
structure DefAtC (K : PySem.W.Frag) (x : Str) (st : Stmt) (c : Addr) : Prop where
  ex : ∃ (f : Addr) (oc : Value) (od : Option Addr) (kV doc pm : Value) (an : Option Addr) (ct : Value) (osl : Array (Option Value)), PySem.W.nsIn K mainGlobals x = some (some (.ref f)) ∧
    K.lookup f = some ⟨oc, od, .func (PySem.W.fnOf x x (defArgs st) (defBody st) (defScope st) .none kV doc pm an (.ref c) ct), osl⟩ ∧ PySem.W.codeIn K (.ref c) x = true ∧ PySem.W.keepIn K (.ref f) = true
section
variable [TabW] {P : Program} {w : World} {K : PySem.W.Frag} {mg : Str → Option Value} {base : Heap} {k : Nat} {x : Str} {st : Stmt} {N ps : List Str} {R : FR} {c : Addr}
theorem fnC_mk (F : DefAtC K x st c) (hX : K.In base) (hG : base.Ns mainGlobals mg) (S : FnScope N ps (defScope st)) (hlen : ∀ as β r β', R as β r β' → as.length = ps.length)
    (hb : ∀ (f : Addr) (kV doc pm : Value) (an : Option Addr) (cdv ct : Value) (us : List Value), us.length = ps.length → bindArgs (PySem.W.fnOf x x (defArgs st) (defBody st) (defScope st) .none kV doc pm an cdv ct) ⟨us, []⟩ = pure (ps.zip us))
    (hbody : ∀ (f : Addr) (A : Around) (outer : List PySem.Env) (s : Shared) (H : Hp) (E : XK), RoomG k (A.deeper (envOfC x (defScope st) s.heap.objs.size f (.ref c))) →
      ∃ t, PSs (cxOf CX0 P w K mg base N x (defScope st) f (.ref c) A outer s H E).nox (defBody st) t ∧ ∀ as β r β', R as β r β' → BodyR K t (startR N as) β r β') : FnH P w K mg base (k + 1) x ps R := by
  obtain ⟨f, oc, od, kV, doc, pm, an, ct, osl, ha, lk, hcd, kp⟩ := F.ex
  have len : ∀ vs H Q E, spR K R vs H Q E → vs.length = ps.length := fun vs H Q E hsp => by
    obtain ⟨b, G, β, as, r, β', _, _, _, hd, hR, _⟩ := hsp
    rw [hd.length]
    exact hlen _ _ _ _ hR
  refine ⟨f, _, PySem.W.mg_of hX hG ha, ⟨len, fun A outer s H args us vs Q E hr e0 hbd rv hsp => LamX.run_ofS lk hcd S hr.toRoom e0 hbd rv (len _ _ _ _ hsp) fun _ => ?_⟩, (fun s us _ hl => ?_), kp⟩
  · obtain ⟨t, h1, h2⟩ := hbody f A outer s H E (hr.deeper _)
    exact ⟨t, h1.nox, fn_read h2 hsp⟩
  · rw [List.append_nil] at hl ⊢
    exact .of_eq (hb f kV doc pm an (.ref c) ct us hl)
end
/-- the fields that occur -/
theorem fld_given : TO.Fld "given" := ⟨by decide, fun _ _ => by rfl, fun _ _ _ _ => by rfl, fun _ _ _ _ => by rfl, fun _ _ _ _ _ _ => by rfl, fun _ _ _ _ _ _ => by rfl, fun _ _ _ _ _ _ _ _ _ _ _ _ _ _ _ => BindsTo.of_eq (by first | rfl | with_unfolding_all rfl), fun _ => by simp [List.lookup]⟩
theorem fld_most : TO.Fld "most" := ⟨by decide, fun _ _ => by rfl, fun _ _ _ _ => by rfl, fun _ _ _ _ => by rfl, fun _ _ _ _ _ _ => by rfl, fun _ _ _ _ _ _ => by rfl, fun _ _ _ _ _ _ _ _ _ _ _ _ _ _ _ => BindsTo.of_eq (by first | rfl | with_unfolding_all rfl), fun _ => by simp [List.lookup]⟩
theorem fld_reason : TO.Fld "reason" := ⟨by decide, fun _ _ => by rfl, fun _ _ _ _ => by rfl, fun _ _ _ _ => by rfl, fun _ _ _ _ _ _ => by rfl, fun _ _ _ _ _ _ => by rfl, fun _ _ _ _ _ _ _ _ _ _ _ _ _ _ _ => BindsTo.of_eq (by first | rfl | with_unfolding_all rfl), fun _ => by simp [List.lookup]⟩
end TD
/-! ## TdA -/
set_option Elab.async false
set_option linter.all false
set_option maxRecDepth 100000
set_option maxHeartbeats 4100000
/-! A list of one's own, in a slot, that grows while other things are done. -/
namespace TD
open PySem L2 PySem.Spec PyProof.Rows
open Evl (Ex ex_l ex_t fresh_back sq_of st_of sz_of sz_lt)
/-- slot i holds a list at p that nothing else knows -/
structure OwnL [TabW] (K : PySem.W.Frag) (b : Addr) (β : Bag) (i : Nat) (p : Addr) (G H : Hp) (σ : L2.St) (ρ : Rho) (ds : List Dt) : Prop where
  env : EnvD K b β G H σ ρ
  slot : ρ[i]? = some none
  at_ : σ[i]? = some (some (.ref p))
  free : G p = none
  nb : β.isSome = true → p ≠ b
  val : ∃ ws, H p = some (.lst ws) ∧ DenL K G ws ds
structure StO [TabW] (K : PySem.W.Frag) (i : Nat) (ts : TS) (ρ : Rho) (β : Bag) (ds : List Dt) (o : Out) (β' : Bag) : Prop where
  som : β'.isSome = β.isSome
  run : ∀ (b : Addr) (G0 H0 G H : Hp) (σ : L2.St) (p : Addr) (D : Ends), Gone H0 p → Step b β.isSome G0 H0 G H → OwnL K b β i p G H σ ρ ds → OutOk K b β.isSome β' G0 H0 D o → ts D σ H
section
variable [TabW] {K : PySem.W.Frag} {b : Addr} {ρ : Rho} {β β1 β2 : Bag} {ta : TA} {te : TE} {tw : TS} {d : Dt} {ds : List Dt} {o : Out} {i j : Nat} {G H G0 H0 : Hp} {σ : L2.St} {p : Addr}
/-- nothing but the slot is told anew -/
theorem EnvD.forget {i : Nat} {v : V} (E : EnvD K b β G H σ ρ) : EnvD K b β G H (σ.set i (some v)) (ρ.set i none) := by
  have E' := (E.set (i := i) (v := .non) (d := .none) .non).unset (i := i)
  rw [List.set_set, List.set_set] at E'
  by_cases h : i < ρ.length
  · have q : (ρ.set i none)[i]? = some none := List.getElem?_set_self h
    have E2 := E'.put (v := some v) q
    rw [List.set_set] at E2
    exact E2
  · have hr : ρ.set i none = ρ := List.set_eq_of_length_le (by omega)
    have hs : σ.set i (some v) = σ := List.set_eq_of_length_le (by rw [E.len]; omega)
    rw [hr, hs]
    exact E
theorem so_end (h : StB K tw (ρ.set i (some (.imm (.list ds)))) β o β1) : StO K i tw ρ β ds o β1 := by
  refine ⟨h.som, fun b G0 H0 G H σ p D gn s w k => ?_⟩
  obtain ⟨ws, hp, dw⟩ := w.val
  have ex : Ex G (upd G p (.lst ws)) := Ex.new w.free
  have s2 : Step b β.isSome G0 H0 (upd G p (.lst ws)) H := by
    refine ⟨s.g.trans ex, fun a u z => ?_, fun a u h1 t h2 => ?_, s.keep, s.stay, fun t => ⟨(s.tabs t).tab, fun x ps z => ?_⟩⟩
    · by_cases q : a = p
      · subst q; rw [upd_same] at z; cases z; exact hp
      · rw [upd_ne q] at z; exact s.s a u z
    · rw [upd_ne (gn.ne t h2)]
      exact s.fresh a u h1 t h2
    · by_cases q : x = p
      · rw [q, upd_same] at z; cases z
      · rw [upd_ne q] at z; exact (s.tabs t).free x ps z
  have E := w.env
  have E2 : EnvD K b β (upd G p (.lst ws)) H σ ρ := by
    refine ⟨s2.s, fun ns e => ⟨(E.bagk ns e).1, ?_⟩, E.len, fun i d q => ?_, E.bagv, ⟨E.tabs.tab, fun x ps z => ?_⟩, E.fnv⟩
    · rw [upd_ne (Ne.symm (w.nb (by rw [e]; rfl)))]
      exact (E.bagk ns e).2
    · obtain ⟨v, h1, h2⟩ := E.imm i d q
      exact ⟨v, h1, h2.mono ex⟩
    · by_cases q : x = p
      · rw [q, upd_same] at z; cases z
      · rw [upd_ne q] at z; exact E.tabs.free x ps z
  have E3 := E2.set (i := i) (v := .ref p) (d := .list ds) (.lst upd_same (dw.mono ex))
  have e : σ.set i (some (.ref p)) = σ := by
    apply List.ext_getElem?
    intro n
    by_cases q : i = n
    · subst q
      rw [List.getElem?_set_self (List.getElem?_eq_some_iff.mp w.at_).1, w.at_]
    · rw [List.getElem?_set_ne q]
  rw [e] at E3
  exact h.run b _ H σ D E3 (k.of (D' := D) s2)
theorem so_app (h : EvB K te ρ β d β1) (hz : ds.length ≤ 1000) (h' : StO K i tw ρ β1 (ds ++ [d]) o β2) : StO K i (tSeq (tDrop (tBM K "list" rAppend (tVar i) (tCons te tNil))) tw) ρ β ds o β2 := by
  refine ⟨h'.som.trans h.som, fun b G0 H0 G H σ p D gn s w k => ?_⟩
  obtain ⟨ws, hp, dw⟩ := w.val
  refine ⟨_, w.at_, .inl ⟨rfl, ws, sq_of hp⟩, ?_⟩
  refine h.run b G H σ _ w.env fun y G1 H1 s1 k1 d1 => ?_
  have hp1 : H1 p = some (.lst ws) := s1.keep p _ w.nb NoT.lst hp
  have gp1 : G1 p = none := s1.fresh p _ w.free NoT.lst hp
  have hl := dw.length
  refine ⟨p, ws, y, rfl, rfl, hp1, sz_lt (by omega), ?_⟩
  have nb1 : β1.isSome = true → p ≠ b := fun z => w.nb (h.som ▸ z)
  have s2 := (s.trans s1).mut (ob := .lst (ws ++ [y])) gn gp1 (LstAt.of hp1)
  refine h'.run b G0 H0 G1 _ σ p D gn (by rw [h.som]; exact s2) ⟨(w.env.step s1 k1).mutl gp1 nb1 (LstAt.of hp1), w.slot, w.at_, gp1, nb1, ws ++ [y], upd_same, (dw.mono s1.g).append (.cons d1 .nil)⟩ (by rw [h.som]; exact k)
theorem so_asg (hij : i ≠ j) (h : EvB K te ρ β d β1) (h' : StO K i tw (ρ.set j (some (.imm d))) β1 ds o β2) : StO K i (tSeq (tAsg te (gName j)) tw) ρ β ds o β2 := by
  refine ⟨h'.som.trans h.som, fun b G0 H0 G H σ p D gn s w k => ?_⟩
  obtain ⟨ws, hp, dw⟩ := w.val
  refine h.run b G H σ _ w.env fun y G1 H1 s1 k1 d1 => ?_
  have hp1 : H1 p = some (.lst ws) := s1.keep p _ w.nb NoT.lst hp
  have gp1 : G1 p = none := s1.fresh p _ w.free NoT.lst hp
  refine h'.run b G0 H0 G1 H1 _ p D gn (by rw [h.som]; exact s.trans s1) ⟨(w.env.step s1 k1).set d1, ?_, ?_, gp1, fun z => w.nb (h.som ▸ z), ws, hp1, dw.mono s1.g⟩ (by rw [h.som]; exact k)
  · rw [List.getElem?_set_ne (Ne.symm hij)]
    exact w.slot
  · rw [List.getElem?_set_ne (Ne.symm hij)]
    exact w.at_
theorem st_ownL (hi : i < ρ.length) (h : EvA K ta ρ β (imms ds) β1) (hz : ds.length ≤ 1000) (h' : StO K i tw (ρ.set i none) β1 ds o β2) : StB K (tSeq (tAsg (tLst ta) (gName i)) tw) ρ β o β2 := by
  refine ⟨h'.som.trans h.som, fun b G H σ D E k => ?_⟩
  refine h.run b G H σ _ E fun vs G1 H1 s1 k1 d1 => ?_
  have dl := d1.imm
  have hl := dl.length
  refine ⟨sz_of (by omega), fun p hp => ?_⟩
  have gp : G1 p = none := fresh_back s1.s hp
  have nb : β1.isSome = true → p ≠ b := bag_ne k1 rfl hp
  have E1 := E.step s1 k1
  have s2 : Step b β1.isSome G1 H1 G1 (upd H1 p (.lst vs)) := (Step.refl s1.s).mut (Gone.none hp) gp (LstAt.none hp)
  have hil : i < σ.length := by rw [E.len]; exact hi
  have E2 := (E1.mutl (o := .lst vs) gp nb (LstAt.none hp)).forget (i := i) (v := .ref p)
  have gn : Gone H1 p := Gone.none hp
  refine h'.run b G1 H1 G1 _ _ p D gn s2 ⟨E2, List.getElem?_set_self hi, List.getElem?_set_self hil, gp, nb, vs, upd_same, dl⟩ ?_
  rw [h.som]
  exact k.of (D' := D) s1
end
end TD
/-! ## TdR -/
set_option Elab.async false
set_option linter.all false
set_option maxRecDepth 100000
set_option maxHeartbeats 4100000
/-! More rules over data: lists of ranges, sorted ints, repeated lists and tuples, zip of lists, an empty dict, joined texts. -/
namespace TD
open PySem L2 PySem.Spec PyProof.Rows
open RZ
open Evl (Ex ex_l ex_t fresh_back sq_of st_of sz_of sz_lt)
section
variable [TabW] {K : PySem.W.Frag} {b : Addr} {ρ ρx : Rho} {β β1 β2 β3 : Bag} {ta tb te : TE} {tt : TT} {x y d : Dt} {G H G1 H1 : Hp} {σ : L2.St}
/-- the pairs of two lists -/
theorem d_lcZL {i j : Nat} {vs : List Nat} {xs ys rs : List Dt} (hx : EvB K ta ρ β (.list xs) β1) (hy : EvB K tb ρ β1 (.list ys) β2) (hxy : xs.length = ys.length) (h : LcZ K i j tt te (xs.zip ys) (wipeR ρ vs) β2 rs β3) (hz : rs.length ≤ 100000)
    (hi : i ∈ vs) (hj : j ∈ vs) : EvB K (tLc (iZipA K (tCons ta (tCons tb tNil))) (gTup K 2 (gCons (gName i) (gCons (gName j) gNil))) tt te vs) ρ β (.list rs) β3 := by
  refine ⟨h.som.trans (hy.som.trans hx.som), fun b G H σ Q E k => ?_⟩
  refine hx.run b G H σ _ E fun v G0 H0 s0 k0 d0 => ?_
  have E0 := E.step s0 k0
  refine hy.run b G0 H0 σ _ E0 fun w G1 H1 s1 k1 d1 => ?_
  have E1 := E0.step s1 k1
  rw [hx.som] at s1
  have d0' := d0.mono s1.g
  have s01 := s0.trans s1
  cases d0' with
  | @lst a vsx _ hs hd =>
    cases d1 with
    | @lst c vsy _ hs' hd' =>
      refine ⟨a, c, vsx, vsy, rfl, .inl ⟨sq_of (s1.s _ _ hs), sq_of (s1.s _ _ hs'), fun Dl hD => ?_⟩⟩
      have nb := bag_ne k1 (hy.som.trans hx.som) hD
      have hl : (xs.zip ys).length = xs.length := by rw [List.length_zip]; omega
      have lx := hd.length
      have ly := hd'.length
      refine ⟨fun n q H' => q = xs.length - n ∧ n ≤ xs.length ∧ LcW K b β.isSome G1 H1 Dl rs β3 (fun rest β' => LcZ K i j tt te ((xs.zip ys).drop n) (wipeR ρ vs) β' rest β3) H', ⟨xs.length, by simp, Nat.zero_le _, lc_start s1.s hD k1 (hy.som.trans hx.som) nb h⟩, ?_⟩
      rintro n q H' ⟨rfl, hn, w'⟩
      have hG : Ex G1 H' := by
        obtain ⟨G', β', done, rest, acc, s', _⟩ := w'
        exact s'.g.trans s'.s
      by_cases hlt : n < xs.length
      · have h1 : vsx[n]? = some (vsx[n]'(by omega)) := List.getElem?_eq_getElem (by omega)
        have h2 : vsy[n]? = some (vsy[n]'(by omega)) := List.getElem?_eq_getElem (by omega)
        obtain ⟨dx, e1, e2⟩ := hd.get h1
        obtain ⟨dy, e3, e4⟩ := hd'.get h2
        refine .inr ⟨⟨vsx, vsy, _, _, sq_of (hG _ _ hs), sq_of (hG _ _ hs'), h1, h2⟩, fun H2 => LcW K b β.isSome G1 H1 Dl rs β3 (fun rest β' => LcZ K i j tt te ((xs.zip ys).drop (n + 1)) (wipeR ρ vs) β' rest β3) H2, fun H2 w2 => ⟨xs.length - (n + 1), by omega, rfl, hlt, w2⟩, ?_⟩
        rintro x H2 ⟨T, vx, vy, rfl, hT, rfl, f1, f2⟩
        have g1 := f1 vsx (sq_of (hG _ _ hs))
        have g2 := f2 vsy (sq_of (hG _ _ hs'))
        rw [h1] at g1
        rw [h2] at g2
        cases g1
        cases g2
        refine ⟨T, _, rfl, st_of upd_same, rfl, _, _, rfl, _, _, rfl, rfl, ?_⟩
        refine ⟨by rw [wipe_set hj, wipe_set hi, wipe_wipe], ?_⟩
        have e5 : (xs.zip ys).drop n = (dx, dy) :: (xs.zip ys).drop (n + 1) := by
          have hlt' : n < (xs.zip ys).length := by omega
          rw [List.drop_eq_getElem_cons (hlt')]
          congr 1
          rw [List.getElem_zip]
          have q1 := (List.getElem?_eq_some_iff.mp e1).2
          have q2 := (List.getElem?_eq_some_iff.mp e3).2
          rw [q1, q2]
        rw [e5] at w'
        refine lc_turnG (ρx := ((wipeR ρ vs).set i (some (Slot.imm dx))).set j (some (Slot.imm dy))) hD nb hz (fun G' β' s' kb' => ?_) ?_ (w'.new hT)
        · exact (((E1.wipe vs).step s' kb').set (e2.mono s'.g)).set (e4.mono s'.g)
        · rintro rest β' hr
          cases hr with
          | yes a1 a2 a3 => exact ⟨_, _, _, _, rfl, a1, a2, a3⟩
      · have e6 : n = xs.length := by omega
        subst e6
        refine .inl ⟨⟨vsx, vsy, sq_of (hG _ _ hs), sq_of (hG _ _ hs'), .inl (by omega)⟩, ?_⟩
        have e7 : (xs.zip ys).drop xs.length = [] := by rw [List.drop_eq_nil_iff]; omega
        rw [e7] at w'
        obtain ⟨G', β', done, rest, acc, s', kb', hm', gD', hH', ha', hr', hp'⟩ := w'
        cases hp'
        refine lc_end (j := 0) (ρ := ρ) (tt := tt) (te := te) s1.s hD nb ⟨G', β3, done, [], acc, s', kb', hm', gD', hH', ha', hr', .nil _ _⟩ fun v G'' H'' s'' kb'' dv => k v G'' H'' (s01.trans s'') kb'' dv

theorem rgV_ints (a b : Int) : rgV a b = ((List.range (b - a).toNat).map fun (i : Nat) => a + (i : Int)).map V.int := by
  unfold rgV
  rw [List.map_map]
  rfl
theorem d_listRg {i j : Int} (ha : EvB K ta ρ β (.int i) β1) (hb : EvB K tb ρ β1 (.int j) β2) (ok : RgOk i j) : EvB K (tLstRg (tRg2 ta tb)) ρ β (.list (((List.range (j - i).toNat).map fun (n : Nat) => i + (n : Int)).map PyData.int)) β2 := by
  refine ⟨hb.som.trans ha.som, fun b G H σ Q E k => ?_⟩
  refine ha.run b G H σ _ E fun v G1 H1 s1 k1 d1 => ?_
  refine hb.run b G1 H1 σ _ (E.step s1 k1) fun w G2 H2 s2 k2 d2 => ?_
  rw [ha.som] at s2
  cases d1
  cases d2
  refine ⟨i, j, rfl, rfl, ok, fun q hq => ?_⟩
  have n := Step.new (b := b) (m := false) (o := .lst (rgV i j)) s2.s hq
  refine k (.ref q) _ _ ((s1.trans s2).trans n.up) (k2.same n) (.lst upd_same ?_)
  rw [rgV_ints]
  exact DenL.of_ints _
/-- the sorted ints are told -/
theorem d_sortI {ns ms : List Int} (h : EvB K te ρ β (.list (ns.map .int)) β1) (hl : ns.length < 64) (hp : ms.Perm ns) (hs : ms.Pairwise (· ≤ ·)) : EvB K (tCB (rSorted K) (tCons te tNil)) ρ β (.list (ms.map .int)) β1 := d_c1 h fun b G H v Q e dv k => by
  cases dv with
  | @lst a xs _ h1 h2 =>
    have := h2.ints
    subst this
    refine ⟨a, ns, rfl, sq_of (e _ _ h1), hl, fun ns' p q1 q2 hq => ?_⟩
    have e1 : ns' = ms := PySem.W.ksm_same (q1.trans hp.symm) q2 hs
    subst e1
    have n := Step.new (b := b) (m := false) (o := .lst (ns'.map V.int)) e hq
    exact k _ _ _ n (.lst upd_same (DenL.of_ints _))
theorem DenL.rep {vs : List V} {ds : List Dt} (h : DenL K G vs ds) : ∀ n : Nat, DenL K G (List.replicate n vs).flatten (List.replicate n ds).flatten
  | 0 => .nil
  | n + 1 => by
    rw [List.replicate_succ, List.flatten_cons, List.replicate_succ, List.flatten_cons]
    exact h.append (DenL.rep h n)
/-- a list, so many times -/
theorem d_repL {ds : List Dt} {k : Int} (ha : EvB K ta ρ β (.list ds) β1) (hb : EvB K tb ρ β1 (.int k) β2) (h1 : -(2 ^ 63) ≤ k) (h2 : k < 2 ^ 63) (hz : ds.length * k.toNat ≤ 100000) : EvB K (tOp L2.rRep ta tb) ρ β (.list (List.replicate k.toNat ds).flatten) β2 :=
  d_op ha hb fun b G H v w Q e dv dw kk => by
    cases dw
    cases dv with
    | @lst a xs _ hs hd =>
      refine ⟨a, k, xs, rfl, rfl, e _ _ hs, h1, h2, by rw [hd.length]; exact sz_of hz, fun p hp => ?_⟩
      have n := Step.new (b := b) (m := false) (o := .lst (List.replicate k.toNat xs).flatten) e hp
      exact kk _ _ _ n (.lst upd_same ((hd.mono n.g).rep _))
theorem d_repT {ds : List Dt} {k : Int} (ha : EvB K ta ρ β (.tuple ds) β1) (hb : EvB K tb ρ β1 (.int k) β2) (hn : ds ≠ []) (h1 : 2 ≤ k) (h2 : k ≤ 1000) (hz : ds.length ≤ 1000) : EvB K (tOp (rRepT K) ta tb) ρ β (.tuple (List.replicate k.toNat ds).flatten) β2 :=
  d_op ha hb fun b G H v w Q e dv dw kk => by
    cases dw
    cases dv with
    | @tup a xs _ hs hd =>
      refine ⟨a, k, xs, rfl, rfl, ex_t e hs, (fun z => by rw [z] at hd; cases hd; exact hn rfl), h1, h2, by rw [hd.length]; exact hz, fun p hp => ?_⟩
      have n := Step.new (b := b) (m := false) (o := .tup (List.replicate k.toNat xs).flatten) e hp
      exact kk _ _ _ n (.tup (st_of upd_same) ((hd.mono n.g).rep _))
/-- {} -/
theorem d_dict0 : EvB K tDNewK ρ β (.dict []) β := by
  refine ⟨rfl, fun b G H σ Q E k => fun p hp => ?_⟩
  have n := Step.new (b := b) (m := false) (o := .dK []) E.sub hp
  exact k (.ref p) _ _ n.up (E.bagk.same n) (.dct upd_same)
theorem d_addS {i j : Str} (ha : EvB K ta ρ β (.str i) β1) (hb : EvB K tb ρ β1 (.str j) β2) (hz : i.length + j.length ≤ sizeLine) : EvB K (tOp rAddS ta tb) ρ β (.str (i ++ j)) β2 := d_op ha hb fun b G H v w Q e dv dw kk => by
  cases dv
  cases dw
  exact ⟨i, j, rfl, rfl, hz, kk _ G H (Step.refl e) (.str _)⟩
/-- a test that is known from elsewhere -/
theorem d_ofI {i j : Int} (h : EvB K te ρ β (.int i) β1) (e : i = j) : EvB K te ρ β (.int j) β1 := e ▸ h
end

/-! ### a list made by a comprehension, changed by place -/
section
variable [TabW] {K : PySem.W.Frag} {b : Addr} {ρ : Rho} {β β1 β2 β3 : Bag} {ta te tk : TE} {tt : TT} {tw : TS} {d : Dt} {ds rs : List Dt} {o : Out} {i j : Nat} {G H G1 H1 : Hp} {σ : L2.St}
theorem st_ownLcR1 {l : Nat} {vs : List Nat} {n : Int} (hi : i < ρ.length) (hl : EvB K ta ρ β (.int n) β1) (hb : -(2 ^ 62) ≤ n ∧ n < 2 ^ 62) (h : LcR K l tt te (rng 0 n.toNat) (wipeR ρ vs) β1 rs β2) (hz : rs.length ≤ 1000)
    (hw : ∀ (σ : L2.St) x, wipe ((wipe σ vs).set l (some x)) vs = wipe σ vs) (h' : StO K i tw (ρ.set i none) β2 rs o β3) : StB K (tSeq (tAsg (tLc (iRng1 (tCons ta tNil)) (gName l) tt te vs) (gName i)) tw) ρ β o β3 := by
  refine ⟨h'.som.trans (h.som.trans hl.som), fun b G H σ D E k => ?_⟩
  unfold tSeq tAsg tLc
  refine a_int1 (te := ta) (i := n) hl _ rfl E fun G1 H1 s1 k1 => ?_
  refine ⟨hb.1, hb.2, fun Dl hD => ?_⟩
  have E1 := E.step s1 k1
  have nb := bag_ne k1 hl.som hD
  refine lc_range (lo := 0) (n := n.toNat) (fun i' H' => LcW K b β.isSome G1 H1 Dl rs β2 (fun rest β' => LcR K l tt te ((rng 0 n.toNat).drop i') (wipeR ρ vs) β' rest β2) H') ?_ ?_ ?_
  · exact lc_start s1.s hD k1 hl.som nb h
  · rintro i' H' hlt w'
    rw [rng_drop hlt] at w'
    exact ⟨hw σ _, lc_turn hD nb (by omega) (fun G' H' β' s' kb' => (E1.wipe vs).step s' kb') (.int _) w'⟩
  · rintro H' w'
    have e : (rng 0 n.toNat).drop n.toNat = [] := by rw [List.drop_eq_nil_iff, rng_length]; exact Nat.le_refl _
    rw [e] at w'
    obtain ⟨G', β', done, rest, acc, s', kb', hm', gD', hH', ha', hr', r'⟩ := w'
    cases r'
    rw [List.append_nil] at hr'
    subst hr'
    have nb' : β2.isSome = true → Dl ≠ b := fun z => nb (by rw [← hm']; exact z)
    have hil : i < σ.length := by rw [E.len]; exact hi
    refine h'.run b G1 H1 G' H' _ Dl D (Gone.none hD) (by rw [hm']; exact s') ⟨(E1.step s' kb').forget, List.getElem?_set_self hi, List.getElem?_set_self hil, gD', nb', acc, hH', ha'⟩ ?_
    rw [hm']
    exact k.of (D' := D) s1
theorem DenL.put : ∀ {vs : List V} {ds : List Dt} {v : V} {d : Dt} (n : Nat), DenL K G vs ds → Den K G v d → DenL K G (vs.set n v) (ds.set n d)
  | [], [], _, _, _, h, _ => h
  | [], _ :: _, _, _, _, h, _ => nomatch h
  | _ :: _, [], _, _, _, h, _ => nomatch h
  | _ :: _, _ :: _, _, _, 0, .cons _ h2, h => .cons h h2
  | _ :: _, _ :: _, _, _, n + 1, .cons h1 h2, h => .cons h1 (DenL.put n h2 h)
/-- xs[k] = e, xs one's own -/
theorem so_set {k : Int} {n : Nat} (h : EvB K te ρ β d β1) (hk : EvB K tk ρ β1 (.int k) β2) (hn : ixN ds.length k = some n) (h' : StO K i tw ρ β2 (ds.set n d) o β3) : StO K i (tSeq (tAsg te (gSub (tVar i) tk rSetL)) tw) ρ β ds o β3 := by
  refine ⟨h'.som.trans (hk.som.trans h.som), fun b G0 H0 G H σ p D gn s w q => ?_⟩
  obtain ⟨ws, hp, dw⟩ := w.val
  refine h.run b G H σ _ w.env fun y G1 H1 s1 k1 d1 => ?_
  have hp1 : H1 p = some (.lst ws) := s1.keep p _ w.nb NoT.lst hp
  have gp1 : G1 p = none := s1.fresh p _ w.free NoT.lst hp
  have nb1 : β1.isSome = true → p ≠ b := fun z => w.nb (h.som ▸ z)
  refine ⟨_, w.at_, ?_⟩
  have E1 := w.env.step s1 k1
  refine hk.run b G1 H1 σ _ E1 fun z G2 H2 s2 k2 d2 => ?_
  have hp2 : H2 p = some (.lst ws) := s2.keep p _ nb1 NoT.lst hp1
  have gp2 : G2 p = none := s2.fresh p _ gp1 NoT.lst hp1
  have nb2 : β2.isSome = true → p ≠ b := fun z => nb1 (hk.som ▸ z)
  cases d2
  refine ⟨p, ws, k, n, rfl, rfl, hp2, by rw [dw.length]; exact hn, ?_⟩
  rw [h.som] at s2
  have s3 := ((s.trans s1).trans s2).mut (ob := .lst (ws.set n y)) gn gp2 (LstAt.of hp2)
  have e : β2.isSome = β.isSome := hk.som.trans h.som
  refine h'.run b G0 H0 G2 _ σ p D gn (by rw [e]; exact s3) ⟨(E1.step s2 k2).mutl gp2 nb2 (LstAt.of hp2), w.slot, w.at_, gp2, nb2, ws.set n y, upd_same, (dw.mono (s1.g.trans s2.g)).put n (d1.mono s2.g)⟩ (by rw [e]; exact q)
end
end TD
/-! ## K03a -/
set_option Elab.async false
set_option linter.all false
set_option maxRecDepth 100000
set_option maxHeartbeats 1100000
namespace K03
open PySem L2 TD PySem.Spec PyProof.Rows
def top (i : Nat) : Stmt := PySem.Challenge.pw_tangentrows_k03_whole_determinants_and_t.main.body.getD i (.Pass ⟨0, 0, 0, 0⟩)
variable [TabW]
structure Cn where
  tg : Tok
  tr : Tok
  tw : Tok
  ts : Tok
  aP : Addr
  cN : Addr
  cB : Addr
  cO : Addr
  cR : Addr
  c1 : Addr
  P1 : Addr
  c2 : Addr
  P2 : Addr
  c3 : Addr
  P3 : Addr
def Cn.T (Y : Cn) : List (Addr × Str) := [(Y.P1, ("_law_undone_right.<locals>.<lambda>" : Str)), (Y.P2, ("_law_errors_right.<locals>.<lambda>" : Str)), (Y.P3, ("_law_bounds_right.<locals>.<lambda>" : Str))]
structure Txt (K : PySem.W.Frag) (mg : Str → Option Value) (Y : Cn) : Prop where
  z_abs : mg "abs" = none
  z_all : mg "all" = none
  z_any : mg "any" = none
  z_bool : mg "bool" = none
  z_enumerate : mg "enumerate" = none
  z_int : mg "int" = none
  z_isinstance : mg "isinstance" = none
  z_len : mg "len" = none
  z_list : mg "list" = none
  z_max : mg "max" = none
  z_min : mg "min" = none
  z_range : mg "range" = none
  z_repr : mg "repr" = none
  z_sorted : mg "sorted" = none
  z_sum : mg "sum" = none
  z_tuple : mg "tuple" = none
  z_zip : mg "zip" = none
  m_gcd : mg "gcd" = some (.builtin "math.gcd")
  o_InvalidNumber : OwnC K mg "InvalidNumber" "given" Y.cN
  o_Refused : OwnC K mg "Refused" "reason" Y.cR
  b_InvalidTable : BareC K mg "InvalidTable" Y.cB
  b_InvalidOperation : BareC K mg "InvalidOperation" Y.cO
  eNN : PySem.W.exmOne K (.ref Y.cN) (.ref Y.cN) = some true
  eBN : PySem.W.exmOne K (.ref Y.cB) (.ref Y.cN) = some false
  eBB : PySem.W.exmOne K (.ref Y.cB) (.ref Y.cB) = some true
  eON : PySem.W.exmOne K (.ref Y.cO) (.ref Y.cN) = some false
  eOB : PySem.W.exmOne K (.ref Y.cO) (.ref Y.cB) = some false
  eOO : PySem.W.exmOne K (.ref Y.cO) (.ref Y.cO) = some true
  eRN : PySem.W.exmOne K (.ref Y.cR) (.ref Y.cN) = some false
  eRB : PySem.W.exmOne K (.ref Y.cR) (.ref Y.cB) = some false
  eRO : PySem.W.exmOne K (.ref Y.cR) (.ref Y.cO) = some false
  eRR : PySem.W.exmOne K (.ref Y.cR) (.ref Y.cR) = some true
  n12 : Y.P1 ≠ Y.P2
  n13 : Y.P1 ≠ Y.P3
  n23 : Y.P2 ≠ Y.P3
  tabw : ∀ P q, TabW.w P q ↔ (P, q) ∈ Y.T
  c_TOO_GREAT : mg "TOO_GREAT" = some (.int Num.big Y.tg)
  c_MAX_ROWS : mg "MAX_ROWS" = some (.int 90 Y.tr)
  c_MAX_WIDTH : mg "MAX_WIDTH" = some (.int 140 Y.tw)
  c_MAX_SQUARE : mg "MAX_SQUARE" = some (.int 6 Y.ts)
  c_PRIMES : mg "PRIMES" = some (.ref Y.aP)
  q_PRIMES : ∀ G, Den K G (.ref Y.aP) (.tuple (Num.primes.map PyData.int))
/-- functions of one datum, of two, of three: how the data look, when, what comes back -/
def f1 {α : Type} (a : α → Dt) (P : α → Prop) (g : α → Dt) : FR := fun as β r β' => ∃ x, as = [.imm (a x)] ∧ P x ∧ r = g x ∧ β = none ∧ β' = none
def f2 {α α' : Type} (a : α → Dt) (a' : α' → Dt) (P : α → α' → Prop) (g : α → α' → Dt) : FR := fun as β r β' => ∃ x y, as = [.imm (a x), .imm (a' y)] ∧ P x y ∧ r = g x y ∧ β = none ∧ β' = none
def f3 {α α' α'' : Type} (a : α → Dt) (a' : α' → Dt) (a'' : α'' → Dt) (P : α → α' → α'' → Prop) (g : α → α' → α'' → Dt) : FR := fun as β r β' => ∃ x y z, as = [.imm (a x), .imm (a' y), .imm (a'' z)] ∧ P x y z ∧ r = g x y z ∧ β = none ∧ β' = none
theorem st_sq {K : PySem.W.Frag} {tu tw : TS} {ρ ρ1 : Rho} {β β2 : Bag} {o : Out} (h : StB K tu ρ β (.nx ρ1) β) (h' : StB K tw ρ1 β o β2) : StB K (tSeq tu tw) ρ β o β2 := st_seq h h'
theorem at0 {α : Type} (x : α) (xs : List α) : atI (x :: xs) 0 = some x := by
  have h := atI_nat (xs := x :: xs) (j := 0) (v := x) rfl
  exact h
theorem rng_upto (lo : Int) (n : Nat) : rng lo n = (Num.upto lo n).map PyData.int := by
  unfold rng Num.upto
  rw [List.map_map]
  rfl
abbrev anyD : Dt → Dt := fun d => d
abbrev tupI : List Int → Dt := fun ns => .tuple (ns.map PyData.int)
abbrev lstI : List Int → Dt := fun ns => .list (ns.map PyData.int)
theorem tupI_inj {ms ns : List Int} (h : tupI ms = tupI ns) : ms = ns := by
  have e : ms.map PyData.int = ns.map PyData.int := PyData.tuple.inj h
  have := congrArg (List.map Num.toI) e
  rw [Num.map_toI, Num.map_toI] at this
  exact this
section
variable {K : PySem.W.Frag} {ρ : Rho} {β β1 β2 β3 : Bag} {ta tb tc : TE} {E : XK} {α α' α'' : Type} {a : α → Dt} {a' : α' → Dt} {a'' : α'' → Dt} {x : α} {y : α'} {z : α''}
theorem c_f1 {P : α → Prop} {g : α → Dt} (h : EvB K ta ρ β (a x) β1) (hp : P x) : EvB K (tCall (spR K (f1 a P g)) [] E (tCons ta tNil)) ρ β (g x) β1 := d_call0 (a_con h a_nil) ⟨x, rfl, hp, rfl, rfl, rfl⟩
theorem c_f2 {P : α → α' → Prop} {g : α → α' → Dt} (h : EvB K ta ρ β (a x) β1) (h' : EvB K tb ρ β1 (a' y) β2) (hp : P x y) : EvB K (tCall (spR K (f2 a a' P g)) [] E (tCons ta (tCons tb tNil))) ρ β (g x y) β2 := d_call0 (a_con h (a_con h' a_nil)) ⟨x, y, rfl, hp, rfl, rfl, rfl⟩
theorem c_f3 {P : α → α' → α'' → Prop} {g : α → α' → α'' → Dt} (h : EvB K ta ρ β (a x) β1) (h' : EvB K tb ρ β1 (a' y) β2) (h'' : EvB K tc ρ β2 (a'' z) β3) (hp : P x y z) : EvB K (tCall (spR K (f3 a a' a'' P g)) [] E (tCons ta (tCons tb (tCons tc tNil)))) ρ β (g x y z) β3 := d_call0 (a_con h (a_con h' (a_con h'' a_nil))) ⟨x, y, z, rfl, hp, rfl, rfl, rfl⟩
end
local macro_rules | `(tactic| walk_at "side") => `(tactic| first | trivial | assumption | omega | rfl | decide | (refine .inl ?_; walk_at "side") | (refine .inr ?_; walk_at "side") | (refine And.intro ?_ ?_ <;> walk_at "side"))
local macro_rules | `(tactic| walk_at "ev") => `(tactic| first
  | ((with_reducible refine' d_var ?h1); (case h1 => exact rfl))
  | with_reducible exact d_int | with_reducible exact d_bl | with_reducible exact d_non | with_reducible exact d_str
  | ((with_reducible refine' d_ref ?h1); (case h1 => assumption))
  | ((with_reducible refine' d_add ?e1 ?e2); (case e1 => walk_at "ev"); (case e2 => walk_at "ev"))
  | ((with_reducible refine' d_sub ?e1 ?e2); (case e1 => walk_at "ev"); (case e2 => walk_at "ev"))
  | ((with_reducible refine' d_lt ?e1 ?e2); (case e1 => walk_at "ev"); (case e2 => walk_at "ev"))
  | ((with_reducible refine' d_le ?e1 ?e2); (case e1 => walk_at "ev"); (case e2 => walk_at "ev"))
  | ((with_reducible refine' d_gt ?e1 ?e2); (case e1 => walk_at "ev"); (case e2 => walk_at "ev"))
  | ((with_reducible refine' d_ge ?e1 ?e2); (case e1 => walk_at "ev"); (case e2 => walk_at "ev"))
  | ((with_reducible refine' d_eqI ?e1 ?e2); (case e1 => walk_at "ev"); (case e2 => walk_at "ev"))
  | ((with_reducible refine' d_neI ?e1 ?e2); (case e1 => walk_at "ev"); (case e2 => walk_at "ev"))
  | ((with_reducible refine' d_eqS ?e1 ?e2); (case e1 => walk_at "ev"); (case e2 => walk_at "ev"))
  | ((with_reducible refine' d_neS ?e1 ?e2); (case e1 => walk_at "ev"); (case e2 => walk_at "ev"))
  | ((with_reducible refine' d_neg ?e1); (case e1 => walk_at "ev"))
  | ((with_reducible refine' d_mul ?e1 ?e2 ?c1); (case e1 => walk_at "ev"); (case e2 => walk_at "ev"); (case c1 => walk_at "side"))
  | ((with_reducible refine' d_mod ?e1 ?e2 ?c1); (case e1 => walk_at "ev"); (case e2 => walk_at "ev"); (case c1 => walk_at "side"))
  | ((with_reducible refine' d_div ?e1 ?e2 ?c1); (case e1 => walk_at "ev"); (case e2 => walk_at "ev"); (case c1 => walk_at "side"))
  | ((with_reducible refine' d_pow ?e1 ?e2 ?c1); (case e1 => walk_at "ev"); (case e2 => walk_at "ev"); (case c1 => walk_at "side"))
  | ((with_reducible refine' d_fdiv ?e1 ?e2 ?c1); (case e1 => walk_at "ev"); (case e2 => walk_at "ev"); (case c1 => walk_at "side"))
  | ((with_reducible refine' d_eqTT ?e1 ?e2); (case e1 => walk_at "ev"); (case e2 => walk_at "ev"))
  | ((with_reducible refine' d_neTT ?e1 ?e2); (case e1 => walk_at "ev"); (case e2 => walk_at "ev"))
  | ((with_reducible refine' d_eqLL ?e1 ?e2); (case e1 => walk_at "ev"); (case e2 => walk_at "ev"))
  | ((with_reducible refine' d_neLL ?e1 ?e2); (case e1 => walk_at "ev"); (case e2 => walk_at "ev"))
  | ((with_reducible refine' d_anyT ?e1); (case e1 => walk_at "ev"))
  | ((with_reducible refine' d_chLtLt ?e1 ?e2 ?e3); (case e1 => walk_at "ev"); (case e2 => walk_at "ev"); (case e3 => walk_at "ev"))
  | ((with_reducible refine' d_chLeLt ?e1 ?e2 ?e3); (case e1 => walk_at "ev"); (case e2 => walk_at "ev"); (case e3 => walk_at "ev"))
  | ((with_reducible refine' d_chLeLe ?e1 ?e2 ?e3); (case e1 => walk_at "ev"); (case e2 => walk_at "ev"); (case e3 => walk_at "ev"))
  | ((with_reducible refine' d_abs ?e1); (case e1 => walk_at "ev"))
  | ((with_reducible refine' d_intI ?e1); (case e1 => walk_at "ev"))
  | ((with_reducible refine' d_intB ?e1); (case e1 => walk_at "ev"))
  | ((with_reducible refine' d_max2 ?e1 ?e2); (case e1 => walk_at "ev"); (case e2 => walk_at "ev"))
  | ((with_reducible refine' d_min2 ?e1 ?e2); (case e1 => walk_at "ev"); (case e2 => walk_at "ev"))
  | ((with_reducible refine' d_gcd ?e1 ?e2); (case e1 => walk_at "ev"); (case e2 => walk_at "ev"))
  | ((with_reducible refine' d_isInt ?e1); (case e1 => walk_at "ev"))
  | ((with_reducible refine' d_isBool ?e1); (case e1 => walk_at "ev"))
  | ((with_reducible refine' d_isTup ?e1); (case e1 => walk_at "ev"))
  | ((with_reducible refine' d_isStr ?e1); (case e1 => walk_at "ev"))
  | ((with_reducible refine' d_reprB ?e1); (case e1 => walk_at "ev"))
  | ((with_reducible refine' d_len ?e1 ?c1); (case e1 => walk_at "ev"); (case c1 => first | exact .inl rfl | exact .inr rfl))
  | ((with_reducible refine' d_listOf ?e1 ?c1); (case e1 => walk_at "ev"); (case c1 => first | exact .inl rfl | exact .inr rfl))
  | ((with_reducible refine' d_tupleOf ?e1); (case e1 => walk_at "ev"))
  | ((with_reducible refine' d_sum ?e1); (case e1 => walk_at "ev"))
  | ((with_reducible refine' d_not ?e1); (case e1 => walk_at "ev"))
  | ((with_reducible refine' d_andF (EvB.to ?e1 ?q1)); (case e1 => walk_at "ev"); (case q1 => exact rfl))
  | ((with_reducible refine' d_andT (EvB.to ?e1 ?q1) ?e2); (case e1 => walk_at "ev"); (case q1 => exact rfl); (case e2 => walk_at "ev"))
  | ((with_reducible refine' d_and ?e1 ?e2); (case e1 => walk_at "ev"); (case e2 => intro hp; walk_at "ev"))
  | ((with_reducible refine' d_orT (EvB.to ?e1 ?q1)); (case e1 => walk_at "ev"); (case q1 => exact rfl))
  | ((with_reducible refine' d_orF (EvB.to ?e1 ?q1) ?e2); (case e1 => walk_at "ev"); (case q1 => exact rfl); (case e2 => walk_at "ev"))
  | ((with_reducible refine' d_or ?e1 ?e2); (case e1 => walk_at "ev"); (case e2 => intro hp; walk_at "ev"))
  | ((with_reducible refine' d_inI ?e1 ?e2 ?c1); (case e1 => walk_at "ev"); (case e2 => walk_at "ev"); (case c1 => first | exact .inl rfl | exact .inr rfl))
  | ((with_reducible refine' d_tup ?e1 ?c1 ?c2); (case e1 => walk_at "ea"); (case c1 => exact rfl); (case c2 => walk_at "side"))
  | ((with_reducible refine' d_lst ?e1 ?c1 ?c2); (case e1 => walk_at "ea"); (case c1 => exact rfl); (case c2 => walk_at "side"))
  | ((with_reducible refine' c_f1 ?e1 ?c1); (case e1 => walk_at "ev"); (case c1 => walk_at "side"))
  | ((with_reducible refine' c_f2 ?e1 ?e2 ?c1); (case e1 => walk_at "ev"); (case e2 => walk_at "ev"); (case c1 => walk_at "side"))
  | ((with_reducible refine' c_f3 ?e1 ?e2 ?e3 ?c1); (case e1 => walk_at "ev"); (case e2 => walk_at "ev"); (case e3 => walk_at "ev"); (case c1 => walk_at "side")))
local macro_rules | `(tactic| walk_at "ea") => `(tactic| first
  | with_reducible exact a_nil
  | ((with_reducible refine' a_con ?e1 ?e2); (case e1 => walk_at "ev"); (case e2 => walk_at "ea")))
local macro_rules | `(tactic| walk_at "tt") => `(tactic| first
  | ((with_reducible refine' t_test ?e1); (case e1 => walk_at "ev"))
  | ((with_reducible refine' t_B ?e1); (case e1 => walk_at "ev"))
  | ((with_reducible refine' t_not ?e1); (case e1 => walk_at "tt"))
  | ((with_reducible refine' t_andF (TtB.to ?e1 ?q1)); (case e1 => walk_at "tt"); (case q1 => exact rfl))
  | ((with_reducible refine' t_andT (TtB.to ?e1 ?q1) ?e2); (case e1 => walk_at "tt"); (case q1 => exact rfl); (case e2 => walk_at "tt"))
  | ((with_reducible refine' t_and ?e1 ?e2); (case e1 => walk_at "tt"); (case e2 => intro hp; walk_at "tt"))
  | ((with_reducible refine' t_orT (TtB.to ?e1 ?q1)); (case e1 => walk_at "tt"); (case q1 => exact rfl))
  | ((with_reducible refine' t_orF (TtB.to ?e1 ?q1) ?e2); (case e1 => walk_at "tt"); (case q1 => exact rfl); (case e2 => walk_at "tt"))
  | ((with_reducible refine' t_or ?e1 ?e2); (case e1 => walk_at "tt"); (case e2 => intro hp; walk_at "tt"))
  | ((with_reducible refine' t_truthI ?e1); (case e1 => walk_at "ev")))
local macro_rules | `(tactic| walk_at "to") => `(tactic| (refine' EvB.to ?e ?q; (case e => walk_at "ev")))
local macro_rules | `(tactic| walk_at "ret") => `(tactic| (refine' .ret (st_ret (EvB.to ?e ?q)); (case e => walk_at "ev")))


abbrev s_is_integer : Stmt := top 10
theorem sc_is_integer : FnScope ["value"] ["value"] (defScope s_is_integer) := ⟨rfl, rfl, rfl, by decide +kernel, rfl, by decide +kernel, by decide +kernel⟩
abbrev R_is_integer : FR := f1 anyD (fun _ => True) fun d => .bool (Num.isInteger d)
theorem ok_is_integer {P : Program} {w : World} {K : PySem.W.Frag} {mg : Str → Option Value} {base : Heap} {Y : Cn} (F : DefAt K "is_integer" s_is_integer) (hX : K.In base) (hG : base.Ns mainGlobals mg) (T : Txt K mg Y)  : FnG P w K mg base 1 "is_integer" ["value"] R_is_integer := by
  have nd := sc_is_integer.nd
  refine fn_mk F hX hG sc_is_integer (fun as β r β' h => by first | exact FR.len h | (obtain ⟨_, rfl, _⟩ := h; rfl) | (obtain ⟨_, _, rfl, _⟩ := h; rfl) | (obtain ⟨_, _, _, rfl, _⟩ := h; rfl) | (obtain ⟨_, _, _, _, rfl, _⟩ := h; rfl) | (obtain ⟨_, _, _, _, _, rfl, _⟩ := h; rfl)) (fun _ _ _ _ _ _ _ us hl => match us, hl with | [_], _ => rfl) (fun f cdv A outer s H E hr => ⟨_, (pss_one (ps_ret (pe_and (pe_callB (call_isiK (K := K)) (by rfl) T.z_isinstance bo_isinstance (pa_cons (pv 0) (pa_cons (pe_bltn (v := .ty "int") (by rfl) T.z_int bo_int rfl) pa_nil))) (pe_and (pe_not (pe_callB (call_isiK (K := K)) (by rfl) T.z_isinstance bo_isinstance (pa_cons (pv 0) (pa_cons (pe_bltn (v := .ty "bool") (by rfl) T.z_bool bo_bool rfl) pa_nil)))) (pe_one (pe_chain op_lt op_lt (pe_un un_neg (pe_glob (v := .int _) (by rfl) T.c_TOO_GREAT ⟨_, rfl⟩)) (pv 0) (pe_glob (v := .int _) (by rfl) T.c_TOO_GREAT ⟨_, rfl⟩))))))), fun as β r β' hR => ?_⟩)
  obtain ⟨d, rfl, _, rfl, rfl, rfl⟩ := hR
  dsimp only [cxOf, Cx.nox, Cx.wish]
  cases d with
  | none => walk_at "ret"; rfl
  | int i => walk_at "ret"; rfl
  | _ => walk_at "ret"; rfl


abbrev s_is_prime : Stmt := top 11
theorem sc_is_prime : FnScope ["value"] ["value"] (defScope s_is_prime) := ⟨rfl, rfl, rfl, by decide +kernel, rfl, by decide +kernel, by decide +kernel⟩
abbrev R_is_prime : FR := f1 anyD (fun _ => True) fun d => .bool (Num.isPrime d)
theorem ok_is_prime {P : Program} {w : World} {K : PySem.W.Frag} {mg : Str → Option Value} {base : Heap} {Y : Cn} (F : DefAt K "is_prime" s_is_prime) (hX : K.In base) (hG : base.Ns mainGlobals mg) (T : Txt K mg Y) (G_is_integer : FnG P w K mg base 1 "is_integer" ["value"] R_is_integer) : FnG P w K mg base 2 "is_prime" ["value"] R_is_prime := by
  have nd := sc_is_prime.nd
  refine fn_mk F hX hG sc_is_prime (fun as β r β' h => by first | exact FR.len h | (obtain ⟨_, rfl, _⟩ := h; rfl) | (obtain ⟨_, _, rfl, _⟩ := h; rfl) | (obtain ⟨_, _, _, rfl, _⟩ := h; rfl) | (obtain ⟨_, _, _, _, rfl, _⟩ := h; rfl) | (obtain ⟨_, _, _, _, _, rfl, _⟩ := h; rfl)) (fun _ _ _ _ _ _ _ us hl => match us, hl with | [_], _ => rfl) (fun f cdv A outer s H E hr => ⟨_, (pss_one (ps_ret (pe_and (pe_fn G_is_integer (hr.mono (by decide)) (pa_cons (pv 0) pa_nil)) (pe_one (pe_or (pe_cmpR op_eq (pv 0) pe_int (nomark _)) (pe_one (pe_cmpR op_in_seq (pv 0) (pe_glob (v := .ref _) (by rfl) T.c_PRIMES rfl) (by rfl)))))))), fun as β r β' hR => ?_⟩)
  obtain ⟨d, rfl, _, rfl, rfl, rfl⟩ := hR
  dsimp only [cxOf, Cx.nox, Cx.wish]
  have qP := T.q_PRIMES
  cases d with
  | int p => walk_at "ret"; rw [Num.isPrime_int]
  | none => walk_at "ret"; rfl
  | _ => walk_at "ret"; rfl


abbrev s_need_prime : Stmt := top 12
theorem sc_need_prime : FnScope ["prime"] ["prime"] (defScope s_need_prime) := ⟨rfl, rfl, rfl, by decide +kernel, rfl, by decide +kernel, by decide +kernel⟩
abbrev R_need_prime (Y : Cn) : FX := fun as β r β' => ∃ d, as = [.imm d] ∧ (Num.isPrime d = true ∧ r = .ok .none ∨ Num.isPrime d = false ∧ r = .ex Y.cN (some ("given", d))) ∧ β = none ∧ β' = none
theorem ok_need_prime {P : Program} {w : World} {K : PySem.W.Frag} {mg : Str → Option Value} {base : Heap} {Y : Cn} (F : DefAt K "need_prime" s_need_prime) (hX : K.In base) (hG : base.Ns mainGlobals mg) (T : Txt K mg Y) (G_is_prime : FnG P w K mg base 2 "is_prime" ["value"] R_is_prime) : FnX P w K mg base 3 "need_prime" ["prime"] (R_need_prime Y) := by
  have nd := sc_need_prime.nd
  refine fnX_mk F hX hG sc_need_prime (fun as β r β' h => by first | exact FR.len h | (obtain ⟨_, rfl, _⟩ := h; rfl) | (obtain ⟨_, _, rfl, _⟩ := h; rfl) | (obtain ⟨_, _, _, rfl, _⟩ := h; rfl) | (obtain ⟨_, _, _, _, rfl, _⟩ := h; rfl) | (obtain ⟨_, _, _, _, _, rfl, _⟩ := h; rfl)) (fun _ _ _ _ _ _ _ us hl => match us, hl with | [_], _ => rfl) (fun f cdv A outer s H E hr => ⟨_, (pss_one (ps_if (pt_not (pt_val (pe_fn G_is_prime (hr.mono (by decide)) (pa_cons (pv 0) pa_nil)))) (pss_one (ps_raiseOwn T.o_InvalidNumber hr (takes_of rfl rfl rfl rfl) (pa_cons (pv 0) pa_nil))) pss_nil)), fun as β r β' hR => ?_⟩)
  obtain ⟨d, rfl, hd, rfl, rfl⟩ := hR
  have hc : EvB K (tCall (spR K R_is_prime) [] E0 (tCons (tVar 0) tNil)) (startR ["prime"] [.imm d]) none (.bool (Num.isPrime d)) none := c_f1 (d_var rfl) trivial
  rcases hd with ⟨h, rfl⟩ | ⟨h, rfl⟩
  · exact .ok (.fall _ (st_ifF ((t_not (t_test hc)).to (by rw [h] <;> rfl)) st_next) rfl)
  · exact .ex (stR_ifT ((t_not (t_test hc)).to (by rw [h] <;> rfl)) (st_raiseK (d_var rfl)))


abbrev s_fits : Stmt := top 13
theorem sc_fits : FnScope ["prime", "value"] ["prime", "value"] (defScope s_fits) := ⟨rfl, rfl, rfl, by decide +kernel, rfl, by decide +kernel, by decide +kernel⟩
abbrev R_fits : FR := f2 PyData.int anyD (fun _ _ => True) fun p d => .bool (Num.fits p d)
theorem ok_fits {P : Program} {w : World} {K : PySem.W.Frag} {mg : Str → Option Value} {base : Heap} {Y : Cn} (F : DefAt K "fits" s_fits) (hX : K.In base) (hG : base.Ns mainGlobals mg) (T : Txt K mg Y) (G_is_integer : FnG P w K mg base 1 "is_integer" ["value"] R_is_integer) : FnG P w K mg base 2 "fits" ["prime", "value"] R_fits := by
  have nd := sc_fits.nd
  refine fn_mk F hX hG sc_fits (fun as β r β' h => by first | exact FR.len h | (obtain ⟨_, rfl, _⟩ := h; rfl) | (obtain ⟨_, _, rfl, _⟩ := h; rfl) | (obtain ⟨_, _, _, rfl, _⟩ := h; rfl) | (obtain ⟨_, _, _, _, rfl, _⟩ := h; rfl) | (obtain ⟨_, _, _, _, _, rfl, _⟩ := h; rfl)) (fun _ _ _ _ _ _ _ us hl => match us, hl with | [_, _], _ => rfl) (fun f cdv A outer s H E hr => ⟨_, (pss_one (ps_ret (pe_and (pe_fn G_is_integer (hr.mono (by decide)) (pa_cons (pv 1) pa_nil)) (pe_one (pe_or (pe_cmpR op_eq (pv 0) pe_int (nomark _)) (pe_one (pe_chain op_le op_lt pe_int (pv 1) (pv 0)))))))), fun as β r β' hR => ?_⟩)
  obtain ⟨p, d, rfl, _, rfl, rfl, rfl⟩ := hR
  dsimp only [cxOf, Cx.nox, Cx.wish]
  cases d with
  | int p => walk_at "ret"; rfl
  | none => walk_at "ret"; rfl
  | _ => walk_at "ret"; rfl


abbrev s_all_fit : Stmt := top 14
theorem sc_all_fit : FnScope ["prime", "value", "many", "one"] ["prime", "value", "many"] (defScope s_all_fit) := ⟨rfl, rfl, rfl, by decide +kernel, rfl, by decide +kernel, by decide +kernel⟩
abbrev R_all_fit : FR := f3 PyData.int anyD PyData.int (fun _ _ n => n ≤ 1000) fun p d n => .bool (Num.allFit p n d)
theorem ok_all_fit {P : Program} {w : World} {K : PySem.W.Frag} {mg : Str → Option Value} {base : Heap} {Y : Cn} (F : DefAt K "all_fit" s_all_fit) (hX : K.In base) (hG : base.Ns mainGlobals mg) (T : Txt K mg Y) (G_fits : FnG P w K mg base 2 "fits" ["prime", "value"] R_fits) : FnG P w K mg base 3 "all_fit" ["prime", "value", "many"] R_all_fit := by
  have nd := sc_all_fit.nd
  refine fn_mk F hX hG sc_all_fit (fun as β r β' h => by first | exact FR.len h | (obtain ⟨_, rfl, _⟩ := h; rfl) | (obtain ⟨_, _, rfl, _⟩ := h; rfl) | (obtain ⟨_, _, _, rfl, _⟩ := h; rfl) | (obtain ⟨_, _, _, _, rfl, _⟩ := h; rfl) | (obtain ⟨_, _, _, _, _, rfl, _⟩ := h; rfl)) (fun _ _ _ _ _ _ _ us hl => match us, hl with | [_, _, _], _ => rfl) (fun f cdv A outer s H E hr => ⟨_, (pss_one (ps_ret (pe_and (pe_callB (call_isiK (K := K)) (by rfl) T.z_isinstance bo_isinstance (pa_cons (pv 1) (pa_cons (pe_bltn (v := .ty "tuple") (by rfl) T.z_tuple bo_tuple rfl) pa_nil))) (pe_and (pe_cmpR op_eq (pe_callB (c_lenK (K := K)) (by rfl) T.z_len bo_len (pa_cons (pv 1) pa_nil)) (pv 2) (nomark _)) (pe_one (pe_callB (cr_all rfl) (by rfl) T.z_all bo_all (pa_cons (pe_lc (own := [("one", 3)]) rfl nd (pi_tup (pv 1)) (blkOk_by (N := ["prime", "value", "many", "one"]) (sc := defScope s_all_fit) (by decide +kernel)) (fun _ _ _ _ _ => by exact (pg_name (i := 3) nd rfl (Or.inl rfl))) (fun _ _ _ _ _ => by exact pts_nil) (fun _ _ _ _ _ => by exact (pe_fn G_fits (hr.mono (by decide)) (pa_cons (pv 0) (pa_cons (pv 3) pa_nil))))) pa_nil))))))), fun as β r β' hR => ?_⟩)
  obtain ⟨p, d, n, rfl, hn, rfl, rfl, rfl⟩ := hR
  dsimp only [cxOf, Cx.nox, Cx.wish]
  cases d with
  | tuple ds =>
    refine' .ret (st_ret (EvB.to (d_andT (EvB.to ?e1 ?q1) (d_and ?e2 fun hp => d_all (bs := ds.map (Num.fits p)) ?e3)) ?q))
    case e1 => walk_at "ev"
    case q1 => rfl
    case e2 => walk_at "ev"
    case e3 =>
      have hl : ds.length ≤ 1000 := by
        have := of_decide_eq_true hp
        omega
      refine d_lcT (rs := ds.map fun d => .bool (Num.fits p d)) (d_var rfl) ?_ (by rw [List.length_map]; omega) (wipe_ok (by decide)) |>.to (by rw [List.map_map]; rfl)
      refine LcR.map (fun d => .bool (Num.fits p d)) fun d _ => ?_
      walk_at "ev"
    case q =>
      show PyData.bool _ = PyData.bool _
      rw [List.all_map]
      rfl
  | none => walk_at "ret"; rfl
  | _ => walk_at "ret"; rfl


abbrev s_settled : Stmt := top 15
theorem sc_settled : FnScope ["prime", "number"] ["prime", "number"] (defScope s_settled) := ⟨rfl, rfl, rfl, by decide +kernel, rfl, by decide +kernel, by decide +kernel⟩
abbrev R_settled : FR := f2 PyData.int PyData.int (fun p _ => 0 ≤ p) fun p n => .int (Num.settled p n)
theorem ok_settled {P : Program} {w : World} {K : PySem.W.Frag} {mg : Str → Option Value} {base : Heap} {Y : Cn} (F : DefAt K "settled" s_settled) (hX : K.In base) (hG : base.Ns mainGlobals mg) (T : Txt K mg Y)  : FnG P w K mg base 1 "settled" ["prime", "number"] R_settled := by
  have nd := sc_settled.nd
  refine fn_mk F hX hG sc_settled (fun as β r β' h => by first | exact FR.len h | (obtain ⟨_, rfl, _⟩ := h; rfl) | (obtain ⟨_, _, rfl, _⟩ := h; rfl) | (obtain ⟨_, _, _, rfl, _⟩ := h; rfl) | (obtain ⟨_, _, _, _, rfl, _⟩ := h; rfl) | (obtain ⟨_, _, _, _, _, rfl, _⟩ := h; rfl)) (fun _ _ _ _ _ _ _ us hl => match us, hl with | [_, _], _ => rfl) (fun f cdv A outer s H E hr => ⟨_, (pss_one (ps_ret (pe_ifExp (pt_tru (pv 0)) (pe_op op_mod (pv 1) (pv 0)) (pv 1)))), fun as β r β' hR => ?_⟩)
  obtain ⟨p, n, rfl, hp, rfl, rfl, rfl⟩ := hR
  dsimp only [cxOf, Cx.nox, Cx.wish]
  refine .ret (st_ret ?_)
  by_cases h : p = 0
  · subst h
    refine' d_ifF (TtB.to ?t ?q) (EvB.to ?e ?q2)
    case t => walk_at "tt"
    case q => rfl
    case e => walk_at "ev"
    case q2 => rfl
  · have h0 : 0 < p := by omega
    refine' d_ifT (TtB.to ?t ?q) (EvB.to ?e ?q2)
    case t => walk_at "tt"
    case q => simpa using h
    case e => walk_at "ev"
    case q2 => unfold Num.settled; rw [if_pos h]


abbrev s_inverse_of : Stmt := top 16
theorem sc_inverse_of : FnScope ["prime", "number", "other"] ["prime", "number"] (defScope s_inverse_of) := ⟨rfl, rfl, rfl, by decide +kernel, rfl, by decide +kernel, by decide +kernel⟩
abbrev R_inverse_of : FR := f2 PyData.int PyData.int (fun p a => Num.PrimeI p ∧ p ≠ 0 ∧ 0 < a ∧ a < p) fun p a => .int (Num.inv p a)
theorem ok_inverse_of {P : Program} {w : World} {K : PySem.W.Frag} {mg : Str → Option Value} {base : Heap} {Y : Cn} (F : DefAt K "inverse_of" s_inverse_of) (hX : K.In base) (hG : base.Ns mainGlobals mg) (T : Txt K mg Y)  : FnG P w K mg base 1 "inverse_of" ["prime", "number"] R_inverse_of := by
  have nd := sc_inverse_of.nd
  refine fn_mk F hX hG sc_inverse_of (fun as β r β' h => by first | exact FR.len h | (obtain ⟨_, rfl, _⟩ := h; rfl) | (obtain ⟨_, _, rfl, _⟩ := h; rfl) | (obtain ⟨_, _, _, rfl, _⟩ := h; rfl) | (obtain ⟨_, _, _, _, rfl, _⟩ := h; rfl) | (obtain ⟨_, _, _, _, _, rfl, _⟩ := h; rfl)) (fun _ _ _ _ _ _ _ us hl => match us, hl with | [_, _], _ => rfl) (fun f cdv A outer s H E hr => ⟨_, (pss_one (ps_ret (pe_ix ix_list (pe_lc (own := [("other", 2)]) rfl nd (pi_range2 (by rfl) T.z_range (pa_cons pe_int (pa_cons (pv 0) pa_nil))) (blkOk_by (N := ["prime", "number", "other"]) (sc := defScope s_inverse_of) (by decide +kernel)) (fun _ _ _ _ _ => by exact (pg_name (i := 2) nd rfl (Or.inl rfl))) (fun _ _ _ _ _ => by exact (pts_one (pt_cmpR op_eq (pe_op op_mod (pe_op op_mulW (pv 1) (pv 2)) (pv 0)) pe_int (nomark _)))) (fun _ _ _ _ _ => by exact (pv 2))) pe_int (fun _ _ => rfl)))), fun as β r β' hR => ?_⟩)
  obtain ⟨p, a, rfl, ⟨hp, h0, h1, h2⟩, rfl, rfl, rfl⟩ := hR
  dsimp only [cxOf, Cx.nox, Cx.wish]
  have hs := hp.small
  obtain ⟨rest, hi⟩ := Num.inv_cons hp h0 h1 h2
  refine .ret (st_ret (d_ixL (ds := (Num.invs p a).map PyData.int) (i := 0) ?e1 d_int (by rw [hi]; exact at0 _ _)))
  refine d_lcR2 (lo := 1) (i := p) d_int (d_var rfl) (by omega) ?_ (by rw [List.length_map]; exact Nat.le_trans (List.length_filter_le _ _) (by unfold Num.upto; rw [List.length_map, List.length_range]; omega)) (wipe_ok (by decide))
  rw [rng_upto]
  refine lc_ints (fun o => decide (a * o % p = 1)) PyData.int (ns := Num.upto 1 (p - 1).toNat) (fun o ho => ?_) fun o ho hf => ?_
  · have ho' : 1 ≤ o ∧ o < p := by
      obtain ⟨i, hi, hj⟩ := List.mem_map.mp ho
      have := List.mem_range.mp hi
      omega
    have hw : CMulW a o := wide_mul (a := 10) (b := 10) (by omega) (by omega) (by decide) (by decide) (by decide)
    walk_at "tt"
  · walk_at "ev"


abbrev s_divisor_of : Stmt := top 17
theorem sc_divisor_of : FnScope ["numbers", "shared", "number"] ["numbers"] (defScope s_divisor_of) := ⟨rfl, rfl, rfl, by decide +kernel, rfl, by decide +kernel, by decide +kernel⟩
abbrev R_divisor_of : FR := fun as β r β' => ∃ d ns, as = [.imm d] ∧ SeqD d (ns.map PyData.int) ∧ r = .int (Num.gcdL 0 ns) ∧ β = none ∧ β' = none
theorem ok_divisor_of {P : Program} {w : World} {K : PySem.W.Frag} {mg : Str → Option Value} {base : Heap} {Y : Cn} (F : DefAt K "divisor_of" s_divisor_of) (hX : K.In base) (hG : base.Ns mainGlobals mg) (T : Txt K mg Y)  : FnG P w K mg base 1 "divisor_of" ["numbers"] R_divisor_of := by
  have nd := sc_divisor_of.nd
  refine fn_mk F hX hG sc_divisor_of (fun as β r β' h => by first | exact FR.len h | (obtain ⟨_, rfl, _⟩ := h; rfl) | (obtain ⟨_, _, rfl, _⟩ := h; rfl) | (obtain ⟨_, _, _, rfl, _⟩ := h; rfl) | (obtain ⟨_, _, _, _, rfl, _⟩ := h; rfl) | (obtain ⟨_, _, _, _, _, rfl, _⟩ := h; rfl)) (fun _ _ _ _ _ _ _ us hl => match us, hl with | [_], _ => rfl) (fun f cdv A outer s H E hr => ⟨_, (pss_cons (ps_set (i := 1) nd rfl (Or.inl rfl) pe_int) (pss_cons (ps_for PassesOwn.never rfl (pi_seq (pv 0)) (pg_name (i := 2) nd rfl (Or.inl rfl)) (pss_cons (ps_set (i := 1) nd rfl (Or.inl rfl) (pe_callBfun cr_gcd (by rfl) T.m_gcd (pa_cons (pv 1) (pa_cons (pv 2) pa_nil)))) (pss_one (ps_if (pt_cmpR op_eq (pv 1) pe_int (nomark _)) (pss_one (ps_ret pe_int)) pss_nil)))) (pss_one (ps_ret (pv 1))))), fun as β r β' hR => ?_⟩)
  obtain ⟨d, ns, rfl, hd, rfl, rfl, rfl⟩ := hR
  dsimp only [cxOf, Cx.nox, Cx.wish]
  have loop : ∀ (ns : List Int) (s : Int) (v : Option Slot), (Num.gcdL s ns = 1 ∧ ForR K 2 (tSeq (tAsg (tCB rGcd (tCons (tVar 1) (tCons (tVar 2) tNil))) (gName 1)) (tIfS (tTest (tOp rEq (tVar 1) (tC (.int 1)))) (tRet (tC (.int 1))) tNext)) (ns.map PyData.int) [some (.imm d), some (.imm (.int s)), v] none (.ret (.int 1)) none) ∨
      ∃ w, ForR K 2 (tSeq (tAsg (tCB rGcd (tCons (tVar 1) (tCons (tVar 2) tNil))) (gName 1)) (tIfS (tTest (tOp rEq (tVar 1) (tC (.int 1)))) (tRet (tC (.int 1))) tNext)) (ns.map PyData.int) [some (.imm d), some (.imm (.int s)), v] none (.nx [some (.imm d), some (.imm (.int (Num.gcdL s ns))), w]) none := by
    intro ns
    induction ns with
    | nil => exact fun s v => .inr ⟨v, .nil _ _⟩
    | cons n ns ih =>
      intro s v
      have h1 : StB K (tAsg (tCB rGcd (tCons (tVar 1) (tCons (tVar 2) tNil))) (gName 1)) [some (.imm d), some (.imm (.int s)), some (.imm (.int n))] none (.nx [some (.imm d), some (.imm (.int (Num.gcdI s n))), some (.imm (.int n))]) none := st_asg (d_gcd (d_var rfl) (d_var rfl))
      by_cases hg : Num.gcdI s n = 1
      · refine .inl ⟨by show Num.gcdL (Num.gcdI s n) ns = 1; rw [hg, Num.gcdL_one], .ret (st_sq h1 (st_ifT ((t_test (d_eqI (d_var rfl) d_int)).to (decide_eq_true hg)) (st_ret d_int)))⟩
      · have h2 : StB K (tSeq (tAsg (tCB rGcd (tCons (tVar 1) (tCons (tVar 2) tNil))) (gName 1)) (tIfS (tTest (tOp rEq (tVar 1) (tC (.int 1)))) (tRet (tC (.int 1))) tNext)) [some (.imm d), some (.imm (.int s)), some (.imm (.int n))] none (.nx [some (.imm d), some (.imm (.int (Num.gcdI s n))), some (.imm (.int n))]) none :=
          st_sq h1 (st_ifF ((t_test (d_eqI (d_var rfl) d_int)).to (decide_eq_false hg)) st_next)
        rcases ih (Num.gcdI s n) (some (.imm (.int n))) with ⟨h3, h4⟩ | ⟨w, h4⟩
        · exact .inl ⟨h3, .nx h2 h4⟩
        · exact .inr ⟨w, .nx h2 h4⟩
  refine .ret (st_sq (st_asg d_int) ?_)
  rcases loop ns 0 none with ⟨h1, h2⟩ | ⟨w, h2⟩
  · rw [h1]
    exact st_seqR (st_forQ (d_var rfl) hd h2)
  · exact st_sq (st_forQ (d_var rfl) hd h2) (st_ret (d_var rfl))


abbrev s_made_normal : Stmt := top 18
theorem sc_made_normal : FnScope ["prime", "numbers", "first", "number", "times", "shared"] ["prime", "numbers"] (defScope s_made_normal) := ⟨rfl, rfl, rfl, by decide +kernel, rfl, by decide +kernel, by decide +kernel⟩
abbrev R_made_normal : FR := fun as β r β' => ∃ p d ns, as = [.imm (.int p), .imm d] ∧ (SeqD d (ns.map PyData.int) ∧ Num.MadeOk p ns) ∧ r = tupI (Num.made p ns) ∧ β = none ∧ β' = none
theorem ok_made_normal {P : Program} {w : World} {K : PySem.W.Frag} {mg : Str → Option Value} {base : Heap} {Y : Cn} (F : DefAt K "made_normal" s_made_normal) (hX : K.In base) (hG : base.Ns mainGlobals mg) (T : Txt K mg Y) (G_divisor_of : FnG P w K mg base 1 "divisor_of" ["numbers"] R_divisor_of) (G_inverse_of : FnG P w K mg base 1 "inverse_of" ["prime", "number"] R_inverse_of) : FnG P w K mg base 2 "made_normal" ["prime", "numbers"] R_made_normal := by
  have nd := sc_made_normal.nd
  refine fn_mk F hX hG sc_made_normal (fun as β r β' h => by first | exact FR.len h | (obtain ⟨_, rfl, _⟩ := h; rfl) | (obtain ⟨_, _, rfl, _⟩ := h; rfl) | (obtain ⟨_, _, _, rfl, _⟩ := h; rfl) | (obtain ⟨_, _, _, _, rfl, _⟩ := h; rfl) | (obtain ⟨_, _, _, _, _, rfl, _⟩ := h; rfl)) (fun _ _ _ _ _ _ _ us hl => match us, hl with | [_, _], _ => rfl) (fun f cdv A outer s H E hr => ⟨_, (pss_cons (ps_set (i := 2) nd rfl (Or.inl rfl) (pe_ix ix_list (pe_lc (own := [("number", 3)]) rfl nd (pi_seq (pv 1)) (blkOk_by (N := ["prime", "numbers", "first", "number", "times", "shared"]) (sc := defScope s_made_normal) (by decide +kernel)) (fun _ _ _ _ _ => by exact (pg_name (i := 3) nd rfl (Or.inl rfl))) (fun _ _ _ _ _ => by exact (pts_one (pt_cmpR op_ne (pv 3) pe_int (nomark _)))) (fun _ _ _ _ _ => by exact (pv 3))) pe_int (fun _ _ => rfl))) (pss_cons (ps_if (pt_tru (pv 0)) (pss_cons (ps_set (i := 4) nd rfl (Or.inr rfl) (pe_fn G_inverse_of (hr.mono (by decide)) (pa_cons (pv 0) (pa_cons (pv 2) pa_nil)))) (pss_one (ps_ret (pe_callTy c_tuple (by rfl) T.z_tuple bo_tuple (pa_cons (pe_lc (own := [("number", 3)]) rfl nd (pi_seq (pv 1)) (blkOk_by (N := ["prime", "numbers", "first", "number", "times", "shared"]) (sc := defScope s_made_normal) (by decide +kernel)) (fun _ _ _ _ _ => by exact (pg_name (i := 3) nd rfl (Or.inl rfl))) (fun _ _ _ _ _ => by exact pts_nil) (fun _ _ _ _ _ => by exact (pe_op op_mod (pe_op op_mulW (pv 3) (pv 4)) (pv 0)))) pa_nil))))) pss_nil) (pss_cons (ps_set (i := 5) nd rfl (Or.inr rfl) (pe_fn G_divisor_of (hr.mono (by decide)) (pa_cons (pv 1) pa_nil))) (pss_cons (ps_if (pt_cmpR op_lt (pv 2) pe_int (nomark _)) (pss_one (ps_set (i := 5) nd rfl (Or.inr rfl) (pe_un un_neg (pv 5)))) pss_nil) (pss_one (ps_ret (pe_callTy c_tuple (by rfl) T.z_tuple bo_tuple (pa_cons (pe_lc (own := [("number", 3)]) rfl nd (pi_seq (pv 1)) (blkOk_by (N := ["prime", "numbers", "first", "number", "times", "shared"]) (sc := defScope s_made_normal) (by decide +kernel)) (fun _ _ _ _ _ => by exact (pg_name (i := 3) nd rfl (Or.inl rfl))) (fun _ _ _ _ _ => by exact pts_nil) (fun _ _ _ _ _ => by exact (pe_op op_fdivV (pv 3) (pv 5)))) pa_nil)))))))), fun as β r β' hR => ?_⟩)
  obtain ⟨p, d, ns, rfl, ⟨hd, hM⟩, rfl, rfl, rfl⟩ := hR
  dsimp only [cxOf, Cx.nox, Cx.wish]
  obtain ⟨rest, hf, hm, hn0⟩ := Num.first_cons hM.ex
  have hl := hM.len
  refine .ret (st_sq (st_asg (d := .int (Num.firstI ns)) (d_ixL (ds := (ns.filter fun n => !decide (n = 0)).map PyData.int) (i := 0) ?e1 d_int (by rw [hf]; exact at0 _ _))) ?_)
  case e1 =>
    refine d_lcQ (d_var rfl) hd ?_ (by rw [List.length_map]; exact Nat.le_trans (List.length_filter_le _ _) (by omega)) (wipe_ok (by decide))
    exact lc_ints (fun n => !decide (n = 0)) PyData.int (fun n _ => t_test (d_neI (d_var rfl) d_int)) fun n _ _ => d_var rfl
  by_cases h0 : p = 0
  · subst h0
    refine st_sq (st_ifF ((t_truthI (d_var rfl)).to rfl) st_next) ?_
    have hc : EvB K (tCall (spR K R_divisor_of) [] E0 (tCons (tVar 1) tNil)) ((startR ["prime", "numbers", "first", "number", "times", "shared"] [.imm (.int 0), .imm d]).set 2 (some (.imm (.int (Num.firstI ns))))) none (.int (Num.gcdL 0 ns)) none := d_call0 (a_con (d_var rfl) a_nil) ⟨d, ns, rfl, hd, rfl, rfl, rfl⟩
    refine st_sq (st_asg hc) ?_
    have hg := Num.gcdL_pos hM.ex
    have hz := Num.log_lt (Nat.lt_of_le_of_lt (Num.gcdL_le hm hn0) (hM.sz _ hm))
    have fin : ∀ (g : Int) (ρ : Rho), ρ[1]? = some (some (.imm d)) → ρ[5]? = some (some (.imm (.int g))) → ρ.length = 6 → CDivV 0 g → EvB K (tCB (rTupleOf K) (tCons (tLc (iSeq K (tVar 1)) (gName 3) tYes (tOp (rI CDivV fun i j => V.int (i.fdiv j)) (tVar 3) (tVar 5)) [3]) tNil)) ρ none (tupI (ns.map fun n => n.fdiv g)) none := by
      intro g ρ e1 e5 e6 hgd
      refine d_tupleOf ?_
      refine d_lcQ (d_var e1) hd ?_ (by rw [List.length_map, List.length_map]; omega) (wipe_ok (by decide))
      rw [List.map_map]
      refine lc_ints' (fun n => .int (n.fdiv g)) fun n _ => ?_
      have e5' : ((wipeR ρ [3]).set 3 (some (Slot.imm (PyData.int n))))[5]? = some (some (.imm (.int g))) := by
        show ((ρ.set 3 none).set 3 _)[5]? = _
        rw [List.set_set, List.getElem?_set_ne (by decide)]
        exact e5
      have e3' : ((wipeR ρ [3]).set 3 (some (Slot.imm (PyData.int n))))[3]? = some (some (.imm (.int n))) := by
        show ((ρ.set 3 none).set 3 _)[3]? = _
        rw [List.set_set, List.getElem?_set_self (by rw [e6]; decide)]
      exact d_fdiv (d_var e3') (d_var e5') hgd
    by_cases h1 : Num.firstI ns < 0
    · refine st_sq (st_ifT ((t_test (d_lt (d_var rfl) d_int)).to (decide_eq_true h1)) (st_asg (d_neg (d_var rfl)))) (st_ret ((fin (-(Num.gcdL 0 ns)) _ rfl rfl rfl ⟨by omega, by rw [Int.natAbs_neg]; exact hz⟩).to ?_))
      unfold Num.made
      rw [if_neg (by simp), if_pos h1]
    · refine st_sq (st_ifF ((t_test (d_lt (d_var rfl) d_int)).to (decide_eq_false h1)) st_next) (st_ret ((fin (Num.gcdL 0 ns) _ rfl rfl rfl ⟨by omega, hz⟩).to ?_))
      unfold Num.made
      rw [if_neg (by simp), if_neg h1]
  · obtain ⟨f1, f2⟩ := hM.first h0
    obtain ⟨i1, i2, i3⟩ := Num.inv_lt hM.pr h0 f1 f2
    have hs := hM.pr.small
    refine st_seqR (st_ifT ((t_truthI (d_var rfl)).to (by simpa using h0)) ?_)
    refine st_sq (st_asg (c_f2 (d_var rfl) (d_var rfl) ⟨hM.pr, h0, f1, f2⟩)) (st_ret ((d_tupleOf (ds := (ns.map fun n => n * Num.inv p (Num.firstI ns) % p).map PyData.int) ?_).to ?_))
    · refine d_lcQ (d_var rfl) hd ?_ (by rw [List.length_map, List.length_map]; omega) (wipe_ok (by decide))
      rw [List.map_map]
      refine lc_ints' (fun n => .int (n * Num.inv p (Num.firstI ns) % p)) fun n hn => ?_
      have hb := hM.lt h0 n hn
      have hw : CMulW n (Num.inv p (Num.firstI ns)) := wide_mul (a := 10) (b := 10) (by omega) (by omega) (by decide) (by decide) (by decide)
      have hp0 : 0 < p := by omega
      exact d_mod (d_mul (d_var rfl) (d_var rfl) hw) (d_var rfl) hp0
    · unfold Num.made
      rw [if_pos h0]

end K03
/-! ## NumDet -/
set_option linter.all false
/-! Determinants by their first rows, in plain Lean: rows exchanged, rows added, rows turned into columns. -/
namespace Det
def skip (i r : Nat) : Nat := if r < i then r else r + 1
def unskip (a b : Nat) : Nat := if b < a then b else b - 1
def sgn (j : Nat) : Int := if j % 2 = 0 then 1 else -1
def sumN : Nat → (Nat → Int) → Int
  | 0, _ => 0
  | n + 1, f => sumN n f + f n
abbrev Mat := Nat → Nat → Int
def minor (A : Mat) (i j : Nat) : Mat := fun r c => A (skip i r) (skip j c)
def det : Nat → Mat → Int
  | 0, _ => 1
  | n + 1, A => sumN (n + 1) fun j => sgn j * A 0 j * det n (minor A 0 j)
def tr (A : Mat) : Mat := fun i j => A j i
def setRow (A : Mat) (r : Nat) (u : Nat → Int) : Mat := fun i j => if i = r then u j else A i j
/-! ### sums -/
theorem sum_congr {n : Nat} {f g : Nat → Int} (h : ∀ i, i < n → f i = g i) : sumN n f = sumN n g := by
  induction n with
  | zero => rfl
  | succ n ih =>
    show sumN n f + f n = sumN n g + g n
    rw [ih fun i hi => h i (by omega), h n (by omega)]
theorem sum_zero (n : Nat) : sumN n (fun _ => 0) = 0 := by
  induction n with
  | zero => rfl
  | succ n ih => show sumN n _ + 0 = 0; rw [ih]; rfl
theorem sum_add (n : Nat) (f g : Nat → Int) : sumN n (fun i => f i + g i) = sumN n f + sumN n g := by
  induction n with
  | zero => rfl
  | succ n ih => show sumN n _ + (f n + g n) = sumN n f + f n + (sumN n g + g n); rw [ih]; omega
theorem sum_mul (n : Nat) (c : Int) (f : Nat → Int) : sumN n (fun i => c * f i) = c * sumN n f := by
  induction n with
  | zero => show (0 : Int) = c * 0; rw [Int.mul_zero]
  | succ n ih => show sumN n _ + c * f n = c * (sumN n f + f n); rw [ih, Int.mul_add]
theorem sum_neg (n : Nat) (f : Nat → Int) : sumN n (fun i => -f i) = -sumN n f := by
  induction n with
  | zero => rfl
  | succ n ih => show sumN n _ + -f n = -(sumN n f + f n); rw [ih]; omega
theorem sum_comm (m n : Nat) (f : Nat → Nat → Int) : sumN m (fun i => sumN n fun j => f i j) = sumN n (fun j => sumN m fun i => f i j) := by
  induction m with
  | zero => show (0 : Int) = _; exact (sum_zero n).symm
  | succ m ih =>
    show sumN m _ + sumN n (fun j => f m j) = sumN n fun j => sumN m (fun i => f i j) + f m j
    rw [ih, sum_add]
theorem sum_first (n : Nat) (f : Nat → Int) : sumN (n + 1) f = f 0 + sumN n fun i => f (i + 1) := by
  induction n with
  | zero => show 0 + f 0 = f 0 + 0; omega
  | succ n ih =>
    show sumN (n + 1) f + f (n + 1) = f 0 + (sumN n (fun i => f (i + 1)) + f (n + 1))
    rw [ih]; omega
theorem sum_skip : ∀ (n a : Nat) (f : Nat → Int), a < n + 1 → sumN n (fun k => f (skip a k)) = sumN (n + 1) (fun b => if b = a then 0 else f b)
  | 0, a, f, h => by
    have : a = 0 := by omega
    subst this
    show (0 : Int) = 0 + (if 0 = 0 then 0 else f 0)
    rw [if_pos rfl]; rfl
  | n + 1, a, f, h => by
    by_cases ha : a = n + 1
    · subst ha
      show sumN (n + 1) _ = sumN (n + 1) _ + (if n + 1 = n + 1 then 0 else f (n + 1))
      rw [if_pos rfl, Int.add_zero]
      exact sum_congr fun i hi => by unfold skip; rw [if_pos hi, if_neg (by omega)]
    · show sumN n _ + f (skip a n) = sumN (n + 1) _ + (if n + 1 = a then 0 else f (n + 1))
      rw [sum_skip n a f (by omega), if_neg (fun z => ha z.symm)]
      unfold skip
      rw [if_neg (by omega)]
/-! ### by the first column -/
theorem det_congr : ∀ (n : Nat) {A B : Mat}, (∀ i j, i < n → j < n → A i j = B i j) → det n A = det n B
  | 0, _, _, _ => rfl
  | n + 1, A, B, h => sum_congr fun j hj => by
    rw [h 0 j (by omega) hj, det_congr n (A := minor A 0 j) (B := minor B 0 j) fun r c hr hc => h _ _ (by unfold skip; split <;> omega) (by unfold skip; split <;> omega)]
theorem sgn_succ (j : Nat) : sgn (j + 1) = -sgn j := by
  unfold sgn
  by_cases h : j % 2 = 0
  · rw [if_pos h, if_neg (by omega)]
  · rw [if_neg h, if_pos (by omega)]; rfl
theorem minor_two (A : Mat) (i j : Nat) : minor (minor A 0 (j + 1)) i 0 = minor (minor A (i + 1) 0) 0 j := by
  funext r c
  show A (skip 0 (skip i r)) (skip (j + 1) (skip 0 c)) = A (skip (i + 1) (skip 0 r)) (skip 0 (skip j c))
  have h0 : ∀ x, skip 0 x = x + 1 := fun x => if_neg (by omega)
  have h1 : ∀ i x, skip (i + 1) (x + 1) = skip i x + 1 := fun i x => by
    unfold skip
    by_cases h : x < i
    · (rw [if_pos h, if_pos (by omega)])
    · (rw [if_neg h, if_neg (by omega)])
  rw [h0, h0, h0, h0, h1, h1]
theorem det_col : ∀ (n : Nat) (A : Mat), det (n + 1) A = sumN (n + 1) fun i => sgn i * A i 0 * det n (minor A i 0)
  | 0, A => rfl
  | n + 1, A => by
    show sumN (n + 2) (fun j => sgn j * A 0 j * det (n + 1) (minor A 0 j)) = _
    rw [sum_first, sum_first (n + 1) (fun i => sgn i * A i 0 * det (n + 1) (minor A i 0))]
    congr 1
    have l : ∀ j, sgn (j + 1) * A 0 (j + 1) * det (n + 1) (minor A 0 (j + 1)) = sumN (n + 1) fun i => -(sgn j * sgn i * A 0 (j + 1) * A (i + 1) 0 * det n (minor (minor A 0 (j + 1)) i 0)) := fun j => by
      rw [det_col n (minor A 0 (j + 1)), ← sum_mul]
      refine sum_congr fun i _ => ?_
      have e : minor A 0 (j + 1) i 0 = A (i + 1) 0 := rfl
      rw [e, sgn_succ]
      grind
    have r : ∀ i, sgn (i + 1) * A (i + 1) 0 * det (n + 1) (minor A (i + 1) 0) = sumN (n + 1) fun j => -(sgn j * sgn i * A 0 (j + 1) * A (i + 1) 0 * det n (minor (minor A 0 (j + 1)) i 0)) := fun i => by
      show sgn (i + 1) * A (i + 1) 0 * sumN (n + 1) (fun j => sgn j * minor A (i + 1) 0 0 j * det n (minor (minor A (i + 1) 0) 0 j)) = _
      rw [← sum_mul]
      refine sum_congr fun j _ => ?_
      have e : minor A (i + 1) 0 0 j = A 0 (j + 1) := rfl
      rw [e, sgn_succ, minor_two]
      grind
    rw [sum_congr fun j _ => l j, sum_congr fun i _ => r i]
    exact sum_comm _ _ _
theorem det_tr : ∀ (n : Nat) (A : Mat), det n (tr A) = det n A
  | 0, _ => rfl
  | n + 1, A => by
    rw [det_col n A]
    exact sum_congr fun j _ => by
      have e : minor (tr A) 0 j = tr (minor A j 0) := rfl
      rw [e, det_tr n]
      rfl
/-! ### rows -/
theorem minor_set (A : Mat) (r j : Nat) (u : Nat → Int) : minor (setRow A (r + 1) u) 0 j = setRow (minor A 0 j) r fun c => u (skip j c) := by
  funext i c
  show (if skip 0 i = r + 1 then _ else _) = if i = r then _ else _
  have h0 : skip 0 i = i + 1 := if_neg (by omega)
  rw [h0]
  by_cases h : i = r
  · (rw [if_pos h, if_pos (by omega)])
  · (rw [if_neg h, if_neg (by omega)])
    rfl
theorem minor_set0 (A : Mat) (j : Nat) (u : Nat → Int) : minor (setRow A 0 u) 0 j = minor A 0 j := by
  funext i c
  show (if skip 0 i = 0 then u (skip j c) else A (skip 0 i) (skip j c)) = A (skip 0 i) (skip j c)
  rw [if_neg (by unfold skip; split <;> omega)]
theorem det_lin : ∀ (n r : Nat) (A : Mat) (u v : Nat → Int) (c : Int), r < n → det n (setRow A r fun j => u j + c * v j) = det n (setRow A r u) + c * det n (setRow A r v)
  | 0, r, _, _, _, _, h => absurd h (by omega)
  | n + 1, 0, A, u, v, c, _ => by
    show sumN (n + 1) _ = sumN (n + 1) _ + c * sumN (n + 1) _
    rw [← sum_mul, ← sum_add]
    refine sum_congr fun j _ => ?_
    rw [minor_set0, minor_set0, minor_set0]
    show sgn j * (u j + c * v j) * _ = sgn j * u j * _ + c * (sgn j * v j * _)
    grind
  | n + 1, r + 1, A, u, v, c, h => by
    show sumN (n + 1) _ = sumN (n + 1) _ + c * sumN (n + 1) _
    rw [← sum_mul, ← sum_add]
    refine sum_congr fun j _ => ?_
    rw [minor_set, minor_set, minor_set, det_lin n r (minor A 0 j) _ _ c (by omega)]
    have e : ∀ w : Nat → Int, setRow A (r + 1) w 0 j = A 0 j := fun w => if_neg (by omega)
    rw [e, e, e]
    grind
/-- the first two rows alike -/
theorem det_two {n : Nat} {A : Mat} (h : ∀ j, A 0 j = A 1 j) : det (n + 2) A = 0 := by
  have hm : ∀ a b, a ≠ b → minor (minor A 0 a) 0 (unskip a b) = minor (minor A 0 b) 0 (unskip b a) := fun a b hab => by
    funext r c
    show A _ (skip a (skip (unskip a b) c)) = A _ (skip b (skip (unskip b a) c))
    congr 1
    unfold skip unskip
    repeat (first | omega | split)
  have hs : ∀ a b, a ≠ b → sgn a * sgn (unskip a b) = -(sgn b * sgn (unskip b a)) := fun a b hab => by
    unfold sgn unskip
    by_cases h1 : b < a
    · rw [if_pos h1, if_neg (show ¬ a < b by omega)]
      have ha : a = (a - 1) + 1 := by omega
      by_cases h2 : a % 2 = 0
      · rw [if_pos h2, if_neg (show ¬ (a - 1) % 2 = 0 by omega)]; grind
      · rw [if_neg h2, if_pos (show (a - 1) % 2 = 0 by omega)]; grind
    · rw [if_neg h1, if_pos (show a < b by omega)]
      by_cases h2 : b % 2 = 0
      · rw [if_pos h2, if_neg (show ¬ (b - 1) % 2 = 0 by omega)]; grind
      · rw [if_neg h2, if_pos (show (b - 1) % 2 = 0 by omega)]; grind
  have hu : ∀ a k, unskip a (skip a k) = k := fun a k => by
    unfold unskip skip
    repeat (first | omega | split)
  let H : Nat → Nat → Int := fun a b => if b = a then 0 else sgn a * sgn (unskip a b) * A 0 a * A 1 b * det n (minor (minor A 0 a) 0 (unskip a b))
  have anti : ∀ a b, H a b = -H b a := fun a b => by
    show (if b = a then 0 else _) = -(if a = b then 0 else _)
    by_cases hab : b = a
    · rw [if_pos hab, if_pos hab.symm]; rfl
    · rw [if_neg hab, if_neg (fun z => hab z.symm), hs a b (fun z => hab z.symm), hm a b (fun z => hab z.symm), h a, ← h b]
      grind
  have e : det (n + 2) A = sumN (n + 2) fun a => sumN (n + 2) fun b => H a b := by
    show sumN (n + 2) (fun a => sgn a * A 0 a * sumN (n + 1) (fun k => sgn k * minor A 0 a 0 k * det n (minor (minor A 0 a) 0 k))) = _
    refine sum_congr fun a ha => ?_
    rw [← sum_mul]
    have := sum_skip (n + 1) a (fun b => sgn a * sgn (unskip a b) * A 0 a * A 1 b * det n (minor (minor A 0 a) 0 (unskip a b))) ha
    rw [← this]
    refine sum_congr fun k _ => ?_
    show _ = sgn a * sgn (unskip a (skip a k)) * A 0 a * A 1 (skip a k) * det n (minor (minor A 0 a) 0 (unskip a (skip a k)))
    rw [hu]
    have e1 : minor A 0 a 0 k = A 1 (skip a k) := rfl
    rw [e1]
    grind
  have e2 : (sumN (n + 2) fun a => sumN (n + 2) fun b => H a b) = -(sumN (n + 2) fun a => sumN (n + 2) fun b => H a b) := by
    rw [← sum_neg]
    rw [show (fun a => -sumN (n + 2) fun b => H a b) = fun a => sumN (n + 2) fun b => H b a from by
      funext a
      rw [← sum_neg]
      exact sum_congr fun b _ => by rw [anti b a]]
    exact sum_comm _ _ _
  rw [e]
  omega
/-- two rows that follow each other alike -/
theorem det_adj : ∀ (n k : Nat) {A : Mat}, k + 1 < n → (∀ j, A k j = A (k + 1) j) → det n A = 0
  | 0, _, _, h, _ => absurd h (by omega)
  | 1, _, _, h, _ => absurd h (by omega)
  | n + 2, 0, A, _, h => det_two h
  | n + 2, k + 1, A, hk, h => by
    show sumN (n + 2) (fun j => sgn j * A 0 j * det (n + 1) (minor A 0 j)) = 0
    rw [← sum_zero (n + 2)]
    refine sum_congr fun j _ => ?_
    rw [det_adj (n + 1) k (A := minor A 0 j) (by omega) fun c => ?_, Int.mul_zero]
    have h0 : ∀ x, skip 0 x = x + 1 := fun x => if_neg (by omega)
    show A (skip 0 k) (skip j c) = A (skip 0 (k + 1)) (skip j c)
    rw [h0, h0]
    exact h _
def swap (A : Mat) (a b : Nat) : Mat := fun i j => A (if i = a then b else if i = b then a else i) j
theorem set_comm {A : Mat} {a b : Nat} (h : a ≠ b) (u v : Nat → Int) : setRow (setRow A a u) b v = setRow (setRow A b v) a u := by
  funext i j
  unfold setRow
  by_cases h1 : i = b
  · rw [if_pos h1, if_neg (fun z => h (z.symm.trans h1)), if_pos h1]
  · rw [if_neg h1]
    by_cases h2 : i = a
    · rw [if_pos h2, if_pos h2]
    · rw [if_neg h2, if_neg h2, if_neg h1]
theorem set_self (A : Mat) (a : Nat) : setRow A a (A a) = A := by
  funext i j
  unfold setRow
  by_cases h : i = a
  · rw [if_pos h, h]
  · rw [if_neg h]
theorem set_set (A : Mat) (a : Nat) (u v : Nat → Int) : setRow (setRow A a u) a v = setRow A a v := by
  funext i j
  unfold setRow
  by_cases h : i = a
  · rw [if_pos h, if_pos h]
  · rw [if_neg h, if_neg h, if_neg h]
/-- what follows where rows a and b alike give 0 -/
theorem add_of {n a b : Nat} (ha : a < n) (hab : a ≠ b) (hE : ∀ A : Mat, (∀ j, A a j = A b j) → det n A = 0) (A : Mat) (c : Int) : det n (setRow A a fun j => A a j + c * A b j) = det n A := by
  rw [det_lin n a A (A a) (A b) c ha, set_self, hE (setRow A a (A b)) fun j => by unfold setRow; rw [if_pos rfl, if_neg (fun z => hab z.symm)]]
  omega
theorem swap_of {n a b : Nat} (ha : a < n) (hb : b < n) (hab : a ≠ b) (hE : ∀ A : Mat, (∀ j, A a j = A b j) → det n A = 0) (A : Mat) : det n (swap A a b) = -det n A := by
  have one : ∀ (x y : Nat → Int), (fun j => x j + 1 * y j) = fun j => x j + y j := fun x y => by funext j; omega
  have lin1 : ∀ (x y w : Nat → Int), det n (setRow (setRow A b w) a fun j => x j + y j) = det n (setRow (setRow A b w) a x) + det n (setRow (setRow A b w) a y) := fun x y w => by
    have := det_lin n a (setRow A b w) x y 1 ha
    rw [one] at this
    omega
  have lin2 : ∀ (x y w : Nat → Int), det n (setRow (setRow A b fun j => x j + y j) a w) = det n (setRow (setRow A b x) a w) + det n (setRow (setRow A b y) a w) := fun x y w => by
    have := det_lin n b (setRow A a w) x y 1 hb
    rw [one, set_comm hab, set_comm hab, set_comm hab] at this
    omega
  have same : ∀ w : Nat → Int, det n (setRow (setRow A b w) a w) = 0 := fun w => hE _ fun j => by
    unfold setRow
    rw [if_pos rfl, if_neg (fun z => hab z.symm), if_pos rfl]
  have h1 := same fun j => A a j + A b j
  rw [lin1, lin2, lin2, same, same] at h1
  have e1 : setRow (setRow A b (A b)) a (A a) = A := by rw [set_self, set_self]
  have e2 : setRow (setRow A b (A a)) a (A b) = swap A a b := by
    funext i j
    unfold setRow swap
    by_cases h : i = a
    · rw [if_pos h, if_pos h]
    · rw [if_neg h, if_neg h]
      by_cases h' : i = b
      · rw [if_pos h', if_pos h']
      · rw [if_neg h', if_neg h']
  rw [e1, e2] at h1
  omega
/-- two rows alike -/
theorem det_same : ∀ (d : Nat) {n a : Nat} {A : Mat}, a + d + 1 < n → (∀ j, A a j = A (a + d + 1) j) → det n A = 0
  | 0, n, a, A, h, hA => det_adj n a h hA
  | d + 1, n, a, A, h, hA => by
    have hs := swap_of (n := n) (a := a + d + 1) (b := a + d + 1 + 1) (by omega) (by omega) (by omega) (fun B hB => det_adj n (a + d + 1) (by omega) hB) A
    have h0 := det_same d (n := n) (a := a) (A := swap A (a + d + 1) (a + d + 1 + 1)) (by omega) fun j => by
      unfold swap
      rw [if_neg (by omega), if_neg (by omega), if_pos rfl]
      exact hA j
    omega
theorem det_eq {n a b : Nat} (ha : a < n) (hb : b < n) (hab : a ≠ b) {A : Mat} (h : ∀ j, A a j = A b j) : det n A = 0 := by
  by_cases hlt : a < b
  · have e : b = a + (b - a - 1) + 1 := by omega
    exact det_same (b - a - 1) (a := a) (by omega) (by rw [← e]; exact h)
  · have e : a = b + (a - b - 1) + 1 := by omega
    exact det_same (a - b - 1) (a := b) (by omega) (by rw [← e]; exact fun j => (h j).symm)
theorem det_swap {n a b : Nat} (ha : a < n) (hb : b < n) (hab : a ≠ b) (A : Mat) : det n (swap A a b) = -det n A := swap_of ha hb hab (fun B hB => det_eq ha hb hab hB) A
theorem det_add {n a b : Nat} (ha : a < n) (hb : b < n) (hab : a ≠ b) (A : Mat) (c : Int) : det n (setRow A a fun j => A a j + c * A b j) = det n A := add_of ha hab (fun B hB => det_eq ha hb hab hB) A c
end Det
/-! ## NumDetL -/
set_option linter.all false
/-! The determinant as program and law reckon it, over lists of rows. -/
namespace Det
open Num (settled)
def minorL (rows : List (List Int)) (at_ : Nat) : List (List Int) := rows.tail.map fun r => r.take at_ ++ r.drop (at_ + 1)
def entL (rows : List (List Int)) (i j : Nat) : Int := (rows.getD i []).getD j 0
def toM (rows : List (List Int)) : Mat := entL rows
/-- n: one less than the rows -/
def detL : Nat → List (List Int) → Int
  | 0, rows => entL rows 0 0
  | n + 1, rows => (List.range (n + 2)).foldl (fun t j => if entL rows 0 j = 0 then t else if j % 2 = 1 then t - entL rows 0 j * detL n (minorL rows j) else t + entL rows 0 j * detL n (minorL rows j)) 0
def Sq (n : Nat) (rows : List (List Int)) : Prop := rows.length = n ∧ ∀ r ∈ rows, r.length = n
theorem foldl_sum (f : Nat → Int) : ∀ (m : Nat), (List.range m).foldl (fun t i => t + f i) 0 = sumN m f
  | 0 => rfl
  | m + 1 => by
    rw [List.range_succ, List.foldl_append, foldl_sum f m]
    rfl
theorem take_drop (r : List Int) (a j : Nat) (ha : a < r.length) (hj : j + 1 < r.length) : (r.take a ++ r.drop (a + 1)).getD j 0 = r.getD (skip a j) 0 := by
  rw [List.getD_eq_getElem?_getD, List.getD_eq_getElem?_getD]
  congr 1
  unfold skip
  have hl : (r.take a).length = a := by rw [List.length_take]; omega
  by_cases h : j < a
  · rw [if_pos h, List.getElem?_append_left (by omega), List.getElem?_take_of_lt h]
  · rw [if_neg h, List.getElem?_append_right (by omega), hl, List.getElem?_drop]
    congr 1
    omega
theorem sq_minor {n : Nat} {rows : List (List Int)} (h : Sq (n + 1) rows) {j : Nat} (hj : j < n + 1) : Sq n (minorL rows j) := by
  obtain ⟨h1, h2⟩ := h
  refine ⟨by unfold minorL; rw [List.length_map, List.length_tail]; omega, fun r hr => ?_⟩
  unfold minorL at hr
  obtain ⟨q, hq, rfl⟩ := List.mem_map.mp hr
  have := h2 q (List.mem_of_mem_tail hq)
  rw [List.length_append, List.length_take, List.length_drop]
  omega
theorem ent_minor {n : Nat} {rows : List (List Int)} (h : Sq (n + 1) rows) {a : Nat} (ha : a < n + 1) {i j : Nat} (hi : i < n) (hj : j < n) : entL (minorL rows a) i j = minor (toM rows) 0 a i j := by
  obtain ⟨h1, h2⟩ := h
  have h0 : skip 0 i = i + 1 := if_neg (by omega)
  show ((minorL rows a).getD i []).getD j 0 = (rows.getD (skip 0 i) []).getD (skip a j) 0
  rw [h0]
  have e : rows.getD (i + 1) [] = rows[i + 1]'(by omega) := by rw [List.getD_eq_getElem?_getD, List.getElem?_eq_getElem (by omega)]; rfl
  have e2 : (minorL rows a).getD i [] = (rows[i + 1]'(by omega)).take a ++ (rows[i + 1]'(by omega)).drop (a + 1) := by
    unfold minorL
    rw [List.getD_eq_getElem?_getD, List.getElem?_map, List.getElem?_tail, List.getElem?_eq_getElem (by omega)]
    rfl
  have hl := h2 (rows[i + 1]'(by omega)) (List.getElem_mem _)
  rw [e, e2, take_drop _ _ _ (by omega) (by omega)]
theorem detL_eq : ∀ (n : Nat) {rows : List (List Int)}, Sq (n + 1) rows → detL n rows = det (n + 1) (toM rows)
  | 0, rows, _ => by
    show entL rows 0 0 = 0 + sgn 0 * entL rows 0 0 * 1
    have : sgn 0 = 1 := rfl
    rw [this]
    omega
  | n + 1, rows, h => by
    show (List.range (n + 2)).foldl _ 0 = sumN (n + 2) fun j => sgn j * toM rows 0 j * det (n + 1) (minor (toM rows) 0 j)
    rw [← foldl_sum]
    have body : ∀ (js : List Nat) (t : Int), (∀ j ∈ js, j < n + 2) → js.foldl (fun t j => if entL rows 0 j = 0 then t else if j % 2 = 1 then t - entL rows 0 j * detL n (minorL rows j) else t + entL rows 0 j * detL n (minorL rows j)) t = js.foldl (fun t j => t + sgn j * toM rows 0 j * det (n + 1) (minor (toM rows) 0 j)) t := by
      intro js
      induction js with
      | nil => exact fun _ _ => rfl
      | cons j js ih =>
        intro t hj
        rw [List.foldl_cons, List.foldl_cons, ih _ fun x hx => hj x (List.mem_cons_of_mem _ hx)]
        congr 1
        have hlt := hj j (List.mem_cons_self ..)
        have e := detL_eq n (sq_minor h hlt)
        rw [det_congr (n + 1) (A := toM (minorL rows j)) (B := minor (toM rows) 0 j) fun r c hr hc => ent_minor h hlt hr hc] at e
        rw [e]
        show _ = t + sgn j * entL rows 0 j * _
        by_cases hx : entL rows 0 j = 0
        · rw [if_pos hx, hx]; grind
        · rw [if_neg hx]
          unfold sgn
          by_cases ho : j % 2 = 1
          · rw [if_pos ho, if_neg (by omega)]; grind
          · rw [if_neg ho, if_pos (by omega)]; grind
    exact body _ 0 fun j hj => List.mem_range.mp hj
/-! ### modulo p -/
theorem settled_eq {p a b : Int} : settled p a = settled p b ↔ p ∣ a - b := by
  unfold settled
  by_cases h : p ≠ 0
  · rw [if_pos h, if_pos h]
    exact Int.emod_eq_emod_iff_emod_sub_eq_zero.trans (Int.dvd_iff_emod_eq_zero.symm)
  · have : p = 0 := by omega
    subst this
    rw [if_neg h, if_neg h, Int.zero_dvd]
    omega
theorem sum_cong {p : Int} : ∀ (n : Nat) {f g : Nat → Int}, (∀ i, i < n → p ∣ f i - g i) → p ∣ sumN n f - sumN n g
  | 0, _, _, _ => ⟨0, by show (0 : Int) - 0 = p * 0; omega⟩
  | n + 1, f, g, h => by
    have h1 := sum_cong n fun i hi => h i (by omega)
    have h2 := h n (by omega)
    have := Int.dvd_add h1 h2
    show p ∣ sumN n f + f n - (sumN n g + g n)
    rwa [show sumN n f + f n - (sumN n g + g n) = sumN n f - sumN n g + (f n - g n) by omega]
theorem mul_cong {p a b c d : Int} (h1 : p ∣ a - b) (h2 : p ∣ c - d) : p ∣ a * c - b * d := by
  obtain ⟨x, hx⟩ := h1
  obtain ⟨y, hy⟩ := h2
  refine ⟨x * c + b * y, ?_⟩
  have ha : a = b + p * x := by omega
  have hc : c = d + p * y := by omega
  rw [ha, hc]
  grind
theorem det_cong {p : Int} : ∀ (n : Nat) {A B : Mat}, (∀ i j, i < n → j < n → p ∣ A i j - B i j) → p ∣ det n A - det n B
  | 0, _, _, _ => ⟨0, by show (1 : Int) - 1 = p * 0; omega⟩
  | n + 1, A, B, h => sum_cong (n + 1) fun j hj => by
    have h1 := h 0 j (by omega) hj
    have h2 := det_cong n (A := minor A 0 j) (B := minor B 0 j) fun r c hr hc => h _ _ (by unfold skip; split <;> omega) (by unfold skip; split <;> omega)
    have h3 : p ∣ sgn j * A 0 j - sgn j * B 0 j := mul_cong (a := sgn j) (b := sgn j) ⟨0, by omega⟩ h1
    exact mul_cong h3 h2
/-! ### what the law asks -/
theorem ent_set {rows : List (List Int)} {a : Nat} {r : List Int} (ha : a < rows.length) (i j : Nat) : entL (rows.set a r) i j = if i = a then r.getD j 0 else entL rows i j := by
  unfold entL
  by_cases h : i = a
  · rw [if_pos h, h, List.getD_eq_getElem?_getD (l := rows.set a r), List.getElem?_set_self ha]
    rfl
  · rw [if_neg h, List.getD_eq_getElem?_getD (l := rows.set a r), List.getElem?_set_ne (fun z => h z.symm), ← List.getD_eq_getElem?_getD]
theorem sq_set {n : Nat} {rows : List (List Int)} (h : Sq n rows) {a : Nat} {r : List Int} (hr : r.length = n) : Sq n (rows.set a r) := by
  refine ⟨by rw [List.length_set]; exact h.1, fun q hq => ?_⟩
  rcases List.mem_or_eq_of_mem_set hq with z | z
  · exact h.2 q z
  · rw [z]; exact hr
theorem row_len {n : Nat} {rows : List (List Int)} (h : Sq n rows) {a : Nat} (ha : a < n) : (rows.getD a []).length = n := by
  have hl := h.1
  rw [List.getD_eq_getElem?_getD, List.getElem?_eq_getElem (by omega)]
  exact h.2 _ (List.getElem_mem _)
/-- two rows exchanged -/
theorem detL_turned {n : Nat} {rows : List (List Int)} (h : Sq (n + 1) rows) {a b : Nat} (ha : a < n + 1) (hb : b < n + 1) (hab : a ≠ b) : detL n ((rows.set a (rows.getD b [])).set b (rows.getD a [])) = -detL n rows := by
  have hl := h.1
  rw [detL_eq n (sq_set (sq_set h (row_len h hb)) (row_len h ha)), detL_eq n h, ← det_swap ha hb hab]
  refine det_congr _ fun i j _ _ => ?_
  show entL ((rows.set a (rows.getD b [])).set b (rows.getD a [])) i j = entL rows (if i = a then b else if i = b then a else i) j
  rw [ent_set (by rw [List.length_set]; omega), ent_set (by omega)]
  by_cases h1 : i = b
  · rw [if_pos h1, if_neg (fun z => hab (z.symm.trans h1)), if_pos h1]
    rfl
  · rw [if_neg h1, if_neg h1]
    by_cases h2 : i = a
    · rw [if_pos h2, if_pos h2]
      rfl
    · rw [if_neg h2, if_neg h2]
/-- a multiple of a row added to another one, up to the prime -/
theorem detL_added {p : Int} {n : Nat} {rows : List (List Int)} (h : Sq (n + 1) rows) {a b : Nat} (ha : a < n + 1) (hb : b < n + 1) (hab : a ≠ b) (c : Int) {r : List Int} (hr : r.length = n + 1) (e : ∀ j, j < n + 1 → p ∣ r.getD j 0 - (entL rows a j + c * entL rows b j)) : settled p (detL n (rows.set a r)) = settled p (detL n rows) := by
  have hl := h.1
  rw [settled_eq, detL_eq n (sq_set h hr), detL_eq n h, ← det_add ha hb hab (toM rows) c]
  refine det_cong _ fun i j _ hj => ?_
  show p ∣ entL (rows.set a r) i j - (if i = a then entL rows a j + c * entL rows b j else entL rows i j)
  rw [ent_set (by omega)]
  by_cases h1 : i = a
  · rw [if_pos h1, if_pos h1]
    exact e j hj
  · rw [if_neg h1, if_neg h1]
    exact ⟨0, by omega⟩
/-- rows turned into columns -/
def acrossL (n : Nat) (rows : List (List Int)) : List (List Int) := (List.range n).map fun c => rows.map fun r => r.getD c 0
theorem sq_across {n : Nat} {rows : List (List Int)} (h : Sq n rows) : Sq n (acrossL n rows) := by
  refine ⟨by unfold acrossL; rw [List.length_map, List.length_range], fun q hq => ?_⟩
  unfold acrossL at hq
  obtain ⟨c, _, rfl⟩ := List.mem_map.mp hq
  rw [List.length_map]
  exact h.1
theorem detL_across {n : Nat} {rows : List (List Int)} (h : Sq (n + 1) rows) : detL n (acrossL (n + 1) rows) = detL n rows := by
  have hl := h.1
  rw [detL_eq n (sq_across h), detL_eq n h, ← det_tr]
  refine det_congr _ fun i j hi hj => ?_
  show ((acrossL (n + 1) rows).getD j []).getD i 0 = (rows.getD i []).getD j 0
  unfold acrossL
  rw [List.getD_eq_getElem?_getD (l := (List.range (n + 1)).map _), List.getElem?_map, List.getElem?_range hj]
  show (rows.map fun r => r.getD j 0).getD i 0 = _
  rw [List.getD_eq_getElem?_getD, List.getElem?_map, List.getD_eq_getElem?_getD (l := rows), List.getElem?_eq_getElem (by omega)]
  rfl
end Det
/-! ## NumAdj -/
set_option Elab.async false
set_option linter.all false
set_option maxRecDepth 100000
/-! Tables of two and three rows undone: what program and law say of them, up to the prime. -/
namespace Num
open PySem
/-- what made takes out -/
theorem made_factor {p : Int} {ns : List Int} (h : MadeOk p ns) : ∃ k, UnitI p k ∧ (made p ns).map (fun m => settled p (k * m)) = ns.map (settled p) := by
  obtain ⟨rest, _, hm, hn0⟩ := first_cons h.ex
  by_cases h0 : p = 0
  · subst h0
    have hg := gcdL_pos h.ex
    have hd := (gcdL_dvd ns 0).2
    refine ⟨if firstI ns < 0 then -(gcdL 0 ns) else gcdL 0 ns, ?_, ?_⟩
    · show settled 0 _ ≠ 0
      unfold settled
      rw [if_neg (by decide)]
      split <;> omega
    · rw [made_zero, List.map_map]
      refine List.map_congr_left fun n hn => ?_
      show settled 0 _ = settled 0 n
      congr 1
      have hdv : (if firstI ns < 0 then -(gcdL 0 ns) else gcdL 0 ns) ∣ n := by
        split
        · exact Int.neg_dvd.mpr (hd n hn)
        · exact hd n hn
      exact Int.mul_fdiv_cancel' hdv
  · refine ⟨firstI ns, ?_, ?_⟩
    · have hr := h.lt h0 _ hm
      show settled p _ ≠ 0
      unfold settled
      rw [if_pos h0, Int.emod_eq_of_lt hr.1 hr.2]
      exact hn0
    · have e := made_back h h0
      have e2 : ns.map (settled p) = ns := by
        conv => rhs; rw [← List.map_id ns]
        refine List.map_congr_left fun n hn => ?_
        have hr := h.lt h0 n hn
        show settled p n = n
        unfold settled
        rw [if_pos h0, Int.emod_eq_of_lt hr.1 hr.2]
      rw [e2]
      conv => rhs; rw [← e]
      exact List.map_congr_left fun n _ => by rw [Int.mul_comm]
theorem cong_of_map {p k : Int} {ms ns : List Int} (h : ms.map (fun m => settled p (k * m)) = ns.map (settled p)) (i : Nat) : Cong p (k * ms.getD i 0) (ns.getD i 0) := by
  have e := congrArg (fun l => l[i]?) h
  simp only [List.getElem?_map] at e
  rw [List.getD_eq_getElem?_getD, List.getD_eq_getElem?_getD]
  cases h1 : ms[i]? with
  | none =>
    rw [h1] at e
    cases h2 : ns[i]? with
    | none => show settled p (k * 0) = settled p 0; rw [Int.mul_zero]
    | some n => rw [h2] at e; cases e
  | some m =>
    rw [h1] at e
    cases h2 : ns[i]? with
    | none => rw [h2] at e; cases e
    | some n =>
      rw [h2] at e
      exact Option.some.inj e
/-- a unit is taken off both sides -/
theorem Cong.cancel {p k a b : Int} (hp : PrimeI p) (hk : UnitI p k) (h : Cong p (k * a) (k * b)) : Cong p a b := by
  have e : Cong p (k * (a - b)) 0 := by
    have := h.sub (Cong.refl p (k * b))
    rw [show k * a - k * b = k * (a - b) by grind, show k * b - k * b = 0 by omega] at this
    exact this
  have z : settled p (a - b) = 0 := settled_mul hp hk (by rw [e, settled_zero])
  have : Cong p (a - b) 0 := by show settled p _ = settled p 0; rw [z, settled_zero]
  have := this.add (Cong.refl p b)
  rwa [show a - b + b = a by omega, show 0 + b = b by omega] at this
theorem unit_of {p k a d : Int} (hd : UnitI p d) (h : Cong p (k * a) d) : UnitI p a := fun z => hd (by
  have h1 : Cong p a 0 := by show settled p a = settled p 0; rw [z, settled_zero]
  have h2 := (Cong.refl p k).mul h1
  rw [Int.mul_zero] at h2
  have h3 : Cong p d 0 := h.symm.trans h2
  have : settled p d = settled p 0 := h3
  rw [this, settled_zero])
/-! ### two rows -/
def adj2 (a b c d : Int) : List Int := [d, -b, -c, a]
structure Und2 (p a b c d w x y z k : Int) : Prop where
  u : UnitI p k
  h1 : Cong p (k * w) d
  h2 : Cong p (k * x) (-b)
  h3 : Cong p (k * y) (-c)
  h4 : Cong p (k * z) a
theorem Und2.prod {p a b c d w x y z k : Int} (h : Und2 p a b c d w x y z k) : Cong p (k * (w * a + x * c)) (a * d - b * c) ∧ Cong p (k * (w * b + x * d)) 0 ∧ Cong p (k * (y * a + z * c)) 0 ∧ Cong p (k * (y * b + z * d)) (a * d - b * c) := by
  have r := fun t => Cong.refl p t
  refine ⟨?_, ?_, ?_, ?_⟩
  · have := (h.h1.mul (r a)).add (h.h2.mul (r c))
    rwa [show k * w * a + k * x * c = k * (w * a + x * c) by grind, show d * a + -b * c = a * d - b * c by grind] at this
  · have := (h.h1.mul (r b)).add (h.h2.mul (r d))
    rwa [show k * w * b + k * x * d = k * (w * b + x * d) by grind, show d * b + -b * d = 0 by grind] at this
  · have := (h.h3.mul (r a)).add (h.h4.mul (r c))
    rwa [show k * y * a + k * z * c = k * (y * a + z * c) by grind, show -c * a + a * c = 0 by grind] at this
  · have := (h.h3.mul (r b)).add (h.h4.mul (r d))
    rwa [show k * y * b + k * z * d = k * (y * b + z * d) by grind, show -c * b + a * d = a * d - b * c by grind] at this
/-- undone twice -/
theorem Und2.again {p a b c d w x y z k : Int} (hp : PrimeI p) (h : Und2 p a b c d w x y z k) : normalF p (adj2 w x y z) = normalF p [a, b, c, d] := by
  rw [← normal_mul hp h.u (adj2 w x y z)]
  refine normal_cong ?_
  have hn : ∀ {s t : Int}, Cong p (k * s) (-t) → Cong p (k * -s) t := fun {s t} e => by
    have := (Cong.refl p (-1)).mul e
    rwa [show -1 * (k * s) = k * -s by grind, show -1 * -t = t by omega] at this
  show [settled p (k * z), settled p (k * -x), settled p (k * -y), settled p (k * w)] = [settled p a, settled p b, settled p c, settled p d]
  rw [show settled p (k * z) = settled p a from h.h4, show settled p (k * -x) = settled p b from hn h.h2, show settled p (k * -y) = settled p c from hn h.h3, show settled p (k * w) = settled p d from h.h1]
theorem und2 {p a b c d : Int} (ok : MadeOk p ((adj2 a b c d).map (settled p))) : ∃ w x y z k, made p ((adj2 a b c d).map (settled p)) = [w, x, y, z] ∧ Und2 p a b c d w x y z k := by
  obtain ⟨k, hk, e⟩ := made_factor ok
  have hl := made_len p ((adj2 a b c d).map (settled p))
  have c1 := cong_of_map e
  generalize made p ((adj2 a b c d).map (settled p)) = ms at *
  match ms, hl with
  | [w, x, y, z], _ =>
    exact ⟨w, x, y, z, k, rfl, hk, (c1 0).trans (cong_settled p d), (c1 1).trans (cong_settled p (-b)), (c1 2).trans (cong_settled p (-c)), (c1 3).trans (cong_settled p a)⟩
/-! ### three rows -/
def adj3 (a b c d e f g h i : Int) : List Int := [e * i - f * h, -(b * i - c * h), b * f - c * e, -(d * i - f * g), a * i - c * g, -(a * f - c * d), d * h - e * g, -(a * h - b * g), a * e - b * d]
def det3 (a b c d e f g h i : Int) : Int := a * (e * i - f * h) - b * (d * i - f * g) + c * (d * h - e * g)
structure Und3 (p a b c d e f g h i m0 m1 m2 m3 m4 m5 m6 m7 m8 k : Int) : Prop where
  u : UnitI p k
  h0 : Cong p (k * m0) (e * i - f * h)
  h1 : Cong p (k * m1) (-(b * i - c * h))
  h2 : Cong p (k * m2) (b * f - c * e)
  h3 : Cong p (k * m3) (-(d * i - f * g))
  h4 : Cong p (k * m4) (a * i - c * g)
  h5 : Cong p (k * m5) (-(a * f - c * d))
  h6 : Cong p (k * m6) (d * h - e * g)
  h7 : Cong p (k * m7) (-(a * h - b * g))
  h8 : Cong p (k * m8) (a * e - b * d)
theorem Und3.prod {p a b c d e f g h i m0 m1 m2 m3 m4 m5 m6 m7 m8 k : Int} (w : Und3 p a b c d e f g h i m0 m1 m2 m3 m4 m5 m6 m7 m8 k) : Cong p (k * (m0 * a + m1 * d + m2 * g)) (det3 a b c d e f g h i) ∧ Cong p (k * (m0 * b + m1 * e + m2 * h)) 0 ∧ Cong p (k * (m0 * c + m1 * f + m2 * i)) 0 ∧ Cong p (k * (m3 * a + m4 * d + m5 * g)) 0 ∧ Cong p (k * (m3 * b + m4 * e + m5 * h)) (det3 a b c d e f g h i) ∧ Cong p (k * (m3 * c + m4 * f + m5 * i)) 0 ∧ Cong p (k * (m6 * a + m7 * d + m8 * g)) 0 ∧ Cong p (k * (m6 * b + m7 * e + m8 * h)) 0 ∧ Cong p (k * (m6 * c + m7 * f + m8 * i)) (det3 a b c d e f g h i) := by
  have r := fun t => Cong.refl p t
  refine ⟨?_, ?_, ?_, ?_, ?_, ?_, ?_, ?_, ?_⟩
  · have := ((w.h0.mul (r a)).add (w.h1.mul (r d))).add (w.h2.mul (r g))
    rwa [show k * m0 * a + k * m1 * d + k * m2 * g = k * (m0 * a + m1 * d + m2 * g) by grind, show (e * i - f * h) * a + (-(b * i - c * h)) * d + (b * f - c * e) * g = det3 a b c d e f g h i by unfold det3; grind] at this
  · have := ((w.h0.mul (r b)).add (w.h1.mul (r e))).add (w.h2.mul (r h))
    rwa [show k * m0 * b + k * m1 * e + k * m2 * h = k * (m0 * b + m1 * e + m2 * h) by grind, show (e * i - f * h) * b + (-(b * i - c * h)) * e + (b * f - c * e) * h = 0 by grind] at this
  · have := ((w.h0.mul (r c)).add (w.h1.mul (r f))).add (w.h2.mul (r i))
    rwa [show k * m0 * c + k * m1 * f + k * m2 * i = k * (m0 * c + m1 * f + m2 * i) by grind, show (e * i - f * h) * c + (-(b * i - c * h)) * f + (b * f - c * e) * i = 0 by grind] at this
  · have := ((w.h3.mul (r a)).add (w.h4.mul (r d))).add (w.h5.mul (r g))
    rwa [show k * m3 * a + k * m4 * d + k * m5 * g = k * (m3 * a + m4 * d + m5 * g) by grind, show (-(d * i - f * g)) * a + (a * i - c * g) * d + (-(a * f - c * d)) * g = 0 by grind] at this
  · have := ((w.h3.mul (r b)).add (w.h4.mul (r e))).add (w.h5.mul (r h))
    rwa [show k * m3 * b + k * m4 * e + k * m5 * h = k * (m3 * b + m4 * e + m5 * h) by grind, show (-(d * i - f * g)) * b + (a * i - c * g) * e + (-(a * f - c * d)) * h = det3 a b c d e f g h i by unfold det3; grind] at this
  · have := ((w.h3.mul (r c)).add (w.h4.mul (r f))).add (w.h5.mul (r i))
    rwa [show k * m3 * c + k * m4 * f + k * m5 * i = k * (m3 * c + m4 * f + m5 * i) by grind, show (-(d * i - f * g)) * c + (a * i - c * g) * f + (-(a * f - c * d)) * i = 0 by grind] at this
  · have := ((w.h6.mul (r a)).add (w.h7.mul (r d))).add (w.h8.mul (r g))
    rwa [show k * m6 * a + k * m7 * d + k * m8 * g = k * (m6 * a + m7 * d + m8 * g) by grind, show (d * h - e * g) * a + (-(a * h - b * g)) * d + (a * e - b * d) * g = 0 by grind] at this
  · have := ((w.h6.mul (r b)).add (w.h7.mul (r e))).add (w.h8.mul (r h))
    rwa [show k * m6 * b + k * m7 * e + k * m8 * h = k * (m6 * b + m7 * e + m8 * h) by grind, show (d * h - e * g) * b + (-(a * h - b * g)) * e + (a * e - b * d) * h = 0 by grind] at this
  · have := ((w.h6.mul (r c)).add (w.h7.mul (r f))).add (w.h8.mul (r i))
    rwa [show k * m6 * c + k * m7 * f + k * m8 * i = k * (m6 * c + m7 * f + m8 * i) by grind, show (d * h - e * g) * c + (-(a * h - b * g)) * f + (a * e - b * d) * i = det3 a b c d e f g h i by unfold det3; grind] at this
/-- undone twice -/
theorem Und3.again {p a b c d e f g h i m0 m1 m2 m3 m4 m5 m6 m7 m8 k : Int} (hp : PrimeI p) (hD : UnitI p (det3 a b c d e f g h i)) (w : Und3 p a b c d e f g h i m0 m1 m2 m3 m4 m5 m6 m7 m8 k) : normalF p (adj3 m0 m1 m2 m3 m4 m5 m6 m7 m8) = normalF p [a, b, c, d, e, f, g, h, i] := by
  rw [← normal_mul hp (w.u.mul hp w.u) (adj3 m0 m1 m2 m3 m4 m5 m6 m7 m8), ← normal_mul hp hD [a, b, c, d, e, f, g, h, i]]
  refine normal_cong ?_
  have q0 : settled p (k * k * (m4 * m8 - m5 * m7)) = settled p (det3 a b c d e f g h i * a) := by
    have := (w.h4.mul w.h8).sub (w.h5.mul w.h7)
    rwa [show k * m4 * (k * m8) - k * m5 * (k * m7) = k * k * (m4 * m8 - m5 * m7) by grind, show (a * i - c * g) * (a * e - b * d) - (-(a * f - c * d)) * (-(a * h - b * g)) = det3 a b c d e f g h i * a by unfold det3; grind] at this
  have q1 : settled p (k * k * -(m1 * m8 - m2 * m7)) = settled p (det3 a b c d e f g h i * b) := by
    have := (w.h2.mul w.h7).sub (w.h1.mul w.h8)
    rwa [show k * m2 * (k * m7) - k * m1 * (k * m8) = k * k * -(m1 * m8 - m2 * m7) by grind, show (b * f - c * e) * (-(a * h - b * g)) - (-(b * i - c * h)) * (a * e - b * d) = det3 a b c d e f g h i * b by unfold det3; grind] at this
  have q2 : settled p (k * k * (m1 * m5 - m2 * m4)) = settled p (det3 a b c d e f g h i * c) := by
    have := (w.h1.mul w.h5).sub (w.h2.mul w.h4)
    rwa [show k * m1 * (k * m5) - k * m2 * (k * m4) = k * k * (m1 * m5 - m2 * m4) by grind, show (-(b * i - c * h)) * (-(a * f - c * d)) - (b * f - c * e) * (a * i - c * g) = det3 a b c d e f g h i * c by unfold det3; grind] at this
  have q3 : settled p (k * k * -(m3 * m8 - m5 * m6)) = settled p (det3 a b c d e f g h i * d) := by
    have := (w.h5.mul w.h6).sub (w.h3.mul w.h8)
    rwa [show k * m5 * (k * m6) - k * m3 * (k * m8) = k * k * -(m3 * m8 - m5 * m6) by grind, show (-(a * f - c * d)) * (d * h - e * g) - (-(d * i - f * g)) * (a * e - b * d) = det3 a b c d e f g h i * d by unfold det3; grind] at this
  have q4 : settled p (k * k * (m0 * m8 - m2 * m6)) = settled p (det3 a b c d e f g h i * e) := by
    have := (w.h0.mul w.h8).sub (w.h2.mul w.h6)
    rwa [show k * m0 * (k * m8) - k * m2 * (k * m6) = k * k * (m0 * m8 - m2 * m6) by grind, show (e * i - f * h) * (a * e - b * d) - (b * f - c * e) * (d * h - e * g) = det3 a b c d e f g h i * e by unfold det3; grind] at this
  have q5 : settled p (k * k * -(m0 * m5 - m2 * m3)) = settled p (det3 a b c d e f g h i * f) := by
    have := (w.h2.mul w.h3).sub (w.h0.mul w.h5)
    rwa [show k * m2 * (k * m3) - k * m0 * (k * m5) = k * k * -(m0 * m5 - m2 * m3) by grind, show (b * f - c * e) * (-(d * i - f * g)) - (e * i - f * h) * (-(a * f - c * d)) = det3 a b c d e f g h i * f by unfold det3; grind] at this
  have q6 : settled p (k * k * (m3 * m7 - m4 * m6)) = settled p (det3 a b c d e f g h i * g) := by
    have := (w.h3.mul w.h7).sub (w.h4.mul w.h6)
    rwa [show k * m3 * (k * m7) - k * m4 * (k * m6) = k * k * (m3 * m7 - m4 * m6) by grind, show (-(d * i - f * g)) * (-(a * h - b * g)) - (a * i - c * g) * (d * h - e * g) = det3 a b c d e f g h i * g by unfold det3; grind] at this
  have q7 : settled p (k * k * -(m0 * m7 - m1 * m6)) = settled p (det3 a b c d e f g h i * h) := by
    have := (w.h1.mul w.h6).sub (w.h0.mul w.h7)
    rwa [show k * m1 * (k * m6) - k * m0 * (k * m7) = k * k * -(m0 * m7 - m1 * m6) by grind, show (-(b * i - c * h)) * (d * h - e * g) - (e * i - f * h) * (-(a * h - b * g)) = det3 a b c d e f g h i * h by unfold det3; grind] at this
  have q8 : settled p (k * k * (m0 * m4 - m1 * m3)) = settled p (det3 a b c d e f g h i * i) := by
    have := (w.h0.mul w.h4).sub (w.h1.mul w.h3)
    rwa [show k * m0 * (k * m4) - k * m1 * (k * m3) = k * k * (m0 * m4 - m1 * m3) by grind, show (e * i - f * h) * (a * i - c * g) - (-(b * i - c * h)) * (-(d * i - f * g)) = det3 a b c d e f g h i * i by unfold det3; grind] at this
  show [settled p (k * k * (m4 * m8 - m5 * m7)), settled p (k * k * (-(m1 * m8 - m2 * m7))), settled p (k * k * (m1 * m5 - m2 * m4)), settled p (k * k * (-(m3 * m8 - m5 * m6))), settled p (k * k * (m0 * m8 - m2 * m6)), settled p (k * k * (-(m0 * m5 - m2 * m3))), settled p (k * k * (m3 * m7 - m4 * m6)), settled p (k * k * (-(m0 * m7 - m1 * m6))), settled p (k * k * (m0 * m4 - m1 * m3))] = [settled p (det3 a b c d e f g h i * a), settled p (det3 a b c d e f g h i * b), settled p (det3 a b c d e f g h i * c), settled p (det3 a b c d e f g h i * d), settled p (det3 a b c d e f g h i * e), settled p (det3 a b c d e f g h i * f), settled p (det3 a b c d e f g h i * g), settled p (det3 a b c d e f g h i * h), settled p (det3 a b c d e f g h i * i)]
  rw [q0, q1, q2, q3, q4, q5, q6, q7, q8]
theorem und3 {p a b c d e f g h i : Int} (ok : MadeOk p ((adj3 a b c d e f g h i).map (settled p))) : ∃ m0 m1 m2 m3 m4 m5 m6 m7 m8 k, made p ((adj3 a b c d e f g h i).map (settled p)) = [m0, m1, m2, m3, m4, m5, m6, m7, m8] ∧ Und3 p a b c d e f g h i m0 m1 m2 m3 m4 m5 m6 m7 m8 k := by
  obtain ⟨k, hk, q⟩ := made_factor ok
  have hl := made_len p ((adj3 a b c d e f g h i).map (settled p))
  have c1 := cong_of_map q
  generalize made p ((adj3 a b c d e f g h i).map (settled p)) = ms at *
  match ms, hl with
  | [m0, m1, m2, m3, m4, m5, m6, m7, m8], _ =>
    exact ⟨m0, m1, m2, m3, m4, m5, m6, m7, m8, k, rfl, hk, (c1 0).trans (cong_settled p _), (c1 1).trans (cong_settled p _), (c1 2).trans (cong_settled p _), (c1 3).trans (cong_settled p _), (c1 4).trans (cong_settled p _), (c1 5).trans (cong_settled p _), (c1 6).trans (cong_settled p _), (c1 7).trans (cong_settled p _), (c1 8).trans (cong_settled p _)⟩
end Num
/-! ## K03b -/
set_option Elab.async false
set_option linter.all false
set_option maxRecDepth 100000
set_option maxHeartbeats 1100000
namespace K03
open PySem L2 TD PySem.Spec PyProof.Rows
variable [TabW]
namespace Num
/-- a table's first row tells its width -/
def isTable (p : Int) : Dt → Bool
  | .tuple (.tuple r :: ds) => decide (ds.length + 1 ≤ 90) && (decide (1 ≤ r.length ∧ r.length ≤ 140) && (PyData.tuple r :: ds).all (Num.allFit p (r.length : Int)))
  | _ => false
def sqB (n m : Int) : Dt → Bool
  | .tuple (.tuple r :: ds) => decide (n ≤ (ds.length : Int) + 1 ∧ (ds.length : Int) + 1 ≤ m ∧ r.length = ds.length + 1)
  | _ => false
end Num


abbrev s_is_table : Stmt := top 23
theorem sc_is_table : FnScope ["prime", "value", "width", "row"] ["prime", "value"] (defScope s_is_table) := ⟨rfl, rfl, rfl, by decide +kernel, rfl, by decide +kernel, by decide +kernel⟩
abbrev R_is_table : FR := f2 PyData.int anyD (fun _ _ => True) fun p d => .bool (Num.isTable p d)
theorem ok_is_table {P : Program} {w : World} {K : PySem.W.Frag} {mg : Str → Option Value} {base : Heap} {Y : Cn} (F : DefAt K "is_table" s_is_table) (hX : K.In base) (hG : base.Ns mainGlobals mg) (T : Txt K mg Y) (G_all_fit : FnG P w K mg base 3 "all_fit" ["prime", "value", "many"] R_all_fit) : FnG P w K mg base 4 "is_table" ["prime", "value"] R_is_table := by
  have nd := sc_is_table.nd
  refine fn_mk F hX hG sc_is_table (fun as β r β' h => by first | exact FR.len h | (obtain ⟨_, rfl, _⟩ := h; rfl) | (obtain ⟨_, _, rfl, _⟩ := h; rfl) | (obtain ⟨_, _, _, rfl, _⟩ := h; rfl) | (obtain ⟨_, _, _, _, rfl, _⟩ := h; rfl) | (obtain ⟨_, _, _, _, _, rfl, _⟩ := h; rfl)) (fun _ _ _ _ _ _ _ us hl => match us, hl with | [_, _], _ => rfl) (fun f cdv A outer s H E hr => ⟨_, (pss_cons (ps_if (PW.pt (pw_or (pt_not (pt_val (pe_callB (call_isiK (K := K)) (by rfl) T.z_isinstance bo_isinstance (pa_cons (pv 1) (pa_cons (pe_bltn (v := .ty "tuple") (by rfl) T.z_tuple bo_tuple rfl) pa_nil))))) (pw_or (pt_not (pt_chain op_le op_le pe_int (pe_callB (c_lenK (K := K)) (by rfl) T.z_len bo_len (pa_cons (pv 1) pa_nil)) (pe_glob (v := .int _) (by rfl) T.c_MAX_ROWS ⟨_, rfl⟩))) (pw_or1 (pt_not (pt_val (pe_callB (call_isiK (K := K)) (by rfl) T.z_isinstance bo_isinstance (pa_cons (pe_ix ix_tup (pv 1) pe_int (fun _ _ => rfl)) (pa_cons (pe_bltn (v := .ty "tuple") (by rfl) T.z_tuple bo_tuple rfl) pa_nil))))))))) (pss_one (ps_ret pe_bl)) pss_nil) (pss_cons (ps_set (i := 2) nd rfl (Or.inr rfl) (pe_callB (c_lenK (K := K)) (by rfl) T.z_len bo_len (pa_cons (pe_ix ix_tup (pv 1) pe_int (fun _ _ => rfl)) pa_nil))) (pss_one (ps_ret (pe_and (pe_chain op_le op_le pe_int (pv 2) (pe_glob (v := .int _) (by rfl) T.c_MAX_WIDTH ⟨_, rfl⟩)) (pe_one (pe_callB (cr_all rfl) (by rfl) T.z_all bo_all (pa_cons (pe_lc (own := [("row", 3)]) rfl nd (pi_tup (pv 1)) (blkOk_by (N := ["prime", "value", "width", "row"]) (sc := defScope s_is_table) (by decide +kernel)) (fun _ _ _ _ _ => by exact (pg_name (i := 3) nd rfl (Or.inl rfl))) (fun _ _ _ _ _ => by exact pts_nil) (fun _ _ _ _ _ => by exact (pe_fn G_all_fit (hr.mono (by decide)) (pa_cons (pv 0) (pa_cons (pv 3) (pa_cons (pv 2) pa_nil)))))) pa_nil)))))))), fun as β r β' hR => ?_⟩)
  obtain ⟨p, d, rfl, _, rfl, rfl, rfl⟩ := hR
  dsimp only [cxOf, Cx.nox, Cx.wish]
  have no : ∀ {d : Dt}, isTupD d = false → Num.isTable p d = false := fun {d} h => by
    cases d with
    | tuple ds => cases h
    | _ => rfl
  by_cases ht : isTupD d = true
  · cases d with
    | tuple ds =>
      have h1 : EvB K (tCB (rIsi K) (tCons (tVar 1) (tCons (tC (.ty "tuple")) tNil))) (startR ["prime", "value", "width", "row"] [.imm (.int p), .imm (.tuple ds)]) none (.bool true) none := d_isTup (x := .tuple ds) (d_var rfl)
      have hl : EvB K (tCB (TD.rLen K) (tCons (tVar 1) tNil)) (startR ["prime", "value", "width", "row"] [.imm (.int p), .imm (.tuple ds)]) none (.int (ds.length : Int)) none := d_len (d_var rfl) (.inr rfl)
      by_cases hz : 1 ≤ ds.length ∧ ds.length ≤ 90
      · match ds, hz with
        | x :: ds, hz =>
          have hx : EvB K (tOp (rIxT K) (tVar 1) (tC (.int 0))) (startR ["prime", "value", "width", "row"] [.imm (.int p), .imm (.tuple (x :: ds))]) none x none := d_ixT (d_var rfl) d_int (at0 _ _)
          have c2 : EvB K (tChain (rI0 fun i j => .bl (decide (i ≤ j))) (rI0 fun i j => .bl (decide (i ≤ j))) (tC (.int 1)) (tCB (TD.rLen K) (tCons (tVar 1) tNil)) (tC (.int 90))) (startR ["prime", "value", "width", "row"] [.imm (.int p), .imm (.tuple (x :: ds))]) none (.bool true) none := (d_chLeLe d_int hl d_int).to (congrArg PyData.bool (by rw [decide_eq_true (by omega), decide_eq_true (by omega)]; rfl))
          by_cases hr : isTupD x = true
          · cases x with
            | tuple r =>
              refine .ret (st_sq (st_ifF (t_orF ((t_not (t_test h1)).to rfl) (t_orF ((t_not (t_test c2)).to rfl) ((t_not (t_test (d_isTup hx))).to rfl))) st_next) (st_sq (st_asg (d_len hx (.inr rfl))) (st_ret ?_)))
              show EvB K _ [some (.imm (.int p)), some (.imm (.tuple (PyData.tuple r :: ds))), some (.imm (.int (r.length : Int))), none] none _ none
              have hd : decide (ds.length + 1 ≤ 90) = true := decide_eq_true hz.2
              have c3 : EvB K (tChain (rI0 fun i j => .bl (decide (i ≤ j))) (rI0 fun i j => .bl (decide (i ≤ j))) (tC (.int 1)) (tVar 2) (tC (.int 140))) [some (.imm (.int p)), some (.imm (.tuple (PyData.tuple r :: ds))), some (.imm (.int (r.length : Int))), none] none (.bool (decide (1 ≤ r.length ∧ r.length ≤ 140))) none := (d_chLeLe d_int (d_var rfl) d_int).to (congrArg PyData.bool (by
                rw [Bool.eq_iff_iff, Bool.and_eq_true, decide_eq_true_eq, decide_eq_true_eq, decide_eq_true_eq]
                omega))
              show EvB K _ _ none (.bool (decide (ds.length + 1 ≤ 90) && (decide (1 ≤ r.length ∧ r.length ≤ 140) && (PyData.tuple r :: ds).all (Num.allFit p (r.length : Int))))) none
              rw [hd, Bool.true_and]
              refine d_and c3 fun hw => ?_
              have hw := of_decide_eq_true hw
              have hz2 : ds.length + 1 ≤ 90 := hz.2
              refine (d_all (bs := (PyData.tuple r :: ds).map (Num.allFit p (r.length : Int))) ((d_lcT (rs := (PyData.tuple r :: ds).map fun d => .bool (Num.allFit p (r.length : Int) d)) (d_var rfl) ?_ (by rw [List.length_map]; show ds.length + 1 ≤ 100000; omega) (wipe_ok (by decide))).to (by rw [List.map_map]; rfl))).to (by rw [List.all_map]; rfl)
              exact LcR.map (fun d => .bool (Num.allFit p (r.length : Int) d)) fun d _ => c_f3 (a := PyData.int) (a' := anyD) (a'' := PyData.int) (x := p) (y := d) (z := (r.length : Int)) (d_var rfl) (d_var rfl) (d_var rfl) (by omega)
            | _ => cases hr
          · have hf : isTupD x = false := Bool.eq_false_iff.mpr hr
            have e : Num.isTable p (.tuple (x :: ds)) = false := by
              cases x with
              | tuple r => cases hf
              | _ => rfl
            rw [e]
            exact .ret (st_seqR (st_ifT (t_orF ((t_not (t_test h1)).to rfl) (t_orF ((t_not (t_test c2)).to rfl) ((t_not (t_test (d_isTup hx))).to (by rw [hf]; rfl)))) (st_ret d_bl)))
      · have e : Num.isTable p (.tuple ds) = false := by
          unfold Num.isTable
          split
          · rename_i r ds' heq
            have h2 : ds = PyData.tuple r :: ds' := PyData.tuple.inj heq
            rw [h2, List.length_cons] at hz
            (rw [decide_eq_false (by omega)])
            rfl
          · rfl
        rw [e]
        refine .ret (st_seqR (st_ifT (t_orF ((t_not (t_test h1)).to rfl) (t_orT ((t_not (t_test ((d_chLeLe d_int hl d_int).to (congrArg PyData.bool (show (decide ((1 : Int) ≤ ds.length) && decide ((ds.length : Int) ≤ 90)) = false by
          rw [Bool.eq_false_iff]
          intro z
          (rw [Bool.and_eq_true, decide_eq_true_eq, decide_eq_true_eq] at z)
          omega))))).to rfl))) (st_ret d_bl)))
    | _ => cases ht
  · have hf : isTupD d = false := Bool.eq_false_iff.mpr ht
    rw [no hf]
    exact .ret (st_seqR (st_ifT (t_orT ((t_not (t_test (d_isTup (d_var rfl)))).to (by show (!isTupD d) = true; rw [hf]; rfl))) (st_ret d_bl)))


abbrev s_is_square : Stmt := top 24
theorem sc_is_square : FnScope ["prime", "value", "least", "most"] ["prime", "value", "least", "most"] (defScope s_is_square) := ⟨rfl, rfl, rfl, by decide +kernel, rfl, by decide +kernel, by decide +kernel⟩
abbrev R_is_square : FR := fun as β r β' => ∃ p d n m, as = [.imm (.int p), .imm d, .imm (.int n), .imm (.int m)] ∧ r = .bool (Num.isTable p d && Num.sqB n m d) ∧ β = none ∧ β' = none
theorem ok_is_square {P : Program} {w : World} {K : PySem.W.Frag} {mg : Str → Option Value} {base : Heap} {Y : Cn} (F : DefAt K "is_square" s_is_square) (hX : K.In base) (hG : base.Ns mainGlobals mg) (T : Txt K mg Y) (G_is_table : FnG P w K mg base 4 "is_table" ["prime", "value"] R_is_table) : FnG P w K mg base 5 "is_square" ["prime", "value", "least", "most"] R_is_square := by
  have nd := sc_is_square.nd
  refine fn_mk F hX hG sc_is_square (fun as β r β' h => by first | exact FR.len h | (obtain ⟨_, rfl, _⟩ := h; rfl) | (obtain ⟨_, _, rfl, _⟩ := h; rfl) | (obtain ⟨_, _, _, rfl, _⟩ := h; rfl) | (obtain ⟨_, _, _, _, rfl, _⟩ := h; rfl) | (obtain ⟨_, _, _, _, _, rfl, _⟩ := h; rfl)) (fun _ _ _ _ _ _ _ us hl => match us, hl with | [_, _, _, _], _ => rfl) (fun f cdv A outer s H E hr => ⟨_, (pss_one (ps_ret (pe_and (pe_fn G_is_table (hr.mono (by decide)) (pa_cons (pv 0) (pa_cons (pv 1) pa_nil))) (pe_and (pe_chain op_le op_le (pv 2) (pe_callB (c_lenK (K := K)) (by rfl) T.z_len bo_len (pa_cons (pv 1) pa_nil)) (pv 3)) (pe_one (pe_cmpR op_eq (pe_callB (c_lenK (K := K)) (by rfl) T.z_len bo_len (pa_cons (pe_ix ix_seq (pv 1) pe_int (fun _ _ => rfl)) pa_nil)) (pe_callB (c_lenK (K := K)) (by rfl) T.z_len bo_len (pa_cons (pv 1) pa_nil)) (nomark _))))))), fun as β r β' hR => ?_⟩)
  obtain ⟨p, d, n, m, rfl, rfl, rfl, rfl⟩ := hR
  dsimp only [cxOf, Cx.nox, Cx.wish]
  have h1 : EvB K (tCall (spR K R_is_table) [] E0 (tCons (tVar 0) (tCons (tVar 1) tNil))) (startR ["prime", "value", "least", "most"] [.imm (.int p), .imm d, .imm (.int n), .imm (.int m)]) none (.bool (Num.isTable p d)) none := c_f2 (a := PyData.int) (a' := anyD) (x := p) (y := d) (d_var rfl) (d_var rfl) trivial
  refine .ret (st_ret (d_and h1 fun ht => ?_))
  unfold Num.isTable at ht
  split at ht
  · rename_i r ds
    have hl : EvB K (tCB (TD.rLen K) (tCons (tVar 1) tNil)) (startR ["prime", "value", "least", "most"] [.imm (.int p), .imm (.tuple (PyData.tuple r :: ds)), .imm (.int n), .imm (.int m)]) none (.int ((ds.length : Int) + 1)) none := (d_len (d_var rfl) (.inr rfl)).to (congrArg PyData.int (by rw [List.length_cons]; omega))
    have hx : EvB K (tOp (rIx K) (tVar 1) (tC (.int 0))) (startR ["prime", "value", "least", "most"] [.imm (.int p), .imm (.tuple (PyData.tuple r :: ds)), .imm (.int n), .imm (.int m)]) none (.tuple r) none := d_ix (d_var rfl) (.inr rfl) d_int (at0 _ _)
    refine (d_and (d_chLeLe (d_var rfl) hl (d_var rfl)) fun _ => d_eqI (d_len hx (.inr rfl)) hl).to (congrArg PyData.bool ?_)
    show _ = decide (n ≤ (ds.length : Int) + 1 ∧ (ds.length : Int) + 1 ≤ m ∧ r.length = ds.length + 1)
    rw [Bool.eq_iff_iff, Bool.and_eq_true, Bool.and_eq_true, decide_eq_true_eq, decide_eq_true_eq, decide_eq_true_eq, decide_eq_true_eq]
    omega
  · cases ht


abbrev s_need_table : Stmt := top 25
theorem sc_need_table : FnScope ["prime", "table"] ["prime", "table"] (defScope s_need_table) := ⟨rfl, rfl, rfl, by decide +kernel, rfl, by decide +kernel, by decide +kernel⟩
abbrev R_need_table (Y : Cn) : FX := fun as β r β' => ∃ d v, as = [.imm d, .imm v] ∧ ((∃ p, d = .int p ∧ Num.PrimeI p ∧ (Num.isTable p v = true ∧ r = .ok .none ∨ Num.isTable p v = false ∧ r = .ex Y.cB none)) ∨ Num.isPrime d = false ∧ r = .ex Y.cN (some ("given", d))) ∧ β = none ∧ β' = none
theorem ok_need_table {P : Program} {w : World} {K : PySem.W.Frag} {mg : Str → Option Value} {base : Heap} {Y : Cn} (F : DefAt K "need_table" s_need_table) (hX : K.In base) (hG : base.Ns mainGlobals mg) (T : Txt K mg Y) (G_need_prime : FnX P w K mg base 3 "need_prime" ["prime"] (R_need_prime Y)) (G_is_table : FnG P w K mg base 4 "is_table" ["prime", "value"] R_is_table) : FnX P w K mg base 5 "need_table" ["prime", "table"] (R_need_table Y) := by
  have nd := sc_need_table.nd
  refine fnX_mk F hX hG sc_need_table (fun as β r β' h => by first | exact FR.len h | (obtain ⟨_, rfl, _⟩ := h; rfl) | (obtain ⟨_, _, rfl, _⟩ := h; rfl) | (obtain ⟨_, _, _, rfl, _⟩ := h; rfl) | (obtain ⟨_, _, _, _, rfl, _⟩ := h; rfl) | (obtain ⟨_, _, _, _, _, rfl, _⟩ := h; rfl)) (fun _ _ _ _ _ _ _ us hl => match us, hl with | [_, _], _ => rfl) (fun f cdv A outer s H E hr => ⟨_, (pss_cons (ps_expr (pe_fnX G_need_prime (hr.mono (by decide)) (pass_x (takes_of rfl rfl rfl rfl)) (pa_cons (pv 0) pa_nil))) (pss_one (ps_if (pt_not (pt_val (pe_fn G_is_table (hr.mono (by decide)) (pa_cons (pv 0) (pa_cons (pv 1) pa_nil))))) (pss_one (ps_raiseBare T.b_InvalidTable (takes_of rfl rfl rfl rfl))) pss_nil))), fun as β r β' hR => ?_⟩)
  obtain ⟨d, v, rfl, hd, rfl, rfl⟩ := hR
  rcases hd with ⟨p, rfl, hp, hv⟩ | ⟨h, rfl⟩
  · have h1 : EvB K (tCall (spX K (R_need_prime Y)) [] E (tCons (tVar 0) tNil)) (startR ["prime", "table"] [.imm (.int p), .imm v]) none .none none := x_call0 (a_con (d_var rfl) a_nil) ⟨_, rfl, .inl ⟨Num.isPrime_of hp, rfl⟩, rfl, rfl⟩
    have h2 : EvB K (tCall (spR K R_is_table) [] E0 (tCons (tVar 0) (tCons (tVar 1) tNil))) (startR ["prime", "table"] [.imm (.int p), .imm v]) none (.bool (Num.isTable p v)) none := c_f2 (a := PyData.int) (a' := anyD) (x := p) (y := v) (d_var rfl) (d_var rfl) trivial
    rcases hv with ⟨hv, rfl⟩ | ⟨hv, rfl⟩
    · exact .ok (.fall _ (st_sq (st_drop h1) (st_ifF ((t_not (t_test h2)).to (by rw [hv]; rfl)) st_next)) rfl)
    · exact .ex (stR_then (st_drop h1) (stR_ifT ((t_not (t_test h2)).to (by rw [hv]; rfl)) st_raise0))
  · exact .ex (stR_seq (stR_drop (x_raise0 (a_con (d_var rfl) a_nil) ⟨_, rfl, .inr ⟨h, rfl⟩, rfl, rfl⟩)))


abbrev s_need_square : Stmt := top 26
theorem sc_need_square : FnScope ["prime", "table", "least", "most"] ["prime", "table", "least", "most"] (defScope s_need_square) := ⟨rfl, rfl, rfl, by decide +kernel, rfl, by decide +kernel, by decide +kernel⟩
abbrev R_need_square (Y : Cn) : FX := fun as β r β' => ∃ d v n m, as = [.imm d, .imm v, .imm (.int n), .imm (.int m)] ∧ ((∃ p, d = .int p ∧ Num.PrimeI p ∧ ((Num.isTable p v && Num.sqB n m v) = true ∧ r = .ok .none ∨ (Num.isTable p v && Num.sqB n m v) = false ∧ r = .ex Y.cB none)) ∨ Num.isPrime d = false ∧ r = .ex Y.cN (some ("given", d))) ∧ β = none ∧ β' = none
theorem ok_need_square {P : Program} {w : World} {K : PySem.W.Frag} {mg : Str → Option Value} {base : Heap} {Y : Cn} (F : DefAt K "need_square" s_need_square) (hX : K.In base) (hG : base.Ns mainGlobals mg) (T : Txt K mg Y) (G_need_prime : FnX P w K mg base 3 "need_prime" ["prime"] (R_need_prime Y)) (G_is_square : FnG P w K mg base 5 "is_square" ["prime", "value", "least", "most"] R_is_square) : FnX P w K mg base 6 "need_square" ["prime", "table", "least", "most"] (R_need_square Y) := by
  have nd := sc_need_square.nd
  refine fnX_mk F hX hG sc_need_square (fun as β r β' h => by first | exact FR.len h | (obtain ⟨_, rfl, _⟩ := h; rfl) | (obtain ⟨_, _, rfl, _⟩ := h; rfl) | (obtain ⟨_, _, _, rfl, _⟩ := h; rfl) | (obtain ⟨_, _, _, _, rfl, _⟩ := h; rfl) | (obtain ⟨_, _, _, _, _, rfl, _⟩ := h; rfl)) (fun _ _ _ _ _ _ _ us hl => match us, hl with | [_, _, _, _], _ => rfl) (fun f cdv A outer s H E hr => ⟨_, (pss_cons (ps_expr (pe_fnX G_need_prime (hr.mono (by decide)) (pass_x (takes_of rfl rfl rfl rfl)) (pa_cons (pv 0) pa_nil))) (pss_one (ps_if (pt_not (pt_val (pe_fn G_is_square (hr.mono (by decide)) (pa_cons (pv 0) (pa_cons (pv 1) (pa_cons (pv 2) (pa_cons (pv 3) pa_nil))))))) (pss_one (ps_raiseBare T.b_InvalidTable (takes_of rfl rfl rfl rfl))) pss_nil))), fun as β r β' hR => ?_⟩)
  obtain ⟨d, v, n, m, rfl, hd, rfl, rfl⟩ := hR
  rcases hd with ⟨p, rfl, hp, hv⟩ | ⟨h, rfl⟩
  · have h1 : EvB K (tCall (spX K (R_need_prime Y)) [] E (tCons (tVar 0) tNil)) (startR ["prime", "table", "least", "most"] [.imm (.int p), .imm v, .imm (.int n), .imm (.int m)]) none .none none := x_call0 (a_con (d_var rfl) a_nil) ⟨_, rfl, .inl ⟨Num.isPrime_of hp, rfl⟩, rfl, rfl⟩
    have h2 : EvB K (tCall (spR K R_is_square) [] E0 (tCons (tVar 0) (tCons (tVar 1) (tCons (tVar 2) (tCons (tVar 3) tNil))))) (startR ["prime", "table", "least", "most"] [.imm (.int p), .imm v, .imm (.int n), .imm (.int m)]) none (.bool (Num.isTable p v && Num.sqB n m v)) none := d_call0 (a_con (d_var rfl) (a_con (d_var rfl) (a_con (d_var rfl) (a_con (d_var rfl) a_nil)))) ⟨p, v, n, m, rfl, rfl, rfl, rfl⟩
    rcases hv with ⟨hv, rfl⟩ | ⟨hv, rfl⟩
    · exact .ok (.fall _ (st_sq (st_drop h1) (st_ifF ((t_not (t_test h2)).to (by rw [hv]; rfl)) st_next)) rfl)
    · exact .ex (stR_then (st_drop h1) (stR_ifT ((t_not (t_test h2)).to (by rw [hv]; rfl)) st_raise0))
  · exact .ex (stR_seq (stR_drop (x_raise0 (a_con (d_var rfl) a_nil) ⟨_, rfl, .inr ⟨h, rfl⟩, rfl, rfl⟩)))

end K03
/-! ## K03c -/
set_option Elab.async false
set_option linter.all false
set_option maxRecDepth 100000
set_option maxHeartbeats 1100000
namespace K03
open PySem L2 TD PySem.Spec PyProof.Rows
variable [TabW]
theorem lc_map {K : PySem.W.Frag} {ρ : Rho} {β : Bag} {te : TE} {j : Nat} {α : Type} (a g : α → Dt) : ∀ (xs : List α), (∀ x ∈ xs, EvB K te (ρ.set j (some (Slot.imm (a x)))) β (g x) β) → LcR K j tYes te (xs.map a) ρ β (xs.map g) β
  | [], _ => .nil _ _
  | x :: xs, h => .yes t_yes0 (h x (List.mem_cons_self ..)) (lc_map a g xs fun y hy => h y (List.mem_cons_of_mem _ hy))
abbrev sentL (p : Int) (rows : List (List Int)) (ns : List Int) : List Int := rows.map fun x => Num.settled p (Num.dot x ns)
structure SentOk (p : Int) (rows : List (List Int)) (ns : List Int) : Prop where
  pr : Num.PrimeI p
  few : rows.length ≤ 140
  len : ns.length ≤ 140
  szn : ∀ n ∈ ns, n.natAbs < 2 ^ 200
  szr : ∀ x ∈ rows, x.length = ns.length ∧ ∀ n ∈ x, n.natAbs < 2 ^ 200
theorem c_ofK {X : Cx} {K : PySem.W.Frag} {v : Value} {r : PySem.W.Frag → List V → Hp → VK → Prop} (h : CallR X v (r X.K)) (hK : X.K = K := by rfl) : CallR X v (r K) := hK ▸ h
theorem pi_ofK {X : Cx} {K : PySem.W.Frag} {tg iter : Expr} {wi : PySem.W.Frag → TI} (h : PI X tg iter (wi X.K)) (hK : X.K = K := by rfl) : PI X tg iter (wi K) := hK ▸ h
abbrev scRow : Scope := { kind := .function, names := [((".0" : Str), .local), ("row", .local), ("settled", .globalImplicit), ("sum", .globalImplicit), ("zip", .globalImplicit), ("numbers", .cell), ("prime", .cell)], isGenerator := false, isCoroutine := false }


abbrev s_sent_by : Stmt := top 39
theorem sc_sent_by : FnScope ["prime", "rows", "numbers", "one", "two", "row"] ["prime", "rows", "numbers"] (defScope s_sent_by) := ⟨rfl, rfl, rfl, by decide +kernel, rfl, by decide +kernel, by decide +kernel⟩
abbrev R_sent_by : FR := fun as β r β' => ∃ p d rows ns, as = [.imm (.int p), .imm d, .imm (tupI ns)] ∧ SeqD d (rows.map tupI) ∧ SentOk p rows ns ∧ r = tupI (sentL p rows ns) ∧ β = none ∧ β' = none
theorem ok_sent_by {P : Program} {w : World} {K : PySem.W.Frag} {mg : Str → Option Value} {base : Heap} {Y : Cn} (F : DefAt K "sent_by" s_sent_by) (hX : K.In base) (hG : base.Ns mainGlobals mg) (T : Txt K mg Y) (G_settled : FnG P w K mg base 1 "settled" ["prime", "number"] R_settled) : FnG P w K mg base 2 "sent_by" ["prime", "rows", "numbers"] R_sent_by := by
  have nd := sc_sent_by.nd
  refine fn_mk F hX hG sc_sent_by (fun as β r β' h => by first | exact FR.len h | (obtain ⟨_, rfl, _⟩ := h; rfl) | (obtain ⟨_, _, rfl, _⟩ := h; rfl) | (obtain ⟨_, _, _, rfl, _⟩ := h; rfl) | (obtain ⟨_, _, _, _, rfl, _⟩ := h; rfl) | (obtain ⟨_, _, _, _, _, rfl, _⟩ := h; rfl)) (fun _ _ _ _ _ _ _ us hl => match us, hl with | [_, _, _], _ => rfl) (fun f cdv A outer s H E hr => ⟨_, (pss_one (ps_ret (pe_callTy c_tuple (by rfl) T.z_tuple bo_tuple (pa_cons (pe_lc (own := [("row", 5)]) rfl nd (pi_seq (pv 1)) (blkOk_by (N := ["prime", "rows", "numbers", "one", "two", "row"]) (sc := defScope s_sent_by) (by decide +kernel)) (fun _ _ _ _ _ => by exact (pg_name (i := 5) nd rfl (Or.inl rfl))) (fun _ _ _ _ _ => by exact pts_nil) (fun _ _ _ _ _ => by exact (pe_fn G_settled (hr.mono (by decide)) (pa_cons (pv 0) (pa_cons (pe_callB (c_ofK (K := K) (r := rSum) (cr_sum rfl)) (by rfl) T.z_sum bo_sum (pa_cons (by exact (pe_lc (own := [("one", 3), ("two", 4)]) rfl nd (pi_ofK (K := K) (wi := fun K => RZ.iZipA K (tCons (tVar 5) (tCons (tVar 2) tNil))) (RZ.pi_zipA (by rfl) T.z_zip (pa_cons (pv 5) (pa_cons (pv 2) pa_nil)))) (blkOk_by (N := ["prime", "rows", "numbers", "one", "two", "row"]) (sc := scRow) (by decide +kernel)) (fun _ _ _ _ _ => by exact (pg_tupK (K := K) (n := 2) rfl (pgs_cons (pg_name (i := 3) nd rfl (Or.inl rfl)) (pgs_cons (pg_name (i := 4) nd rfl (Or.inl rfl)) pgs_nil)))) (fun _ _ _ _ _ => by exact pts_nil) (fun _ _ _ _ _ => by exact (pe_op op_mulW (pv 3) (pv 4))))) pa_nil)) pa_nil))))) pa_nil)))), fun as β r β' hR => ?_⟩)
  obtain ⟨p, d, rows, ns, rfl, hd, ok, rfl, rfl, rfl⟩ := hR
  dsimp only [cxOf, Cx.nox, Cx.wish]
  refine .ret (st_ret ((d_tupleOf (d_lcQ (rs := rows.map fun x => .int (Num.settled p (Num.dot x ns))) (d_var rfl) hd ?_ (by rw [List.length_map]; exact Nat.le_trans ok.few (by decide)) (wipe_ok (by decide)))).to (by show _ = PyData.tuple ((rows.map fun x => Num.settled p (Num.dot x ns)).map PyData.int); rw [List.map_map]; rfl)))
  refine lc_map tupI (fun x => .int (Num.settled p (Num.dot x ns))) rows fun x hx => ?_
  obtain ⟨hl, hz⟩ := ok.szr x hx
  have hln := ok.len
  refine c_f2 (x := p) (y := Num.dot x ns) (d_var rfl) ?_ ok.pr.small.1
  refine d_sum (ns := (x.zip ns).map fun q => q.1 * q.2) ?_
  refine (d_lcZT (xs := x.map PyData.int) (ys := ns.map PyData.int) (d_var rfl) (d_var rfl) (by rw [List.length_map, List.length_map]; exact hl) ?_ (by rw [List.length_map, List.length_map, List.length_zip]; omega) (show 3 ∈ [3, 4] by decide) (show 4 ∈ [3, 4] by decide))
  rw [zip_ints, List.map_map]
  refine LcZ.ints (fun n m => .int (n * m)) fun n m hn hm => ?_
  exact d_mul (d_var rfl) (d_var rfl) (wide_mul (hz n hn) (ok.szn m hm) (by decide) (by decide) (by decide))


abbrev s_sent : Stmt := top 40
theorem sc_sent : FnScope ["prime", "table", "numbers"] ["prime", "table", "numbers"] (defScope s_sent) := ⟨rfl, rfl, rfl, by decide +kernel, rfl, by decide +kernel, by decide +kernel⟩
abbrev R_sent (Y : Cn) : FX := fun as β r β' => ∃ d t v, as = [.imm d, .imm t, .imm v] ∧ ((∃ p, d = .int p ∧ Num.PrimeI p ∧ ((Num.isTable p t = false ∧ r = .ex Y.cB none) ∨ ∃ r0 ds, t = .tuple (.tuple r0 :: ds) ∧ Num.isTable p t = true ∧ r0.length ≤ 140 ∧ ((Num.allFit p (r0.length : Int) v = false ∧ r = .ex Y.cO none) ∨ (Num.allFit p (r0.length : Int) v = true ∧ ∃ rows ns, t = .tuple (rows.map tupI) ∧ v = tupI ns ∧ SentOk p rows ns ∧ r = .ok (tupI (sentL p rows ns)))))) ∨ Num.isPrime d = false ∧ r = .ex Y.cN (some ("given", d))) ∧ β = none ∧ β' = none
theorem ok_sent {P : Program} {w : World} {K : PySem.W.Frag} {mg : Str → Option Value} {base : Heap} {Y : Cn} (F : DefAt K "sent" s_sent) (hX : K.In base) (hG : base.Ns mainGlobals mg) (T : Txt K mg Y) (G_need_table : FnX P w K mg base 5 "need_table" ["prime", "table"] (R_need_table Y)) (G_sent_by : FnG P w K mg base 2 "sent_by" ["prime", "rows", "numbers"] R_sent_by) (G_all_fit : FnG P w K mg base 3 "all_fit" ["prime", "value", "many"] R_all_fit) : FnX P w K mg base 6 "sent" ["prime", "table", "numbers"] (R_sent Y) := by
  have nd := sc_sent.nd
  refine fnX_mk F hX hG sc_sent (fun as β r β' h => by first | exact FR.len h | (obtain ⟨_, rfl, _⟩ := h; rfl) | (obtain ⟨_, _, rfl, _⟩ := h; rfl) | (obtain ⟨_, _, _, rfl, _⟩ := h; rfl) | (obtain ⟨_, _, _, _, rfl, _⟩ := h; rfl) | (obtain ⟨_, _, _, _, _, rfl, _⟩ := h; rfl)) (fun _ _ _ _ _ _ _ us hl => match us, hl with | [_, _, _], _ => rfl) (fun f cdv A outer s H E hr => ⟨_, (pss_cons (ps_expr (pe_fnX G_need_table (hr.mono (by decide)) (pass_x (takes_of rfl rfl rfl rfl)) (pa_cons (pv 0) (pa_cons (pv 1) pa_nil)))) (pss_cons (ps_if (pt_not (pt_val (pe_fn G_all_fit (hr.mono (by decide)) (pa_cons (pv 0) (pa_cons (pv 2) (pa_cons (pe_callB (c_lenK (K := K)) (by rfl) T.z_len bo_len (pa_cons (pe_ix ix_seq (pv 1) pe_int (fun _ _ => rfl)) pa_nil)) pa_nil)))))) (pss_one (ps_raiseBare T.b_InvalidOperation (takes_of rfl rfl rfl rfl))) pss_nil) (pss_one (ps_ret (pe_fn G_sent_by (hr.mono (by decide)) (pa_cons (pv 0) (pa_cons (pv 1) (pa_cons (pv 2) pa_nil)))))))), fun as β r β' hR => ?_⟩)
  obtain ⟨d, t, v, rfl, hd, rfl, rfl⟩ := hR
  rcases hd with ⟨p, rfl, hp, hv⟩ | ⟨h, rfl⟩
  · rcases hv with ⟨hf, rfl⟩ | ⟨r0, ds, rfl, ht, hw, hv⟩
    · exact .ex (stR_seq (stR_drop (x_raise0 (a_con (d_var rfl) (a_con (d_var rfl) a_nil)) ⟨_, _, rfl, .inl ⟨p, rfl, hp, .inr ⟨hf, rfl⟩⟩, rfl, rfl⟩)))
    · have h1 : EvB K (tCall (spX K (R_need_table Y)) [] E (tCons (tVar 0) (tCons (tVar 1) tNil))) (startR ["prime", "table", "numbers"] [.imm (.int p), .imm (.tuple (.tuple r0 :: ds)), .imm v]) none .none none := x_call0 (a_con (d_var rfl) (a_con (d_var rfl) a_nil)) ⟨_, _, rfl, .inl ⟨p, rfl, hp, .inl ⟨ht, rfl⟩⟩, rfl, rfl⟩
      have h2 : EvB K (tCall (spR K R_all_fit) [] E0 (tCons (tVar 0) (tCons (tVar 2) (tCons (tCB (TD.rLen K) (tCons (tOp (rIx K) (tVar 1) (tC (.int 0))) tNil)) tNil)))) (startR ["prime", "table", "numbers"] [.imm (.int p), .imm (.tuple (.tuple r0 :: ds)), .imm v]) none (.bool (Num.allFit p (r0.length : Int) v)) none := c_f3 (a := PyData.int) (a' := anyD) (a'' := PyData.int) (x := p) (y := v) (z := (r0.length : Int)) (d_var rfl) (d_var rfl) (d_len (d_ix (d_var rfl) (.inr rfl) d_int (at0 _ _)) (.inr rfl)) (by omega)
      rcases hv with ⟨hf, rfl⟩ | ⟨hf, rows, ns, et, rfl, ok, rfl⟩
      · exact .ex (stR_then (st_drop h1) (stR_seq (stR_ifT ((t_not (t_test h2)).to (by rw [hf]; rfl)) st_raise0)))
      · refine .ok (.ret (st_sq (st_drop h1) (st_sq (st_ifF ((t_not (t_test h2)).to (by rw [hf]; rfl)) st_next) (st_ret (d_call0 (a_con (d_var rfl) (a_con (d_var rfl) (a_con (d_var rfl) a_nil))) ⟨p, _, rows, ns, rfl, .inr et, ok, rfl, rfl, rfl⟩)))))
  · exact .ex (stR_seq (stR_drop (x_raise0 (a_con (d_var rfl) (a_con (d_var rfl) a_nil)) ⟨_, _, rfl, .inr ⟨h, rfl⟩, rfl, rfl⟩)))

end K03
/-! ## TdF -/
set_option Elab.async false
set_option linter.all false
set_option maxRecDepth 100000
set_option maxHeartbeats 4100600
/-! Slices and sums of what may be a list or a tuple. -/
namespace TD
open PySem L2 PySem.Spec PyProof.Rows
open Evl (Ex ex_l ex_t fresh_back sq_of st_of sz_of sz_lt)
/-- ds as what d is -/
def likeD : Dt → List Dt → Dt
  | .tuple _, ds => .tuple ds
  | _, ds => .list ds
def rSlQ (K : PySem.W.Frag) : V → Option Int → Option Int → Hp → VK → Prop := fun x lo hi H Q => rSlL K x lo hi H Q ∨ rSlT K x lo hi H Q
theorem sl_Q {X : Cx} {K : PySem.W.Frag} (hK : X.K = K := by rfl) : SlR X (rSlQ K) := by
  subst hK
  exact SlR.or sl_list sl_tup
def rCatQ (K : PySem.W.Frag) : R2 := fun x y H Q => rCat x y H Q ∨ rCatA K x y H Q
theorem op_catQ {X : Cx} {K : PySem.W.Frag} (hK : X.K = K := by rfl) : OpR X (binaryOp .Add) (rCatQ K) := by
  subst hK
  rintro pins s σ H x y v u Q I rx ry (h | h)
  · exact op_cat pins s σ H x y v u Q I rx ry h
  · exact op_catA pins s σ H x y v u Q I rx ry h
section
variable [TabW] {K : PySem.W.Frag} {ρ : Rho} {β β1 β2 β3 : Bag} {te ta tb : TE} {d d0 : Dt} {ds es ds0 : List Dt}
theorem d_slQ {tl th : TO} {lo hi : Option Int} (ha : EvB K te ρ β d β1) (hs : SeqD d ds) (h1 : EvO K tl ρ β1 lo β2) (h2 : EvO K th ρ β2 hi β3) (hn : ¬ (HT.sIx ds.length 0 lo = 0 ∧ HT.sIx ds.length ds.length hi = ds.length)) : EvB K (tSl (rSlQ K) te tl th) ρ β (likeD d (cutD ds lo hi)) β3 := by
  refine ⟨h2.1.trans (h1.1.trans ha.som), fun b G H σ Q E k => ?_⟩
  refine ha.run b G H σ _ E fun v G1 H1 s1 k1 d1 => ?_
  have E1 := E.step s1 k1
  refine h1.2 b G1 H1 σ _ E1 fun G2 H2 s2 k2 => ?_
  have E2 := E1.step s2 k2
  refine h2.2 b G2 H2 σ _ E2 fun G3 H3 s3 k3 => ?_
  rw [h1.1, ha.som] at s3
  rw [ha.som] at s2
  have d3 := (d1.mono s2.g).mono s3.g
  rcases hs with rfl | rfl
  · cases d3 with
    | @lst a xs _ hs hd =>
      refine Or.inl ⟨_, _, rfl, sq_of (s3.s _ _ hs), fun p hp => ?_⟩
      have n := Step.new (b := b) (m := false) (o := .lst (cutV xs lo hi)) s3.s hp
      exact k (.ref p) _ _ (((s1.trans s2).trans s3).trans n.up) (k3.same n) (.lst upd_same ((den_cut hd).mono n.g))
  · cases d3 with
    | @tup a xs _ hs hd =>
      refine Or.inr ⟨_, xs, rfl, ex_t s3.s hs, by rw [hd.length]; exact hn, fun p hp => ?_⟩
      have n := Step.new (b := b) (m := false) (o := .tup (cutV xs lo hi)) s3.s hp
      exact k (.ref p) _ _ (((s1.trans s2).trans s3).trans n.up) (k3.same n) (.tup (st_of upd_same) ((den_cut hd).mono n.g))
theorem likeD_seq (h : SeqD d ds) : SeqD (likeD d es) es := by
  rcases h with rfl | rfl
  · exact .inl rfl
  · exact .inr rfl
theorem d_catQ (h : SeqD d0 ds0) (ha : EvB K ta ρ β (likeD d0 ds) β1) (hb : EvB K tb ρ β1 (likeD d0 es) β2) (hz : ds.length + es.length ≤ 100000) : EvB K (tOp (rCatQ K) ta tb) ρ β (likeD d0 (ds ++ es)) β2 := by
  rcases h with rfl | rfl
  · exact d_op ha hb fun b G H v w Q e h1 h2 k => by
      cases h1 with
      | @lst a xs _ hs hd =>
        cases h2 with
        | @lst c ys _ hs' hd' =>
          refine Or.inl ⟨a, c, xs, ys, rfl, rfl, e _ _ hs, e _ _ hs', sz_of (by rw [hd.length, hd'.length]; exact hz), fun p hp => ?_⟩
          have n := Step.new (b := b) (m := false) (o := .lst (xs ++ ys)) e hp
          exact k _ _ _ n (.lst upd_same ((hd.append hd').mono n.g))
  · exact d_op ha hb fun b G H v w Q e h1 h2 k => by
      have h1' := h1
      have h2' := h2
      cases h1 with
      | @tup a xs _ hs hd =>
        cases h2 with
        | @tup c ys _ hs' hd' =>
          refine Or.inr ⟨a, c, xs, ys, rfl, rfl, ex_t e hs, ex_t e hs', sz_of (by rw [hd.length, hd'.length]; exact hz), fun z => ?_, fun z1 z => ?_, fun z1 z p hp => ?_⟩
          · subst z
            cases hd
            exact k _ G H (Step.refl e) h2'
          · subst z
            cases hd'
            rw [List.append_nil] at k
            exact k _ G H (Step.refl e) h1'
          · have n := Step.new (b := b) (m := false) (o := .tup (xs ++ ys)) e hp
            exact k _ _ _ n (.tup (st_of upd_same) ((hd.append hd').mono n.g))
end
end TD
/-! ## K03d -/
set_option Elab.async false
set_option linter.all false
set_option maxRecDepth 100000
set_option maxHeartbeats 1100000
namespace K03
open PySem L2 TD PySem.Spec PyProof.Rows
variable [TabW]
theorem cut_to {ds : List Dt} {k : Nat} : TD.cutD ds none (some (k : Int)) = ds.take k := by
  unfold TD.cutD
  rw [HT.sIx_none, HT.sIx_nat, Nat.sub_zero, List.drop_zero]
  by_cases h : k ≤ ds.length
  · rw [Nat.min_eq_left h]
  · (rw [Nat.min_eq_right (by omega), List.take_of_length_le (Nat.le_refl _), List.take_of_length_le (by omega)])
theorem cut_from {ds : List Dt} {k : Nat} : TD.cutD ds (some ((k : Int) + 1)) none = ds.drop (k + 1) := by
  unfold TD.cutD
  rw [show ((k : Int) + 1) = ((k + 1 : Nat) : Int) from rfl, HT.sIx_none, HT.sIx_nat]
  by_cases h : k + 1 ≤ ds.length
  · rw [Nat.min_eq_left h, List.take_of_length_le (by rw [List.length_drop]; omega)]
  · (rw [Nat.min_eq_right (by omega), List.drop_eq_nil_of_le (Nat.le_refl _), List.drop_eq_nil_of_le (by omega), List.take_nil])
theorem slT_to {K : PySem.W.Frag} {te th : TE} {ρ : Rho} {β : Bag} {ns : List Int} {k : Nat} (h : EvB K te ρ β (tupI ns) β) (hk : EvB K th ρ β (.int (k : Int)) β) (lt : k < ns.length) : EvB K (tSl (rSlT K) te tNoPart (tPart th)) ρ β (tupI (ns.take k)) β :=
  (d_slT h o_none (o_some hk) (by rw [HT.sIx_nat, List.length_map]; omega)).to (by rw [cut_to]; show _ = PyData.tuple ((ns.take k).map PyData.int); rw [List.map_take])
theorem slT_from {K : PySem.W.Frag} {te th : TE} {ρ : Rho} {β : Bag} {ns : List Int} {k : Nat} (h : EvB K te ρ β (tupI ns) β) (hk : EvB K th ρ β (.int ((k : Int) + 1)) β) (lt : k < ns.length) : EvB K (tSl (rSlT K) te (tPart th) tNoPart) ρ β (tupI (ns.drop (k + 1))) β :=
  (d_slT h (o_some hk) o_none (by rw [show ((k : Int) + 1) = ((k + 1 : Nat) : Int) from rfl, HT.sIx_nat, List.length_map]; omega)).to (by rw [cut_from]; show _ = PyData.tuple ((ns.drop (k + 1)).map PyData.int); rw [List.map_drop])
theorem sl_tupK {X : Cx} {K : PySem.W.Frag} (hK : X.K = K := by rfl) : SlR X (rSlT K) := hK ▸ sl_tup
theorem op_catAK {X : Cx} {K : PySem.W.Frag} (hK : X.K = K := by rfl) : OpR X (binaryOp .Add) (rCatA K) := hK ▸ op_catA
def minL (rows : List (List Int)) (i k : Nat) : List (List Int) := (rows.take i ++ rows.drop (i + 1)).map fun r => r.take k ++ r.drop (k + 1)
theorem minL_zero (rows : List (List Int)) (k : Nat) : minL rows 0 k = Det.minorL rows k := by
  unfold minL Det.minorL
  rw [List.take_zero, List.nil_append, Nat.zero_add, List.drop_one]


abbrev s_minor : Stmt := top 41
theorem sc_minor : FnScope ["rows", "row", "column", "kept", "one"] ["rows", "row", "column"] (defScope s_minor) := ⟨rfl, rfl, rfl, by decide +kernel, rfl, by decide +kernel, by decide +kernel⟩
abbrev R_minor : FR := fun as β r β' => ∃ d rows i k, as = [.imm d, .imm (.int ((i : Nat) : Int)), .imm (.int ((k : Nat) : Int))] ∧ SeqD d (rows.map tupI) ∧ Det.Sq rows.length rows ∧ i < rows.length ∧ k < rows.length ∧ rows.length ≤ 6 ∧ r = .list ((minL rows i k).map tupI) ∧ β = none ∧ β' = none
theorem ok_minor {P : Program} {w : World} {K : PySem.W.Frag} {mg : Str → Option Value} {base : Heap} {Y : Cn} (F : DefAt K "minor" s_minor) (hX : K.In base) (hG : base.Ns mainGlobals mg) (T : Txt K mg Y)  : FnG P w K mg base 1 "minor" ["rows", "row", "column"] R_minor := by
  have nd := sc_minor.nd
  refine fn_mk F hX hG sc_minor (fun as β r β' h => by first | exact FR.len h | (obtain ⟨_, rfl, _⟩ := h; rfl) | (obtain ⟨_, _, rfl, _⟩ := h; rfl) | (obtain ⟨_, _, _, rfl, _⟩ := h; rfl) | (obtain ⟨_, _, _, _, rfl, _⟩ := h; rfl) | (obtain ⟨_, _, _, _, _, rfl, _⟩ := h; rfl)) (fun _ _ _ _ _ _ _ us hl => match us, hl with | [_, _, _], _ => rfl) (fun f cdv A outer s H E hr => ⟨_, (pss_cons (ps_set (i := 3) nd rfl (Or.inl rfl) (pe_op op_catQ (pe_slice sl_Q (pv 0) po_none (po_some (pv 1))) (pe_slice sl_Q (pv 0) (po_some (pe_op op_add (pv 1) pe_int)) po_none))) (pss_one (ps_ret (pe_lc (own := [("one", 4)]) rfl nd (pi_seq (pv 3)) (blkOk_by (N := ["rows", "row", "column", "kept", "one"]) (sc := defScope s_minor) (by decide +kernel)) (fun _ _ _ _ _ => by exact (pg_name (i := 4) nd rfl (Or.inl rfl))) (fun _ _ _ _ _ => by exact pts_nil) (fun _ _ _ _ _ => by exact (pe_op (op_catAK (K := K)) (pe_slice (sl_tupK (K := K)) (pv 4) po_none (po_some (pv 2))) (pe_slice (sl_tupK (K := K)) (pv 4) (po_some (pe_op op_add (pv 2) pe_int)) po_none))))))), fun as β r β' hR => ?_⟩)
  obtain ⟨d, rows, i, k, rfl, hd, sq, hi, hk, few, rfl, rfl, rfl⟩ := hR
  dsimp only [cxOf, Cx.nox, Cx.wish]
  have hl : (rows.map tupI).length = rows.length := List.length_map ..
  have hc : EvB K (tOp (rCatQ K) (tSl (rSlQ K) (tVar 0) tNoPart (tPart (tVar 1))) (tSl (rSlQ K) (tVar 0) (tPart (tOp (rI0 fun i j => .int (i + j)) (tVar 1) (tC (.int 1)))) tNoPart)) [some (.imm d), some (.imm (.int (i : Int))), some (.imm (.int (k : Int))), none, none] none (likeD d ((rows.take i ++ rows.drop (i + 1)).map tupI)) none := by
    refine (d_catQ hd (ds := (rows.map tupI).take i) (es := (rows.map tupI).drop (i + 1)) ((d_slQ (d_var rfl) hd o_none (o_some (d_var rfl)) ?_).to ?_) ((d_slQ (d_var rfl) hd (o_some (i := (i : Int) + 1) (d_add (d_var rfl) d_int)) o_none ?_).to ?_) ?_).to ?_
    · rw [HT.sIx_nat, hl]; omega
    · rw [cut_to]
    · rw [show (i : Int) + 1 = ((i + 1 : Nat) : Int) from rfl, HT.sIx_nat, hl]; omega
    · rw [cut_from]
    · rw [List.length_take, List.length_drop, hl]; omega
    · rw [← List.map_drop, ← List.map_take, ← List.map_append]
  refine .ret (st_sq (st_asg hc) (st_ret ?_))
  have ht : (rows.take i ++ rows.drop (i + 1)).length ≤ 6 := by rw [List.length_append, List.length_take, List.length_drop]; omega
  refine (d_lcQ (rs := (rows.take i ++ rows.drop (i + 1)).map fun r => tupI (r.take k ++ r.drop (k + 1))) (d_var rfl) (likeD_seq hd) ?_ (by rw [List.length_map]; omega) (wipe_ok (by decide))).to (by unfold minL; rw [List.map_map]; rfl)
  refine lc_map tupI (fun r => tupI (r.take k ++ r.drop (k + 1))) _ fun r hr => ?_
  have hrl := sq.2 r (by
    rcases List.mem_append.mp hr with z | z
    · exact List.mem_of_mem_take z
    · exact List.mem_of_mem_drop z)
  refine (d_catA (slT_to (d_var rfl) (d_var rfl) (by omega)) (slT_from (d_var rfl) (d_add (d_var rfl) d_int) (by omega)) (by rw [List.length_map, List.length_map, List.length_take, List.length_drop]; omega)).to (by show _ = PyData.tuple ((r.take k ++ r.drop (k + 1)).map PyData.int); rw [List.map_append])

end K03
/-! ## TdEn -/
set_option Elab.async false
set_option linter.all false
set_option maxRecDepth 100000
set_option maxHeartbeats 3000000
/-! enumerate of a tuple. -/
namespace TD
open PySem L2 PySem.Spec PyProof.Rows
open Evl (Ex ex_l ex_t fresh_back sq_of st_of sz_of sz_lt)
/-- a tuple's iterator at its start; an enumeration over the iterator at it -/
abbrev itT (l : Addr) : Obj := { cls := .type "tuple_iterator", data := .fields #[.ref l, .int 0 0] }
abbrev enT (it : Addr) : Obj := { cls := .type "enumerate", data := .fields #[.none, .bool false, .ref it, rawInt 0, .none, .none] }
/-- both laid behind a heap -/
abbrev enH (h : Heap) (l : Addr) : Heap := (h.push (itT l)).push (enT h.objs.size)
theorem enH_at (h : Heap) (l : Addr) : IsEnum (enH h l) (h.objs.size + 1) h.objs.size 0 .none := by
  have q : (enH h l).get? (h.push (itT l)).objs.size = some (enT h.objs.size) := Heap.get?_push_size _ rfl
  rwa [show (h.push (itT l)).objs.size = h.objs.size + 1 from Heap.size_push ..] at q
theorem enH_it (h : Heap) (l : Addr) : (enH h l).IsTupleIter h.objs.size l 0 := ⟨itT l, Heap.get?_push_of_some _ (Heap.get?_push_size _ rfl), rfl, rfl⟩
theorem meets_enumT (l : Addr) (items : Array Value) :
    Meets (Builtin.«enumerate.__new__» ⟨[.type "enumerate", .ref l], []⟩) (fun _ R s => s.heap.IsTuple l items ∧ R (.ok (.ret (.ref (s.heap.push (itT l)).objs.size))) { s with heap := enH s.heap l }) := by
  refine .of_wp ?_
  rintro prog w A R ⟨hp, gs, dr, tk, os⟩ ⟨tup, fin⟩
  have hsub := sub_enumerate
  wp_walk using wpAny_pyIter_tuple tup
  refine wpAny_stack_any fun _ => wpAny_pure ?_
  split
  · rename_i c _ _ _ _ _
    by_cases z : (c == Value.type "enumerate") = true <;> simp only [z] <;> wp_walk using wpAny_pyIter_tuple tup <;> exact ⟨_, rfl, fin⟩
  · wp_walk using wpAny_pyIter_tuple tup
    exact ⟨_, rfl, fin⟩
theorem call_enumT {prog : Program} {w : World} {A : Around} {E : Value → Shared → Prop} {s : Shared} {l : Addr} {items : Array Value} {Q : Value → Shared → Prop} (tup : s.heap.IsTuple l items)
    (k : ∀ h', IsEnum h' (s.heap.objs.size + 1) s.heap.objs.size 0 .none → h'.IsTupleIter s.heap.objs.size l 0 → (∀ b o, s.heap.get? b = some o → h'.get? b = some o) → Q (.ref (s.heap.objs.size + 1)) { s with heap := h' }) :
    wpAny (model prog w) A (call (.type "enumerate") [.ref l]) Q E s :=
  have end_ : Q (.ref (s.heap.push (itT l)).objs.size) { s with heap := enH s.heap l } := by
    rw [show (s.heap.push (itT l)).objs.size = s.heap.objs.size + 1 from Heap.size_push ..]
    exact k _ (enH_at _ l) (enH_it _ l) fun b o x => Heap.get?_push_of_some _ (Heap.get?_push_of_some _ x)
  have typ : Shared.TypeIs { s with heap := enH s.heap l } (.ref (s.heap.push (itT l)).objs.size) "enumerate" := ⟨_, Heap.get?_push_size _ rfl, rfl⟩
  callType_new F.called_enumerate (by decide) (F.typeCall_enumerate_1 _) (F.newCall_enumerate_1 _) (fun o => F.args_object_init_2 o _) F.entry_enumerate_new (meets_enumT l items) ⟨tup, typ, end_⟩
/-- the tuple at a, each item in a new pair behind its place -/
def IteT (K : PySem.W.Frag) (a : Addr) : It where
  go i H := ∃ (xs : List V) (x : V), SqT K H a xs ∧ xs[i]? = some x
  yld i H v H' := ∃ T x, v = .ref T ∧ H T = none ∧ H' = upd H T (.tup [.int (i : Nat), x]) ∧ ∀ xs, SqT K H a xs → xs[i]? = some x
  stop i H := ∃ xs : List V, SqT K H a xs ∧ xs.length = i
/-- where an enumeration of the tuple at a stands -/
structure EnSt (a e it : Addr) (i : Nat) (h : Heap) : Prop where
  en : ∃ old, IsEnum h e it ((i : Nat) : Int) old
  at_ : h.IsTupleIter it a i
  two : e ≠ it
  off : a ≠ it
theorem mem_two {e it b : Addr} (hb : b ∈ [e, it]) : b = e ∨ b = it := (List.mem_cons.mp hb).imp_right List.mem_singleton.mp
theorem EnSt.lt {a e it b : Addr} {i : Nat} {h : Heap} (st : EnSt a e it i h) (hb : b ∈ [e, it]) : b < h.objs.size := by
  rcases mem_two hb with rfl | rfl
  · exact st.en.elim fun _ he => Heap.lt_size he
  · exact st.at_.elim fun _ ho => Heap.lt_size ho.1
theorem turn_enumT {P : Program} {w : World} {K : PySem.W.Frag} {elts : List Expr} {kk : Nat} {tpos : Pos} (a e it : Addr) (hea : e ≠ a) :
    Turn P w K (.Tuple elts kk tpos) (IteT K a) [e, it] e (EnSt a e it) where
  mem := List.mem_cons_self ..
  obj := fun i h st b hb => by
    rcases mem_two hb with rfl | rfl
    · exact st.en.elim fun _ he => ⟨_, he, fun _ q => nomatch q⟩
    · exact st.at_.elim fun o ho => ⟨o, ho.1, fun _ q => nomatch ho.2.2.symm.trans q⟩
  keep := fun i h h' st k => ⟨st.en.imp fun _ he => k e (List.mem_cons_self ..) _ he, st.at_.at fun o q => k it (List.mem_cons_of_mem _ (List.mem_cons_self ..)) o q, st.two, st.off⟩
  item := by
    rintro X rfl rfl rfl calm i pins s σ H E inv hf st ⟨xs, x, hq, hx⟩
    have lt := fun {b : Addr} (hb : b ∈ [e, it]) => st.lt hb
    obtain ⟨⟨old, he⟩, at_, two, off⟩ := st
    obtain ⟨vs, rel, tup, _⟩ := inv.tuple hq
    obtain ⟨u, hu, ux⟩ := rel.get hx
    have few : i < vs.toArray.size := (List.getElem?_eq_some_iff.mp hu).elim fun q _ => by simpa using q
    have src := Draws.tuple (prog := X.prog) (w := X.w) (A := X.A.in1) (inv.ok.hd calm) it a off vs.toArray
    refine wpAny_pyNext_enum_itemD src he ⟨at_, tup⟩ few two (by simp [two, hea]) fun y h1 tk hy owned at1 pair size same => ?_
    have ey : y = u := Option.some.inj (Eq.trans (by simpa using hy.symm) hu)
    subst ey
    refine ⟨_, rfl, wpAny_letOwnedTupleGo_enum (s := { s with heap := h1, toks := tk + 1 }) owned fun h2 en2 only => ?_⟩
    -- the heap behind the turn, away from the two
    have away : ∀ (b : Addr) (o : Obj), b ∉ [e, it] → s.heap.get? b = some o → h2.get? b = some o := fun b o nb q => by
      have ne : b ≠ e := fun z => nb (z ▸ List.mem_cons_self ..)
      have ni : b ≠ it := fun z => nb (z ▸ List.mem_cons_of_mem _ (List.mem_cons_self ..))
      exact (only.2 b ne).trans (same b o ne ni q)
    have fresh : ObjOk X.prog X.w (upd H s.heap.objs.size (.tup [.int (i : Nat), x])) h2 s.heap.objs.size (.tup [.int (i : Nat), x]) := by
      refine ⟨by show 2 ≤ sizeLine; decide, [.int i tk, y], .cons ⟨_, rfl⟩ (.cons ux .nil), ⟨_, (only.2 _ fun z => Nat.lt_irrefl _ (z ▸ lt (List.mem_cons_self ..))).trans pair, rfl, _, rfl⟩⟩
    have inv1 : Inv X pins σ _ { s with heap := h2, toks := tk + 1 } := inv.turnedNew away hf (Nat.le_refl _) fresh
    refine ⟨.ref s.heap.objs.size, _, inv1, rfl, ⟨_, x, rfl, inv.hok.fresh (Nat.le_refl _), rfl, fun ys hy => by rw [inv.tuple_inj hy hq]; exact hx⟩, ⟨⟨y, en2⟩, at1.1.at fun o q => (only.2 it two.symm).trans q, two, off⟩, fun b hb => ?_⟩
    rw [upd_ne (Nat.ne_of_lt (lt hb))]
    exact (hf b hb).1
  done := by
    rintro X rfl rfl rfl calm i pins s σ H E inv hf ⟨⟨old, he⟩, at_, two, off⟩ ⟨xs, hq, hx⟩
    obtain ⟨vs, rel, tup, _⟩ := inv.tuple hq
    have all : vs.toArray.size = i := by
      have := rel.length
      simp
      omega
    obtain ⟨f0, f1, _, f3, f4, f5⟩ := hf it (List.mem_cons_of_mem _ (List.mem_cons_self ..))
    have src := Draws.tuple (prog := X.prog) (w := X.w) (A := X.A.in1) (inv.ok.hd calm) it a off vs.toArray
    exact wpAny_pyNext_enum_endD src he (by rw [all]; exact ⟨at_, tup⟩) fun h' keep => ⟨rfl, inv.turned (t' := s.toks) (fun b o hb q => keep b o hb q) f0 f1 f3 f4 f5⟩
  self := fun A i s Q E st h => st.en.elim fun _ he => wpAny_pyIter_enum he h
def iEnumT (K : PySem.W.Frag) (ta : TA) : TI := fun σ H R => ta σ H fun vs H1 => ∃ a xs, vs = [.ref a] ∧ SqT K H1 a xs ∧ R (IteT K a) H1
theorem pi_enumT {X : Cx} {K : PySem.W.Frag} {e : Expr} {ta : TA} {p pos tpos : Pos} {elts : List Expr} {kk : Nat} (hg : Gl X "enumerate") (hm : X.mg "enumerate" = none) (ha : PA X [e] ta) (hK : X.K = K := by rfl) (hs : starEach [e] X.env = [(false, eval e X.env)] := by rfl) :
    PI X (.Tuple elts kk tpos) (.Call (.Name "enumerate" p) [e] [] pos) (iEnumT K ta) := by
  subst hK
  constructor
  intro pins s σ H R inv0 h
  refine Call_ (ld_blt inv0 hg hm boot_enumerate (PyProof.Rows.callWith_type1 (thn (ha.run pos pins s σ H _ inv0 h) fun _ s1 ⟨_, H1, inv, args, a, xs, ev, hq, q⟩ => ?_) hs rfl))
  subst ev
  obtain rfl := Vals.ref1 args
  obtain ⟨its, _, tup, _⟩ := inv.tuple hq
  have la : a < s1.heap.objs.size := tup.lt
  refine call_enumT tup fun h' en at_ same => wpAny_pyIter_enum en ?_
  refine ⟨_, [s1.heap.objs.size + 1, s1.heap.objs.size], _, _, H1, rfl, inv.kept (t' := s1.toks) same, turn_enumT a _ _ (Nat.ne_of_gt (Nat.lt_succ_of_lt la)), ⟨⟨_, en⟩, at_, Nat.succ_ne_self _, Nat.ne_of_lt la⟩, fun b hb => ?_, q⟩
  have behind : s1.heap.objs.size ≤ b := by
    rcases mem_two hb with rfl | rfl
    · exact Nat.le_succ _
    · exact Nat.le_refl _
  exact inv.fpOk behind (inv.hok.fresh behind)
/-- the turns of a for over pairs of a place and an item -/
inductive ForE [TabW] (K : PySem.W.Frag) (i j : Nat) (tu : TS) : Nat → List Dt → Rho → Bag → Out → Bag → Prop
  | nil (k : Nat) (ρ : Rho) (β : Bag) : ForE K i j tu k [] ρ β (.nx ρ) β
  | nx {k : Nat} {d : Dt} {ds : List Dt} {ρ ρ1 : Rho} {β β1 β2 : Bag} {o : Out} : StB K tu ((ρ.set i (some (Slot.imm (.int (k : Nat))))).set j (some (Slot.imm d))) β (.nx ρ1) β1 → ForE K i j tu (k + 1) ds ρ1 β1 o β2 → ForE K i j tu k (d :: ds) ρ β o β2
section
variable [TabW] {K : PySem.W.Frag} {b : Addr} {ρ : Rho} {β β1 β2 : Bag} {tl : TE} {tu : TS} {o : Out} {ds : List Dt}
theorem ForE.som {i j k : Nat} (h : ForE K i j tu k ds ρ β o β2) : β2.isSome = β.isSome := by
  induction h with
  | nil => rfl
  | nx h _ ih => exact ih.trans h.som
theorem st_forE {i j : Nat} (hl : EvB K tl ρ β (.tuple ds) β1) (h : ForE K i j tu 0 ds ρ β1 o β2) : StB K (tFor (iEnumT K (tCons tl tNil)) (gTup K 2 (gCons (gName i) (gCons (gName j) gNil))) tu) ρ β o β2 := by
  refine ⟨h.som.trans hl.som, fun b G H σ D E k => ?_⟩
  refine hl.run b G H σ _ E fun v G1 H1 s1 k1 d1 => ?_
  cases d1 with
  | @tup a xs _ hs hd =>
    refine ⟨a, xs, rfl, ex_t s1.s hs, fun n m σ' H' => m = xs.length - n ∧ n ≤ xs.length ∧ ∃ G' ρ' β', Step b β.isSome G1 H1 G' H' ∧ β'.isSome = β.isSome ∧ EnvD K b β' G' H' σ' ρ' ∧ ForE K i j tu n (ds.drop n) ρ' β' o β2, ⟨_, rfl, Nat.zero_le _, G1, ρ, β1, Step.refl s1.s, hl.som, E.step s1 k1, h⟩, ?_⟩
    rintro n m σ' H' ⟨rfl, hn, G', ρ', β', s', m', E', r'⟩
    have hq := ex_t s'.s (ex_t s'.g hs)
    by_cases hlt : n < xs.length
    · have hx : xs[n]? = some (xs[n]'hlt) := List.getElem?_eq_getElem hlt
      refine .inr ⟨⟨xs, _, hq, hx⟩, fun σ2 H2 => ∃ m, m = xs.length - (n + 1) ∧ n + 1 ≤ xs.length ∧ ∃ G' ρ' β', Step b β.isSome G1 H1 G' H2 ∧ β'.isSome = β.isSome ∧ EnvD K b β' G' H2 σ2 ρ' ∧ ForE K i j tu (n + 1) (ds.drop (n + 1)) ρ' β' o β2, fun σ2 H2 ⟨m, h1, h2⟩ => ⟨m, by omega, h1, h2⟩, ?_⟩
      rintro x H2 ⟨T, y, rfl, hT, rfl, f⟩
      have hy := f xs hq
      rw [hx] at hy
      cases hy
      obtain ⟨d, hd1, hd2⟩ := hd.get hx
      have e : ds.drop n = d :: ds.drop (n + 1) := by
        obtain ⟨hlt', he⟩ := List.getElem?_eq_some_iff.mp hd1
        rw [← he]
        exact List.drop_eq_getElem_cons hlt'
      rw [e] at r'
      refine ⟨T, _, rfl, st_of upd_same, rfl, _, _, rfl, _, _, rfl, rfl, ?_⟩
      have nw := Step.new (b := b) (m := false) (o := .tup [.int (n : Nat), xs[n]'hlt]) s'.s hT
      have sn := s'.trans nw.up
      have E2 := ((E'.same nw).set (i := i) (Den.int (n : Nat))).set (i := j) (hd2.mono (s'.g.trans nw.g))
      cases r' with
      | nx hb hr => exact hb.run b _ _ _ _ E2 fun σ3 G3 H3 s3 e3 => ⟨_, rfl, hlt, G3, _, _, sn.trans (m' ▸ s3), hb.som.trans m', e3, hr⟩
    · have en : n = xs.length := by omega
      subst en
      rw [hd.length, List.drop_length] at r'
      cases r'
      exact .inl ⟨⟨xs, hq, rfl⟩, k σ' G' H' (s1.trans s') E'⟩
end
end TD
/-! ## NumDetB -/
set_option linter.all false
/-! How great a determinant may be. -/
namespace Det
theorem ent_le {rows : List (List Int)} {B : Nat} (h : ∀ r ∈ rows, ∀ x ∈ r, x.natAbs ≤ B) (i j : Nat) : (entL rows i j).natAbs ≤ B := by
  unfold entL
  by_cases hi : i < rows.length
  · have e : rows.getD i [] = rows[i] := by rw [List.getD_eq_getElem?_getD, List.getElem?_eq_getElem hi]; rfl
    rw [e]
    by_cases hj : j < rows[i].length
    · have e2 : rows[i].getD j 0 = rows[i][j] := by rw [List.getD_eq_getElem?_getD, List.getElem?_eq_getElem hj]; rfl
      rw [e2]
      exact h _ (List.getElem_mem hi) _ (List.getElem_mem hj)
    · rw [List.getD_eq_getElem?_getD, List.getElem?_eq_none (by omega)]
      exact Nat.zero_le _
  · have e : rows.getD i [] = [] := by rw [List.getD_eq_getElem?_getD, List.getElem?_eq_none (by omega)]; rfl
    rw [e]
    exact Nat.zero_le _
theorem minor_le {rows : List (List Int)} {B : Nat} (h : ∀ r ∈ rows, ∀ x ∈ r, x.natAbs ≤ B) (k : Nat) : ∀ r ∈ minorL rows k, ∀ x ∈ r, x.natAbs ≤ B := by
  intro r hr x hx
  unfold minorL at hr
  obtain ⟨q, hq, rfl⟩ := List.mem_map.mp hr
  refine h q (List.mem_of_mem_tail hq) x ?_
  rcases List.mem_append.mp hx with z | z
  · exact List.mem_of_mem_take z
  · exact List.mem_of_mem_drop z
theorem detL_le (e : Nat) : ∀ (n : Nat) {rows : List (List Int)}, n ≤ 5 → (∀ r ∈ rows, ∀ x ∈ r, x.natAbs ≤ 2 ^ e) → (detL n rows).natAbs ≤ 2 ^ ((e + 3) * (n + 1))
  | 0, rows, _, h => Nat.le_trans (ent_le h 0 0) (Nat.pow_le_pow_right (by decide) (by omega))
  | n + 1, rows, hn, h => by
    have body : ∀ (js : List Nat) (t : Int), (js.foldl (fun t j => if entL rows 0 j = 0 then t else if j % 2 = 1 then t - entL rows 0 j * detL n (minorL rows j) else t + entL rows 0 j * detL n (minorL rows j)) t).natAbs ≤ t.natAbs + js.length * (2 ^ e * 2 ^ ((e + 3) * (n + 1))) := by
      intro js
      induction js with
      | nil => exact fun t => by simp
      | cons j js ih =>
        intro t
        rw [List.foldl_cons]
        refine Nat.le_trans (ih _) ?_
        have hm : (entL rows 0 j * detL n (minorL rows j)).natAbs ≤ 2 ^ e * 2 ^ ((e + 3) * (n + 1)) := by
          rw [Int.natAbs_mul]
          exact Nat.mul_le_mul (ent_le h 0 j) (detL_le e n (by omega) (minor_le h j))
        rw [List.length_cons, Nat.succ_mul js.length]
        generalize entL rows 0 j * detL n (minorL rows j) = m at hm
        generalize 2 ^ e * 2 ^ ((e + 3) * (n + 1)) = B at hm
        generalize js.length * B = C
        split
        · omega
        · split <;> omega
    refine Nat.le_trans (body (List.range (n + 2)) 0) ?_
    rw [List.length_range]
    have e1 : 2 ^ ((e + 3) * (n + 1 + 1)) = 8 * (2 ^ e * 2 ^ ((e + 3) * (n + 1))) := by
      rw [Nat.mul_add (e + 3) (n + 1) 1, Nat.mul_one, Nat.pow_add, Nat.pow_add 2 e 3]
      have : (2 : Nat) ^ 3 = 8 := rfl
      rw [this]
      generalize 2 ^ ((e + 3) * (n + 1)) = a
      generalize 2 ^ e = b
      rw [Nat.mul_comm a, Nat.mul_comm b 8, Nat.mul_assoc]
    rw [e1]
    show 0 + _ ≤ _
    rw [Nat.zero_add]
    (exact Nat.mul_le_mul_right _ (by omega))
end Det
/-! ## K03e -/
set_option Elab.async false
set_option linter.all false
set_option maxRecDepth 100000
set_option maxHeartbeats 1100000
namespace K03
open PySem L2 TD PySem.Spec PyProof.Rows
variable [TabW]
def stepL (n : Nat) (rows : List (List Int)) (t : Int) (j : Nat) : Int := if Det.entL rows 0 j = 0 then t else if j % 2 = 1 then t - Det.entL rows 0 j * Det.detL n (Det.minorL rows j) else t + Det.entL rows 0 j * Det.detL n (Det.minorL rows j)
structure DetOk (rows : List (List Int)) : Prop where
  sq : Det.Sq rows.length rows
  pos : 0 < rows.length
  few : rows.length ≤ 6
  szr : ∀ r ∈ rows, ∀ x ∈ r, x.natAbs ≤ 2 ^ 200
theorem DetOk.minor {rows : List (List Int)} (h : DetOk rows) {j : Nat} (hj : j < rows.length) (h1 : 1 < rows.length) : DetOk (Det.minorL rows j) ∧ (Det.minorL rows j).length = rows.length - 1 := by
  have e : rows.length = (rows.length - 1) + 1 := by omega
  have q := Det.sq_minor (n := rows.length - 1) (by rw [← e]; exact h.sq) (by omega : j < rows.length - 1 + 1)
  have hl := q.1
  have hf := h.few
  exact ⟨⟨by rw [hl]; exact q, by omega, by omega, Det.minor_le h.szr j⟩, hl⟩
abbrev R_det (n : Nat) : FR := fun as β r β' => ∃ d rows, as = [.imm d] ∧ SeqD d (rows.map tupI) ∧ DetOk rows ∧ rows.length ≤ n ∧ r = .int (Det.detL (rows.length - 1) rows) ∧ β = none ∧ β' = none
def rOdd : R2 := fun x y H Q => ∃ n : Nat, x = .int (n : Int) ∧ y = .int 1 ∧ Q (.int ((n % 2 : Nat) : Int)) H
theorem op_oddR {X : Cx} : OpR X (binaryOp .BitAnd) rOdd := op_odd
theorem d_odd {K : PySem.W.Frag} {ta tb : TE} {ρ : Rho} {β β1 β2 : Bag} {n : Nat} (ha : EvB K ta ρ β (.int (n : Int)) β1) (hb : EvB K tb ρ β1 (.int 1) β2) : EvB K (tOp rOdd ta tb) ρ β (.int ((n % 2 : Nat) : Int)) β2 := d_op ha hb fun b G H v w Q e h1 h2 k => by
  cases h1
  cases h2
  exact ⟨n, rfl, rfl, k _ G H (Step.refl e) (.int _)⟩
theorem det_bottom {P : Program} {w : World} {K : PySem.W.Frag} {mg : Str → Option Value} {base : Heap} (F : DefAt K "determinant_of_rows" (top 42)) (hX : K.In base) (hG : base.Ns mainGlobals mg) (S : FnScope ["rows", "total", "at", "number", "part"] ["rows"] (defScope (top 42))) : FnG P w K mg base 2 "determinant_of_rows" ["rows"] (R_det 0) :=
  fn_mk F hX hG S (fun as β r β' ⟨_, _, h, _⟩ => by rw [h]; rfl) (fun _ _ _ _ _ _ _ us hl => match us, hl with | [_], _ => rfl) fun f cdv A outer s H E hr => ⟨fun _ _ _ => False, ⟨fun _ _ _ _ _ _ h => h.elim⟩, fun as β r β' ⟨_, rows, _, _, ok, hl, _⟩ => by
    have := ok.pos
    omega⟩


abbrev s_determinant_of_rows : Stmt := top 42
theorem sc_determinant_of_rows : FnScope ["rows", "total", "at", "number", "part"] ["rows"] (defScope s_determinant_of_rows) := ⟨rfl, rfl, rfl, by decide +kernel, rfl, by decide +kernel, by decide +kernel⟩
theorem ok_determinant_of_rows {m : Nat} {P : Program} {w : World} {K : PySem.W.Frag} {mg : Str → Option Value} {base : Heap} {Y : Cn} (F : DefAt K "determinant_of_rows" s_determinant_of_rows) (hX : K.In base) (hG : base.Ns mainGlobals mg) (T : Txt K mg Y) (G_determinant_of_rows : FnG P w K mg base (m + 2) "determinant_of_rows" ["rows"] (R_det m)) (G_minor : FnG P w K mg base 1 "minor" ["rows", "row", "column"] R_minor) : FnG P w K mg base (m + 3) "determinant_of_rows" ["rows"] (R_det (m + 1)) := by
  have nd := sc_determinant_of_rows.nd
  refine fn_mk F hX hG sc_determinant_of_rows (fun as β r β' h => by first | exact FR.len h | (obtain ⟨_, rfl, _⟩ := h; rfl) | (obtain ⟨_, _, rfl, _⟩ := h; rfl) | (obtain ⟨_, _, _, rfl, _⟩ := h; rfl) | (obtain ⟨_, _, _, _, rfl, _⟩ := h; rfl) | (obtain ⟨_, _, _, _, _, rfl, _⟩ := h; rfl)) (fun _ _ _ _ _ _ _ us hl => match us, hl with | [_], _ => rfl) (fun f cdv A outer s H E hr => ⟨_, (pss_cons (ps_if (pt_cmpR op_eq (pe_callB (c_lenK (K := K)) (by rfl) T.z_len bo_len (pa_cons (pv 0) pa_nil)) pe_int (nomark _)) (pss_one (ps_ret (pe_ix ix_seq (pe_ix ix_seq (pv 0) pe_int (fun _ _ => rfl)) pe_int (fun _ _ => rfl)))) pss_nil) (pss_cons (ps_set (i := 1) nd rfl (Or.inl rfl) pe_int) (pss_cons (ps_for PassesOwn.never rfl (pi_enumT (by rfl) T.z_enumerate (pa_cons (pe_ix ix_seq (pv 0) pe_int (fun _ _ => rfl)) pa_nil)) (pg_tupK (K := K) (n := 2) rfl (pgs_cons (pg_name (i := 2) nd rfl (Or.inl rfl)) (pgs_cons (pg_name (i := 3) nd rfl (Or.inl rfl)) pgs_nil))) (pss_one (ps_if (pt_cmpR op_ne (pv 3) pe_int (nomark _)) (pss_cons (ps_set (i := 4) nd rfl (Or.inl rfl) (pe_op op_mulW (pv 3) (pe_fn G_determinant_of_rows (hr.mono (by omega)) (pa_cons (pe_fn G_minor (hr.mono (by omega)) (pa_cons (pv 0) (pa_cons pe_int (pa_cons (pv 2) pa_nil)))) pa_nil)))) (pss_one (ps_set (i := 1) nd rfl (Or.inl rfl) (pe_ifExp (pt_tru (pe_op op_oddR (pv 2) pe_int)) (pe_op op_sub (pv 1) (pv 4)) (pe_op op_add (pv 1) (pv 4)))))) pss_nil))) (pss_one (ps_ret (pv 1)))))), fun as β r β' hR => ?_⟩)
  obtain ⟨d, rows, rfl, hd, ok, hm, rfl, rfl, rfl⟩ := hR
  dsimp only [cxOf, Cx.nox, Cx.wish]
  have hlen : EvB K (tCB (TD.rLen K) (tCons (tVar 0) tNil)) [some (.imm d), none, none, none, none] none (.int (rows.length : Int)) none := (d_len (d_var rfl) hd).to (by rw [List.length_map])
  obtain ⟨r0, rest, rfl⟩ : ∃ r0 rest, rows = r0 :: rest := by
    cases rows with
    | nil => exact absurd ok.pos (by decide)
    | cons a b => exact ⟨a, b, rfl⟩
  have h00 : ∀ ρ : Rho, ρ[0]? = some (some (.imm d)) → EvB K (tOp (rIx K) (tVar 0) (tC (.int 0))) ρ none (tupI r0) none := fun ρ h => d_ix (d_var h) hd d_int (at0 _ _)
  have hr0 : r0.length = rest.length + 1 := ok.sq.2 r0 (List.mem_cons_self ..)
  by_cases h1 : rest.length = 0
  · obtain rfl : rest = [] := List.length_eq_zero_iff.mp h1
    obtain ⟨x, rfl⟩ : ∃ x, r0 = [x] := List.length_eq_one_iff.mp hr0
    exact .ret (st_seqR (st_ifT ((t_test (d_eqI hlen d_int)).to rfl) (st_ret (d_ix (h00 _ rfl) (.inr rfl) d_int (at0 _ _)))))
  · obtain ⟨n, hn⟩ : ∃ n, rest.length = n + 1 := ⟨rest.length - 1, by omega⟩
    have hL : (r0 :: rest).length = n + 2 := by rw [List.length_cons, hn]
    have few := ok.few
    rw [hL] at few hm
    have ent : ∀ j (hj : j < n + 2), Det.entL (r0 :: rest) 0 j = r0[j]'(by omega) := fun j hj => by
      show r0.getD j 0 = _
      rw [List.getD_eq_getElem?_getD, List.getElem?_eq_getElem (by omega)]
      rfl
    have turn : ∀ (mm k : Nat) (t : Int) (a b c : Option Slot), k + mm = n + 2 → ∃ a' b' c', ForE K 2 3 (tIfS (tTest (tOp rNe (tVar 3) (tC (.int 0)))) (tSeq (tAsg (tOp (rI CMulW fun i j => V.int (i * j)) (tVar 3) (tCall (spR K (R_det m)) [] E0 (tCons (tCall (spR K R_minor) [] E0 (tCons (tVar 0) (tCons (tC (.int 0)) (tCons (tVar 2) tNil)))) tNil))) (gName 4)) (tAsg (tIf (tTruth K (tOp rOdd (tVar 2) (tC (.int 1)))) (tOp (rI0 fun i j => V.int (i - j)) (tVar 1) (tVar 4)) (tOp (rI0 fun i j => V.int (i + j)) (tVar 1) (tVar 4))) (gName 1))) tNext) k ((r0.drop k).map PyData.int) [some (.imm d), some (.imm (.int t)), a, b, c] none (.nx [some (.imm d), some (.imm (.int ((List.range' k mm).foldl (stepL n (r0 :: rest)) t))), a', b', c']) none := by
      intro mm
      induction mm with
      | zero =>
        intro k t a b c hk
        rw [List.drop_eq_nil_of_le (by omega)]
        exact ⟨a, b, c, .nil _ _ _⟩
      | succ mm ih =>
        intro k t a b c hk
        have hlt : k < n + 2 := by omega
        have hk0 : k < r0.length := by omega
        rw [List.drop_eq_getElem_cons hk0, List.map_cons, List.range'_succ, List.foldl_cons]
        generalize hx : r0[k] = x
        have ex : Det.entL (r0 :: rest) 0 k = x := by rw [ent k hlt, hx]
        by_cases h0 : x = 0
        · have e1 : stepL n (r0 :: rest) t k = t := if_pos (by rw [ex, h0])
          rw [e1]
          obtain ⟨a', b', c', hh⟩ := ih (k + 1) t (some (.imm (.int (k : Nat)))) (some (.imm (.int x))) c (by omega)
          exact ⟨a', b', c', .nx (st_ifF ((t_test (d_neI (d_var rfl) d_int)).to (by rw [h0]; rfl)) st_next) hh⟩
        · obtain ⟨okm, lenm⟩ := ok.minor (j := k) (by rw [hL]; exact hlt) (by omega)
          have lm : (Det.minorL (r0 :: rest) k).length = n + 1 := by rw [lenm, hL]; rfl
          have hp : EvB K (tOp (rI CMulW fun i j => V.int (i * j)) (tVar 3) (tCall (spR K (R_det m)) [] E0 (tCons (tCall (spR K R_minor) [] E0 (tCons (tVar 0) (tCons (tC (.int 0)) (tCons (tVar 2) tNil)))) tNil))) [some (.imm d), some (.imm (.int t)), some (.imm (.int (k : Nat))), some (.imm (.int x)), c] none (.int (x * Det.detL n (Det.minorL (r0 :: rest) k))) none := by
            refine d_mul (d_var rfl) (d_call0 (a_con (d_call0 (a_con (d_var rfl) (a_con d_int (a_con (d_var rfl) a_nil))) ⟨d, r0 :: rest, 0, k, rfl, hd, ok.sq, by omega, by rw [hL]; exact hlt, by rw [hL]; exact few, rfl, rfl, rfl⟩) a_nil) ⟨_, Det.minorL (r0 :: rest) k, rfl, .inl (by rw [minL_zero]), okm, by omega, by rw [lm]; rfl, rfl, rfl⟩) ?_
            have hb := Det.detL_le 200 n (by omega) okm.szr
            have hxb : x.natAbs ≤ 2 ^ 200 := by rw [← hx]; exact ok.szr r0 (List.mem_cons_self ..) _ (List.getElem_mem hk0)
            have h2 : (Det.detL n (Det.minorL (r0 :: rest) k)).natAbs < 2 ^ (203 * (n + 1) + 1) := Nat.lt_of_le_of_lt hb (Nat.pow_lt_pow_right (by decide) (by omega))
            exact wide_mul (a := 201) (b := 203 * (n + 1) + 1) (Nat.lt_of_le_of_lt hxb (Nat.pow_lt_pow_right (by decide) (by decide))) h2 (by decide) (by omega) (by omega)
          obtain ⟨a', b', c', hh⟩ := ih (k + 1) (stepL n (r0 :: rest) t k) (some (.imm (.int (k : Nat)))) (some (.imm (.int x))) (some (.imm (.int (x * Det.detL n (Det.minorL (r0 :: rest) k))))) (by omega)
          refine ⟨a', b', c', .nx (st_ifT ((t_test (d_neI (d_var rfl) d_int)).to (by simpa using h0)) (st_sq (st_asg hp) (st_asg ?_))) hh⟩
          by_cases ho : k % 2 = 1
          · exact (d_ifT ((t_truthI (d_odd (d_var rfl) d_int)).to (by rw [ho]; rfl)) (d_sub (d_var rfl) (d_var rfl))).to (by unfold stepL; rw [ex, if_neg h0, if_pos ho])
          · exact (d_ifF ((t_truthI (d_odd (d_var rfl) d_int)).to (by rw [show k % 2 = 0 by omega]; rfl)) (d_add (d_var rfl) (d_var rfl))).to (by unfold stepL; rw [ex, if_neg h0, if_neg ho])
    obtain ⟨a', b', c', hfor⟩ := turn (n + 2) 0 0 none none none (by omega)
    refine .ret (st_sq (st_ifF ((t_test (d_eqI hlen d_int)).to (decide_eq_false (by rw [hL]; omega))) st_next) (st_sq (st_asg d_int) (st_sq (st_forE (h00 _ rfl) hfor) (st_ret ((d_var rfl).to ?_)))))
    rw [hL, List.range_eq_range'.symm]
    rfl

end K03
/-! ## K03f -/
set_option Elab.async false
set_option linter.all false
set_option maxRecDepth 100000
set_option maxHeartbeats 1100000
namespace K03
open PySem L2 TD PySem.Spec PyProof.Rows
variable [TabW]
theorem det_all {P : Program} {w : World} {K : PySem.W.Frag} {mg : Str → Option Value} {base : Heap} {Y : Cn} (F : DefAt K "determinant_of_rows" s_determinant_of_rows) (hX : K.In base) (hG : base.Ns mainGlobals mg) (T : Txt K mg Y) (G_minor : FnG P w K mg base 1 "minor" ["rows", "row", "column"] R_minor) : ∀ n, FnG P w K mg base (n + 2) "determinant_of_rows" ["rows"] (R_det n)
  | 0 => det_bottom F hX hG sc_determinant_of_rows
  | n + 1 => ok_determinant_of_rows F hX hG T (det_all F hX hG T G_minor n) G_minor


abbrev s_determinant : Stmt := top 43
theorem sc_determinant : FnScope ["prime", "table"] ["prime", "table"] (defScope s_determinant) := ⟨rfl, rfl, rfl, by decide +kernel, rfl, by decide +kernel, by decide +kernel⟩
abbrev R_determinant (Y : Cn) : FX := fun as β r β' => ∃ d t, as = [.imm d, .imm t] ∧ ((∃ p, d = .int p ∧ Num.PrimeI p ∧ ((Num.isTable p t && Num.sqB 1 6 t) = false ∧ r = .ex Y.cB none ∨ ∃ rows, (Num.isTable p t && Num.sqB 1 6 t) = true ∧ t = .tuple (rows.map tupI) ∧ DetOk rows ∧ r = .ok (.int (Num.settled p (Det.detL (rows.length - 1) rows))))) ∨ Num.isPrime d = false ∧ r = .ex Y.cN (some ("given", d))) ∧ β = none ∧ β' = none
theorem ok_determinant {P : Program} {w : World} {K : PySem.W.Frag} {mg : Str → Option Value} {base : Heap} {Y : Cn} (F : DefAt K "determinant" s_determinant) (hX : K.In base) (hG : base.Ns mainGlobals mg) (T : Txt K mg Y) (G_need_square : FnX P w K mg base 6 "need_square" ["prime", "table", "least", "most"] (R_need_square Y)) (G_settled : FnG P w K mg base 1 "settled" ["prime", "number"] R_settled) (G_determinant_of_rows : FnG P w K mg base 8 "determinant_of_rows" ["rows"] (R_det 6)) : FnX P w K mg base 9 "determinant" ["prime", "table"] (R_determinant Y) := by
  have nd := sc_determinant.nd
  refine fnX_mk F hX hG sc_determinant (fun as β r β' h => by first | exact FR.len h | (obtain ⟨_, rfl, _⟩ := h; rfl) | (obtain ⟨_, _, rfl, _⟩ := h; rfl) | (obtain ⟨_, _, _, rfl, _⟩ := h; rfl) | (obtain ⟨_, _, _, _, rfl, _⟩ := h; rfl) | (obtain ⟨_, _, _, _, _, rfl, _⟩ := h; rfl)) (fun _ _ _ _ _ _ _ us hl => match us, hl with | [_, _], _ => rfl) (fun f cdv A outer s H E hr => ⟨_, (pss_cons (ps_expr (pe_fnX G_need_square (hr.mono (by decide)) (pass_x (takes_of rfl rfl rfl rfl)) (pa_cons (pv 0) (pa_cons (pv 1) (pa_cons pe_int (pa_cons (pe_glob (v := .int _) (by rfl) T.c_MAX_SQUARE ⟨_, rfl⟩) pa_nil)))))) (pss_one (ps_ret (pe_fn G_settled (hr.mono (by decide)) (pa_cons (pv 0) (pa_cons (pe_fn G_determinant_of_rows (hr.mono (by decide)) (pa_cons (pv 1) pa_nil)) pa_nil)))))), fun as β r β' hR => ?_⟩)
  obtain ⟨d, t, rfl, hd, rfl, rfl⟩ := hR
  have ha : ∀ d : Dt, EvA K (tCons (tVar 0) (tCons (tVar 1) (tCons (tC (.int 1)) (tCons (tC (.int 6)) tNil)))) (startR ["prime", "table"] [.imm d, .imm t]) none [.imm d, .imm t, .imm (.int 1), .imm (.int 6)] none := fun d => a_con (d_var rfl) (a_con (d_var rfl) (a_con d_int (a_con d_int a_nil)))
  rcases hd with ⟨p, rfl, hp, hv⟩ | ⟨h, rfl⟩
  · rcases hv with ⟨hf, rfl⟩ | ⟨rows, ht, rfl, ok, rfl⟩
    · exact .ex (stR_seq (stR_drop (x_raise0 (ha _) ⟨_, _, 1, 6, rfl, .inl ⟨p, rfl, hp, .inr ⟨hf, rfl⟩⟩, rfl, rfl⟩)))
    · have h1 : EvB K (tCall (spX K (R_need_square Y)) [] E (tCons (tVar 0) (tCons (tVar 1) (tCons (tC (.int 1)) (tCons (tC (.int 6)) tNil))))) (startR ["prime", "table"] [.imm (.int p), .imm (.tuple (rows.map tupI))]) none .none none := x_call0 (ha _) ⟨_, _, 1, 6, rfl, .inl ⟨p, rfl, hp, .inl ⟨ht, rfl⟩⟩, rfl, rfl⟩
      exact .ok (.ret (st_sq (st_drop h1) (st_ret (c_f2 (a := PyData.int) (a' := PyData.int) (x := p) (d_var rfl) (d_call0 (a_con (d_var rfl) a_nil) ⟨_, rows, rfl, .inr rfl, ok, ok.few, rfl, rfl, rfl⟩) hp.small.1))))
  · exact .ex (stR_seq (stR_drop (x_raise0 (ha _) ⟨_, _, 1, 6, rfl, .inr ⟨h, rfl⟩, rfl, rfl⟩)))

end K03
/-! ## TdW -/
set_option Elab.async false
set_option linter.all false
set_option maxRecDepth 100000
set_option maxHeartbeats 4100000
/-! Defs told at the level of the heap: the bag's maker, and the whole law. -/
namespace TD
open PySem L2 PySem.Spec PyProof.Rows
open Evl (Ex ex_l ex_t fresh_back sq_of st_of sz_of sz_lt)
structure FnS (P : Program) (w : World) (K : PySem.W.Frag) (mg : Str → Option Value) (base : Heap) (k : Nat) (x : Str) (ps : List Str) (sp : Sp) : Prop where
  ex : ∃ (f : Addr) (fd : FuncData), mg x = some (.ref f) ∧ FnOk P w K mg base CX0 k f fd ps sp ∧ Binds K fd ps [] ∧ PySem.W.keepIn K (.ref f) = true
/-- .. where nothing is being shown; with the function's data -/
structure FnSG (P : Program) (w : World) (K : PySem.W.Frag) (mg : Str → Option Value) (base : Heap) (k : Nat) (x : Str) (ps : List Str) (sp : Sp) : Prop where
  ex : ∃ (f : Addr) (fd : FuncData), mg x = some (.ref f) ∧ FnOkG P w K mg base CX0 k f fd ps sp ∧ ∃ oc od osl, K.lookup f = some ⟨oc, od, .func fd, osl⟩
section
variable {X : Cx} {k : Nat} {x : Str} {ps : List Str} {sp : Sp} {q pos : Pos} {e : Expr} {es : List Expr} {t : TA}
theorem pe_fnS {P : Program} {w : World} {K : PySem.W.Frag} {mg : Str → Option Value} {base : Heap} (F : FnS P w K mg base k x ps sp) (hr : Room k X.A) (ha : PA X (e :: es) t) (h1 : X.prog = P := by rfl) (h2 : X.w = w := by rfl) (h3 : X.K = K := by rfl) (h4 : X.mg = mg := by rfl) (h5 : X.base = base := by rfl)
    (hg : Gl X x := by rfl) (hdb : (x == ("__debug__" : Str)) = false := by decide) (hs : starEach (e :: es) X.env = (false, eval e X.env) :: starEach es X.env := by rfl)
    (hp : (backTo pos (starEach es X.env)).any (·.1) = false := by rfl) : PE X (.Call (.Name x q) (e :: es) [] pos) (tCall sp [] E0 t) := by
  obtain ⟨f, fd, hm, hf, hb, hk⟩ := F.ex
  subst h1 h2 h3 h4 h5
  exact pe_call hf hr hg hm hk hb .nil pass0 ha hdb hs hp
end
section
variable {P : Program} {w : World} {K : PySem.W.Frag} {mg : Str → Option Value} {base : Heap} {k : Nat} {x : Str} {st : Stmt} {N ps : List Str} {sp : Sp}
theorem fnS_mk (F : DefAt K x st) (hX : K.In base) (hG : base.Ns mainGlobals mg) (S : FnScope N ps (defScope st)) (hlen : ∀ vs H Q E, sp vs H Q E → vs.length = ps.length)
    (hb : ∀ (f : Addr) (kV doc pm : Value) (an : Option Addr) (cdv ct : Value) (us : List Value), us.length = ps.length → bindArgs (PySem.W.fnOf x x (defArgs st) (defBody st) (defScope st) .none kV doc pm an cdv ct) ⟨us, []⟩ = pure (ps.zip us))
    (hbody : ∀ (f : Addr) (cdv : Value) (A : Around) (outer : List PySem.Env) (s : Shared) (H : Hp) (E : XK), Room k (A.deeper (envOfC x (defScope st) s.heap.objs.size f cdv)) →
      ∃ t, PSs (cxOf CX0 P w K mg base N x (defScope st) f cdv A outer s H E).nox (defBody st) t ∧ ∀ vs H Q E, sp vs H Q E → t { nx := fun _ H' => Q .non H', rt := Q } (L2.start N vs) H) : FnS P w K mg base (k + 1) x ps sp := by
  obtain ⟨f, fd, ha, hF⟩ := F.ex
  refine ⟨f, fd, PySem.W.mg_of hX hG ha, ?_, hF.binds (hb f), hF.kp⟩
  refine hF.ok S hlen fun cdv A outer s H vs Q E hr hsp => ?_
  obtain ⟨t, h1, h2⟩ := hbody f cdv A outer s H E hr
  exact ⟨t, h1, h2 vs H Q E hsp⟩
theorem fnSG_mk [TabW] (F : DefAt K x st) (hX : K.In base) (hG : base.Ns mainGlobals mg) (S : FnScope N ps (defScope st)) (hlen : ∀ vs H Q E, sp vs H Q E → vs.length = ps.length)
    (hb : ∀ (f : Addr) (kV doc pm : Value) (an : Option Addr) (cdv ct : Value) (us : List Value), us.length = ps.length → bindArgs (PySem.W.fnOf x x (defArgs st) (defBody st) (defScope st) .none kV doc pm an cdv ct) ⟨us, []⟩ = pure (ps.zip us))
    (hbody : ∀ (f : Addr) (cdv : Value) (A : Around) (outer : List PySem.Env) (s : Shared) (H : Hp) (E : XK), RoomG k (A.deeper (envOfC x (defScope st) s.heap.objs.size f cdv)) →
      ∃ t, PSs (cxOf CX0 P w K mg base N x (defScope st) f cdv A outer s H E).nox (defBody st) t ∧ ∀ vs H Q E, sp vs H Q E → t { nx := fun _ H' => Q .non H', rt := Q } (L2.start N vs) H) : FnSG P w K mg base (k + 1) x ps sp := by
  obtain ⟨f, fd, ha, hF⟩ := F.ex
  have lk : ∃ oc od osl, K.lookup f = some ⟨oc, od, .func fd, osl⟩ := by
    obtain ⟨oc, od, _, _, _, _, _, _, osl, _, h2, _⟩ := hF.ex
    exact ⟨oc, od, osl, h2⟩
  refine ⟨f, fd, PySem.W.mg_of hX hG ha, ?_, lk⟩
  refine fnG_ok hF S hlen fun cdv A outer s H vs Q E hr hsp => ?_
  obtain ⟨t, h1, h2⟩ := hbody f cdv A outer s H E hr
  exact ⟨t, h1, h2 vs H Q E hsp⟩
end
/-- a new bag, drawn from a script -/
def spBag [TabW] (K : PySem.W.Frag) : Sp := fun vs H Q _ => ∃ (a : Addr) (ns : List Int) (spot : Int) (G : Hp), vs = [.ref a, .int spot] ∧ Ex G H ∧ TabsOk G H ∧ SqL K G a (ns.map V.int) ∧ 0 ≤ spot ∧ spot ≤ 10 ∧
  ∀ (p : Addr) (G' H' : Hp) (bag : List Int), Step p false G H G' H' → G' p = none → H' p = some (.lst (bag.map V.int)) → Num.BagI 0 bag → Q (.ref p) H'
def spLaw [TabW] (K : PySem.W.Frag) : Sp := fun vs H Q _ => ∃ (a : Addr) (ns : List Int) (G : Hp), vs = [.ref a] ∧ Ex G H ∧ TabsOk G H ∧ SqL K G a (ns.map V.int) ∧ ns.length ≤ 63 ∧ ∀ H', Q (.bl true) H'
theorem bag_ok {c s : Int} (hs : 0 ≤ s) : Num.BagI 0 [if (TD.absI c % (10 ^ 45) ^ 13 - 10 ^ 18) > 0 then TD.absI c % (10 ^ 45) ^ 13 - 10 ^ 18 else 0, (((TD.absI c % (10 ^ 45) ^ 13) % 2305843009213693723 * 1000403 + 9041 * s) + 47 * (if decide (c < 0) = true then 1 else 0) + 31) % 2305843009213693951, 0] := by
  have hP : (0 : Int) < (10 ^ 45) ^ 13 := by decide
  have h1 := Int.emod_nonneg (TD.absI c) (show ((10 ^ 45) ^ 13 : Int) ≠ 0 by decide)
  have h2 := Int.emod_lt_of_pos (TD.absI c) hP
  have h3 : ((10 ^ 45) ^ 13 : Int) < ((2 ^ 3000 : Nat) : Int) := by decide +kernel
  refine ⟨_, _, _, rfl, ?_, ?_, Int.emod_nonneg _ (by decide), Int.emod_lt_of_pos _ (by decide), Int.le_refl 0, Int.le_refl 0⟩
  · split <;> omega
  · generalize TD.absI c % (10 ^ 45) ^ 13 = g at *
    generalize ((10 : Int) ^ 45) ^ 13 = z at *
    have h4 : (0 : Nat) < 2 ^ 3000 := by decide +kernel
    generalize (2 : Nat) ^ 3000 = y at *
    split <;> omega
end TD
/-! ## TdQ -/
set_option Elab.async false
set_option linter.all false
set_option maxRecDepth 100000
set_option maxHeartbeats 4100000
/-! More of lists of one's own: made by a slice, changed in a branch, changed at a place that is reckoned by the list itself. -/
namespace TD
open PySem L2 PySem.Spec PyProof.Rows
open Evl (Ex ex_l ex_t fresh_back sq_of st_of sz_of sz_lt)
section
variable [TabW] {K : PySem.W.Frag} {b : Addr} {ρ : Rho} {β β1 β2 β3 β4 : Bag} {te tk : TE} {tt : TT} {tu tv tw : TS} {d : Dt} {ds : List Dt} {o : Out} {i j : Nat} {G H : Hp} {σ : L2.St} {p : Addr}
theorem st_ownSl {tl th : TO} {lo hi : Option Int} (hi' : i < ρ.length) (ha : EvB K te ρ β (.list ds) β1) (h1 : EvO K tl ρ β1 lo β2) (h2 : EvO K th ρ β2 hi β3) (h' : StO K i tw (ρ.set i none) β3 (cutD ds lo hi) o β4) : StB K (tSeq (tAsg (tSl (rSlL K) te tl th) (gName i)) tw) ρ β o β4 := by
  refine ⟨h'.som.trans (h2.1.trans (h1.1.trans ha.som)), fun b G H σ D E k => ?_⟩
  refine ha.run b G H σ _ E fun v G1 H1 s1 k1 d1 => ?_
  have E1 := E.step s1 k1
  refine h1.2 b G1 H1 σ _ E1 fun G2 H2 s2 k2 => ?_
  have E2 := E1.step s2 k2
  refine h2.2 b G2 H2 σ _ E2 fun G3 H3 s3 k3 => ?_
  have E3 := E2.step s3 k3
  rw [h1.1, ha.som] at s3
  rw [ha.som] at s2
  have hs := (s1.trans s2).trans s3
  have d3 := (d1.mono s2.g).mono s3.g
  have m3 : β3.isSome = β.isSome := h2.1.trans (h1.1.trans ha.som)
  cases d3 with
  | @lst a xs _ hx hd =>
    refine ⟨_, _, rfl, sq_of (s3.s _ _ hx), fun q hq => ?_⟩
    have gq : G3 q = none := fresh_back s3.s hq
    have nb : β3.isSome = true → q ≠ b := bag_ne k3 rfl hq
    have t2 : Step b β3.isSome G3 H3 G3 (upd H3 q (.lst (cutV xs lo hi))) := (Step.refl s3.s).mut (Gone.none hq) gq (LstAt.none hq)
    have hil : i < σ.length := by rw [E.len]; exact hi'
    have E4 := (E3.mutl (o := .lst (cutV xs lo hi)) gq nb (LstAt.none hq)).forget (i := i) (v := .ref q)
    refine h'.run b G3 H3 G3 _ _ q D (Gone.none hq) t2 ⟨E4, List.getElem?_set_self hi', List.getElem?_set_self hil, gq, nb, _, upd_same, den_cut hd⟩ ?_
    rw [m3]
    exact k.of (D' := D) hs
/-- a branch, in which one's own list may be changed -/
theorem so_if {c : Bool} (h : TtB K tt ρ β c β1) (h1 : c = true → StO K i (tSeq tu tw) ρ β1 ds o β2) (h2 : c = false → StO K i (tSeq tv tw) ρ β1 ds o β2) : StO K i (tSeq (tIfS tt tu tv) tw) ρ β ds o β2 := by
  have m : β2.isSome = β1.isSome := by
    cases c with
    | true => exact (h1 rfl).som
    | false => exact (h2 rfl).som
  refine ⟨m.trans h.som, fun b G0 H0 G H σ p D gn s w k => ?_⟩
  obtain ⟨ws, hp, dw⟩ := w.val
  refine h.run b G H σ _ w.env fun G1 H1 s1 k1 => ?_
  have hp1 : H1 p = some (.lst ws) := s1.keep p _ w.nb NoT.lst hp
  have gp1 : G1 p = none := s1.fresh p _ w.free NoT.lst hp
  have w1 : OwnL K b β1 i p G1 H1 σ ρ ds := ⟨w.env.step s1 k1, w.slot, w.at_, gp1, fun z => w.nb (h.som ▸ z), ws, hp1, dw.mono s1.g⟩
  cases c with
  | true =>
    rw [if_pos rfl]
    exact (h1 rfl).run b G0 H0 G1 H1 σ p D gn (by rw [h.som]; exact s.trans s1) w1 (by rw [h.som]; exact k)
  | false =>
    rw [if_neg (by decide)]
    exact (h2 rfl).run b G0 H0 G1 H1 σ p D gn (by rw [h.som]; exact s.trans s1) w1 (by rw [h.som]; exact k)
/-- one's own list, seen as data for a while -/
theorem OwnL.frozen (w : OwnL K b β i p G H σ ρ ds) : ∃ ws, H p = some (.lst ws) ∧ DenL K G ws ds ∧ EnvD K b β (upd G p (.lst ws)) H σ (ρ.set i (some (.imm (.list ds)))) := by
  obtain ⟨ws, hp, dw⟩ := w.val
  have ex : Ex G (upd G p (.lst ws)) := Ex.new w.free
  have E := w.env
  have E2 : EnvD K b β (upd G p (.lst ws)) H σ ρ := by
    refine ⟨fun a u z => ?_, fun ns e => ⟨(E.bagk ns e).1, ?_⟩, E.len, fun i d q => ?_, E.bagv, ⟨E.tabs.tab, fun x ps z => ?_⟩, E.fnv⟩
    · by_cases q : a = p
      · rw [q, upd_same] at z
        cases z
        rw [q]
        exact hp
      · rw [upd_ne q] at z
        exact E.sub a u z
    · rw [upd_ne (Ne.symm (w.nb (by rw [e]; rfl)))]
      exact (E.bagk ns e).2
    · obtain ⟨v, h1, h2⟩ := E.imm i d q
      exact ⟨v, h1, h2.mono ex⟩
    · by_cases q : x = p
      · rw [q, upd_same] at z; cases z
      · rw [upd_ne q] at z; exact E.tabs.free x ps z
  have E3 := E2.set (i := i) (v := .ref p) (d := .list ds) (.lst upd_same (dw.mono ex))
  have e : σ.set i (some (.ref p)) = σ := by
    apply List.ext_getElem?
    intro n
    by_cases q : i = n
    · subst q
      rw [List.getElem?_set_self (List.getElem?_eq_some_iff.mp w.at_).1, w.at_]
    · rw [List.getElem?_set_ne q]
  rw [e] at E3
  exact ⟨ws, hp, dw, E3⟩
/-- xs[k] = e, xs one's own, where k is told by xs itself -/
theorem so_setK {k : Int} {n : Nat} (h : EvB K te ρ β d β1) (hk : EvB K tk (ρ.set i (some (.imm (.list ds)))) β1 (.int k) β2) (hn : ixN ds.length k = some n) (h' : StO K i tw ρ β2 (ds.set n d) o β3) : StO K i (tSeq (tAsg te (gSub (tVar i) tk rSetL)) tw) ρ β ds o β3 := by
  refine ⟨h'.som.trans (hk.som.trans h.som), fun b G0 H0 G H σ p D gn s w q => ?_⟩
  obtain ⟨vs, hp, dv⟩ := w.val
  refine h.run b G H σ _ w.env fun y G1 H1 s1 k1 d1 => ?_
  have hp1 : H1 p = some (.lst vs) := s1.keep p _ w.nb NoT.lst hp
  have gp1 : G1 p = none := s1.fresh p _ w.free NoT.lst hp
  have nb1 : β1.isSome = true → p ≠ b := fun z => w.nb (h.som ▸ z)
  have w1 : OwnL K b β1 i p G1 H1 σ ρ ds := ⟨w.env.step s1 k1, w.slot, w.at_, gp1, nb1, vs, hp1, dv.mono s1.g⟩
  refine ⟨_, w.at_, ?_⟩
  obtain ⟨ws, hw, dw, Ef⟩ := w1.frozen
  have E1 := w1.env
  refine hk.run b _ H1 σ _ Ef fun z G2 H2 s2 k2 d2 => ?_
  obtain ⟨Gd, hGd⟩ : ∃ Gd : Hp, Gd = fun x => if x = p then none else G2 x := ⟨_, rfl⟩
  have gd_p : Gd p = none := by rw [hGd]; exact if_pos rfl
  have gd_ne : ∀ {x}, x ≠ p → Gd x = G2 x := fun hx => by rw [hGd]; exact if_neg hx
  have sd : Step b β1.isSome G1 H1 Gd H2 := by
    refine ⟨fun x u hx => ?_, fun x u hx => ?_, fun x u hx t hu => ?_, s2.keep, s2.stay, fun t => ?_⟩
    · have hne : x ≠ p := fun z => by rw [z, gp1] at hx; cases hx
      rw [gd_ne hne]
      exact s2.g x u (by rw [upd_ne hne]; exact hx)
    · by_cases hne : x = p
      · rw [hne, gd_p] at hx; cases hx
      · rw [gd_ne hne] at hx; exact s2.s x u hx
    · by_cases hne : x = p
      · rw [hne]; exact gd_p
      · rw [gd_ne hne]
        exact s2.fresh x u (by rw [upd_ne hne]; exact hx) t hu
    · have t2 := s2.tabs Ef.tabs
      refine ⟨t2.tab, fun x ps hx => ?_⟩
      by_cases hne : x = p
      · rw [hne, gd_p] at hx; cases hx
      · rw [gd_ne hne] at hx; exact t2.free x ps hx
  have kd : BagOk b β2 Gd H2 := fun ns e => ⟨(k2 ns e).1, by
    by_cases hne : b = p
    · rw [hne]; exact gd_p
    · rw [gd_ne hne]; exact (k2 ns e).2⟩
  have hp2 : H2 p = some (.lst ws) := sd.keep p _ nb1 NoT.lst hw
  have nb2 : β2.isSome = true → p ≠ b := fun z => nb1 (hk.som ▸ z)
  cases d2
  refine ⟨p, ws, k, n, rfl, rfl, hp2, by rw [dw.length]; exact hn, ?_⟩
  have sd2 := sd
  rw [h.som] at sd
  have s3 := ((s.trans s1).trans sd).mut (ob := .lst (ws.set n y)) gn gd_p (LstAt.of hp2)
  have e : β2.isSome = β.isSome := hk.som.trans h.som
  exact h'.run b G0 H0 Gd _ σ p D gn (by rw [e]; exact s3) ⟨(E1.step sd2 kd).mutl gd_p nb2 (LstAt.of hp2), w.slot, w.at_, gd_p, nb2, ws.set n y, upd_same, (dw.mono sd.g).put n (d1.mono sd.g)⟩ (by rw [e]; exact q)
end
end TD
/-! ## TdM -/
set_option Elab.async false
set_option linter.all false
set_option maxRecDepth 100000
set_option maxHeartbeats 4100000
/-! Lists of one's own that grow in loops. -/
namespace TD
open PySem L2 PySem.Spec PyProof.Rows
open Evl (Ex ex_l ex_t fresh_back sq_of st_of sz_of sz_lt)
section
variable [TabW]
/-- a statement behind which one's own list has become ds' -/
structure StN (K : PySem.W.Frag) (i : Nat) (tu : TS) (ρ ρ' : Rho) (β : Bag) (ds ds' : List Dt) : Prop where
  run : ∀ (b : Addr) (G0 H0 G H : Hp) (σ : L2.St) (p : Addr) (D : Ends), Gone H0 p → Step b β.isSome G0 H0 G H → OwnL K b β i p G H σ ρ ds → (∀ σ' G' H', Step b β.isSome G0 H0 G' H' → OwnL K b β i p G' H' σ' ρ' ds' → D.nx σ' H') → tu D σ H
end
section
variable [TabW] {K : PySem.W.Frag} {b : Addr} {ρ ρ1 ρ2 : Rho} {β β1 β2 : Bag} {ta : TA} {te : TE} {tu tw : TS} {d : Dt} {ds ds1 ds2 : List Dt} {o : Out} {i j : Nat} {G H G0 H0 : Hp} {σ : L2.St} {p : Addr}
theorem so_sn (h : StN K i tu ρ ρ1 β ds ds1) (h' : StO K i tw ρ1 β ds1 o β2) : StO K i (tSeq tu tw) ρ β ds o β2 := ⟨h'.som, fun b G0 H0 G H σ p D gn s w k => h.run b G0 H0 G H σ p _ gn s w fun σ' G' H' s' w' => h'.run b G0 H0 G' H' σ' p D gn s' w' k⟩
theorem sn_app (h : EvB K te ρ β d β) (hz : ds.length ≤ 1000) : StN K i (tDrop (tBM K "list" rAppend (tVar i) (tCons te tNil))) ρ ρ β ds (ds ++ [d]) := by
  refine ⟨fun b G0 H0 G H σ p D gn s w k => ?_⟩
  obtain ⟨ws, hp, dw⟩ := w.val
  refine ⟨_, w.at_, .inl ⟨rfl, ws, sq_of hp⟩, ?_⟩
  refine h.run b G H σ _ w.env fun y G1 H1 s1 k1 d1 => ?_
  have hp1 : H1 p = some (.lst ws) := s1.keep p _ w.nb NoT.lst hp
  have gp1 : G1 p = none := s1.fresh p _ w.free NoT.lst hp
  have hl := dw.length
  refine ⟨p, ws, y, rfl, rfl, hp1, sz_lt (by omega), ?_⟩
  have s2 := (s.trans s1).mut (ob := .lst (ws ++ [y])) gn gp1 (LstAt.of hp1)
  exact k σ G1 _ s2 ⟨(w.env.step s1 k1).mutl gp1 w.nb (LstAt.of hp1), w.slot, w.at_, gp1, w.nb, ws ++ [y], upd_same, (dw.mono s1.g).append (.cons d1 .nil)⟩
theorem EnvD.back {x : Option Slot} (E : EnvD K b β G H σ (ρ.set j x)) (hj : ρ[j]? = some none) : EnvD K b β G H σ ρ := by
  have ne : ∀ {n : Nat} {a : Slot}, ρ[n]? = some (some a) → (ρ.set j x)[n]? = some (some a) := fun {n a} h => by
    have q : j ≠ n := fun z => by
      subst z
      rw [hj] at h
      cases h
    rw [List.getElem?_set_ne q]
    exact h
  exact ⟨E.sub, E.bagk, by rw [E.len, List.length_set], fun n d h => E.imm n d (ne h), fun n h => E.bagv n (ne h), E.tabs, fun n a h => E.fnv n a (ne h)⟩
theorem OwnL.setJ {v : V} (w : OwnL K b β i p G H σ ρ ds) (hij : i ≠ j) (h : Den K G v d) : OwnL K b β i p G H (σ.set j (some v)) (ρ.set j (some (.imm d))) ds :=
  ⟨w.env.set h, by rw [List.getElem?_set_ne (Ne.symm hij)]; exact w.slot, by rw [List.getElem?_set_ne (Ne.symm hij)]; exact w.at_, w.free, w.nb, w.val⟩
theorem OwnL.back {x : Option Slot} (w : OwnL K b β i p G H σ (ρ.set j x) ds) (hij : i ≠ j) (hj : ρ[j]? = some none) : OwnL K b β i p G H σ ρ ds := by
  have hs := w.slot
  rw [List.getElem?_set_ne (Ne.symm hij)] at hs
  exact ⟨w.env.back hj, hs, w.at_, w.free, w.nb, w.val⟩
/-- a for over a range, in which it grows -/
theorem sn_forR1 {n : Int} (f : Nat → List Dt) (hij : i ≠ j) (hj : ρ[j]? = some none) (hl : EvB K te ρ β (.int n) β) (hb : -(2 ^ 62) ≤ n ∧ n < 2 ^ 62) (h : ∀ m, m < n.toNat → ∃ x, StN K i tu (ρ.set j (some (.imm (.int (m : Int))))) (ρ.set j x) β (f m) (f (m + 1))) :
    StN K i (tFor (iRng1 (tCons te tNil)) (gName j) tu) ρ ρ β (f 0) (f n.toNat) := by
  refine ⟨fun b G0 H0 G H σ p D gn s w k => ?_⟩
  obtain ⟨ws, hp, dw⟩ := w.val
  refine hl.run b G H σ _ w.env fun y G1 H1 s1 k1 d1 => ?_
  cases d1
  refine ⟨n, rfl, hb.1, hb.2, ?_⟩
  have hp1 : H1 p = some (.lst ws) := s1.keep p _ w.nb NoT.lst hp
  have gp1 : G1 p = none := s1.fresh p _ w.free NoT.lst hp
  refine for_range (lo := 0) (n := n.toNat) (fun m σ' H' => ∃ G', Step b β.isSome G0 H0 G' H' ∧ OwnL K b β i p G' H' σ' ρ (f m)) ⟨G1, s.trans s1, w.env.step s1 k1, w.slot, w.at_, gp1, w.nb, ws, hp1, dw.mono s1.g⟩ ?_ ?_
  · rintro m σ' H' hm ⟨G', s', w'⟩
    obtain ⟨x, hx⟩ := h m hm
    refine hx.run b G0 H0 G' H' _ p _ gn s' ?_ fun σ2 G2 H2 s2 w2 => ⟨G2, s2, w2.back hij hj⟩
    have q : (0 : Int) + (m : Int) = (m : Int) := by omega
    rw [q]
    exact w'.setJ hij (.int _)
  · rintro σ' H' ⟨G', s', w'⟩
    exact k σ' G' H' s' w'
end
end TD
/-! ## TdMb -/
set_option Elab.async false
set_option linter.all false
set_option maxRecDepth 100000
set_option maxHeartbeats 4100000
/-! Lists of one's own that grow in nested loops. -/
namespace TD
open PySem L2 PySem.Spec PyProof.Rows
section
variable [TabW] {K : PySem.W.Frag} {ρ ρ1 ρ2 : Rho} {β : Bag} {te : TE} {tu tw : TS} {d : Dt} {ds ds1 ds2 : List Dt} {i j : Nat}
theorem sn_seq (h : StN K i tu ρ ρ1 β ds ds1) (h' : StN K i tw ρ1 ρ2 β ds1 ds2) : StN K i (tSeq tu tw) ρ ρ2 β ds ds2 := ⟨fun b G0 H0 G H σ p D gn s w k => h.run b G0 H0 G H σ p _ gn s w fun σ' G' H' s' w' => h'.run b G0 H0 G' H' σ' p D gn s' w' k⟩
theorem sn_back {x : Option Slot} (h : StN K i tu ρ (ρ1.set j x) β ds ds1) (hij : i ≠ j) (hj : ρ1[j]? = some none) : StN K i tu ρ ρ1 β ds ds1 := ⟨fun b G0 H0 G H σ p D gn s w k => h.run b G0 H0 G H σ p _ gn s w fun σ' G' H' s' w' => k σ' G' H' s' (w'.back hij hj)⟩
theorem sn_asg (hij : i ≠ j) (h : EvB K te ρ β d β) : StN K i (tAsg te (gName j)) ρ (ρ.set j (some (.imm d))) β ds ds := by
  refine ⟨fun b G0 H0 G H σ p D gn s w k => ?_⟩
  obtain ⟨ws, hp, dw⟩ := w.val
  refine h.run b G H σ _ w.env fun y G1 H1 s1 k1 d1 => ?_
  have hp1 : H1 p = some (.lst ws) := s1.keep p _ w.nb NoT.lst hp
  have gp1 : G1 p = none := s1.fresh p _ w.free NoT.lst hp
  refine k _ G1 H1 (s.trans s1) ⟨(w.env.step s1 k1).set d1, ?_, ?_, gp1, w.nb, ws, hp1, dw.mono s1.g⟩
  · rw [List.getElem?_set_ne (Ne.symm hij)]
    exact w.slot
  · rw [List.getElem?_set_ne (Ne.symm hij)]
    exact w.at_
theorem sn_to {es es1 : List Dt} (h : StN K i tu ρ ρ1 β ds ds1) (e : ds = es) (e1 : ds1 = es1) : StN K i tu ρ ρ1 β es es1 := by
  subst e e1
  exact h
end
end TD
/-! ## K03g -/
set_option Elab.async false
set_option linter.all false
set_option maxRecDepth 100000
set_option maxHeartbeats 1100000
namespace K03
open PySem L2 TD PySem.Spec PyProof.Rows
variable [TabW]
def undE (p : Int) (rows : List (List Int)) (i j : Nat) : Int := Num.settled p (if (i + j) % 2 = 1 then -(Det.detL (rows.length - 2) (minL rows j i)) else Det.detL (rows.length - 2) (minL rows j i))
def undR (p : Int) (rows : List (List Int)) (i : Nat) : List Int := (List.range rows.length).map (undE p rows i)
def undL (p : Int) (rows : List (List Int)) : List Int := (List.range rows.length).flatMap (undR p rows)
def cutR (s : Nat) (ns : List Int) : List Dt := (List.range s).map fun i => tupI ((ns.drop (s * i)).take s)
theorem undL_len (p : Int) (rows : List (List Int)) : (undL p rows).length = rows.length * rows.length := by
  unfold undL
  rw [List.length_flatMap]
  have : (fun i => (undR p rows i).length) = fun _ => rows.length := by
    funext i
    unfold undR
    (rw [List.length_map, List.length_range])
  rw [show List.map (fun a => (undR p rows a).length) (List.range rows.length) = List.map (fun _ => rows.length) (List.range rows.length) by rw [← this], List.map_const', List.sum_replicate_nat, List.length_range]
theorem DetOk.minL {rows : List (List Int)} (h : DetOk rows) (h1 : 2 ≤ rows.length) {i j : Nat} (hi : i < rows.length) (hj : j < rows.length) : DetOk (minL rows i j) ∧ (minL rows i j).length = rows.length - 1 := by
  have hl : (K03.minL rows i j).length = rows.length - 1 := by
    unfold K03.minL
    rw [List.length_map, List.length_append, List.length_take, List.length_drop]
    omega
  have hm : ∀ r ∈ K03.minL rows i j, ∃ q ∈ rows, r = q.take j ++ q.drop (j + 1) := fun r hr => by
    obtain ⟨q, hq, rfl⟩ := List.mem_map.mp hr
    refine ⟨q, ?_, rfl⟩
    rcases List.mem_append.mp hq with z | z
    · exact List.mem_of_mem_take z
    · exact List.mem_of_mem_drop z
  have hf := h.few
  refine ⟨⟨⟨rfl, fun r hr => ?_⟩, by omega, by omega, fun r hr x hx => ?_⟩, hl⟩
  · obtain ⟨q, hq, rfl⟩ := hm r hr
    have := h.sq.2 q hq
    rw [hl, List.length_append, List.length_take, List.length_drop]
    omega
  · obtain ⟨q, hq, rfl⟩ := hm r hr
    refine h.szr q hq x ?_
    rcases List.mem_append.mp hx with z | z
    · exact List.mem_of_mem_take z
    · exact List.mem_of_mem_drop z
theorem cut_mid {ns : List Int} {a s : Nat} (h : a + s ≤ ns.length) : TD.cutD (ns.map PyData.int) (some (a : Int)) (some ((a : Int) + (s : Int))) = ((ns.drop a).take s).map PyData.int := by
  unfold TD.cutD
  rw [show (a : Int) + (s : Int) = ((a + s : Nat) : Int) from rfl, HT.sIx_nat, HT.sIx_nat, List.length_map, Nat.min_eq_left (by omega), Nat.min_eq_left (by omega), Nat.add_sub_cancel_left, List.map_take, List.map_drop]


abbrev s_undone : Stmt := top 44
theorem sc_undone : FnScope ["prime", "table", "size", "numbers", "row", "column", "part", "flat"] ["prime", "table"] (defScope s_undone) := ⟨rfl, rfl, rfl, by decide +kernel, rfl, by decide +kernel, by decide +kernel⟩
abbrev R_undone (Y : Cn) : FX := fun as β r β' => ∃ d t, as = [.imm d, .imm t] ∧ ((∃ p, d = .int p ∧ Num.PrimeI p ∧ ((Num.isTable p t && Num.sqB 2 3 t) = false ∧ r = .ex Y.cB none ∨ ∃ rows, (Num.isTable p t && Num.sqB 2 3 t) = true ∧ t = .tuple (rows.map tupI) ∧ DetOk rows ∧ 2 ≤ rows.length ∧ rows.length ≤ 3 ∧ (Num.settled p (Det.detL (rows.length - 1) rows) = 0 ∧ r = .ex Y.cR (some ("reason", .tuple [.str "flat"])) ∨ Num.settled p (Det.detL (rows.length - 1) rows) ≠ 0 ∧ Num.MadeOk p (undL p rows) ∧ r = .ok (.tuple (cutR rows.length (Num.made p (undL p rows))))))) ∨ Num.isPrime d = false ∧ r = .ex Y.cN (some ("given", d))) ∧ β = none ∧ β' = none
theorem ok_undone {P : Program} {w : World} {K : PySem.W.Frag} {mg : Str → Option Value} {base : Heap} {Y : Cn} (F : DefAt K "undone" s_undone) (hX : K.In base) (hG : base.Ns mainGlobals mg) (T : Txt K mg Y) (G_need_square : FnX P w K mg base 6 "need_square" ["prime", "table", "least", "most"] (R_need_square Y)) (G_made_normal : FnG P w K mg base 2 "made_normal" ["prime", "numbers"] R_made_normal) (G_settled : FnG P w K mg base 1 "settled" ["prime", "number"] R_settled) (G_determinant_of_rows : FnG P w K mg base 8 "determinant_of_rows" ["rows"] (R_det 6)) (G_minor : FnG P w K mg base 1 "minor" ["rows", "row", "column"] R_minor) : FnX P w K mg base 9 "undone" ["prime", "table"] (R_undone Y) := by
  have nd := sc_undone.nd
  refine fnX_mk F hX hG sc_undone (fun as β r β' h => by first | exact FR.len h | (obtain ⟨_, rfl, _⟩ := h; rfl) | (obtain ⟨_, _, rfl, _⟩ := h; rfl) | (obtain ⟨_, _, _, rfl, _⟩ := h; rfl) | (obtain ⟨_, _, _, _, rfl, _⟩ := h; rfl) | (obtain ⟨_, _, _, _, _, rfl, _⟩ := h; rfl)) (fun _ _ _ _ _ _ _ us hl => match us, hl with | [_, _], _ => rfl) (fun f cdv A outer s H E hr => ⟨_, (pss_cons (ps_expr (pe_fnX G_need_square (hr.mono (by decide)) (pass_x (takes_of rfl rfl rfl rfl)) (pa_cons (pv 0) (pa_cons (pv 1) (pa_cons pe_int (pa_cons pe_int pa_nil)))))) (pss_cons (ps_if (pt_cmpR op_eq (pe_fn G_settled (hr.mono (by decide)) (pa_cons (pv 0) (pa_cons (pe_fn G_determinant_of_rows (hr.mono (by decide)) (pa_cons (pv 1) pa_nil)) pa_nil))) pe_int (nomark _)) (pss_one (ps_raiseOwn T.o_Refused hr (takes_of rfl rfl rfl rfl) (pa_cons (pe_tup (pa_cons pe_str pa_nil)) pa_nil))) pss_nil) (pss_cons (ps_set (i := 2) nd rfl (Or.inr rfl) (pe_callB (c_lenK (K := K)) (by rfl) T.z_len bo_len (pa_cons (pv 1) pa_nil))) (pss_cons (ps_set (i := 3) nd rfl (Or.inl rfl) (pe_lst pa_nil)) (pss_cons (ps_for (passes_of rfl) rfl (pi_range1 (by rfl) T.z_range (pa_cons (pv 2) pa_nil)) (pg_name (i := 4) nd rfl (Or.inl rfl)) (pss_one (ps_for (passes_of rfl) rfl (pi_range1 (by rfl) T.z_range (pa_cons (pv 2) pa_nil)) (pg_name (i := 5) nd rfl (Or.inl rfl)) (pss_cons (ps_set (i := 6) nd rfl (Or.inl rfl) (pe_fn G_determinant_of_rows (hr.mono (by decide)) (pa_cons (pe_fn G_minor (hr.mono (by decide)) (pa_cons (pv 1) (pa_cons (pv 5) (pa_cons (pv 4) pa_nil)))) pa_nil))) (pss_one (ps_expr (pe_castBM (K := K) (pe_bm PySem.F.plainAttrs_list PySem.F.slot_list_append PySem.F.type_list_append mt_append (pv 3) (pa_cons (pe_fn G_settled (hr.mono (by decide)) (pa_cons (pv 0) (pa_cons (pe_ifExp (pt_tru (pe_op op_oddR (pe_op op_add (pv 4) (pv 5)) pe_int)) (pe_un un_neg (pv 6)) (pv 6)) pa_nil))) pa_nil))))))))) (pss_cons (ps_set (i := 7) nd rfl (Or.inr rfl) (pe_fn G_made_normal (hr.mono (by decide)) (pa_cons (pv 0) (pa_cons (pv 3) pa_nil)))) (pss_one (ps_ret (pe_callTy c_tuple (by rfl) T.z_tuple bo_tuple (pa_cons (pe_lc (own := [("row", 4)]) rfl nd (pi_range1 (by rfl) T.z_range (pa_cons (pv 2) pa_nil)) (blkOk_by (N := ["prime", "table", "size", "numbers", "row", "column", "part", "flat"]) (sc := defScope s_undone) (by decide +kernel)) (fun _ _ _ _ _ => by exact (pg_name (i := 4) nd rfl (Or.inl rfl))) (fun _ _ _ _ _ => by exact pts_nil) (fun _ _ _ _ _ => by exact (pe_slice (sl_tupK (K := K)) (pv 7) (po_some (pe_op op_mulW (pv 2) (pv 4))) (po_some (pe_op op_add (pe_op op_mulW (pv 2) (pv 4)) (pv 2)))))) pa_nil)))))))))), fun as β r β' hR => ?_⟩)
  obtain ⟨d, t, rfl, hd, rfl, rfl⟩ := hR
  have ha : ∀ d : Dt, EvA K (tCons (tVar 0) (tCons (tVar 1) (tCons (tC (.int 2)) (tCons (tC (.int 3)) tNil)))) [some (.imm d), some (.imm t), none, none, none, none, none, none] none [.imm d, .imm t, .imm (.int 2), .imm (.int 3)] none := fun d => a_con (d_var rfl) (a_con (d_var rfl) (a_con d_int (a_con d_int a_nil)))
  rcases hd with ⟨p, rfl, hp, hv⟩ | ⟨h, rfl⟩
  · rcases hv with ⟨hf, rfl⟩ | ⟨rows, ht, rfl, ok, hs2, hs3, hv⟩
    · exact .ex (stR_seq (stR_drop (x_raise0 (ha _) ⟨_, _, 2, 3, rfl, .inl ⟨p, rfl, hp, .inr ⟨hf, rfl⟩⟩, rfl, rfl⟩)))
    · have h1 : EvB K (tCall (spX K (R_need_square Y)) [] E (tCons (tVar 0) (tCons (tVar 1) (tCons (tC (.int 2)) (tCons (tC (.int 3)) tNil))))) [some (.imm (.int p)), some (.imm (.tuple (rows.map tupI))), none, none, none, none, none, none] none .none none := x_call0 (ha _) ⟨_, _, 2, 3, rfl, .inl ⟨p, rfl, hp, .inl ⟨ht, rfl⟩⟩, rfl, rfl⟩
      have h2 : EvB K (tCall (spR K R_settled) [] E0 (tCons (tVar 0) (tCons (tCall (spR K (R_det 6)) [] E0 (tCons (tVar 1) tNil)) tNil))) [some (.imm (.int p)), some (.imm (.tuple (rows.map tupI))), none, none, none, none, none, none] none (.int (Num.settled p (Det.detL (rows.length - 1) rows))) none := c_f2 (a := PyData.int) (a' := PyData.int) (x := p) (d_var rfl) (d_call0 (a_con (d_var rfl) a_nil) ⟨_, rows, rfl, .inr rfl, ok, ok.few, rfl, rfl, rfl⟩) hp.small.1
      rcases hv with ⟨h0, rfl⟩ | ⟨h0, mk, rfl⟩
      · exact .ex (stR_then (st_drop h1) (stR_seq (stR_ifT ((t_test (d_eqI h2 d_int)).to (decide_eq_true h0)) (st_raiseK (d_tup (ds := [.str "flat"]) (a_con d_str a_nil) rfl (by decide))))))
      · have inner : ∀ (i : Nat) (ds : List Dt), i < rows.length → ds.length ≤ 100 → StN K 3 (tFor (iRng1 (tCons (tVar 2) tNil)) (gName 5) (tSeq (tAsg (tCall (spR K (R_det 6)) [] E0 (tCons (tCall (spR K R_minor) [] E0 (tCons (tVar 1) (tCons (tVar 5) (tCons (tVar 4) tNil)))) tNil)) (gName 6)) (tDrop (tBM K "list" rAppend (tVar 3) (tCons (tCall (spR K R_settled) [] E0 (tCons (tVar 0) (tCons (tIf (tTruth K (tOp rOdd (tOp (rI0 fun i j => V.int (i + j)) (tVar 4) (tVar 5)) (tC (.int 1)))) (tUn (rU fun i => V.int (-i)) (tVar 6)) (tVar 6)) tNil))) tNil))))) [some (.imm (.int p)), some (.imm (.tuple (rows.map tupI))), some (.imm (.int (rows.length : Int))), none, some (.imm (.int (i : Int))), none, none, none] [some (.imm (.int p)), some (.imm (.tuple (rows.map tupI))), some (.imm (.int (rows.length : Int))), none, some (.imm (.int (i : Int))), none, none, none] none ds (ds ++ (undR p rows i).map PyData.int) := by
          intro i ds hi hz
          refine sn_to (sn_forR1 (n := (rows.length : Int)) (fun m => ds ++ ((List.range m).map (undE p rows i)).map PyData.int) (by decide) rfl (d_var rfl) (by omega) fun j hj => ?_) (by simp) (by rw [Int.toNat_natCast]; rfl)
          have hj : j < rows.length := by omega
          obtain ⟨okm, lm⟩ := ok.minL hs2 hj hi
          refine ⟨some (.imm (.int (j : Int))), sn_to (sn_back (j := 6) (x := some (.imm (.int (Det.detL (rows.length - 2) (minL rows j i))))) (sn_seq (sn_asg (by decide) (d_call0 (a_con (d_call0 (a_con (d_var rfl) (a_con (d_var rfl) (a_con (d_var rfl) a_nil))) ⟨_, rows, j, i, rfl, .inr rfl, ok.sq, hj, hi, ok.few, rfl, rfl, rfl⟩) a_nil) ⟨_, minL rows j i, rfl, .inl rfl, okm, okm.few, by rw [lm, Nat.sub_sub], rfl, rfl⟩)) (sn_app (d := .int (undE p rows i j)) ?_ ?_)) (by decide) rfl) rfl ?_⟩
          · refine c_f2 (a := PyData.int) (a' := PyData.int) (x := p) (d_var rfl) ?_ hp.small.1
            have hsum : EvB K (tOp (rI0 fun i j => V.int (i + j)) (tVar 4) (tVar 5)) [some (.imm (.int p)), some (.imm (.tuple (rows.map tupI))), some (.imm (.int (rows.length : Int))), none, some (.imm (.int (i : Int))), some (.imm (.int (j : Int))), some (.imm (.int (Det.detL (rows.length - 2) (minL rows j i)))), none] none (.int ((i + j : Nat) : Int)) none := EvB.to (d_add (i := (i : Int)) (j := (j : Int)) (d_var rfl) (d_var rfl)) rfl
            by_cases ho : (i + j) % 2 = 1
            · exact (d_ifT ((t_truthI (d_odd hsum d_int)).to (by rw [ho]; rfl)) (d_neg (d_var rfl))).to (by rw [if_pos ho])
            · exact (d_ifF ((t_truthI (d_odd hsum d_int)).to (by rw [show (i + j) % 2 = 0 by omega]; rfl)) (d_var rfl)).to (by rw [if_neg ho])
          · rw [List.length_append, List.length_map, List.length_map, List.length_range]; omega
          · rw [List.range_succ, List.map_append, List.map_append, List.append_assoc]; rfl
        have outer := sn_forR1 (K := K) (i := 3) (j := 4) (te := tVar 2) (ρ := [some (.imm (.int p)), some (.imm (.tuple (rows.map tupI))), some (.imm (.int (rows.length : Int))), none, none, none, none, none]) (β := none) (n := (rows.length : Int)) (fun m => ((List.range m).flatMap (undR p rows)).map PyData.int) (by decide) rfl (d_var rfl) (by omega) fun i hi => ⟨some (.imm (.int (i : Int))), sn_to (inner i (((List.range i).flatMap (undR p rows)).map PyData.int) (by omega) (by
          rw [List.length_map, List.length_flatMap]
          have e : (fun a => (undR p rows a).length) = fun _ => rows.length := by
            funext a
            unfold undR
            (rw [List.length_map, List.length_range])
          rw [e, List.map_const', List.sum_replicate_nat, List.length_range]
          have h3 : i * rows.length ≤ 3 * 3 := Nat.mul_le_mul (by omega) hs3
          omega)) rfl (by rw [List.range_succ, List.flatMap_append, List.map_append, List.flatMap_singleton])⟩
        rw [Int.toNat_natCast] at outer
        have mlen : (Num.made p (undL p rows)).length = rows.length * rows.length := (Num.made_len p _).trans (undL_len p rows)
        refine .ok (.ret (st_sq (st_drop h1) (st_sq (st_ifF ((t_test (d_eqI h2 d_int)).to (decide_eq_false h0)) st_next) (st_sq (st_asg ((d_len (d_var rfl) (.inr rfl)).to (by rw [List.length_map]))) (st_ownL (ds := []) (show 3 < 8 by decide) a_nil (by decide) (so_sn outer (so_end (st_sq (st_asg (d_call0 (a_con (d_var rfl) (a_con (d_var rfl) a_nil)) ⟨p, _, undL p rows, rfl, ⟨.inl rfl, mk⟩, rfl, rfl, rfl⟩)) (st_ret (d_tupleOf (d_lcR1 (rs := cutR rows.length (Num.made p (undL p rows))) (d_var rfl) (by omega) ?_ (by unfold cutR; rw [List.length_map, List.length_range]; omega) (wipe_ok (by decide))))))))))))) 
        rw [Int.toNat_natCast]
        refine lc_map (fun (i : Nat) => PyData.int (0 + (i : Int))) (fun i => tupI (((Num.made p (undL p rows)).drop (rows.length * i)).take rows.length)) (List.range rows.length) fun i hi => ?_
        have hi := List.mem_range.mp hi
        have hm : ∀ ρ : Rho, ρ[2]? = some (some (.imm (.int (rows.length : Int)))) → ρ[4]? = some (some (.imm (.int (0 + (i : Int))))) → EvB K (tOp (rI CMulW fun i j => V.int (i * j)) (tVar 2) (tVar 4)) ρ none (.int ((rows.length * i : Nat) : Int)) none := fun ρ e2 e4 => (d_mul (d_var e2) (d_var e4) (wide_mul (a := 10) (b := 10) (by omega) (by omega) (by decide) (by decide) (by decide))).to (by rw [Int.zero_add, Int.natCast_mul])
        have hle : rows.length * i + rows.length ≤ rows.length * rows.length := by
          rw [← Nat.mul_succ]
          exact Nat.mul_le_mul_left _ hi
        refine (d_slT (ds := (Num.made p (undL p rows)).map PyData.int) (lo := some ((rows.length * i : Nat) : Int)) (hi := some (((rows.length * i : Nat) : Int) + (rows.length : Int))) (d_var rfl) (o_some (hm _ rfl rfl)) (o_some (d_add (hm _ rfl rfl) (d_var rfl))) ?_).to (by rw [cut_mid (by rw [mlen]; exact hle)])
        rw [show ((rows.length * i : Nat) : Int) + (rows.length : Int) = ((rows.length * i + rows.length : Nat) : Int) from rfl, HT.sIx_nat, HT.sIx_nat, List.length_map, mlen]
        have e2 : rows.length * 2 ≤ rows.length * rows.length := Nat.mul_le_mul_left _ hs2
        (rcases Nat.eq_zero_or_pos i with z | z)
        · subst z
          omega
        · have : rows.length * 1 ≤ rows.length * i := Nat.mul_le_mul_left _ z
          omega
  · exact .ex (stR_seq (stR_drop (x_raise0 (ha _) ⟨_, _, 2, 3, rfl, .inr ⟨h, rfl⟩, rfl, rfl⟩)))

end K03
/-! ## TdEnL -/
set_option Elab.async false
set_option linter.all false
set_option maxRecDepth 100000
set_option maxHeartbeats 3000000
/-! enumerate of a list, walked by a for. -/
namespace TD
open PySem L2 PySem.Spec PyProof.Rows
open Evl (Ex ex_l ex_t fresh_back sq_of st_of sz_of sz_lt)
theorem pi_enumK {X : Cx} {K : PySem.W.Frag} {e : Expr} {ta : TA} {p pos tpos : Pos} {elts : List Expr} {kk : Nat} (hg : Gl X "enumerate") (hm : X.mg "enumerate" = none) (ha : PA X [e] ta) (hK : X.K = K := by rfl) (hs : starEach [e] X.env = [(false, eval e X.env)] := by rfl) : PI X (.Tuple elts kk tpos) (.Call (.Name "enumerate" p) [e] [] pos) (iEnum K ta) := hK ▸ pi_enum hg hm ha hs
section
variable [TabW] {K : PySem.W.Frag} {b : Addr} {ρ : Rho} {β β1 β2 : Bag} {tl : TE} {tu : TS} {o : Out} {ds : List Dt}
theorem st_forEL {i j : Nat} (hl : EvB K tl ρ β (.list ds) β1) (h : ForE K i j tu 0 ds ρ β1 o β2) : StB K (tFor (iEnum K (tCons tl tNil)) (gTup K 2 (gCons (gName i) (gCons (gName j) gNil))) tu) ρ β o β2 := by
  refine ⟨h.som.trans hl.som, fun b G H σ D E k => ?_⟩
  refine hl.run b G H σ _ E fun v G1 H1 s1 k1 d1 => ?_
  cases d1 with
  | @lst a xs _ hs hd =>
    refine ⟨a, xs, rfl, sq_of (s1.s _ _ hs), fun n m σ' H' => m = xs.length - n ∧ n ≤ xs.length ∧ ∃ G' ρ' β', Step b β.isSome G1 H1 G' H' ∧ β'.isSome = β.isSome ∧ EnvD K b β' G' H' σ' ρ' ∧ ForE K i j tu n (ds.drop n) ρ' β' o β2, ⟨_, rfl, Nat.zero_le _, G1, ρ, β1, Step.refl s1.s, hl.som, E.step s1 k1, h⟩, ?_⟩
    rintro n m σ' H' ⟨rfl, hn, G', ρ', β', s', m', E', r'⟩
    have hq : SqL K H' a xs := sq_of (s'.s _ _ (s'.g _ _ hs))
    by_cases hlt : n < xs.length
    · have hx : xs[n]? = some (xs[n]'hlt) := List.getElem?_eq_getElem hlt
      refine .inr ⟨⟨xs, _, hq, hx⟩, fun σ2 H2 => ∃ m, m = xs.length - (n + 1) ∧ n + 1 ≤ xs.length ∧ ∃ G' ρ' β', Step b β.isSome G1 H1 G' H2 ∧ β'.isSome = β.isSome ∧ EnvD K b β' G' H2 σ2 ρ' ∧ ForE K i j tu (n + 1) (ds.drop (n + 1)) ρ' β' o β2, fun σ2 H2 ⟨m, h1, h2⟩ => ⟨m, by omega, h1, h2⟩, ?_⟩
      rintro x H2 ⟨T, y, rfl, hT, rfl, f⟩
      have hy := f xs hq
      rw [hx] at hy
      cases hy
      obtain ⟨d, hd1, hd2⟩ := hd.get hx
      have e : ds.drop n = d :: ds.drop (n + 1) := by
        obtain ⟨hlt', he⟩ := List.getElem?_eq_some_iff.mp hd1
        rw [← he]
        exact List.drop_eq_getElem_cons hlt'
      rw [e] at r'
      refine ⟨T, _, rfl, st_of upd_same, rfl, _, _, rfl, _, _, rfl, rfl, ?_⟩
      have nw := Step.new (b := b) (m := false) (o := .tup [.int (n : Nat), xs[n]'hlt]) s'.s hT
      have sn := s'.trans nw.up
      have E2 := ((E'.same nw).set (i := i) (Den.int (n : Nat))).set (i := j) (hd2.mono (s'.g.trans nw.g))
      cases r' with
      | nx hb hr => exact hb.run b _ _ _ _ E2 fun σ3 G3 H3 s3 e3 => ⟨_, rfl, hlt, G3, _, _, sn.trans (m' ▸ s3), hb.som.trans m', e3, hr⟩
    · have en : n = xs.length := by omega
      subst en
      rw [hd.length, List.drop_length] at r'
      cases r'
      exact .inl ⟨⟨xs, hq, Nat.le_refl _⟩, k σ' G' H' (s1.trans s') E'⟩
end
end TD
/-! ## K03h -/
set_option Elab.async false
set_option linter.all false
set_option maxRecDepth 100000
set_option maxHeartbeats 1100000
namespace K03
open PySem L2 TD PySem.Spec PyProof.Rows
variable [TabW]
abbrev R_val (n : Nat) : FR := fun as β r β' => ∃ rows, as = [.imm (.list (rows.map lstI))] ∧ DetOk rows ∧ rows.length ≤ n ∧ r = .int (Det.detL (rows.length - 1) rows) ∧ β = none ∧ β' = none
theorem sl_listK {X : Cx} {K : PySem.W.Frag} (hK : X.K = K := by rfl) : SlR X (rSlL K) := hK ▸ sl_list
theorem val_bottom {P : Program} {w : World} {K : PySem.W.Frag} {mg : Str → Option Value} {base : Heap} (F : DefAt K "_law_value_of" (top 56)) (hX : K.In base) (hG : base.Ns mainGlobals mg) (S : FnScope ["_law_rows", "_law_total", "_law_place", "_law_number_here", "_law_part", "_law_row"] ["_law_rows"] (defScope (top 56))) : FnG P w K mg base 1 "_law_value_of" ["_law_rows"] (R_val 0) :=
  fn_mk F hX hG S (fun as β r β' ⟨_, h, _⟩ => by rw [h]; rfl) (fun _ _ _ _ _ _ _ us hl => match us, hl with | [_], _ => rfl) fun f cdv A outer s H E hr => ⟨fun _ _ _ => False, ⟨fun _ _ _ _ _ _ h => h.elim⟩, fun as β r β' ⟨rows, _, ok, hl, _⟩ => by
    have := ok.pos
    omega⟩


abbrev s_law_value_of : Stmt := top 56
theorem sc_law_value_of : FnScope ["_law_rows", "_law_total", "_law_place", "_law_number_here", "_law_part", "_law_row"] ["_law_rows"] (defScope s_law_value_of) := ⟨rfl, rfl, rfl, by decide +kernel, rfl, by decide +kernel, by decide +kernel⟩
theorem ok_law_value_of {m : Nat} {P : Program} {w : World} {K : PySem.W.Frag} {mg : Str → Option Value} {base : Heap} {Y : Cn} (F : DefAt K "_law_value_of" s_law_value_of) (hX : K.In base) (hG : base.Ns mainGlobals mg) (T : Txt K mg Y) (G_law_value_of : FnG P w K mg base (m + 1) "_law_value_of" ["_law_rows"] (R_val m)) : FnG P w K mg base (m + 2) "_law_value_of" ["_law_rows"] (R_val (m + 1)) := by
  have nd := sc_law_value_of.nd
  refine fn_mk F hX hG sc_law_value_of (fun as β r β' h => by first | exact FR.len h | (obtain ⟨_, rfl, _⟩ := h; rfl) | (obtain ⟨_, _, rfl, _⟩ := h; rfl) | (obtain ⟨_, _, _, rfl, _⟩ := h; rfl) | (obtain ⟨_, _, _, _, rfl, _⟩ := h; rfl) | (obtain ⟨_, _, _, _, _, rfl, _⟩ := h; rfl)) (fun _ _ _ _ _ _ _ us hl => match us, hl with | [_], _ => rfl) (fun f cdv A outer s H E hr => ⟨_, (pss_cons (ps_if (pt_cmpR op_eq (pe_callB (c_lenK (K := K)) (by rfl) T.z_len bo_len (pa_cons (pv 0) pa_nil)) pe_int (nomark _)) (pss_one (ps_ret (pe_ix ix_seq (pe_ix ix_list (pv 0) pe_int (fun _ _ => rfl)) pe_int (fun _ _ => rfl)))) pss_nil) (pss_cons (ps_set (i := 1) nd rfl (Or.inl rfl) pe_int) (pss_cons (ps_for PassesOwn.never rfl (pi_enumK (by rfl) T.z_enumerate (pa_cons (pe_ix ix_list (pv 0) pe_int (fun _ _ => rfl)) pa_nil)) (pg_tupK (K := K) (n := 2) rfl (pgs_cons (pg_name (i := 2) nd rfl (Or.inr rfl)) (pgs_cons (pg_name (i := 3) nd rfl (Or.inl rfl)) pgs_nil))) (pss_one (ps_if (pt_cmpR op_ne (pv 3) pe_int (nomark _)) (pss_cons (ps_set (i := 4) nd rfl (Or.inl rfl) (pe_op op_mulW (pv 3) (pe_fn G_law_value_of (hr.mono (by omega)) (pa_cons (pe_lc (own := [("_law_row", 5)]) rfl nd (pi_list (pe_slice sl_list (pv 0) (po_some pe_int) po_none)) (blkOk_by (N := ["_law_rows", "_law_total", "_law_place", "_law_number_here", "_law_part", "_law_row"]) (sc := defScope s_law_value_of) (by decide +kernel)) (fun _ _ _ _ _ => by exact (pg_name (i := 5) nd rfl (Or.inl rfl))) (fun _ _ _ _ _ => by exact pts_nil) (fun _ _ _ _ _ => by exact (pe_op op_cat (pe_slice (sl_listK (K := K)) (pv 5) po_none (po_some (pv 2))) (pe_slice (sl_listK (K := K)) (pv 5) (po_some (pe_op op_add (pv 2) pe_int)) po_none)))) pa_nil)))) (pss_one (ps_set (i := 1) nd rfl (Or.inl rfl) (pe_op op_add (pv 1) (pe_ifExp (pt_cmpR op_eq (pe_op op_mod (pe_callTy c_int (by rfl) T.z_int bo_int (pa_cons (pv 2) pa_nil)) pe_int) pe_int (nomark _)) (pv 4) (pe_op op_sub pe_int (pv 4))))))) pss_nil))) (pss_one (ps_ret (pv 1)))))), fun as β r β' hR => ?_⟩)
  obtain ⟨rows, rfl, ok, hm, rfl, rfl, rfl⟩ := hR
  dsimp only [cxOf, Cx.nox, Cx.wish]
  have hlen : EvB K (tCB (TD.rLen K) (tCons (tVar 0) tNil)) [some (.imm (.list (rows.map lstI))), none, none, none, none, none] none (.int (rows.length : Int)) none := (d_len (d_var rfl) (.inl rfl)).to (by rw [List.length_map])
  obtain ⟨r0, rest, rfl⟩ : ∃ r0 rest, rows = r0 :: rest := by
    cases rows with
    | nil => exact absurd ok.pos (by decide)
    | cons a b => exact ⟨a, b, rfl⟩
  have h00 : ∀ ρ : Rho, ρ[0]? = some (some (.imm (.list ((r0 :: rest).map lstI)))) → EvB K (tOp (rIxL K) (tVar 0) (tC (.int 0))) ρ none (lstI r0) none := fun ρ h => d_ixL (d_var h) d_int (at0 _ _)
  have hr0 : r0.length = rest.length + 1 := ok.sq.2 r0 (List.mem_cons_self ..)
  by_cases h1 : rest.length = 0
  · obtain rfl : rest = [] := List.length_eq_zero_iff.mp h1
    obtain ⟨x, rfl⟩ : ∃ x, r0 = [x] := List.length_eq_one_iff.mp hr0
    exact .ret (st_seqR (st_ifT ((t_test (d_eqI hlen d_int)).to rfl) (st_ret (d_ix (h00 _ rfl) (.inl rfl) d_int (at0 _ _)))))
  · obtain ⟨n, hn⟩ : ∃ n, rest.length = n + 1 := ⟨rest.length - 1, by omega⟩
    have hL : (r0 :: rest).length = n + 2 := by rw [List.length_cons, hn]
    have few := ok.few
    rw [hL] at few hm
    have ent : ∀ j (hj : j < n + 2), Det.entL (r0 :: rest) 0 j = r0[j]'(by omega) := fun j hj => by
      show r0.getD j 0 = _
      rw [List.getD_eq_getElem?_getD, List.getElem?_eq_getElem (by omega)]
      rfl
    have turn : ∀ (mm k : Nat) (t : Int) (a b c : Option Slot), k + mm = n + 2 → ∃ a' b' c', ForE K 2 3 (tIfS (tTest (tOp rNe (tVar 3) (tC (.int 0)))) (tSeq (tAsg (tOp (rI CMulW fun i j => V.int (i * j)) (tVar 3) (tCall (spR K (R_val m)) [] E0 (tCons (tLc (iList K (tSl (rSlL K) (tVar 0) (tPart (tC (.int 1))) tNoPart)) (gName 5) tYes (tOp rCat (tSl (rSlL K) (tVar 5) tNoPart (tPart (tVar 2))) (tSl (rSlL K) (tVar 5) (tPart (tOp (rI0 fun i j => V.int (i + j)) (tVar 2) (tC (.int 1)))) tNoPart)) [5]) tNil))) (gName 4)) (tAsg (tOp (rI0 fun i j => V.int (i + j)) (tVar 1) (tIf (tTest (tOp rEq (tOp (rI (fun i j => 0 < j) fun i j => V.int (i % j)) (tCB rInt1 (tCons (tVar 2) tNil)) (tC (.int 2))) (tC (.int 0)))) (tVar 4) (tOp (rI0 fun i j => V.int (i - j)) (tC (.int 0)) (tVar 4)))) (gName 1))) tNext) k ((r0.drop k).map PyData.int) [some (.imm (.list ((r0 :: rest).map lstI))), some (.imm (.int t)), a, b, c, none] none (.nx [some (.imm (.list ((r0 :: rest).map lstI))), some (.imm (.int ((List.range' k mm).foldl (stepL n (r0 :: rest)) t))), a', b', c', none]) none := by
      intro mm
      induction mm with
      | zero =>
        intro k t a b c hk
        rw [List.drop_eq_nil_of_le (by omega)]
        exact ⟨a, b, c, .nil _ _ _⟩
      | succ mm ih =>
        intro k t a b c hk
        have hlt : k < n + 2 := by omega
        have hk0 : k < r0.length := by omega
        rw [List.drop_eq_getElem_cons hk0, List.map_cons, List.range'_succ, List.foldl_cons]
        generalize hx : r0[k] = x
        have ex : Det.entL (r0 :: rest) 0 k = x := by rw [ent k hlt, hx]
        by_cases h0 : x = 0
        · have e1 : stepL n (r0 :: rest) t k = t := if_pos (by rw [ex, h0])
          rw [e1]
          obtain ⟨a', b', c', hh⟩ := ih (k + 1) t (some (.imm (.int (k : Nat)))) (some (.imm (.int x))) c (by omega)
          exact ⟨a', b', c', .nx (st_ifF ((t_test (d_neI (d_var rfl) d_int)).to (by rw [h0]; rfl)) st_next) hh⟩
        · obtain ⟨okm, lenm⟩ := ok.minor (j := k) (by rw [hL]; exact hlt) (by omega)
          have lm : (Det.minorL (r0 :: rest) k).length = n + 1 := by rw [lenm, hL]; rfl
          have hp : EvB K (tOp (rI CMulW fun i j => V.int (i * j)) (tVar 3) (tCall (spR K (R_val m)) [] E0 (tCons (tLc (iList K (tSl (rSlL K) (tVar 0) (tPart (tC (.int 1))) tNoPart)) (gName 5) tYes (tOp rCat (tSl (rSlL K) (tVar 5) tNoPart (tPart (tVar 2))) (tSl (rSlL K) (tVar 5) (tPart (tOp (rI0 fun i j => V.int (i + j)) (tVar 2) (tC (.int 1)))) tNoPart)) [5]) tNil))) [some (.imm (.list ((r0 :: rest).map lstI))), some (.imm (.int t)), some (.imm (.int (k : Nat))), some (.imm (.int x)), c, none] none (.int (x * Det.detL n (Det.minorL (r0 :: rest) k))) none := by
            have hmin : EvB K (tLc (iList K (tSl (rSlL K) (tVar 0) (tPart (tC (.int 1))) tNoPart)) (gName 5) tYes (tOp rCat (tSl (rSlL K) (tVar 5) tNoPart (tPart (tVar 2))) (tSl (rSlL K) (tVar 5) (tPart (tOp (rI0 fun i j => V.int (i + j)) (tVar 2) (tC (.int 1)))) tNoPart)) [5]) [some (.imm (.list ((r0 :: rest).map lstI))), some (.imm (.int t)), some (.imm (.int (k : Nat))), some (.imm (.int x)), c, none] none (.list ((Det.minorL (r0 :: rest) k).map lstI)) none := by
              refine (d_lcL (ds := rest.map lstI) (rs := rest.map fun r => lstI (r.take k ++ r.drop (k + 1))) ((d_slL (d_var rfl) (o_some d_int) o_none).to ?_) ?_ (by rw [List.length_map]; omega) (wipe_ok (by decide))).to (by unfold Det.minorL; rw [List.map_map]; rfl)
              · rw [show (some (1 : Int)) = some (((0 : Nat) : Int) + 1) from rfl, cut_from]; rfl
              · refine lc_map lstI (fun r => lstI (r.take k ++ r.drop (k + 1))) rest fun r hr => ?_
                have hrl := ok.sq.2 r (List.mem_cons_of_mem _ hr)
                rw [hL] at hrl
                refine (d_cat (ds := (r.take k).map PyData.int) (es := (r.drop (k + 1)).map PyData.int) ((d_slL (d_var rfl) o_none (o_some (d_var rfl))).to (by rw [cut_to, List.map_take])) ((d_slL (d_var rfl) (o_some (d_add (d_var rfl) d_int)) o_none).to (by rw [cut_from, List.map_drop])) (by rw [List.length_map, List.length_map, List.length_take, List.length_drop]; omega)).to (by rw [← List.map_append])
            refine d_mul (d_var rfl) (d_call0 (a_con hmin a_nil) ⟨Det.minorL (r0 :: rest) k, rfl, okm, by omega, by rw [lm]; rfl, rfl, rfl⟩) ?_
            have hb := Det.detL_le 200 n (by omega) okm.szr
            have hxb : x.natAbs ≤ 2 ^ 200 := by rw [← hx]; exact ok.szr r0 (List.mem_cons_self ..) _ (List.getElem_mem hk0)
            have h2 : (Det.detL n (Det.minorL (r0 :: rest) k)).natAbs < 2 ^ (203 * (n + 1) + 1) := Nat.lt_of_le_of_lt hb (Nat.pow_lt_pow_right (by decide) (by omega))
            exact wide_mul (a := 201) (b := 203 * (n + 1) + 1) (Nat.lt_of_le_of_lt hxb (Nat.pow_lt_pow_right (by decide) (by decide))) h2 (by decide) (by omega) (by omega)
          obtain ⟨a', b', c', hh⟩ := ih (k + 1) (stepL n (r0 :: rest) t k) (some (.imm (.int (k : Nat)))) (some (.imm (.int x))) (some (.imm (.int (x * Det.detL n (Det.minorL (r0 :: rest) k))))) (by omega)
          refine ⟨a', b', c', .nx (st_ifT ((t_test (d_neI (d_var rfl) d_int)).to (by simpa using h0)) (st_sq (st_asg hp) (st_asg ?_))) hh⟩
          have hmod : ∀ ρ : Rho, ρ[2]? = some (some (.imm (.int (k : Nat)))) → EvB K (tOp rEq (tOp (rI (fun i j => 0 < j) fun i j => V.int (i % j)) (tCB rInt1 (tCons (tVar 2) tNil)) (tC (.int 2))) (tC (.int 0))) ρ none (.bool (decide (((k : Nat) : Int) % 2 = 0))) none := fun ρ e => d_eqI (d_mod (d_intI (d_var e)) d_int (by decide)) d_int
          by_cases ho : k % 2 = 1
          · exact (d_add (d_var rfl) (d_ifF ((t_test (hmod _ rfl)).to (decide_eq_false (by omega))) (d_sub d_int (d_var rfl)))).to (by unfold stepL; rw [ex, if_neg h0, if_pos ho]; exact congrArg PyData.int (by omega))
          · exact (d_add (d_var rfl) (d_ifT ((t_test (hmod _ rfl)).to (decide_eq_true (by omega))) (d_var rfl))).to (by unfold stepL; rw [ex, if_neg h0, if_neg ho])
    obtain ⟨a', b', c', hfor⟩ := turn (n + 2) 0 0 none none none (by omega)
    refine .ret (st_sq (st_ifF ((t_test (d_eqI hlen d_int)).to (decide_eq_false (by rw [hL]; omega))) st_next) (st_sq (st_asg d_int) (st_sq (st_forEL (h00 _ rfl) hfor) (st_ret ((d_var rfl).to ?_)))))
    rw [hL, List.range_eq_range'.symm]
    rfl

end K03
/-! ## K03i -/
set_option Elab.async false
set_option linter.all false
set_option maxRecDepth 100000
set_option maxHeartbeats 1100000
namespace K03
open PySem L2 TD PySem.Spec PyProof.Rows
variable [TabW]
def fD {α : Type} (a : α → List Slot) (P : α → Prop) (g : α → List Int → Dt × List Int) : FR := fun as β r β' => ∃ x n ns, as = .bag :: a x ∧ P x ∧ Num.BagI n ns ∧ r = (g x ns).1 ∧ β = some ns ∧ β' = some (g x ns).2
section
variable {K : PySem.W.Frag} {ρ : Rho} {β β1 β2 β3 : Bag} {ta tb tc : TE} {t : TA} {E : XK} {α : Type}
theorem c_fD {a : α → List Slot} {P : α → Prop} {g : α → List Int → Dt × List Int} {x : α} {n : Int} {ns : List Int} (h : EvA K t ρ (some ns) (.bag :: a x) (some ns)) (hp : P x) (hb : Num.BagI n ns) : EvB K (tCall (spR K (fD a P g)) [] E t) ρ (some ns) (g x ns).1 (some (g x ns).2) := d_call h ⟨x, n, ns, rfl, hp, hb, rfl, rfl, rfl⟩ rfl
end
theorem grab_pos {t a m c : Int} (h : 0 < a) : Num.grabF t [a, m, c] = (a % t, [a.fdiv t, m, c]) := if_pos h
theorem grab_neg {t a m c : Int} (h : ¬ 0 < a) : Num.grabF t [a, m, c] = ((((((m + 1048627 * (c + 1)) % 2305843009213693951 * ((m + 1048627 * (c + 1)) % 2305843009213693951) % 2305843009213693723 * ((m + 1048627 * (c + 1)) % 2305843009213693951) + 8147 * (c + 1)) % 2305843009213693921).fdiv 16384) % t), [a, m, c + 1]) := if_neg h
theorem getD_int {ns : List Int} {i : Nat} (h : i < ns.length) : (ns.map PyData.int).getD i .none = .int (ns.getD i 0) := by
  rw [List.getD_eq_getElem?_getD, List.getD_eq_getElem?_getD, List.getElem?_map, List.getElem?_eq_getElem h]
  rfl
theorem LcR.draws {K : PySem.W.Frag} {ρ : Rho} {te : TE} {j : Nat} (f : List Int → Int × List Int) (hf : ∀ (d : Dt) {n : Int} {ns : List Int}, Num.BagI n ns → EvB K te (ρ.set j (some (Slot.imm d))) (some ns) (.int (f ns).1) (some (f ns).2)) (hb : ∀ {n : Int} {ns : List Int}, Num.BagI n ns → Num.BagI (n + 1) (f ns).2) :
    ∀ (ds : List Dt) {n : Int} {ns : List Int}, Num.BagI n ns → LcR K j tYes te ds ρ (some ns) ((Num.drawsF f ds.length ns).1.map PyData.int) (some (Num.drawsF f ds.length ns).2)
  | [], _, _, _ => .nil _ _
  | d :: ds, n, ns, h => .yes t_yes0 (hf d h) (LcR.draws f hf hb ds (hb h))
theorem val_all {P : Program} {w : World} {K : PySem.W.Frag} {mg : Str → Option Value} {base : Heap} {Y : Cn} (F : DefAt K "_law_value_of" s_law_value_of) (hX : K.In base) (hG : base.Ns mainGlobals mg) (T : Txt K mg Y) : ∀ n, FnG P w K mg base (n + 1) "_law_value_of" ["_law_rows"] (R_val n)
  | 0 => val_bottom F hX hG sc_law_value_of
  | n + 1 => ok_law_value_of F hX hG T (val_all F hX hG T n)


abbrev s_law_grab : Stmt := top 47
theorem sc_law_grab : FnScope ["_law_bag_here", "_law_total", "_law_found", "_law_one", "_law_two"] ["_law_bag_here", "_law_total"] (defScope s_law_grab) := ⟨rfl, rfl, rfl, by decide +kernel, rfl, by decide +kernel, by decide +kernel⟩
abbrev R_law_grab : FR := fD (fun t : Int => [.imm (.int t)]) (fun t => 0 < t ∧ t.natAbs < 2 ^ 3000) fun t ns => (.int (Num.grabF t ns).1, (Num.grabF t ns).2)
theorem ok_law_grab {P : Program} {w : World} {K : PySem.W.Frag} {mg : Str → Option Value} {base : Heap} {Y : Cn} (F : DefAt K "_law_grab" s_law_grab) (hX : K.In base) (hG : base.Ns mainGlobals mg) (T : Txt K mg Y)  : FnG P w K mg base 1 "_law_grab" ["_law_bag_here", "_law_total"] R_law_grab := by
  have nd := sc_law_grab.nd
  refine fn_mk F hX hG sc_law_grab (fun as β r β' h => by first | exact FR.len h | (obtain ⟨_, rfl, _⟩ := h; rfl) | (obtain ⟨_, _, rfl, _⟩ := h; rfl) | (obtain ⟨_, _, _, rfl, _⟩ := h; rfl) | (obtain ⟨_, _, _, _, rfl, _⟩ := h; rfl) | (obtain ⟨_, _, _, _, _, rfl, _⟩ := h; rfl)) (fun _ _ _ _ _ _ _ us hl => match us, hl with | [_, _], _ => rfl) (fun f cdv A outer s H E hr => ⟨_, (pss_cons (ps_if (pt_cmpR op_gt (pe_ix ix_list (pv 0) pe_int (fun _ _ => rfl)) pe_int (nomark _)) (pss_cons (ps_set (i := 2) nd rfl (Or.inl rfl) (pe_op op_mod (pe_callTy c_int (by rfl) T.z_int bo_int (pa_cons (pe_ix ix_list (pv 0) pe_int (fun _ _ => rfl)) pa_nil)) (pv 1))) (pss_cons (ps_asg (pe_op op_fdivV (pe_ix ix_list (pv 0) pe_int (fun _ _ => rfl)) (pv 1)) (pg_sub (pv 0) pe_int set_list)) (pss_one (ps_ret (pv 2))))) pss_nil) (pss_cons (ps_asg (pe_op op_add (pe_ix ix_list (pv 0) pe_int (fun _ _ => rfl)) pe_int) (pg_sub (pv 0) pe_int set_list)) (pss_cons (ps_set (i := 3) nd rfl (Or.inl rfl) (pe_op op_mod (pe_callTy c_int (by rfl) T.z_int bo_int (pa_cons (pe_op op_add (pe_ix ix_list (pv 0) pe_int (fun _ _ => rfl)) (pe_op op_mul pe_int (pe_ix ix_list (pv 0) pe_int (fun _ _ => rfl)))) pa_nil)) pe_int)) (pss_cons (ps_set (i := 4) nd rfl (Or.inl rfl) (pe_op op_add (pe_op op_mulW (pe_op op_mod (pe_callTy c_int (by rfl) T.z_int bo_int (pa_cons (pe_op op_mulW (pv 3) (pv 3)) pa_nil)) pe_int) (pv 3)) (pe_op op_mul pe_int (pe_ix ix_list (pv 0) pe_int (fun _ _ => rfl))))) (pss_one (ps_ret (pe_op op_mod (pe_callTy c_int (by rfl) T.z_int bo_int (pa_cons (pe_op op_fdivV (pe_op op_mod (pe_callTy c_int (by rfl) T.z_int bo_int (pa_cons (pv 4) pa_nil)) pe_int) pe_int) pa_nil)) (pv 1)))))))), fun as β r β' hR => ?_⟩)
  obtain ⟨t, n, ns, rfl, ⟨ht, hz⟩, hb, rfl, rfl, rfl⟩ := hR
  dsimp only [cxOf, Cx.nox, Cx.wish]
  obtain ⟨a, m, c, rfl, h1, h2, h3, h4, h5, h6⟩ := hb.ex
  have hdv : CDivV a t := ⟨by omega, Num.log_lt3 hz⟩
  by_cases h : 0 < a
  · rw [grab_pos h]
    refine .ret (st_seqR (st_ifT ((t_test (d_gt (d_ixB rfl d_int rfl) d_int)).to (decide_eq_true h)) (st_seq (st_asg (d_mod (d_intI (d_ixB rfl d_int rfl)) (d_var rfl) ht)) (st_seq (st_setB (j := 0) (d_fdiv (d_ixB rfl d_int rfl) (d_var rfl) hdv) rfl rfl) (st_ret (d_var rfl))))))
  · rw [grab_neg h]
    have e1 : (0 : Int) ≤ (m + 1048627 * (c + 1)) % 2305843009213693951 := Int.emod_nonneg _ (by decide)
    have e2 : (m + 1048627 * (c + 1)) % 2305843009213693951 < 2305843009213693951 := Int.emod_lt_of_pos _ (by decide)
    have w1 : CMulW ((m + 1048627 * (c + 1)) % 2305843009213693951) ((m + 1048627 * (c + 1)) % 2305843009213693951) := wide_mul (a := 62) (b := 62) (by omega) (by omega) (by decide) (by decide) (by decide)
    have w2 : ∀ z : Int, CMulW (z % 2305843009213693723) ((m + 1048627 * (c + 1)) % 2305843009213693951) := fun z => wide_mul (a := 62) (b := 62) (by have := Int.emod_nonneg z (show (2305843009213693723 : Int) ≠ 0 by decide); have := Int.emod_lt_of_pos z (show (0 : Int) < 2305843009213693723 by decide); omega) (by omega) (by decide) (by decide) (by decide)
    refine .ret (st_sq (st_ifF ((t_test (d_gt (d_ixB rfl d_int rfl) d_int)).to (decide_eq_false h)) st_next) (st_seq (st_setB (j := 2) (d_add (d_ixB rfl d_int rfl) d_int) rfl rfl) (st_sq (st_asg (d_mod (d_intI (d_add (d_ixB rfl d_int rfl) (d_mul d_int (d_ixB rfl d_int rfl) (.inl (by decide))))) d_int (by decide))) (st_sq (st_asg (d_add (d_mul (d_mod (d_intI (d_mul (d_var rfl) (d_var rfl) w1)) d_int (by decide)) (d_var rfl) (w2 _)) (d_mul d_int (d_ixB rfl d_int rfl) (.inl (by decide))))) (st_ret (d_mod (d_intI (d_fdiv (d_mod (d_intI (d_var rfl)) d_int (by decide)) d_int ⟨by decide, by decide⟩)) (d_var rfl) ht))))))


abbrev s_law_one_of : Stmt := top 48
theorem sc_law_one_of : FnScope ["_law_bag_here", "_law_items"] ["_law_bag_here", "_law_items"] (defScope s_law_one_of) := ⟨rfl, rfl, rfl, by decide +kernel, rfl, by decide +kernel, by decide +kernel⟩
abbrev R_law_one_of : FR := fD (fun ds : List Dt => [.imm (.list ds)]) (fun ds => ds ≠ [] ∧ ds.length ≤ 1000) fun ds ns => (ds.getD (Num.grabF (ds.length : Int) ns).1.toNat .none, (Num.grabF (ds.length : Int) ns).2)
theorem ok_law_one_of {P : Program} {w : World} {K : PySem.W.Frag} {mg : Str → Option Value} {base : Heap} {Y : Cn} (F : DefAt K "_law_one_of" s_law_one_of) (hX : K.In base) (hG : base.Ns mainGlobals mg) (T : Txt K mg Y) (G_law_grab : FnG P w K mg base 1 "_law_grab" ["_law_bag_here", "_law_total"] R_law_grab) : FnG P w K mg base 2 "_law_one_of" ["_law_bag_here", "_law_items"] R_law_one_of := by
  have nd := sc_law_one_of.nd
  refine fn_mk F hX hG sc_law_one_of (fun as β r β' h => by first | exact FR.len h | (obtain ⟨_, rfl, _⟩ := h; rfl) | (obtain ⟨_, _, rfl, _⟩ := h; rfl) | (obtain ⟨_, _, _, rfl, _⟩ := h; rfl) | (obtain ⟨_, _, _, _, rfl, _⟩ := h; rfl) | (obtain ⟨_, _, _, _, _, rfl, _⟩ := h; rfl)) (fun _ _ _ _ _ _ _ us hl => match us, hl with | [_, _], _ => rfl) (fun f cdv A outer s H E hr => ⟨_, (pss_one (ps_ret (pe_ix ix_list (pv 1) (pe_fn G_law_grab (hr.mono (by decide)) (pa_cons (pv 0) (pa_cons (pe_callB (c_lenK (K := K)) (by rfl) T.z_len bo_len (pa_cons (pv 1) pa_nil)) pa_nil))) (fun _ _ => rfl)))), fun as β r β' hR => ?_⟩)
  obtain ⟨ds, n, ns, rfl, ⟨h0, hl⟩, hb, rfl, rfl, rfl⟩ := hR
  dsimp only [cxOf, Cx.nox, Cx.wish]
  have hp : 0 < ds.length := List.length_pos_iff.mpr h0
  have hg := Num.grab_rng (t := (ds.length : Int)) (by omega) ns
  refine .ret (st_ret (d_ixL (d_var rfl) (c_fD (x := (ds.length : Int)) (a_bg rfl (a_con (d_len (d_var rfl) (.inl rfl)) a_nil)) ⟨by omega, Nat.lt_of_le_of_lt (m := 1000) (by omega) (by decide)⟩ hb) ?_))
  show atI ds (Num.grabF (ds.length : Int) ns).1 = some _
  have e : (Num.grabF (ds.length : Int) ns).1 = (((Num.grabF (ds.length : Int) ns).1.toNat : Nat) : Int) := by omega
  have hlt : (Num.grabF (ds.length : Int) ns).1.toNat < ds.length := by omega
  rw [e]
  refine atI_nat ?_
  rw [List.getElem?_eq_getElem hlt, List.getD_eq_getElem?_getD, Int.toNat_natCast, List.getElem?_eq_getElem hlt]
  rfl


abbrev s_law_mixed : Stmt := top 49
theorem sc_law_mixed : FnScope ["_law_bag_here", "_law_items", "_law_waits", "_law_turn"] ["_law_bag_here", "_law_items"] (defScope s_law_mixed) := ⟨rfl, rfl, rfl, by decide +kernel, rfl, by decide +kernel, by decide +kernel⟩
abbrev R_law_mixed : FR := fun as β r β' => ∃ d ds n ns, as = [.bag, .imm d] ∧ (SeqD d ds ∧ ds.length ≤ 1000) ∧ Num.BagI n ns ∧ r = .list (mixF Num.grabF ds.length ds ns).1 ∧ β = some ns ∧ β' = some (mixF Num.grabF ds.length ds ns).2
theorem ok_law_mixed {P : Program} {w : World} {K : PySem.W.Frag} {mg : Str → Option Value} {base : Heap} {Y : Cn} (F : DefAt K "_law_mixed" s_law_mixed) (hX : K.In base) (hG : base.Ns mainGlobals mg) (T : Txt K mg Y) (G_law_grab : FnG P w K mg base 1 "_law_grab" ["_law_bag_here", "_law_total"] R_law_grab) : FnG P w K mg base 2 "_law_mixed" ["_law_bag_here", "_law_items"] R_law_mixed := by
  have nd := sc_law_mixed.nd
  refine fn_mk F hX hG sc_law_mixed (fun as β r β' h => by first | exact FR.len h | (obtain ⟨_, rfl, _⟩ := h; rfl) | (obtain ⟨_, _, rfl, _⟩ := h; rfl) | (obtain ⟨_, _, _, rfl, _⟩ := h; rfl) | (obtain ⟨_, _, _, _, rfl, _⟩ := h; rfl) | (obtain ⟨_, _, _, _, _, rfl, _⟩ := h; rfl)) (fun _ _ _ _ _ _ _ us hl => match us, hl with | [_, _], _ => rfl) (fun f cdv A outer s H E hr => ⟨_, (pss_cons (ps_set (i := 2) nd rfl (Or.inr rfl) (pe_callTy c_list (by rfl) T.z_list bo_list (pa_cons (pv 1) pa_nil))) (pss_one (ps_ret (pe_lc (own := [("_law_turn", 3)]) rfl nd (pi_range1 (by rfl) T.z_range (pa_cons (pe_callB (c_lenK (K := K)) (by rfl) T.z_len bo_len (pa_cons (pv 1) pa_nil)) pa_nil)) (blkOk_by (N := ["_law_bag_here", "_law_items", "_law_waits", "_law_turn"]) (sc := defScope s_law_mixed) (by decide +kernel)) (fun _ _ _ _ _ => by exact (pg_name (i := 3) nd rfl (Or.inl rfl))) (fun _ _ _ _ _ => by exact pts_nil) (fun _ _ _ _ _ => by exact (pe_castBM (K := K) (pe_bm PySem.F.plainAttrs_list PySem.F.slot_list_pop PySem.F.type_list_pop mt_popAt (pv 2) (pa_cons (pe_fn G_law_grab (hr.mono (by decide)) (pa_cons (pv 0) (pa_cons (pe_callB (c_lenK (K := K)) (by rfl) T.z_len bo_len (pa_cons (pv 2) pa_nil)) pa_nil))) pa_nil)))))))), fun as β r β' hR => ?_⟩)
  obtain ⟨d, ds, n, ns, rfl, ⟨hd, hl⟩, hb, rfl, rfl, rfl⟩ := hR
  dsimp only [cxOf, Cx.nox, Cx.wish]
  refine .ret (st_mixed (P := fun ns => ∃ n, Num.BagI n ns) Num.grabF hd hl ⟨n, hb⟩ (fun ⟨n, h⟩ hp => ⟨n + 1, Num.grab_bag hp h⟩) (fun hp => Num.grab_rng hp _) fun ⟨n, h⟩ hp hle => ⟨_, n, _, rfl, ⟨hp, Nat.lt_of_le_of_lt (m := 1000) (by omega) (by decide)⟩, h, rfl, rfl, rfl⟩)


abbrev s_law_low : Stmt := top 50
theorem sc_law_low : FnScope ["_law_prime", "_law_number_here"] ["_law_prime", "_law_number_here"] (defScope s_law_low) := ⟨rfl, rfl, rfl, by decide +kernel, rfl, by decide +kernel, by decide +kernel⟩
abbrev R_law_low : FR := f2 PyData.int PyData.int (fun p _ => 0 ≤ p) fun p n => .int (Num.settled p n)
theorem ok_law_low {P : Program} {w : World} {K : PySem.W.Frag} {mg : Str → Option Value} {base : Heap} {Y : Cn} (F : DefAt K "_law_low" s_law_low) (hX : K.In base) (hG : base.Ns mainGlobals mg) (T : Txt K mg Y)  : FnG P w K mg base 1 "_law_low" ["_law_prime", "_law_number_here"] R_law_low := by
  have nd := sc_law_low.nd
  refine fn_mk F hX hG sc_law_low (fun as β r β' h => by first | exact FR.len h | (obtain ⟨_, rfl, _⟩ := h; rfl) | (obtain ⟨_, _, rfl, _⟩ := h; rfl) | (obtain ⟨_, _, _, rfl, _⟩ := h; rfl) | (obtain ⟨_, _, _, _, rfl, _⟩ := h; rfl) | (obtain ⟨_, _, _, _, _, rfl, _⟩ := h; rfl)) (fun _ _ _ _ _ _ _ us hl => match us, hl with | [_, _], _ => rfl) (fun f cdv A outer s H E hr => ⟨_, (pss_one (ps_ret (pe_ifExp (pt_cmpR op_eq (pv 0) pe_int (nomark _)) (pe_callTy c_int (by rfl) T.z_int bo_int (pa_cons (pv 1) pa_nil)) (pe_op op_mod (pe_callTy c_int (by rfl) T.z_int bo_int (pa_cons (pv 1) pa_nil)) (pv 0))))), fun as β r β' hR => ?_⟩)
  obtain ⟨p, n, rfl, hp, rfl, rfl, rfl⟩ := hR
  dsimp only [cxOf, Cx.nox, Cx.wish]
  by_cases h : p = 0
  · subst h
    exact .ret (st_ret (d_ifT ((t_test (d_eqI (d_var rfl) d_int)).to rfl) (d_intI (d_var rfl))))
  · refine .ret (st_ret (d_ifF ((t_test (d_eqI (d_var rfl) d_int)).to (decide_eq_false h)) ((d_mod (d_intI (d_var rfl)) (d_var rfl) (by show 0 < p; omega)).to ?_)))
    unfold Num.settled
    rw [if_pos h]


abbrev s_law_common : Stmt := top 51
theorem sc_law_common : FnScope ["_law_numbers", "_law_found", "_law_number_here", "_law_other"] ["_law_numbers"] (defScope s_law_common) := ⟨rfl, rfl, rfl, by decide +kernel, rfl, by decide +kernel, by decide +kernel⟩
abbrev R_law_common : FR := f1 lstI (fun _ => True) fun ns => .int (Num.gcdL 0 ns)
theorem ok_law_common {P : Program} {w : World} {K : PySem.W.Frag} {mg : Str → Option Value} {base : Heap} {Y : Cn} (F : DefAt K "_law_common" s_law_common) (hX : K.In base) (hG : base.Ns mainGlobals mg) (T : Txt K mg Y)  : FnG P w K mg base 1 "_law_common" ["_law_numbers"] R_law_common := by
  have nd := sc_law_common.nd
  refine fn_mk F hX hG sc_law_common (fun as β r β' h => by first | exact FR.len h | (obtain ⟨_, rfl, _⟩ := h; rfl) | (obtain ⟨_, _, rfl, _⟩ := h; rfl) | (obtain ⟨_, _, _, rfl, _⟩ := h; rfl) | (obtain ⟨_, _, _, _, rfl, _⟩ := h; rfl) | (obtain ⟨_, _, _, _, _, rfl, _⟩ := h; rfl)) (fun _ _ _ _ _ _ _ us hl => match us, hl with | [_], _ => rfl) (fun f cdv A outer s H E hr => ⟨_, (pss_cons (ps_set (i := 1) nd rfl (Or.inl rfl) pe_int) (pss_cons (ps_for PassesOwn.never rfl (pi_list (pv 0)) (pg_name (i := 2) nd rfl (Or.inl rfl)) (pss_cons (ps_set (i := 3) nd rfl (Or.inl rfl) (pe_callB c_abs (by rfl) T.z_abs bo_abs (pa_cons (pv 2) pa_nil))) (pss_one (ps_while PassesOwn.never (pt_cmpR op_gt (pv 3) pe_int (nomark _)) (pss_one (ps_par (i := 1) (j := 3) rfl nd rfl rfl (by decide) rfl rfl (pa_cons (pv 3) (pa_cons (pe_op op_mod (pv 1) (pv 3)) pa_nil)) (by rfl))))))) (pss_one (ps_ret (pv 1))))), fun as β r β' hR => ?_⟩)
  obtain ⟨ns, rfl, _, rfl, rfl, rfl⟩ := hR
  dsimp only [cxOf, Cx.nox, Cx.wish]
  have wh : ∀ (o : Nat) (f : Nat) (x n : Option Slot), ∃ k, WhR K (tTest (tOp (rI0 fun i j => .bl (decide (j < i))) (tVar 3) (tC (.int 0)))) (tPar 1 3 (tCons (tVar 3) (tCons (tOp (rI (fun _ j => 0 < j) fun i j => .int (i % j)) (tVar 1) (tVar 3)) tNil))) k [x, some (.imm (.int (f : Int))), n, some (.imm (.int (o : Int)))] none (.nx [x, some (.imm (.int ((Nat.gcd f o : Nat) : Int))), n, some (.imm (.int 0))]) none := by
    intro o
    induction o using Nat.strongRecOn with
    | ind o ih =>
      intro f x n
      by_cases h : o = 0
      · subst h
        rw [Nat.gcd_zero_right]
        exact ⟨0, .done ((t_test (d_gt (d_var rfl) d_int)).to rfl)⟩
      · obtain ⟨k, hk⟩ := ih (f % o) (Nat.mod_lt _ (by omega)) o x n
        have e : Nat.gcd o (f % o) = Nat.gcd f o := by rw [Nat.gcd_comm, ← Nat.gcd_rec, Nat.gcd_comm]
        rw [e] at hk
        refine ⟨k + 1, .nx ((t_test (d_gt (d_var rfl) d_int)).to (decide_eq_true (by omega))) (st_par (d_var rfl) (d_mod (d_var rfl) (d_var rfl) (by show (0 : Int) < (o : Int); omega))) ?_⟩
        have e2 : ((f : Int) % (o : Int)) = ((f % o : Nat) : Int) := rfl
        show WhR K _ _ k [x, some (.imm (.int (o : Int))), n, some (.imm (.int ((f : Int) % (o : Int))))] none _ none
        rw [e2]
        exact hk
  have loop : ∀ (ms : List Int) (s : Nat) (x v w : Option Slot), ∃ v' w', ForR K 2 (tSeq (tAsg (tCB rAbs (tCons (tVar 2) tNil)) (gName 3)) (tWhile (tTest (tOp (rI0 fun i j => .bl (decide (j < i))) (tVar 3) (tC (.int 0)))) (tPar 1 3 (tCons (tVar 3) (tCons (tOp (rI (fun _ j => 0 < j) fun i j => .int (i % j)) (tVar 1) (tVar 3)) tNil))))) (ms.map PyData.int) [x, some (.imm (.int (s : Int))), v, w] none (.nx [x, some (.imm (.int (Num.gcdL (s : Int) ms))), v', w']) none := by
    intro ms
    induction ms with
    | nil => exact fun s x v w => ⟨v, w, .nil _ _⟩
    | cons m ms ih =>
      intro s x v w
      obtain ⟨k, hk⟩ := wh m.natAbs s x (some (.imm (.int m)))
      obtain ⟨v', w', h⟩ := ih (Nat.gcd s m.natAbs) x (some (.imm (.int m))) (some (.imm (.int 0)))
      exact ⟨v', w', .nx (st_sq (st_asg ((d_abs (d_var rfl)).to (congrArg PyData.int (absI_num m)))) (st_while hk)) h⟩
  obtain ⟨v', w', h⟩ := loop ns 0 _ none none
  exact .ret (st_sq (st_asg d_int) (st_sq (st_forL (d_var rfl) h) (st_ret (d_var rfl))))


abbrev s_law_back : Stmt := top 52
theorem sc_law_back : FnScope ["_law_prime", "_law_number_here", "_law_one"] ["_law_prime", "_law_number_here"] (defScope s_law_back) := ⟨rfl, rfl, rfl, by decide +kernel, rfl, by decide +kernel, by decide +kernel⟩
abbrev R_law_back : FR := f2 PyData.int PyData.int (fun p a => Num.PrimeI p ∧ p ≠ 0 ∧ 0 < a ∧ a < p) fun p a => .int (Num.inv p a)
theorem ok_law_back {P : Program} {w : World} {K : PySem.W.Frag} {mg : Str → Option Value} {base : Heap} {Y : Cn} (F : DefAt K "_law_back" s_law_back) (hX : K.In base) (hG : base.Ns mainGlobals mg) (T : Txt K mg Y)  : FnG P w K mg base 1 "_law_back" ["_law_prime", "_law_number_here"] R_law_back := by
  have nd := sc_law_back.nd
  refine fn_mk F hX hG sc_law_back (fun as β r β' h => by first | exact FR.len h | (obtain ⟨_, rfl, _⟩ := h; rfl) | (obtain ⟨_, _, rfl, _⟩ := h; rfl) | (obtain ⟨_, _, _, rfl, _⟩ := h; rfl) | (obtain ⟨_, _, _, _, rfl, _⟩ := h; rfl) | (obtain ⟨_, _, _, _, _, rfl, _⟩ := h; rfl)) (fun _ _ _ _ _ _ _ us hl => match us, hl with | [_, _], _ => rfl) (fun f cdv A outer s H E hr => ⟨_, (pss_one (ps_ret (pe_ix ix_list (pe_lc (own := [("_law_one", 2)]) rfl nd (pi_range2 (by rfl) T.z_range (pa_cons pe_int (pa_cons (pv 0) pa_nil))) (blkOk_by (N := ["_law_prime", "_law_number_here", "_law_one"]) (sc := defScope s_law_back) (by decide +kernel)) (fun _ _ _ _ _ => by exact (pg_name (i := 2) nd rfl (Or.inl rfl))) (fun _ _ _ _ _ => by exact (pts_one (pt_cmpR op_eq (pe_op op_mod (pe_callTy c_int (by rfl) T.z_int bo_int (pa_cons (pe_op op_mulW (pv 2) (pv 1)) pa_nil)) (pv 0)) pe_int (nomark _)))) (fun _ _ _ _ _ => by exact (pv 2))) pe_int (fun _ _ => rfl)))), fun as β r β' hR => ?_⟩)
  obtain ⟨p, a, rfl, ⟨hp, h0, h1, h2⟩, rfl, rfl, rfl⟩ := hR
  dsimp only [cxOf, Cx.nox, Cx.wish]
  have hs := hp.small
  obtain ⟨rest, hi⟩ := Num.inv_cons hp h0 h1 h2
  refine .ret (st_ret (d_ixL (ds := (Num.invs p a).map PyData.int) (i := 0) ?e1 d_int (by rw [hi]; exact at0 _ _)))
  refine d_lcR2 (lo := 1) (i := p) d_int (d_var rfl) (by omega) ?_ (by rw [List.length_map]; exact Nat.le_trans (List.length_filter_le _ _) (by unfold Num.upto; rw [List.length_map, List.length_range]; omega)) (wipe_ok (by decide))
  rw [rng_upto]
  refine lc_ints (fun o => decide (a * o % p = 1)) PyData.int (ns := Num.upto 1 (p - 1).toNat) (fun o ho => ?_) fun o ho hf => ?_
  · have ho' : 1 ≤ o ∧ o < p := by
      obtain ⟨i, hi, hj⟩ := List.mem_map.mp ho
      have := List.mem_range.mp hi
      omega
    have hw : CMulW o a := wide_mul (a := 10) (b := 10) (by omega) (by omega) (by decide) (by decide) (by decide)
    have hp0 : 0 < p := by omega
    rw [Int.mul_comm a o]
    exact t_test (d_eqI (d_mod (d_intI (d_mul (d_var rfl) (d_var rfl) hw)) (d_var rfl) hp0) d_int)
  · exact d_var rfl


abbrev s_law_normal : Stmt := top 53
theorem sc_law_normal : FnScope ["_law_prime", "_law_row", "_law_told", "_law_number_here", "_law_first", "_law_factor", "_law_common_here"] ["_law_prime", "_law_row"] (defScope s_law_normal) := ⟨rfl, rfl, rfl, by decide +kernel, rfl, by decide +kernel, by decide +kernel⟩
abbrev R_law_normal : FR := fun as β r β' => ∃ p d ns, as = [.imm (.int p), .imm d] ∧ (SeqD d (ns.map PyData.int) ∧ Num.PrimeI p ∧ ns.length ≤ 140 ∧ ∀ n ∈ ns, n.natAbs < 2 ^ 1000) ∧ r = tupI (Num.normalF p ns) ∧ β = none ∧ β' = none
theorem ok_law_normal {P : Program} {w : World} {K : PySem.W.Frag} {mg : Str → Option Value} {base : Heap} {Y : Cn} (F : DefAt K "_law_normal" s_law_normal) (hX : K.In base) (hG : base.Ns mainGlobals mg) (T : Txt K mg Y) (G_law_common : FnG P w K mg base 1 "_law_common" ["_law_numbers"] R_law_common) (G_law_low : FnG P w K mg base 1 "_law_low" ["_law_prime", "_law_number_here"] R_law_low) (G_law_back : FnG P w K mg base 1 "_law_back" ["_law_prime", "_law_number_here"] R_law_back) : FnG P w K mg base 2 "_law_normal" ["_law_prime", "_law_row"] R_law_normal := by
  have nd := sc_law_normal.nd
  refine fn_mk F hX hG sc_law_normal (fun as β r β' h => by first | exact FR.len h | (obtain ⟨_, rfl, _⟩ := h; rfl) | (obtain ⟨_, _, rfl, _⟩ := h; rfl) | (obtain ⟨_, _, _, rfl, _⟩ := h; rfl) | (obtain ⟨_, _, _, _, rfl, _⟩ := h; rfl) | (obtain ⟨_, _, _, _, _, rfl, _⟩ := h; rfl)) (fun _ _ _ _ _ _ _ us hl => match us, hl with | [_, _], _ => rfl) (fun f cdv A outer s H E hr => ⟨_, (pss_cons (ps_setLc (i := 2) (own := [("_law_number_here", 3)]) rfl nd rfl rfl (sw_true rfl rfl rfl (by decide +kernel)) (pi_seq (pv 1)) (blkOk_by (N := ["_law_prime", "_law_row", "_law_told", "_law_number_here", "_law_first", "_law_factor", "_law_common_here"]) (sc := defScope s_law_normal) (by decide +kernel)) (fun _ _ _ _ _ => by exact (pg_name (i := 3) nd rfl (Or.inl rfl))) (fun _ _ _ _ _ => by exact pts_nil) (fun _ _ _ _ _ => by exact (pe_fn G_law_low (hr.mono (by decide)) (pa_cons (pv 0) (pa_cons (pv 3) pa_nil))))) (pss_cons (ps_setLc (i := 4) (own := [("_law_number_here", 3)]) rfl nd rfl rfl (sw_true rfl rfl rfl (by decide +kernel)) (pi_list (pv 2)) (blkOk_by (N := ["_law_prime", "_law_row", "_law_told", "_law_number_here", "_law_first", "_law_factor", "_law_common_here"]) (sc := defScope s_law_normal) (by decide +kernel)) (fun _ _ _ _ _ => by exact (pg_name (i := 3) nd rfl (Or.inl rfl))) (fun _ _ _ _ _ => by exact (pts_one (pt_cmpR op_ne (pv 3) pe_int (nomark _)))) (fun _ _ _ _ _ => by exact (pv 3))) (pss_cons (ps_if (pt_cmpR (op_eqD hr.units) (pv 4) (pe_lst pa_nil) (nomark _)) (pss_one (ps_ret (pe_callTy c_tuple (by rfl) T.z_tuple bo_tuple (pa_cons (pv 2) pa_nil)))) pss_nil) (pss_cons (ps_if (pt_cmpR op_ne (pv 0) pe_int (nomark _)) (pss_cons (ps_set (i := 5) nd rfl (Or.inr rfl) (pe_fn G_law_back (hr.mono (by decide)) (pa_cons (pv 0) (pa_cons (pe_ix ix_list (pv 4) pe_int (fun _ _ => rfl)) pa_nil)))) (pss_one (ps_ret (pe_callTy c_tuple (by rfl) T.z_tuple bo_tuple (pa_cons (pe_lc (own := [("_law_number_here", 3)]) rfl nd (pi_list (pv 2)) (blkOk_by (N := ["_law_prime", "_law_row", "_law_told", "_law_number_here", "_law_first", "_law_factor", "_law_common_here"]) (sc := defScope s_law_normal) (by decide +kernel)) (fun _ _ _ _ _ => by exact (pg_name (i := 3) nd rfl (Or.inl rfl))) (fun _ _ _ _ _ => by exact pts_nil) (fun _ _ _ _ _ => by exact (pe_op op_mod (pe_callTy c_int (by rfl) T.z_int bo_int (pa_cons (pe_op op_mulW (pv 3) (pv 5)) pa_nil)) (pv 0)))) pa_nil))))) pss_nil) (pss_cons (ps_set (i := 6) nd rfl (Or.inr rfl) (pe_fn G_law_common (hr.mono (by decide)) (pa_cons (pv 2) pa_nil))) (pss_cons (ps_set (i := 6) nd rfl (Or.inr rfl) (pe_ifExp (pt_cmpR op_gt (pe_ix ix_list (pv 4) pe_int (fun _ _ => rfl)) pe_int (nomark _)) (pv 6) (pe_un un_neg (pv 6)))) (pss_one (ps_ret (pe_callTy c_tuple (by rfl) T.z_tuple bo_tuple (pa_cons (pe_lc (own := [("_law_number_here", 3)]) rfl nd (pi_list (pv 2)) (blkOk_by (N := ["_law_prime", "_law_row", "_law_told", "_law_number_here", "_law_first", "_law_factor", "_law_common_here"]) (sc := defScope s_law_normal) (by decide +kernel)) (fun _ _ _ _ _ => by exact (pg_name (i := 3) nd rfl (Or.inl rfl))) (fun _ _ _ _ _ => by exact pts_nil) (fun _ _ _ _ _ => by exact (pe_op op_fdivV (pv 3) (pv 6)))) pa_nil)))))))))), fun as β r β' hR => ?_⟩)
  obtain ⟨p, d, ns, rfl, ⟨hd, hp, hl, hz⟩, rfl, rfl, rfl⟩ := hR
  dsimp only [cxOf, Cx.nox, Cx.wish]
  have e1 : ∀ (ρ : Rho), ρ = startR ["_law_prime", "_law_row", "_law_told", "_law_number_here", "_law_first", "_law_factor", "_law_common_here"] [Slot.imm (PyData.int p), Slot.imm d] → EvB K (tLc (iSeq K (tVar 1)) (gName 3) tYes (tCall (spR K R_law_low) [] E0 (tCons (tVar 0) (tCons (tVar 3) tNil))) [3]) ρ none (lstI (ns.map (Num.settled p))) none := by
    rintro ρ rfl
    refine d_lcQ (d_var rfl) hd ?_ (by rw [List.length_map, List.length_map]; omega) (wipe_ok (by decide))
    rw [List.map_map]
    exact lc_ints' (fun n => .int (Num.settled p n)) fun n _ => c_f2 (d_var rfl) (d_var rfl) hp.small.1
  refine .ret (st_sq (st_asg (e1 _ rfl)) ?_)
  refine st_sq (st_asg (d := lstI ((ns.map (Num.settled p)).filter fun n => !decide (n = 0))) ?_) ?_
  · refine d_lcL (d_var rfl) ?_ (by rw [List.length_map]; exact Nat.le_trans (List.length_filter_le _ _) (by rw [List.length_map]; omega)) (wipe_ok (by decide))
    exact lc_ints (fun n => !decide (n = 0)) PyData.int (fun n _ => t_test (d_neI (d_var rfl) d_int)) fun n _ _ => d_var rfl
  by_cases h : Num.allZero (ns.map (Num.settled p)) = true
  · refine st_seqR (st_ifT ((t_test (d_eqLL (ns := []) (d_var rfl) (d_lst a_nil rfl (by decide)))).to (decide_eq_true (Num.allZero_filter.mpr h))) (st_ret ((d_tupleOf (d_var rfl)).to ?_)))
    unfold Num.normalF
    rw [if_pos h]
  · have hM := Num.told_ok hp hl hz (Bool.eq_false_iff.mpr h)
    have eN : Num.normalF p ns = Num.made p (ns.map (Num.settled p)) := if_neg h
    rw [eN]
    obtain ⟨rest, hf, hm, hn0⟩ := Num.first_cons hM.ex
    refine st_sq (st_ifF ((t_test (d_eqLL (ns := []) (d_var rfl) (d_lst a_nil rfl (by decide)))).to (decide_eq_false fun z => h (Num.allZero_filter.mp z))) st_next) ?_
    rw [hf]
    have hml := hM.len
    generalize ns.map (Num.settled p) = ts at *
    by_cases h0 : p = 0
    · subst h0
      have hg := Num.gcdL_pos hM.ex
      have hzz := Num.log_lt (Nat.lt_of_le_of_lt (Num.gcdL_le hm hn0) (hM.sz _ hm))
      refine st_sq (st_ifF ((t_test (d_neI (d_var rfl) d_int)).to rfl) st_next) (st_sq (st_asg (c_f1 (x := ts) (d_var rfl) trivial)) ?_)
      have sgn : ∃ g, (if Num.firstI ts < 0 then -(Num.gcdL 0 ts) else Num.gcdL 0 ts) = g ∧ CDivV 0 g ∧ ∀ (ρ : Rho), ρ[4]? = some (some (.imm (lstI (Num.firstI ts :: rest)))) → ρ[6]? = some (some (.imm (.int (Num.gcdL 0 ts)))) → EvB K (tIf (tTest (tOp (rI0 fun i j => .bl (decide (j < i))) (tOp (rIxL K) (tVar 4) (tC (.int 0))) (tC (.int 0)))) (tVar 6) (tUn (rU fun i => .int (-i)) (tVar 6))) ρ none (.int g) none := by
        by_cases h1 : Num.firstI ts < 0
        · refine ⟨_, if_pos h1, ⟨by omega, by rw [Int.natAbs_neg]; exact hzz⟩, fun ρ q4 q6 => ?_⟩
          exact d_ifF ((t_test (d_gt (d_ixL (d_var q4) d_int (at0 _ _)) d_int)).to (decide_eq_false (by omega))) (d_neg (d_var q6))
        · refine ⟨_, if_neg h1, ⟨by omega, hzz⟩, fun ρ q4 q6 => ?_⟩
          exact d_ifT ((t_test (d_gt (d_ixL (d_var q4) d_int (at0 _ _)) d_int)).to (decide_eq_true (by omega))) (d_var q6)
      obtain ⟨g, e2, hgd, e3⟩ := sgn
      rw [Num.made_zero, e2]
      refine st_sq (st_asg (e3 _ rfl rfl)) (st_ret (d_tupleOf (d_lcL (ds := ts.map PyData.int) (rs := (ts.map fun n => n.fdiv g).map PyData.int) (d_var rfl) ?_ (by rw [List.length_map, List.length_map]; omega) (wipe_ok (by decide)))))
      rw [List.map_map]
      exact lc_ints' (fun n => .int (n.fdiv g)) fun n _ => d_fdiv (d_var rfl) (d_var rfl) hgd
    · obtain ⟨f1, f2⟩ := hM.first h0
      obtain ⟨i1, i2, i3⟩ := Num.inv_lt hp h0 f1 f2
      have hs := hp.small
      refine st_seqR (st_ifT ((t_test (d_neI (d_var rfl) d_int)).to (by rw [decide_eq_false h0]; rfl)) ?_)
      refine st_sq (st_asg (c_f2 (d_var rfl) (d_ixL (d_var rfl) d_int (at0 _ _)) ⟨hp, h0, f1, f2⟩)) (st_ret ((d_tupleOf (d_lcL (ds := ts.map PyData.int) (rs := (ts.map fun n => n * Num.inv p (Num.firstI ts) % p).map PyData.int) (d_var rfl) ?_ (by rw [List.length_map, List.length_map]; omega) (wipe_ok (by decide)))).to ?_))
      · rw [List.map_map]
        refine lc_ints' (fun n => .int (n * Num.inv p (Num.firstI ts) % p)) fun n hn => ?_
        have hb := hM.lt h0 n hn
        have hw : CMulW n (Num.inv p (Num.firstI ts)) := wide_mul (a := 10) (b := 10) (by omega) (by omega) (by decide) (by decide) (by decide)
        have hp0 : 0 < p := by omega
        exact d_mod (d_intI (d_mul (d_var rfl) (d_var rfl) hw)) (d_var rfl) hp0
      · unfold Num.made
        rw [if_pos h0]


abbrev s_law_number : Stmt := top 54
theorem sc_law_number : FnScope ["_law_bag_here", "_law_prime", "_law_spread"] ["_law_bag_here", "_law_prime", "_law_spread"] (defScope s_law_number) := ⟨rfl, rfl, rfl, by decide +kernel, rfl, by decide +kernel, by decide +kernel⟩
abbrev R_law_number : FR := fD (fun q : Int × Int => [.imm (.int q.1), .imm (.int q.2)]) (fun q => Num.PrimeI q.1 ∧ 0 ≤ q.2 ∧ q.2 ≤ 2 ^ 40) fun q ns => (.int (Num.numberF q.1 q.2 ns).1, (Num.numberF q.1 q.2 ns).2)
theorem ok_law_number {P : Program} {w : World} {K : PySem.W.Frag} {mg : Str → Option Value} {base : Heap} {Y : Cn} (F : DefAt K "_law_number" s_law_number) (hX : K.In base) (hG : base.Ns mainGlobals mg) (T : Txt K mg Y) (G_law_grab : FnG P w K mg base 1 "_law_grab" ["_law_bag_here", "_law_total"] R_law_grab) : FnG P w K mg base 2 "_law_number" ["_law_bag_here", "_law_prime", "_law_spread"] R_law_number := by
  have nd := sc_law_number.nd
  refine fn_mk F hX hG sc_law_number (fun as β r β' h => by first | exact FR.len h | (obtain ⟨_, rfl, _⟩ := h; rfl) | (obtain ⟨_, _, rfl, _⟩ := h; rfl) | (obtain ⟨_, _, _, rfl, _⟩ := h; rfl) | (obtain ⟨_, _, _, _, rfl, _⟩ := h; rfl) | (obtain ⟨_, _, _, _, _, rfl, _⟩ := h; rfl)) (fun _ _ _ _ _ _ _ us hl => match us, hl with | [_, _, _], _ => rfl) (fun f cdv A outer s H E hr => ⟨_, (pss_one (ps_ret (pe_ifExp (pt_cmpR op_eq (pv 1) pe_int (nomark _)) (pe_op op_sub (pe_fn G_law_grab (hr.mono (by decide)) (pa_cons (pv 0) (pa_cons (pe_op op_add (pe_op op_mul pe_int (pv 2)) pe_int) pa_nil))) (pv 2)) (pe_fn G_law_grab (hr.mono (by decide)) (pa_cons (pv 0) (pa_cons (pv 1) pa_nil)))))), fun as β r β' hR => ?_⟩)
  obtain ⟨⟨p, s⟩, n, ns, rfl, ⟨hp, h1, h2⟩, hb, rfl, rfl, rfl⟩ := hR
  dsimp only [cxOf, Cx.nox, Cx.wish] at *
  by_cases h : p = 0
  · subst h
    exact .ret (st_ret (d_ifT ((t_test (d_eqI (d_var rfl) d_int)).to rfl) (d_sub (c_fD (x := 2 * s + 1) (a_bg rfl (a_con (d_add (d_mul d_int (d_var rfl) (.inl (by decide))) d_int) a_nil)) ⟨by omega, Nat.lt_of_lt_of_le (m := 2 ^ 50) (by omega) (Nat.pow_le_pow_right (by decide) (by decide))⟩ hb) (d_var rfl))))
  · have h3 := Num.prime_pos hp h
    have e : Num.numberF p s ns = Num.grabF p ns := if_neg h
    rw [e]
    exact .ret (st_ret (d_ifF ((t_test (d_eqI (d_var rfl) d_int)).to (decide_eq_false h)) (c_fD (x := p) (a_bg rfl (a_con (d_var rfl) a_nil)) ⟨by omega, Nat.lt_of_lt_of_le (m := 2 ^ 50) (by omega) (Nat.pow_le_pow_right (by decide) (by decide))⟩ hb)))


abbrev s_law_given : Stmt := top 58
theorem sc_law_given : FnScope ["_law_rows", "_law_row"] ["_law_rows"] (defScope s_law_given) := ⟨rfl, rfl, rfl, by decide +kernel, rfl, by decide +kernel, by decide +kernel⟩
abbrev R_law_given : FR := fun as β r β' => ∃ rows : List (List Int), as = [.imm (.list (rows.map lstI))] ∧ (rows.length ≤ 140 ∧ ∀ x ∈ rows, x.length ≤ 140) ∧ r = .tuple (rows.map tupI) ∧ β = none ∧ β' = none
theorem ok_law_given {P : Program} {w : World} {K : PySem.W.Frag} {mg : Str → Option Value} {base : Heap} {Y : Cn} (F : DefAt K "_law_given" s_law_given) (hX : K.In base) (hG : base.Ns mainGlobals mg) (T : Txt K mg Y)  : FnG P w K mg base 1 "_law_given" ["_law_rows"] R_law_given := by
  have nd := sc_law_given.nd
  refine fn_mk F hX hG sc_law_given (fun as β r β' h => by first | exact FR.len h | (obtain ⟨_, rfl, _⟩ := h; rfl) | (obtain ⟨_, _, rfl, _⟩ := h; rfl) | (obtain ⟨_, _, _, rfl, _⟩ := h; rfl) | (obtain ⟨_, _, _, _, rfl, _⟩ := h; rfl) | (obtain ⟨_, _, _, _, _, rfl, _⟩ := h; rfl)) (fun _ _ _ _ _ _ _ us hl => match us, hl with | [_], _ => rfl) (fun f cdv A outer s H E hr => ⟨_, (pss_one (ps_ret (pe_callTy c_tuple (by rfl) T.z_tuple bo_tuple (pa_cons (pe_lc (own := [("_law_row", 1)]) rfl nd (pi_list (pv 0)) (blkOk_by (N := ["_law_rows", "_law_row"]) (sc := defScope s_law_given) (by decide +kernel)) (fun _ _ _ _ _ => by exact (pg_name (i := 1) nd rfl (Or.inl rfl))) (fun _ _ _ _ _ => by exact pts_nil) (fun _ _ _ _ _ => by exact (pe_callTy (c_ofK (K := K) (r := rTupleOf) c_tuple) (by rfl) T.z_tuple bo_tuple (pa_cons (pv 1) pa_nil)))) pa_nil)))), fun as β r β' hR => ?_⟩)
  obtain ⟨rows, rfl, ⟨hl, hr⟩, rfl, rfl, rfl⟩ := hR
  dsimp only [cxOf, Cx.nox, Cx.wish]
  refine .ret (st_ret (d_tupleOf (d_lcL (ds := rows.map lstI) (rs := rows.map tupI) (d_var rfl) ?_ (by rw [List.length_map]; omega) (wipe_ok (by decide)))))
  exact lc_map lstI tupI rows fun x hx => d_tupleOf (d_var rfl)

end K03
/-! ## TdO -/
set_option Elab.async false
set_option linter.all false
set_option maxRecDepth 100000
set_option maxHeartbeats 4100000
/-! An object of one's own, a list or a dict, in a slot: statements that change it, loops in which it changes, parts that read it. -/
namespace TD
open PySem L2 PySem.Spec PyProof.Rows
open Evl (Ex ex_l ex_t fresh_back sq_of st_of sz_of sz_lt)
section
variable {X : Cx} {K : PySem.W.Frag}
theorem ix_ofK {r : PySem.W.Frag → R2} (h : IxR X (r X.K)) (hK : X.K = K := by rfl) : IxR X (r K) := hK ▸ h
theorem pi_listK {tg l : Expr} {tl : TE} (hl : PE X l tl) (hK : X.K = K := by rfl) : PI X tg l (iList K tl) := hK ▸ pi_list hl
theorem pi_tupK {tg l : Expr} {tl : TE} (hl : PE X l tl) (hK : X.K = K := by rfl) : PI X tg l (iTup K tl) := hK ▸ pi_tup hl
theorem pi_seqK {tg l : Expr} {tl : TE} (hl : PE X l tl) (hK : X.K = K := by rfl) : PI X tg l (iSeq K tl) := hK ▸ pi_seq hl
theorem pe_revTK {e : Expr} {te : TE} {k : Nat} {p1 p2 p3 pos : Pos} (he : PE X e te) (hK : X.K = K := by rfl) : PE X (.Subscript e (.Slice none none (some (.UnaryOp .USub (.Constant (.int 1) k p1) p2)) p3) pos) (tRevT K te) := hK ▸ pe_revT he
theorem pi_zipK {e e2 : Expr} {ta : TA} {p pos tpos : Pos} {elts : List Expr} {kk : Nat} (hg : Gl X "zip") (hm : X.mg "zip" = none) (ha : PA X [e, e2] ta) (hK : X.K = K := by rfl)
    (hs : starEach [e, e2] X.env = (false, eval e X.env) :: starEach [e2] X.env := by rfl) (hpl : (backTo pos (starEach [e2] X.env)).any (·.1) = false := by rfl) : PI X (.Tuple elts kk tpos) (.Call (.Name "zip" p) [e, e2] [] pos) (RZ.iZipA K ta) := hK ▸ RZ.pi_zipA hg hm ha hs hpl
end
/-- a dict from ints -/
abbrev dctD (ps : List (Dt × Dt)) : Dt := .dict ((.none, .none) :: ps)
abbrev keysO (kvs : List (Int × V)) : List (Key × V) := kvs.map fun q => (Sum.inl q.1, q.2)
def MuAt (H : Hp) (p : Addr) : Prop := ∀ o, H p = some o → (∃ xs, o = HO.lst xs) ∨ ∃ kvs, o = HO.dK kvs
theorem MuAt.none {H : Hp} {p : Addr} (h : H p = none) : MuAt H p := fun o e => by rw [h] at e; cases e
theorem MuAt.lst {H : Hp} {p : Addr} {xs : List V} (h : H p = some (.lst xs)) : MuAt H p := fun o e => by rw [h] at e; cases e; exact .inl ⟨xs, rfl⟩
theorem MuAt.dK {H : Hp} {p : Addr} {xs : List (Key × V)} (h : H p = some (.dK xs)) : MuAt H p := fun o e => by rw [h] at e; cases e; exact .inr ⟨xs, rfl⟩
theorem tab_updM {p P : Addr} {q : Str} {ob : HO} {H : Hp} (h : LamX.TabS H P q) (hl : MuAt H p) : LamX.TabS (upd H p ob) P q := by
  obtain ⟨ps, h1, h2, h3⟩ := h
  refine ⟨ps, ?_, h2, fun pos cv hc => ?_⟩
  · rw [upd_ne fun z => ?_]
    · exact h1
    · rw [← z] at hl
      rcases hl _ h1 with ⟨_, e⟩ | ⟨_, e⟩ <;> cases e
  · obtain ⟨c, e1, e2⟩ := h3 pos cv hc
    refine ⟨c, e1, ?_⟩
    rw [upd_ne fun z => ?_]
    · exact e2
    · rw [← z] at hl
      rcases hl _ e2 with ⟨_, e⟩ | ⟨_, e⟩ <;> (unfold LamX.CodeO at e; cases e)
/-- what a thing of one's own holds -/
inductive Held (K : PySem.W.Frag) (G : Hp) : HO → Dt → Prop
  | lst {ws : List V} {ds : List Dt} : DenL K G ws ds → Held K G (.lst ws) (.list ds)
  | dct {kvs : List (Int × V)} {ps : List (Dt × Dt)} : DenP K G kvs ps → Held K G (.dK (keysO kvs)) (dctD ps)
section
variable {K : PySem.W.Frag} {G G' H : Hp} {o : HO} {d : Dt} {p : Addr}
theorem Held.mono (h : Held K G o d) (e : Ex G G') : Held K G' o d := by
  cases h with
  | lst h => exact .lst (h.mono e)
  | dct h => exact .dct (h.mono e)
theorem Held.nt (h : Held K G o d) : NoT o := by
  cases h with
  | lst h => exact fun _ z => nomatch z
  | dct h => exact fun _ z => nomatch z
theorem Held.mu (h : Held K G o d) (e : H p = some o) : MuAt H p := by
  cases h with
  | lst h => exact MuAt.lst e
  | dct h => exact MuAt.dK e
theorem Held.den (h : Held K G o d) (e : G p = some o) : Den K G (.ref p) d := by
  cases h with
  | lst h => exact .lst e h
  | dct h => exact .dcI e h
end
/-! ### data that can't lead to it -/
def kdD : Dt → Nat
  | .none => 0
  | .bool _ => 1
  | .int _ => 2
  | .str _ => 3
  | _ => 4
def kdV : V → Nat
  | .non => 0
  | .bl _ => 1
  | .int _ => 2
  | .str _ => 3
  | _ => 4
def clash : Dt → List Dt → Bool
  | .list ds, es => (ds.map kdD != es.map kdD)
  | _, _ => true
mutual
def apart (d : Dt) : Dt → Bool
  | .list es => clash d es && apartL d es
  | .tuple es => apartL d es
  | .dict _ => false
  | _ => true
def apartL (d : Dt) : List Dt → Bool
  | [] => true
  | e :: es => apart d e && apartL d es
end
section
variable {K : PySem.W.Frag} {G G2 Gd : Hp} {o : HO} {d : Dt} {p : Addr}
theorem Den.kd {v : V} {x : Dt} (h : Den K G v x) : kdD x = kdV v := by
  cases h <;> rfl
theorem DenL.kd : ∀ {vs : List V} {ds : List Dt}, DenL K G vs ds → ds.map kdD = vs.map kdV
  | [], [], _ => rfl
  | [], _ :: _, h => nomatch h
  | _ :: _, [], h => nomatch h
  | v :: vs, x :: ds, .cons h1 h2 => by rw [List.map_cons, List.map_cons, h1.kd, h2.kd]
mutual
theorem Den.off (h : Held K G o d) (hp : G2 p = some o) (hd : ∀ x, x ≠ p → Gd x = G2 x) : ∀ {x : Dt} {v : V}, Den K G2 v x → apart d x = true → Den K Gd v x
  | .none, _, e, _ => by cases e; exact .non
  | .bool c, _, e, _ => by cases e; exact .bl c
  | .int i, _, e, _ => by cases e; exact .int i
  | .str s, _, e, _ => by cases e; exact .str s
  | .list es, _, e, f => by
    unfold apart at f
    rw [Bool.and_eq_true] at f
    cases e with
    | @lst a xs _ hs hx =>
      have ne : a ≠ p := fun z => by
        rw [z, hp] at hs
        cases hs
        cases h with
        | lst h =>
          have e1 := h.kd
          have e2 := hx.kd
          have f1 := f.1
          rw [show clash (.list _) es = (_ != es.map kdD) from rfl, e1, e2] at f1
          exact absurd f1 (by simp)
      exact .lst (by rw [hd a ne]; exact hs) (DenL.off h hp hd hx f.2)
  | .tuple es, _, e, f => by
    unfold apart at f
    cases e with
    | @tup a xs _ hs hx =>
      refine .tup ?_ (DenL.off h hp hd hx f)
      rcases hs with hs | hs
      · refine .inl ?_
        have ne : ∀ u, G2 a = some u → (∀ ws, u ≠ .lst ws) → (∀ ks, u ≠ .dK ks) → a ≠ p := fun u e1 n1 n2 z => by
          rw [z, hp] at e1
          cases e1
          cases h with
          | lst h => exact n1 _ rfl
          | dct h => exact n2 _ rfl
        rcases hs with h1 | ⟨ob, h1⟩
        · exact .inl (by rw [hd a (ne _ h1 (fun _ z => nomatch z) (fun _ z => nomatch z))]; exact h1)
        · exact .inr ⟨ob, by rw [hd a (ne _ h1 (fun _ z => nomatch z) (fun _ z => nomatch z))]; exact h1⟩
      · exact .inr hs
  | .dict _, _, e, f => by unfold apart at f; cases f
theorem DenL.off (h : Held K G o d) (hp : G2 p = some o) (hd : ∀ x, x ≠ p → Gd x = G2 x) : ∀ {es : List Dt} {vs : List V}, DenL K G2 vs es → apartL d es = true → DenL K Gd vs es
  | [], _, e, _ => by cases e; exact .nil
  | x :: es, _, e, f => by
    unfold apartL at f
    rw [Bool.and_eq_true] at f
    cases e with
    | cons e1 e2 => exact .cons (Den.off h hp hd e1 f.1) (DenL.off h hp hd e2 f.2)
end
end
/-- slot i holds a thing at p that nothing else knows -/
structure OwnW [TabW] (K : PySem.W.Frag) (b : Addr) (β : Bag) (i : Nat) (p : Addr) (G H : Hp) (σ : L2.St) (ρ : Rho) (d : Dt) : Prop where
  env : EnvD K b β G H σ ρ
  slot : ρ[i]? = some none
  at_ : σ[i]? = some (some (.ref p))
  free : G p = none
  nb : β.isSome = true → p ≠ b
  val : ∃ o, H p = some o ∧ Held K G o d
def OutW [TabW] (K : PySem.W.Frag) (b : Addr) (m : Bool) (β' : Bag) (i : Nat) (p : Addr) (d' : Dt) (G H : Hp) (D : Ends) : Out → Prop
  | .nx ρ' => ∀ σ' G' H', Step b m G H G' H' → OwnW K b β' i p G' H' σ' ρ' d' → D.nx σ' H'
  | .brk ρ' => ∀ σ' G' H', Step b m G H G' H' → OwnW K b β' i p G' H' σ' ρ' d' → D.bk σ' H'
  | .ct ρ' => ∀ σ' G' H', Step b m G H G' H' → OwnW K b β' i p G' H' σ' ρ' d' → D.ct σ' H'
  | .ret x => ∀ v G' H', Step b m G H G' H' → BagOk b β' G' H' → Den K G' v x → D.rt v H'
/-- a statement; d' is held behind it -/
structure StW [TabW] (K : PySem.W.Frag) (i : Nat) (ts : TS) (ρ : Rho) (β : Bag) (d : Dt) (o : Out) (β' : Bag) (d' : Dt) : Prop where
  som : β'.isSome = β.isSome
  run : ∀ (b : Addr) (G0 H0 G H : Hp) (σ : L2.St) (p : Addr) (D : Ends), Gone H0 p → Step b β.isSome G0 H0 G H → OwnW K b β i p G H σ ρ d → OutW K b β.isSome β' i p d' G0 H0 D o → ts D σ H
/-- to the end: it is let go -/
structure StP [TabW] (K : PySem.W.Frag) (i : Nat) (ts : TS) (ρ : Rho) (β : Bag) (d : Dt) (o : Out) (β' : Bag) : Prop where
  som : β'.isSome = β.isSome
  run : ∀ (b : Addr) (G0 H0 G H : Hp) (σ : L2.St) (p : Addr) (D : Ends), Gone H0 p → Step b β.isSome G0 H0 G H → OwnW K b β i p G H σ ρ d → OutOk K b β.isSome β' G0 H0 D o → ts D σ H
/-- a part that may read it -/
structure EvW [TabW] (K : PySem.W.Frag) (i : Nat) (te : TE) (ρ : Rho) (β : Bag) (d x : Dt) (β' : Bag) : Prop where
  som : β'.isSome = β.isSome
  run : ∀ (b : Addr) (G H : Hp) (σ : L2.St) (p : Addr) (Q : VK), OwnW K b β i p G H σ ρ d → (∀ v G' H', Step b β.isSome G H G' H' → OwnW K b β' i p G' H' σ ρ d → Den K G' v x → Q v H') → te σ H Q
structure TtW [TabW] (K : PySem.W.Frag) (i : Nat) (tt : TT) (ρ : Rho) (β : Bag) (d : Dt) (c : Bool) (β' : Bag) : Prop where
  som : β'.isSome = β.isSome
  run : ∀ (b : Addr) (G H : Hp) (σ : L2.St) (p : Addr) (Q : Bool → Hp → Prop), OwnW K b β i p G H σ ρ d → (∀ G' H', Step b β.isSome G H G' H' → OwnW K b β' i p G' H' σ ρ d → Q c H') → tt σ H Q
section
variable [TabW] {K : PySem.W.Frag} {b : Addr} {ρ ρ1 ρ2 : Rho} {β β1 β2 β3 : Bag} {ta : TA} {te : TE} {tt : TT} {ts tu tv tw : TS} {d d1 d2 x : Dt} {ds : List Dt} {o : Out} {c : Bool} {i j : Nat} {G H G0 H0 G1 H1 G2 H2 : Hp} {σ : L2.St} {p : Addr}
theorem Step.mutM {m : Bool} {ob : HO} (s : Step b m G1 H1 G H) (h1 : Gone H1 p) (h2 : G p = none) (hl : MuAt H p) : Step b m G1 H1 G (upd H p ob) := by
  refine ⟨s.g, s.s.mut h2, s.fresh, fun a u n t h => ?_, fun a u t h => ?_, fun h => ⟨fun P q w => tab_updM ((s.tabs h).tab P q w) hl, (s.tabs h).free⟩⟩
  · rw [upd_ne (h1.ne t h)]
    exact s.keep a u n t h
  · rw [upd_ne (h1.ne t h)]
    exact s.stay a u t h
theorem EnvD.mutM {ob : HO} (E : EnvD K b β G H σ ρ) (h2 : G p = none) (nb : β.isSome = true → p ≠ b) (hl : MuAt H p) : EnvD K b β G (upd H p ob) σ ρ := ⟨E.sub.mut h2, E.bagk.mut nb, E.len, E.imm, E.bagv, ⟨fun P q w => tab_updM (E.tabs.tab P q w) hl, E.tabs.free⟩, E.fnv⟩
/-- it stays while other things are done -/
theorem OwnW.step (w : OwnW K b β i p G H σ ρ d) (s : Step b β.isSome G H G1 H1) (hb : BagOk b β1 G1 H1) (hm : β1.isSome = β.isSome) : OwnW K b β1 i p G1 H1 σ ρ d := by
  obtain ⟨o, hp, h⟩ := w.val
  exact ⟨w.env.step s hb, w.slot, w.at_, s.fresh p _ w.free h.nt hp, fun z => w.nb (hm ▸ z), o, s.keep p _ w.nb h.nt hp, h.mono s.g⟩
theorem OwnW.setJ {v : V} (w : OwnW K b β i p G H σ ρ d) (hij : i ≠ j) (h : Den K G v x) : OwnW K b β i p G H (σ.set j (some v)) (ρ.set j (some (.imm x))) d :=
  ⟨w.env.set h, by rw [List.getElem?_set_ne (Ne.symm hij)]; exact w.slot, by rw [List.getElem?_set_ne (Ne.symm hij)]; exact w.at_, w.free, w.nb, w.val⟩
theorem OwnW.backJ {y : Option Slot} (w : OwnW K b β i p G H σ (ρ.set j y) d) (hij : i ≠ j) (hj : ρ[j]? = some none) : OwnW K b β i p G H σ ρ d := by
  have hs := w.slot
  rw [List.getElem?_set_ne (Ne.symm hij)] at hs
  exact ⟨w.env.back hj, hs, w.at_, w.free, w.nb, w.val⟩
/-- it is changed -/
theorem OwnW.put {ob : HO} (w : OwnW K b β i p G H σ ρ d) (h : Held K G ob d1) : OwnW K b β i p G (upd H p ob) σ ρ d1 := by
  obtain ⟨o, hp, h0⟩ := w.val
  exact ⟨w.env.mutM w.free w.nb (h0.mu hp), w.slot, w.at_, w.free, w.nb, ob, upd_same, h⟩
theorem OwnW.mu (w : OwnW K b β i p G H σ ρ d) : MuAt H p := by
  obtain ⟨o, hp, h0⟩ := w.val
  exact h0.mu hp
/-- its slot, told as an address -/
theorem OwnW.asFn (w : OwnW K b β i p G H σ ρ d) : EnvD K b β G H σ (ρ.set i (some (.fn p))) := by
  have E := w.env.setFn (i := i) (f := p)
  have e : σ.set i (some (.ref p)) = σ := by
    apply List.ext_getElem?
    intro n
    by_cases q : i = n
    · subst q
      rw [List.getElem?_set_self (List.getElem?_eq_some_iff.mp w.at_).1, w.at_]
    · rw [List.getElem?_set_ne q]
  rw [e] at E
  exact E
theorem OwnW.il (w : OwnW K b β i p G H σ ρ d) : i < ρ.length := (List.getElem?_eq_some_iff.mp w.slot).1
theorem EnvD.slotFn {ρ : Rho} (hi : i < ρ.length) (E : EnvD K b β G H σ (ρ.set i (some (.fn p)))) : σ[i]? = some (some (.ref p)) := E.fnv i p (List.getElem?_set_self hi)
theorem EnvD.unFn {ρ : Rho} (hi : ρ[i]? = some none) (E : EnvD K b β G H σ (ρ.set i (some (.fn p)))) : EnvD K b β G H σ ρ := E.back hi
/-- seen as data -/
theorem OwnW.frozen (w : OwnW K b β i p G H σ ρ d) : ∃ o, H p = some o ∧ Held K G o d ∧ EnvD K b β (upd G p o) H σ (ρ.set i (some (.imm d))) := by
  obtain ⟨o, hp, h⟩ := w.val
  have ex : Ex G (upd G p o) := Ex.new w.free
  have E := w.env
  have E2 : EnvD K b β (upd G p o) H σ ρ := by
    refine ⟨fun a u z => ?_, fun ns e => ⟨(E.bagk ns e).1, ?_⟩, E.len, fun i d q => ?_, E.bagv, ⟨E.tabs.tab, fun x ps z => ?_⟩, E.fnv⟩
    · by_cases q : a = p
      · rw [q, upd_same] at z
        cases z
        rw [q]
        exact hp
      · rw [upd_ne q] at z
        exact E.sub a u z
    · rw [upd_ne (Ne.symm (w.nb (by rw [e]; rfl)))]
      exact (E.bagk ns e).2
    · obtain ⟨v, h1, h2⟩ := E.imm i d q
      exact ⟨v, h1, h2.mono ex⟩
    · by_cases q : x = p
      · rw [q, upd_same] at z; exact h.nt ps (Option.some.inj z)
      · rw [upd_ne q] at z; exact E.tabs.free x ps z
  have E3 := E2.set (i := i) (v := .ref p) (d := d) ((h.mono ex).den upd_same)
  have e : σ.set i (some (.ref p)) = σ := by
    apply List.ext_getElem?
    intro n
    by_cases q : i = n
    · subst q
      rw [List.getElem?_set_self (List.getElem?_eq_some_iff.mp w.at_).1, w.at_]
    · rw [List.getElem?_set_ne q]
  rw [e] at E3
  exact ⟨o, hp, h, E3⟩
/-- and one's own again -/
theorem OwnW.thaw {u : HO} (w : OwnW K b β i p G H σ ρ d) (hp : H p = some u) (h : Held K G u d) (s2 : Step b β.isSome (upd G p u) H G2 H2) (k2 : BagOk b β1 G2 H2) (hm : β1.isSome = β.isSome) (tb : TabsOk (upd G p u) H) :
    ∃ Gd, Step b β.isSome G H Gd H2 ∧ OwnW K b β1 i p Gd H2 σ ρ d ∧ G2 p = some u ∧ ∀ x, x ≠ p → Gd x = G2 x := by
  obtain ⟨Gd, hGd⟩ : ∃ Gd : Hp, Gd = fun x => if x = p then none else G2 x := ⟨_, rfl⟩
  have gd_p : Gd p = none := by rw [hGd]; exact if_pos rfl
  have gd_ne : ∀ {x}, x ≠ p → Gd x = G2 x := fun hx => by rw [hGd]; exact if_neg hx
  have sd : Step b β.isSome G H Gd H2 := by
    refine ⟨fun x u hx => ?_, fun x u hx => ?_, fun x u hx t hu => ?_, s2.keep, s2.stay, fun t => ?_⟩
    · have hne : x ≠ p := fun z => by rw [z, w.free] at hx; cases hx
      rw [gd_ne hne]
      exact s2.g x u (by rw [upd_ne hne]; exact hx)
    · by_cases hne : x = p
      · rw [hne, gd_p] at hx; cases hx
      · rw [gd_ne hne] at hx; exact s2.s x u hx
    · by_cases hne : x = p
      · rw [hne]; exact gd_p
      · rw [gd_ne hne]
        exact s2.fresh x u (by rw [upd_ne hne]; exact hx) t hu
    · have t2 := s2.tabs tb
      refine ⟨t2.tab, fun x ps hx => ?_⟩
      by_cases hne : x = p
      · rw [hne, gd_p] at hx; cases hx
      · rw [gd_ne hne] at hx; exact t2.free x ps hx
  have kd : BagOk b β1 Gd H2 := fun ns e => ⟨(k2 ns e).1, by
    by_cases hne : b = p
    · rw [hne]; exact gd_p
    · rw [gd_ne hne]; exact (k2 ns e).2⟩
  exact ⟨Gd, sd, w.step sd kd hm, s2.g p u upd_same, fun x hx => gd_ne hx⟩
/-! ### parts -/
theorem ew_plain (h : ∀ p, EvB K te (ρ.set i (some (.fn p))) β x β1) : EvW K i te ρ β d x β1 := ⟨(h 0).som, fun b G H σ p Q w k => (h p).run b G H σ Q w.asFn fun v G1 H1 s1 k1 d1 => k v G1 H1 s1 (w.step s1 k1 (h 0).som) d1⟩
theorem ew_frz (h : EvB K te (ρ.set i (some (.imm d))) β x β1) (ha : apart d x = true) : EvW K i te ρ β d x β1 := ⟨h.som, fun b G H σ p Q w k => by
  obtain ⟨u, hp, hu, E⟩ := w.frozen
  refine h.run b _ H σ Q E fun v G1 H1 s1 k1 d1 => ?_
  obtain ⟨Gd, sd, wd, hq, hn⟩ := w.thaw hp hu s1 k1 h.som E.tabs
  exact k v Gd H1 sd wd (Den.off hu hq hn d1 ha)⟩
theorem tw_frz (h : TtB K tt (ρ.set i (some (.imm d))) β c β1) : TtW K i tt ρ β d c β1 := ⟨h.som, fun b G H σ p Q w k => by
  obtain ⟨u, hp, hu, E⟩ := w.frozen
  refine h.run b _ H σ Q E fun G1 H1 s1 k1 => ?_
  obtain ⟨Gd, sd, wd, hq, hn⟩ := w.thaw hp hu s1 k1 h.som E.tabs
  exact k Gd H1 sd wd⟩
theorem tw_plain (h : ∀ p, TtB K tt (ρ.set i (some (.fn p))) β c β1) : TtW K i tt ρ β d c β1 := ⟨(h 0).som, fun b G H σ p Q w k => (h p).run b G H σ Q w.asFn fun G1 H1 s1 k1 => k G1 H1 s1 (w.step s1 k1 (h 0).som)⟩
/-! ### statements -/
theorem OutW.of {m : Bool} (h : OutW K b m β1 i p d1 G H D o) (s : Step b m G H G1 H1) : OutW K b m β1 i p d1 G1 H1 D o := by
  cases o with
  | nx r => exact fun σ' G' H' s' e => h σ' G' H' (s.trans s') e
  | brk r => exact fun σ' G' H' s' e => h σ' G' H' (s.trans s') e
  | ct r => exact fun σ' G' H' s' e => h σ' G' H' (s.trans s') e
  | ret d => exact fun v G' H' s' e dv => h v G' H' (s.trans s') e dv
theorem sw_asg (hij : i ≠ j) (h : EvW K i te ρ β d x β1) : StW K i (tAsg te (gName j)) ρ β d (.nx (ρ.set j (some (.imm x)))) β1 d := ⟨h.som, fun b G0 H0 G H σ p D gn s w k => h.run b G H σ p _ w fun v G1 H1 s1 w1 dv =>
  k _ G1 H1 (s.trans s1) (w1.setJ hij dv)⟩
theorem sw_next : StW K i tNext ρ β d (.nx ρ) β d := ⟨rfl, fun b G0 H0 G H σ p D gn s w k => k σ G H s w⟩
theorem sw_break : StW K i tBreak ρ β d (.brk ρ) β d := ⟨rfl, fun b G0 H0 G H σ p D gn s w k => k σ G H s w⟩
theorem sw_cont : StW K i tCont ρ β d (.ct ρ) β d := ⟨rfl, fun b G0 H0 G H σ p D gn s w k => k σ G H s w⟩
theorem sw_ret (h : EvW K i te ρ β d x β1) : StW K i (tRet te) ρ β d (.ret x) β1 d1 := ⟨h.som, fun b G0 H0 G H σ p D gn s w k => h.run b G H σ p _ w fun v G1 H1 s1 w1 dv => k v G1 H1 (s.trans s1) w1.env.bagk dv⟩
theorem sw_seq (h : StW K i tu ρ β d (.nx ρ1) β1 d1) (h' : StW K i tw ρ1 β1 d1 o β2 d2) : StW K i (tSeq tu tw) ρ β d o β2 d2 := ⟨h'.som.trans h.som, fun b G0 H0 G H σ p D gn s w k => h.run b G0 H0 G H σ p { D with nx := tw D } gn s w fun σ1 G1 H1 s1 w1 =>
  h'.run b G0 H0 G1 H1 σ1 p D gn (by rw [h.som]; exact s1) w1 (by rw [h.som]; exact k)⟩
theorem sw_seqR (h : StW K i tu ρ β d (.ret x) β1 d1) : StW K i (tSeq tu tw) ρ β d (.ret x) β1 d1 := ⟨h.som, fun b G0 H0 G H σ p D gn s w k => h.run b G0 H0 G H σ p { D with nx := tw D } gn s w k⟩
theorem sw_seqB (h : StW K i tu ρ β d (.brk ρ1) β1 d1) : StW K i (tSeq tu tw) ρ β d (.brk ρ1) β1 d1 := ⟨h.som, fun b G0 H0 G H σ p D gn s w k => h.run b G0 H0 G H σ p { D with nx := tw D } gn s w k⟩
theorem sw_seqC (h : StW K i tu ρ β d (.ct ρ1) β1 d1) : StW K i (tSeq tu tw) ρ β d (.ct ρ1) β1 d1 := ⟨h.som, fun b G0 H0 G H σ p D gn s w k => h.run b G0 H0 G H σ p { D with nx := tw D } gn s w k⟩
theorem sw_if (h : TtW K i tt ρ β d c β1) (h1 : c = true → StW K i tu ρ β1 d o β2 d2) (h2 : c = false → StW K i tv ρ β1 d o β2 d2) : StW K i (tIfS tt tu tv) ρ β d o β2 d2 := by
  have m : β2.isSome = β1.isSome := by
    cases c with
    | true => exact (h1 rfl).som
    | false => exact (h2 rfl).som
  refine ⟨m.trans h.som, fun b G0 H0 G H σ p D gn s w k => h.run b G H σ p _ w fun G1 H1 s1 w1 => ?_⟩
  cases c with
  | true =>
    rw [if_pos rfl]
    exact (h1 rfl).run b G0 H0 G1 H1 σ p D gn (by rw [h.som]; exact s.trans s1) w1 (by rw [h.som]; exact k)
  | false =>
    rw [if_neg (by decide)]
    exact (h2 rfl).run b G0 H0 G1 H1 σ p D gn (by rw [h.som]; exact s.trans s1) w1 (by rw [h.som]; exact k)
theorem sw_ifT (h : TtW K i tt ρ β d true β1) (h1 : StW K i tu ρ β1 d o β2 d2) : StW K i (tIfS tt tu tv) ρ β d o β2 d2 := sw_if h (fun _ => h1) fun z => by cases z
theorem sw_ifF (h : TtW K i tt ρ β d false β1) (h1 : StW K i tv ρ β1 d o β2 d2) : StW K i (tIfS tt tu tv) ρ β d o β2 d2 := sw_if h (fun z => by cases z) fun _ => h1
/-- a statement that leaves it alone -/
theorem sw_plain (hi : ρ1[i]? = some none) (h : ∀ p, StB K ts (ρ.set i (some (.fn p))) β (.nx (ρ1.set i (some (.fn p)))) β1) : StW K i ts ρ β d (.nx ρ1) β1 d := ⟨(h 0).som, fun b G0 H0 G H σ p D gn s w k => (h p).run b G H σ D w.asFn fun σ' G1 H1 s1 E1 => by
  obtain ⟨u, hp, hu⟩ := w.val
  exact k σ' G1 H1 (s.trans s1) ⟨E1.unFn hi, hi, E1.slotFn (List.getElem?_eq_some_iff.mp hi).1, s1.fresh p _ w.free hu.nt hp, fun z => w.nb ((h 0).som ▸ z), u, s1.keep p _ w.nb hu.nt hp, hu.mono s1.g⟩⟩
theorem sw_to (h : StW K i ts ρ β d o β1 d1) (e : d1 = d2) : StW K i ts ρ β d o β1 d2 := e ▸ h
/-! ### it is changed -/
theorem sw_app (h : EvB K te ρ β x β1) (hz : ds.length ≤ 50000) : StW K i (tDrop (tBM K "list" rAppend (tVar i) (tCons te tNil))) ρ β (.list ds) (.nx ρ) β1 (.list (ds ++ [x])) := by
  refine ⟨h.som, fun b G0 H0 G H σ p D gn s w k => ?_⟩
  obtain ⟨u, hp, hu⟩ := w.val
  cases hu with
  | @lst ws _ hd =>
    refine ⟨_, w.at_, .inl ⟨rfl, ws, sq_of hp⟩, ?_⟩
    refine h.run b G H σ _ w.env fun y G1 H1 s1 k1 d1 => ?_
    have w1 := w.step s1 k1 h.som
    have hp1 : H1 p = some (.lst ws) := s1.keep p _ w.nb NoT.lst hp
    have hl := hd.length
    refine ⟨p, ws, y, rfl, rfl, hp1, sz_lt (by omega), ?_⟩
    exact k σ G1 _ ((s.trans s1).mutM gn w1.free w1.mu) (w1.put (.lst ((hd.mono s1.g).append (.cons d1 .nil))))
/-- xs[k] = e -/
theorem sw_set {tk : TE} {k : Int} {n : Nat} (h : EvW K i te ρ β (.list ds) x β1) (hk : EvW K i tk ρ β1 (.list ds) (.int k) β2) (hn : ixN ds.length k = some n) : StW K i (tAsg te (gSub (tVar i) tk rSetL)) ρ β (.list ds) (.nx ρ) β2 (.list (ds.set n x)) := by
  refine ⟨hk.som.trans h.som, fun b G0 H0 G H σ p D gn s w q => ?_⟩
  refine h.run b G H σ p _ w fun y G1 H1 s1 w1 d1 => ?_
  refine ⟨_, w1.at_, ?_⟩
  refine hk.run b G1 H1 σ p _ w1 fun z G2 H2 s2 w2 d2 => ?_
  cases d2
  obtain ⟨u, hp, hu⟩ := w2.val
  cases hu with
  | @lst ws _ hd =>
    refine ⟨p, ws, k, n, rfl, rfl, hp, by rw [hd.length]; exact hn, ?_⟩
    rw [h.som] at s2
    exact q σ G2 _ (((s.trans s1).trans s2).mutM gn w2.free w2.mu) (w2.put (.lst (hd.put n (d1.mono s2.g))))
/-- xs[k], xs[l] = e, f -/
theorem sw_set2 {tf tk tl : TE} {y : Dt} {k l : Int} {n m : Nat} (h : EvB K te ρ β x β) (h' : EvB K tf ρ β y β) (hk : EvB K tk ρ β (.int k) β) (hl : EvB K tl ρ β (.int l) β) (hn : ixN ds.length k = some n) (hm : ixN ds.length l = some m) :
    StW K i (tAsg (tTup (tCons te (tCons tf tNil))) (gTup K 2 (gCons (gSub (tVar i) tk rSetL) (gCons (gSub (tVar i) tl rSetL) gNil)))) ρ β (.list ds) (.nx ρ) β (.list ((ds.set n x).set m y)) := by
  refine ⟨rfl, fun b G0 H0 G H σ p D gn s w q => ?_⟩
  refine h.run b G H σ _ w.env fun v G1 H1 s1 k1 d1 => ?_
  have w1 := w.step s1 k1 rfl
  refine h'.run b G1 H1 σ _ w1.env fun v' G2 H2 s2 k2 d2 => ?_
  have w2 := w1.step s2 k2 rfl
  refine ⟨by show 2 ≤ sizeLine; decide, fun t ht => ?_⟩
  have nw := Step.new (b := b) (m := β.isSome) (o := .tup [v, v']) s2.s ht
  have nw0 := Step.new (b := b) (m := false) (o := .tup [v, v']) s2.s ht
  have w3 := w2.step nw (k2.same nw0) rfl
  have sT := ((s.trans s1).trans s2).trans nw
  refine ⟨t, [v, v'], rfl, st_of upd_same, rfl, v, [v'], rfl, _, w3.at_, ?_⟩
  refine hk.run b _ _ σ _ w3.env fun a3 G4 H4 s4 k4 d4 => ?_
  cases d4
  have w4 := w3.step s4 k4 rfl
  obtain ⟨u, hp, hu⟩ := w4.val
  cases hu with
  | @lst ws _ hd =>
    refine ⟨p, ws, k, n, rfl, rfl, hp, by rw [hd.length]; exact hn, ?_⟩
    have sA := (sT.trans s4).mutM (ob := .lst (ws.set n v)) gn w4.free w4.mu
    have wA := w4.put (ob := .lst (ws.set n v)) (.lst (hd.put n (((d1.mono s2.g).mono nw.g).mono s4.g)))
    refine ⟨v', [], rfl, _, wA.at_, ?_⟩
    refine hl.run b _ _ σ _ wA.env fun a5 G5 H5 s5 k5 d5 => ?_
    cases d5
    have w5 := wA.step s5 k5 rfl
    obtain ⟨u, hp5, hu5⟩ := w5.val
    cases hu5 with
    | @lst ws5 _ hd5 =>
      refine ⟨p, ws5, l, m, rfl, rfl, hp5, by rw [hd5.length, List.length_set]; exact hm, rfl, ?_⟩
      exact q σ G5 _ ((sA.trans s5).mutM gn w5.free w5.mu) (w5.put (.lst (hd5.put m ((((d2.mono nw.g).mono s4.g)).mono s5.g))))
/-! ### loops -/
end
inductive ForW [TabW] (K : PySem.W.Frag) (i j : Nat) (tu : TS) : List Dt → Rho → Bag → Dt → Out → Bag → Dt → Prop
  | nil (ρ : Rho) (β : Bag) (d : Dt) : ForW K i j tu [] ρ β d (.nx ρ) β d
  | nx {x : Dt} {xs : List Dt} {ρ ρ1 : Rho} {β β1 β2 : Bag} {d d1 d2 : Dt} {o : Out} : StW K i tu (ρ.set j (some (.imm x))) β d (.nx ρ1) β1 d1 → ForW K i j tu xs ρ1 β1 d1 o β2 d2 → ForW K i j tu (x :: xs) ρ β d o β2 d2
  | ct {x : Dt} {xs : List Dt} {ρ ρ1 : Rho} {β β1 β2 : Bag} {d d1 d2 : Dt} {o : Out} : StW K i tu (ρ.set j (some (.imm x))) β d (.ct ρ1) β1 d1 → ForW K i j tu xs ρ1 β1 d1 o β2 d2 → ForW K i j tu (x :: xs) ρ β d o β2 d2
  | brk {x : Dt} {xs : List Dt} {ρ ρ1 : Rho} {β β1 : Bag} {d d1 : Dt} : StW K i tu (ρ.set j (some (.imm x))) β d (.brk ρ1) β1 d1 → ForW K i j tu (x :: xs) ρ β d (.nx ρ1) β1 d1
  | ret {x r : Dt} {xs : List Dt} {ρ : Rho} {β β1 : Bag} {d d1 : Dt} : StW K i tu (ρ.set j (some (.imm x))) β d (.ret r) β1 d1 → ForW K i j tu (x :: xs) ρ β d (.ret r) β1 d1
section
variable [TabW] {K : PySem.W.Frag} {b : Addr} {ρ ρ1 ρ2 : Rho} {β β1 β2 β3 : Bag} {ta : TA} {te : TE} {tt : TT} {ts tu tv tw : TS} {d d1 d2 x : Dt} {ds es : List Dt} {o : Out} {c : Bool} {i j : Nat} {G H G0 H0 G1 H1 G2 H2 : Hp} {σ : L2.St} {p : Addr}
theorem ForW.som (h : ForW K i j tu es ρ β d o β2 d2) : β2.isSome = β.isSome := by
  induction h with
  | nil => rfl
  | nx h _ ih => exact ih.trans h.som
  | ct h _ ih => exact ih.trans h.som
  | brk h => exact h.som
  | ret h => exact h.som
theorem tab_off {p P : Addr} {q : Str} {H : Hp} (h : LamX.TabS H P q) (hl : MuAt H p) : LamX.TabS (fun x => if x = p then none else H x) P q := by
  obtain ⟨ps, h1, h2, h3⟩ := h
  refine ⟨ps, ?_, h2, fun pos cv hc => ?_⟩
  · dsimp only
    rw [if_neg fun z => ?_]
    · exact h1
    · rw [← z] at hl
      rcases hl _ h1 with ⟨_, e⟩ | ⟨_, e⟩ <;> cases e
  · obtain ⟨c, e1, e2⟩ := h3 pos cv hc
    refine ⟨c, e1, ?_⟩
    dsimp only
    rw [if_neg fun z => ?_]
    · exact e2
    · rw [← z] at hl
      rcases hl _ e2 with ⟨_, e⟩ | ⟨_, e⟩ <;> (unfold LamX.CodeO at e; cases e)
/-- the state without it -/
theorem OwnW.base {m : Bool} (w : OwnW K b β i p G1 H1 σ ρ d) (gn : Gone H0 p) (s : Step b m G0 H0 G1 H1) : ∃ Hb, Gone Hb p ∧ Step b m G0 H0 G1 Hb ∧ Step b m G1 Hb G1 H1 := by
  obtain ⟨Hb, hb⟩ : ∃ Hb : Hp, Hb = fun x => if x = p then none else H1 x := ⟨_, rfl⟩
  have b_p : Hb p = none := by rw [hb]; exact if_pos rfl
  have b_ne : ∀ {x}, x ≠ p → Hb x = H1 x := fun hx => by rw [hb]; exact if_neg hx
  have b_of : ∀ {x u}, Hb x = some u → H1 x = some u := fun {x u} h => by
    by_cases z : x = p
    · rw [z, b_p] at h; cases h
    · rw [← b_ne z]; exact h
  have ex : Ex G1 Hb := fun x u h => by
    have z : x ≠ p := fun z => by rw [z, w.free] at h; cases h
    rw [b_ne z]
    exact w.env.sub x u h
  refine ⟨Hb, Gone.none b_p, ⟨s.g, ex, s.fresh, fun x o n t h => by rw [b_ne (gn.ne t h)]; exact s.keep x o n t h, fun x o t h => ?_, fun t => ?_⟩, ⟨Ex.refl _, w.env.sub, fun x o h _ _ => h, fun x o _ _ h => b_of h, fun x o t h => ⟨o, t, b_of h⟩, fun _ => w.env.tabs⟩⟩
  · rw [b_ne (gn.ne t h)]
    exact s.stay x o t h
  · have t1 := s.tabs t
    exact ⟨fun P q hw => by rw [hb]; exact tab_off (t1.tab P q hw) w.mu, t1.free⟩
theorem forW_turn {D : Ends} {m : Bool} {v : V} {N : L2.St → Hp → Prop} (hm : m = β.isSome) (hij : i ≠ j) (h : ForW K i j tu (x :: es) ρ β d o β2 d2) (w : OwnW K b β i p G H σ ρ d) (dv : Den K G v x) (gn : Gone H0 p)
    (s : Step b m G0 H0 G H) (k : OutW K b m β2 i p d2 G0 H0 D o) (hN : ∀ σ' G' H' ρ' β' d', Step b m G0 H0 G' H' → β'.isSome = m → OwnW K b β' i p G' H' σ' ρ' d' → ForW K i j tu es ρ' β' d' o β2 d2 → N σ' H') :
    tu { D with nx := N, ct := N, bk := D.nx } (σ.set j (some v)) H := by
  have w' := w.setJ hij dv
  subst hm
  cases h with
  | nx h hr => exact h.run b G0 H0 G H _ p _ gn s w' fun σ' G' H' s' e => hN σ' G' H' _ _ _ s' h.som e hr
  | ct h hr => exact h.run b G0 H0 G H _ p _ gn s w' fun σ' G' H' s' e => hN σ' G' H' _ _ _ s' h.som e hr
  | brk h => exact h.run b G0 H0 G H _ p _ gn s w' fun σ' G' H' s' e => k σ' G' H' s' e
  | ret h => exact h.run b G0 H0 G H _ p _ gn s w' fun v G' H' s' e dv => k v G' H' s' e dv
theorem drop_of {es : List Dt} {n : Nat} {y : Dt} (h : es[n]? = some y) : es.drop n = y :: es.drop (n + 1) := by
  obtain ⟨hlt, he⟩ := List.getElem?_eq_some_iff.mp h
  rw [← he]
  exact List.drop_eq_getElem_cons hlt
/-- what is walked, a list or a tuple, by the walk's own iterator -/
abbrev WalkI (J : It) (tu : TS) (j : Nat) (D : Ends) (σ : L2.St) (H : Hp) : Prop := ∃ W : Nat → Nat → L2.St → Hp → Prop, (∃ m, W 0 m σ H) ∧ ∀ i m σ H, W i m σ H →
  (J.stop i H ∧ D.nx σ H) ∨ (J.go i H ∧ ∃ N : L2.St → Hp → Prop, (∀ σ' H', N σ' H' → ∃ m', m' < m ∧ W (i + 1) m' σ' H') ∧ ∀ x H', J.yld i H x H' → gName j x σ H' fun σ2 H2 => tu { D with nx := N, ct := N, bk := D.nx } σ2 H2)
theorem walkL {D : Ends} {a : Addr} {xs : List V} {m : Bool} (hm : m = β.isSome) (hij : i ≠ j) (w : OwnW K b β i p G H σ ρ d) (hs : G a = some (.lst xs)) (hd : DenL K G xs es) (gn : Gone H0 p) (s : Step b m G0 H0 G H) (h : ForW K i j tu es ρ β d o β2 d2) (k : OutW K b m β2 i p d2 G0 H0 D o) :
    WalkI (Itl K a) tu j D σ H := by
  obtain ⟨Hb, gb, sb, sc⟩ := w.base gn s
  have kb := k.of sb
  refine for_list (K := K) (a := a) (xs := xs) (fun n σ' H' => ∃ G' ρ' β' d', Step b m G Hb G' H' ∧ β'.isSome = m ∧ OwnW K b β' i p G' H' σ' ρ' d' ∧ ForW K i j tu (es.drop n) ρ' β' d' o β2 d2) ?_ ?_ ?_ ?_
  · exact ⟨G, ρ, β, d, sc, hm.symm, w, h⟩
  · rintro n σ' H' _ ⟨G', ρ', β', d', s', m', w', _⟩
    exact sq_of (w'.env.sub _ _ (s'.g _ _ hs))
  · rintro n v σ' H' hi ⟨G', ρ', β', d', s', m', w', r'⟩
    obtain ⟨y, hd1, hd2⟩ := hd.get hi
    rw [drop_of hd1] at r'
    exact forW_turn m'.symm hij r' w' (hd2.mono s'.g) gb s' kb fun σ2 G2 H2 ρ2 β2' d2' s2 m2 w2 r2 => ⟨G2, ρ2, β2', d2', s2, m2, w2, r2⟩
  · rintro σ' H' ⟨G', ρ', β', d', s', m', w', r'⟩
    rw [hd.length, List.drop_length] at r'
    cases r'
    exact kb σ' G' H' s' w'
theorem walkT {D : Ends} {a : Addr} {xs : List V} {m : Bool} (hm : m = β.isSome) (hij : i ≠ j) (w : OwnW K b β i p G H σ ρ d) (hs : SqT K G a xs) (hd : DenL K G xs es) (gn : Gone H0 p) (s : Step b m G0 H0 G H) (h : ForW K i j tu es ρ β d o β2 d2) (k : OutW K b m β2 i p d2 G0 H0 D o) :
    WalkI (Itt K a) tu j D σ H := by
  obtain ⟨Hb, gb, sb, sc⟩ := w.base gn s
  have kb := k.of sb
  refine for_tup (K := K) (a := a) (xs := xs) (fun n σ' H' => ∃ G' ρ' β' d', Step b m G Hb G' H' ∧ β'.isSome = m ∧ OwnW K b β' i p G' H' σ' ρ' d' ∧ ForW K i j tu (es.drop n) ρ' β' d' o β2 d2) ?_ ?_ ?_ ?_
  · exact ⟨G, ρ, β, d, sc, hm.symm, w, h⟩
  · rintro n σ' H' _ ⟨G', ρ', β', d', s', m', w', _⟩
    exact ex_t w'.env.sub (ex_t s'.g hs)
  · rintro n v σ' H' hi ⟨G', ρ', β', d', s', m', w', r'⟩
    obtain ⟨y, hd1, hd2⟩ := hd.get hi
    rw [drop_of hd1] at r'
    exact forW_turn m'.symm hij r' w' (hd2.mono s'.g) gb s' kb fun σ2 G2 H2 ρ2 β2' d2' s2 m2 w2 r2 => ⟨G2, ρ2, β2', d2', s2, m2, w2, r2⟩
  · rintro σ' H' ⟨G', ρ', β', d', s', m', w', r'⟩
    rw [hd.length, List.drop_length] at r'
    cases r'
    exact kb σ' G' H' s' w'
theorem sw_forQ {tl : TE} (hij : i ≠ j) (hl : EvW K i tl ρ β d x β1) (hx : SeqD x es) (h : ForW K i j tu es ρ β1 d o β2 d2) : StW K i (tFor (iSeq K tl) (gName j) tu) ρ β d o β2 d2 := by
  refine ⟨h.som.trans hl.som, fun b G0 H0 G H σ p D gn s w k => ?_⟩
  refine hl.run b G H σ p _ w fun v G1 H1 s1 w1 dv => ?_
  have s01 := s.trans s1
  rcases hx with rfl | rfl
  · cases dv with
    | @lst a xs _ hs hd => exact ⟨a, rfl, .inl ⟨⟨xs, sq_of (w1.env.sub _ _ hs)⟩, walkL hl.som.symm hij w1 hs hd gn s01 h k⟩⟩
  · cases dv with
    | @tup a xs _ hs hd => exact ⟨a, rfl, .inr ⟨⟨xs, ex_t w1.env.sub hs⟩, walkT hl.som.symm hij w1 hs hd gn s01 h k⟩⟩
theorem sw_forL {tl : TE} (hij : i ≠ j) (hl : EvW K i tl ρ β d (.list es) β1) (h : ForW K i j tu es ρ β1 d o β2 d2) : StW K i (tFor (iList K tl) (gName j) tu) ρ β d o β2 d2 := by
  refine ⟨h.som.trans hl.som, fun b G0 H0 G H σ p D gn s w k => ?_⟩
  refine hl.run b G H σ p _ w fun v G1 H1 s1 w1 dv => ?_
  have s01 := s.trans s1
  cases dv with
  | @lst a xs _ hs hd => exact ⟨a, rfl, ⟨xs, sq_of (w1.env.sub _ _ hs)⟩, walkL hl.som.symm hij w1 hs hd gn s01 h k⟩
theorem sw_forT {tl : TE} (hij : i ≠ j) (hl : EvW K i tl ρ β d (.tuple es) β1) (h : ForW K i j tu es ρ β1 d o β2 d2) : StW K i (tFor (iTup K tl) (gName j) tu) ρ β d o β2 d2 := by
  refine ⟨h.som.trans hl.som, fun b G0 H0 G H σ p D gn s w k => ?_⟩
  refine hl.run b G H σ p _ w fun v G1 H1 s1 w1 dv => ?_
  have s01 := s.trans s1
  cases dv with
  | @tup a xs _ hs hd => exact ⟨a, rfl, ⟨xs, ex_t w1.env.sub hs⟩, walkT hl.som.symm hij w1 hs hd gn s01 h k⟩
theorem sw_forR1 {n : Int} (hij : i ≠ j) (hl : EvW K i te ρ β d (.int n) β1) (hb : -(2 ^ 62) ≤ n ∧ n < 2 ^ 62) (h : ForW K i j tu (rng 0 n.toNat) ρ β1 d o β2 d2) : StW K i (tFor (iRng1 (tCons te tNil)) (gName j) tu) ρ β d o β2 d2 := by
  refine ⟨h.som.trans hl.som, fun b G0 H0 G H σ p D gn s w k => ?_⟩
  refine hl.run b G H σ p _ w fun v G1 H1 s1 w1 dv => ?_
  cases dv
  have s01 := s.trans s1
  refine ⟨n, rfl, hb.1, hb.2, ?_⟩
  refine for_range (lo := 0) (n := n.toNat) (fun m σ' H' => ∃ G' ρ' β' d', Step b β.isSome G0 H0 G' H' ∧ β'.isSome = β.isSome ∧ OwnW K b β' i p G' H' σ' ρ' d' ∧ ForW K i j tu ((rng 0 n.toNat).drop m) ρ' β' d' o β2 d2) ?_ ?_ ?_
  · exact ⟨G1, ρ, β1, d, s01, hl.som, w1, h⟩
  · rintro m σ' H' hm ⟨G', ρ', β', d', s', m', w', r'⟩
    rw [rng_drop hm] at r'
    exact forW_turn m'.symm hij r' w' (.int _) gn s' k fun σ2 G2 H2 ρ2 β2' d2' s2 m2 w2 r2 => ⟨G2, ρ2, β2', d2', s2, m2, w2, r2⟩
  · rintro σ' H' ⟨G', ρ', β', d', s', m', w', r'⟩
    have e : (rng 0 n.toNat).drop n.toNat = [] := by rw [List.drop_eq_nil_iff, rng_length]; exact Nat.le_refl _
    rw [e] at r'
    cases r'
    exact k σ' G' H' s' w'
/-- a loop whose turns keep a form of what is told -/
theorem ForW.keep {F : Nat → Rho → Dt → Prop} : ∀ {es : List Dt} {n : Nat} {ρ : Rho} {d : Dt}, F n ρ d → (∀ m x ρ d, es[m]? = some x → F (n + m) ρ d → ∃ ρ1 d1, (StW K i tu (ρ.set j (some (.imm x))) β d (.nx ρ1) β d1 ∨ StW K i tu (ρ.set j (some (.imm x))) β d (.ct ρ1) β d1) ∧ F (n + m + 1) ρ1 d1) →
    ∃ ρ' d', ForW K i j tu es ρ β d (.nx ρ') β d' ∧ F (n + es.length) ρ' d'
  | [], n, ρ, d, h, _ => ⟨ρ, d, .nil _ _ _, h⟩
  | x :: es, n, ρ, d, h, hs => by
    obtain ⟨ρ1, d1, h1, h2⟩ := hs 0 x ρ d rfl h
    obtain ⟨ρ', d', h3, h4⟩ := ForW.keep (F := F) (es := es) (n := n + 1) h2 fun m y ρ d hy hF => by
      have := hs (m + 1) y ρ d (by simpa using hy) (by rw [show n + (m + 1) = n + 1 + m by omega]; exact hF)
      rw [show n + (m + 1) + 1 = n + 1 + m + 1 by omega] at this
      exact this
    rw [List.length_cons, show n + (es.length + 1) = n + 1 + es.length by omega]
    rcases h1 with h1 | h1
    · exact ⟨ρ', d', .nx h1 h3, h4⟩
    · exact ⟨ρ', d', .ct h1 h3, h4⟩
/-! ### to the end -/
theorem sp_end (h : StB K tw (ρ.set i (some (.imm d))) β o β1) : StP K i tw ρ β d o β1 := by
  refine ⟨h.som, fun b G0 H0 G H σ p D gn s w k => ?_⟩
  obtain ⟨u, hp, hu, E⟩ := w.frozen
  have s2 : Step b β.isSome G0 H0 (upd G p u) H := by
    refine ⟨s.g.trans (Ex.new w.free), fun a v z => E.sub a v z, fun a v h1 t h2 => ?_, s.keep, s.stay, fun t => ⟨(s.tabs t).tab, fun x ps z => ?_⟩⟩
    · rw [upd_ne (gn.ne t h2)]
      exact s.fresh a v h1 t h2
    · by_cases q : x = p
      · rw [q, upd_same] at z; exact hu.nt ps (Option.some.inj z)
      · rw [upd_ne q] at z; exact (s.tabs t).free x ps z
  exact h.run b _ H σ D E (k.of (D' := D) s2)
theorem sp_seq (h : StW K i tu ρ β d (.nx ρ1) β1 d1) (h' : StP K i tw ρ1 β1 d1 o β2) : StP K i (tSeq tu tw) ρ β d o β2 := ⟨h'.som.trans h.som, fun b G0 H0 G H σ p D gn s w k => h.run b G0 H0 G H σ p { D with nx := tw D } gn s w fun σ1 G1 H1 s1 w1 =>
  h'.run b G0 H0 G1 H1 σ1 p D gn (by rw [h.som]; exact s1) w1 (by rw [h.som]; exact k)⟩
theorem sp_ret (h : StW K i ts ρ β d (.ret x) β1 d1) : StP K i ts ρ β d (.ret x) β1 := ⟨h.som, fun b G0 H0 G H σ p D gn s w k => h.run b G0 H0 G H σ p D gn s w k⟩
theorem sp_if (h : TtW K i tt ρ β d c β1) (h1 : c = true → StP K i (tSeq tu tw) ρ β1 d o β2) (h2 : c = false → StP K i (tSeq tv tw) ρ β1 d o β2) : StP K i (tSeq (tIfS tt tu tv) tw) ρ β d o β2 := by
  have m : β2.isSome = β1.isSome := by
    cases c with
    | true => exact (h1 rfl).som
    | false => exact (h2 rfl).som
  refine ⟨m.trans h.som, fun b G0 H0 G H σ p D gn s w k => h.run b G H σ p _ w fun G1 H1 s1 w1 => ?_⟩
  cases c with
  | true =>
    rw [if_pos rfl]
    exact (h1 rfl).run b G0 H0 G1 H1 σ p D gn (by rw [h.som]; exact s.trans s1) w1 (by rw [h.som]; exact k)
  | false =>
    rw [if_neg (by decide)]
    exact (h2 rfl).run b G0 H0 G1 H1 σ p D gn (by rw [h.som]; exact s.trans s1) w1 (by rw [h.som]; exact k)
end
/-! ### how it begins -/
/-- a part that makes a new thing -/
structure EvN [TabW] (K : PySem.W.Frag) (te : TE) (ρ : Rho) (β : Bag) (d : Dt) (β' : Bag) : Prop where
  som : β'.isSome = β.isSome
  run : ∀ (b : Addr) (G H : Hp) (σ : L2.St) (Q : VK), EnvD K b β G H σ ρ → (∀ p u G1 H1 Hb, Step b β.isSome G H G1 Hb → Gone Hb p → Step b β.isSome G1 Hb G1 H1 → BagOk b β' G1 H1 → G1 p = none → (β'.isSome = true → p ≠ b) → H1 p = some u → Held K G1 u d → Q (.ref p) H1) → te σ H Q
section
variable [TabW] {K : PySem.W.Frag} {b : Addr} {ρ ρ1 ρ2 : Rho} {β β1 β2 β3 : Bag} {ta : TA} {te tl : TE} {tt : TT} {ts tu tv tw : TS} {d d1 d2 x : Dt} {ds es rs : List Dt} {o : Out} {c : Bool} {i j : Nat} {G H G0 H0 G1 H1 G2 H2 : Hp} {σ : L2.St} {p : Addr}
theorem st_own (hi : i < ρ.length) (h : EvN K te ρ β d β1) (h' : StP K i tw (ρ.set i none) β1 d o β2) : StB K (tSeq (tAsg te (gName i)) tw) ρ β o β2 := by
  refine ⟨h'.som.trans h.som, fun b G H σ D E k => ?_⟩
  refine h.run b G H σ _ E fun p u G1 H1 Hb s0 gn s1 k1 gp nb hp hu => ?_
  have E1 : EnvD K b β1 G1 H1 σ ρ := E.step (s0.trans s1) k1
  have hil : i < σ.length := by rw [E.len]; exact hi
  refine h'.run b G1 Hb G1 H1 _ p D gn (by rw [h.som]; exact s1) ⟨E1.forget, List.getElem?_set_self hi, List.getElem?_set_self hil, gp, nb, u, hp, hu⟩ ?_
  rw [h.som]
  exact k.of (D' := D) s0
/-- made anew in the state as it stands -/
theorem evN_of {u : HO} {m : Bool} (kb : BagOk b β1 G1 H1) (e : Ex G1 H1) (hm : β1.isSome = m) (hp : H1 p = none) (h : Held K G1 u d) {Q : VK} (k : ∀ p u G2 H2 Hb, Step b m G1 H1 G2 Hb → Gone Hb p → Step b m G2 Hb G2 H2 → BagOk b β1 G2 H2 → G2 p = none → (β1.isSome = true → p ≠ b) → H2 p = some u → Held K G2 u d → Q (.ref p) H2) : Q (.ref p) (upd H1 p u) := by
  have gp : G1 p = none := fresh_back e hp
  have nb : β1.isSome = true → p ≠ b := bag_ne kb rfl hp
  exact k p u G1 _ H1 (Step.refl e) (Gone.none hp) ((Step.refl e).mutM (Gone.none hp) gp (MuAt.none hp)) (kb.mut nb) gp nb upd_same h
theorem EvN.of {Q : VK} (s : Step b β.isSome G H G1 H1) (hm : β1.isSome = β.isSome) (k : ∀ p u G2 H2 Hb, Step b β.isSome G H G2 Hb → Gone Hb p → Step b β.isSome G2 Hb G2 H2 → BagOk b β1 G2 H2 → G2 p = none → (β1.isSome = true → p ≠ b) → H2 p = some u → Held K G2 u d → Q (.ref p) H2) :
    ∀ p u G2 H2 Hb, Step b β.isSome G1 H1 G2 Hb → Gone Hb p → Step b β.isSome G2 Hb G2 H2 → BagOk b β1 G2 H2 → G2 p = none → (β1.isSome = true → p ≠ b) → H2 p = some u → Held K G2 u d → Q (.ref p) H2 :=
  fun p u G2 H2 Hb s0 gn s1 => k p u G2 H2 Hb (s.trans s0) gn s1
theorem en_lst (h : EvA K ta ρ β (imms ds) β1) (hz : ds.length ≤ 100000) : EvN K (tLst ta) ρ β (.list ds) β1 := ⟨h.som, fun b G H σ Q E k => h.run b G H σ _ E fun vs G1 H1 s1 k1 d1 => by
  have dl := d1.imm
  have hl := dl.length
  exact ⟨sz_of (by omega), fun p hp => evN_of k1 s1.s h.som hp (.lst dl) (EvN.of s1 h.som k)⟩⟩
theorem en_dict0 : EvN K tDNewK ρ β (dctD []) β := ⟨rfl, fun b G H σ Q E k => fun p hp => evN_of (u := .dK []) E.bagk E.sub rfl hp (.dct (kvs := []) .nil) k⟩
/-- list(x) -/
theorem en_listOf (h : EvB K te ρ β x β1) (hx : SeqD x ds) : EvN K (tCB (rListOf K) (tCons te tNil)) ρ β (.list ds) β1 := ⟨h.som, fun b G H σ Q E k => h.run b G H σ _ E fun v G1 H1 s1 k1 dv => by
  obtain ⟨a, ys, rfl, hq, hd⟩ := dv.seq hx s1.s
  exact ⟨a, ys, rfl, hq, fun p hp => evN_of k1 s1.s h.som hp (.lst hd) (EvN.of s1 h.som k)⟩⟩
/-- xs[lo:hi] of a list -/
theorem en_slL {tl th : TO} {lo hi : Option Int} (ha : EvB K te ρ β (.list ds) β1) (h1 : EvO K tl ρ β1 lo β2) (h2 : EvO K th ρ β2 hi β3) : EvN K (tSl (rSlL K) te tl th) ρ β (.list (cutD ds lo hi)) β3 := by
  refine ⟨h2.1.trans (h1.1.trans ha.som), fun b G H σ Q E k => ?_⟩
  refine ha.run b G H σ _ E fun v G1 H1 s1 k1 d1 => ?_
  have E1 := E.step s1 k1
  refine h1.2 b G1 H1 σ _ E1 fun G2 H2 s2 k2 => ?_
  have E2 := E1.step s2 k2
  refine h2.2 b G2 H2 σ _ E2 fun G3 H3 s3 k3 => ?_
  rw [h1.1, ha.som] at s3
  rw [ha.som] at s2
  have hs := (s1.trans s2).trans s3
  have d3 := (d1.mono s2.g).mono s3.g
  have m3 : β3.isSome = β.isSome := h2.1.trans (h1.1.trans ha.som)
  cases d3 with
  | @lst a xs _ hx hd => exact ⟨_, _, rfl, sq_of (s3.s _ _ hx), fun q hq => evN_of k3 s3.s m3 hq (.lst (den_cut hd)) (EvN.of hs m3 k)⟩
/-- a comprehension over a range -/
theorem en_lcR1 {l : Nat} {vs : List Nat} {n : Int} (hl : EvB K tl ρ β (.int n) β1) (hb : -(2 ^ 62) ≤ n ∧ n < 2 ^ 62) (h : LcR K l tt te (rng 0 n.toNat) (wipeR ρ vs) β1 rs β2) (hz : rs.length ≤ 100000) (hw : l ∈ vs) : EvN K (tLc (iRng1 (tCons tl tNil)) (gName l) tt te vs) ρ β (.list rs) β2 := by
  refine ⟨h.som.trans hl.som, fun b G H σ Q E k => ?_⟩
  refine a_int1 (te := tl) (i := n) hl _ rfl E fun G1 H1 s1 k1 => ?_
  refine ⟨hb.1, hb.2, fun Dl hD => ?_⟩
  have E1 := E.step s1 k1
  have nb := bag_ne k1 hl.som hD
  refine lc_range (lo := 0) (n := n.toNat) (fun i' H' => LcW K b β.isSome G1 H1 Dl rs β2 (fun rest β' => LcR K l tt te ((rng 0 n.toNat).drop i') (wipeR ρ vs) β' rest β2) H') ?_ ?_ ?_
  · exact lc_start s1.s hD k1 hl.som nb h
  · rintro i' H' hlt w'
    rw [rng_drop hlt] at w'
    exact ⟨wipe_ok hw σ _, lc_turn hD nb (by omega) (fun G' H' β' s' kb' => (E1.wipe vs).step s' kb') (.int _) w'⟩
  · rintro H' w'
    have e : (rng 0 n.toNat).drop n.toNat = [] := by rw [List.drop_eq_nil_iff, rng_length]; exact Nat.le_refl _
    rw [e] at w'
    obtain ⟨G', β', done, rest, acc, s', kb', hm', gD', hH', ha', hr', r'⟩ := w'
    cases r'
    rw [List.append_nil] at hr'
    subst hr'
    have nb' : β2.isSome = true → Dl ≠ b := fun z => nb (by rw [← hm']; exact z)
    have hdl : Held K G' (.lst acc) (.list done) := .lst ha'
    have w : OwnW K b β2 0 Dl G' H' [some (.ref Dl)] [none] (.list done) := ⟨⟨s'.s, kb', rfl, (fun i d z => by cases i <;> simp at z), (fun i z => by cases i <;> simp at z), s'.tabs E1.tabs, fun i a z => by cases i <;> simp at z⟩, rfl, rfl, gD', nb', _, hH', hdl⟩
    obtain ⟨Hb, gb, sb, sc⟩ := w.base (Gone.none hD) s'
    exact k Dl _ G' H' Hb (s1.trans sb) gb sc kb' gD' nb' hH' hdl
end
end TD
/-! ## NumY -/
set_option Elab.async false
set_option linter.all false
set_option maxRecDepth 100000
/-! Spots, as they are judged. Plain Lean. -/
namespace Num
open PySem
def smallK (k : Nat) (ns : List Int) : Bool := ns.all fun n => decide (n.natAbs ≤ k)
theorem max_smallK (k : Nat) {ns : List Int} {M : Int} (hM : M ∈ ns.map absI) (hg : ∀ n ∈ ns.map absI, n ≤ M) : decide (M ≤ (k : Int)) = smallK k ns := by
  unfold smallK
  by_cases h : M ≤ (k : Int)
  · rw [decide_eq_true h]
    refine (List.all_eq_true.mpr fun n hn => ?_).symm
    have := hg _ (List.mem_map_of_mem hn)
    unfold absI at this
    (exact decide_eq_true (by omega))
  · rw [decide_eq_false h]
    obtain ⟨n, hn, rfl⟩ := List.mem_map.mp hM
    refine (List.all_eq_false.mpr ⟨n, hn, ?_⟩).symm
    unfold absI at h
    simpa using h
def spotI (p : Int) (ns : List Int) : Bool := allFit p 2 (.tuple (ns.map PyData.int)) && (ns.any (· != 0) && (decide (made p ns = ns) && smallK 10000000 ns))
def isSpot (p : Int) : Dt → Bool
  | .tuple ds => allFit p 2 (.tuple ds) && ((ds.map toI).any (· != 0) && (decide (made p (ds.map toI) = ds.map toI) && smallK 10000000 (ds.map toI)))
  | _ => false
theorem isSpot_ints (p : Int) (ns : List Int) : isSpot p (.tuple (ns.map PyData.int)) = spotI p ns := by
  unfold isSpot spotI
  dsimp only
  rw [map_toI]
theorem isSpot_no {p : Int} {ds : List Dt} (h : allFit p 2 (.tuple ds) = false) : isSpot p (.tuple ds) = false := by
  unfold isSpot
  dsimp only
  rw [h, Bool.false_and]
def smallSpots (p : Int) : List (Int × Int) :=
  if p > 0 then (0, 1) :: (upto 0 p.toNat).map fun n => (1, n)
  else [(0, 1), (1, -4), (1, -3), (1, -2), (1, -1), (1, 0), (1, 1), (1, 2), (1, 3), (1, 4), (2, -3), (2, -1), (2, 1), (2, 3), (3, -2), (3, -1), (3, 1), (3, 2)]
end Num
/-! ## NumZ -/
set_option Elab.async false
set_option linter.all false
set_option maxRecDepth 100000
/-! Draws that are repeated until one fits. Plain Lean. -/
namespace Num
open PySem
def loopF {α : Type} (step : List Int → Option α × List Int) (z : α) : Nat → List Int → α × List Int
  | 0, ns => (z, ns)
  | k + 1, ns => match (step ns).1 with
    | some r => (r, (step ns).2)
    | none => loopF step z k (step ns).2
theorem loop_bag {α : Type} {step : List Int → Option α × List Int} {z : α} (hs : ∀ {ns : List Int}, (∃ n, BagI n ns) → ∃ n, BagI n (step ns).2) : ∀ (k : Nat) {ns : List Int}, (∃ n, BagI n ns) → ∃ n, BagI n (loopF step z k ns).2
  | 0, _, h => h
  | k + 1, ns, h => by
    unfold loopF
    cases (step ns).1 with
    | some r => exact hs h
    | none => exact loop_bag hs k (hs h)
theorem loop_all {α : Type} {step : List Int → Option α × List Int} {z : α} {P : α → Prop} (hz : P z) (hs : ∀ ns r, (step ns).1 = some r → P r) : ∀ (k : Nat) (ns : List Int), P (loopF step z k ns).1
  | 0, _ => hz
  | k + 1, ns => by
    unfold loopF
    cases h : (step ns).1 with
    | some r => exact hs ns r h
    | none => exact loop_all hz hs k _
/-- an entry of a drawn table -/
def loP (p : Int) : Int := if p = 0 then -2 else 0
def hiP (p : Int) : Int := if p = 0 then 2 else p - 1
def cellF (p : Int) (ns : List Int) : Int × List Int := (loP p + (grabF (hiP p - loP p + 1) ns).1, (grabF (hiP p - loP p + 1) ns).2)
abbrev TabI := (Int × Int) × (Int × Int)
def tabOf : List Int → TabI
  | [a, b, c, d] => ((a, b), (c, d))
  | _ => ((0, 1), (1, 0))
def tabStep (p : Int) (ns : List Int) : Option TabI × List Int :=
  (if settled p (detI (tabOf (drawsF (cellF p) 4 ns).1)) = 0 then none else some (tabOf (drawsF (cellF p) 4 ns).1), (drawsF (cellF p) 4 ns).2)
def tableF (p : Int) (ns : List Int) : TabI × List Int := loopF (tabStep p) ((0, 1), (1, 0)) 8 ns
theorem span_pos {p : Int} (hp : PrimeI p) : 1 ≤ hiP p - loP p + 1 ∧ hiP p - loP p + 1 ≤ 19 ∧ -2 ≤ loP p ∧ loP p ≤ 0 ∧ hiP p ≤ 18 := by
  unfold hiP loP
  by_cases h0 : p = 0
  · rw [if_pos h0, if_pos h0]; omega
  · have := prime_pos hp h0
    rw [if_neg h0, if_neg h0]; omega
theorem cell_bag {p n : Int} (hp : PrimeI p) {ns : List Int} (h : BagI n ns) : BagI (n + 1) (cellF p ns).2 := grab_bag (by have := span_pos hp; omega) h
theorem cell_rng {p : Int} (hp : PrimeI p) (ns : List Int) : -2 ≤ (cellF p ns).1 ∧ (cellF p ns).1 ≤ 18 := by
  have h := span_pos hp
  have g := grab_rng (t := hiP p - loP p + 1) (by omega) ns
  unfold cellF
  dsimp only
  omega
theorem four_of {l : List Int} (h : l.length = 4) : ∃ a b c d, l = [a, b, c, d] := by
  match l, h with
  | [a, b, c, d], _ => exact ⟨a, b, c, d, rfl⟩
theorem four_is {f : List Int → Int × List Int} (ns : List Int) : ∃ a b c d, (drawsF f 4 ns).1 = [a, b, c, d] := four_of (draws_len f 4 ns)
theorem tab_bag {p : Int} (hp : PrimeI p) {ns : List Int} (h : ∃ n, BagI n ns) : ∃ n, BagI n (tabStep p ns).2 := by
  obtain ⟨n, hn⟩ := h
  show ∃ m, BagI m (drawsF (cellF p) 4 ns).2
  exact ⟨n + (4 : Nat), draws_bag (f := cellF p) (fun h => cell_bag hp h) 4 hn⟩
theorem loop_map {α γ : Type} (f : α → γ) (step : List Int → Option α × List Int) (z : α) : ∀ (k : Nat) (ns : List Int), loopF (fun ms => ((step ms).1.map f, (step ms).2)) (f z) k ns = (f (loopF step z k ns).1, (loopF step z k ns).2)
  | 0, _ => rfl
  | k + 1, ns => by
    unfold loopF
    dsimp only
    cases h : (step ns).1 with
    | some r => rfl
    | none => exact loop_map f step z k (step ns).2
theorem table_bag {p : Int} (hp : PrimeI p) {ns : List Int} (h : ∃ n, BagI n ns) : ∃ n, BagI n (tableF p ns).2 := loop_bag (fun h => tab_bag hp h) 8 h
/-- what is drawn has small entries, and can be undone -/
theorem table_ok {p : Int} (hp : PrimeI p) (ns : List Int) : UnitI p (detI (tableF p ns).1) ∧ (tableF p ns).1.1.1.natAbs ≤ 18 ∧ (tableF p ns).1.1.2.natAbs ≤ 18 ∧ (tableF p ns).1.2.1.natAbs ≤ 18 ∧ (tableF p ns).1.2.2.natAbs ≤ 18 := by
  refine loop_all (P := fun t => UnitI p (detI t) ∧ t.1.1.natAbs ≤ 18 ∧ t.1.2.natAbs ≤ 18 ∧ t.2.1.natAbs ≤ 18 ∧ t.2.2.natAbs ≤ 18) ⟨?_, by decide, by decide, by decide, by decide⟩ (fun ms r h => ?_) 8 ns
  · show settled p (0 * 0 - 1 * 1) ≠ 0
    unfold settled
    by_cases h0 : p = 0
    · rw [if_neg (by simpa using h0)]; decide
    · have := prime_pos hp h0
      rw [if_pos h0]
      intro z
      have := Int.emod_add_mul_ediv (0 * 0 - 1 * 1) p
      rw [z] at this
      have h1 : p * ((0 * 0 - 1 * 1) / p) = -1 := by omega
      have h2 : p ∣ -1 := ⟨_, h1.symm⟩
      have h3 := Int.le_of_dvd (by decide) (Int.dvd_neg.mp h2 : p ∣ 1)
      omega
  · unfold tabStep at h
    dsimp only at h
    split at h
    · cases h
    · rename_i hne
      cases h
      refine ⟨hne, ?_⟩
      obtain ⟨a, b, c, d, e⟩ := four_is (f := cellF p) ms
      have all := draws_all (P := fun n => -2 ≤ n ∧ n ≤ 18) (fun ks => cell_rng hp ks) 4 ms
      rw [e] at all ⊢
      have ha := all a (by simp)
      have hb := all b (by simp)
      have hc := all c (by simp)
      have hd := all d (by simp)
      show a.natAbs ≤ 18 ∧ b.natAbs ≤ 18 ∧ c.natAbs ≤ 18 ∧ d.natAbs ≤ 18
      omega
end Num
/-! ## NumW -/
set_option Elab.async false
set_option linter.all false
set_option maxRecDepth 100000
/-! Things in a drawn order, over any kind of thing. -/
namespace Num
open PySem
def mixP {α : Type} (z : α) : Nat → List α → List Int → List α × List Int
  | 0, _, ns => ([], ns)
  | k + 1, xs, ns => (xs.getD (grabF xs.length ns).1.toNat z :: (mixP z k (xs.eraseIdx (grabF xs.length ns).1.toNat) (grabF xs.length ns).2).1, (mixP z k (xs.eraseIdx (grabF xs.length ns).1.toNat) (grabF xs.length ns).2).2)
theorem grab_in {α : Type} {xs : List α} (h : 0 < xs.length) (ns : List Int) : (grabF (xs.length : Int) ns).1.toNat < xs.length := by
  have := grab_rng (t := (xs.length : Int)) (by omega) ns
  omega
theorem erase_map {α γ : Type} (g : α → γ) : ∀ (xs : List α) (i : Nat), (xs.map g).eraseIdx i = (xs.eraseIdx i).map g
  | [], _ => rfl
  | _ :: _, 0 => rfl
  | x :: xs, i + 1 => congrArg (g x :: ·) (erase_map g xs i)
theorem mixF_map {α : Type} (z : α) (g : α → Dt) : ∀ (k : Nat) (xs : List α) (ns : List Int), k ≤ xs.length → TD.mixF grabF k (xs.map g) ns = ((mixP z k xs ns).1.map g, (mixP z k xs ns).2)
  | 0, _, _, _ => rfl
  | k + 1, xs, ns, hk => by
    have hi := grab_in (xs := xs) (by omega) ns
    unfold TD.mixF mixP
    rw [List.length_map, erase_map]
    have ih := mixF_map z g k (xs.eraseIdx (grabF (xs.length : Int) ns).1.toNat) (grabF (xs.length : Int) ns).2 (by rw [List.length_eraseIdx_of_lt hi]; omega)
    rw [ih]
    dsimp only
    rw [List.map_cons, List.getD_eq_getElem?_getD, List.getElem?_map, List.getElem?_eq_getElem hi, List.getD_eq_getElem?_getD, List.getElem?_eq_getElem hi]
    rfl
theorem back_perm {α : Type} : ∀ {xs : List α} {i : Nat} (h : i < xs.length), (xs[i] :: xs.eraseIdx i).Perm xs
  | [], _, h => (absurd h (Nat.not_lt_zero _))
  | _ :: _, 0, _ => List.Perm.refl _
  | x :: xs, i + 1, h => (List.Perm.swap x (xs[i]'(Nat.lt_of_succ_lt_succ h)) (xs.eraseIdx i)).trans ((back_perm (xs := xs) (i := i) (Nat.lt_of_succ_lt_succ h)).cons x)
theorem mixP_perm {α : Type} (z : α) : ∀ (k : Nat) (xs : List α) (ns : List Int), k = xs.length → (mixP z k xs ns).1.Perm xs
  | 0, xs, _, h => by
    have : xs = [] := List.length_eq_zero_iff.mp h.symm
    subst this
    exact .nil
  | k + 1, xs, ns, h => by
    have hi := grab_in (xs := xs) (by omega) ns
    have ih := mixP_perm z k (xs.eraseIdx (grabF (xs.length : Int) ns).1.toNat) (grabF (xs.length : Int) ns).2 (by rw [List.length_eraseIdx_of_lt hi]; omega)
    unfold mixP
    dsimp only
    (rw [List.getD_eq_getElem?_getD, List.getElem?_eq_getElem hi])
    exact (ih.cons _).trans (back_perm hi)
end Num
/-! ## NumSq -/
set_option Elab.async false
set_option linter.all false
set_option maxRecDepth 100000
/-! Drawn square tables, as law k03 draws them. -/
namespace Num
open PySem Det
def rowsF (f : List Int → Int × List Int) (k : Nat) : Nat → List Int → List (List Int) × List Int
  | 0, ns => ([], ns)
  | m + 1, ns => ((drawsF f k ns).1 :: (rowsF f k m (drawsF f k ns).2).1, (rowsF f k m (drawsF f k ns).2).2)
theorem rows_len (f : List Int → Int × List Int) (k : Nat) : ∀ (m : Nat) (ns : List Int), (rowsF f k m ns).1.length = m
  | 0, _ => rfl
  | m + 1, ns => congrArg (· + 1) (rows_len f k m _)
theorem rows_all {f : List Int → Int × List Int} {P : Int → Prop} (hf : ∀ ns, P (f ns).1) (k : Nat) : ∀ (m : Nat) (ns : List Int), ∀ r ∈ (rowsF f k m ns).1, r.length = k ∧ ∀ x ∈ r, P x
  | 0, _, r, h => by cases h
  | m + 1, ns, r, h => by
    (rcases List.mem_cons.mp h with rfl | h)
    · exact ⟨draws_len f k ns, draws_all hf k ns⟩
    · exact rows_all hf k m _ r h
theorem rows_bag {f : List Int → Int × List Int} (hf : ∀ {n : Int} {ns : List Int}, BagI n ns → BagI (n + 1) (f ns).2) (k : Nat) : ∀ (m : Nat) {ns : List Int}, (∃ n, BagI n ns) → ∃ n, BagI n (rowsF f k m ns).2
  | 0, _, h => h
  | m + 1, _, ⟨n, h⟩ => rows_bag hf k m ⟨n + k, draws_bag hf k h⟩
def spreadF (ns : List Int) : Int × List Int := oneF [2, 4, 9] ns
def rows0F (p : Int) (k : Nat) (ns : List Int) : List (List Int) × List Int := rowsF (numberF p (spreadF ns).1) k k (spreadF ns).2
def pairF (k : Nat) (ns : List Int) : List Int × List Int := mixP 0 k (upto 0 k) ns
def ledRow (p c : Int) (r : List Int) : List Int := r.map fun n => settled p (c * n)
def multF4 (ns : List Int) : Int × List Int := oneF [1, 2, -1, 0] ns
def squareF (p : Int) (k : Nat) (ns : List Int) : List (List Int) × List Int :=
  if k ≤ 1 then rows0F p k ns
  else if (grabF 3 (rows0F p k ns).2).1 = 0 then
    ((rows0F p k ns).1.set ((pairF k (grabF 3 (rows0F p k ns).2).2).1.getD 0 0).toNat (ledRow p (multF4 (pairF k (grabF 3 (rows0F p k ns).2).2).2).1 ((rows0F p k ns).1.getD ((pairF k (grabF 3 (rows0F p k ns).2).2).1.getD 1 0).toNat [])), (multF4 (pairF k (grabF 3 (rows0F p k ns).2).2).2).2)
  else ((rows0F p k ns).1, (grabF 3 (rows0F p k ns).2).2)
theorem spread_mem (ns : List Int) : (spreadF ns).1 = 2 ∨ (spreadF ns).1 = 4 ∨ (spreadF ns).1 = 9 := by
  have := one_mem (xs := [2, 4, 9]) (by decide) ns
  simpa [spreadF] using this
theorem mult4_mem (ns : List Int) : (multF4 ns).1.natAbs ≤ 2 := by
  have := one_mem (xs := [1, 2, -1, 0]) (by decide) ns
  have h : (multF4 ns).1 ∈ ([1, 2, -1, 0] : List Int) := this
  simp only [List.mem_cons, List.not_mem_nil, or_false] at h
  rcases h with h | h | h | h <;> rw [h] <;> decide
theorem pair_ok {k : Nat} (hk : 2 ≤ k) (ns : List Int) : ∃ (a b : Nat) (rest : List Int), (pairF k ns).1 = (a : Int) :: (b : Int) :: rest ∧ a < k ∧ b < k ∧ a ≠ b := by
  have hl : k = (upto 0 k).length := (upto_len 0 k).symm
  have hp := mixP_perm (0 : Int) k (upto 0 k) ns hl
  have hlen := hp.length_eq
  rw [upto_len] at hlen
  have nd : (upto 0 k).Nodup := by
    unfold upto
    refine List.Pairwise.map _ (fun a b h => ?_) List.nodup_range
    omega
  have nd2 := hp.nodup_iff.mpr nd
  unfold pairF
  generalize hq : (mixP (0 : Int) k (upto 0 k) ns).1 = q at *
  match q, hlen with
  | [], h => simp at h; omega
  | [_], h => simp at h; omega
  | x :: y :: rest, _ =>
    have hx : x ∈ upto 0 k := hp.mem_iff.mp (List.mem_cons_self ..)
    have hy : y ∈ upto 0 k := hp.mem_iff.mp (List.mem_cons_of_mem _ (List.mem_cons_self ..))
    have bx := upto_mem hx
    have by_ := upto_mem hy
    refine ⟨x.toNat, y.toNat, rest, ?_, by omega, by omega, ?_⟩
    · rw [Int.toNat_of_nonneg (by omega), Int.toNat_of_nonneg (by omega)]
    · intro z
      have : x = y := by omega
      subst this
      simp at nd2
theorem mixP_bag {α : Type} (z : α) : ∀ (k : Nat) (xs : List α) (ns : List Int), k ≤ xs.length → (∃ n, BagI n ns) → ∃ n, BagI n (mixP z k xs ns).2
  | 0, _, _, _, h => h
  | k + 1, xs, ns, hk, ⟨n, hn⟩ => by
    have h0 : 0 < (xs.length : Int) := by omega
    have hg := grab_rng h0 ns
    refine mixP_bag z k (xs.eraseIdx (grabF (xs.length : Int) ns).1.toNat) (grabF (xs.length : Int) ns).2 ?_ ⟨n + 1, grab_bag h0 hn⟩
    rw [List.length_eraseIdx_of_lt (by omega)]
    omega
theorem pair_bag (k : Nat) {ns : List Int} (h : ∃ n, BagI n ns) : ∃ n, BagI n (pairF k ns).2 := mixP_bag 0 k (upto 0 k) ns (by rw [upto_len]; omega) h
theorem oneB {xs : List Int} (hx : xs ≠ []) {ns : List Int} (h : ∃ n, BagI n ns) : ∃ n, BagI n (oneF xs ns).2 := let ⟨n, hn⟩ := h; ⟨n + 1, one_bag hx hn⟩
theorem grabB {t : Int} (ht : 0 < t) {ns : List Int} (h : ∃ n, BagI n ns) : ∃ n, BagI n (grabF t ns).2 := let ⟨n, hn⟩ := h; ⟨n + 1, grab_bag ht hn⟩
theorem spread_ok (ns : List Int) : 0 ≤ (spreadF ns).1 ∧ (spreadF ns).1 ≤ 9 := by
  rcases spread_mem ns with h | h | h <;> rw [h] <;> decide
theorem rows0_bag {p : Int} (hp : PrimeI p) (k : Nat) {ns : List Int} (h : ∃ n, BagI n ns) : ∃ n, BagI n (rows0F p k ns).2 := rows_bag (fun h => number_bag hp (spread_ok ns).1 h) k k (oneB (by decide) h)
/-- an entry -/
def EntOk (p x : Int) : Prop := x.natAbs ≤ 19 ∧ (p ≠ 0 → 0 ≤ x ∧ x < p)
theorem rows0_ok {p : Int} (hp : PrimeI p) (k : Nat) (ns : List Int) : Sq k (rows0F p k ns).1 ∧ ∀ r ∈ (rows0F p k ns).1, ∀ x ∈ r, x.natAbs ≤ 9 ∧ p = 0 ∨ EntOk p x ∧ p ≠ 0 := by
  have hs := spread_ok ns
  have hr := rows_all (f := numberF p (spreadF ns).1) (P := fun x => x.natAbs ≤ 9 ∧ p = 0 ∨ EntOk p x ∧ p ≠ 0) (fun ms => by
    obtain ⟨h1, h2, h3, h4⟩ := number_rng hp hs.1 ms
    by_cases h0 : p = 0
    · exact .inl ⟨by have := h4 h0; omega, h0⟩
    · obtain ⟨h5, h6⟩ := h3 h0
      have := hp.small
      exact .inr ⟨⟨by omega, fun _ => ⟨h5, h6⟩⟩, h0⟩) k k (spreadF ns).2
  exact ⟨⟨rows_len _ _ _ _, fun r h => (hr r h).1⟩, fun r h => (hr r h).2⟩
theorem set_mem {rows : List (List Int)} {a : Nat} {u r : List Int} (h : r ∈ rows.set a u) : r = u ∨ r ∈ rows := by
  rcases List.mem_or_eq_of_mem_set h with h | h
  · exact .inr h
  · exact .inl h
theorem getD_row {rows : List (List Int)} {a : Nat} (h : a < rows.length) : rows.getD a [] ∈ rows := by
  rw [List.getD_eq_getElem?_getD, List.getElem?_eq_getElem h]
  exact List.getElem_mem h
theorem square_ok {p : Int} (hp : PrimeI p) {k : Nat} (hk : 1 ≤ k) (ns : List Int) : Sq k (squareF p k ns).1 ∧ ∀ r ∈ (squareF p k ns).1, ∀ x ∈ r, EntOk p x := by
  obtain ⟨h1, h2⟩ := rows0_ok hp k ns
  have h3 : ∀ r ∈ (rows0F p k ns).1, ∀ x ∈ r, EntOk p x := fun r hr x hx => by
    rcases h2 r hr x hx with ⟨h, h0⟩ | ⟨h, _⟩
    · exact ⟨by omega, fun z => absurd h0 z⟩
    · exact h
  unfold squareF
  by_cases hk1 : k ≤ 1
  · rw [if_pos hk1]; exact ⟨h1, h3⟩
  · rw [if_neg hk1]
    split
    · obtain ⟨a, b, rest, e, ha, hb, _⟩ := pair_ok (k := k) (by omega) (grabF 3 (rows0F p k ns).2).2
      rw [e]
      show Sq k ((rows0F p k ns).1.set a (ledRow p _ ((rows0F p k ns).1.getD b []))) ∧ ∀ r ∈ (rows0F p k ns).1.set a (ledRow p _ ((rows0F p k ns).1.getD b [])), _
      have hbm : (rows0F p k ns).1.getD b [] ∈ (rows0F p k ns).1 := getD_row (by rw [h1.1]; exact hb)
      refine ⟨sq_set h1 (by unfold ledRow; rw [List.length_map]; exact h1.2 _ hbm), fun r hr x hx => ?_⟩
      rcases set_mem hr with rfl | hr
      · unfold ledRow at hx
        (obtain ⟨y, hy, rfl⟩ := List.mem_map.mp hx)
        have hm := mult4_mem (pairF k (grabF 3 (rows0F p k ns).2).2).2
        generalize (multF4 (pairF k (grabF 3 (rows0F p k ns).2).2).2).1 = c at *
        rcases h2 _ hbm y hy with ⟨h, h0⟩ | ⟨h, h0⟩
        · subst h0
          refine ⟨?_, fun z => absurd rfl z⟩
          show (settled 0 (c * y)).natAbs ≤ 19
          unfold settled
          rw [if_neg (by decide), Int.natAbs_mul]
          exact Nat.le_trans (Nat.mul_le_mul hm h) (by decide)
        · have hr := settled_rng (n := c * y) hp h0
          have := hp.small
          exact ⟨by omega, fun _ => hr⟩
      · exact h3 r hr x hx
    · exact ⟨h1, h3⟩
theorem square_bag {p : Int} (hp : PrimeI p) (k : Nat) {ns : List Int} (h : ∃ n, BagI n ns) : ∃ n, BagI n (squareF p k ns).2 := by
  have h0 := rows0_bag hp k h
  unfold squareF
  split
  · exact h0
  · split
    · exact oneB (by decide) (pair_bag k (grabB (by decide) h0))
    · exact grabB (by decide) h0
end Num
/-! ## K03j -/
set_option Elab.async false
set_option linter.all false
set_option maxRecDepth 100000
set_option maxHeartbeats 1100000
namespace K03
open PySem L2 TD PySem.Spec PyProof.Rows
variable [TabW]
theorem apart_ints (d : Dt) : ∀ ns : List Int, apartL d (ns.map PyData.int) = true
  | [] => rfl
  | n :: ns => by
    show (apart d (.int n) && apartL d (ns.map PyData.int)) = true
    rw [apart_ints d ns]
    rfl
theorem apart_rows {rows : List (List Int)} {ns : List Int} (h : rows ≠ []) : apart (.list (rows.map lstI)) (lstI ns) = true := by
  show (clash (.list (rows.map lstI)) (ns.map PyData.int) && apartL _ (ns.map PyData.int)) = true
  rw [apart_ints, Bool.and_true]
  show ((rows.map lstI).map kdD != (ns.map PyData.int).map kdD) = true
  cases rows with
  | nil => exact absurd rfl h
  | cons r rows =>
    cases ns with
    | nil => rfl
    | cons n ns =>
      rw [bne_iff_ne]
      intro z
      exact absurd (List.cons.inj z).1 (by decide : ¬ (4 : Nat) = 2)
theorem ixN_nat {n k : Nat} (h : k < n) : ixN n (k : Int) = some k := by
  unfold ixN
  (rw [if_pos (by omega), if_pos (by omega)])
  rfl
section
variable {K : PySem.W.Frag} {ρ : Rho} {β β1 β2 : Bag} {tl te : TE} {E : XK} {i j : Nat} {ns : List Int}
theorem c_oneI {xs : List Int} (hi : ρ[i]? = some (some Slot.bag)) (h : EvB K tl ρ (some ns) (lstI xs) (some ns)) (hx : xs ≠ []) (hl : xs.length ≤ 1000) (hb : ∃ n, Num.BagI n ns) : EvB K (tCall (spR K R_law_one_of) [] E (tCons (tVar i) (tCons tl tNil))) ρ (some ns) (.int (Num.oneF xs ns).1) (some (Num.oneF xs ns).2) := by
  obtain ⟨n, hb⟩ := hb
  have hp : 0 < xs.length := List.length_pos_iff.mpr hx
  have hg := Num.grab_rng (t := (xs.length : Int)) (by omega) ns
  have e : ((xs.map PyData.int).length : Int) = (xs.length : Int) := by rw [List.length_map]
  have q := c_fD (K := K) (E := E) (a := fun ds : List Dt => [.imm (.list ds)]) (x := xs.map PyData.int) (ρ := ρ) (t := tCons (tVar i) (tCons tl tNil)) (a_bg hi (a_con h a_nil)) (P := fun ds => ds ≠ [] ∧ ds.length ≤ 1000) (g := fun ds ns => (ds.getD (Num.grabF (ds.length : Int) ns).1.toNat .none, (Num.grabF (ds.length : Int) ns).2)) ⟨by simpa using hx, by rw [List.length_map]; exact hl⟩ hb
  dsimp only at q
  rw [e] at q
  exact q.to (getD_int (by omega))
theorem c_oneD {xs : List Dt} (hi : ρ[i]? = some (some Slot.bag)) (h : EvB K tl ρ (some ns) (.list xs) (some ns)) (hx : xs ≠ []) (hl : xs.length ≤ 1000) (hb : ∃ n, Num.BagI n ns) : EvB K (tCall (spR K R_law_one_of) [] E (tCons (tVar i) (tCons tl tNil))) ρ (some ns) (xs.getD (Num.grabF (xs.length : Int) ns).1.toNat .none) (some (Num.grabF (xs.length : Int) ns).2) := by
  obtain ⟨n, hb⟩ := hb
  exact c_fD (a := fun ds : List Dt => [.imm (.list ds)]) (x := xs) (a_bg hi (a_con h a_nil)) (P := fun ds => ds ≠ [] ∧ ds.length ≤ 1000) (g := fun ds ns => (ds.getD (Num.grabF (ds.length : Int) ns).1.toNat .none, (Num.grabF (ds.length : Int) ns).2)) ⟨hx, hl⟩ hb
theorem c_grab {t : Int} (hi : ρ[i]? = some (some Slot.bag)) (h : EvB K tl ρ (some ns) (.int t) (some ns)) (ht : 0 < t) (hz : t ≤ 1000) (hb : ∃ n, Num.BagI n ns) : EvB K (tCall (spR K R_law_grab) [] E (tCons (tVar i) (tCons tl tNil))) ρ (some ns) (.int (Num.grabF t ns).1) (some (Num.grabF t ns).2) := by
  obtain ⟨n, hb⟩ := hb
  exact c_fD (a := fun t : Int => [.imm (.int t)]) (x := t) (P := fun t => 0 < t ∧ t.natAbs < 2 ^ 3000) (g := fun t ns => (.int (Num.grabF t ns).1, (Num.grabF t ns).2)) (a_bg hi (a_con h a_nil)) ⟨ht, Nat.lt_of_le_of_lt (m := 1000) (by omega) (by decide)⟩ hb
theorem d_listRg1 {k : Nat} (ha : EvB K te ρ β (.int (k : Int)) β1) (hk : k ≤ 1000) : EvB K (tLstRg (tRg1 te)) ρ β (lstI (Num.upto 0 k)) β1 := by
  refine ⟨ha.som, fun b G H σ Q E kk => ?_⟩
  refine ha.run b G H σ _ E fun v G1 H1 s1 k1 d1 => ?_
  cases d1
  refine ⟨(k : Int), rfl, RgOk.of_le (by omega) (by omega) (by omega) (by omega), fun q hq => ?_⟩
  have n := Step.new (b := b) (m := false) (o := .lst (rgV 0 (k : Int))) s1.s hq
  refine kk (.ref q) _ _ (s1.trans n.up) (k1.same n) (.lst upd_same ?_)
  rw [rgV_ints]
  have e : (((k : Int) - 0).toNat) = k := by omega
  rw [e]
  exact DenL.of_ints _
theorem cut_two {ds : List Dt} : TD.cutD ds none (some 2) = ds.take 2 := cut_to (k := 2)
/-- two places, drawn -/
theorem d_pair {tk : TE} {k : Nat} (hi : ρ[i]? = some (some Slot.bag)) (hk : EvB K tk ρ (some ns) (.int (k : Int)) (some ns)) (h2 : 2 ≤ k) (h6 : k ≤ 1000) (hb : ∃ n, Num.BagI n ns) {a b : Nat} {rest : List Int} (e : (Num.pairF k ns).1 = (a : Int) :: (b : Int) :: rest) :
    EvB K (tSl (rSlL K) (tCall (spR K R_law_mixed) [] E (tCons (tVar i) (tCons (tLstRg (tRg1 tk)) tNil))) tNoPart (tPart (tC (.int 2)))) ρ (some ns) (.list [.int (a : Int), .int (b : Int)]) (some (Num.pairF k ns).2) := by
  obtain ⟨n, hb⟩ := hb
  have em := Num.mixF_map (0 : Int) PyData.int k (Num.upto 0 k) ns (by rw [Num.upto_len]; omega)
  have hm : EvB K (tCall (spR K R_law_mixed) [] E (tCons (tVar i) (tCons (tLstRg (tRg1 tk)) tNil))) ρ (some ns) (lstI (Num.pairF k ns).1) (some (Num.pairF k ns).2) := by
    refine d_call (R := R_law_mixed) (r := lstI (Num.pairF k ns).1) (β2 := some (Num.pairF k ns).2) (a_bg hi (a_con (d_listRg1 hk (by omega)) a_nil)) ⟨_, (Num.upto 0 k).map PyData.int, n, ns, rfl, ⟨.inl rfl, by rw [List.length_map, Num.upto_len]; omega⟩, hb, ?_, rfl, ?_⟩ rfl
    · rw [List.length_map, Num.upto_len, em]; rfl
    · rw [List.length_map, Num.upto_len, em]; rfl
  refine (d_slL hm o_none (o_some d_int)).to ?_
  rw [cut_two, e]
  rfl
theorem LcR.rowsF (f : List Int → Int × List Int) (k : Nat) (hf : ∀ (d : Dt) {ns : List Int}, (∃ n, Num.BagI n ns) → EvB K te (ρ.set j (some (Slot.imm d))) (some ns) (lstI (Num.drawsF f k ns).1) (some (Num.drawsF f k ns).2)) (hb : ∀ {n : Int} {ns : List Int}, Num.BagI n ns → Num.BagI (n + 1) (f ns).2) :
    ∀ (ds : List Dt) {ns : List Int}, (∃ n, Num.BagI n ns) → LcR K j tYes te ds ρ (some ns) ((Num.rowsF f k ds.length ns).1.map lstI) (some (Num.rowsF f k ds.length ns).2)
  | [], _, _ => .nil _ _
  | d :: ds, ns, ⟨n, h⟩ => .yes t_yes0 (hf d ⟨n, h⟩) (LcR.rowsF f k hf hb ds ⟨n + k, Num.draws_bag hb k h⟩)
end


abbrev s_law_square : Stmt := top 57
theorem sc_law_square : FnScope ["_law_bag_here", "_law_prime", "_law_size", "_law_spread", "_law_found", "_law_place", "_law_turn", "_law_at", "_law_to", "_law_many", "_law_number_here"] ["_law_bag_here", "_law_prime", "_law_size"] (defScope s_law_square) := ⟨rfl, rfl, rfl, by decide +kernel, rfl, by decide +kernel, by decide +kernel⟩
abbrev R_law_square : FR := fD (fun q : Int × Nat => [.imm (.int q.1), .imm (.int (q.2 : Int))]) (fun q => Num.PrimeI q.1 ∧ 1 ≤ q.2 ∧ q.2 ≤ 6) fun q ns => (.list ((Num.squareF q.1 q.2 ns).1.map lstI), (Num.squareF q.1 q.2 ns).2)
theorem ok_law_square {P : Program} {w : World} {K : PySem.W.Frag} {mg : Str → Option Value} {base : Heap} {Y : Cn} (F : DefAt K "_law_square" s_law_square) (hX : K.In base) (hG : base.Ns mainGlobals mg) (T : Txt K mg Y) (G_law_one_of : FnG P w K mg base 2 "_law_one_of" ["_law_bag_here", "_law_items"] R_law_one_of) (G_law_number : FnG P w K mg base 2 "_law_number" ["_law_bag_here", "_law_prime", "_law_spread"] R_law_number) (G_law_grab : FnG P w K mg base 1 "_law_grab" ["_law_bag_here", "_law_total"] R_law_grab) (G_law_mixed : FnG P w K mg base 2 "_law_mixed" ["_law_bag_here", "_law_items"] R_law_mixed) (G_law_low : FnG P w K mg base 1 "_law_low" ["_law_prime", "_law_number_here"] R_law_low) : FnG P w K mg base 3 "_law_square" ["_law_bag_here", "_law_prime", "_law_size"] R_law_square := by
  have nd := sc_law_square.nd
  refine fn_mk F hX hG sc_law_square (fun as β r β' h => by first | exact FR.len h | (obtain ⟨_, rfl, _⟩ := h; rfl) | (obtain ⟨_, _, rfl, _⟩ := h; rfl) | (obtain ⟨_, _, _, rfl, _⟩ := h; rfl) | (obtain ⟨_, _, _, _, rfl, _⟩ := h; rfl) | (obtain ⟨_, _, _, _, _, rfl, _⟩ := h; rfl)) (fun _ _ _ _ _ _ _ us hl => match us, hl with | [_, _, _], _ => rfl) (fun f cdv A outer s H E hr => ⟨_, (pss_cons (ps_set (i := 3) nd rfl (Or.inr rfl) (pe_fn G_law_one_of (hr.mono (by decide)) (pa_cons (pv 0) (pa_cons (pe_lst (pa_cons pe_int (pa_cons pe_int (pa_cons pe_int pa_nil)))) pa_nil)))) (pss_cons (ps_setLc (i := 4) (own := [("_law_turn", 6)]) rfl nd rfl rfl (sw_true rfl rfl rfl (by decide +kernel)) (pi_range1 (by rfl) T.z_range (pa_cons (pv 2) pa_nil)) (blkOk_by (N := ["_law_bag_here", "_law_prime", "_law_size", "_law_spread", "_law_found", "_law_place", "_law_turn", "_law_at", "_law_to", "_law_many", "_law_number_here"]) (sc := defScope s_law_square) (by decide +kernel)) (fun _ _ _ _ _ => by exact (pg_name (i := 6) nd rfl (Or.inl rfl))) (fun _ _ _ _ _ => by exact pts_nil) (fun _ _ _ _ _ => by exact (pe_lc (own := [("_law_place", 5)]) rfl nd (pi_range1 (by rfl) T.z_range (pa_cons (pv 2) pa_nil)) (blkOk_by (N := ["_law_bag_here", "_law_prime", "_law_size", "_law_spread", "_law_found", "_law_place", "_law_turn", "_law_at", "_law_to", "_law_many", "_law_number_here"]) (sc := ({ kind := .function, names := [((".0" : Str), .local), ("_law_turn", .local), ("range", .globalImplicit), ("_law_bag_here", .cell), ("_law_prime", .cell), ("_law_size", .cell), ("_law_spread", .cell)], isGenerator := false, isCoroutine := false } : Scope)) (by decide +kernel)) (fun _ _ _ _ _ => by exact (pg_name (i := 5) nd rfl (Or.inl rfl))) (fun _ _ _ _ _ => by exact pts_nil) (fun _ _ _ _ _ => by exact (pe_fn G_law_number (hr.mono (by decide)) (pa_cons (pv 0) (pa_cons (pv 1) (pa_cons (pv 3) pa_nil)))))))) (pss_cons (ps_if (PW.pt (pw_and (pt_cmpR op_gt (pv 2) pe_int (nomark _)) (pw_and1 (pt_cmpR op_eq (pe_fn G_law_grab (hr.mono (by decide)) (pa_cons (pv 0) (pa_cons pe_int pa_nil))) pe_int (nomark _))))) (pss_cons (ps_asg (pe_slice sl_list (pe_fn G_law_mixed (hr.mono (by decide)) (pa_cons (pv 0) (pa_cons (pe_listRg rfl (by rfl) T.z_list (prg_1 (by rfl) T.z_range (pv 2))) pa_nil))) po_none (po_some pe_int)) (pg_unl rfl (pgs_cons (pg_name (i := 7) nd rfl (Or.inl rfl)) (pgs_cons (pg_name (i := 8) nd rfl (Or.inl rfl)) pgs_nil)))) (pss_cons (ps_set (i := 9) nd rfl (Or.inr rfl) (pe_fn G_law_one_of (hr.mono (by decide)) (pa_cons (pv 0) (pa_cons (pe_lst (pa_cons pe_int (pa_cons pe_int (pa_cons (pe_un un_neg pe_int) (pa_cons pe_int pa_nil))))) pa_nil)))) (pss_one (ps_asg (pe_lc (own := [("_law_number_here", 10)]) rfl nd (pi_list (pe_ix ix_list (pv 4) (pv 8) (fun _ _ => rfl))) (blkOk_by (N := ["_law_bag_here", "_law_prime", "_law_size", "_law_spread", "_law_found", "_law_place", "_law_turn", "_law_at", "_law_to", "_law_many", "_law_number_here"]) (sc := defScope s_law_square) (by decide +kernel)) (fun _ _ _ _ _ => by exact (pg_name (i := 10) nd rfl (Or.inl rfl))) (fun _ _ _ _ _ => by exact pts_nil) (fun _ _ _ _ _ => by exact (pe_fn G_law_low (hr.mono (by decide)) (pa_cons (pv 1) (pa_cons (pe_op op_mulW (pv 9) (pv 10)) pa_nil))))) (pg_sub (pv 4) (pv 7) set_list))))) pss_nil) (pss_one (ps_ret (pv 4)))))), fun as β r β' hR => ?_⟩)
  obtain ⟨⟨p, k⟩, n, ns, rfl, ⟨hp, h1, h6⟩, hb, rfl, rfl, rfl⟩ := hR
  dsimp only [cxOf, Cx.nox, Cx.wish] at *
  have hb0 : ∃ n, Num.BagI n ns := ⟨n, hb⟩
  have hs := Num.spread_ok ns
  have hb1 : ∃ n, Num.BagI n (Num.spreadF ns).2 := Num.oneB (by decide) hb0
  have hbr := Num.rows0_bag hp k hb0
  obtain ⟨sq, ent⟩ := Num.rows0_ok hp k ns
  refine .ret (st_seq (β1 := some (Num.spreadF ns).2) (st_asg (c_oneI (xs := [2, 4, 9]) rfl (d_lst (a_con (β1 := some ns) d_int (a_con (β1 := some ns) d_int (a_con (β1 := some ns) d_int a_nil))) rfl (by decide)) (by decide) (by decide) hb0)) ?_)
  show StB K _ [some .bag, some (.imm (.int p)), some (.imm (.int (k : Int))), some (.imm (.int (Num.spreadF ns).1)), none, none, none, none, none, none, none] _ _ _
  refine st_own (d := .list ((Num.rows0F p k ns).1.map lstI)) (β1 := some (Num.rows0F p k ns).2) (by show 4 < 11; decide) (en_lcR1 (n := (k : Int)) (d_var rfl) ⟨by omega, by omega⟩ ?rows (by rw [List.length_map, sq.1]; omega) (by decide)) ?rest
  case rows =>
    have q := LcR.rowsF (K := K) (ρ := wipeR [some .bag, some (.imm (.int p)), some (.imm (.int (k : Int))), some (.imm (.int (Num.spreadF ns).1)), none, none, none, none, none, none, none] [6]) (j := 6) (te := tLc (iRng1 (tCons (tVar 2) tNil)) (gName 5) tYes (tCall (spR K R_law_number) [] E0 (tCons (tVar 0) (tCons (tVar 1) (tCons (tVar 3) tNil)))) [5]) (Num.numberF p (Num.spreadF ns).1) k (fun d ms hm => ?_) (fun h => Num.number_bag hp hs.1 h) (rng 0 k) hb1
    · rw [rng_length] at q
      exact q
    · obtain ⟨m, hm⟩ := hm
      have q2 := LcR.draws (K := K) (ρ := wipeR [some .bag, some (.imm (.int p)), some (.imm (.int (k : Int))), some (.imm (.int (Num.spreadF ns).1)), none, none, some (.imm d), none, none, none, none] [5]) (j := 5) (te := tCall (spR K R_law_number) [] E0 (tCons (tVar 0) (tCons (tVar 1) (tCons (tVar 3) tNil)))) (Num.numberF p (Num.spreadF ns).1) (fun e n' ns' h => c_fD (x := (p, (Num.spreadF ns).1)) (a_bg rfl (a_con (d_var rfl) (a_con (d_var rfl) a_nil))) ⟨hp, hs.1, Int.le_trans hs.2 (by decide)⟩ h) (fun h => Num.number_bag hp hs.1 h) (rng 0 k) hm
      rw [rng_length] at q2
      exact d_lcR1 (i := (k : Int)) (d_var rfl) ⟨by omega, by omega⟩ q2 (by rw [List.length_map, Num.draws_len]; omega) (wipe_ok (by decide))
  case rest =>
    show StP K 4 _ [some .bag, some (.imm (.int p)), some (.imm (.int (k : Int))), some (.imm (.int (Num.spreadF ns).1)), none, none, none, none, none, none, none] _ _ _ _
    by_cases hk1 : k ≤ 1
    · have e : Num.squareF p k ns = Num.rows0F p k ns := if_pos hk1
      rw [e]
      exact sp_seq (sw_ifF (tw_plain fun q => t_andF ((t_test (d_gt (d_var rfl) d_int)).to (decide_eq_false (by omega)))) sw_next) (sp_end (st_ret (d_var rfl)))
    · have tt : ∀ (q : Addr) (c : Bool), decide ((Num.grabF 3 (Num.rows0F p k ns).2).1 = 0) = c → TtB K (tAnd (tTest (tOp (rI0 fun i j => V.bl (decide (j < i))) (tVar 2) (tC (.int 1)))) (tTest (tOp rEq (tCall (spR K R_law_grab) [] E0 (tCons (tVar 0) (tCons (tC (.int 3)) tNil))) (tC (.int 0))))) [some .bag, some (.imm (.int p)), some (.imm (.int (k : Int))), some (.imm (.int (Num.spreadF ns).1)), some (.fn q), none, none, none, none, none, none] (some (Num.rows0F p k ns).2) c (some (Num.grabF 3 (Num.rows0F p k ns).2).2) := fun q c hc => t_andT ((t_test (d_gt (d_var rfl) d_int)).to (decide_eq_true (by omega))) ((t_test (d_eqI (c_grab rfl d_int (by decide) (by decide) hbr) d_int)).to hc)
      by_cases hg : (Num.grabF 3 (Num.rows0F p k ns).2).1 = 0
      · have hbg := Num.grabB (t := 3) (by decide) hbr
        obtain ⟨a, b, rest, e, ha, hb', hab⟩ := Num.pair_ok (k := k) (by omega) (Num.grabF 3 (Num.rows0F p k ns).2).2
        have hbm := Num.pair_bag k hbg
        have es : Num.squareF p k ns = ((Num.rows0F p k ns).1.set a (Num.ledRow p (Num.multF4 (Num.pairF k (Num.grabF 3 (Num.rows0F p k ns).2).2).2).1 ((Num.rows0F p k ns).1.getD b [])), (Num.multF4 (Num.pairF k (Num.grabF 3 (Num.rows0F p k ns).2).2).2).2) := by
          unfold Num.squareF
          rw [if_neg hk1, if_pos hg, e]
          rfl
        rw [es]
        have hm := Num.mult4_mem (Num.pairF k (Num.grabF 3 (Num.rows0F p k ns).2).2).2
        have hla : a < (Num.rows0F p k ns).1.length := by rw [sq.1]; exact ha
        have hlb : b < (Num.rows0F p k ns).1.length := by rw [sq.1]; exact hb'
        have hmem := Num.getD_row hlb
        have hrl := sq.2 _ hmem
        refine sp_seq (sw_ifT (tw_plain fun q => tt q true (decide_eq_true hg)) (sw_seq (ρ1 := [some .bag, some (.imm (.int p)), some (.imm (.int (k : Int))), some (.imm (.int (Num.spreadF ns).1)), none, none, none, some (.imm (.int (a : Int))), some (.imm (.int (b : Int))), none, none]) (sw_plain rfl fun q => st_unpackL (is := [7, 8]) (n := 2) (ds := [.int (a : Int), .int (b : Int)]) (d_pair (k := k) rfl (d_var rfl) (by omega) (by omega) hbg e) rfl rfl) (sw_seq (sw_asg (by decide) (ew_plain fun q => c_oneI (xs := [1, 2, -1, 0]) rfl (d_lst (a_con (β1 := some _) d_int (a_con (β1 := some _) d_int (a_con (β1 := some _) (d_neg d_int) (a_con (β1 := some _) d_int a_nil)))) rfl (by decide)) (by decide) (by decide) hbm)) (sw_set (k := (a : Int)) (n := a) (x := lstI (Num.ledRow p (Num.multF4 (Num.pairF k (Num.grabF 3 (Num.rows0F p k ns).2).2).2).1 ((Num.rows0F p k ns).1.getD b []))) (ew_frz ?row ?ap) (ew_plain fun q => d_var rfl) ?ix)))) (sp_end (st_ret ((d_var rfl).to ?fin)))
        case row =>
          refine (d_lcL (ds := ((Num.rows0F p k ns).1.getD b []).map PyData.int) (d_ixL (i := (b : Int)) (d_var rfl) (d_var rfl) ?_) ?_ ?_ (wipe_ok (by decide)))
          · refine atI_nat ?_
            rw [List.getElem?_map, List.getElem?_eq_getElem hlb, List.getD_eq_getElem?_getD, List.getElem?_eq_getElem hlb]
            rfl
          · show LcR K _ _ _ _ _ _ ((((Num.rows0F p k ns).1.getD b []).map fun n => Num.settled p ((Num.multF4 (Num.pairF k (Num.grabF 3 (Num.rows0F p k ns).2).2).2).1 * n)).map PyData.int) _
            rw [List.map_map]
            refine lc_ints' (fun n => .int (Num.settled p ((Num.multF4 (Num.pairF k (Num.grabF 3 (Num.rows0F p k ns).2).2).2).1 * n))) fun n hn => ?_
            have hsz : n.natAbs ≤ 19 := by
              rcases ent _ hmem n hn with ⟨h, _⟩ | ⟨h, _⟩
              · omega
              · exact h.1
            exact c_f2 (d_var rfl) (d_mul (d_var rfl) (d_var rfl) (wide_mul (a := 10) (b := 10) (by omega) (by omega) (by decide) (by decide) (by decide))) hp.small.1
          · unfold Num.ledRow
            rw [List.length_map, List.length_map, hrl]
            omega
        case ap => exact apart_rows (fun z => by rw [z] at hla; exact Nat.not_lt_zero _ hla)
        case ix => exact ixN_nat (by rw [List.length_map]; exact hla)
        case fin => rw [List.map_set]
      · have es : Num.squareF p k ns = ((Num.rows0F p k ns).1, (Num.grabF 3 (Num.rows0F p k ns).2).2) := by
          unfold Num.squareF
          rw [if_neg hk1, if_neg hg]
        rw [es]
        exact sp_seq (sw_ifF (tw_plain fun q => tt q false (decide_eq_false hg)) sw_next) (sp_end (st_ret (d_var rfl)))

end K03
/-! ## K03k -/
set_option Elab.async false
set_option linter.all false
set_option maxRecDepth 100000
set_option maxHeartbeats 1100000
namespace K03
open PySem L2 TD PySem.Spec PyProof.Rows
variable [TabW]
def rReprI : List V → Hp → VK → Prop := fun xs H Q => ∃ i, xs = [.int i] ∧ i.natAbs.log2 < 1920 ∧ Q (.str (toString i)) H
theorem call_repr_i {X : Cx} : CallR X (.builtin "repr") rReprI := by
  rintro pins s σ H xs us Q I r ⟨i, rfl, hz, q⟩
  obtain ⟨u, rfl, hu⟩ := vals1 r
  obtain ⟨t, rfl⟩ := hu
  (exact PySem.P.repr_of_int hz ⟨.str _, H, I.tok _, ⟨_, rfl⟩, q⟩)
section
variable {K : PySem.W.Frag} {ρ : Rho} {β β1 : Bag} {te : TE}
theorem d_reprI {i : Int} (h : EvB K te ρ β (.int i) β1) (hz : i.natAbs.log2 < 1920) : EvB K (tCB rReprI (tCons te tNil)) ρ β (.str (toString i)) β1 := d_c1 h fun b G H v Q e dv k => by
  cases dv
  exact ⟨i, rfl, hz, k _ G H (Step.refl e) (.str _)⟩
end
theorem log_small {n k : Nat} (h : n < 2 ^ k) (hk : k ≤ 1900) : n.log2 < 1920 := by
  by_cases z : n = 0
  · subst z; decide
  · have := (Nat.log2_lt z).mpr h
    omega
/-- square rows of numbers over the prime -/
structure RowsOk (p : Int) (k : Nat) (rows : List (List Int)) : Prop where
  pr : Num.PrimeI p
  pos : 1 ≤ k
  few : k ≤ 6
  sq : Det.Sq k rows
  ent : ∀ r ∈ rows, ∀ x ∈ r, x.natAbs ≤ 2 ^ 100 ∧ (p ≠ 0 → 0 ≤ x ∧ x < p)
theorem RowsOk.det {p : Int} {k : Nat} {rows : List (List Int)} (h : RowsOk p k rows) : DetOk rows := ⟨by rw [h.sq.1]; exact h.sq, by rw [h.sq.1]; exact h.pos, by rw [h.sq.1]; exact h.few, fun r hr x hx => Nat.le_trans (h.ent r hr x hx).1 (Nat.pow_le_pow_right (by decide) (by decide))⟩
theorem RowsOk.sent {p : Int} {k : Nat} {rows : List (List Int)} (h : RowsOk p k rows) : Num.isTable p (.tuple (rows.map tupI)) = true ∧ ∀ n m : Int, n ≤ k → k ≤ m → Num.sqB n m (.tuple (rows.map tupI)) = true := by
  have hp := h.pos
  have hf := h.few
  have hs := h.sq
  cases rows with
  | nil => exact absurd hs.1 (by show ¬ 0 = k; omega)
  | cons r0 rest =>
    have l0 : r0.length = k := hs.2 r0 (List.mem_cons_self ..)
    have lr : rest.length + 1 = k := hs.1
    refine ⟨?_, fun n m h1 h2 => ?_⟩
    · show (decide ((rest.map tupI).length + 1 ≤ 90) && (decide (1 ≤ (r0.map PyData.int).length ∧ (r0.map PyData.int).length ≤ 140) && (((r0 :: rest).map tupI).all (Num.allFit p ((r0.map PyData.int).length : Int))))) = true
      rw [List.length_map, List.length_map, decide_eq_true (by omega), decide_eq_true (by omega), Bool.true_and, Bool.true_and, List.all_eq_true]
      intro d hd
      obtain ⟨r, hr, rfl⟩ := List.mem_map.mp hd
      refine Num.allFit_of (by rw [hs.2 r hr, l0]) fun m hm => ?_
      obtain ⟨e1, e2⟩ := h.ent r hr m hm
      have hb : (2 : Int) ^ 100 < Num.big := by decide
      have e3 : (m.natAbs : Int) ≤ 2 ^ 100 := by exact_mod_cast e1
      refine ⟨by omega, ?_⟩
      by_cases h0 : p = 0
      · exact .inl h0
      · exact .inr (e2 h0)
    · show decide (n ≤ ((rest.map tupI).length : Int) + 1 ∧ ((rest.map tupI).length : Int) + 1 ≤ m ∧ (r0.map PyData.int).length = (rest.map tupI).length + 1) = true
      rw [List.length_map, List.length_map]
      exact decide_eq_true ⟨by omega, by omega, by omega⟩
section
variable {K : PySem.W.Frag} {ρ : Rho} {β β1 : Bag} {tp tt : TE} {E : XK} {Y : Cn} {p : Int} {k : Nat} {rows : List (List Int)}
theorem c_given (h : EvB K tt ρ β (.list (rows.map lstI)) β1) (hr : RowsOk p k rows) : EvB K (tCall (spR K R_law_given) [] E0 (tCons tt tNil)) ρ β (.tuple (rows.map tupI)) β1 :=
  d_call0 (a_con h a_nil) ⟨rows, rfl, ⟨by rw [hr.sq.1]; exact Nat.le_trans hr.few (by decide), fun x hx => by rw [hr.sq.2 x hx]; exact Nat.le_trans hr.few (by decide)⟩, rfl, rfl, rfl⟩
theorem c_det (h1 : EvB K tp ρ β (.int p) β) (h : EvB K tt ρ β (.tuple (rows.map tupI)) β1) (hr : RowsOk p k rows) : EvB K (tCall (spX K (R_determinant Y)) [] E (tCons tp (tCons tt tNil))) ρ β (.int (Num.settled p (Det.detL (k - 1) rows))) β1 := by
  have e := hr.sq.1
  obtain ⟨s1, s2⟩ := hr.sent
  have hpos := hr.pos
  have hfew := hr.few
  refine x_call0 (a_con h1 (a_con h a_nil)) ⟨_, _, rfl, .inl ⟨p, rfl, hr.pr, .inr ⟨rows, by rw [s1, s2 1 6 (by omega) (by omega)]; rfl, rfl, hr.det, by rw [e]⟩⟩, rfl, rfl⟩
theorem c_val (h : EvB K tt ρ β (.list (rows.map lstI)) β1) (hr : RowsOk p k rows) : EvB K (tCall (spR K (R_val 6)) [] E0 (tCons tt tNil)) ρ β (.int (Det.detL (k - 1) rows)) β1 :=
  d_call0 (a_con h a_nil) ⟨rows, rfl, hr.det, hr.det.few, by rw [hr.sq.1], rfl, rfl⟩
end
theorem squareOk {p : Int} {k : Nat} (hp : Num.PrimeI p) (h1 : 1 ≤ k) (h6 : k ≤ 6) (ns : List Int) : RowsOk p k (Num.squareF p k ns).1 := by
  obtain ⟨a, b⟩ := Num.square_ok hp h1 ns
  exact ⟨hp, h1, h6, a, fun r hr x hx => ⟨Nat.le_trans (b r hr x hx).1 (by decide), (b r hr x hx).2⟩⟩
def sizeF (ns : List Int) : Nat := (1 + (Num.grabF 6 ns).1).toNat
theorem size_ok (ns : List Int) : (1 + (Num.grabF 6 ns).1) = (sizeF ns : Int) ∧ 1 ≤ sizeF ns ∧ sizeF ns ≤ 6 := by
  have := Num.grab_rng (t := 6) (by decide) ns
  unfold sizeF
  omega
def manyF3 (ns : List Int) : Int × List Int := Num.oneF [1, -1, 2] ns
theorem many3_mem (ns : List Int) : (manyF3 ns).1.natAbs ≤ 2 := by
  have h : (manyF3 ns).1 ∈ ([1, -1, 2] : List Int) := Num.one_mem (by decide) ns
  simp only [List.mem_cons, List.not_mem_nil, or_false] at h
  rcases h with h | h | h <;> rw [h] <;> decide
def detBag (p : Int) (ns : List Int) : List Int :=
  if sizeF ns = 1 then (Num.squareF p (sizeF ns) (Num.grabF 6 ns).2).2
  else (manyF3 (Num.pairF (sizeF ns) (Num.squareF p (sizeF ns) (Num.grabF 6 ns).2).2).2).2
theorem det_bag {p : Int} (hp : Num.PrimeI p) {ns : List Int} (h : ∃ n, Num.BagI n ns) : ∃ n, Num.BagI n (detBag p ns) := by
  have h1 := Num.square_bag hp (sizeF ns) (Num.grabB (t := 6) (by decide) h)
  unfold detBag
  split
  · exact h1
  · exact Num.oneB (by decide) (Num.pair_bag _ h1)
theorem getD_ent {r : List Int} {j : Nat} (h : j < r.length) : r.getD j 0 = r[j] := by
  rw [List.getD_eq_getElem?_getD, List.getElem?_eq_getElem h]
  rfl
theorem set_rows {p : Int} {k : Nat} {rows : List (List Int)} (h : RowsOk p k rows) {a : Nat} {r : List Int} (hl : r.length = k) (he : ∀ x ∈ r, x.natAbs ≤ 2 ^ 100 ∧ (p ≠ 0 → 0 ≤ x ∧ x < p)) : RowsOk p k (rows.set a r) :=
  ⟨h.pr, h.pos, h.few, Det.sq_set h.sq hl, fun s hs => by
    rcases Num.set_mem hs with rfl | hs
    · exact he
    · exact h.ent s hs⟩


abbrev s_law_determinants_right : Stmt := top 59
theorem sc_law_determinants_right : FnScope ["_law_bag_here", "_law_prime", "_law_size", "_law_rows", "_law_due", "_law_at", "_law_to", "_law_turned", "_law_many", "_law_added", "_law_one", "_law_other", "_law_across", "_law_row", "_law_place", "_law_told", "_law_some"] ["_law_bag_here", "_law_prime"] (defScope s_law_determinants_right) := ⟨rfl, rfl, rfl, by decide +kernel, rfl, by decide +kernel, by decide +kernel⟩
abbrev R_law_determinants_right : FR := fD (fun p : Int => [.imm (.int p)]) Num.PrimeI fun p ns => (.bool true, detBag p ns)
theorem ok_law_determinants_right {P : Program} {w : World} {K : PySem.W.Frag} {mg : Str → Option Value} {base : Heap} {Y : Cn} (F : DefAt K "_law_determinants_right" s_law_determinants_right) (hX : K.In base) (hG : base.Ns mainGlobals mg) (T : Txt K mg Y) (G_law_square : FnG P w K mg base 3 "_law_square" ["_law_bag_here", "_law_prime", "_law_size"] R_law_square) (G_law_low : FnG P w K mg base 1 "_law_low" ["_law_prime", "_law_number_here"] R_law_low) (G_law_one_of : FnG P w K mg base 2 "_law_one_of" ["_law_bag_here", "_law_items"] R_law_one_of) (G_law_grab : FnG P w K mg base 1 "_law_grab" ["_law_bag_here", "_law_total"] R_law_grab) (G_law_value_of : FnG P w K mg base 7 "_law_value_of" ["_law_rows"] (R_val 6)) (G_law_mixed : FnG P w K mg base 2 "_law_mixed" ["_law_bag_here", "_law_items"] R_law_mixed) (G_determinant : FnX P w K mg base 9 "determinant" ["prime", "table"] (R_determinant Y)) (G_law_given : FnG P w K mg base 1 "_law_given" ["_law_rows"] R_law_given) : FnG P w K mg base 10 "_law_determinants_right" ["_law_bag_here", "_law_prime"] R_law_determinants_right := by
  have nd := sc_law_determinants_right.nd
  refine fn_mk F hX hG sc_law_determinants_right (fun as β r β' h => by first | exact FR.len h | (obtain ⟨_, rfl, _⟩ := h; rfl) | (obtain ⟨_, _, rfl, _⟩ := h; rfl) | (obtain ⟨_, _, _, rfl, _⟩ := h; rfl) | (obtain ⟨_, _, _, _, rfl, _⟩ := h; rfl) | (obtain ⟨_, _, _, _, _, rfl, _⟩ := h; rfl)) (fun _ _ _ _ _ _ _ us hl => match us, hl with | [_, _], _ => rfl) (fun f cdv A outer s H E hr => ⟨_, (pss_cons (ps_set (i := 2) nd rfl (Or.inl rfl) (pe_op op_add pe_int (pe_fn G_law_grab (hr.mono (by decide)) (pa_cons (pv 0) (pa_cons pe_int pa_nil))))) (pss_cons (ps_set (i := 3) nd rfl (Or.inr rfl) (pe_fn G_law_square (hr.mono (by decide)) (pa_cons (pv 0) (pa_cons (pv 1) (pa_cons (pv 2) pa_nil))))) (pss_cons (ps_set (i := 4) nd rfl (Or.inl rfl) (pe_fn G_law_low (hr.mono (by decide)) (pa_cons (pv 1) (pa_cons (pe_fn G_law_value_of (hr.mono (by decide)) (pa_cons (pv 3) pa_nil)) pa_nil)))) (pss_cons (ps_if (pt_cmpR op_ne (pe_callB call_repr_i (by rfl) T.z_repr bo_repr (pa_cons (pe_fnX (E := E0) G_determinant (hr.mono (by decide)) passL (pa_cons (pv 1) (pa_cons (pe_fn G_law_given (hr.mono (by decide)) (pa_cons (pv 3) pa_nil)) pa_nil))) pa_nil)) (pe_callB call_repr_i (by rfl) T.z_repr bo_repr (pa_cons (pv 4) pa_nil)) (nomark _)) (pss_one (ps_ret pe_bl)) pss_nil) (pss_cons (ps_if (pt_cmpR op_eq (pv 2) pe_int (nomark _)) (pss_one (ps_ret pe_bl)) pss_nil) (pss_cons (ps_asg (pe_slice sl_list (pe_fn G_law_mixed (hr.mono (by decide)) (pa_cons (pv 0) (pa_cons (pe_listRg rfl (by rfl) T.z_list (prg_1 (by rfl) T.z_range (pv 2))) pa_nil))) po_none (po_some pe_int)) (pg_unl rfl (pgs_cons (pg_name (i := 5) nd rfl (Or.inl rfl)) (pgs_cons (pg_name (i := 6) nd rfl (Or.inl rfl)) pgs_nil)))) (pss_cons (ps_set (i := 7) nd rfl (Or.inl rfl) (pe_callTy c_list (by rfl) T.z_list bo_list (pa_cons (pv 3) pa_nil))) (pss_cons (ps_asg (pe_tup (pa_cons (pe_ix ix_list (pv 3) (pv 6) (fun _ _ => rfl)) (pa_cons (pe_ix ix_list (pv 3) (pv 5) (fun _ _ => rfl)) pa_nil))) (pg_tup rfl (pgs_cons (pg_sub (pv 7) (pv 5) set_list) (pgs_cons (pg_sub (pv 7) (pv 6) set_list) pgs_nil)))) (pss_cons (ps_set (i := 8) nd rfl (Or.inr rfl) (pe_fn G_law_one_of (hr.mono (by decide)) (pa_cons (pv 0) (pa_cons (pe_lst (pa_cons pe_int (pa_cons (pe_un un_neg pe_int) (pa_cons pe_int pa_nil)))) pa_nil)))) (pss_cons (ps_set (i := 9) nd rfl (Or.inl rfl) (pe_callTy c_list (by rfl) T.z_list bo_list (pa_cons (pv 3) pa_nil))) (pss_cons (ps_asg (pe_lc (own := [("_law_one", 10), ("_law_other", 11)]) rfl nd (RZ.pi_zipA (by rfl) T.z_zip (pa_cons (pe_ix ix_list (pv 3) (pv 5) (fun _ _ => rfl)) (pa_cons (pe_ix ix_list (pv 3) (pv 6) (fun _ _ => rfl)) pa_nil))) (blkOk_by (N := ["_law_bag_here", "_law_prime", "_law_size", "_law_rows", "_law_due", "_law_at", "_law_to", "_law_turned", "_law_many", "_law_added", "_law_one", "_law_other", "_law_across", "_law_row", "_law_place", "_law_told", "_law_some"]) (sc := defScope s_law_determinants_right) (by decide +kernel)) (fun _ _ _ _ _ => by exact (pg_tupK (K := K) (n := 2) rfl (pgs_cons (pg_name (i := 10) nd rfl (Or.inl rfl)) (pgs_cons (pg_name (i := 11) nd rfl (Or.inl rfl)) pgs_nil)))) (fun _ _ _ _ _ => by exact pts_nil) (fun _ _ _ _ _ => by exact (pe_fn G_law_low (hr.mono (by decide)) (pa_cons (pv 1) (pa_cons (pe_op op_add (pv 10) (pe_op op_mulW (pv 8) (pv 11))) pa_nil))))) (pg_sub (pv 9) (pv 5) set_list)) (pss_cons (ps_setLc (i := 12) (own := [("_law_place", 14)]) rfl nd rfl rfl (sw_true rfl rfl rfl (by decide +kernel)) (pi_range1 (by rfl) T.z_range (pa_cons (pv 2) pa_nil)) (blkOk_by (N := ["_law_bag_here", "_law_prime", "_law_size", "_law_rows", "_law_due", "_law_at", "_law_to", "_law_turned", "_law_many", "_law_added", "_law_one", "_law_other", "_law_across", "_law_row", "_law_place", "_law_told", "_law_some"]) (sc := defScope s_law_determinants_right) (by decide +kernel)) (fun _ _ _ _ _ => by exact (pg_name (i := 14) nd rfl (Or.inr rfl))) (fun _ _ _ _ _ => by exact pts_nil) (fun _ _ _ _ _ => by exact (pe_lc (own := [("_law_row", 13)]) rfl nd (pi_listK (K := K) (pv 3)) (blkOk_by (N := ["_law_bag_here", "_law_prime", "_law_size", "_law_rows", "_law_due", "_law_at", "_law_to", "_law_turned", "_law_many", "_law_added", "_law_one", "_law_other", "_law_across", "_law_row", "_law_place", "_law_told", "_law_some"]) (sc := ({ kind := .function, names := [((".0" : Str), .local), ("_law_place", .cell), ("_law_rows", .cell)], isGenerator := false, isCoroutine := false } : Scope)) (by decide +kernel)) (fun _ _ _ _ _ => by exact (pg_name (i := 13) nd rfl (Or.inl rfl))) (fun _ _ _ _ _ => by exact pts_nil) (fun _ _ _ _ _ => by exact (pe_ix (ix_ofK (K := K) (r := rIxL) ix_list) (pv 13) (pv 14) (fun _ _ => rfl)))))) (pss_cons (ps_setLc (i := 15) (own := [("_law_some", 16)]) rfl nd rfl rfl (sw_true rfl rfl rfl (by decide +kernel)) (pi_tup (pe_tup (pa_cons (pv 7) (pa_cons (pv 9) (pa_cons (pv 12) pa_nil))))) (blkOk_by (N := ["_law_bag_here", "_law_prime", "_law_size", "_law_rows", "_law_due", "_law_at", "_law_to", "_law_turned", "_law_many", "_law_added", "_law_one", "_law_other", "_law_across", "_law_row", "_law_place", "_law_told", "_law_some"]) (sc := defScope s_law_determinants_right) (by decide +kernel)) (fun _ _ _ _ _ => by exact (pg_name (i := 16) nd rfl (Or.inl rfl))) (fun _ _ _ _ _ => by exact pts_nil) (fun _ _ _ _ _ => by exact (pe_fnX (E := E0) G_determinant (hr.mono (by decide)) passL (pa_cons (pv 1) (pa_cons (pe_fn G_law_given (hr.mono (by decide)) (pa_cons (pv 16) pa_nil)) pa_nil))))) (pss_one (ps_ret (pe_cmpR (op_eqD hr.units) (pv 15) (pe_lst (pa_cons (pe_fn G_law_low (hr.mono (by decide)) (pa_cons (pv 1) (pa_cons (pe_op op_sub pe_int (pv 4)) pa_nil))) (pa_cons (pv 4) (pa_cons (pv 4) pa_nil)))) (nomark _))))))))))))))))), fun as β r β' hR => ?_⟩)
  obtain ⟨p, n, ns, rfl, hp, hb, rfl, rfl, rfl⟩ := hR
  dsimp only [cxOf, Cx.nox, Cx.wish] at *
  have hb0 : ∃ n, Num.BagI n ns := ⟨n, hb⟩
  obtain ⟨ek, k1, k6⟩ := size_ok ns
  have hbg := Num.grabB (t := 6) (by decide) hb0
  have hbs := Num.square_bag hp (sizeF ns) hbg
  have ed : detBag p ns = if sizeF ns = 1 then (Num.squareF p (sizeF ns) (Num.grabF 6 ns).2).2 else (manyF3 (Num.pairF (sizeF ns) (Num.squareF p (sizeF ns) (Num.grabF 6 ns).2).2).2).2 := rfl
  rw [ed]
  have ok := squareOk hp k1 k6 (Num.grabF 6 ns).2
  have ent := (Num.square_ok hp k1 (Num.grabF 6 ns).2).2
  refine .ret (st_seq (β1 := some (Num.grabF 6 ns).2) (st_asg ((d_add (β1 := some ns) d_int (c_grab rfl d_int (by decide) (by decide) hb0)).to (congrArg PyData.int ek))) ?_)
  generalize sizeF ns = k at *
  refine st_seq (β1 := some (Num.squareF p k (Num.grabF 6 ns).2).2) (st_asg (hbg.elim fun m hm => c_fD (x := (p, k)) (a_bg rfl (a_con (d_var rfl) (a_con (d_var rfl) a_nil))) ⟨hp, k1, k6⟩ hm)) ?_
  generalize (Num.squareF p k (Num.grabF 6 ns).2).1 = rows at *
  generalize (Num.squareF p k (Num.grabF 6 ns).2).2 = ms at *
  obtain ⟨D, hD⟩ : ∃ D, D = Det.detL (k - 1) rows := ⟨_, rfl⟩
  refine st_sq (st_asg (d := .int (Num.settled p D)) (c_f2 (x := p) (y := D) (d_var rfl) (by rw [hD]; exact c_val (d_var rfl) ok) hp.small.1)) ?_
  show StB K _ [some .bag, some (.imm (.int p)), some (.imm (.int (k : Int))), some (.imm (.list (rows.map lstI))), some (.imm (.int (Num.settled p D))), none, none, none, none, none, none, none, none, none, none, none, none] _ _ _
  have hDb : (Num.settled p D).natAbs.log2 < 1920 := by
    have hb := Det.detL_le 100 (k - 1) (by omega) (rows := rows) fun r hr x hx => (ok.ent r hr x hx).1
    rw [← hD] at hb
    have hb2 : D.natAbs < 2 ^ 700 := Nat.lt_of_le_of_lt hb (Nat.pow_lt_pow_right (by decide) (by omega))
    exact log_small (Num.settled_sz hp hb2 (by decide)) (by decide)
  refine st_sq (st_ifF ((t_test (d_neS (d_reprI (i := Num.settled p D) (by rw [hD]; exact c_det (d_var rfl) (c_given (d_var rfl) ok) ok) hDb) (d_reprI (d_var rfl) hDb))).to (by rw [decide_eq_true rfl]; rfl)) st_next) ?_
  by_cases hk : k = 1
  · rw [if_pos hk]
    exact st_seqR (st_ifT ((t_test (d_eqI (d_var rfl) d_int)).to (decide_eq_true (by omega))) (st_ret d_bl))
  · rw [if_neg hk]
    obtain ⟨n1, hn1⟩ : ∃ n1, k = n1 + 1 := ⟨k - 1, by omega⟩
    obtain ⟨a, b, rest, e, ha, hb', hab⟩ := Num.pair_ok (k := k) (by omega) ms
    have hbm := Num.pair_bag k hbs
    refine st_sq (st_ifF ((t_test (d_eqI (d_var rfl) d_int)).to (decide_eq_false (by omega))) st_next) ?_
    refine st_seq (β1 := some (Num.pairF k ms).2) (st_unpackL (is := [5, 6]) (n := 2) (ds := [.int (a : Int), .int (b : Int)]) (d_pair (k := k) rfl (d_var rfl) (by omega) (by omega) hbs e) rfl rfl) ?_
    generalize (Num.pairF k ms).2 = ks at *
    have hla : a < rows.length := by rw [ok.sq.1]; exact ha
    have hlb : b < rows.length := by rw [ok.sq.1]; exact hb'
    have ma := Num.getD_row hla
    have mb := Num.getD_row hlb
    have la := ok.sq.2 _ ma
    have lb := ok.sq.2 _ mb
    have ia : atI (rows.map lstI) (a : Int) = some (lstI (rows.getD a [])) := atI_nat (by rw [List.getElem?_map, List.getElem?_eq_getElem hla, List.getD_eq_getElem?_getD, List.getElem?_eq_getElem hla]; rfl)
    have ib : atI (rows.map lstI) (b : Int) = some (lstI (rows.getD b [])) := atI_nat (by rw [List.getElem?_map, List.getElem?_eq_getElem hlb, List.getD_eq_getElem?_getD, List.getElem?_eq_getElem hlb]; rfl)
    show StB K _ [some .bag, some (.imm (.int p)), some (.imm (.int (k : Int))), some (.imm (.list (rows.map lstI))), some (.imm (.int (Num.settled p D))), some (.imm (.int (a : Int))), some (.imm (.int (b : Int))), none, none, none, none, none, none, none, none, none, none] _ _ _
    refine st_own (d := .list (rows.map lstI)) (by show 7 < 17; decide) (en_listOf (d_var rfl) (.inl rfl)) ?_
    refine sp_seq (sw_set2 (n := a) (m := b) (k := (a : Int)) (l := (b : Int)) (d_ixL (d_var rfl) (d_var rfl) ib) (d_ixL (d_var rfl) (d_var rfl) ia) (d_var rfl) (d_var rfl) (ixN_nat (by rw [List.length_map]; exact hla)) (ixN_nat (by rw [List.length_map]; exact hlb))) (sp_end ?_)
    have okT : RowsOk p k ((rows.set a (rows.getD b [])).set b (rows.getD a [])) := set_rows (set_rows ok lb (ok.ent _ mb)) la (ok.ent _ ma)
    have dT : Det.detL (k - 1) ((rows.set a (rows.getD b [])).set b (rows.getD a [])) = -D := by
      have sq := ok.sq
      rw [hn1] at sq
      rw [hD, hn1]
      exact Det.detL_turned sq (by omega) (by omega) hab
    rw [← List.map_set, ← List.map_set]
    generalize (rows.set a (rows.getD b [])).set b (rows.getD a []) = rowsT at *
    show StB K _ [some .bag, some (.imm (.int p)), some (.imm (.int (k : Int))), some (.imm (.list (rows.map lstI))), some (.imm (.int (Num.settled p D))), some (.imm (.int (a : Int))), some (.imm (.int (b : Int))), some (.imm (.list (rowsT.map lstI))), none, none, none, none, none, none, none, none, none] _ _ _
    have hcm := many3_mem ks
    refine st_seq (β1 := some (manyF3 ks).2) (st_asg (c_oneI (xs := [1, -1, 2]) rfl (d_lst (a_con (β1 := some ks) d_int (a_con (β1 := some ks) (d_neg d_int) (a_con (β1 := some ks) d_int a_nil))) rfl (by decide)) (by decide) (by decide) hbm)) ?_
    show StB K _ [some .bag, some (.imm (.int p)), some (.imm (.int (k : Int))), some (.imm (.list (rows.map lstI))), some (.imm (.int (Num.settled p D))), some (.imm (.int (a : Int))), some (.imm (.int (b : Int))), some (.imm (.list (rowsT.map lstI))), some (.imm (.int (manyF3 ks).1)), none, none, none, none, none, none, none, none] _ _ _
    generalize (manyF3 ks).1 = c at *
    generalize (manyF3 ks).2 = js at *
    obtain ⟨u, hu⟩ : ∃ u, u = ((rows.getD a []).zip (rows.getD b [])).map fun q => Num.settled p (q.1 + c * q.2) := ⟨_, rfl⟩
    have sa : ∀ x ∈ rows.getD a [], x.natAbs ≤ 19 := fun x hx => (ent _ ma x hx).1
    have sb : ∀ x ∈ rows.getD b [], x.natAbs ≤ 19 := fun x hx => (ent _ mb x hx).1
    have lu : u.length = k := by rw [hu, List.length_map, List.length_zip]; omega
    have okA : RowsOk p k (rows.set a u) := set_rows ok lu fun x hx => by
      rw [hu] at hx
      obtain ⟨q, hq, rfl⟩ := List.mem_map.mp hx
      have h1 := sa _ (List.of_mem_zip hq).1
      have h2 := sb _ (List.of_mem_zip hq).2
      have h3 : (c * q.2).natAbs ≤ 2 * 19 := by rw [Int.natAbs_mul]; exact Nat.mul_le_mul hcm h2
      have h4 : (q.1 + c * q.2).natAbs < 2 ^ 10 := by omega
      refine ⟨Nat.le_trans (Nat.le_of_lt (Num.settled_sz hp h4 (by decide))) (Nat.pow_le_pow_right (by decide) (by decide)), fun h0 => Num.settled_rng hp h0⟩
    have dA : Num.settled p (Det.detL (k - 1) (rows.set a u)) = Num.settled p D := by
      have sq := ok.sq
      rw [hn1] at sq lu la lb
      rw [hD, hn1]
      refine Det.detL_added sq (by omega) (by omega) hab c lu fun j hj => ?_
      have j1 : j < (rows.getD a []).length := by omega
      have j2 : j < (rows.getD b []).length := by omega
      show p ∣ u.getD j 0 - ((rows.getD a []).getD j 0 + c * (rows.getD b []).getD j 0)
      rw [getD_ent j1, getD_ent j2, getD_ent (r := u) (by omega)]
      have eu : u[j]'(by omega) = Num.settled p ((rows.getD a [])[j] + c * (rows.getD b [])[j]) := by
        simp only [hu, List.getElem_map, List.getElem_zip]
      rw [eu]
      exact Det.settled_eq.mp (Num.cong_settled p _)
    refine st_own (d := .list (rows.map lstI)) (by show 9 < 17; decide) (en_listOf (d_var rfl) (.inl rfl)) ?_
    refine sp_seq (β1 := some js) (sw_set (β1 := some js) (β2 := some js) (k := (a : Int)) (n := a) (x := lstI u) (ew_plain fun q => ?zip) (ew_plain fun q => d_var rfl) (ixN_nat (by rw [List.length_map]; exact hla))) (sp_end ?_)
    case zip =>
      refine d_lcZL (xs := (rows.getD a []).map PyData.int) (ys := (rows.getD b []).map PyData.int) (d_ixL (d_var rfl) (d_var rfl) ia) (d_ixL (d_var rfl) (d_var rfl) ib) (by rw [List.length_map, List.length_map, la, lb]) ?_ (by rw [List.length_map, lu]; omega) (show 10 ∈ [10, 11] by decide) (show 11 ∈ [10, 11] by decide)
      rw [zip_ints, hu, List.map_map]
      refine LcZ.ints (fun n m => .int (Num.settled p (n + c * m))) fun n m hn hm => ?_
      have h2 := sb m hm
      exact c_f2 (d_var rfl) (d_add (d_var rfl) (d_mul (d_var rfl) (d_var rfl) (wide_mul (a := 10) (b := 10) (by omega) (by omega) (by decide) (by decide) (by decide)))) hp.small.1
    rw [← List.map_set]
    have okX : RowsOk p k (Det.acrossL k rows) := ⟨hp, k1, k6, Det.sq_across ok.sq, fun r hr x hx => by
      obtain ⟨j, hj, rfl⟩ := List.mem_map.mp hr
      obtain ⟨r', hr', rfl⟩ := List.mem_map.mp hx
      have hj := List.mem_range.mp hj
      have l' := ok.sq.2 r' hr'
      show (r'.getD j 0).natAbs ≤ 2 ^ 100 ∧ (p ≠ 0 → 0 ≤ r'.getD j 0 ∧ r'.getD j 0 < p)
      rw [getD_ent (by omega)]
      exact ok.ent r' hr' _ (List.getElem_mem _)⟩
    have dX : Det.detL (k - 1) (Det.acrossL k rows) = D := by
      have sq := ok.sq
      rw [hn1] at sq
      rw [hD, hn1]
      exact Det.detL_across sq
    generalize rows.set a u = rowsA at *
    show StB K _ [some .bag, some (.imm (.int p)), some (.imm (.int (k : Int))), some (.imm (.list (rows.map lstI))), some (.imm (.int (Num.settled p D))), some (.imm (.int (a : Int))), some (.imm (.int (b : Int))), some (.imm (.list (rowsT.map lstI))), some (.imm (.int c)), some (.imm (.list (rowsA.map lstI))), none, none, none, none, none, none, none] _ _ _
    refine st_sq (st_asg (d := .list ((Det.acrossL k rows).map lstI)) ?across) ?_
    case across =>
      refine (d_lcR1 (i := (k : Int)) (rs := (List.range k).map fun j => lstI (rows.map fun r => r.getD j 0)) (d_var rfl) ⟨by omega, by omega⟩ ?_ (by rw [List.length_map, List.length_range]; omega) (wipe_ok (by decide))).to (by show _ = PyData.list (((List.range k).map fun j => rows.map fun r => r.getD j 0).map lstI); rw [List.map_map]; rfl)
      show LcR K 14 _ _ ((List.range k).map fun (i : Nat) => PyData.int (0 + (i : Int))) _ _ _ _
      refine lc_map (fun (i : Nat) => PyData.int (0 + (i : Int))) (fun j => lstI (rows.map fun r => r.getD j 0)) (List.range k) fun j hj => ?_
      have hj := List.mem_range.mp hj
      refine (d_lcL (ds := rows.map lstI) (rs := rows.map fun r => PyData.int (r.getD j 0)) (d_var rfl) ?_ (by rw [List.length_map, ok.sq.1]; omega) (wipe_ok (by decide))).to (by show _ = PyData.list ((rows.map fun r => r.getD j 0).map PyData.int); rw [List.map_map]; rfl)
      refine lc_map lstI (fun r => PyData.int (r.getD j 0)) rows fun r hr => ?_
      have hl := ok.sq.2 r hr
      refine d_ixL (ds := r.map PyData.int) (i := (0 + (j : Int))) (d_var rfl) (d_var rfl) ?_
      rw [Int.zero_add]
      refine atI_nat ?_
      rw [List.getElem?_map, List.getElem?_eq_getElem (by omega), getD_ent (by omega)]
      rfl
    show StB K _ [some .bag, some (.imm (.int p)), some (.imm (.int (k : Int))), some (.imm (.list (rows.map lstI))), some (.imm (.int (Num.settled p D))), some (.imm (.int (a : Int))), some (.imm (.int (b : Int))), some (.imm (.list (rowsT.map lstI))), some (.imm (.int c)), some (.imm (.list (rowsA.map lstI))), none, none, some (.imm (.list ((Det.acrossL k rows).map lstI))), none, none, none, none] _ _ _
    refine st_sq (st_asg (d := lstI [Num.settled p (-D), Num.settled p D, Num.settled p D]) ?told) ?_
    case told =>
      refine d_lcT (ds := [.list (rowsT.map lstI), .list (rowsA.map lstI), .list ((Det.acrossL k rows).map lstI)]) (d_tup (a_con (β1 := some js) (d_var rfl) (a_con (β1 := some js) (d_var rfl) (a_con (β1 := some js) (d_var rfl) a_nil))) rfl (by show 3 ≤ 100000; decide)) ?_ (by show 3 ≤ 100000; decide) (wipe_ok (by decide))
      refine .yes t_yes0 ((c_det (d_var rfl) (c_given (d_var rfl) okT) okT).to (by rw [dT])) (.yes t_yes0 ((c_det (d_var rfl) (c_given (d_var rfl) okA) okA).to (by rw [dA])) (.yes t_yes0 ((c_det (d_var rfl) (c_given (d_var rfl) okX) okX).to (by rw [dX])) (.nil _ _)))
    refine st_ret ((d_eqLL (ms := [Num.settled p (-D), Num.settled p D, Num.settled p D]) (ns := [Num.settled p (0 - Num.settled p D), Num.settled p D, Num.settled p D]) (d_var rfl) (d_lst (a_con (β1 := some js) (c_f2 (x := p) (y := 0 - Num.settled p D) (d_var rfl) (d_sub d_int (d_var rfl)) hp.small.1) (a_con (β1 := some js) (d_var rfl) (a_con (β1 := some js) (d_var rfl) a_nil))) rfl (by show 3 ≤ 100000; decide))).to (congrArg PyData.bool (decide_eq_true ?_)))
    have : Num.settled p (-D) = Num.settled p (0 - Num.settled p D) := by
      have q := (Num.Cong.refl p 0).sub (Num.cong_settled p D)
      have q2 : Num.settled p (0 - Num.settled p D) = Num.settled p (0 - D) := q
      rw [q2, Int.zero_sub]
    rw [this]

end K03
/-! ## TdDi -/
set_option Elab.async false
set_option linter.all false
set_option maxRecDepth 100000
set_option maxHeartbeats 4100000
/-! Dicts whose keys are ints: asked, filled, sorted, measured. -/
namespace TD
open PySem L2 PySem.Spec PyProof.Rows
open Evl (Ex ex_l ex_t fresh_back sq_of st_of sz_of sz_lt)
abbrev dI (qs : List (Int × Dt)) : Dt := dctD (qs.map fun q => (PyData.int q.1, q.2))
def getI {α : Type} (qs : List (Int × α)) (i : Int) : Option α := (qs.find? fun q => decide (q.1 = i)).map (·.2)
def putI {α : Type} (qs : List (Int × α)) (i : Int) (v : α) : List (Int × α) := if (qs.any fun q => decide (q.1 = i)) = true then qs.map (fun q => if q.1 = i then (q.1, v) else q) else qs ++ [(i, v)]
section
variable {K : PySem.W.Frag} {G : Hp}
theorem inl_dec (a b : Int) : decide ((Sum.inl a : Key) = Sum.inl b) = decide (a = b) := by
  by_cases h : a = b
  · subst h; rw [decide_eq_true rfl, decide_eq_true rfl]
  · rw [decide_eq_false h, decide_eq_false fun z => h (Sum.inl.inj z)]
theorem keys_val (i : Int) : ∀ kvs : List (Int × V), valV (keysO kvs) (Sum.inl i) = getI kvs i
  | [] => rfl
  | q :: kvs => by
    unfold valV getI
    show ((((Sum.inl q.1 : Key), q.2) :: keysO kvs).find? _).map _ = _
    rw [List.find?_cons, List.find?_cons]
    show Option.map _ (match decide ((Sum.inl q.1 : Key) = Sum.inl i) with | true => some ((Sum.inl q.1 : Key), q.2) | false => (keysO kvs).find? _) = _
    rw [inl_dec]
    by_cases h : q.1 = i
    · rw [decide_eq_true h]; rfl
    · rw [decide_eq_false h]
      exact keys_val i kvs
theorem keys_any (i : Int) : ∀ kvs : List (Int × V), ((keysO kvs).any fun kv => decide (kv.1 = Sum.inl i)) = kvs.any fun q => decide (q.1 = i)
  | [] => rfl
  | q :: kvs => by
    show (decide ((Sum.inl q.1 : Key) = Sum.inl i) || (keysO kvs).any _) = (decide (q.1 = i) || kvs.any _)
    rw [inl_dec, keys_any i kvs]
theorem keys_repl (i : Int) (v : V) : ∀ kvs : List (Int × V), (keysO kvs).map (fun kv => if kv.1 = Sum.inl i then (kv.1, v) else kv) = keysO (kvs.map fun q => if q.1 = i then (q.1, v) else q)
  | [] => rfl
  | q :: kvs => by
    show (if (Sum.inl q.1 : Key) = Sum.inl i then ((Sum.inl q.1 : Key), v) else ((Sum.inl q.1 : Key), q.2)) :: (keysO kvs).map _ = ((Sum.inl (if q.1 = i then (q.1, v) else q).1 : Key), (if q.1 = i then (q.1, v) else q).2) :: keysO _
    rw [keys_repl i v kvs]
    by_cases h : q.1 = i
    · rw [if_pos (by rw [h]), if_pos h]
    · rw [if_neg (fun z => h (Sum.inl.inj z)), if_neg h]
theorem keys_put (kvs : List (Int × V)) (i : Int) (v : V) : putK (keysO kvs) (Sum.inl i) v = keysO (putI kvs i v) := by
  unfold putK putI
  rw [keys_any]
  split
  · exact keys_repl i v kvs
  · show keysO kvs ++ [(Sum.inl i, v)] = keysO (kvs ++ [(i, v)])
    unfold keysO
    rw [List.map_append]
    rfl
theorem DenP.toI : ∀ {kvs : List (Int × V)} {ps : List (Dt × Dt)}, DenP K G kvs ps → ∃ qs : List (Int × Dt), ps = qs.map fun q => (PyData.int q.1, q.2)
  | _, _, .nil => ⟨[], rfl⟩
  | _, _, @DenP.cons _ _ i _ _ d _ _ h => by
    obtain ⟨qs, e⟩ := DenP.toI h
    exact ⟨(i, d) :: qs, by rw [e]; rfl⟩
abbrev DenI (K : PySem.W.Frag) (G : Hp) (kvs : List (Int × V)) (qs : List (Int × Dt)) : Prop := DenP K G kvs (qs.map fun q => (PyData.int q.1, q.2))
theorem DenI.cases {k : Int × V} {kvs : List (Int × V)} {q : Int × Dt} {qs : List (Int × Dt)} (h : DenI K G (k :: kvs) (q :: qs)) : k.1 = q.1 ∧ Den K G k.2 q.2 ∧ DenI K G kvs qs := by
  cases h with
  | cons h1 h2 => exact ⟨rfl, h1, h2⟩
theorem DenI.keys : ∀ {kvs : List (Int × V)} {qs : List (Int × Dt)}, DenI K G kvs qs → kvs.map (·.1) = qs.map (·.1)
  | [], [], _ => rfl
  | [], _ :: _, h => nomatch h
  | _ :: _, [], h => nomatch h
  | k :: kvs, q :: qs, h => by
    obtain ⟨e, _, h2⟩ := h.cases
    rw [List.map_cons, List.map_cons, e, DenI.keys h2]
theorem DenI.val (i : Int) : ∀ {kvs : List (Int × V)} {qs : List (Int × Dt)}, DenI K G kvs qs → (getI kvs i = none ∧ getI qs i = none) ∨ ∃ v d, getI kvs i = some v ∧ getI qs i = some d ∧ Den K G v d
  | [], [], _ => .inl ⟨rfl, rfl⟩
  | [], _ :: _, h => nomatch h
  | _ :: _, [], h => nomatch h
  | (j, v) :: kvs, (j', d) :: qs, h => by
    obtain ⟨e, h1, h2⟩ := h.cases
    have e : j = j' := e
    subst e
    by_cases hj : j = i
    · refine .inr ⟨v, d, ?_, ?_, h1⟩ <;> simp [getI, List.find?_cons, hj]
    · have := DenI.val i h2
      simpa [getI, List.find?_cons, hj] using this
theorem DenI.app : ∀ {kvs : List (Int × V)} {qs : List (Int × Dt)} {i : Int} {v : V} {d : Dt}, DenI K G kvs qs → Den K G v d → DenI K G (kvs ++ [(i, v)]) (qs ++ [(i, d)])
  | [], [], _, _, _, _, hv => .cons hv .nil
  | [], _ :: _, _, _, _, h, _ => nomatch h
  | _ :: _, [], _, _, _, h, _ => nomatch h
  | (j, w) :: kvs, (j', e) :: qs, i, v, d, h, hv => by
    obtain ⟨e1, h1, h2⟩ := h.cases
    have e1 : j = j' := e1
    subst e1
    exact .cons h1 (DenI.app h2 hv)
theorem DenI.repl {i : Int} {v : V} {d : Dt} (hv : Den K G v d) : ∀ {kvs : List (Int × V)} {qs : List (Int × Dt)}, DenI K G kvs qs → DenI K G (kvs.map fun q => if q.1 = i then (q.1, v) else q) (qs.map fun q => if q.1 = i then (q.1, d) else q)
  | [], [], _ => .nil
  | [], _ :: _, h => nomatch h
  | _ :: _, [], h => nomatch h
  | (j, w) :: kvs, (j', e) :: qs, h => by
    obtain ⟨e1, h1, h2⟩ := h.cases
    have e1 : j = j' := e1
    subst e1
    have ih := DenI.repl (i := i) hv h2
    by_cases hj : j = i
    · simp only [List.map_cons, hj, if_true]
      exact .cons hv ih
    · simp only [List.map_cons, hj, if_false]
      exact .cons h1 ih
theorem any_keys {kvs : List (Int × V)} {qs : List (Int × Dt)} (h : kvs.map (·.1) = qs.map (·.1)) (i : Int) : (kvs.any fun q => decide (q.1 = i)) = qs.any fun q => decide (q.1 = i) := by
  have e : ∀ {α : Type} (l : List (Int × α)), (l.any fun q => decide (q.1 = i)) = (l.map (·.1)).any fun k => decide (k = i) := fun l => by
    rw [List.any_map]
    rfl
  rw [e, e, h]
theorem DenI.put {kvs : List (Int × V)} {qs : List (Int × Dt)} {i : Int} {v : V} {d : Dt} (h : DenI K G kvs qs) (hv : Den K G v d) : DenI K G (putI kvs i v) (putI qs i d) := by
  unfold putI
  rw [any_keys h.keys]
  split
  · exact h.repl hv
  · exact h.app hv
theorem DenI.length {kvs : List (Int × V)} {qs : List (Int × Dt)} (h : DenI K G kvs qs) : kvs.length = qs.length := by
  have := congrArg List.length h.keys
  rwa [List.length_map, List.length_map] at this
end
theorem unitsD {k : Nat} {A : Around} (r : Room k A) : A.units + 1 < cLine := by have := r.un; omega
def rLenD : List V → Hp → VK → Prop := fun xs H Q => ∃ (a : Addr) (kvs : List (Key × V)), xs = [.ref a] ∧ Rd H a (.dK kvs) ∧ Q (.int kvs.length) H
theorem cr_lenD {X : Cx} : CallR X (.builtin "len") rLenD := by
  rintro pins s σ H xs us Q I r ⟨a, kvs, rfl, e, q⟩
  obtain rfl := Vals.ref1 r
  exact L2.d_len I e fun t s' I' => ⟨.int kvs.length, H, I', ⟨t, rfl⟩, q⟩
theorem pe_never {X : Cx} {e : Expr} : PE X e (fun _ _ _ => False) := ⟨fun _ _ _ _ _ _ h => h.elim⟩
section
variable [TabW] {K : PySem.W.Frag} {b : Addr} {ρ : Rho} {β β1 β2 : Bag} {td ty te : TE} {d x : Dt} {qs : List (Int × Dt)} {i : Int} {G H : Hp}
/-- a dict that is told, as it lies -/
theorem den_dI {v : V} (h : Den K G v (dI qs)) : ∃ a kvs, v = .ref a ∧ G a = some (.dK (keysO kvs)) ∧ DenI K G kvs qs := by
  cases h with
  | dcI hs hp => exact ⟨_, _, rfl, hs, hp⟩
theorem d_dget (ha : EvB K td ρ β (dI qs) β1) (hb : EvB K ty ρ β1 (.int i) β2) (hg : getI qs i = some d) : EvB K (tDGet td ty) ρ β d β2 := by
  refine ⟨hb.som.trans ha.som, fun b G H σ Q E k => ?_⟩
  refine ha.run b G H σ _ E fun v G1 H1 s1 k1 d1 => ?_
  refine hb.run b G1 H1 σ _ (E.step s1 k1) fun w G2 H2 s2 k2 d2 => ?_
  rw [ha.som] at s2
  cases d2
  obtain ⟨a, kvs, rfl, hs, hp⟩ := den_dI (d1.mono s2.g)
  rcases hp.val i with ⟨_, z⟩ | ⟨v, d', e1, e2, e3⟩
  · rw [hg] at z; cases z
  · rw [hg] at e2
    cases e2
    refine ⟨a, v, rfl, ?_, k v G2 H2 (s1.trans s2) k2 e3⟩
    have := DGet.k (k := Sum.inl i) (s2.s _ _ hs)
    rwa [keys_val, e1] at this
theorem d_din (hb : EvB K ty ρ β (.int i) β1) (ha : EvB K td ρ β1 (dI qs) β2) : EvB K (tDIn ty td) ρ β (.bool (getI qs i).isSome) β2 := by
  refine ⟨ha.som.trans hb.som, fun b G H σ Q E k => ?_⟩
  refine hb.run b G H σ _ E fun w G1 H1 s1 k1 d1 => ?_
  refine ha.run b G1 H1 σ _ (E.step s1 k1) fun v G2 H2 s2 k2 d2 => ?_
  rw [hb.som] at s2
  cases d1
  obtain ⟨a, kvs, rfl, hs, hp⟩ := den_dI d2
  refine ⟨a, getI kvs i, rfl, ?_, ?_⟩
  · have := DGet.k (k := Sum.inl i) (s2.s _ _ hs)
    rwa [keys_val] at this
  · have e : (getI kvs i).isSome = (getI qs i).isSome := by
      rcases hp.val i with ⟨e1, e2⟩ | ⟨_, _, e1, e2, _⟩ <;> rw [e1, e2] <;> rfl
    rw [e]
    exact k _ G2 H2 (s1.trans s2) k2 (.bl _)
theorem d_dnotin (hb : EvB K ty ρ β (.int i) β1) (ha : EvB K td ρ β1 (dI qs) β2) : EvB K (tDNotIn ty td) ρ β (.bool (!(getI qs i).isSome)) β2 := by
  refine ⟨ha.som.trans hb.som, fun b G H σ Q E k => ?_⟩
  refine hb.run b G H σ _ E fun w G1 H1 s1 k1 d1 => ?_
  refine ha.run b G1 H1 σ _ (E.step s1 k1) fun v G2 H2 s2 k2 d2 => ?_
  rw [hb.som] at s2
  cases d1
  obtain ⟨a, kvs, rfl, hs, hp⟩ := den_dI d2
  refine ⟨a, getI kvs i, rfl, ?_, ?_⟩
  · have := DGet.k (k := Sum.inl i) (s2.s _ _ hs)
    rwa [keys_val] at this
  · have e : (getI kvs i).isSome = (getI qs i).isSome := by
      rcases hp.val i with ⟨e1, e2⟩ | ⟨_, _, e1, e2, _⟩ <;> rw [e1, e2] <;> rfl
    rw [e]
    exact k _ G2 H2 (s1.trans s2) k2 (.bl _)
theorem d_lenD (ha : EvB K td ρ β (dI qs) β1) : EvB K (tCB rLenD (tCons td tNil)) ρ β (.int (qs.length : Int)) β1 := d_c1 ha fun b G H v Q e dv k => by
  obtain ⟨a, kvs, rfl, hs, hp⟩ := den_dI dv
  refine ⟨a, _, rfl, .inl (e _ _ hs), ?_⟩
  rw [List.length_map, hp.length]
  exact k _ G H (Step.refl e) (.int _)
/-- d[i] = x -/
theorem sw_putD {j : Nat} (h : EvW K j te ρ β (dI qs) x β1) (hk : EvW K j ty ρ β1 (dI qs) (.int i) β2) (hz : qs.length ≤ 1000) : StW K j (sDPut (tVar j) ty te) ρ β (dI qs) (.nx ρ) β2 (dI (putI qs i x)) := by
  refine ⟨hk.som.trans h.som, fun b G0 H0 G H σ p D gn s w q => ?_⟩
  refine h.run b G H σ p _ w fun y G1 H1 s1 w1 d1 => ?_
  refine ⟨_, w1.at_, ?_⟩
  refine hk.run b G1 H1 σ p _ w1 fun z G2 H2 s2 w2 d2 => ?_
  cases d2
  obtain ⟨u, hp, hu⟩ := w2.val
  cases hu with
  | @dct kvs _ hd =>
    have hd : DenI K G2 kvs qs := hd
    refine ⟨p, _, rfl, DPut.k (k := Sum.inl i) (v := y) hp (by rw [List.length_map, hd.length]; exact sz_lt (by omega)), ?_⟩
    rw [keys_put]
    rw [h.som] at s2
    exact q σ G2 _ (((s.trans s1).trans s2).mutM gn w2.free w2.mu) (w2.put (.dct (hd.put (d1.mono s2.g))))
end
/-! ### sorted(d, reverse=b) -/
def rSortedDK (b : Bool) : List V → List V → Hp → VK → Prop := fun vs zs H Q => ∃ (a : Addr) (kvs : List (Key × V)) (ks : List Int), vs = [V.ref a] ∧ zs = [.bl b] ∧ Rd H a (.dK kvs) ∧ kvs.map (·.1) = ks.map Sum.inl ∧
  ∀ (ys : List Int) (p : Addr), ys.Perm ks → OrdB b ys → H p = none → Q (.ref p) (upd H p (.lst (ys.map V.int)))
/-- what a walk over a dict's keys gathers, where the keys are ints -/
theorem gathered {acc : List Value} {ks : List Int} {kvs : List (Key × Value)} (hk : kvs.map (·.1) = ks.map Sum.inl) (hl : acc.length = kvs.length) (ha : ∀ (j : Nat) (v : Value), acc[j]? = some v → ∃ k x, kvs[j]? = some (k, x) ∧ keyIs k v = true) : IntsAre acc ks := by
  have lk : kvs.length = ks.length := by simpa using congrArg List.length hk
  refine ints_each (hl.trans lk) fun j v hv => ?_
  obtain ⟨k, x, at_, is⟩ := ha j v hv
  have ek : (ks.map Sum.inl)[j]? = some k := by rw [← hk, List.getElem?_map, at_]; rfl
  rw [List.getElem?_map] at ek
  obtain ⟨n, hn, rfl⟩ := Option.map_eq_some_iff.mp ek
  rcases keyIs_shape is with ⟨m, t, em, ev⟩ | ⟨m, t, em, ev⟩
  · cases em
    exact ⟨n, t, hn, ev⟩
  · cases em
theorem cr_sortedDRev {X : Cx} (calm : X.calm = true) {b : Bool} : CallRK X (.builtin "sorted") [Str.ofString "reverse"] (rSortedDK b) := by
  rintro pins s σ H _ _ us ws Q inv args opts ⟨a, kvs, ks, rfl, rfl, at_, hks, q⟩
  obtain rfl := Vals.ref1 args
  obtain ⟨w1, rfl, ew⟩ := vals1 opts
  cases show w1 = Value.bool b from ew
  obtain ⟨few, lo, told, rel, dd⟩ := dk_rd inv.hok at_
  obtain ⟨ep, dic⟩ := dd.dictAt
  have keys : told.map (·.1) = ks.map Sum.inl := Eq.trans rel.keys.symm hks
  have few2 : told.length ≤ sizeLine := rel.length ▸ few
  refine call_function_entry_kw PyProof.Rows.kind_sorted PyProof.Rows.plain_sorted PyProof.Rows.entry_sorted (PyProof.Rows.args_sorted_rev _ _) ?_
  unfold Builtin.«sorted»
  refine wpAny_bind (m := checkCount "sorted" 1 1 _) (wpAny_pure (wpAny_bind (PySem.W.kdu_collect (A := X.A.in1) (PySem.W.kdl_dict (knd := mixKind X.prog X.w) (kvs := told) (ep := ep) lo) (inv.ok.hd calm) dic few2 fun g tk acc same got => ?_)))
  have nums : IntsAre acc.toList ks := gathered keys (by rw [Array.length_toList, got.1]) fun j v hv => got.2 j v (by rwa [← Array.getElem?_toList])
  have size : acc.toList.length ≤ sizeLine := by rw [Array.length_toList, got.1]; exact few2
  have inv1 : Inv X pins σ H _ := inv.kept (t' := tk) same
  refine wpAny_bind (wpAny_newList ?_ size)
  -- the list that is sorted stands behind the heap
  let g1 : Heap := g.push (seqObj "list" acc.toList.toArray 0)
  have lies : g1.get? g.objs.size = some (seqObj "list" acc.toList.toArray 0) := Heap.get?_push_size _ rfl
  show wpAny _ _ _ _ _ { s with heap := g1, toks := tk }
  refine wpAny_bind (wpAny_holding (wpAny_call_entry_kw PyProof.Rows.slot_list_sort ⟨_, lies, rfl⟩ PyProof.Rows.entry_list_sort
    (SrtR.list_sort_ordR (b := b) (s := { s with heap := g1, toks := tk }) SrtO.swo_int lies size (fun h2 => SrtO.ints_sortable nums h2) fun out h1 h2 => ⟨_, rfl, ?_⟩) (PyProof.Rows.args_list_sort_rev _ _)))
  obtain ⟨ys, are, perm, ord⟩ := SrtR.ints_outR nums h1 h2
  obtain ⟨e', laid⟩ := PyProof.Rows.sortedHeap_at (vs := acc.toList) (out := (if b = true then out.toArray.reverse else out.toArray)) lies
  have short : (ys.map V.int).length ≤ sizeLine := by
    rw [List.length_map, perm.length_eq, show ks.length = told.length by simpa using (congrArg List.length keys).symm]
    exact few2
  refine wpAny_pure ⟨_, rfl, .ref g.objs.size, upd H g.objs.size (.lst (ys.map V.int)), inv1.laid (t' := tk) (fun c u lt => ?_) (Nat.le_refl _) (show ObjOk X.prog X.w _ _ _ (.lst (ys.map V.int)) from ⟨short, _, e', vals_of_ints are, by rw [Array.toArray_toList]; exact laid⟩), rfl, q ys _ perm ord (inv1.hok.fresh (Nat.le_refl _))⟩
  have lc : c < g.objs.size := Heap.lt_size lt
  rw [PyProof.Rows.sortedHeap_old (Nat.ne_of_lt lc) (by rw [size_push']; exact Nat.lt_succ_of_le (Nat.le_of_lt lc))]
  exact Heap.get?_push_of_some _ lt
section
variable [TabW] {K : PySem.W.Frag} {ρ : Rho} {β β1 : Bag} {td : TE} {qs : List (Int × Dt)} {ms : List Int} {c : Bool}
theorem d_sortRevD (ha : EvB K td ρ β (dI qs) β1) (hp : ms.Perm (qs.map (·.1))) (ho : OrdB c ms) (hu : ∀ ys : List Int, ys.Perm (qs.map (·.1)) → OrdB c ys → ys = ms) : EvB K (tCKw (rSortedDK c) (tCons td tNil) (tCons (tC (.bl c)) tNil)) ρ β (.list (ms.map PyData.int)) β1 := by
  refine ⟨ha.som, fun b G H σ Q E k => ?_⟩
  refine ha.run b G H σ _ E fun v G1 H1 s1 k1 d1 => ?_
  obtain ⟨a, kvs, rfl, hs, hd⟩ := den_dI d1
  refine ⟨a, keysO kvs, kvs.map (·.1), rfl, rfl, .inl (s1.s _ _ hs), by unfold keysO; rw [List.map_map, List.map_map]; rfl, fun ys p h1 h2 hq => ?_⟩
  rw [hd.keys] at h1
  obtain rfl := hu ys h1 h2
  have n := Step.new (b := b) (m := false) (o := .lst (ys.map V.int)) s1.s hq
  exact k (.ref p) _ _ (s1.trans n.up) (k1.same n) (.lst upd_same (DenL.of_ints _))
end
/-! ### sorted(d) -/
def rSortedDI : List V → Hp → VK → Prop := fun xs H Q => ∃ (a : Addr) (kvs : List (Key × V)) (ks : List Int), xs = [.ref a] ∧ Rd H a (.dK kvs) ∧ kvs.map (·.1) = ks.map Sum.inl ∧ ks.length < 64 ∧
    ∀ (ys : List Int) (p : Addr), ys.Perm ks → ys.Pairwise (· ≤ ·) → H p = none → Q (.ref p) (upd H p (.lst (ys.map V.int)))
theorem cr_sortedDI {X : Cx} (hc : X.calm = true) : CallR X (.builtin "sorted") rSortedDI := call_sortedDI hc
/-! ### ranges that go down -/
def rngC (lo c : Int) (n : Nat) : List Dt := (List.range n).map fun (i : Nat) => PyData.int (lo + (i : Int) * c)
theorem rngC_length (lo c : Int) (n : Nat) : (rngC lo c n).length = n := by unfold rngC; rw [List.length_map, List.length_range]
theorem rngC_drop {lo c : Int} {n i : Nat} (h : i < n) : (rngC lo c n).drop i = .int (lo + (i : Int) * c) :: (rngC lo c n).drop (i + 1) := by
  have hl : i < (rngC lo c n).length := by rw [rngC_length]; exact h
  have e : (rngC lo c n)[i]'hl = .int (lo + (i : Int) * c) := by simp [rngC]
  rw [List.drop_eq_getElem_cons (hl), e]
theorem for_rangeC {lo c : Int} {n : Nat} {g : TG} {tb : TS} {D : Ends} {σ : L2.St} {H : Hp} (Pv : Nat → L2.St → Hp → Prop) (h0 : Pv 0 σ H)
    (hs : ∀ i σ H, i < n → Pv i σ H → g (.int (lo + (i : Nat) * c)) σ H fun σ2 H2 => tb { D with nx := Pv (i + 1), ct := Pv (i + 1), bk := D.nx } σ2 H2) (hd : ∀ σ H, Pv n σ H → D.nx σ H) : ∃ W : Nat → Nat → L2.St → Hp → Prop, (∃ m, W 0 m σ H) ∧ ∀ i m σ H, W i m σ H →
      ((Itc lo c n).stop i H ∧ D.nx σ H) ∨ ((Itc lo c n).go i H ∧ ∃ N : L2.St → Hp → Prop, (∀ σ' H', N σ' H' → ∃ m', m' < m ∧ W (i + 1) m' σ' H') ∧ ∀ x H', (Itc lo c n).yld i H x H' → g x σ H' fun σ2 H2 => tb { D with nx := N, ct := N, bk := D.nx } σ2 H2) :=
  for_it walk_rangeC Pv h0 (fun _ _ _ _ _ => trivial) (fun i _ σ _ _ lt p y => by rw [y.1, y.2]; exact hs i σ _ lt p) hd
section
variable [TabW] {K : PySem.W.Frag} {b : Addr} {ρ : Rho} {β β1 β2 β3 : Bag} {ta tb te td tl : TE} {tu tw : TS} {d d1 d2 x y : Dt} {ds es : List Dt} {o : Out} {i j : Nat} {qs : List (Int × Dt)} {ms : List Int}
theorem d_sortDI (ha : EvB K td ρ β (dI qs) β1) (hz : qs.length < 64) (hp : ms.Perm (qs.map (·.1))) (ho : ms.Pairwise (· ≤ ·)) (hu : ∀ ys : List Int, ys.Perm (qs.map (·.1)) → ys.Pairwise (· ≤ ·) → ys = ms) : EvB K (tCB rSortedDI (tCons td tNil)) ρ β (.list (ms.map PyData.int)) β1 := d_c1 ha fun b G H v Q e dv k => by
  obtain ⟨a, kvs, rfl, hs, hd⟩ := den_dI dv
  refine ⟨a, keysO kvs, kvs.map (·.1), rfl, .inl (e _ _ hs), by unfold keysO; rw [List.map_map, List.map_map]; rfl, by rw [List.length_map, hd.length]; exact hz, fun ys p h1 h2 hq => ?_⟩
  rw [hd.keys] at h1
  obtain rfl := hu ys h1 h2
  have n := Step.new (b := b) (m := false) (o := .lst (ys.map V.int)) e hq
  exact k (.ref p) _ _ n (.lst upd_same (DenL.of_ints _))
/-- an empty list is walked, whatever the target and the body -/
theorem st_forNil {g : TG} (hl : EvB K tl ρ β (.list []) β1) : StB K (tFor (iList K tl) g tu) ρ β (.nx ρ) β1 := by
  refine ⟨hl.som, fun b G H σ D E k => ?_⟩
  refine hl.run b G H σ _ E fun v G1 H1 s1 k1 d1 => ?_
  cases d1 with
  | @lst a xs _ hs hd =>
    cases hd
    refine ⟨a, rfl, ⟨[], sq_of (s1.s _ _ hs)⟩, for_list (K := K) (a := a) (xs := []) (fun n σ' H' => σ' = σ ∧ H' = H1) ⟨rfl, rfl⟩ ?_ ?_ ?_⟩
    · rintro n σ' H' _ ⟨rfl, rfl⟩
      exact sq_of (s1.s _ _ hs)
    · intro n v σ' H' hi _
      simp at hi
    · rintro σ' H' ⟨rfl, rfl⟩
      exact k _ G1 _ s1 (E.step s1 k1)
theorem sw_forNil {g : TG} (hl : EvW K i tl ρ β d (.list []) β1) : StW K i (tFor (iList K tl) g tu) ρ β d (.nx ρ) β1 d := by
  refine ⟨hl.som, fun b G0 H0 G H σ p D gn s w k => ?_⟩
  refine hl.run b G H σ p _ w fun v G1 H1 s1 w1 d1 => ?_
  cases d1 with
  | @lst a xs _ hs hd =>
    cases hd
    refine ⟨a, rfl, ⟨[], sq_of (w1.env.sub _ _ hs)⟩, for_list (K := K) (a := a) (xs := []) (fun n σ' H' => σ' = σ ∧ H' = H1) ⟨rfl, rfl⟩ ?_ ?_ ?_⟩
    · rintro n σ' H' _ ⟨rfl, rfl⟩
      exact sq_of (w1.env.sub _ _ hs)
    · intro n v σ' H' hi _
      simp at hi
    · rintro σ' H' ⟨rfl, rfl⟩
      exact k _ G1 _ (s.trans s1) w1
/-- over range(lo, stop, -1) -/
theorem sw_forDown {lo hi : Int} (hij : i ≠ j) (h1 : EvW K i ta ρ β d (.int lo) β) (h2 : EvW K i tb ρ β d (.int hi) β) (h3 : EvW K i te ρ β d (.int (-1)) β) (hb : -(2 ^ 62) ≤ lo ∧ lo < 2 ^ 62 ∧ -(2 ^ 62) ≤ hi ∧ hi < 2 ^ 62) (h : ForW K i j tu (rngC lo (-1) (lo - hi).toNat) ρ β d o β2 d2) :
    StW K i (tFor (iRng3 (tCons ta (tCons tb (tCons te tNil)))) (gName j) tu) ρ β d o β2 d2 := by
  refine ⟨h.som, fun b G0 H0 G H σ p D gn s w k => ?_⟩
  refine h1.run b G H σ p _ w fun v1 G1 H1 s1 w1 d1 => ?_
  refine h2.run b G1 H1 σ p _ w1 fun v2 G2 H2 s2 w2 d2 => ?_
  refine h3.run b G2 H2 σ p _ w2 fun v3 G3 H3 s3 w3 d3 => ?_
  cases d1
  cases d2
  cases d3
  have s03 := ((s.trans s1).trans s2).trans s3
  refine ⟨lo, hi, -1, (lo - hi).toNat, rfl, RgC.neg hb.1 hb.2.1 hb.2.2.1 hb.2.2.2, ?_⟩
  refine for_rangeC (lo := lo) (c := -1) (n := (lo - hi).toNat) (fun m σ' H' => ∃ G' ρ' β' d', Step b β.isSome G0 H0 G' H' ∧ β'.isSome = β.isSome ∧ OwnW K b β' i p G' H' σ' ρ' d' ∧ ForW K i j tu ((rngC lo (-1) (lo - hi).toNat).drop m) ρ' β' d' o β2 d2) ?_ ?_ ?_
  · exact ⟨G3, ρ, β, d, s03, rfl, w3, h⟩
  · rintro m σ' H' hm ⟨G', ρ', β', d', s', m', w', r'⟩
    rw [rngC_drop hm] at r'
    exact forW_turn m'.symm hij r' w' (.int _) gn s' k fun σ2 G2 H2 ρ2 β2' d2' s2 m2 w2 r2 => ⟨G2, ρ2, β2', d2', s2, m2, w2, r2⟩
  · rintro σ' H' ⟨G', ρ', β', d', s', m', w', r'⟩
    have e : (rngC lo (-1) (lo - hi).toNat).drop (lo - hi).toNat = [] := by rw [List.drop_eq_nil_iff, rngC_length]; exact Nat.le_refl _
    rw [e] at r'
    cases r'
    exact k σ' G' H' s' w'
theorem d_revL (h : EvB K te ρ β (.list ds) β1) : EvB K (tRevL K te) ρ β (.list ds.reverse) β1 := by
  refine ⟨h.som, fun b G H σ Q E k => ?_⟩
  refine h.run b G H σ _ E fun v G1 H1 s1 k1 d1 => ?_
  cases d1 with
  | @lst a xs _ hs hd =>
    refine ⟨a, xs, rfl, sq_of (s1.s _ _ hs), fun p hp => ?_⟩
    have n := Step.new (b := b) (m := false) (o := .lst xs.reverse) s1.s hp
    exact k (.ref p) _ _ (s1.trans n.up) (k1.same n) (.lst upd_same (hd.reverse.mono n.g))
/-- xs * k -/
theorem en_repL {k : Int} (ha : EvB K ta ρ β (.list ds) β1) (hb : EvB K tb ρ β1 (.int k) β2) (h1 : -(2 ^ 63) ≤ k) (h2 : k < 2 ^ 63) (hz : ds.length * k.toNat ≤ 100000) : EvN K (tOp L2.rRep ta tb) ρ β (.list (List.replicate k.toNat ds).flatten) β2 := by
  have hm := hb.som.trans ha.som
  refine ⟨hm, fun b G H σ Q E kk => ?_⟩
  refine ha.run b G H σ _ E fun v G1 H1 s1 k1 d1 => ?_
  refine hb.run b G1 H1 σ _ (E.step s1 k1) fun w G2 H2 s2 k2 d2 => ?_
  rw [ha.som] at s2
  have d1' := d1.mono s2.g
  cases d2
  cases d1' with
  | @lst a xs _ hs hd =>
    exact ⟨a, k, xs, rfl, rfl, s2.s _ _ hs, h1, h2, by rw [hd.length]; exact sz_of hz, fun p hp => evN_of k2 s2.s hm hp (.lst (hd.rep _)) (EvN.of (s1.trans s2) hm kk)⟩
theorem d_notInI {n : Int} {ns : List Int} (hx : EvB K ta ρ β (.int n) β1) (hy : EvB K tb ρ β1 y β2) (hs : SeqD y (ns.map .int)) : EvB K (tOp (rIn K true) ta tb) ρ β (.bool (!decide (n ∈ ns))) β2 :=
  d_op hx hy fun b G H v w Q e h1 h2 k => by
    cases h1
    obtain ⟨p, ys, rfl, hq, hd⟩ := h2.seq hs e
    have := hd.ints
    subst this
    exact ⟨p, _, rfl, hq, rfl, ints_flat ns, by rw [if_pos rfl, inV_ints]; exact k _ G H (Step.refl e) (.bl _)⟩
theorem apart_intsD (d : Dt) : ∀ ns : List Int, apartL d (ns.map PyData.int) = true
  | [] => rfl
  | n :: ns => by
    show (apart d (.int n) && apartL d (ns.map PyData.int)) = true
    rw [apart_intsD d ns]
    rfl
theorem apart_dI {ns : List Int} : apart (dI qs) (.list (ns.map PyData.int)) = true := by
  show (true && apartL _ _) = true
  rw [apart_intsD]
  rfl
end
end TD
/-! ## K03l -/
set_option Elab.async false
set_option linter.all false
set_option maxRecDepth 100000
set_option maxHeartbeats 1100000
namespace K03
open PySem L2 TD PySem.Spec PyProof.Rows
variable [TabW]
abbrev onesI : List Int := List.replicate 140 1
abbrev zerosI : List Int := List.replicate 140 0
def P07 (p : Int) : Prop := p = 0 ∨ p = 7
theorem P07.pr {p : Int} (h : P07 p) : Num.PrimeI p := by
  rcases h with rfl | rfl
  · exact .inl rfl
  · exact .inr (by decide)
theorem zeros_of {α : Type} {l : List α} {f : α → Int} (h : l.map f = zerosI) : PyData.list (l.map fun q => PyData.int (f q)) = lstI zerosI := by
  rw [show (l.map fun q => PyData.int (f q)) = (l.map f).map PyData.int by rw [List.map_map]; rfl, h]


abbrev s_lowered : Stmt := top 27
theorem sc_lowered : FnScope ["prime", "row", "step", "at", "times", "here", "there", "shared", "keep", "less", "content", "number"] ["prime", "row", "step", "at"] (defScope s_lowered) := ⟨rfl, rfl, rfl, by decide +kernel, rfl, by decide +kernel, by decide +kernel⟩
abbrev R_lowered : FR := fun as β r β' => ∃ p, as = [.imm (.int p), .imm (tupI onesI), .imm (tupI onesI), .imm (.int 0)] ∧ P07 p ∧ r = lstI zerosI ∧ β = none ∧ β' = none
theorem ok_lowered {P : Program} {w : World} {K : PySem.W.Frag} {mg : Str → Option Value} {base : Heap} {Y : Cn} (F : DefAt K "lowered" s_lowered) (hX : K.In base) (hG : base.Ns mainGlobals mg) (T : Txt K mg Y) (G_divisor_of : FnG P w K mg base 1 "divisor_of" ["numbers"] R_divisor_of) : FnG P w K mg base 2 "lowered" ["prime", "row", "step", "at"] R_lowered := by
  have nd := sc_lowered.nd
  refine fn_mk F hX hG sc_lowered (fun as β r β' h => by first | exact FR.len h | (obtain ⟨_, rfl, _⟩ := h; rfl) | (obtain ⟨_, _, rfl, _⟩ := h; rfl) | (obtain ⟨_, _, _, rfl, _⟩ := h; rfl) | (obtain ⟨_, _, _, _, rfl, _⟩ := h; rfl) | (obtain ⟨_, _, _, _, _, rfl, _⟩ := h; rfl)) (fun _ _ _ _ _ _ _ us hl => match us, hl with | [_, _, _, _], _ => rfl) (fun f cdv A outer s H E hr => ⟨_, (pss_cons (ps_set (i := 4) nd rfl (Or.inr rfl) (pe_ix ix_seq (pv 1) (pv 3) (fun _ _ => rfl))) (pss_cons (ps_if (pt_tru (pv 0)) (pss_one (ps_ret (pe_lc (own := [("here", 5), ("there", 6)]) rfl nd (RZ.pi_zipA (by rfl) T.z_zip (pa_cons (pv 1) (pa_cons (pv 2) pa_nil))) (blkOk_by (N := ["prime", "row", "step", "at", "times", "here", "there", "shared", "keep", "less", "content", "number"]) (sc := defScope s_lowered) (by decide +kernel)) (fun _ _ _ _ _ => by exact (pg_tupK (K := K) (n := 2) rfl (pgs_cons (pg_name (i := 5) nd rfl (Or.inl rfl)) (pgs_cons (pg_name (i := 6) nd rfl (Or.inl rfl)) pgs_nil)))) (fun _ _ _ _ _ => by exact pts_nil) (fun _ _ _ _ _ => by exact (pe_op op_mod (pe_op op_sub (pv 5) (pe_op op_mulW (pv 4) (pv 6))) (pv 0)))))) pss_nil) (pss_cons (ps_set (i := 7) nd rfl (Or.inl rfl) (pe_callBfun cr_gcd (by rfl) T.m_gcd (pa_cons (pv 4) (pa_cons (pe_ix ix_tup (pv 2) (pv 3) (fun _ _ => rfl)) pa_nil)))) (pss_cons (ps_asg (pe_tup (pa_cons (pe_op op_fdivV (pv 4) (pv 7)) (pa_cons (pe_op op_fdivV (pe_ix ix_tup (pv 2) (pv 3) (fun _ _ => rfl)) (pv 7)) pa_nil))) (pg_tup rfl (pgs_cons (pg_name (i := 4) nd rfl (Or.inr rfl)) (pgs_cons (pg_name (i := 8) nd rfl (Or.inr rfl)) pgs_nil)))) (pss_cons (ps_setLc (i := 9) (own := [("here", 5), ("there", 6)]) rfl nd rfl rfl (sw_true rfl rfl rfl (by decide +kernel)) (RZ.pi_zipA (by rfl) T.z_zip (pa_cons (pv 1) (pa_cons (pv 2) pa_nil))) (blkOk_by (N := ["prime", "row", "step", "at", "times", "here", "there", "shared", "keep", "less", "content", "number"]) (sc := defScope s_lowered) (by decide +kernel)) (fun _ _ _ _ _ => by exact (pg_tupK (K := K) (n := 2) rfl (pgs_cons (pg_name (i := 5) nd rfl (Or.inl rfl)) (pgs_cons (pg_name (i := 6) nd rfl (Or.inl rfl)) pgs_nil)))) (fun _ _ _ _ _ => by exact pts_nil) (fun _ _ _ _ _ => by exact (pe_op op_sub (pe_op op_mulW (pv 8) (pv 5)) (pe_op op_mulW (pv 4) (pv 6))))) (pss_cons (ps_set (i := 10) nd rfl (Or.inr rfl) (pe_fn G_divisor_of (hr.mono (by decide)) (pa_cons (pv 9) pa_nil))) (pss_one (ps_ret (pe_ifExp (pt_cmpR op_gt (pv 10) pe_int (nomark _)) (pe_lc (own := [("number", 11)]) rfl nd (pi_list (pv 9)) (blkOk_by (N := ["prime", "row", "step", "at", "times", "here", "there", "shared", "keep", "less", "content", "number"]) (sc := defScope s_lowered) (by decide +kernel)) (fun _ _ _ _ _ => by exact (pg_name (i := 11) nd rfl (Or.inl rfl))) (fun _ _ _ _ _ => by exact pts_nil) (fun _ _ _ _ _ => by exact (pe_op op_fdivV (pv 11) (pv 10)))) (pv 9)))))))))), fun as β r β' hR => ?_⟩)
  obtain ⟨p, rfl, hp, rfl, rfl, rfl⟩ := hR
  dsimp only [cxOf, Cx.nox, Cx.wish]
  have hone : atI (onesI.map PyData.int) 0 = some (.int 1) := rfl
  have one : ∀ n ∈ onesI, n = 1 := fun n h => List.eq_of_mem_replicate h
  have w1 : ∀ n ∈ onesI, CMulW 1 n := fun n h => by rw [one n h]; exact wide_mul (a := 10) (b := 10) (by decide) (by decide) (by decide) (by decide) (by decide)
  refine .ret (st_sq (st_asg (d_ix (d_var rfl) (.inr rfl) (d_var rfl) hone)) ?_)
  rcases hp with rfl | rfl
  · refine st_sq (st_ifF ((t_truthI (d_var rfl)).to rfl) st_next) (st_sq (st_asg ((d_gcd (j := 1) (d_var rfl) (d_ixT (d_var rfl) (d_var rfl) hone)).to (d' := .int 1) rfl)) (st_sq (st_unpack (is := [4, 8]) (n := 2) (ds := [.int 1, .int 1]) (d_tup (a_con (β1 := none) ((d_fdiv (d_var rfl) (d_var rfl) ⟨by decide, by decide⟩).to rfl) (a_con (β1 := none) ((d_fdiv (j := 1) (d_ixT (d_var rfl) (d_var rfl) hone) (d_var rfl) ⟨by decide, by decide⟩).to rfl) a_nil)) rfl (by show 2 ≤ 100000; decide)) rfl rfl) ?_))
    refine st_sq (st_asg (d := lstI zerosI) ?_) (st_sq (st_asg (d := .int 0) ((d_call0 (a_con (d_var rfl) a_nil) ⟨_, zerosI, rfl, .inl rfl, rfl, rfl, rfl⟩).to (congrArg PyData.int (by decide +kernel)))) (st_ret (d_ifF ((t_test (d_gt (d_var rfl) d_int)).to rfl) (d_var rfl))))
    refine (d_lcZT (xs := onesI.map PyData.int) (ys := onesI.map PyData.int) (rs := (onesI.zip onesI).map fun q => PyData.int (1 * q.1 - 1 * q.2)) (d_var rfl) (d_var rfl) rfl ?_ (by decide) (show 5 ∈ [5, 6] by decide) (show 6 ∈ [5, 6] by decide)).to (zeros_of (by decide +kernel))
    rw [zip_ints]
    exact LcZ.ints (fun n m => .int (1 * n - 1 * m)) fun n m hn hm => d_sub (d_mul (d_var rfl) (d_var rfl) (w1 n hn)) (d_mul (d_var rfl) (d_var rfl) (w1 m hm))
  · refine st_seqR (st_ifT ((t_truthI (d_var rfl)).to rfl) (st_ret ?_))
    refine (d_lcZT (xs := onesI.map PyData.int) (ys := onesI.map PyData.int) (rs := (onesI.zip onesI).map fun q => PyData.int ((q.1 - 1 * q.2) % 7)) (d_var rfl) (d_var rfl) rfl ?_ (by decide) (show 5 ∈ [5, 6] by decide) (show 6 ∈ [5, 6] by decide)).to (zeros_of (by decide +kernel))
    rw [zip_ints]
    exact LcZ.ints (fun n m => .int ((n - 1 * m) % 7)) fun n m hn hm => d_mod (d_sub (d_var rfl) (d_mul (d_var rfl) (d_var rfl) (w1 m hm))) (d_var rfl) (by decide)

abbrev innerT (K : PySem.W.Frag) : TS := tSeq (tIfS (tTest (tOp rEq (tOp (rIx K) (tVar 4) (tVar 5)) (tC (V.int 0)))) tCont tNext) (tSeq (tIfS (tB (tDNotIn (tVar 5) (tVar 2))) (tSeq (sDPut (tVar 2) (tVar 5) (tCall (spR K R_made_normal) [] E0 (tCons (tVar 0) (tCons (tVar 4) tNil)))) tBreak) tNext) (tAsg (tCall (spR K R_lowered) [] E0 (tCons (tVar 0) (tCons (tVar 4) (tCons (tDGet (tVar 2) (tVar 5)) (tCons (tVar 5) tNil))))) (gName 4)))
abbrev outerT (K : PySem.W.Frag) : TS := tSeq (tAsg (tVar 3) (gName 4)) (tFor (iRng1 (tCons (tCB (TD.rLen K) (tCons (tVar 3) tNil)) tNil)) (gName 5) (innerT K))
abbrev d1 : Dt := dI [(0, tupI onesI)]
theorem at_zeros {k : Nat} (h : k < 140) : atI (zerosI.map PyData.int) (k : Int) = some (.int 0) := atI_nat (by rw [List.getElem?_map, List.getElem?_replicate, if_pos h]; rfl)
theorem rng_cons (lo : Int) (n : Nat) : rng lo (n + 1) = .int lo :: rng (lo + 1) n := by
  unfold rng
  (rw [List.range_succ_eq_map, List.map_cons, List.map_map])
  refine congr (congrArg List.cons (by simp)) (List.map_congr_left fun i _ => ?_)
  show PyData.int (lo + ((i + 1 : Nat) : Int)) = PyData.int (lo + 1 + (i : Int))
  congr 1
  omega
section
variable {K : PySem.W.Frag} {p : Int} {d x : Dt}
/-- a row of zeros has no step -/
theorem turn0 (hx : SeqD x (zerosI.map PyData.int)) (d0 y : Dt) : ∀ (n k : Nat) (a : Option Slot), k + n ≤ 140 → ∃ a', ForW K 2 5 (innerT K) (rng (k : Int) n) [some (.imm (.int p)), some (.imm d), none, some (.imm y), some (.imm x), a] none d0 (.nx [some (.imm (.int p)), some (.imm d), none, some (.imm y), some (.imm x), a']) none d0
  | 0, k, a, _ => ⟨a, .nil _ _ _⟩
  | n + 1, k, a, h => by
    rw [rng_cons]
    obtain ⟨a', ha⟩ := turn0 hx d0 y n (k + 1) (some (.imm (.int (k : Int)))) (by omega)
    refine ⟨a', .ct (sw_seqC (sw_ifT (tw_plain fun q => (t_test (d_eqI (d_ix (d_var rfl) (hx.elim .inl .inr) (d_var rfl) (at_zeros (by omega))) d_int)).to rfl) sw_cont)) ?_⟩
    exact ha
end


abbrev s_steps_of : Stmt := top 28
theorem sc_steps_of : FnScope ["prime", "rows", "steps", "row", "rest", "at"] ["prime", "rows"] (defScope s_steps_of) := ⟨rfl, rfl, rfl, by decide +kernel, rfl, by decide +kernel, by decide +kernel⟩
abbrev R_steps_of : FR := fun as β r β' => ∃ p d, as = [.imm (.int p), .imm d] ∧ P07 p ∧ (SeqD d (List.replicate 90 (tupI onesI)) ∧ r = dI [(0, tupI onesI)] ∨ SeqD d [tupI zerosI] ∧ r = dI []) ∧ β = none ∧ β' = none
theorem ok_steps_of {P : Program} {w : World} {K : PySem.W.Frag} {mg : Str → Option Value} {base : Heap} {Y : Cn} (F : DefAt K "steps_of" s_steps_of) (hX : K.In base) (hG : base.Ns mainGlobals mg) (T : Txt K mg Y) (G_lowered : FnG P w K mg base 2 "lowered" ["prime", "row", "step", "at"] R_lowered) (G_made_normal : FnG P w K mg base 2 "made_normal" ["prime", "numbers"] R_made_normal) : FnG P w K mg base 3 "steps_of" ["prime", "rows"] R_steps_of := by
  have nd := sc_steps_of.nd
  refine fn_mk F hX hG sc_steps_of (fun as β r β' h => by first | exact FR.len h | (obtain ⟨_, rfl, _⟩ := h; rfl) | (obtain ⟨_, _, rfl, _⟩ := h; rfl) | (obtain ⟨_, _, _, rfl, _⟩ := h; rfl) | (obtain ⟨_, _, _, _, rfl, _⟩ := h; rfl) | (obtain ⟨_, _, _, _, _, rfl, _⟩ := h; rfl)) (fun _ _ _ _ _ _ _ us hl => match us, hl with | [_, _], _ => rfl) (fun f cdv A outer s H E hr => ⟨_, (pss_cons (ps_set (i := 2) nd rfl (Or.inl rfl) pe_dnewK) (pss_cons (ps_for PassesOwn.never rfl (pi_seq (pv 1)) (pg_name (i := 3) nd rfl (Or.inl rfl)) (pss_cons (ps_set (i := 4) nd rfl (Or.inl rfl) (pv 3)) (pss_one (ps_for PassesOwn.never rfl (pi_range1 (by rfl) T.z_range (pa_cons (pe_callB (c_lenK (K := K)) (by rfl) T.z_len bo_len (pa_cons (pv 3) pa_nil)) pa_nil)) (pg_name (i := 5) nd rfl (Or.inl rfl)) (pss_cons (ps_if (pt_cmpR op_eq (pe_ix ix_seq (pv 4) (pv 5) (fun _ _ => rfl)) pe_int (nomark _)) (pss_one ps_continue) pss_nil) (pss_cons (ps_if (pt_cmp (pc_dnotin (unitsD hr) (pv 5) (pv 2)) (by rfl)) (pss_cons (ps_dput (unitsD hr) (pv 2) (pv 5) (pe_fn G_made_normal (hr.mono (by decide)) (pa_cons (pv 0) (pa_cons (pv 4) pa_nil))) (by rfl)) (pss_one ps_break)) pss_nil) (pss_one (ps_set (i := 4) nd rfl (Or.inl rfl) (pe_fn G_lowered (hr.mono (by decide)) (pa_cons (pv 0) (pa_cons (pv 4) (pa_cons (pe_dget (unitsD hr) (pv 2) (pv 5) (fun _ _ => rfl)) (pa_cons (pv 5) pa_nil))))))))))))) (pss_one (ps_ret (pv 2))))), fun as β r β' hR => ?_⟩)
  obtain ⟨p, d, rfl, hp, hd, rfl, rfl⟩ := hR
  dsimp only [cxOf, Cx.nox, Cx.wish]
  have hlen : ∀ {ρ : Rho} {ds : List Dt} {x : Dt}, ρ[3]? = some (some (.imm x)) → SeqD x ds → ds.length = 140 → EvB K (tCB (TD.rLen K) (tCons (tVar 3) tNil)) ρ none (.int 140) none := fun h hs e => (d_len (d_var h) hs).to (by rw [e]; rfl)
  refine .ret (st_own (d := dI []) (by show 2 < 6; decide) en_dict0 ?_)
  show StP K 2 (tSeq (tFor (iSeq K (tVar 1)) (gName 3) (outerT K)) (tRet (tVar 2))) [some (.imm (.int p)), some (.imm d), none, none, none, none] none _ _ none
  rcases hd with ⟨hd, rfl⟩ | ⟨hd, rfl⟩
  · -- the first row makes the step, the others come to zeros
    have first : ForW K 2 5 (innerT K) (rng 0 140) [some (.imm (.int p)), some (.imm d), none, some (.imm (tupI onesI)), some (.imm (tupI onesI)), none] none (dI []) (.nx [some (.imm (.int p)), some (.imm d), none, some (.imm (tupI onesI)), some (.imm (tupI onesI)), some (.imm (.int 0))]) none d1 := by
      rw [rng_cons]
      refine .brk (sw_seq (sw_ifF (tw_plain fun q => (t_test (d_eqI (i := 1) (d_ix (d_var rfl) (.inr rfl) (d_var rfl) rfl) d_int)).to rfl) sw_next) (sw_seqB (sw_ifT (tw_frz ((t_B (d_dnotin (i := 0) (qs := []) (d_var rfl) (d_var rfl))).to rfl)) (sw_seq (sw_putD (i := 0) (qs := []) (x := tupI onesI) (ew_plain fun q => (d_call0 (a_con (d_var rfl) (a_con (d_var rfl) a_nil)) ⟨p, _, onesI, rfl, ⟨.inr rfl, ?_⟩, rfl, rfl, rfl⟩).to ?_) (ew_plain fun q => d_var rfl) (by decide)) sw_break))))
      · rcases hp with rfl | rfl
        · exact congrArg tupI (by decide +kernel : Num.made 0 onesI = onesI)
        · exact congrArg tupI (by decide +kernel : Num.made 7 onesI = onesI)
      · exact Num.madeOk_tup hp.pr (by decide) (fun m hm => by
          rw [List.eq_of_mem_replicate hm]
          exact ⟨by decide, by rcases hp with rfl | rfl <;> decide⟩) ⟨1, List.mem_replicate.mpr ⟨by decide, rfl⟩, by decide⟩
    have other : ∀ a b : Option Slot, ∃ a' b', ForW K 2 5 (innerT K) (rng 0 140) [some (.imm (.int p)), some (.imm d), none, some (.imm (tupI onesI)), some (.imm (tupI onesI)), b] none d1 (.nx [some (.imm (.int p)), some (.imm d), none, some (.imm (tupI onesI)), a', b']) none d1 := fun a b => by
      obtain ⟨b', hb⟩ := turn0 (K := K) (p := p) (d := d) (x := lstI zerosI) (.inl rfl) d1 (tupI onesI) 139 1 (some (.imm (.int 0))) (by decide)
      refine ⟨some (.imm (lstI zerosI)), b', ?_⟩
      rw [rng_cons]
      refine .nx (sw_seq (sw_ifF (tw_plain fun q => (t_test (d_eqI (i := 1) (d_ix (d_var rfl) (.inr rfl) (d_var rfl) rfl) d_int)).to rfl) sw_next) (sw_seq (sw_ifF (tw_frz ((t_B (d_dnotin (i := 0) (qs := [(0, tupI onesI)]) (d_var rfl) (d_var rfl))).to rfl)) sw_next) (sw_asg (by decide) (ew_frz (d_call0 (a_con (d_var rfl) (a_con (d_var rfl) (a_con (d_dget (i := 0) (qs := [(0, tupI onesI)]) (d_var rfl) (d_var rfl) rfl) (a_con (d_var rfl) a_nil)))) ⟨p, rfl, hp, rfl, rfl, rfl⟩) apart_dI)))) hb
    have outer2 : ∀ (n : Nat) (a b c : Option Slot), ∃ a' b' c', ForW K 2 3 (outerT K) (List.replicate n (tupI onesI)) [some (.imm (.int p)), some (.imm d), none, a, b, c] none d1 (.nx [some (.imm (.int p)), some (.imm d), none, a', b', c']) none d1 := by
      intro n
      induction n with
      | zero => exact fun a b c => ⟨a, b, c, .nil _ _ _⟩
      | succ n ih =>
        intro a b c
        obtain ⟨b1, c1, h1⟩ := other b c
        obtain ⟨a', b', c', h2⟩ := ih (some (.imm (tupI onesI))) b1 c1
        exact ⟨a', b', c', .nx (sw_seq (sw_asg (by decide) (ew_plain fun q => d_var rfl)) (sw_forR1 (n := 140) (by decide) (ew_plain fun q => hlen rfl (.inr rfl) rfl) ⟨by decide, by decide⟩ h1)) h2⟩
    obtain ⟨a', b', c', h2⟩ := outer2 89 (some (.imm (tupI onesI))) (some (.imm (tupI onesI))) (some (.imm (.int 0)))
    exact sp_seq (sw_forQ (es := List.replicate 90 (tupI onesI)) (by decide) (ew_plain fun q => d_var rfl) hd (.nx (sw_seq (sw_asg (by decide) (ew_plain fun q => d_var rfl)) (sw_forR1 (n := 140) (by decide) (ew_plain fun q => hlen rfl (.inr rfl) rfl) ⟨by decide, by decide⟩ first)) h2)) (sp_end (st_ret (d_var rfl)))
  · obtain ⟨c', h1⟩ := turn0 (K := K) (p := p) (d := d) (x := tupI zerosI) (.inr rfl) (dI []) (tupI zerosI) 140 0 none (by decide)
    exact sp_seq (sw_forQ (es := [tupI zerosI]) (by decide) (ew_plain fun q => d_var rfl) hd (.nx (sw_seq (sw_asg (by decide) (ew_plain fun q => d_var rfl)) (sw_forR1 (n := 140) (by decide) (ew_plain fun q => hlen rfl (.inr rfl) rfl) ⟨by decide, by decide⟩ h1)) (.nil _ _ _))) (sp_end (st_ret (d_var rfl)))

end K03
/-! ## K03o -/
set_option Elab.async false
set_option linter.all false
set_option maxRecDepth 100000
set_option maxHeartbeats 1100000
namespace K03
open PySem L2 TD PySem.Spec PyProof.Rows
variable [TabW]
abbrev bigT : Dt := .tuple (List.replicate 90 (tupI onesI))
abbrev zeroT : Dt := .tuple [tupI zerosI]
theorem big_table {p : Int} (h : P07 p) : Num.isTable p bigT = true := by
  rcases h with rfl | rfl <;> decide +kernel
theorem zero_table {p : Int} (h : P07 p) : Num.isTable p zeroT = true := by
  rcases h with rfl | rfl <;> decide +kernel


abbrev s_rank_of : Stmt := top 30
theorem sc_rank_of : FnScope ["prime", "rows"] ["prime", "rows"] (defScope s_rank_of) := ⟨rfl, rfl, rfl, by decide +kernel, rfl, by decide +kernel, by decide +kernel⟩
abbrev R_rank_of : FR := fun as β r β' => ∃ p d, as = [.imm (.int p), .imm d] ∧ P07 p ∧ SeqD d (List.replicate 90 (tupI onesI)) ∧ r = .int 1 ∧ β = none ∧ β' = none
theorem ok_rank_of {P : Program} {w : World} {K : PySem.W.Frag} {mg : Str → Option Value} {base : Heap} {Y : Cn} (F : DefAt K "rank_of" s_rank_of) (hX : K.In base) (hG : base.Ns mainGlobals mg) (T : Txt K mg Y) (G_steps_of : FnG P w K mg base 3 "steps_of" ["prime", "rows"] R_steps_of) : FnG P w K mg base 4 "rank_of" ["prime", "rows"] R_rank_of := by
  have nd := sc_rank_of.nd
  refine fn_mk F hX hG sc_rank_of (fun as β r β' h => by first | exact FR.len h | (obtain ⟨_, rfl, _⟩ := h; rfl) | (obtain ⟨_, _, rfl, _⟩ := h; rfl) | (obtain ⟨_, _, _, rfl, _⟩ := h; rfl) | (obtain ⟨_, _, _, _, rfl, _⟩ := h; rfl) | (obtain ⟨_, _, _, _, _, rfl, _⟩ := h; rfl)) (fun _ _ _ _ _ _ _ us hl => match us, hl with | [_, _], _ => rfl) (fun f cdv A outer s H E hr => ⟨_, (pss_one (ps_ret (pe_callB cr_lenD (by rfl) T.z_len bo_len (pa_cons (pe_fn G_steps_of (hr.mono (by decide)) (pa_cons (pv 0) (pa_cons (pv 1) pa_nil))) pa_nil)))), fun as β r β' hR => ?_⟩)
  obtain ⟨p, d, rfl, hp, hd, rfl, rfl, rfl⟩ := hR
  exact .ret (st_ret (d_lenD (qs := [(0, tupI onesI)]) (d_call0 (a_con (d_var rfl) (a_con (d_var rfl) a_nil)) ⟨p, d, rfl, hp, .inl ⟨hd, rfl⟩, rfl, rfl⟩)))


abbrev s_echelon_of : Stmt := top 31
theorem sc_echelon_of : FnScope ["prime", "rows", "steps", "done", "start", "row", "later"] ["prime", "rows"] (defScope s_echelon_of) := ⟨rfl, rfl, rfl, by decide +kernel, rfl, by decide +kernel, by decide +kernel⟩
abbrev R_echelon_of : FR := fun as β r β' => ∃ p d, as = [.imm (.int p), .imm d] ∧ P07 p ∧ SeqD d [tupI zerosI] ∧ r = .tuple [] ∧ β = none ∧ β' = none
theorem ok_echelon_of {P : Program} {w : World} {K : PySem.W.Frag} {mg : Str → Option Value} {base : Heap} {Y : Cn} (F : DefAt K "echelon_of" s_echelon_of) (hX : K.In base) (hG : base.Ns mainGlobals mg) (T : Txt K mg Y) (G_steps_of : FnG P w K mg base 3 "steps_of" ["prime", "rows"] R_steps_of) : FnG P w K mg base 4 "echelon_of" ["prime", "rows"] R_echelon_of := by
  have nd := sc_echelon_of.nd
  refine fn_mk F hX hG sc_echelon_of (fun as β r β' h => by first | exact FR.len h | (obtain ⟨_, rfl, _⟩ := h; rfl) | (obtain ⟨_, _, rfl, _⟩ := h; rfl) | (obtain ⟨_, _, _, rfl, _⟩ := h; rfl) | (obtain ⟨_, _, _, _, rfl, _⟩ := h; rfl) | (obtain ⟨_, _, _, _, _, rfl, _⟩ := h; rfl)) (fun _ _ _ _ _ _ _ us hl => match us, hl with | [_, _], _ => rfl) (fun f cdv A outer s H E hr => ⟨_, (pss_cons (ps_set (i := 2) nd rfl (Or.inl rfl) (pe_fn G_steps_of (hr.mono (by decide)) (pa_cons (pv 0) (pa_cons (pv 1) pa_nil)))) (pss_cons (ps_set (i := 3) nd rfl (Or.inr rfl) pe_dnewK) (pss_cons (ps_for PassesOwn.never rfl (pi_list (pe_callBK (cr_sortedDRev (b := true) rfl) (by rfl) T.z_sorted bo_sorted (pa_cons (pv 2) pa_nil) (pk_cons pe_bl pk_nil))) (pg_name (i := 4) nd rfl (Or.inl rfl)) pss_never) (pss_one (ps_ret (pe_callTy c_tuple (by rfl) T.z_tuple bo_tuple (pa_cons (pe_lc (own := [("start", 4)]) rfl nd (pi_list (pe_callB (cr_sortedDI rfl) (by rfl) T.z_sorted bo_sorted (pa_cons (pv 3) pa_nil))) (blkOk_by (N := ["prime", "rows", "steps", "done", "start", "row", "later"]) (sc := defScope s_echelon_of) (by decide +kernel)) (fun _ _ _ _ _ => by exact (pg_name (i := 4) nd rfl (Or.inl rfl))) (fun _ _ _ _ _ => by exact pts_nil) (fun _ _ _ _ _ => by exact pe_never)) pa_nil))))))), fun as β r β' hR => ?_⟩)
  obtain ⟨p, d, rfl, hp, hd, rfl, rfl, rfl⟩ := hR
  dsimp only [cxOf, Cx.nox, Cx.wish]
  refine .ret (st_sq (st_asg (d := dI []) (d_call0 (a_con (d_var rfl) (a_con (d_var rfl) a_nil)) ⟨p, d, rfl, hp, .inr ⟨hd, rfl⟩, rfl, rfl⟩)) ?_)
  refine st_own (d := dI []) (by show 3 < 7; decide) en_dict0 (sp_seq (sw_forNil (ew_plain fun q => d_sortRevD (qs := []) (ms := []) (d_var rfl) (.refl _) .nil fun ys h _ => h.eq_nil)) (sp_end (st_ret (d_tupleOf (ds := []) (d_lcL (ds := []) (d_sortDI (qs := []) (ms := []) (d_var rfl) (by decide) (.refl _) .nil fun ys h _ => h.eq_nil) (.nil _ _) (by decide) (wipe_ok (by decide)))))))


abbrev s_freed : Stmt := top 33
theorem sc_freed : FnScope ["prime", "steps", "free", "width", "starts", "row", "whole", "start", "numbers"] ["prime", "steps", "free", "width"] (defScope s_freed) := ⟨rfl, rfl, rfl, by decide +kernel, rfl, by decide +kernel, by decide +kernel⟩
abbrev R_freed : FR := fun as β r β' => ∃ (p : Int) (k : Nat), as = [.imm (.int p), .imm (.tuple []), .imm (.int (k : Int)), .imm (.int 140)] ∧ k < 140 ∧ r = lstI (zerosI.set k 1) ∧ β = none ∧ β' = none
theorem ok_freed {P : Program} {w : World} {K : PySem.W.Frag} {mg : Str → Option Value} {base : Heap} {Y : Cn} (F : DefAt K "freed" s_freed) (hX : K.In base) (hG : base.Ns mainGlobals mg) (T : Txt K mg Y)  : FnG P w K mg base 2 "freed" ["prime", "steps", "free", "width"] R_freed := by
  have nd := sc_freed.nd
  refine fn_mk F hX hG sc_freed (fun as β r β' h => by first | exact FR.len h | (obtain ⟨_, rfl, _⟩ := h; rfl) | (obtain ⟨_, _, rfl, _⟩ := h; rfl) | (obtain ⟨_, _, _, rfl, _⟩ := h; rfl) | (obtain ⟨_, _, _, _, rfl, _⟩ := h; rfl) | (obtain ⟨_, _, _, _, _, rfl, _⟩ := h; rfl)) (fun _ _ _ _ _ _ _ us hl => match us, hl with | [_, _, _, _], _ => rfl) (fun f cdv A outer s H E hr => ⟨_, (pss_cons (ps_setLc (i := 4) (own := [("row", 5)]) rfl nd rfl rfl (sw_true rfl rfl rfl (by decide +kernel)) (pi_tup (pv 1)) (blkOk_by (N := ["prime", "steps", "free", "width", "starts", "row", "whole", "start", "numbers"]) (sc := defScope s_freed) (by decide +kernel)) (fun _ _ _ _ _ => by exact (pg_name (i := 5) nd rfl (Or.inl rfl))) (fun _ _ _ _ _ => by exact pts_nil) (fun _ _ _ _ _ => by exact pe_never)) (pss_cons (ps_set (i := 6) nd rfl (Or.inl rfl) pe_int) (pss_cons (ps_for PassesOwn.never rfl (pi_list (pv 4)) (pg_tupK (K := K) (n := 2) rfl (pgs_cons (pg_name (i := 7) nd rfl (Or.inl rfl)) (pgs_cons (pg_name (i := 5) nd rfl (Or.inl rfl)) pgs_nil))) pss_never) (pss_cons (ps_set (i := 8) nd rfl (Or.inl rfl) (pe_op op_rep (pe_lst (pa_cons pe_int pa_nil)) (pv 3))) (pss_cons (ps_asg (pv 6) (pg_sub (pv 8) (pv 2) set_list)) (pss_cons (ps_for PassesOwn.never rfl (pi_list (pv 4)) (pg_tupK (K := K) (n := 2) rfl (pgs_cons (pg_name (i := 7) nd rfl (Or.inl rfl)) (pgs_cons (pg_name (i := 5) nd rfl (Or.inl rfl)) pgs_nil))) pss_never) (pss_one (ps_ret (pv 8))))))))), fun as β r β' hR => ?_⟩)
  obtain ⟨p, k, rfl, hk, rfl, rfl, rfl⟩ := hR
  dsimp only [cxOf, Cx.nox, Cx.wish]
  refine .ret (st_sq (st_asg (d := .list []) (d_lcT (ds := []) (d_var rfl) (.nil _ _) (by decide) (wipe_ok (by decide)))) (st_sq (st_asg d_int) (st_sq (st_forNil (d_var rfl)) ?_)))
  refine st_own (d := .list (zerosI.map PyData.int)) (by show 8 < 9; decide) (en_repL (ds := [.int 0]) (k := 140) (d_lst (a_con (β1 := none) d_int a_nil) rfl (by decide)) (d_var rfl) (by decide) (by decide) (by decide)) ?_
  refine sp_seq (sw_set (n := k) (k := (k : Int)) (ew_plain fun q => d_var rfl) (ew_plain fun q => d_var rfl) (ixN_nat (by rw [List.length_map, List.length_replicate]; exact hk))) (sp_seq (sw_forNil (ew_plain fun q => d_var rfl)) (sp_end (st_ret ((d_var rfl).to (by rw [show lstI (zerosI.set k 1) = .list ((zerosI.set k 1).map PyData.int) from rfl, List.map_set])))))

abbrev kerN (k : Nat) : List Int := (zerosI.set k 1).reverse
abbrev kerL (p : Int) : List Dt := (List.range 140).map fun i => tupI (Num.made p (kerN (139 - i)))
theorem ker_ok {p : Int} (hp : P07 p) {k : Nat} (hk : k < 140) : Num.MadeOk p (kerN k) := by
  have h1 : (1 : Int) < p ∨ p = 0 := by rcases hp with rfl | rfl <;> decide
  have hm : ∀ m ∈ kerN k, m = 0 ∨ m = 1 := fun m hm => by
    have hm := List.mem_reverse.mp hm
    rcases List.mem_or_eq_of_mem_set hm with h | h
    · exact .inl (List.eq_of_mem_replicate h)
    · exact .inr h
  refine Num.madeOk_tup hp.pr (by rw [List.length_reverse, List.length_set, List.length_replicate]; decide) (fun m h => ?_) ⟨1, List.mem_reverse.mpr ?_, by decide⟩
  · have hb : (2 : Int) < Num.big := by decide
    rcases hm m h with rfl | rfl
    · exact ⟨by omega, by omega⟩
    · exact ⟨by omega, by omega⟩
  · exact List.mem_iff_getElem.mpr ⟨k, by rw [List.length_set, List.length_replicate]; exact hk, by rw [List.getElem_set_self]⟩


abbrev s_kernel_of : Stmt := top 34
theorem sc_kernel_of : FnScope ["prime", "rows", "width", "steps", "row", "starts", "found", "free"] ["prime", "rows", "width"] (defScope s_kernel_of) := ⟨rfl, rfl, rfl, by decide +kernel, rfl, by decide +kernel, by decide +kernel⟩
abbrev R_kernel_of : FR := fun as β r β' => ∃ p d, as = [.imm (.int p), .imm d, .imm (.int 140)] ∧ P07 p ∧ SeqD d [tupI zerosI] ∧ r = .tuple (kerL p) ∧ β = none ∧ β' = none
theorem ok_kernel_of {P : Program} {w : World} {K : PySem.W.Frag} {mg : Str → Option Value} {base : Heap} {Y : Cn} (F : DefAt K "kernel_of" s_kernel_of) (hX : K.In base) (hG : base.Ns mainGlobals mg) (T : Txt K mg Y) (G_echelon_of : FnG P w K mg base 4 "echelon_of" ["prime", "rows"] R_echelon_of) (G_made_normal : FnG P w K mg base 2 "made_normal" ["prime", "numbers"] R_made_normal) (G_freed : FnG P w K mg base 2 "freed" ["prime", "steps", "free", "width"] R_freed) : FnG P w K mg base 5 "kernel_of" ["prime", "rows", "width"] R_kernel_of := by
  have nd := sc_kernel_of.nd
  refine fn_mk F hX hG sc_kernel_of (fun as β r β' h => by first | exact FR.len h | (obtain ⟨_, rfl, _⟩ := h; rfl) | (obtain ⟨_, _, rfl, _⟩ := h; rfl) | (obtain ⟨_, _, _, rfl, _⟩ := h; rfl) | (obtain ⟨_, _, _, _, rfl, _⟩ := h; rfl) | (obtain ⟨_, _, _, _, _, rfl, _⟩ := h; rfl)) (fun _ _ _ _ _ _ _ us hl => match us, hl with | [_, _, _], _ => rfl) (fun f cdv A outer s H E hr => ⟨_, (pss_cons (ps_set (i := 3) nd rfl (Or.inl rfl) (pe_fn G_echelon_of (hr.mono (by decide)) (pa_cons (pv 0) (pa_cons (pe_lc (own := [("row", 4)]) rfl nd (pi_seq (pv 1)) (blkOk_by (N := ["prime", "rows", "width", "steps", "row", "starts", "found", "free"]) (sc := defScope s_kernel_of) (by decide +kernel)) (fun _ _ _ _ _ => by exact (pg_name (i := 4) nd rfl (Or.inl rfl))) (fun _ _ _ _ _ => by exact pts_nil) (fun _ _ _ _ _ => by exact (pe_revTK (K := K) (pv 4)))) pa_nil)))) (pss_cons (ps_setLc (i := 5) (own := [("row", 4)]) rfl nd rfl rfl (sw_true rfl rfl rfl (by decide +kernel)) (pi_tup (pv 3)) (blkOk_by (N := ["prime", "rows", "width", "steps", "row", "starts", "found", "free"]) (sc := defScope s_kernel_of) (by decide +kernel)) (fun _ _ _ _ _ => by exact (pg_name (i := 4) nd rfl (Or.inl rfl))) (fun _ _ _ _ _ => by exact pts_nil) (fun _ _ _ _ _ => by exact pe_never)) (pss_cons (ps_set (i := 6) nd rfl (Or.inl rfl) (pe_lst pa_nil)) (pss_cons (ps_for PassesOwn.never rfl (pi_range3 (by rfl) T.z_range (pa_cons (pe_op op_sub (pv 2) pe_int) (pa_cons (pe_un un_neg pe_int) (pa_cons (pe_un un_neg pe_int) pa_nil)))) (pg_name (i := 7) nd rfl (Or.inl rfl)) (pss_one (ps_if (pt_cmpR op_notIn_seq (pv 7) (pv 5) (by rfl)) (pss_one (ps_expr (pe_castBM (K := K) (pe_bm PySem.F.plainAttrs_list PySem.F.slot_list_append PySem.F.type_list_append mt_append (pv 6) (pa_cons (pe_fn G_made_normal (hr.mono (by decide)) (pa_cons (pv 0) (pa_cons (pe_revL (pe_fn G_freed (hr.mono (by decide)) (pa_cons (pv 0) (pa_cons (pv 3) (pa_cons (pv 7) (pa_cons (pv 2) pa_nil)))))) pa_nil))) pa_nil))))) pss_nil))) (pss_one (ps_ret (pe_callTy c_tuple (by rfl) T.z_tuple bo_tuple (pa_cons (pv 6) pa_nil)))))))), fun as β r β' hR => ?_⟩)
  obtain ⟨p, d, rfl, hp, hd, rfl, rfl, rfl⟩ := hR
  dsimp only [cxOf, Cx.nox, Cx.wish]
  refine .ret (st_sq (st_asg (d := .tuple []) (d_call0 (a_con (d_var rfl) (a_con (d_lcQ (rs := [tupI zerosI]) (d_var rfl) hd (.yes t_yes0 ((d_revT (d_var rfl)).to ?rev) (.nil _ _)) (by decide) (wipe_ok (by decide))) a_nil)) ⟨p, _, rfl, hp, .inl rfl, rfl, rfl, rfl⟩)) (st_sq (st_asg (d := .list []) (d_lcT (ds := []) (d_var rfl) (.nil _ _) (by decide) (wipe_ok (by decide)))) ?_))
  case rev =>
    rw [← List.map_reverse, List.reverse_replicate]
  refine st_own (d := .list []) (by show 6 < 8; decide) (en_lst (ds := []) a_nil (by decide)) ?_
  show StP K 6 _ [some (.imm (.int p)), some (.imm d), some (.imm (.int 140)), some (.imm (.tuple [])), none, some (.imm (.list [])), none, none] none _ _ none
  have app : ∀ (m : Nat) (y : Option Slot), m < 140 → EvB K (tCall (spR K R_made_normal) [] E0 (tCons (tVar 0) (tCons (tRevL K (tCall (spR K R_freed) [] E0 (tCons (tVar 0) (tCons (tVar 3) (tCons (tVar 7) (tCons (tVar 2) tNil)))))) tNil))) [some (.imm (.int p)), some (.imm d), some (.imm (.int 140)), some (.imm (.tuple [])), none, some (.imm (.list [])), none, some (.imm (.int (((139 - m : Nat)) : Int)))] none (tupI (Num.made p (kerN (139 - m)))) none := fun m y hm =>
    d_call0 (a_con (d_var rfl) (a_con ((d_revL (d_call0 (a_con (d_var rfl) (a_con (d_var rfl) (a_con (d_var rfl) (a_con (d_var rfl) a_nil)))) ⟨p, 139 - m, rfl, by omega, rfl, rfl, rfl⟩)).to (by rw [← List.map_reverse])) a_nil)) ⟨p, _, kerN (139 - m), rfl, ⟨.inl rfl, ker_ok hp (by omega)⟩, rfl, rfl, rfl⟩
  obtain ⟨ρ', d', hf, ⟨x', rfl⟩, rfl⟩ := ForW.keep (K := K) (i := 6) (j := 7) (β := none) (tu := tIfS (tTest (tOp (rIn K true) (tVar 7) (tVar 5))) (tDrop (tBM K "list" rAppend (tVar 6) (tCons (tCall (spR K R_made_normal) [] E0 (tCons (tVar 0) (tCons (tRevL K (tCall (spR K R_freed) [] E0 (tCons (tVar 0) (tCons (tVar 3) (tCons (tVar 7) (tCons (tVar 2) tNil)))))) tNil))) tNil))) tNext)
    (F := fun m ρ dd => (∃ x, ρ = [some (.imm (.int p)), some (.imm d), some (.imm (.int 140)), some (.imm (.tuple [])), none, some (.imm (.list [])), none, x]) ∧ dd = .list ((List.range m).map fun i => tupI (Num.made p (kerN (139 - i))))) (es := rngC 139 (-1) 140) (n := 0) ⟨⟨none, rfl⟩, rfl⟩ fun m x ρ dd hx hF => by
      obtain ⟨⟨y, rfl⟩, rfl⟩ := hF
      rw [Nat.zero_add]
      have hm : m < 140 := by
        have := (List.getElem?_eq_some_iff.mp hx).1
        rwa [rngC_length] at this
      have ex : x = .int (((139 - m : Nat)) : Int) := by
        unfold rngC at hx
        rw [List.getElem?_map, List.getElem?_range hm] at hx
        have hx := Option.some.inj hx
        rw [← hx]
        refine congrArg PyData.int ?_
        omega
      subst ex
      refine ⟨_, _, .inl (sw_ifT (tw_plain fun q => (t_test (d_notInI (n := ((139 - m : Nat) : Int)) (ns := []) (d_var rfl) (d_var rfl) (.inl rfl))).to rfl) (sw_app (app m none hm) (by rw [List.length_map, List.length_range]; omega))), ⟨_, rfl⟩, ?_⟩
      rw [List.range_succ, List.map_append]
      rfl
  exact sp_seq (sw_forDown (lo := 139) (hi := -1) (by decide) (ew_plain fun q => (d_sub (d_var rfl) d_int).to rfl) (ew_plain fun q => d_neg d_int) (ew_plain fun q => d_neg d_int) ⟨by decide, by decide, by decide, by decide⟩ hf) (sp_end (st_ret ((d_tupleOf (d_var rfl)).to (by rw [rngC_length]))))


abbrev s_rank : Stmt := top 35
theorem sc_rank : FnScope ["prime", "table"] ["prime", "table"] (defScope s_rank) := ⟨rfl, rfl, rfl, by decide +kernel, rfl, by decide +kernel, by decide +kernel⟩
abbrev R_rank (Y : Cn) : FX := fun as β r β' => ∃ d t, as = [.imm d, .imm t] ∧ ((∃ p, d = .int p ∧ Num.PrimeI p ∧ (Num.isTable p t = false ∧ r = .ex Y.cB none ∨ P07 p ∧ t = bigT ∧ r = .ok (.int 1))) ∨ Num.isPrime d = false ∧ r = .ex Y.cN (some ("given", d))) ∧ β = none ∧ β' = none
theorem ok_rank {P : Program} {w : World} {K : PySem.W.Frag} {mg : Str → Option Value} {base : Heap} {Y : Cn} (F : DefAt K "rank" s_rank) (hX : K.In base) (hG : base.Ns mainGlobals mg) (T : Txt K mg Y) (G_need_table : FnX P w K mg base 5 "need_table" ["prime", "table"] (R_need_table Y)) (G_rank_of : FnG P w K mg base 4 "rank_of" ["prime", "rows"] R_rank_of) : FnX P w K mg base 6 "rank" ["prime", "table"] (R_rank Y) := by
  have nd := sc_rank.nd
  refine fnX_mk F hX hG sc_rank (fun as β r β' h => by first | exact FR.len h | (obtain ⟨_, rfl, _⟩ := h; rfl) | (obtain ⟨_, _, rfl, _⟩ := h; rfl) | (obtain ⟨_, _, _, rfl, _⟩ := h; rfl) | (obtain ⟨_, _, _, _, rfl, _⟩ := h; rfl) | (obtain ⟨_, _, _, _, _, rfl, _⟩ := h; rfl)) (fun _ _ _ _ _ _ _ us hl => match us, hl with | [_, _], _ => rfl) (fun f cdv A outer s H E hr => ⟨_, (pss_cons (ps_expr (pe_fnX G_need_table (hr.mono (by decide)) (pass_x (takes_of rfl rfl rfl rfl)) (pa_cons (pv 0) (pa_cons (pv 1) pa_nil)))) (pss_one (ps_ret (pe_fn G_rank_of (hr.mono (by decide)) (pa_cons (pv 0) (pa_cons (pv 1) pa_nil)))))), fun as β r β' hR => ?_⟩)
  obtain ⟨d, t, rfl, hd, rfl, rfl⟩ := hR
  rcases hd with ⟨p, rfl, hp, ⟨hf, rfl⟩ | ⟨h7, rfl, rfl⟩⟩ | ⟨h, rfl⟩
  · exact .ex (stR_seq (stR_drop (x_raise0 (a_con (d_var rfl) (a_con (d_var rfl) a_nil)) ⟨_, _, rfl, .inl ⟨p, rfl, hp, .inr ⟨hf, rfl⟩⟩, rfl, rfl⟩)))
  · have h1 : EvB K (tCall (spX K (R_need_table Y)) [] E (tCons (tVar 0) (tCons (tVar 1) tNil))) (startR ["prime", "table"] [.imm (.int p), .imm bigT]) none .none none := x_call0 (a_con (d_var rfl) (a_con (d_var rfl) a_nil)) ⟨_, _, rfl, .inl ⟨p, rfl, hp, .inl ⟨big_table h7, rfl⟩⟩, rfl, rfl⟩
    exact .ok (.ret (st_sq (st_drop h1) (st_ret (d_call0 (a_con (d_var rfl) (a_con (d_var rfl) a_nil)) ⟨p, _, rfl, h7, .inr rfl, rfl, rfl, rfl⟩))))
  · exact .ex (stR_seq (stR_drop (x_raise0 (a_con (d_var rfl) (a_con (d_var rfl) a_nil)) ⟨_, _, rfl, .inr ⟨h, rfl⟩, rfl, rfl⟩)))


abbrev s_echelon : Stmt := top 36
theorem sc_echelon : FnScope ["prime", "table"] ["prime", "table"] (defScope s_echelon) := ⟨rfl, rfl, rfl, by decide +kernel, rfl, by decide +kernel, by decide +kernel⟩
abbrev R_echelon (Y : Cn) : FX := fun as β r β' => ∃ d t, as = [.imm d, .imm t] ∧ ((∃ p, d = .int p ∧ Num.PrimeI p ∧ Num.isTable p t = false ∧ r = .ex Y.cB none) ∨ Num.isPrime d = false ∧ r = .ex Y.cN (some ("given", d))) ∧ β = none ∧ β' = none
theorem ok_echelon {P : Program} {w : World} {K : PySem.W.Frag} {mg : Str → Option Value} {base : Heap} {Y : Cn} (F : DefAt K "echelon" s_echelon) (hX : K.In base) (hG : base.Ns mainGlobals mg) (T : Txt K mg Y) (G_need_table : FnX P w K mg base 5 "need_table" ["prime", "table"] (R_need_table Y)) : FnX P w K mg base 6 "echelon" ["prime", "table"] (R_echelon Y) := by
  have nd := sc_echelon.nd
  refine fnX_mk F hX hG sc_echelon (fun as β r β' h => by first | exact FR.len h | (obtain ⟨_, rfl, _⟩ := h; rfl) | (obtain ⟨_, _, rfl, _⟩ := h; rfl) | (obtain ⟨_, _, _, rfl, _⟩ := h; rfl) | (obtain ⟨_, _, _, _, rfl, _⟩ := h; rfl) | (obtain ⟨_, _, _, _, _, rfl, _⟩ := h; rfl)) (fun _ _ _ _ _ _ _ us hl => match us, hl with | [_, _], _ => rfl) (fun f cdv A outer s H E hr => ⟨_, (pss_cons (ps_expr (pe_fnX G_need_table (hr.mono (by decide)) (pass_x (takes_of rfl rfl rfl rfl)) (pa_cons (pv 0) (pa_cons (pv 1) pa_nil)))) (pss_one ps_never)), fun as β r β' hR => ?_⟩)
  obtain ⟨d, t, rfl, hd, rfl, rfl⟩ := hR
  rcases hd with ⟨p, rfl, hp, hf, rfl⟩ | ⟨h, rfl⟩
  · exact .ex (stR_seq (stR_drop (x_raise0 (a_con (d_var rfl) (a_con (d_var rfl) a_nil)) ⟨_, _, rfl, .inl ⟨p, rfl, hp, .inr ⟨hf, rfl⟩⟩, rfl, rfl⟩)))
  · exact .ex (stR_seq (stR_drop (x_raise0 (a_con (d_var rfl) (a_con (d_var rfl) a_nil)) ⟨_, _, rfl, .inr ⟨h, rfl⟩, rfl, rfl⟩)))


abbrev s_is_mix : Stmt := top 37
theorem sc_is_mix : FnScope ["prime", "table", "value"] ["prime", "table", "value"] (defScope s_is_mix) := ⟨rfl, rfl, rfl, by decide +kernel, rfl, by decide +kernel, by decide +kernel⟩
abbrev R_is_mix (Y : Cn) : FX := fun as β r β' => ∃ d t v, as = [.imm d, .imm t, .imm v] ∧ ((∃ p, d = .int p ∧ Num.PrimeI p ∧ Num.isTable p t = false ∧ r = .ex Y.cB none) ∨ Num.isPrime d = false ∧ r = .ex Y.cN (some ("given", d))) ∧ β = none ∧ β' = none
theorem ok_is_mix {P : Program} {w : World} {K : PySem.W.Frag} {mg : Str → Option Value} {base : Heap} {Y : Cn} (F : DefAt K "is_mix" s_is_mix) (hX : K.In base) (hG : base.Ns mainGlobals mg) (T : Txt K mg Y) (G_need_table : FnX P w K mg base 5 "need_table" ["prime", "table"] (R_need_table Y)) (G_all_fit : FnG P w K mg base 3 "all_fit" ["prime", "value", "many"] R_all_fit) : FnX P w K mg base 6 "is_mix" ["prime", "table", "value"] (R_is_mix Y) := by
  have nd := sc_is_mix.nd
  refine fnX_mk F hX hG sc_is_mix (fun as β r β' h => by first | exact FR.len h | (obtain ⟨_, rfl, _⟩ := h; rfl) | (obtain ⟨_, _, rfl, _⟩ := h; rfl) | (obtain ⟨_, _, _, rfl, _⟩ := h; rfl) | (obtain ⟨_, _, _, _, rfl, _⟩ := h; rfl) | (obtain ⟨_, _, _, _, _, rfl, _⟩ := h; rfl)) (fun _ _ _ _ _ _ _ us hl => match us, hl with | [_, _, _], _ => rfl) (fun f cdv A outer s H E hr => ⟨_, (pss_cons (ps_expr (pe_fnX G_need_table (hr.mono (by decide)) (pass_x (takes_of rfl rfl rfl rfl)) (pa_cons (pv 0) (pa_cons (pv 1) pa_nil)))) (pss_cons (ps_if (pt_not (pt_val (pe_fn G_all_fit (hr.mono (by decide)) (pa_cons (pv 0) (pa_cons (pv 2) (pa_cons (pe_callB (c_lenK (K := K)) (by rfl) T.z_len bo_len (pa_cons (pe_ix ix_seq (pv 1) pe_int (fun _ _ => rfl)) pa_nil)) pa_nil)))))) (pss_one (ps_ret pe_bl)) pss_nil) (pss_one ps_never))), fun as β r β' hR => ?_⟩)
  obtain ⟨d, t, v, rfl, hd, rfl, rfl⟩ := hR
  rcases hd with ⟨p, rfl, hp, hf, rfl⟩ | ⟨h, rfl⟩
  · exact .ex (stR_seq (stR_drop (x_raise0 (a_con (d_var rfl) (a_con (d_var rfl) a_nil)) ⟨_, _, rfl, .inl ⟨p, rfl, hp, .inr ⟨hf, rfl⟩⟩, rfl, rfl⟩)))
  · exact .ex (stR_seq (stR_drop (x_raise0 (a_con (d_var rfl) (a_con (d_var rfl) a_nil)) ⟨_, _, rfl, .inr ⟨h, rfl⟩, rfl, rfl⟩)))


abbrev s_kernel : Stmt := top 38
theorem sc_kernel : FnScope ["prime", "table"] ["prime", "table"] (defScope s_kernel) := ⟨rfl, rfl, rfl, by decide +kernel, rfl, by decide +kernel, by decide +kernel⟩
abbrev R_kernel (Y : Cn) : FX := fun as β r β' => ∃ d t, as = [.imm d, .imm t] ∧ ((∃ p, d = .int p ∧ Num.PrimeI p ∧ (Num.isTable p t = false ∧ r = .ex Y.cB none ∨ P07 p ∧ t = zeroT ∧ r = .ok (.tuple (kerL p)))) ∨ Num.isPrime d = false ∧ r = .ex Y.cN (some ("given", d))) ∧ β = none ∧ β' = none
theorem ok_kernel {P : Program} {w : World} {K : PySem.W.Frag} {mg : Str → Option Value} {base : Heap} {Y : Cn} (F : DefAt K "kernel" s_kernel) (hX : K.In base) (hG : base.Ns mainGlobals mg) (T : Txt K mg Y) (G_need_table : FnX P w K mg base 5 "need_table" ["prime", "table"] (R_need_table Y)) (G_kernel_of : FnG P w K mg base 5 "kernel_of" ["prime", "rows", "width"] R_kernel_of) : FnX P w K mg base 6 "kernel" ["prime", "table"] (R_kernel Y) := by
  have nd := sc_kernel.nd
  refine fnX_mk F hX hG sc_kernel (fun as β r β' h => by first | exact FR.len h | (obtain ⟨_, rfl, _⟩ := h; rfl) | (obtain ⟨_, _, rfl, _⟩ := h; rfl) | (obtain ⟨_, _, _, rfl, _⟩ := h; rfl) | (obtain ⟨_, _, _, _, rfl, _⟩ := h; rfl) | (obtain ⟨_, _, _, _, _, rfl, _⟩ := h; rfl)) (fun _ _ _ _ _ _ _ us hl => match us, hl with | [_, _], _ => rfl) (fun f cdv A outer s H E hr => ⟨_, (pss_cons (ps_expr (pe_fnX G_need_table (hr.mono (by decide)) (pass_x (takes_of rfl rfl rfl rfl)) (pa_cons (pv 0) (pa_cons (pv 1) pa_nil)))) (pss_one (ps_ret (pe_fn G_kernel_of (hr.mono (by decide)) (pa_cons (pv 0) (pa_cons (pv 1) (pa_cons (pe_callB (c_lenK (K := K)) (by rfl) T.z_len bo_len (pa_cons (pe_ix ix_seq (pv 1) pe_int (fun _ _ => rfl)) pa_nil)) pa_nil))))))), fun as β r β' hR => ?_⟩)
  obtain ⟨d, t, rfl, hd, rfl, rfl⟩ := hR
  rcases hd with ⟨p, rfl, hp, ⟨hf, rfl⟩ | ⟨h7, rfl, rfl⟩⟩ | ⟨h, rfl⟩
  · exact .ex (stR_seq (stR_drop (x_raise0 (a_con (d_var rfl) (a_con (d_var rfl) a_nil)) ⟨_, _, rfl, .inl ⟨p, rfl, hp, .inr ⟨hf, rfl⟩⟩, rfl, rfl⟩)))
  · have h1 : EvB K (tCall (spX K (R_need_table Y)) [] E (tCons (tVar 0) (tCons (tVar 1) tNil))) (startR ["prime", "table"] [.imm (.int p), .imm zeroT]) none .none none := x_call0 (a_con (d_var rfl) (a_con (d_var rfl) a_nil)) ⟨_, _, rfl, .inl ⟨p, rfl, hp, .inl ⟨zero_table h7, rfl⟩⟩, rfl, rfl⟩
    exact .ok (.ret (st_sq (st_drop h1) (st_ret (d_call0 (a_con (d_var rfl) (a_con (d_var rfl) (a_con ((d_len (d_ix (d_var rfl) (.inr rfl) d_int (at0 _ _)) (.inr rfl)).to rfl) a_nil))) ⟨p, _, rfl, h7, .inr rfl, rfl, rfl, rfl⟩))))
  · exact .ex (stR_seq (stR_drop (x_raise0 (a_con (d_var rfl) (a_con (d_var rfl) a_nil)) ⟨_, _, rfl, .inr ⟨h, rfl⟩, rfl, rfl⟩)))

end K03
/-! ## NumUnd -/
set_option Elab.async false
set_option linter.all false
set_option maxRecDepth 100000
set_option maxHeartbeats 1000100
/-! A table that is undone, as law k03 asks. -/
namespace Num
open PySem Det
structure UndN (p : Int) (k : Nat) (rows T : List (List Int)) (z : Int) : Prop where
  sq : Sq k T
  sz : ∀ r ∈ T, ∀ x ∈ r, x.natAbs ≤ 1000 ∧ (p ≠ 0 → 0 ≤ x ∧ x < p)
  nor : normalF p T.flatten = T.flatten
  prod : (T.map fun r => (acrossL k rows).map fun c => settled p (dot r c)) = (List.range k).map fun i => (List.range k).map fun j => if j = i then z else 0
  ne : z ≠ 0
  sent : ∀ v : List Int, v.length = k → (T.map fun r => settled p (dot r (rows.map fun q => settled p (dot q v)))) = v.map fun n => settled p (z * n)
theorem made_nor {p : Int} {ns : List Int} (h : MadeOk p ns) : normalF p (made p ns) = made p ns := by
  obtain ⟨k, hk, e⟩ := made_factor h
  rw [← normal_mul h.pr hk (made p ns), normal_cong (ys := ns) (by rw [List.map_map]; exact e), normal_same h]
theorem made_rngs {p : Int} {ns : List Int} (h : MadeOk p ns) (hz : ∀ n ∈ ns, n.natAbs ≤ 1000) : ∀ m ∈ made p ns, m.natAbs ≤ 1000 ∧ (p ≠ 0 → 0 ≤ m ∧ m < p) := fun m hm => by
  refine ⟨made_sz h (by decide) hz m hm, fun h0 => ?_⟩
  unfold made at hm
  rw [if_pos h0] at hm
  obtain ⟨n, _, rfl⟩ := List.mem_map.mp hm
  have := prime_pos h.pr h0
  exact ⟨Int.emod_nonneg _ h0, Int.emod_lt_of_pos _ (by omega)⟩
theorem made_norm {p : Int} {ns : List Int} (h : allZero (ns.map (settled p)) = false) : made p (ns.map (settled p)) = normalF p ns := by
  unfold normalF
  rw [if_neg (by rw [h]; decide)]
theorem zero_of {p t : Int} (h : settled p t = 0) : Cong p t 0 := by
  show settled p t = settled p 0
  rw [h, settled_zero]
theorem dot2 (a b c d : Int) : dot [a, b] [c, d] = a * c + b * d := by simp [dot]
theorem dot3 (a b c d e f : Int) : dot [a, b, c] [d, e, f] = a * d + b * e + c * f := by
  simp only [dot, List.zip_cons_cons, List.zip_nil_right, List.map_cons, List.map_nil, List.sum_cons, List.sum_nil]
  omega
theorem all_four {p a b c d : Int} (h : allZero ([a, b, c, d].map (settled p)) = true) : Cong p a 0 ∧ Cong p b 0 ∧ Cong p c 0 ∧ Cong p d 0 := by
  simp only [allZero, List.map_cons, List.map_nil, List.all_cons, List.all_nil, Bool.and_true, Bool.and_eq_true, decide_eq_true_eq] at h
  obtain ⟨h1, h2, h3, h4⟩ := h
  exact ⟨zero_of h1, zero_of h2, zero_of h3, zero_of h4⟩
theorem not_four {p a b c d : Int} (hD : UnitI p (a * d - b * c)) : allZero ((adj2 a b c d).map (settled p)) = false := by
  refine Bool.eq_false_iff.mpr fun h => hD ?_
  obtain ⟨h1, h2, h3, h4⟩ := all_four h
  have := (h4.mul h1).sub (h2.mul h3)
  rw [show -b * -c = b * c by grind] at this
  have e : settled p (a * d - b * c) = settled p (0 * 0 - 0 * 0) := this
  rw [e]
  exact settled_zero p
theorem undN2 {p a b c d : Int} (hp : PrimeI p) (ha : a.natAbs ≤ 19) (hb : b.natAbs ≤ 19) (hc : c.natAbs ≤ 19) (hd : d.natAbs ≤ 19) (hD : UnitI p (a * d - b * c)) :
    MadeOk p ((adj2 a b c d).map (settled p)) ∧ ∃ w x y z s, made p ((adj2 a b c d).map (settled p)) = [w, x, y, z] ∧ UndN p 2 [[a, b], [c, d]] [[w, x], [y, z]] s ∧ UnitI p (w * z - x * y) ∧ MadeOk p ((adj2 w x y z).map (settled p)) ∧ made p ((adj2 w x y z).map (settled p)) = normalF p [a, b, c, d] := by
  have hz : ∀ n ∈ adj2 a b c d, n.natAbs ≤ 1000 := fun n hn => by
    simp only [adj2, List.mem_cons, List.not_mem_nil, or_false] at hn
    rcases hn with rfl | rfl | rfl | rfl <;> omega
  have big : (1000 : Nat) < 2 ^ 1000 := Nat.lt_of_lt_of_le (m := 2 ^ 10) (by decide) (Nat.pow_le_pow_right (by decide) (by decide))
  have ok := told_ok hp (ns := adj2 a b c d) (by show 4 ≤ 140; decide) (fun n hn => Nat.lt_of_le_of_lt (hz n hn) big) (not_four hD)
  refine ⟨ok, ?_⟩
  obtain ⟨w, x, y, z, k, em, u⟩ := und2 ok
  obtain ⟨q1, q2, q3, q4⟩ := u.prod
  have cz : ∀ {t : Int}, Cong p (k * t) 0 → Cong p t 0 := fun {t} h => Cong.cancel hp u.u (by rw [Int.mul_zero]; exact h)
  have e2 := cz q2
  have e3 := cz q3
  have e4 : Cong p (y * b + z * d) (w * a + x * c) := Cong.cancel hp u.u (q4.trans q1.symm)
  have rng := made_rngs ok fun n hn => by
    obtain ⟨m, hm, rfl⟩ := List.mem_map.mp hn
    exact settled_abs hp (by decide) (hz m hm)
  have nor := made_nor ok
  rw [em] at rng nor
  have hdet : UnitI p (w * z - x * y) := by
    have := (u.h1.mul u.h4).sub (u.h2.mul u.h3)
    rw [show k * w * (k * z) - k * x * (k * y) = (k * k) * (w * z - x * y) by grind, show d * a - -b * -c = a * d - b * c by grind] at this
    exact unit_of hD this
  have no2 := not_four (p := p) hdet
  refine ⟨w, x, y, z, settled p (w * a + x * c), em, ⟨⟨rfl, ?_⟩, ?_, nor, ?_, unit_of hD q1, ?_⟩, hdet, ?_, ?_⟩
  · intro r hr
    simp only [List.mem_cons, List.not_mem_nil, or_false] at hr
    rcases hr with rfl | rfl <;> rfl
  · intro r hr t ht
    refine rng t ?_
    simp only [List.mem_cons, List.not_mem_nil, or_false] at hr ⊢
    rcases hr with rfl | rfl <;> simp only [List.mem_cons, List.not_mem_nil, or_false] at ht <;> grind
  · show [[settled p (dot [w, x] [a, c]), settled p (dot [w, x] [b, d])], [settled p (dot [y, z] [a, c]), settled p (dot [y, z] [b, d])]] = [[settled p (w * a + x * c), 0], [0, settled p (w * a + x * c)]]
    rw [dot2, dot2, dot2, dot2, show settled p (w * b + x * d) = 0 from Eq.trans e2 (settled_zero p), show settled p (y * a + z * c) = 0 from Eq.trans e3 (settled_zero p), show settled p (y * b + z * d) = settled p (w * a + x * c) from e4]
  · intro v hv
    match v, hv with
    | [v0, v1], _ =>
      show [settled p (dot [w, x] [settled p (dot [a, b] [v0, v1]), settled p (dot [c, d] [v0, v1])]), settled p (dot [y, z] [settled p (dot [a, b] [v0, v1]), settled p (dot [c, d] [v0, v1])])] = [settled p (settled p (w * a + x * c) * v0), settled p (settled p (w * a + x * c) * v1)]
      have r := fun t => Cong.refl p t
      rw [dot2, dot2, dot2, dot2]
      have c1 := cong_settled p (a * v0 + b * v1)
      have c2 := cong_settled p (c * v0 + d * v1)
      have s0 := (cong_settled p (w * a + x * c)).symm
      have f1 : Cong p (w * settled p (a * v0 + b * v1) + x * settled p (c * v0 + d * v1)) (settled p (w * a + x * c) * v0) := by
        have g1 := ((r w).mul c1).add ((r x).mul c2)
        have g2 := (s0.mul (r v0)).add (e2.mul (r v1))
        rw [show (w * a + x * c) * v0 + (w * b + x * d) * v1 = w * (a * v0 + b * v1) + x * (c * v0 + d * v1) by grind, show settled p (w * a + x * c) * v0 + 0 * v1 = settled p (w * a + x * c) * v0 by omega] at g2
        exact g1.trans g2
      have f2 : Cong p (y * settled p (a * v0 + b * v1) + z * settled p (c * v0 + d * v1)) (settled p (w * a + x * c) * v1) := by
        have g1 := ((r y).mul c1).add ((r z).mul c2)
        have g2 := (e3.mul (r v0)).add ((e4.trans s0).mul (r v1))
        rw [show (y * a + z * c) * v0 + (y * b + z * d) * v1 = y * (a * v0 + b * v1) + z * (c * v0 + d * v1) by grind, show 0 * v0 + settled p (w * a + x * c) * v1 = settled p (w * a + x * c) * v1 by omega] at g2
        exact g1.trans g2
      rw [show settled p _ = settled p _ from f1, show settled p _ = settled p _ from f2]
  · refine told_ok hp (by show 4 ≤ 140; decide) (fun n hn => ?_) no2
    refine Nat.lt_of_le_of_lt (m := 1000) ?_ big
    have r1 := (rng w (by simp)).1
    have r2 := (rng x (by simp)).1
    have r3 := (rng y (by simp)).1
    have r4 := (rng z (by simp)).1
    simp only [adj2, List.mem_cons, List.not_mem_nil, or_false] at hn
    rcases hn with rfl | rfl | rfl | rfl <;> omega
  · rw [made_norm no2]
    exact u.again hp
theorem not_nine {p a b c d e f g h i : Int} (hD : UnitI p (det3 a b c d e f g h i)) : allZero ((adj3 a b c d e f g h i).map (settled p)) = false := by
  refine Bool.eq_false_iff.mpr fun z => hD ?_
  simp only [adj3, allZero, List.map_cons, List.map_nil, List.all_cons, List.all_nil, Bool.and_true, Bool.and_eq_true, decide_eq_true_eq] at z
  obtain ⟨h0, _, _, h3, _, _, h6, _, _⟩ := z
  have := (((Cong.refl p a).mul (zero_of h0)).add ((Cong.refl p b).mul (zero_of h3))).add ((Cong.refl p c).mul (zero_of h6))
  rw [show a * (e * i - f * h) + b * -(d * i - f * g) + c * (d * h - e * g) = det3 a b c d e f g h i by unfold det3; grind] at this
  have e : settled p (det3 a b c d e f g h i) = settled p (a * 0 + b * 0 + c * 0) := this
  rw [e, show a * 0 + b * 0 + c * 0 = 0 by omega]
  exact settled_zero p
theorem mul_le {a b : Int} {m n : Nat} (h1 : a.natAbs ≤ m) (h2 : b.natAbs ≤ n) : (a * b).natAbs ≤ m * n := by
  rw [Int.natAbs_mul]
  exact Nat.mul_le_mul h1 h2
theorem adj3_sz {m : Nat} {a b c d e f g h i : Int} (hs : ∀ t ∈ [a, b, c, d, e, f, g, h, i], t.natAbs ≤ m) : ∀ n ∈ adj3 a b c d e f g h i, n.natAbs ≤ 2 * (m * m) := fun n hn => by
  have q : ∀ {s t u v : Int}, s ∈ [a, b, c, d, e, f, g, h, i] → t ∈ [a, b, c, d, e, f, g, h, i] → u ∈ [a, b, c, d, e, f, g, h, i] → v ∈ [a, b, c, d, e, f, g, h, i] → (s * t - u * v).natAbs ≤ 2 * (m * m) := fun h1 h2 h3 h4 => by
    have a1 := mul_le (hs _ h1) (hs _ h2)
    have a2 := mul_le (hs _ h3) (hs _ h4)
    omega
  simp only [adj3, List.mem_cons, List.not_mem_nil, or_false] at hn
  rcases hn with rfl | rfl | rfl | rfl | rfl | rfl | rfl | rfl | rfl <;> first | exact q (by simp) (by simp) (by simp) (by simp) | (rw [Int.natAbs_neg]; exact q (by simp) (by simp) (by simp) (by simp))
theorem undN3 {p a b c d e f g h i : Int} (hp : PrimeI p) (hs : ∀ t ∈ [a, b, c, d, e, f, g, h, i], t.natAbs ≤ 19) (hD : UnitI p (det3 a b c d e f g h i)) :
    MadeOk p ((adj3 a b c d e f g h i).map (settled p)) ∧ ∃ m0 m1 m2 m3 m4 m5 m6 m7 m8 s, made p ((adj3 a b c d e f g h i).map (settled p)) = [m0, m1, m2, m3, m4, m5, m6, m7, m8] ∧ UndN p 3 [[a, b, c], [d, e, f], [g, h, i]] [[m0, m1, m2], [m3, m4, m5], [m6, m7, m8]] s ∧
      UnitI p (det3 m0 m1 m2 m3 m4 m5 m6 m7 m8) ∧ MadeOk p ((adj3 m0 m1 m2 m3 m4 m5 m6 m7 m8).map (settled p)) ∧ made p ((adj3 m0 m1 m2 m3 m4 m5 m6 m7 m8).map (settled p)) = normalF p [a, b, c, d, e, f, g, h, i] := by
  have hz : ∀ n ∈ adj3 a b c d e f g h i, n.natAbs ≤ 1000 := fun n hn => Nat.le_trans (adj3_sz hs n hn) (by decide)
  have big : (2000000 : Nat) < 2 ^ 1000 := Nat.lt_of_lt_of_le (m := 2 ^ 21) (by decide) (Nat.pow_le_pow_right (by decide) (by decide))
  have ok := told_ok hp (ns := adj3 a b c d e f g h i) (by show 9 ≤ 140; decide) (fun n hn => Nat.lt_of_le_of_lt (Nat.le_trans (hz n hn) (by decide)) big) (not_nine hD)
  refine ⟨ok, ?_⟩
  obtain ⟨m0, m1, m2, m3, m4, m5, m6, m7, m8, k, em, u⟩ := und3 ok
  obtain ⟨q0, q1, q2, q3, q4, q5, q6, q7, q8⟩ := u.prod
  have cz : ∀ {t : Int}, Cong p (k * t) 0 → Cong p t 0 := fun {t} h => Cong.cancel hp u.u (by rw [Int.mul_zero]; exact h)
  have e1 := cz q1
  have e2 := cz q2
  have e3 := cz q3
  have e5 := cz q5
  have e6 := cz q6
  have e7 := cz q7
  have e4 : Cong p (m3 * b + m4 * e + m5 * h) (m0 * a + m1 * d + m2 * g) := Cong.cancel hp u.u (q4.trans q0.symm)
  have e8 : Cong p (m6 * c + m7 * f + m8 * i) (m0 * a + m1 * d + m2 * g) := Cong.cancel hp u.u (q8.trans q0.symm)
  have rng := made_rngs ok fun n hn => by
    obtain ⟨m, hm, rfl⟩ := List.mem_map.mp hn
    exact settled_abs hp (by decide) (hz m hm)
  have nor := made_nor ok
  rw [em] at rng nor
  have hdet : UnitI p (det3 m0 m1 m2 m3 m4 m5 m6 m7 m8) := by
    -- the rows of the adjugate make the square of the determinant
    have r0 := (((u.h4.mul u.h8).sub (u.h5.mul u.h7)).mul u.h0)
    have r1 := (((u.h3.mul u.h8).sub (u.h5.mul u.h6)).mul u.h1)
    have r2 := (((u.h3.mul u.h7).sub (u.h4.mul u.h6)).mul u.h2)
    have := (r0.sub r1).add r2
    rw [show (k * m4 * (k * m8) - k * m5 * (k * m7)) * (k * m0) - (k * m3 * (k * m8) - k * m5 * (k * m6)) * (k * m1) + (k * m3 * (k * m7) - k * m4 * (k * m6)) * (k * m2) = (k * k * k) * det3 m0 m1 m2 m3 m4 m5 m6 m7 m8 by unfold det3; grind] at this
    refine unit_of (hD.mul hp hD) (this.trans ?_)
    refine Eq.subst (motive := fun t => Cong p t (det3 a b c d e f g h i * det3 a b c d e f g h i)) ?_ (Cong.refl p _)
    unfold det3
    grind
  have no2 := not_nine (p := p) hdet
  refine ⟨m0, m1, m2, m3, m4, m5, m6, m7, m8, settled p (m0 * a + m1 * d + m2 * g), em, ⟨⟨rfl, ?_⟩, ?_, nor, ?_, unit_of hD q0, ?_⟩, hdet, ?_, ?_⟩
  · intro r hr
    simp only [List.mem_cons, List.not_mem_nil, or_false] at hr
    rcases hr with rfl | rfl | rfl <;> rfl
  · intro r hr t ht
    refine rng t ?_
    simp only [List.mem_cons, List.not_mem_nil, or_false] at hr ⊢
    rcases hr with rfl | rfl | rfl <;> simp only [List.mem_cons, List.not_mem_nil, or_false] at ht <;> grind
  · show [[settled p (dot [m0, m1, m2] [a, d, g]), settled p (dot [m0, m1, m2] [b, e, h]), settled p (dot [m0, m1, m2] [c, f, i])], [settled p (dot [m3, m4, m5] [a, d, g]), settled p (dot [m3, m4, m5] [b, e, h]), settled p (dot [m3, m4, m5] [c, f, i])], [settled p (dot [m6, m7, m8] [a, d, g]), settled p (dot [m6, m7, m8] [b, e, h]), settled p (dot [m6, m7, m8] [c, f, i])]] = [[settled p (m0 * a + m1 * d + m2 * g), 0, 0], [0, settled p (m0 * a + m1 * d + m2 * g), 0], [0, 0, settled p (m0 * a + m1 * d + m2 * g)]]
    rw [dot3, dot3, dot3, dot3, dot3, dot3, dot3, dot3, dot3, show settled p (m0 * b + m1 * e + m2 * h) = 0 from Eq.trans e1 (settled_zero p), show settled p (m0 * c + m1 * f + m2 * i) = 0 from Eq.trans e2 (settled_zero p), show settled p (m3 * a + m4 * d + m5 * g) = 0 from Eq.trans e3 (settled_zero p), show settled p (m3 * c + m4 * f + m5 * i) = 0 from Eq.trans e5 (settled_zero p), show settled p (m6 * a + m7 * d + m8 * g) = 0 from Eq.trans e6 (settled_zero p), show settled p (m6 * b + m7 * e + m8 * h) = 0 from Eq.trans e7 (settled_zero p), show settled p (m3 * b + m4 * e + m5 * h) = settled p (m0 * a + m1 * d + m2 * g) from e4, show settled p (m6 * c + m7 * f + m8 * i) = settled p (m0 * a + m1 * d + m2 * g) from e8]
  · intro v hv
    match v, hv with
    | [v0, v1, v2], _ =>
      show [settled p (dot [m0, m1, m2] [settled p (dot [a, b, c] [v0, v1, v2]), settled p (dot [d, e, f] [v0, v1, v2]), settled p (dot [g, h, i] [v0, v1, v2])]), settled p (dot [m3, m4, m5] [settled p (dot [a, b, c] [v0, v1, v2]), settled p (dot [d, e, f] [v0, v1, v2]), settled p (dot [g, h, i] [v0, v1, v2])]), settled p (dot [m6, m7, m8] [settled p (dot [a, b, c] [v0, v1, v2]), settled p (dot [d, e, f] [v0, v1, v2]), settled p (dot [g, h, i] [v0, v1, v2])])] = [settled p (settled p (m0 * a + m1 * d + m2 * g) * v0), settled p (settled p (m0 * a + m1 * d + m2 * g) * v1), settled p (settled p (m0 * a + m1 * d + m2 * g) * v2)]
      have r := fun t => Cong.refl p t
      rw [dot3, dot3, dot3, dot3, dot3, dot3]
      have c1 := cong_settled p (a * v0 + b * v1 + c * v2)
      have c2 := cong_settled p (d * v0 + e * v1 + f * v2)
      have c3 := cong_settled p (g * v0 + h * v1 + i * v2)
      have s0 := (cong_settled p (m0 * a + m1 * d + m2 * g)).symm
      have line : ∀ {x y z s0' s1' s2' : Int}, Cong p (x * a + y * d + z * g) s0' → Cong p (x * b + y * e + z * h) s1' → Cong p (x * c + y * f + z * i) s2' → Cong p (x * settled p (a * v0 + b * v1 + c * v2) + y * settled p (d * v0 + e * v1 + f * v2) + z * settled p (g * v0 + h * v1 + i * v2)) (s0' * v0 + s1' * v1 + s2' * v2) := fun {x y z s0' s1' s2'} h1 h2 h3 => by
        have g1 := (((r x).mul c1).add ((r y).mul c2)).add ((r z).mul c3)
        have g2 := ((h1.mul (r v0)).add (h2.mul (r v1))).add (h3.mul (r v2))
        rw [show (x * a + y * d + z * g) * v0 + (x * b + y * e + z * h) * v1 + (x * c + y * f + z * i) * v2 = x * (a * v0 + b * v1 + c * v2) + y * (d * v0 + e * v1 + f * v2) + z * (g * v0 + h * v1 + i * v2) by grind] at g2
        exact g1.trans g2
      have f0 := line s0 e1 e2
      have f1 := line e3 (e4.trans s0) e5
      have f2 := line e6 e7 (e8.trans s0)
      rw [Int.zero_mul, Int.zero_mul, Int.add_zero, Int.add_zero] at f0
      rw [Int.zero_mul, Int.zero_mul, Int.zero_add, Int.add_zero] at f1
      rw [Int.zero_mul, Int.zero_mul, Int.zero_add, Int.zero_add] at f2
      rw [show settled p _ = settled p _ from f0, show settled p _ = settled p _ from f1, show settled p _ = settled p _ from f2]
  · refine told_ok hp (by show 9 ≤ 140; decide) (fun n hn => ?_) no2
    exact Nat.lt_of_le_of_lt (adj3_sz (m := 1000) (fun t ht => (rng t ht).1) n hn) (Nat.lt_of_lt_of_le (m := 2 ^ 21) (by decide) (Nat.pow_le_pow_right (by decide) (by decide)))
  · rw [made_norm no2]
    exact u.again hp hD
end Num
/-! ## TdZm -/
set_option Elab.async false
set_option linter.all false
set_option maxRecDepth 100000
set_option maxHeartbeats 4100200
/-! zip of a tuple and a list. -/
namespace TD
open PySem L2 PySem.Spec PyProof.Rows
open Evl (Ex ex_l ex_t fresh_back sq_of st_of sz_of sz_lt)
/-- the heap with a zip over a tuple and a list -/
abbrev zm1 (h : Heap) (l1 : Addr) : Heap := h.push { cls := .type "tuple_iterator", data := .fields #[.ref l1, .int 0 0] }
abbrev zm2 (h : Heap) (l1 l2 : Addr) : Heap := (zm1 h l1).push { cls := .type "list_iterator", data := .fields #[.ref l2, .int 0 0] }
abbrev zm3 (h : Heap) (l1 l2 : Addr) : Heap := (zm2 h l1 l2).push { cls := .type "tuple", data := .seq #[.ref h.objs.size, .ref (zm1 h l1).objs.size] }
abbrev zm4 (h : Heap) (l1 l2 : Addr) : Heap := (zm3 h l1 l2).push { cls := .type "tuple", data := .seq #[.none, .none] }
abbrev zm5 (h : Heap) (l1 l2 : Addr) : Heap := (zm4 h l1 l2).push { cls := .type "zip", data := .fields #[.none, .bool false, .bool false, .ref (zm2 h l1 l2).objs.size, .ref (zm3 h l1 l2).objs.size] }
theorem meets_zm (l1 l2 : Addr) (xs ys : Array Value) :
    Meets (Builtin.«zip.__new__» ⟨[.type "zip", .ref l1, .ref l2], []⟩) (fun _ R s => s.heap.IsTuple l1 xs ∧ s.heap.IsList l2 ys ∧ R (.ok (.ret (.ref (zm4 s.heap l1 l2).objs.size))) { s with heap := zm5 s.heap l1 l2 }) := by
  refine .of_wp ?_
  rintro prog w A R ⟨hp, gs, dr, tk, os⟩ ⟨tup, lst, fin⟩
  have hsub := sub_zip
  have q1 : Heap.IsTuple (Shared.heap ⟨hp, gs, dr, tk, os⟩) l1 xs := tup
  have q2 : Heap.IsList (Shared.heap ⟨zm1 hp l1, gs, dr, tk, os⟩) l2 ys := Heap.IsList.push lst _
  wp_walk using wpAny_pyIter_tuple q1, wpAny_pyIter_list q2
  exact ⟨_, rfl, fin⟩
theorem call_zm {prog : Program} {w : World} {A : Around} {E : Value → Shared → Prop} {s : Shared} {l1 l2 : Addr} {xs ys : Array Value} {Q : Value → Shared → Prop} (hl1 : s.heap.IsTuple l1 xs) (hl2 : s.heap.IsList l2 ys)
    (h : ∀ g, IsZip g (s.heap.objs.size + 4) (s.heap.objs.size + 2) (s.heap.objs.size + 3) .none → IsTupOf2 g (s.heap.objs.size + 2) (.ref s.heap.objs.size) (.ref (s.heap.objs.size + 1)) → IsTupOf2 g (s.heap.objs.size + 3) .none .none → g.IsTupleIter s.heap.objs.size l1 0 → g.IsListIter (s.heap.objs.size + 1) l2 0 →
      (∀ c o, s.heap.get? c = some o → g.get? c = some o) → Q (.ref (s.heap.objs.size + 4)) { s with heap := g }) : wpAny (model prog w) A (call (.type "zip") [.ref l1, .ref l2]) Q E s := by
  refine callType_new F.called_zip (by decide) (F.typeCall_zip_2 _ _) (F.newCall_zip_2 _ _) (fun o => F.args_object_init_3 o _ _) F.entry_zip_new (meets_zm l1 l2 xs ys) ⟨hl1, hl2, ?_⟩
  have n1 : (zm1 s.heap l1).objs.size = s.heap.objs.size + 1 := Heap.size_push ..
  have n2 : (zm2 s.heap l1 l2).objs.size = s.heap.objs.size + 2 := (Heap.size_push ..).trans (congrArg (· + 1) n1)
  have n3 : (zm3 s.heap l1 l2).objs.size = s.heap.objs.size + 3 := (Heap.size_push ..).trans (congrArg (· + 1) n2)
  have n4 : (zm4 s.heap l1 l2).objs.size = s.heap.objs.size + 4 := (Heap.size_push ..).trans (congrArg (· + 1) n3)
  have up1 : ∀ {c : Addr} {o : Obj}, (zm4 s.heap l1 l2).get? c = some o → (zm5 s.heap l1 l2).get? c = some o := fun e => Heap.get?_push_of_some _ e
  have up2 : ∀ {c : Addr} {o : Obj}, (zm3 s.heap l1 l2).get? c = some o → (zm5 s.heap l1 l2).get? c = some o := fun e => up1 (Heap.get?_push_of_some _ e)
  have up3 : ∀ {c : Addr} {o : Obj}, (zm2 s.heap l1 l2).get? c = some o → (zm5 s.heap l1 l2).get? c = some o := fun e => up2 (Heap.get?_push_of_some _ e)
  have up4 : ∀ {c : Addr} {o : Obj}, (zm1 s.heap l1).get? c = some o → (zm5 s.heap l1 l2).get? c = some o := fun e => up3 (Heap.get?_push_of_some _ e)
  have a5 : (zm5 s.heap l1 l2).get? (s.heap.objs.size + 4) = some { cls := .type "zip", data := .fields #[.none, .bool false, .bool false, .ref (zm2 s.heap l1 l2).objs.size, .ref (zm3 s.heap l1 l2).objs.size] } := by rw [← n4]; exact Heap.get?_push_size _ rfl
  rw [n2, n3] at a5
  have a4 : (zm5 s.heap l1 l2).get? (s.heap.objs.size + 3) = some { cls := .type "tuple", data := .seq #[.none, .none] } := by rw [← n3]; exact up1 (Heap.get?_push_size _ rfl)
  have a3 : (zm5 s.heap l1 l2).get? (s.heap.objs.size + 2) = some { cls := .type "tuple", data := .seq #[.ref s.heap.objs.size, .ref (zm1 s.heap l1).objs.size] } := by rw [← n2]; exact up2 (Heap.get?_push_size _ rfl)
  rw [n1] at a3
  have a2 : (zm5 s.heap l1 l2).get? (s.heap.objs.size + 1) = some { cls := .type "list_iterator", data := .fields #[.ref l2, .int 0 0] } := by rw [← n1]; exact up3 (Heap.get?_push_size _ rfl)
  have a1 : (zm5 s.heap l1 l2).get? s.heap.objs.size = some { cls := .type "tuple_iterator", data := .fields #[.ref l1, .int 0 0] } := up4 (Heap.get?_push_size _ rfl)
  show _ ∧ _
  rw [n4]
  exact ⟨⟨_, a5, rfl⟩, h _ a5 a3 a4 ⟨_, a1, rfl, rfl⟩ ⟨_, a2, rfl, rfl⟩ fun c o e => up4 (Heap.get?_push_of_some _ e)⟩
/-- the tuple at a and the list at b, as they stand at each turn -/
def ItzM (K : PySem.W.Frag) (a b : Addr) : It where
  go i H := ∃ (xs ys : List V) (x y : V), SqT K H a xs ∧ SqL K H b ys ∧ xs[i]? = some x ∧ ys[i]? = some y ∧ xs.length = ys.length
  yld i H v H' := ∃ T x y, v = .ref T ∧ H T = none ∧ H' = upd H T (.tup [x, y]) ∧ (∀ xs, SqT K H a xs → xs[i]? = some x) ∧ ∀ ys, SqL K H b ys → ys[i]? = some y
  stop i H := ∃ xs ys : List V, SqT K H a xs ∧ SqL K H b ys ∧ xs.length = i ∧ ys.length = i
/-- where a zip of the tuple at a and the list at b stands -/
structure ZmSt (z TI TO i1 i2 a b : Addr) (i : Nat) (h : Heap) : Prop where
  zip_ : IsZip h z TI TO .none
  its : IsTupOf2 h TI (.ref i1) (.ref i2)
  out : ∃ x y, IsTupOf2 h TO x y
  left : h.IsTupleIter i1 a i
  right : h.IsListIter i2 b i
theorem mem_five {z TI TO i1 i2 c : Addr} (hc : c ∈ [z, TI, TO, i1, i2]) : c = z ∨ c = TI ∨ c = TO ∨ c = i1 ∨ c = i2 := by
  simpa using hc
theorem not_five {z TI TO i1 i2 c : Addr} (hc : c ∉ [z, TI, TO, i1, i2]) : c ≠ z ∧ c ≠ TO ∧ c ≠ i1 ∧ c ≠ i2 := by
  simp only [List.mem_cons, List.not_mem_nil, or_false, not_or] at hc
  exact ⟨hc.1, hc.2.2.1, hc.2.2.2.1, hc.2.2.2.2⟩
theorem ZmSt.lt {z TI TO i1 i2 a b c : Addr} {i : Nat} {h : Heap} (st : ZmSt z TI TO i1 i2 a b i h) (hc : c ∈ [z, TI, TO, i1, i2]) : c < h.objs.size := by
  rcases mem_five hc with rfl | rfl | rfl | rfl | rfl
  · exact Heap.lt_size st.zip_
  · exact Heap.lt_size st.its
  · exact st.out.elim fun _ q => q.elim fun _ q => Heap.lt_size q
  · exact st.left.elim fun _ q => Heap.lt_size q.1
  · exact st.right.elim fun _ q => Heap.lt_size q.1
theorem turn_zm {P : Program} {w : World} {K : PySem.W.Frag} {elts : List Expr} {kk : Nat} {tpos : Pos} {a b z TI TO i1 i2 : Addr} (S : ZipSep2 z TI TO i1 i2 [i1, a] [i2, b]) (ha : a ≠ i1) (hb : b ≠ i2) :
    Turn P w K (.Tuple elts kk tpos) (ItzM K a b) [z, TI, TO, i1, i2] z (ZmSt z TI TO i1 i2 a b) where
  mem := List.mem_cons_self ..
  obj := fun i h st c hc => by
    rcases mem_five hc with rfl | rfl | rfl | rfl | rfl
    · exact ⟨_, st.zip_, fun _ q => nomatch q⟩
    · exact ⟨_, st.its, fun _ q => nomatch q⟩
    · exact st.out.elim fun _ q => q.elim fun _ q => ⟨_, q, fun _ q => nomatch q⟩
    · exact st.left.elim fun o q => ⟨o, q.1, fun _ r => nomatch q.2.2.symm.trans r⟩
    · exact st.right.elim fun o q => ⟨o, q.1, fun _ r => nomatch q.2.2.symm.trans r⟩
  keep := fun i h h' st k => ⟨k z (by simp) _ st.zip_, k TI (by simp) _ st.its, st.out.imp fun _ q => q.imp fun _ q => k TO (by simp) _ q, st.left.at fun o q => k i1 (by simp) o q, st.right.at fun o q => k i2 (by simp) o q⟩
  item := by
    rintro X rfl rfl rfl calm i pins s σ H E inv hf st ⟨xs, ys, x, y, hqx, hqy, hx, hy, _⟩
    have lt := fun {c : Addr} (hc : c ∈ [z, TI, TO, i1, i2]) => st.lt hc
    obtain ⟨zip_, its, ⟨x0, y0, out⟩, left, right⟩ := st
    obtain ⟨t1, rel1, tup, _⟩ := inv.tuple hqx
    obtain ⟨t2, rel2, lst, _⟩ := inv.list hqy
    obtain ⟨u1, h1, r1⟩ := rel1.get hx
    obtain ⟨u2, h2, r2⟩ := rel2.get hy
    have few : ∀ {t : List Value} {u : Value}, t[i]? = some u → i < t.toArray.size := fun q => (List.getElem?_eq_some_iff.mp q).elim fun q _ => by simpa using q
    have src1 := Draws.tuple (prog := X.prog) (w := X.w) (A := X.A.in1) (inv.ok.hd calm) i1 a ha t1.toArray
    have src2 := Draws.list (prog := X.prog) (w := X.w) (A := X.A.in1) (inv.ok.hd calm) i2 b hb t2.toArray
    refine wpAny_pyNext_zipD2_item S src1 src2 zip_ its out ⟨left, (show s.heap.IsTuple a t1.toArray from tup)⟩ ⟨right, lst.isList⟩ (few h1) (few h2) fun v1 v2 g tk q1 q2 z1 out1 n1 n2 pair size same => ?_
    obtain rfl : v1 = u1 := Option.some.inj (q1.symm.trans (by simpa using h1))
    obtain rfl : v2 = u2 := Option.some.inj (q2.symm.trans (by simpa using h2))
    refine ⟨_, rfl, wpAny_letOwnedTupleGo_zip (s := { s with heap := g, toks := tk }) z1 fun g2 z2 only => ?_⟩
    have away : ∀ (c : Addr) (o : Obj), c ∉ [z, TI, TO, i1, i2] → s.heap.get? c = some o → g2.get? c = some o := fun c o nc q => by
      obtain ⟨c1, c2, c3, c4⟩ := not_five nc
      exact (only.2 c c1).trans (same c o c1 c2 c3 c4 q)
    have fresh : ObjOk X.prog X.w (upd H s.heap.objs.size (.tup [x, y])) g2 s.heap.objs.size (.tup [x, y]) := by
      refine ⟨by show 2 ≤ sizeLine; decide, [v1, v2], .cons r1 (.cons r2 .nil), ⟨_, (only.2 _ fun q => Nat.lt_irrefl _ (q ▸ lt (List.mem_cons_self ..))).trans pair, rfl, _, rfl⟩⟩
    have inv1 : Inv X pins σ _ { s with heap := g2, toks := tk } := inv.turnedNew (t' := tk) away hf (Nat.le_refl _) fresh
    have st1 : ZmSt z TI TO i1 i2 a b (i + 1) g2 := ⟨z2, (only.2 _ S.TIz).trans (same _ _ S.TIz S.TITO S.TIi1 S.TIi2 its), ⟨v1, v2, (only.2 _ S.TOz).trans out1⟩, n1.1.at fun o q => Eq.trans (only.2 _ S.zi1.symm) q, n2.1.at fun o q => Eq.trans (only.2 _ S.zi2.symm) q⟩
    refine ⟨.ref s.heap.objs.size, _, inv1, rfl, ⟨_, x, y, rfl, inv.hok.fresh (Nat.le_refl _), rfl, fun l hl => by rw [inv.tuple_inj hl hqx]; exact hx, fun l hl => by rw [inv.list_inj hl hqy]; exact hy⟩, st1, fun c hc => ?_⟩
    rw [upd_ne (Nat.ne_of_lt (lt hc))]
    exact (hf c hc).1
  done := by
    rintro X rfl rfl rfl calm i pins s σ H E inv hf ⟨zip_, its, ⟨x0, y0, out⟩, left, right⟩ ⟨xs, ys, hqx, hqy, l1, l2⟩
    obtain ⟨t1, rel1, tup, _⟩ := inv.tuple hqx
    obtain ⟨t2, rel2, lst, _⟩ := inv.list hqy
    have m1 : i = t1.toArray.size := by rw [List.size_toArray, ← rel1.length, l1]
    have m2 : i = t2.toArray.size := by rw [List.size_toArray, ← rel2.length, l2]
    have src1 := Draws.tuple (prog := X.prog) (w := X.w) (A := X.A.in1) (inv.ok.hd calm) i1 a ha t1.toArray
    have src2 := Draws.list (prog := X.prog) (w := X.w) (A := X.A.in1) (inv.ok.hd calm) i2 b hb t2.toArray
    refine wpAny_pyNext_zipD2_end S src1 src2 zip_ its out ⟨left, (show s.heap.IsTuple a t1.toArray from tup)⟩ ⟨right, lst.isList⟩ (Nat.le_of_eq m1) (Nat.le_of_eq m2) (.inl m1) fun g tk same => ⟨rfl, inv.turnedL (t' := tk) (ch := [z, TI, TO, i1, i2]) (fun c o nc q => ?_) hf⟩
    obtain ⟨c1, c2, c3, c4⟩ := not_five nc
    exact same c o c1 c2 c3 c4 q
  self := fun A i s Q E st => wpAny_pyIter_zip st.zip_
def iZipM (K : PySem.W.Frag) (ta : TA) : TI := fun σ H R => ta σ H fun vs H1 => ∃ a b xs ys, vs = [.ref a, .ref b] ∧ SqT K H1 a xs ∧ SqL K H1 b ys ∧ R (ItzM K a b) H1
theorem pi_zipM {X : Cx} {K : PySem.W.Frag} {e e2 : Expr} {ta : TA} {p pos tpos : Pos} {elts : List Expr} {kk : Nat} (hg : Gl X "zip") (hm : X.mg "zip" = none) (ha : PA X [e, e2] ta) (hK : X.K = K := by rfl)
    (hs : starEach [e, e2] X.env = (false, eval e X.env) :: starEach [e2] X.env := by rfl) (hpl : (backTo pos (starEach [e2] X.env)).any (·.1) = false := by rfl) : PI X (.Tuple elts kk tpos) (.Call (.Name "zip" p) [e, e2] [] pos) (iZipM K ta) := by
  subst hK
  constructor
  intro pins s σ H R inv0 h
  refine Call_ (ld_blt inv0 hg hm PyProof.Rows.boot_zip (PyProof.Rows.callWith_type1 (thn (ha.run pos pins s σ H _ inv0 h) fun us s1 ⟨vs, H1, inv, args, a, b, xs, ys, ev, hqx, hqy, q⟩ => ?_) hs hpl))
  subst ev
  obtain ⟨u1, u2, rfl, ra, rb⟩ := vals2 args
  cases ra
  cases rb
  obtain ⟨t1, _, tup, _⟩ := inv.tuple hqx
  obtain ⟨t2, _, lst, _⟩ := inv.list hqy
  have la : a < s1.heap.objs.size := tup.lt
  have lb : b < s1.heap.objs.size := lst.lt
  refine call_zm (show s1.heap.IsTuple a t1.toArray from tup) lst.isList fun h' zip_ its out left right same => wpAny_pyIter_zip zip_ ?_
  generalize hn : s1.heap.objs.size = n at *
  have apart : ZipSep2 (n + 4) (n + 2) (n + 3) n (n + 1) [n, a] [n + 1, b] := by
    have ne : ∀ {x y : Nat}, x ≠ y → (x : Addr) ≠ y := id
    unfold Addr at la lb
    constructor <;> first | exact ne (by omega) | (simp only [List.mem_cons, List.not_mem_nil, or_false, not_or, true_or]; done) | (simp only [List.mem_cons, List.not_mem_nil, or_false, not_or]; exact ⟨ne (by omega), ne (by omega)⟩)
  refine ⟨_, [n + 4, n + 2, n + 3, n, n + 1], _, _, H1, rfl, inv.kept (t' := s1.toks) same, turn_zm apart (Nat.ne_of_lt la) (Nat.ne_of_lt (Nat.lt_succ_of_lt lb)), ⟨zip_, its, ⟨_, _, out⟩, left, right⟩, fun c hc => ?_, q⟩
  have behind : s1.heap.objs.size ≤ c := by
    rw [hn]
    rcases mem_five hc with rfl | rfl | rfl | rfl | rfl <;> first | exact Nat.le_refl _ | exact Nat.le_add_right _ _
  exact inv.fpOk behind (inv.hok.fresh behind)
section
variable [TabW] {K : PySem.W.Frag} {ρ : Rho} {β β1 β2 β3 : Bag} {ta tb te : TE} {tt : TT}
/-- the pairs of a tuple and a list -/
theorem d_lcZM {i j : Nat} {vs : List Nat} {xs ys rs : List Dt} (hx : EvB K ta ρ β (.tuple xs) β1) (hy : EvB K tb ρ β1 (.list ys) β2) (hxy : xs.length = ys.length) (h : LcZ K i j tt te (xs.zip ys) (wipeR ρ vs) β2 rs β3) (hz : rs.length ≤ 100000)
    (hi : i ∈ vs) (hj : j ∈ vs) : EvB K (tLc (iZipM K (tCons ta (tCons tb tNil))) (gTup K 2 (gCons (gName i) (gCons (gName j) gNil))) tt te vs) ρ β (.list rs) β3 := by
  refine ⟨h.som.trans (hy.som.trans hx.som), fun b G H σ Q E k => ?_⟩
  refine hx.run b G H σ _ E fun v G0 H0 s0 k0 d0 => ?_
  have E0 := E.step s0 k0
  refine hy.run b G0 H0 σ _ E0 fun w G1 H1 s1 k1 d1 => ?_
  have E1 := E0.step s1 k1
  rw [hx.som] at s1
  have d0' := d0.mono s1.g
  have s01 := s0.trans s1
  cases d0' with
  | @tup a vsx _ hs hd =>
    cases d1 with
    | @lst c vsy _ hs' hd' =>
      refine ⟨a, c, vsx, vsy, rfl, ex_t s1.s hs, sq_of (s1.s _ _ hs'), fun Dl hD => ?_⟩
      have nb := bag_ne k1 (hy.som.trans hx.som) hD
      have lx := hd.length
      have ly := hd'.length
      have hl : (xs.zip ys).length = xs.length := by rw [List.length_zip, ← hxy, Nat.min_self]
      refine ⟨fun n q H' => q = xs.length - n ∧ n ≤ xs.length ∧ LcW K b β.isSome G1 H1 Dl rs β3 (fun rest β' => LcZ K i j tt te ((xs.zip ys).drop n) (wipeR ρ vs) β' rest β3) H', ⟨xs.length, by simp, Nat.zero_le _, lc_start s1.s hD k1 (hy.som.trans hx.som) nb h⟩, ?_⟩
      rintro n q H' ⟨rfl, hn, w'⟩
      have hG : Ex G1 H' := by
        obtain ⟨G', β', done, rest, acc, s', _⟩ := w'
        exact s'.g.trans s'.s
      by_cases hlt : n < xs.length
      · have h1 : vsx[n]? = some (vsx[n]'(by omega)) := List.getElem?_eq_getElem (by omega)
        have h2 : vsy[n]? = some (vsy[n]'(by omega)) := List.getElem?_eq_getElem (by omega)
        obtain ⟨dx, e1, e2⟩ := hd.get h1
        obtain ⟨dy, e3, e4⟩ := hd'.get h2
        refine .inr ⟨⟨vsx, vsy, _, _, ex_t hG hs, sq_of (hG _ _ hs'), h1, h2, by omega⟩, fun H2 => LcW K b β.isSome G1 H1 Dl rs β3 (fun rest β' => LcZ K i j tt te ((xs.zip ys).drop (n + 1)) (wipeR ρ vs) β' rest β3) H2, fun H2 w2 => ⟨xs.length - (n + 1), by omega, rfl, hlt, w2⟩, ?_⟩
        rintro x H2 ⟨T, vx, vy, rfl, hT, rfl, f1, f2⟩
        have g1 := f1 vsx (ex_t hG hs)
        have g2 := f2 vsy (sq_of (hG _ _ hs'))
        rw [h1] at g1
        rw [h2] at g2
        cases g1
        cases g2
        refine ⟨T, _, rfl, st_of upd_same, rfl, _, _, rfl, _, _, rfl, rfl, ?_⟩
        refine ⟨by rw [wipe_set hj, wipe_set hi, wipe_wipe], ?_⟩
        have e5 : (xs.zip ys).drop n = (dx, dy) :: (xs.zip ys).drop (n + 1) := by
          have hlt' : n < (xs.zip ys).length := by omega
          rw [List.drop_eq_getElem_cons (hlt')]
          congr 1
          rw [List.getElem_zip]
          have q1 := (List.getElem?_eq_some_iff.mp e1).2
          have q2 := (List.getElem?_eq_some_iff.mp e3).2
          rw [q1, q2]
        rw [e5] at w'
        refine lc_turnG (ρx := ((wipeR ρ vs).set i (some (Slot.imm dx))).set j (some (Slot.imm dy))) hD nb hz (fun G' β' s' kb' => ?_) ?_ (w'.new hT)
        · exact (((E1.wipe vs).step s' kb').set (e2.mono s'.g)).set (e4.mono s'.g)
        · rintro rest β' hr
          cases hr with
          | yes a1 a2 a3 => exact ⟨_, _, _, _, rfl, a1, a2, a3⟩
      · have e6 : n = xs.length := by omega
        subst e6
        refine .inl ⟨⟨vsx, vsy, ex_t hG hs, sq_of (hG _ _ hs'), by omega, by omega⟩, ?_⟩
        have e7 : (xs.zip ys).drop xs.length = [] := by rw [List.drop_eq_nil_iff]; omega
        rw [e7] at w'
        obtain ⟨G', β', done, rest, acc, s', kb', hm', gD', hH', ha', hr', hp'⟩ := w'
        cases hp'
        refine lc_end (j := 0) (ρ := ρ) (tt := tt) (te := te) s1.s hD nb ⟨G', β3, done, [], acc, s', kb', hm', gD', hH', ha', hr', .nil _ _⟩ fun v G'' H'' s'' kb'' dv => k v G'' H'' (s01.trans s'') kb'' dv
end
end TD
/-! ## TdV -/
set_option Elab.async false
set_option linter.all false
set_option maxRecDepth 100000
set_option maxHeartbeats 4100000
/-! The law's call where nothing is being shown: its script and the tables of code objects are followed. -/
namespace TD
open PySem L2 LamX PySem.Spec PyProof.Rows
section
variable {K : PySem.W.Frag} {T : List Addr} {a b : Addr} {vs : List Value} {ns : List Int}
abbrev scriptObj (vs : List Value) : Obj := { cls := .type "list", data := .seq vs.toArray }
abbrev emptyTab : Obj := { cls := .none, data := .fields #[] }
/-- what is followed from the start: the tables; and the script, unless the heap's known part has it -/
def seenAt (K : PySem.W.Frag) (T : List Addr) (a : Addr) (vs : List Value) (ns : List Int) : Hp := fun b =>
  if b ∈ T then some (.tbl #[])
  else if b = a ∧ K.lookup a = none then some (.frz (scriptObj vs) (.lst (ns.map V.int)))
  else none
inductive Seen (K : PySem.W.Frag) (T : List Addr) (a : Addr) (vs : List Value) (ns : List Int) (b : Addr) : Option HO → Prop
  | tab : b ∈ T → Seen K T a vs ns b (some (.tbl #[]))
  | script : b ∉ T → b = a → K.lookup a = none → Seen K T a vs ns b (some (.frz (scriptObj vs) (.lst (ns.map V.int))))
  | off : b ∉ T → (b = a → K.lookup a ≠ none) → Seen K T a vs ns b none
theorem seen_is (K : PySem.W.Frag) (T : List Addr) (a : Addr) (vs : List Value) (ns : List Int) (b : Addr) : Seen K T a vs ns b (seenAt K T a vs ns b) := by
  unfold seenAt
  by_cases h1 : b ∈ T
  · rw [if_pos h1]
    exact .tab h1
  · rw [if_neg h1]
    by_cases h2 : b = a ∧ K.lookup a = none
    · rw [if_pos h2]
      exact .script h1 h2.1 h2.2
    · rw [if_neg h2]
      exact .off h1 fun e z => h2 ⟨e, z⟩
end
section
variable [TabW] {P : Program} {w : World} {K : PySem.W.Frag} {mg mb : Str → Option Value} {k : Nat} {fa a : Addr} {cs : List (Addr × Addr)} {fd : FuncData} {x : Str} {s : Shared} {vs : List Value} {ns : List Int}
theorem call_lawG (KX : K.In s.heap) (gm : s.heap.Ns mainGlobals mg) (gb : s.heap.Ns builtinsNs mb) (bb : ∀ y : Str, y ≠ "__name__" → mb y = bootBuiltins y) (nl : s.heap.NoLimit) (ge : s.gens = #[])
    (tabs : ∀ p ∈ cs, s.heap.get? p.2 = some emptyTab) (free : ∀ p ∈ cs, K.lookup p.2 = none) (code : ∀ p ∈ cs, PySem.W.CodeHd s.heap p.1 p.2) (hw : ∀ Q q, TabW.w Q q → Q ∈ cs.map (·.2))
    (bm : ∃ (m : Addr) (o : Obj), mg "__builtins__" = some (.ref m) ∧ m ≠ builtinsNs ∧ s.heap.get? m = some o ∧ o.cls = .type "module" ∧ o.dict = some builtinsNs ∧ o.data = .plain)
    (ha : s.heap.get? a = some (scriptObj vs)) (hi : IntsAre vs ns) (hl : ns.length ≤ 63) (hr : Room k callerA)
    (F : ∀ base : Heap, K.In base → base.Ns mainGlobals mg → (∀ p ∈ cs, TabB base mg p.1 p.2) → FnOkG P w K mg base CX0 k fa fd [x] (spLaw K)) (hb : ∀ (t : Shared) (u : Value), BindsTo t fd ⟨[u], []⟩ [(x, u)]) :
    codeAny (model P w) callerA (.call (.ref fa) ⟨[.ref a], []⟩) (fun r s' => r = .ok (.ret (.bool true)) ∧ OldK s.heap s'.heap ∧ s'.os = s.os ∧ AllBare s'.gens) s := by
  have tabT : ∀ {b : Addr}, b ∈ cs.map (·.2) → s.heap.get? b = some emptyTab := fun {b} hm => by
    obtain ⟨p, hp, rfl⟩ := List.mem_map.mp hm
    exact tabs p hp
  have inT : ∀ {p : Addr × Addr}, p ∈ cs → p.2 ∈ cs.map (·.2) := fun hp => List.mem_map_of_mem hp
  have aOff : a ∉ cs.map (·.2) := fun z => by
    have q := (tabT z).symm.trans ha
    exact nomatch congrArg Obj.data (Option.some.inj q)
  obtain ⟨H, hH⟩ : ∃ H, H = seenAt K (cs.map (·.2)) a vs ns := ⟨_, rfl⟩
  have seen : ∀ b, Seen K (cs.map (·.2)) a vs ns b (H b) := fun b => hH ▸ seen_is K (cs.map (·.2)) a vs ns b
  have lenV := hi.length
  have hz : (ns.map V.int).length ≤ sizeLine := by
    rw [List.length_map]
    exact Nat.le_trans hl (by decide)
  have rv := vals_ints hi
  -- objects of other kinds are not followed
  have off : ∀ {b : Addr} {o : Obj}, s.heap.get? b = some o → (∀ xs n, o.data ≠ .seq xs n) → o.data ≠ .fields #[] → H b = none := fun {b o} e d1 d2 => by
    have z := seen b
    generalize H b = u at z
    cases z with
    | tab hm =>
      have q := e.symm.trans (tabT hm)
      exact absurd (congrArg Obj.data (Option.some.inj q)) d2
    | script _ hba _ =>
      rw [hba] at e
      have q := e.symm.trans ha
      exact absurd (congrArg Obj.data (Option.some.inj q)) (d1 _ _)
    | off _ _ => rfl
  have still : ∀ {b : Addr} {o : Obj}, s.heap.get? b = some o → (∀ xs n, o.data ≠ .seq xs n) → o.data ≠ .fields #[] → (hidT s.heap H).get? b = some o := fun e d1 d2 => hidT_get e (off e d1 d2)
  have nsB : ∀ {b : Addr} {m : Str → Option Value}, s.heap.Ns b m → (hidT s.heap H).Ns b m := fun ⟨o, es, ep, e, d, r⟩ => ⟨o, es, ep, still e (fun _ _ z => by rw [d] at z; cases z) (fun z => by rw [d] at z; cases z), d, r⟩
  have kinB : K.In (hidT s.heap H) := fun b o e => hidT_get (KX b o e) (by
    have z := seen b
    generalize H b = u at z
    cases z with
    | tab hm =>
      obtain ⟨p, hp, rfl⟩ := List.mem_map.mp hm
      exact nomatch (free p hp).symm.trans e
    | script _ hba hk =>
      rw [hba] at e
      exact nomatch hk.symm.trans e
    | off _ _ => rfl)
  have modB : L2.Mod K mg (hidT s.heap H) := ⟨kinB, nsB gm, ⟨mb, nsB gb, bb⟩, let ⟨m, e1, e2⟩ := nl; ⟨m, nsB e1, e2⟩⟩
  have tabB : ∀ p ∈ cs, TabB (hidT s.heap H) mg p.1 p.2 := fun p hp => by
    have htp := tabs p hp
    refine ⟨?_, ?_, fun z => ?_⟩
    · obtain ⟨o, fs, fl, t1, gs, t2, bf, tx, t3, e, c1, c2, c3, r⟩ := code p hp
      refine ⟨o, fs, fl, t1, gs, t2, bf, tx, t3, still e (fun _ _ z => by rw [c2] at z; cases z) (fun z => ?_), c1, c2, c3, r⟩
      rw [c2] at z
      rw [Data.fields.inj z] at c3
      cases c3
    · obtain ⟨m, o, m1, m2, m3, m4, m5, m6⟩ := bm
      have nG : m ≠ mainGlobals := fun z => by
        obtain ⟨o', _, _, e', d', _⟩ := gm
        rw [z] at m3
        have q := m3.symm.trans e'
        cases q
        rw [m6] at d'
        cases d'
      have nP : m ≠ p.2 := fun z => by
        rw [z] at m3
        have q := m3.symm.trans htp
        cases q
        cases m6
      exact ⟨m, o, m1, m2, nG, nP, still m3 (fun _ _ z => by rw [m6] at z; cases z) (fun z => by rw [m6] at z; cases z), m4, m5, m6⟩
    · obtain ⟨o', _, _, e', d', _⟩ := gm
      rw [z] at e'
      have q := e'.symm.trans htp
      cases q
      cases d'
  have held : HOk P w H s.heap := fun b u hu => by
    have z := seen b
    rw [hu] at z
    cases z with
    | tab hm => exact tabT hm
    | script _ hba _ =>
      subst hba
      exact ⟨ha, hz, vs, _, rv, ha⟩
  have env : Env0 P w K mg (hidT s.heap H) callerA [] s H := ⟨rfl, modB, fun _ _ e => of_hidT e, Nat.le_of_eq (hidT_size _ _), trivial, (fun _ hm => nomatch (List.not_mem_nil hm)), held, .of_eq ge⟩
  -- the script as the def reads it, apart from the tables
  obtain ⟨G, hG⟩ : ∃ G : Hp, G = fun b => if b ∈ cs.map (·.2) then none else H b := ⟨_, rfl⟩
  have gOff : ∀ {b : Addr}, b ∉ cs.map (·.2) → G b = H b := fun hn => by rw [hG]; exact if_neg hn
  have gIn : ∀ {b : Addr}, b ∈ cs.map (·.2) → G b = none := fun hn => by rw [hG]; exact if_pos hn
  have exG : Evl.Ex G H := fun b o e => by
    by_cases hm : b ∈ cs.map (·.2)
    · exact nomatch (gIn hm).symm.trans e
    · exact (gOff hm).symm.trans e
  have scr : SqL K G a (ns.map V.int) := by
    cases hk : K.lookup a with
    | some o =>
      have q := (KX a o hk).symm.trans ha
      cases q
      exact .inr ⟨_, vs.toArray, _, hk, rfl, rfl, rfl, by rw [List.size_toArray, lenV]; exact Nat.le_trans hl (by decide), by simpa using rv⟩
    | none =>
      refine .inl (.inr ⟨scriptObj vs, ?_⟩)
      rw [gOff aOff]
      have z := seen a
      generalize H a = u at z
      cases z with
      | tab hm => exact absurd hm aOff
      | script _ _ _ => rfl
      | off _ hn => exact absurd hk (hn rfl)
  have tok : TabsOk G H := ⟨fun Q q hq => TabS.nil (by
    have hm := hw Q q hq
    have z := seen Q
    generalize H Q = u at z
    cases z with
    | tab _ => rfl
    | script hn _ _ => exact absurd hm hn
    | off hn _ => exact absurd hm hn), fun b ps e => by
    by_cases hm : b ∈ cs.map (·.2)
    · exact nomatch (gIn hm).symm.trans e
    · rw [gOff hm] at e
      have z := seen b
      rw [e] at z
      cases z with
      | tab h2 => exact hm h2⟩
  refine codeAny_mono ((F _ kinB (nsB gm) tabB).run callerA [] s H ⟨[.ref a], []⟩ [.ref a] [.ref a] (fun v _ => v = .bl true) (fun _ _ _ => False) ⟨hr, rfl⟩ env (hb s (.ref a)) (.cons rfl .nil) ⟨a, ns, G, rfl, exG, tok, scr, hl, fun _ => rfl⟩) fun r s' hq => ?_
  match r, hq with
  | .error _, hq => exact False.elim hq
  | .ok .next, hq => exact False.elim hq
  | .ok .brk, hq => exact False.elim hq
  | .ok .cont, hq => exact False.elim hq
  | .ok (.ret u), ⟨v, H', os', bare', un, held', rel, (hv : v = .bl true)⟩ =>
    subst hv
    obtain rfl : u = Value.bool true := rel
    have more_ : ∀ p ∈ cs, ∃ more : Array Value, s'.heap.get? p.2 = some { cls := .none, data := .fields more } := fun p hp => by
      have e : H p.2 = some (.tbl #[]) := by
        have z := seen p.2
        generalize H p.2 = u at z
        cases z with
        | tab _ => rfl
        | script hn _ _ => exact absurd (inT hp) hn
        | off hn _ => exact absurd (inT hp) hn
      obtain ⟨more, e'⟩ := un.tbls _ _ e
      exact ⟨_, held' _ _ e'⟩
    have old : ∀ b o, b ∉ cs.map (·.2) → s.heap.get? b = some o → s'.heap.get? b = some o := fun b o hn e => by
      cases hu : H b with
      | none => exact un.keep b o e hu (fun hm => nomatch (List.not_mem_nil hm)) (fun hm => nomatch (List.not_mem_nil hm))
      | some u =>
        have z := seen b
        rw [hu] at z
        cases z with
        | tab hm => exact absurd hm hn
        | script _ hba _ =>
          subst hba
          have q := e.symm.trans ha
          cases q
          exact (held' _ _ (un.frzs _ _ _ hu)).1
    refine ⟨rfl, ⟨fun b o e => ?_, fun b o e => ?_⟩, os', bare'⟩
    · by_cases hm : b ∈ cs.map (·.2)
      · obtain ⟨p, hp, rfl⟩ := (List.mem_map.mp hm)
        obtain ⟨more, e'⟩ := more_ p hp
        have q := e.symm.trans (tabs p hp)
        cases q
        exact .inr (.inl ⟨((code p hp).tab (tabs p hp)).isCodeTable, rfl, #[], more, rfl, by rw [Array.empty_append]; exact e'⟩)
      · exact .inl (old b o hm e)
    · by_cases hm : b ∈ cs.map (·.2)
      · obtain ⟨p, hp, rfl⟩ := (List.mem_map.mp hm)
        obtain ⟨more, e'⟩ := more_ p hp
        exact ⟨_, e'⟩
      · exact ⟨o, old b o hm e⟩
end
/-- the walk of a law, where tables are empty at the head -/
theorem walkG [TabW] {l : PySem.W.OpenLaw} {k : Nat} {q : Program} {loose : List Str} {XP : (Str → Option Value) → Heap → Prop} {YP : World → Heap → Prop} {d : DefRec} {K : Params → PySem.W.Frag} {x : Str} (cs : List (Addr × Addr)) (hw : ∀ Q y, TabW.w Q y → Q ∈ cs.map (·.2))
    (hn : l.most = some 63) (hdf : d.params.defaults = []) (hr : Room k callerA) (hY : ∀ (w : World) (h : Heap), YP w h → (K w.params).In h ∧ ∀ p ∈ cs, h.get? p.2 = some emptyTab)
    (F : ∀ (w : World) (mg : Str → Option Value) (g : Addr) (h : Heap), (K w.params).In h → h.Ns mainGlobals mg → mg d.name = some (.ref g) →
      (∀ p ∈ cs, (K w.params).lookup p.2 = none ∧ PySem.W.codeHdIn (K w.params) p.1 p.2 = true) ∧ ∃ fd : FuncData, (∀ (s : Shared) (u : Value), BindsTo s fd ⟨[u], []⟩ [(x, u)]) ∧
      ∀ base : Heap, (K w.params).In base → base.Ns mainGlobals mg → (∀ p ∈ cs, TabB base mg p.1 p.2) → FnOkG l.prog w (K w.params) mg base CX0 k g fd [x] (spLaw (K w.params))) :
    PySem.W.WalkO q loose XP YP l.row.toRowW d [] (fun f us => PySem.call f us) :=
  Att.attach_callB hn hdf fun w _ _ mg _ fa _ _ _ _ _ _ _ G Y _ _ _ hmg hobj hints hlen _ hg => by
    obtain ⟨KX, ht⟩ := hY w _ Y
    obtain ⟨hc, fd, hb, hF⟩ := F w mg fa _ KX G.T.g hmg
    exact call_lawG KX G.T.g G.T.b G.T.builtins G.T.nolimit hg ht (fun p hp => (hc p hp).1) (fun p hp => PySem.W.codeHd_of_K KX (hc p hp).2) hw G.T.bmain hobj hints hlen hr hF hb
end TD
/-! ## TdP -/
set_option Elab.async false
set_option linter.all false
set_option maxRecDepth 100000
set_option maxHeartbeats 4100000
/-! What the written part tells of classes of errors, of makers of lambdas, of their code objects. -/
namespace TD
open PySem L2 PySem.Spec PyProof.Rows
section
variable {K : PySem.W.Frag} {h : Heap} {mg : Str → Option Value} {x f : Str} {C D fI c P : Addr} {B newId initId : String} {bt : List Value}
theorem ownC_mk {nm q : Str} {N : Addr} {bs sub : List Value} {sn : List Str} {ab : Bool} {col : Option Bool} {dd od an : Option Addr} {k0 k1 k2 k3 k5 : Option Value} {rs : List Addr} {oc doc pm cdv ct : Value} {osl : Array (Option Value)} {qI : Str} {p p' q1 q2 q3 q4 : Pos}
    (F : PySem.ExcBaseFacts B newId initId bt) (hf : TO.Fld f) (hob : bt.contains (.type "object") = true) (hps : ∀ o : Value, refuseLoop o "__setattr__" bt = pure ()) (X : K.In h) (G : h.Ns mainGlobals mg)
    (gC : PySem.W.nsIn K mainGlobals x = some (some (.ref C))) (cl : K.lookup C = some (excClassObj nm q C N bs (TO.mroOver rs bt) true sn sub ab col dd k0 k1 k2 k3 k5 newId))
    (sa : PySem.W.findIn K (.ref C) "__setattr__" = some (some (.builtin "object.__setattr__"))) (ga : PySem.W.findIn K (.ref C) "__getattribute__" = some (some (.builtin "BaseException.__getattribute__"))) (gg : PySem.W.findIn K (.ref C) "__getattr__" = some none)
    (ex : PySem.W.subIn K (.ref C) (.type "BaseException") = some true) (hd : PySem.W.hasDictIn K C = true) (no : PySem.W.findIn K (.ref C) f = some none) (iC : PySem.W.findIn K (.ref C) "__init__" = some (some (.ref fI))) (tC : PySem.W.typeIn K (.ref fI) = some (.type "function"))
    (kC : PySem.W.keepIn K (.ref C) = true) (ty : PySem.W.typeIn K (.ref C) = some (.type "type"))
    (fn : K.lookup fI = some ⟨oc, od, .func (PySem.W.fnOf "__init__" qI (TO.inArgs f p p') (TO.inBody f q1 q2 q3 q4) (TO.inScope f) .none .none doc pm an cdv ct), osl⟩) (cd : PySem.W.codeIn K cdv qI = true) : OwnC K mg x f C :=
  ⟨fI, B, newId, initId, bt, F, ⟨PySem.W.mg_of X G gC, ⟨nm, q, N, bs, sn, sub, ab, col, dd, k0, k1, k2, k3, k5, rs, cl⟩, sa, ⟨ga, gg, ex, hd⟩, no, iC, tC, kC, ex, ty, oc, od, qI, doc, pm, an, cdv, ct, osl, p, p', q1, q2, q3, q4, fn, cd⟩, hf, hob, hps⟩
theorem bareC_mk (F : PySem.ExcBaseFacts B newId initId bt) (X : K.In h) (G : h.Ns mainGlobals mg) (gC : PySem.W.nsIn K mainGlobals x = some (some (.ref C))) (e : PySem.W.excIn K C bt newId = true) (kC : PySem.W.keepIn K (.ref C) = true)
    (ex : PySem.W.subIn K (.ref C) (.type "BaseException") = some true) (ty : PySem.W.typeIn K (.ref C) = some (.type "type")) : BareC K mg x C := ⟨B, newId, initId, bt, F, e, PySem.W.mg_of X G gC, kC, ex, ty⟩
/-- whether an error of the class C is caught by the name of D -/
theorem exm_mk {cd : ClassData} {b : Bool} (ex : PySem.W.subIn K (.ref D) (.type "BaseException") = some true) (cl : PySem.W.clsIn K D = some cd) (ty : PySem.W.typeIn K (.ref D) = some (.type "type")) (sb : PySem.W.subIn K (.ref C) (.ref D) = some b) : PySem.W.exmOne K (.ref C) (.ref D) = some b := by
  unfold PySem.W.exmOne PySem.W.kitCls
  rw [ex, if_pos (by decide)]
  dsimp only
  rw [cl, ty, if_pos (by rfl), sb]
theorem defAtC_mk {st : Stmt} {oc kV doc pm ct : Value} {od an : Option Addr} {osl : Array (Option Value)} {g : Addr} (a : PySem.W.nsIn K mainGlobals x = some (some (.ref g)))
    (l : K.lookup g = some ⟨oc, od, .func (PySem.W.fnOf x x (defArgs st) (defBody st) (defScope st) .none kV doc pm an (.ref c) ct), osl⟩) (e : PySem.W.codeIn K (.ref c) x = true) (k : PySem.W.keepIn K (.ref g) = true) : DefAtC K x st c := ⟨g, oc, od, kV, doc, pm, an, ct, osl, a, l, e, k⟩
theorem codeHd_mk {od : Option Addr} {vs : Array Value} {sl : Array (Option Value)} (l : K.lookup c = some ⟨.type "code", od, .fields vs, sl⟩) (e : PySem.W.codeHdIn [(c, ⟨.type "code", od, .fields vs, sl⟩)] c P = true) : PySem.W.codeHdIn K c P = true := by
  unfold PySem.W.codeHdIn at e ⊢
  rw [l]
  rwa [show List.lookup c [(c, (⟨.type "code", od, .fields vs, sl⟩ : Obj))] = some ⟨.type "code", od, .fields vs, sl⟩ from by simp [List.lookup]] at e
end
theorem den_ints {K : PySem.W.Frag} {a : Addr} {o : Obj} {its : Array Value} {n : Nat} {ns : List Int} (h : K.lookup a = some o) (h1 : o.cls = .type "tuple") (h2 : o.data = .seq its n) (h3 : its.size ≤ sizeLine) (h4 : Vals (ns.map V.int) its.toList) (G : Hp) : Den K G (.ref a) (.tuple (ns.map PyData.int)) := .tup (.inr ⟨o, its, n, h, h1, h2, h3, h4⟩) (DenL.of_ints ns)
theorem ve_IndexError : ∀ o : Value, refuseLoop o "__setattr__" [.type "IndexError", .type "LookupError", .type "Exception", .type "BaseException", .type "object"] = pure () := fun o => by rfl
theorem ve_OverflowError : ∀ o : Value, refuseLoop o "__setattr__" [.type "OverflowError", .type "ArithmeticError", .type "Exception", .type "BaseException", .type "object"] = pure () := fun o => by rfl
end TD
/-! ## K03p -/
set_option Elab.async false
set_option linter.all false
set_option maxRecDepth 100000
set_option maxHeartbeats 1100000
namespace K03
open PySem L2 TD PySem.Spec PyProof.Rows
variable [TabW]

abbrev s_law_word : Stmt := top 55
theorem sc_law_word : FnScope ["_law_call", "error"] ["_law_call"] (defScope s_law_word) := ⟨rfl, rfl, rfl, by decide +kernel, rfl, by decide +kernel, by decide +kernel⟩
abbrev Cn.cls (Y : Cn) : Clauses := [(Y.cN, .fld "number " "given"), (Y.cB, .lit "table"), (Y.cO, .lit "operation"), (Y.cR, .fld "refused " "reason")]
theorem gives {X : Cx} {K : PySem.W.Frag} {mg : Str → Option Value} {Y : Cn} {k : Nat} (hK : X.K = K) (hM : X.mg = mg) (hr : RoomG k X.A) (T : Txt K mg Y) (g : Addr) (cdg : Value) (q : Str) :
    LamX.GivesTo X ["_law_call", "error"] "_law_word" (defScope s_law_word) g cdg (defBody s_law_word) "_law_call" q (TTell K Y.cls "fine") := by
  subst hK hM
  have un : ∀ (s : Shared), (X.A.deeper (envOfC "_law_word" (defScope s_law_word) s.heap.objs.size g cdg)).units + 64 < cLine := fun s => by
    have := hr.un
    show X.A.units + 3 + 64 < cLine
    omega
  exact tells rfl (fun s H => cls_fld (newId := "") sc_law_word.nd rfl rfl ⟨rfl, by decide, .inl T.o_InvalidNumber.gC⟩ T.o_InvalidNumber.xf T.o_InvalidNumber.noN hr.gd (un s) rfl T.z_repr rfl (by decide) (by decide) rfl (cls_lit ⟨rfl, by decide, .inl T.b_InvalidTable.gC⟩ (cls_lit ⟨rfl, by decide, .inl T.b_InvalidOperation.gC⟩ (cls_fld (newId := "") sc_law_word.nd rfl rfl ⟨rfl, by decide, .inl T.o_Refused.gC⟩ T.o_Refused.xf T.o_Refused.noN hr.gd (un s) rfl T.z_repr rfl (by decide) (by decide) rfl cls_nil))))
abbrev q1 : Str := ("_law_undone_right" : Str) ++ (".<locals>." : Str)
abbrev q2 : Str := ("_law_errors_right" : Str) ++ (".<locals>." : Str)
abbrev q3 : Str := ("_law_bounds_right" : Str) ++ (".<locals>." : Str)
theorem qE1 : q1 ++ ("<lambda>" : Str) = "_law_undone_right.<locals>.<lambda>" := by decide +kernel
theorem qE2 : q2 ++ ("<lambda>" : Str) = "_law_errors_right.<locals>.<lambda>" := by decide +kernel
theorem qE3 : q3 ++ ("<lambda>" : Str) = "_law_bounds_right.<locals>.<lambda>" := by decide +kernel
/-- a table of code objects, as its maker knows it -/
structure TbAt (base : Heap) (mg : Str → Option Value) (Y : Cn) (c : Addr) (q : Str) : Prop where
  ex : ∃ P, LamX.TabB base mg c P ∧ (P, q ++ ("<lambda>" : Str)) ∈ Y.T ∧ ∀ p ∈ Y.T, p.1 = P → p.2 = q ++ ("<lambda>" : Str)
theorem pe_tell {X : Cx} {K : PySem.W.Frag} {mg : Str → Option Value} {base : Heap} {Y : Cn} {k : Nat} {sc scope : Scope} {params : Arguments} {body : Expr} {t : XK → TE} {p lpos pos : Pos} {c : Addr} {q : Str}
    (hr : RoomG (k + 2) X.A) (WA : WordAt K mg "_law_word" s_law_word) (TB : TbAt base mg Y c q) (T : Txt K mg Y)
    (LB : LamX.lamSB sc scope = true) (hbind : ∀ (q : Str) (cl : List (Str × Addr)) (pm cv ctv : Value), bindArgs (PySem.W.kla_fn "<lambda>" q params body scope cl pm cv ctv) ⟨[], []⟩ = pure [])
    (hbody : ∀ (A : Around) (outer : List PySem.Env) (s : Shared) (H : Hp) (E : XK) (f c' : Addr), Room k (A.deeper (LamX.lamEnv X scope s.heap.objs.size f c')) → PE (LamX.lamCx X A outer s H E scope f c') body (t E))
    (hsc : X.env.scope = sc := by rfl) (hq : X.env.qual = q := by rfl) (hcode : X.env.code = .ref c := by rfl) (hdef : defaultsOf params X.env = ([], []) := by rfl)
    (hK : X.K = K := by rfl) (hM : X.mg = mg := by rfl) (hB : X.base = base := by rfl) (hg : Gl X "_law_word" := by rfl) :
    PE X (.Call (.Name "_law_word" p) [.Lambda params body scope lpos] [] pos) (LamX.tLam Y.T (TTell K Y.cls "fine") t) := by
  subst hsc hB hq
  obtain ⟨P, TB, hm, hu⟩ := TB.ex
  exact pe_word WA sc_law_word rfl (Or.inl rfl) (fun _ _ _ _ _ _ us hl => match us, hl with | [_], _ => rfl) (fun g cdg => gives hK hM hr T g cdg _) (hM ▸ TB) hcode hm hu hr.toRoom (LamX.lamS_by LB) hdef hbind hbody hK hM hg
theorem tb_at {base : Heap} {mg : Str → Option Value} {Y : Cn} {c P : Addr} {q : Str} (h : LamX.TabB base mg c P) (hm : (P, q ++ ("<lambda>" : Str)) ∈ Y.T) (hu : ∀ p ∈ Y.T, p.1 = P → p.2 = q ++ ("<lambda>" : Str)) : TbAt base mg Y c q := ⟨P, h, hm, hu⟩
theorem tb_one {base : Heap} {mg : Str → Option Value} {Y : Cn} (h : LamX.TabB base mg Y.c1 Y.P1) (n12 : Y.P1 ≠ Y.P2) (n13 : Y.P1 ≠ Y.P3) : TbAt base mg Y Y.c1 q1 := by
  refine tb_at h (by rw [qE1]; exact List.mem_cons_self ..) fun p hp e => ?_
  rw [qE1]
  simp only [Cn.T, List.mem_cons, List.not_mem_nil, or_false] at hp
  rcases hp with rfl | rfl | rfl
  · rfl
  · exact absurd e.symm n12
  · exact absurd e.symm n13
theorem tb_two {base : Heap} {mg : Str → Option Value} {Y : Cn} (h : LamX.TabB base mg Y.c2 Y.P2) (n12 : Y.P1 ≠ Y.P2) (n23 : Y.P2 ≠ Y.P3) : TbAt base mg Y Y.c2 q2 := by
  refine tb_at h (by rw [qE2]; exact List.mem_cons_of_mem _ (List.mem_cons_self ..)) fun p hp e => ?_
  rw [qE2]
  simp only [Cn.T, List.mem_cons, List.not_mem_nil, or_false] at hp
  rcases hp with rfl | rfl | rfl
  · exact absurd e n12
  · rfl
  · exact absurd e.symm n23
theorem tb_three {base : Heap} {mg : Str → Option Value} {Y : Cn} (h : LamX.TabB base mg Y.c3 Y.P3) (n13 : Y.P1 ≠ Y.P3) (n23 : Y.P2 ≠ Y.P3) : TbAt base mg Y Y.c3 q3 := by
  refine tb_at h (by rw [qE3]; exact List.mem_cons_of_mem _ (List.mem_cons_of_mem _ (List.mem_cons_self ..))) fun p hp e => ?_
  rw [qE3]
  simp only [Cn.T, List.mem_cons, List.not_mem_nil, or_false] at hp
  rcases hp with rfl | rfl | rfl
  · exact absurd e n13
  · exact absurd e n23
  · rfl
theorem op_ofK {X : Cx} {K : PySem.W.Frag} {o : Value → Value → Sem Value} {r : PySem.W.Frag → R2} (h : OpR X o (r X.K)) (hK : X.K = K := by rfl) : OpR X o (r K) := hK ▸ h
theorem pe_fnL {P : Program} {w : World} {K : PySem.W.Frag} {mg : Str → Option Value} {base : Heap} {k : Nat} {x : Str} {ps : List Str} {R : FX} {X : Cx} {A : Around} {outer : List PySem.Env} {s : Shared} {H : Hp} {E : XK} {scope : Scope} {f c' : Addr} {q pos : Pos} {e : Expr} {es : List Expr} {t : TA}
    (F : FnX P w K mg base k x ps R) (hr : Room k (A.deeper (LamX.lamEnv X scope s.heap.objs.size f c'))) (ha : PA (LamX.lamCx X A outer s H E scope f c') (e :: es) t) (hk : scope.kind = .function := by rfl) (h1 : X.prog = P := by rfl) (h2 : X.w = w := by rfl) (h3 : X.K = K := by rfl) (h4 : X.mg = mg := by rfl) (h5 : X.base = base := by rfl)
    (hg : scope.names.lookup x = some .globalImplicit := by rfl) (hdb : (x == ("__debug__" : Str)) = false := by decide) (hs : ∀ v : Env, starEach (e :: es) v = (false, eval e v) :: starEach es v := by intro _; rfl)
    (hp : ∀ v : Env, (backTo pos (starEach es v)).any (·.1) = false := by intro _; rfl) : PE (LamX.lamCx X A outer s H E scope f c') (.Call (.Name x q) (e :: es) [] pos) (tCall (spX K R) [] E t) :=
  pe_fnX F hr (show Passes (L2.CX (LamX.lamCx X A outer s H E scope f c').prog (LamX.lamCx X A outer s H E scope f c').w) (LamX.lamCx X A outer s H E scope f c') E from pass_lam (X := X) hk) ha h1 h2 h3 h4 h5 hg hdb (hs _) (hp _)
/-! what is told -/
abbrev wN (d : Dt) : Str := ("number " : Str) ++ d.shown
abbrev flatT : Str := ("refused " : Str) ++ (PyData.tuple [.str "flat"]).shown
def tellB (d : Dt) : Bool := flatD d && d.showable && !d.hasDict && decide (d.depth ≤ 20) && decide (d.shown.length ≤ 1000) && PyData.canLay0 (.str (wN d))
theorem flat_text : ("refused ('flat',)" : Str) = flatT := by decide +kernel
theorem flat_lay : PyData.canLay0 (.str flatT) = true := by decide +kernel
theorem table_lay : PyData.canLay0 (.str "table") = true := by decide +kernel
theorem op_lay : PyData.canLay0 (.str "operation") = true := by decide +kernel
theorem fine_lay : PyData.canLay0 (.str "fine") = true := by decide +kernel
theorem tell_show {d : Dt} (h : tellB d = true) : ShowOk d ∧ d.shown.length ≤ 1000 ∧ PyData.canLay0 (.str (wN d)) = true := by
  unfold tellB at h
  simp only [Bool.and_eq_true, decide_eq_true_eq, Bool.not_eq_true'] at h
  obtain ⟨⟨⟨⟨⟨h1, h2⟩, h3⟩, h4⟩, h5⟩, h6⟩ := h
  exact ⟨⟨h1, h2, h3, h4, Nat.le_trans h5 (by decide)⟩, h5, h6⟩
theorem num_len {d : Dt} (h : tellB d = true) : ("number " : Str).length + d.shown.length ≤ sizeLine := by
  have h1 := (tell_show h).2.1
  have h2 : ("number " : Str).length = 7 := by decide +kernel
  have h3 : sizeLine = 16777216 := rfl
  omega
theorem told_num {K : PySem.W.Frag} {mg : Str → Option Value} {Y : Cn} {d : Dt} (T : Txt K mg Y) (h : tellB d = true) : ToldAs K Y.cN Y.cls (some ("given", d)) (wN d) := .fld T.eNN (tell_show h).1 (num_len h)
theorem told_table {K : PySem.W.Frag} {mg : Str → Option Value} {Y : Cn} (T : Txt K mg Y) : ToldAs K Y.cB Y.cls none "table" := .next T.eBN (.lit T.eBB)
theorem told_op {K : PySem.W.Frag} {mg : Str → Option Value} {Y : Cn} (T : Txt K mg Y) : ToldAs K Y.cO Y.cls none "operation" := .next T.eON (.next T.eOB (.lit T.eOO))
theorem show_flat : ShowOk (.tuple [.str "flat"]) := ⟨rfl, by decide +kernel, by decide +kernel, by decide +kernel, by decide +kernel⟩
theorem flat_len : ("refused " : Str).length + (PyData.tuple [.str "flat"]).shown.length ≤ sizeLine := by
  have h1 : ("refused " : Str).length + (PyData.tuple [.str "flat"]).shown.length ≤ 100 := by decide +kernel
  have h3 : sizeLine = 16777216 := rfl
  omega
theorem told_flat {K : PySem.W.Frag} {mg : Str → Option Value} {Y : Cn} (T : Txt K mg Y) : ToldAs K Y.cR Y.cls (some ("reason", .tuple [.str "flat"])) flatT := .next T.eRN (.next T.eRB (.next T.eRO (.fld T.eRR show_flat flat_len)))
/-! rows compared -/
theorem flat_rows : ∀ rows : List (List Int), flatL (rows.map lstI) = true
  | [] => rfl
  | r :: rows => by
    show (flatL (r.map PyData.int) && flatL (rows.map lstI)) = true
    rw [flat_rows rows, flat_ints]
    rfl
theorem lay_rows : ∀ rows : List (List Int), PyData.canLayAll0 (rows.map lstI) = true
  | [] => rfl
  | r :: rows => by
    show (PyData.canLayAll0 (r.map PyData.int) && PyData.canLayAll0 (rows.map lstI)) = true
    rw [lay_rows rows, lay_ints]
    rfl
theorem depth_rows : ∀ rows : List (List Int), PyData.depthAll (rows.map lstI) ≤ 1
  | [] => Nat.zero_le _
  | r :: rows => by
    show max (PyData.depthAll (r.map PyData.int) + 1) (PyData.depthAll (rows.map lstI)) ≤ 1
    rw [depth_ints]
    have := depth_rows rows
    omega
theorem shaped_rows (rows : List (List Int)) : SeqAt.shaped (.list (rows.map lstI)) = true := by
  show (PyData.canLayAll0 (rows.map lstI) && decide (PyData.depthAll (rows.map lstI) + 1 ≤ 64)) = true
  rw [lay_rows]
  have := depth_rows rows
  (exact decide_eq_true (by omega))
theorem eqv_rows : ∀ rows : List (List Int), PyData.eqvAll (rows.map lstI) (rows.map lstI) = true
  | [] => rfl
  | r :: rows => by
    show (PyData.eqvAll (r.map PyData.int) (r.map PyData.int) && PyData.eqvAll (rows.map lstI) (rows.map lstI)) = true
    rw [eqv_rows rows, eqv_ints, decide_eq_true rfl]
    rfl
section
variable {K : PySem.W.Frag} {ρ : Rho} {β β1 β2 : Bag} {ta tb tp tt : TE} {E : XK} {Y : Cn} {p : Int} {k : Nat} {rows : List (List Int)}
theorem d_neRows (ha : EvB K ta ρ β (.list (rows.map lstI)) β1) (hb : EvB K tb ρ β1 (.list (rows.map lstI)) β2) : EvB K (tOp (rNeD K) ta tb) ρ β (.bool false) β2 :=
  (d_neD ha hb (flat_rows rows) (flat_rows rows) (shaped_rows rows) (shaped_rows rows)).to (by
    show PyData.bool (!PyData.eqvAll (rows.map lstI) (rows.map lstI)) = _
    rw [eqv_rows]
    rfl)
/-! a table undone -/
theorem detL_two (x y z w : Int) : Det.detL 1 [[x, y], [z, w]] = x * w - y * z := by
  show (if y = 0 then (if x = 0 then 0 else 0 + x * w) else (if x = 0 then 0 else 0 + x * w) - y * z) = _
  split <;> split <;> simp_all
theorem detL_three (a b c d e f g h i : Int) : Det.detL 2 [[a, b, c], [d, e, f], [g, h, i]] = Num.det3 a b c d e f g h i := by
  show (if c = 0 then (if b = 0 then (if a = 0 then 0 else 0 + a * Det.detL 1 [[e, f], [h, i]]) else (if a = 0 then 0 else 0 + a * Det.detL 1 [[e, f], [h, i]]) - b * Det.detL 1 [[d, f], [g, i]]) else (if b = 0 then (if a = 0 then 0 else 0 + a * Det.detL 1 [[e, f], [h, i]]) else (if a = 0 then 0 else 0 + a * Det.detL 1 [[e, f], [h, i]]) - b * Det.detL 1 [[d, f], [g, i]]) + c * Det.detL 1 [[d, e], [g, h]]) = _
  rw [detL_two, detL_two, detL_two]
  unfold Num.det3
  split <;> split <;> split <;> simp_all
theorem detL_one (x : Int) : Det.detL 0 [[x]] = x := rfl
theorem undL_two (p : Int) (r0 r1 : List Int) : undL p [r0, r1] = [undE p [r0, r1] 0 0, undE p [r0, r1] 0 1, undE p [r0, r1] 1 0, undE p [r0, r1] 1 1] := rfl
theorem undL_three (p : Int) (r0 r1 r2 : List Int) : undL p [r0, r1, r2] = [undE p [r0, r1, r2] 0 0, undE p [r0, r1, r2] 0 1, undE p [r0, r1, r2] 0 2, undE p [r0, r1, r2] 1 0, undE p [r0, r1, r2] 1 1, undE p [r0, r1, r2] 1 2, undE p [r0, r1, r2] 2 0, undE p [r0, r1, r2] 2 1, undE p [r0, r1, r2] 2 2] := rfl
theorem undE_eq (p : Int) (rows : List (List Int)) (i j : Nat) : undE p rows i j = Num.settled p (if (i + j) % 2 = 1 then -(Det.detL (rows.length - 2) (minL rows j i)) else Det.detL (rows.length - 2) (minL rows j i)) := rfl
theorem und_two (p a b c d : Int) : undL p [[a, b], [c, d]] = (Num.adj2 a b c d).map (Num.settled p) := by
  rw [undL_two]
  simp only [undE_eq]
  simp [minL, detL_one, Num.adj2, Det.detL, Det.entL]
theorem und_three (p a b c d e f g h i : Int) : undL p [[a, b, c], [d, e, f], [g, h, i]] = (Num.adj3 a b c d e f g h i).map (Num.settled p) := by
  rw [undL_three]
  simp only [undE_eq]
  simp [minL, detL_two, Num.adj3]
structure UndOk (p : Int) (k : Nat) (rows T T2 : List (List Int)) (z : Int) : Prop where
  mk1 : Num.MadeOk p (undL p rows)
  cut : cutR k (Num.made p (undL p rows)) = T.map tupI
  n : Num.UndN p k rows T z
  ne2 : Num.settled p (Det.detL (k - 1) T) ≠ 0
  mk2 : Num.MadeOk p (undL p T)
  cut2 : cutR k (Num.made p (undL p T)) = T2.map tupI
  sq2 : Det.Sq k T2
  again : T2.flatten = Num.normalF p rows.flatten
theorem und_ok (h : RowsOk p k rows) (hk : k = 2 ∨ k = 3) (he : ∀ r ∈ rows, ∀ x ∈ r, x.natAbs ≤ 19) (hD : Num.settled p (Det.detL (k - 1) rows) ≠ 0) : ∃ T T2 z, UndOk p k rows T T2 z := by
  have hs := h.sq
  rcases hk with rfl | rfl
  · obtain ⟨r0, r1, rfl⟩ : ∃ r0 r1, rows = [r0, r1] := by
      match rows, hs.1 with
      | [x, y], _ => exact ⟨x, y, rfl⟩
    obtain ⟨a, b, rfl⟩ : ∃ a b, r0 = [a, b] := by
      match r0, hs.2 r0 (by simp) with
      | [x, y], _ => exact ⟨x, y, rfl⟩
    obtain ⟨c, d, rfl⟩ : ∃ c d, r1 = [c, d] := by
      match r1, hs.2 r1 (by simp) with
      | [x, y], _ => exact ⟨x, y, rfl⟩
    have hD' : Num.UnitI p (a * d - b * c) := by
      rw [show Det.detL (2 - 1) [[a, b], [c, d]] = a * d - b * c from detL_two a b c d] at hD
      exact hD
    obtain ⟨mk, w, x, y, z, s, em, u, hd2, mk2, ea⟩ := Num.undN2 h.pr (he [a, b] (by simp) a (by simp)) (he [a, b] (by simp) b (by simp)) (he [c, d] (by simp) c (by simp)) (he [c, d] (by simp) d (by simp)) hD'
    have hl := Num.normalF_len p [a, b, c, d]
    obtain ⟨t0, t1, t2, t3, et⟩ : ∃ t0 t1 t2 t3, Num.normalF p [a, b, c, d] = [t0, t1, t2, t3] := by
      match Num.normalF p [a, b, c, d], hl with
      | [x, y, z, w], _ => exact ⟨x, y, z, w, rfl⟩
    refine ⟨[[w, x], [y, z]], [[t0, t1], [t2, t3]], s, ⟨by rw [und_two]; exact mk, by rw [und_two, em]; rfl, u, ?_, by rw [und_two]; exact mk2, by rw [und_two, ea, et]; rfl, ⟨rfl, fun r hr => ?_⟩, et.symm⟩⟩
    · rw [show Det.detL (2 - 1) [[w, x], [y, z]] = w * z - x * y from detL_two w x y z]
      exact hd2
    · simp only [List.mem_cons, List.not_mem_nil, or_false] at hr
      rcases hr with rfl | rfl <;> rfl
  · obtain ⟨r0, r1, r2, rfl⟩ : ∃ r0 r1 r2, rows = [r0, r1, r2] := by
      match rows, hs.1 with
      | [x, y, z], _ => (exact ⟨x, y, z, rfl⟩)
    obtain ⟨a, b, c, rfl⟩ : ∃ a b c, r0 = [a, b, c] := by
      match r0, hs.2 r0 (by simp) with
      | [x, y, z], _ => (exact ⟨x, y, z, rfl⟩)
    obtain ⟨d, e, f, rfl⟩ : ∃ d e f, r1 = [d, e, f] := by
      match r1, hs.2 r1 (by simp) with
      | [x, y, z], _ => (exact ⟨x, y, z, rfl⟩)
    obtain ⟨g, h', i, rfl⟩ : ∃ g h' i, r2 = [g, h', i] := by
      match r2, hs.2 r2 (by simp) with
      | [x, y, z], _ => (exact ⟨x, y, z, rfl⟩)
    have hD' : Num.UnitI p (Num.det3 a b c d e f g h' i) := by
      rw [show Det.detL (3 - 1) [[a, b, c], [d, e, f], [g, h', i]] = _ from detL_three a b c d e f g h' i] at hD
      exact hD
    obtain ⟨mk, m0, m1, m2, m3, m4, m5, m6, m7, m8, s, em, u, hd2, mk2, ea⟩ := Num.undN3 h.pr (fun t ht => by
      simp only [List.mem_cons, List.not_mem_nil, or_false] at ht
      rcases ht with rfl | rfl | rfl | rfl | rfl | rfl | rfl | rfl | rfl
      · exact he [t, b, c] (by simp) t (by simp)
      · exact he [a, t, c] (by simp) t (by simp)
      · exact he [a, b, t] (by simp) t (by simp)
      · exact he [t, e, f] (by simp) t (by simp)
      · exact he [d, t, f] (by simp) t (by simp)
      · exact he [d, e, t] (by simp) t (by simp)
      · exact he [t, h', i] (by simp) t (by simp)
      · exact he [g, t, i] (by simp) t (by simp)
      · exact he [g, h', t] (by simp) t (by simp)) hD'
    have hl := Num.normalF_len p [a, b, c, d, e, f, g, h', i]
    obtain ⟨t0, t1, t2, t3, t4, t5, t6, t7, t8, et⟩ : ∃ t0 t1 t2 t3 t4 t5 t6 t7 t8, Num.normalF p [a, b, c, d, e, f, g, h', i] = [t0, t1, t2, t3, t4, t5, t6, t7, t8] := by
      match Num.normalF p [a, b, c, d, e, f, g, h', i], hl with
      | [x0, x1, x2, x3, x4, x5, x6, x7, x8], _ => exact ⟨x0, x1, x2, x3, x4, x5, x6, x7, x8, rfl⟩
    refine ⟨[[m0, m1, m2], [m3, m4, m5], [m6, m7, m8]], [[t0, t1, t2], [t3, t4, t5], [t6, t7, t8]], s, ⟨by rw [und_three]; exact mk, by rw [und_three, em]; rfl, u, ?_, by rw [und_three]; exact mk2, by rw [und_three, ea, et]; rfl, ⟨rfl, fun r hr => ?_⟩, et.symm⟩⟩
    · rw [show Det.detL (3 - 1) [[m0, m1, m2], [m3, m4, m5], [m6, m7, m8]] = _ from detL_three ..]
      exact hd2
    · simp only [List.mem_cons, List.not_mem_nil, or_false] at hr
      rcases hr with rfl | rfl | rfl <;> rfl
theorem UndOk.rowsT {T T2 : List (List Int)} {z : Int} (h : RowsOk p k rows) (u : UndOk p k rows T T2 z) : RowsOk p k T := ⟨h.pr, h.pos, h.few, u.n.sq, fun r hr x hx => ⟨Nat.le_trans (u.n.sz r hr x hx).1 (by decide), (u.n.sz r hr x hx).2⟩⟩
/-- a table is undone -/
theorem c_und {U : List (List Int)} (h1 : EvB K tp ρ β (.int p) β) (h : EvB K tt ρ β (.tuple (rows.map tupI)) β1) (hr : RowsOk p k rows) (h2 : 2 ≤ k) (h3 : k ≤ 3) (hD : Num.settled p (Det.detL (k - 1) rows) ≠ 0) (mk : Num.MadeOk p (undL p rows)) (cut : cutR k (Num.made p (undL p rows)) = U.map tupI) :
    EvB K (tCall (spX K (R_undone Y)) [] E (tCons tp (tCons tt tNil))) ρ β (.tuple (U.map tupI)) β1 := by
  have e := hr.sq.1
  obtain ⟨s1, s2⟩ := hr.sent
  refine x_call0 (a_con h1 (a_con h a_nil)) ⟨_, _, rfl, .inl ⟨p, rfl, hr.pr, .inr ⟨rows, by rw [s1, s2 2 3 (by omega) (by omega)]; rfl, rfl, hr.det, by omega, by omega, .inr ⟨by rw [e]; exact hD, mk, by rw [e, cut]⟩⟩⟩, rfl, rfl⟩
theorem und_flat (hr : RowsOk p k rows) (h2 : 2 ≤ k) (h3 : k ≤ 3) (hD : Num.settled p (Det.detL (k - 1) rows) = 0) : R_undone Y [.imm (.int p), .imm (.tuple (rows.map tupI))] none (.ex Y.cR (some ("reason", .tuple [.str "flat"]))) none := by
  have e := hr.sq.1
  obtain ⟨s1, s2⟩ := hr.sent
  exact ⟨_, _, rfl, .inl ⟨p, rfl, hr.pr, .inr ⟨rows, by rw [s1, s2 2 3 (by omega) (by omega)]; rfl, rfl, hr.det, by omega, by omega, .inl ⟨by rw [e]; exact hD, rfl⟩⟩⟩, rfl, rfl⟩
/-- a tuple of numbers over the prime -/
structure VecOk (p : Int) (k : Nat) (v : List Int) : Prop where
  len : v.length = k
  ent : ∀ x ∈ v, x.natAbs ≤ 2 ^ 100 ∧ (p ≠ 0 → 0 ≤ x ∧ x < p)
theorem VecOk.fit {v : List Int} (h : VecOk p k v) : Num.allFit p (k : Int) (tupI v) = true := Num.allFit_of (by rw [h.len]) fun m hm => by
  obtain ⟨e1, e2⟩ := h.ent m hm
  have hb : (2 : Int) ^ 100 < Num.big := by decide
  have e3 : (m.natAbs : Int) ≤ 2 ^ 100 := by exact_mod_cast e1
  refine ⟨by omega, ?_⟩
  by_cases h0 : p = 0
  · exact .inl h0
  · exact .inr (e2 h0)
theorem c_sent {v : List Int} (h1 : EvB K tp ρ β (.int p) β) (h : EvB K ta ρ β (.tuple (rows.map tupI)) β) (h' : EvB K tb ρ β (tupI v) β1) (hr : RowsOk p k rows) (hv : VecOk p k v) : EvB K (tCall (spX K (R_sent Y)) [] E (tCons tp (tCons ta (tCons tb tNil)))) ρ β (tupI (sentL p rows v)) β1 := by
  obtain ⟨s1, _⟩ := hr.sent
  have e := hr.sq.1
  have hf := hr.few
  have pw : (2 : Nat) ^ 100 < 2 ^ 200 := Nat.pow_lt_pow_right (by decide) (by decide)
  have so : SentOk p rows v := ⟨hr.pr, by omega, by rw [hv.len]; omega, fun n hn => Nat.lt_of_le_of_lt (hv.ent n hn).1 pw, fun x hx => ⟨(hr.sq.2 x hx).trans hv.len.symm, fun n hn => Nat.lt_of_le_of_lt (hr.ent x hx n hn).1 pw⟩⟩
  have hpos := hr.pos
  obtain ⟨r0, rest, rfl⟩ : ∃ r0 rest, rows = r0 :: rest := by
    cases rows with
    | nil => exact absurd e (by show ¬ 0 = k; omega)
    | cons a b => exact ⟨a, b, rfl⟩
  have l0 := hr.sq.2 r0 (List.mem_cons_self ..)
  refine x_call0 (a_con h1 (a_con h (a_con h' a_nil))) ⟨_, _, _, rfl, .inl ⟨p, rfl, hr.pr, .inr ⟨r0.map PyData.int, rest.map tupI, rfl, s1, by rw [List.length_map]; omega, .inr ⟨?_, r0 :: rest, v, rfl, rfl, so, rfl⟩⟩⟩, rfl, rfl⟩
  rw [List.length_map, l0]
  exact hv.fit
end
theorem dot_le {m n : Nat} : ∀ {x y : List Int}, (∀ t ∈ x, t.natAbs ≤ m) → (∀ t ∈ y, t.natAbs ≤ n) → (Num.dot x y).natAbs ≤ x.length * (m * n)
  | [], _, _, _ => by simp [Num.dot]
  | _ :: _, [], _, _ => by simp [Num.dot]
  | a :: x, b :: y, h1, h2 => by
    have ih := dot_le (x := x) (y := y) (fun t ht => h1 t (List.mem_cons_of_mem _ ht)) fun t ht => h2 t (List.mem_cons_of_mem _ ht)
    have e : Num.dot (a :: x) (b :: y) = a * b + Num.dot x y := by simp [Num.dot]
    rw [e, List.length_cons, Nat.add_mul, Nat.one_mul]
    have := Num.mul_le (h1 a (List.mem_cons_self ..)) (h2 b (List.mem_cons_self ..))
    omega

end K03
/-! ## K03q -/
set_option Elab.async false
set_option linter.all false
set_option maxRecDepth 100000
set_option maxHeartbeats 1100000
namespace K03
open PySem L2 TD PySem.Spec PyProof.Rows
variable [TabW]
/-- a loop that puts rows together -/
theorem for_cat {K : PySem.W.Frag} {β : Bag} {tu : TS} {j : Nat} {F : Option Slot → List Int → Rho} {g : List Int → Dt} (hF : ∀ s s' ns, (F s ns).set j s' = F s' ns) (hs : ∀ r ns, ns.length + r.length ≤ 1000 → StB K tu (F (some (.imm (g r))) ns) β (.nx (F (some (.imm (g r))) (ns ++ r))) β) :
    ∀ (rows : List (List Int)) (s : Option Slot) (ns : List Int), ns.length + rows.flatten.length ≤ 1000 → ∃ s', ForR K j tu (rows.map g) (F s ns) β (.nx (F s' (ns ++ rows.flatten))) β
  | [], s, ns, _ => ⟨s, by
    rw [List.flatten_nil, List.append_nil]
    exact .nil _ _⟩
  | r :: rows, s, ns, h => by
    rw [List.flatten_cons, List.length_append] at h
    have h1 := hs r ns (by omega)
    obtain ⟨s', h2⟩ := for_cat hF hs rows (some (.imm (g r))) (ns ++ r) (by rw [List.length_append]; omega)
    refine ⟨s', .nx (by rw [hF]; exact h1) ?_⟩
    rw [List.flatten_cons, ← List.append_assoc]
    exact h2
theorem sp_forT_keep {K : PySem.W.Frag} {F : Nat → Rho → Dt → Prop} {i j : Nat} {tl : TE} {tu tw : TS} {es : List Dt} {ρ : Rho} {β β2 : Bag} {d : Dt} {o : Out} (hij : i ≠ j) (hl : EvW K i tl ρ β d (.tuple es) β) (h0 : F 0 ρ d) (hs : ∀ m x ρ d, es[m]? = some x → F m ρ d → ∃ ρ1 d1, (StW K i tu (ρ.set j (some (.imm x))) β d (.nx ρ1) β d1 ∨ StW K i tu (ρ.set j (some (.imm x))) β d (.ct ρ1) β d1) ∧ F (m + 1) ρ1 d1)
    (ht : ∀ ρ' d', F es.length ρ' d' → StP K i tw ρ' β d' o β2) : StP K i (tSeq (tFor (iTup K tl) (gName j) tu) tw) ρ β d o β2 := by
  obtain ⟨ρ', d', l, f⟩ := ForW.keep (K := K) (β := β) (i := i) (j := j) (tu := tu) (F := F) (es := es) (n := 0) h0 fun m x ρ d hx hF => by
    rw [Nat.zero_add] at hF
    rw [Nat.zero_add]
    exact hs m x ρ d hx hF
  rw [Nat.zero_add] at f
  exact sp_seq (sw_forT hij hl l) (ht ρ' d' f)
theorem flat_len_le {k : Nat} : ∀ {rows : List (List Int)}, (∀ r ∈ rows, r.length = k) → rows.flatten.length = rows.length * k
  | [], _ => by simp
  | r :: rows, h => by
    rw [List.flatten_cons, List.length_append, flat_len_le fun x hx => h x (List.mem_cons_of_mem _ hx), h r (List.mem_cons_self ..), List.length_cons, Nat.add_mul, Nat.one_mul, Nat.add_comm]
def size2F (ns : List Int) : Nat := (2 + (Num.grabF 2 ns).1).toNat
theorem size2_ok (ns : List Int) : (2 + (Num.grabF 2 ns).1) = (size2F ns : Int) ∧ (size2F ns = 2 ∨ size2F ns = 3) := by
  have := Num.grab_rng (t := 2) (by decide) ns
  unfold size2F
  omega
def undBag (p : Int) (ns : List Int) : List Int :=
  if Num.settled p (Det.detL (size2F ns - 1) (Num.squareF p (size2F ns) (Num.grabF 2 ns).2).1) = 0 then (Num.squareF p (size2F ns) (Num.grabF 2 ns).2).2
  else (Num.drawsF (Num.numberF p 5) (size2F ns) (Num.squareF p (size2F ns) (Num.grabF 2 ns).2).2).2
theorem und_bag {p : Int} (hp : Num.PrimeI p) {ns : List Int} (h : ∃ n, Num.BagI n ns) : ∃ n, Num.BagI n (undBag p ns) := by
  have h1 := Num.square_bag hp (size2F ns) (Num.grabB (t := 2) (by decide) h)
  unfold undBag
  split
  · exact h1
  · obtain ⟨n, h1⟩ := h1
    exact ⟨_, Num.draws_bag (fun h => Num.number_bag hp (by decide) h) _ h1⟩
theorem prods_eq (k : Nat) (z : Int) : (PyData.list ((List.range k).map fun (i : Nat) => lstI ((List.range k).map fun (j : Nat) => if j = i then z else 0))) = PyData.list (((List.range k).map fun (i : Nat) => (List.range k).map fun (j : Nat) => if j = i then z else 0).map lstI) := by
  rw [List.map_map]; rfl


abbrev s_law_undone_right : Stmt := top 60
theorem sc_law_undone_right : FnScope ["_law_bag_here", "_law_prime", "_law_size", "_law_rows", "_law_table", "_law_value", "_law_told", "_law_numbers", "_law_row", "_law_products", "_law_columns", "_law_line", "_law_place", "_law_one", "_law_other", "_law_column", "_law_scale", "_law_at", "_law_vector", "_law_number_here", "_law_whole", "_law_again"] ["_law_bag_here", "_law_prime"] (defScope s_law_undone_right) := ⟨rfl, rfl, rfl, by decide +kernel, rfl, by decide +kernel, by decide +kernel⟩
abbrev R_law_undone_right : FR := fD (fun p : Int => [.imm (.int p)]) Num.PrimeI fun p ns => (.bool true, undBag p ns)
theorem ok_law_undone_right {P : Program} {w : World} {K : PySem.W.Frag} {mg : Str → Option Value} {base : Heap} {Y : Cn} (F : DefAtC K "_law_undone_right" s_law_undone_right Y.c1) (hX : K.In base) (hG : base.Ns mainGlobals mg) (T : Txt K mg Y) (WA : WordAt K mg "_law_word" s_law_word) (TB : TbAt base mg Y Y.c1 q1) (G_law_square : FnG P w K mg base 3 "_law_square" ["_law_bag_here", "_law_prime", "_law_size"] R_law_square) (G_undone : FnX P w K mg base 9 "undone" ["prime", "table"] (R_undone Y)) (G_law_grab : FnG P w K mg base 1 "_law_grab" ["_law_bag_here", "_law_total"] R_law_grab) (G_law_given : FnG P w K mg base 1 "_law_given" ["_law_rows"] R_law_given) (G_law_low : FnG P w K mg base 1 "_law_low" ["_law_prime", "_law_number_here"] R_law_low) (G_sent : FnX P w K mg base 6 "sent" ["prime", "table", "numbers"] (R_sent Y)) (G_law_normal : FnG P w K mg base 2 "_law_normal" ["_law_prime", "_law_row"] R_law_normal) (G_law_value_of : FnG P w K mg base 7 "_law_value_of" ["_law_rows"] (R_val 6)) (G_law_number : FnG P w K mg base 2 "_law_number" ["_law_bag_here", "_law_prime", "_law_spread"] R_law_number) : FnH P w K mg base 12 "_law_undone_right" ["_law_bag_here", "_law_prime"] R_law_undone_right := by
  have nd := sc_law_undone_right.nd
  refine fnC_mk F hX hG sc_law_undone_right (fun as β r β' h => by first | exact FR.len h | (obtain ⟨_, rfl, _⟩ := h; rfl) | (obtain ⟨_, _, rfl, _⟩ := h; rfl) | (obtain ⟨_, _, _, rfl, _⟩ := h; rfl) | (obtain ⟨_, _, _, _, rfl, _⟩ := h; rfl) | (obtain ⟨_, _, _, _, _, rfl, _⟩ := h; rfl)) (fun _ _ _ _ _ _ _ us hl => match us, hl with | [_, _], _ => rfl) (fun f A outer s H E hr => ⟨_, (pss_cons (ps_set (i := 2) nd rfl (Or.inr rfl) (pe_op op_add pe_int (pe_fn G_law_grab (hr.toRoom.mono (by decide)) (pa_cons (pv 0) (pa_cons pe_int pa_nil))))) (pss_cons (ps_set (i := 3) nd rfl (Or.inr rfl) (pe_fn G_law_square (hr.toRoom.mono (by decide)) (pa_cons (pv 0) (pa_cons (pv 1) (pa_cons (pv 2) pa_nil))))) (pss_cons (ps_asg (pe_tup (pa_cons (pe_fn G_law_given (hr.toRoom.mono (by decide)) (pa_cons (pv 3) pa_nil)) (pa_cons (pe_fn G_law_low (hr.toRoom.mono (by decide)) (pa_cons (pv 1) (pa_cons (pe_fn G_law_value_of (hr.toRoom.mono (by decide)) (pa_cons (pv 3) pa_nil)) pa_nil))) pa_nil))) (pg_tup rfl (pgs_cons (pg_name (i := 4) nd rfl (Or.inr rfl)) (pgs_cons (pg_name (i := 5) nd rfl (Or.inl rfl)) pgs_nil)))) (pss_cons (ps_if (pt_cmpR op_eq (pv 5) pe_int (nomark _)) (pss_one (ps_ret (pe_cmpR op_eq (pe_tell (k := 9) (sc := defScope s_law_undone_right) (hr.mono (by decide)) WA TB T (by decide +kernel) (fun _ _ _ _ _ => rfl) (fun A outer s H E f c' hr2 => by exact (pe_fnL G_undone (hr2.mono (by decide)) (pa_cons (pv 1) (pa_cons (pv 4) pa_nil))))) pe_str (nomark _)))) pss_nil) (pss_cons (ps_set (i := 6) nd rfl (Or.inl rfl) (pe_fnX (E := E0) G_undone (hr.toRoom.mono (by decide)) passL (pa_cons (pv 1) (pa_cons (pv 4) pa_nil)))) (pss_cons (ps_set (i := 7) nd rfl (Or.inl rfl) (pe_lst pa_nil)) (pss_cons (ps_for PassesOwn.never rfl (pi_tup (pv 6)) (pg_name (i := 8) nd rfl (Or.inr rfl)) (pss_one (ps_set (i := 7) nd rfl (Or.inl rfl) (pe_op op_cat (pv 7) (pe_callTy c_list (by rfl) T.z_list bo_list (pa_cons (pv 8) pa_nil)))))) (pss_cons (ps_if (PW.pt (pw_or (pt_cmpR op_ne (pe_callB (c_lenK (K := K)) (by rfl) T.z_len bo_len (pa_cons (pv 6) pa_nil)) (pv 2) (nomark _)) (pw_or (pt_cmpR (op_neD hr.units) (pe_lc (own := [("_law_row", 8)]) rfl nd (pi_tup (pv 6)) (blkOk_by (N := ["_law_bag_here", "_law_prime", "_law_size", "_law_rows", "_law_table", "_law_value", "_law_told", "_law_numbers", "_law_row", "_law_products", "_law_columns", "_law_line", "_law_place", "_law_one", "_law_other", "_law_column", "_law_scale", "_law_at", "_law_vector", "_law_number_here", "_law_whole", "_law_again"]) (sc := defScope s_law_undone_right) (by decide +kernel)) (fun _ _ _ _ _ => by exact (pg_name (i := 8) nd rfl (Or.inl rfl))) (fun _ _ _ _ _ => by exact pts_nil) (fun _ _ _ _ _ => by exact (pe_callB (c_lenK (K := K)) (by rfl) T.z_len bo_len (pa_cons (pv 8) pa_nil)))) (pe_op op_rep (pe_lst (pa_cons (pv 2) pa_nil)) (pv 2)) (nomark _)) (pw_or1 (pt_cmpR (op_neD hr.units) (pe_fn G_law_normal (hr.toRoom.mono (by decide)) (pa_cons (pv 1) (pa_cons (pv 7) pa_nil))) (pe_callTy c_tuple (by rfl) T.z_tuple bo_tuple (pa_cons (pv 7) pa_nil)) (nomark _)))))) (pss_one (ps_ret pe_bl)) pss_nil) (pss_cons (ps_set (i := 9) nd rfl (Or.inl rfl) (pe_lst pa_nil)) (pss_cons (ps_for PassesOwn.never rfl (pi_tup (pv 6)) (pg_name (i := 8) nd rfl (Or.inr rfl)) (pss_cons (ps_setLc (i := 10) (own := [("_law_place", 12)]) rfl nd rfl rfl (sw_true rfl rfl rfl (by decide +kernel)) (pi_range1 (by rfl) T.z_range (pa_cons (pv 2) pa_nil)) (blkOk_by (N := ["_law_bag_here", "_law_prime", "_law_size", "_law_rows", "_law_table", "_law_value", "_law_told", "_law_numbers", "_law_row", "_law_products", "_law_columns", "_law_line", "_law_place", "_law_one", "_law_other", "_law_column", "_law_scale", "_law_at", "_law_vector", "_law_number_here", "_law_whole", "_law_again"]) (sc := defScope s_law_undone_right) (by decide +kernel)) (fun _ _ _ _ _ => by exact (pg_name (i := 12) nd rfl (Or.inr rfl))) (fun _ _ _ _ _ => by exact pts_nil) (fun _ _ _ _ _ => by exact (pe_lc (own := [("_law_line", 11)]) rfl nd (pi_listK (K := K) (pv 3)) (blkOk_by (N := ["_law_bag_here", "_law_prime", "_law_size", "_law_rows", "_law_table", "_law_value", "_law_told", "_law_numbers", "_law_row", "_law_products", "_law_columns", "_law_line", "_law_place", "_law_one", "_law_other", "_law_column", "_law_scale", "_law_at", "_law_vector", "_law_number_here", "_law_whole", "_law_again"]) (sc := ({ kind := .function, names := [((".0" : Str), .local), ("_law_place", .cell), ("_law_rows", .cell)], isGenerator := false, isCoroutine := false } : Scope)) (by decide +kernel)) (fun _ _ _ _ _ => by exact (pg_name (i := 11) nd rfl (Or.inl rfl))) (fun _ _ _ _ _ => by exact pts_nil) (fun _ _ _ _ _ => by exact (pe_ix (ix_ofK (K := K) (r := rIxL) ix_list) (pv 11) (pv 12) (fun _ _ => rfl)))))) (pss_one (ps_expr (pe_castBM (K := K) (pe_bm PySem.F.plainAttrs_list PySem.F.slot_list_append PySem.F.type_list_append mt_append (pv 9) (pa_cons (pe_lc (own := [("_law_column", 15)]) rfl nd (pi_list (pv 10)) (blkOk_by (N := ["_law_bag_here", "_law_prime", "_law_size", "_law_rows", "_law_table", "_law_value", "_law_told", "_law_numbers", "_law_row", "_law_products", "_law_columns", "_law_line", "_law_place", "_law_one", "_law_other", "_law_column", "_law_scale", "_law_at", "_law_vector", "_law_number_here", "_law_whole", "_law_again"]) (sc := defScope s_law_undone_right) (by decide +kernel)) (fun _ _ _ _ _ => by exact (pg_name (i := 15) nd rfl (Or.inl rfl))) (fun _ _ _ _ _ => by exact pts_nil) (fun _ _ _ _ _ => by exact (pe_fn G_law_low (hr.toRoom.mono (by decide)) (pa_cons (pv 1) (pa_cons (pe_callB (c_ofK (K := K) (r := rSum) (cr_sum rfl)) (by rfl) T.z_sum bo_sum (pa_cons (pe_lc (own := [("_law_one", 13), ("_law_other", 14)]) rfl nd (pi_zipM (K := K) (by rfl) T.z_zip (pa_cons (pv 8) (pa_cons (pv 15) pa_nil))) (blkOk_by (N := ["_law_bag_here", "_law_prime", "_law_size", "_law_rows", "_law_table", "_law_value", "_law_told", "_law_numbers", "_law_row", "_law_products", "_law_columns", "_law_line", "_law_place", "_law_one", "_law_other", "_law_column", "_law_scale", "_law_at", "_law_vector", "_law_number_here", "_law_whole", "_law_again"]) (sc := ({ kind := .function, names := [((".0" : Str), .local), ("_law_column", .local), ("_law_low", .globalImplicit), ("sum", .globalImplicit), ("zip", .globalImplicit), ("_law_prime", .cell), ("_law_row", .cell)], isGenerator := false, isCoroutine := false } : Scope)) (by decide +kernel)) (fun _ _ _ _ _ => by exact (pg_tupK (K := K) (n := 2) rfl (pgs_cons (pg_name (i := 13) nd rfl (Or.inl rfl)) (pgs_cons (pg_name (i := 14) nd rfl (Or.inl rfl)) pgs_nil)))) (fun _ _ _ _ _ => by exact pts_nil) (fun _ _ _ _ _ => by exact (pe_op op_mulW (pv 13) (pv 14)))) pa_nil)) pa_nil))))) pa_nil))))))) (pss_cons (ps_set (i := 16) nd rfl (Or.inr rfl) (pe_ix ix_list (pe_ix ix_list (pv 9) pe_int (fun _ _ => rfl)) pe_int (fun _ _ => rfl))) (pss_cons (ps_if (PW.pt (pw_or (pt_cmpR op_eq (pv 16) pe_int (nomark _)) (pw_or1 (pt_cmpR (op_neD hr.units) (pv 9) (pe_lc (own := [("_law_at", 17)]) rfl nd (pi_range1 (by rfl) T.z_range (pa_cons (pv 2) pa_nil)) (blkOk_by (N := ["_law_bag_here", "_law_prime", "_law_size", "_law_rows", "_law_table", "_law_value", "_law_told", "_law_numbers", "_law_row", "_law_products", "_law_columns", "_law_line", "_law_place", "_law_one", "_law_other", "_law_column", "_law_scale", "_law_at", "_law_vector", "_law_number_here", "_law_whole", "_law_again"]) (sc := defScope s_law_undone_right) (by decide +kernel)) (fun _ _ _ _ _ => by exact (pg_name (i := 17) nd rfl (Or.inr rfl))) (fun _ _ _ _ _ => by exact pts_nil) (fun _ _ _ _ _ => by exact (pe_lc (own := [("_law_place", 12)]) rfl nd (pi_range1 (by rfl) T.z_range (pa_cons (pv 2) pa_nil)) (blkOk_by (N := ["_law_bag_here", "_law_prime", "_law_size", "_law_rows", "_law_table", "_law_value", "_law_told", "_law_numbers", "_law_row", "_law_products", "_law_columns", "_law_line", "_law_place", "_law_one", "_law_other", "_law_column", "_law_scale", "_law_at", "_law_vector", "_law_number_here", "_law_whole", "_law_again"]) (sc := ({ kind := .function, names := [((".0" : Str), .local), ("_law_at", .cell), ("range", .globalImplicit), ("_law_scale", .cell), ("_law_size", .cell)], isGenerator := false, isCoroutine := false } : Scope)) (by decide +kernel)) (fun _ _ _ _ _ => by exact (pg_name (i := 12) nd rfl (Or.inl rfl))) (fun _ _ _ _ _ => by exact pts_nil) (fun _ _ _ _ _ => by exact (pe_ifExp (pt_cmpR op_eq (pv 12) (pv 17) (nomark _)) (pv 16) pe_int))))) (nomark _))))) (pss_one (ps_ret pe_bl)) pss_nil) (pss_cons (ps_set (i := 18) nd rfl (Or.inl rfl) (pe_callTy c_tuple (by rfl) T.z_tuple bo_tuple (pa_cons (pe_lc (own := [("_law_place", 12)]) rfl nd (pi_range1 (by rfl) T.z_range (pa_cons (pv 2) pa_nil)) (blkOk_by (N := ["_law_bag_here", "_law_prime", "_law_size", "_law_rows", "_law_table", "_law_value", "_law_told", "_law_numbers", "_law_row", "_law_products", "_law_columns", "_law_line", "_law_place", "_law_one", "_law_other", "_law_column", "_law_scale", "_law_at", "_law_vector", "_law_number_here", "_law_whole", "_law_again"]) (sc := defScope s_law_undone_right) (by decide +kernel)) (fun _ _ _ _ _ => by exact (pg_name (i := 12) nd rfl (Or.inl rfl))) (fun _ _ _ _ _ => by exact pts_nil) (fun _ _ _ _ _ => by exact (pe_fn G_law_number (hr.toRoom.mono (by decide)) (pa_cons (pv 0) (pa_cons (pv 1) (pa_cons pe_int pa_nil)))))) pa_nil))) (pss_cons (ps_if (pt_cmpR (op_neD hr.units) (pe_fnX (E := E0) G_sent (hr.toRoom.mono (by decide)) passL (pa_cons (pv 1) (pa_cons (pv 6) (pa_cons (pe_fnX (E := E0) G_sent (hr.toRoom.mono (by decide)) passL (pa_cons (pv 1) (pa_cons (pv 4) (pa_cons (pv 18) pa_nil)))) pa_nil)))) (pe_callTy c_tuple (by rfl) T.z_tuple bo_tuple (pa_cons (pe_lc (own := [("_law_number_here", 19)]) rfl nd (pi_tup (pv 18)) (blkOk_by (N := ["_law_bag_here", "_law_prime", "_law_size", "_law_rows", "_law_table", "_law_value", "_law_told", "_law_numbers", "_law_row", "_law_products", "_law_columns", "_law_line", "_law_place", "_law_one", "_law_other", "_law_column", "_law_scale", "_law_at", "_law_vector", "_law_number_here", "_law_whole", "_law_again"]) (sc := defScope s_law_undone_right) (by decide +kernel)) (fun _ _ _ _ _ => by exact (pg_name (i := 19) nd rfl (Or.inl rfl))) (fun _ _ _ _ _ => by exact pts_nil) (fun _ _ _ _ _ => by exact (pe_fn G_law_low (hr.toRoom.mono (by decide)) (pa_cons (pv 1) (pa_cons (pe_op op_mulW (pv 16) (pv 19)) pa_nil))))) pa_nil)) (nomark _)) (pss_one (ps_ret pe_bl)) pss_nil) (pss_cons (ps_set (i := 20) nd rfl (Or.inl rfl) (pe_lst pa_nil)) (pss_cons (ps_for PassesOwn.never rfl (pi_list (pv 3)) (pg_name (i := 8) nd rfl (Or.inr rfl)) (pss_one (ps_set (i := 20) nd rfl (Or.inl rfl) (pe_op op_cat (pv 20) (pv 8))))) (pss_cons (ps_set (i := 21) nd rfl (Or.inl rfl) (pe_lst pa_nil)) (pss_cons (ps_for PassesOwn.never rfl (pi_tup (pe_fnX (E := E0) G_undone (hr.toRoom.mono (by decide)) passL (pa_cons (pv 1) (pa_cons (pv 6) pa_nil)))) (pg_name (i := 8) nd rfl (Or.inr rfl)) (pss_one (ps_set (i := 21) nd rfl (Or.inl rfl) (pe_op op_cat (pv 21) (pe_callTy c_list (by rfl) T.z_list bo_list (pa_cons (pv 8) pa_nil)))))) (pss_one (ps_ret (pe_cmpR (op_eqD hr.units) (pe_callTy c_tuple (by rfl) T.z_tuple bo_tuple (pa_cons (pv 21) pa_nil)) (pe_fn G_law_normal (hr.toRoom.mono (by decide)) (pa_cons (pv 1) (pa_cons (pv 20) pa_nil))) (nomark _)))))))))))))))))))))), fun as β r β' hR => ?_⟩)
  obtain ⟨p, n, ns, rfl, hp, hb, rfl, rfl, rfl⟩ := hR
  dsimp only [cxOf, Cx.nox, Cx.wish] at *
  have hb0 : ∃ n, Num.BagI n ns := ⟨n, hb⟩
  obtain ⟨ek, k23⟩ := size2_ok ns
  have hbg := Num.grabB (t := 2) (by decide) hb0
  have hbs := Num.square_bag hp (size2F ns) hbg
  have ed : undBag p ns = if Num.settled p (Det.detL (size2F ns - 1) (Num.squareF p (size2F ns) (Num.grabF 2 ns).2).1) = 0 then (Num.squareF p (size2F ns) (Num.grabF 2 ns).2).2 else (Num.drawsF (Num.numberF p 5) (size2F ns) (Num.squareF p (size2F ns) (Num.grabF 2 ns).2).2).2 := rfl
  rw [ed]
  have k1 : 1 ≤ size2F ns := by omega
  have k6 : size2F ns ≤ 6 := by omega
  have ok := squareOk hp k1 k6 (Num.grabF 2 ns).2
  have ent := (Num.square_ok hp k1 (Num.grabF 2 ns).2).2
  refine .ret (st_seq (β1 := some (Num.grabF 2 ns).2) (st_asg ((d_add (β1 := some ns) d_int (c_grab rfl d_int (by decide) (by decide) hb0)).to (congrArg PyData.int ek))) ?_)
  generalize size2F ns = k at *
  refine st_seq (β1 := some (Num.squareF p k (Num.grabF 2 ns).2).2) (st_asg (hbg.elim fun m hm => c_fD (x := (p, k)) (a_bg rfl (a_con (d_var rfl) (a_con (d_var rfl) a_nil))) ⟨hp, k1, k6⟩ hm)) ?_
  generalize (Num.squareF p k (Num.grabF 2 ns).2).1 = rows at *
  generalize (Num.squareF p k (Num.grabF 2 ns).2).2 = ms at *
  have sz : ∀ r ∈ rows, ∀ x ∈ r, x.natAbs ≤ 19 := fun r hr x hx => (ent r hr x hx).1
  refine st_sq (st_unpack (is := [4, 5]) (n := 2) (ds := [.tuple (rows.map tupI), .int (Num.settled p (Det.detL (k - 1) rows))]) (d_tup (ds := [.tuple (rows.map tupI), .int (Num.settled p (Det.detL (k - 1) rows))]) (a_con (β1 := some ms) (c_given (d_var rfl) ok) (a_con (β1 := some ms) (c_f2 (x := p) (y := Det.detL (k - 1) rows) (d_var rfl) (c_val (d_var rfl) ok) hp.small.1) a_nil)) rfl (by show 2 ≤ 100000; decide)) rfl rfl) ?_
  show StB K _ [some .bag, some (.imm (.int p)), some (.imm (.int (k : Int))), some (.imm (.list (rows.map lstI))), some (.imm (.tuple (rows.map tupI))), some (.imm (.int (Num.settled p (Det.detL (k - 1) rows)))), none, none, none, none, none, none, none, none, none, none, none, none, none, none, none, none] _ _ _
  by_cases hD : Num.settled p (Det.detL (k - 1) rows) = 0
  · rw [if_pos hD]
    refine st_seqR (st_ifT ((t_test (d_eqI (d_var rfl) d_int)).to (decide_eq_true hD)) (st_ret ((d_eqS (d_lamEx T.tabw (a_con (d_var rfl) (a_con (d_var rfl) a_nil)) (und_flat ok (by omega) (by omega) hD) (told_flat T)) d_str).to (congrArg PyData.bool (decide_eq_true flat_text.symm)))))
  · rw [if_neg hD]
    obtain ⟨T1, T2, z, u⟩ := und_ok ok k23 sz hD
    have okT := u.rowsT ok
    have sqT := okT.sq
    have lT : T1.flatten.length ≤ 9 := by
      rw [flat_len_le sqT.2, sqT.1]
      rcases k23 with h | h <;> rw [h] <;> decide
    have lR : rows.flatten.length ≤ 9 := by
      rw [flat_len_le ok.sq.2, ok.sq.1]
      rcases k23 with h | h <;> rw [h] <;> decide
    have lT2 : T2.flatten.length ≤ 9 := by
      rw [flat_len_le u.sq2.2, u.sq2.1]
      rcases k23 with h | h <;> rw [h] <;> decide
    refine st_sq (st_ifF ((t_test (d_eqI (d_var rfl) d_int)).to (decide_eq_false hD)) st_next) ?_
    generalize hval : Num.settled p (Det.detL (k - 1) rows) = val at *
    refine st_sq (st_asg (d := .tuple (T1.map tupI)) (c_und (d_var rfl) (d_var rfl) ok (by omega) (by omega) (by rw [hval]; exact hD) u.mk1 u.cut)) ?_
    refine st_sq (st_asg (d := lstI []) (d_lst (ds := []) a_nil rfl (by decide))) ?_
    obtain ⟨s1, l1⟩ := for_cat (K := K) (β := some ms) (j := 8) (g := tupI) (F := fun s ns => [some .bag, some (.imm (.int p)), some (.imm (.int (k : Int))), some (.imm (.list (rows.map lstI))), some (.imm (.tuple (rows.map tupI))), some (.imm (.int val)), some (.imm (.tuple (T1.map tupI))), some (.imm (lstI ns)), s, none, none, none, none, none, none, none, none, none, none, none, none, none]) (tu := tAsg (tOp rCat (tVar 7) (tCB (rListOf K) (tCons (tVar 8) tNil))) (gName 7)) (fun _ _ _ => rfl) (fun r ns h => st_asg (d := lstI (ns ++ r)) ((d_cat (ds := ns.map PyData.int) (es := r.map PyData.int) (d_var rfl) (d_listOf (d_var rfl) (.inr rfl)) (by rw [List.length_map, List.length_map]; omega)).to (by show _ = PyData.list ((ns ++ r).map PyData.int); rw [List.map_append]))) T1 none [] (by rw [List.length_nil]; omega)
    refine st_sq (st_forT (d_var rfl) l1) ?_
    rw [List.nil_append]
    have hnor := u.n.nor
    have hlen : decide (((T1.map tupI).length : Int) = (k : Int)) = true := decide_eq_true (by rw [List.length_map, sqT.1])
    have hmap : (T1.map fun r => (r.length : Int)) = List.replicate k (k : Int) := List.eq_replicate_iff.mpr ⟨by rw [List.length_map, sqT.1], fun x hx => by
      obtain ⟨r, hr, rfl⟩ := List.mem_map.mp hx
      rw [sqT.2 r hr]⟩
    refine st_sq (st_ifF (t_orF ((t_test (d_neI (d_len (d_var rfl) (.inr rfl)) (d_var rfl))).to (by rw [hlen]; rfl)) (t_orF (β1 := some ms) ((t_test (d_neLL (β1 := some ms) (ms := T1.map fun r => (r.length : Int)) (ns := List.replicate k (k : Int)) ?lens ?reps)).to (by rw [decide_eq_true hmap]; rfl)) ((t_test (d_neTT (β1 := some ms) (ms := Num.normalF p T1.flatten) (ns := T1.flatten) ?nor (d_tupleOf (d_var rfl)))).to (by rw [decide_eq_true hnor]; rfl)))) st_next) ?_
    case lens =>
      refine (d_lcT (ds := T1.map tupI) (rs := T1.map fun r => PyData.int (r.length : Int)) (d_var rfl) (lc_map tupI (fun r => PyData.int (r.length : Int)) T1 fun r hr => (d_len (d_var rfl) (.inr rfl)).to (by rw [List.length_map])) (by rw [List.length_map, sqT.1]; omega) (wipe_ok (by decide))).to (by rw [List.map_map]; rfl)
    case reps =>
      refine (d_repL (ds := [.int (k : Int)]) (k := (k : Int)) (d_lst (ds := [.int (k : Int)]) (a_con (β1 := some ms) (d_var rfl) a_nil) rfl (by show 1 ≤ 100000; decide)) (d_var rfl) (by omega) (by omega) (by rw [Int.toNat_natCast]; show 1 * k ≤ 100000; omega)).to ?_
      rw [Int.toNat_natCast, List.flatten_replicate_singleton, List.map_replicate]
    case nor =>
      refine d_call0 (a_con (d_var rfl) (a_con (d_var rfl) a_nil)) ⟨p, _, T1.flatten, rfl, ⟨.inl rfl, hp, by omega, fun x hx => ?_⟩, rfl, rfl, rfl⟩
      obtain ⟨r, hr, hx⟩ := List.mem_flatten.mp hx
      exact Nat.lt_of_le_of_lt (u.n.sz r hr x hx).1 (Nat.lt_of_lt_of_le (m := 2 ^ 10) (by decide) (Nat.pow_le_pow_right (by decide) (by decide)))
    have okX : ∀ c ∈ Det.acrossL k rows, c.length = k ∧ ∀ x ∈ c, x.natAbs ≤ 19 := fun c hc => by
      refine ⟨(Det.sq_across ok.sq).2 c hc, fun x hx => ?_⟩
      obtain ⟨j, hj, rfl⟩ := List.mem_map.mp hc
      obtain ⟨r', hr', rfl⟩ := List.mem_map.mp hx
      have hj := List.mem_range.mp hj
      have l' := ok.sq.2 r' hr'
      show (r'.getD j 0).natAbs ≤ 19
      rw [getD_ent (by omega)]
      exact sz r' hr' _ (List.getElem_mem _)
    have lX : (Det.acrossL k rows).length = k := (Det.sq_across ok.sq).1
    refine st_own (d := .list []) (by show 9 < 22; decide) (en_lst (ds := []) a_nil (by decide)) ?_
    refine sp_forT_keep (F := fun n ρ d => ∃ s t, ρ = [some .bag, some (.imm (.int p)), some (.imm (.int (k : Int))), some (.imm (.list (rows.map lstI))), some (.imm (.tuple (rows.map tupI))), some (.imm (.int val)), some (.imm (.tuple (T1.map tupI))), some (.imm (lstI T1.flatten)), s, none, t, none, none, none, none, none, none, none, none, none, none, none] ∧ d = .list ((T1.take n).map fun r => lstI ((Det.acrossL k rows).map fun c => Num.settled p (Num.dot r c)))) (by decide) (ew_plain fun q => d_var rfl) ⟨s1, none, rfl, by rw [List.take_zero]; rfl⟩ ?turn ?rest
    case turn =>
      rintro m x ρ d hx ⟨s, t, rfl, rfl⟩
      rw [List.getElem?_map] at hx
      obtain ⟨r, hr, rfl⟩ := Option.map_eq_some_iff.mp hx
      have hm : r ∈ T1 := List.mem_of_getElem? hr
      have lr := sqT.2 r hm
      refine ⟨_, _, .inl (sw_seq (β1 := some ms) (sw_asg (β1 := some ms) (x := .list ((Det.acrossL k rows).map lstI)) (by decide) (ew_plain fun q => ?across)) (sw_app (x := lstI ((Det.acrossL k rows).map fun c => Num.settled p (Num.dot r c))) ?new ?len)), some (.imm (tupI r)), some (.imm (.list ((Det.acrossL k rows).map lstI))), rfl, ?eq⟩
      case across =>
        refine (d_lcR1 (i := (k : Int)) (rs := (List.range k).map fun j => lstI (rows.map fun r => r.getD j 0)) (d_var rfl) ⟨by omega, by omega⟩ ?_ (by rw [List.length_map, List.length_range]; omega) (wipe_ok (by decide))).to (by show _ = PyData.list (((List.range k).map fun j => rows.map fun r => r.getD j 0).map lstI); rw [List.map_map]; rfl)
        show LcR K 12 _ _ ((List.range k).map fun (i : Nat) => PyData.int (0 + (i : Int))) _ _ _ _
        refine lc_map (fun (i : Nat) => PyData.int (0 + (i : Int))) (fun j => lstI (rows.map fun r => r.getD j 0)) (List.range k) fun j hj => ?_
        have hj := List.mem_range.mp hj
        refine (d_lcL (ds := rows.map lstI) (rs := rows.map fun r => PyData.int (r.getD j 0)) (d_var rfl) ?_ (by rw [List.length_map, ok.sq.1]; omega) (wipe_ok (by decide))).to (by show _ = PyData.list ((rows.map fun r => r.getD j 0).map PyData.int); rw [List.map_map]; rfl)
        refine lc_map lstI (fun r => PyData.int (r.getD j 0)) rows fun r hr => ?_
        have hl := ok.sq.2 r hr
        refine d_ixL (ds := r.map PyData.int) (i := (0 + (j : Int))) (d_var rfl) (d_var rfl) ?_
        rw [Int.zero_add]
        refine atI_nat ?_
        rw [List.getElem?_map, List.getElem?_eq_getElem (by omega), getD_ent (by omega)]
        rfl
      case new =>
        refine (d_lcL (ds := (Det.acrossL k rows).map lstI) (rs := (Det.acrossL k rows).map fun c => PyData.int (Num.settled p (Num.dot r c))) (d_var rfl) ?_ (by rw [List.length_map, lX]; omega) (wipe_ok (by decide))).to (by show _ = PyData.list (((Det.acrossL k rows).map fun c => Num.settled p (Num.dot r c)).map PyData.int); rw [List.map_map]; rfl)
        refine lc_map lstI (fun c => PyData.int (Num.settled p (Num.dot r c))) (Det.acrossL k rows) fun c hc => ?_
        obtain ⟨lc, sc⟩ := okX c hc
        refine c_f2 (x := p) (y := Num.dot r c) (d_var rfl) (d_sum (ns := (r.zip c).map fun q => q.1 * q.2) ((d_lcZM (xs := r.map PyData.int) (ys := c.map PyData.int) (rs := (r.zip c).map fun q => PyData.int (q.1 * q.2)) (d_var rfl) (d_var rfl) (by rw [List.length_map, List.length_map, lr, lc]) ?_ (by rw [List.length_map, List.length_zip]; omega) (show 13 ∈ [13, 14] by decide) (show 14 ∈ [13, 14] by decide)).to (by rw [List.map_map]; rfl))) hp.small.1
        rw [zip_ints]
        refine LcZ.ints (fun n m => .int (n * m)) fun n m hn hm' => ?_
        have h1 := (u.n.sz r hm n hn).1
        have h2 := sc m hm'
        exact d_mul (d_var rfl) (d_var rfl) (wide_mul (a := 10) (b := 10) (by omega) (by omega) (by decide) (by decide) (by decide))
      case len =>
        rw [List.length_map, List.length_take]
        have := sqT.1
        omega
      case eq =>
        have ht : T1.take (m + 1) = T1.take m ++ [r] := by
          rw [List.take_succ, hr]
          rfl
        rw [ht, List.map_append]
        rfl
    rintro _ _ ⟨x1, x2, rfl, rfl⟩
    refine sp_end ?_
    (rw [List.length_map, List.take_length])
    have ep : (T1.map fun r => lstI ((Det.acrossL k rows).map fun c => Num.settled p (Num.dot r c))) = (((List.range k).map fun (i : Nat) => (List.range k).map fun (j : Nat) => if j = i then z else 0).map lstI) := by
      rw [← u.n.prod, List.map_map]
      rfl
    rw [ep]
    have r0 : (List.range k)[0]? = some 0 := by
      rw [List.getElem?_range (by omega)]
    refine st_sq (st_asg (d := .int z) (d_ixL (d_ixL (i := 0) (d := lstI ((List.range k).map fun (j : Nat) => if j = 0 then z else 0)) (d_var rfl) d_int ?ix1) (i := 0) d_int ?ix2)) ?_
    case ix1 =>
      refine atI_nat (j := 0) ?_
      rw [List.getElem?_map, List.getElem?_map, r0]
      rfl
    case ix2 =>
      refine atI_nat (j := 0) ?_
      rw [List.getElem?_map, List.getElem?_map, r0]
      rfl
    refine st_sq (st_ifF (t_orF ((t_test (d_eqI (d_var rfl) d_int)).to (decide_eq_false u.n.ne)) (t_test (d_neRows (d_var rfl) ?diag))) st_next) ?_
    case diag =>
      refine (d_lcR1 (i := (k : Int)) (rs := (List.range k).map fun (i : Nat) => lstI ((List.range k).map fun (j : Nat) => if j = i then z else 0)) (d_var rfl) ⟨by omega, by omega⟩ ?_ (by rw [List.length_map, List.length_range]; omega) (wipe_ok (by decide))).to (prods_eq k z)
      show LcR K 17 _ _ ((List.range k).map fun (i : Nat) => PyData.int (0 + (i : Int))) _ _ _ _
      refine lc_map (fun (i : Nat) => PyData.int (0 + (i : Int))) (fun (i : Nat) => lstI ((List.range k).map fun (j : Nat) => if j = i then z else 0)) (List.range k) fun i hi => ?_
      refine (d_lcR1 (i := (k : Int)) (rs := (List.range k).map fun (j : Nat) => PyData.int (if j = i then z else 0)) (d_var rfl) ⟨by omega, by omega⟩ ?_ (by rw [List.length_map, List.length_range]; omega) (wipe_ok (by decide))).to (by show _ = PyData.list (((List.range k).map fun (j : Nat) => if j = i then z else 0).map PyData.int); rw [List.map_map]; rfl)
      show LcR K 12 _ _ ((List.range k).map fun (j : Nat) => PyData.int (0 + (j : Int))) _ _ _ _
      refine lc_map (fun (j : Nat) => PyData.int (0 + (j : Int))) (fun (j : Nat) => PyData.int (if j = i then z else 0)) (List.range k) fun j hj => ?_
      refine d_if (p := decide (0 + (j : Int) = 0 + (i : Int))) (t_test (d_eqI (d_var rfl) (d_var rfl))) (fun h => ?_) fun h => ?_
      · have h := of_decide_eq_true h
        rw [if_pos (by omega)]
        exact d_var rfl
      · have h := of_decide_eq_false h
        rw [if_neg (by omega)]
        exact d_int
    have zb : z.natAbs < 2 ^ 30 := by
      have m1 : ((List.range k).map fun (j : Nat) => if j = 0 then z else 0) ∈ ((List.range k).map fun (i : Nat) => (List.range k).map fun (j : Nat) => if j = i then z else 0) := List.mem_map.mpr ⟨0, List.mem_range.mpr (by omega), rfl⟩
      rw [← u.n.prod] at m1
      obtain ⟨r, hr, e1⟩ := List.mem_map.mp m1
      have m2 : z ∈ ((List.range k).map fun (j : Nat) => if j = 0 then z else 0) := List.mem_map.mpr ⟨0, List.mem_range.mpr (by omega), rfl⟩
      rw [← e1] at m2
      obtain ⟨c, hc, e3⟩ := List.mem_map.mp m2
      have h1 := dot_le (m := 1000) (n := 19) (fun t ht => (u.n.sz r hr t ht).1) (okX c hc).2
      have h2 : (Num.dot r c).natAbs < 2 ^ 20 := by
        rw [sqT.2 r hr] at h1
        have : k * (1000 * 19) ≤ 6 * (1000 * 19) := Nat.mul_le_mul_right _ k6
        omega
      rw [← e3]
      exact Nat.lt_of_lt_of_le (Num.settled_sz hp h2 (by decide)) (Nat.pow_le_pow_right (by decide) (by decide))
    obtain ⟨m0, hm0⟩ := hbs
    have vl := Num.draws_len (Num.numberF p 5) k ms
    have va := Num.draws_all (f := Num.numberF p 5) (P := fun x => x.natAbs ≤ 19 ∧ (p ≠ 0 → 0 ≤ x ∧ x < p)) (fun ns => by
      obtain ⟨q1, q2, q3, q4⟩ := Num.number_rng (p := p) (s := 5) hp (by decide) ns
      exact ⟨by omega, q3⟩) k ms
    refine st_seq (β1 := some (Num.drawsF (Num.numberF p 5) k ms).2) (st_asg (d := tupI (Num.drawsF (Num.numberF p 5) k ms).1) (d_tupleOf ?vec)) ?_
    case vec =>
      have q2 := LcR.draws (K := K) (ρ := wipeR [some .bag, some (.imm (.int p)), some (.imm (.int (k : Int))), some (.imm (.list (rows.map lstI))), some (.imm (.tuple (rows.map tupI))), some (.imm (.int val)), some (.imm (.tuple (T1.map tupI))), some (.imm (lstI T1.flatten)), x1, some (.imm (.list (((List.range k).map fun (i : Nat) => (List.range k).map fun (j : Nat) => if j = i then z else 0).map lstI))), x2, none, none, none, none, none, some (.imm (.int z)), none, none, none, none, none] [12]) (j := 12) (te := tCall (spR K R_law_number) [] E0 (tCons (tVar 0) (tCons (tVar 1) (tCons (tC (.int 5)) tNil)))) (Num.numberF p 5) (fun e n' ns' h => c_fD (x := (p, (5 : Int))) (a_bg rfl (a_con (d_var rfl) (a_con d_int a_nil))) ⟨hp, by show (0 : Int) ≤ 5; decide, by show (5 : Int) ≤ 2 ^ 40; decide⟩ h) (fun h => Num.number_bag hp (by decide) h) (rng 0 k) hm0
      rw [rng_length] at q2
      exact d_lcR1 (i := (k : Int)) (d_var rfl) ⟨by omega, by omega⟩ q2 (by rw [List.length_map, Num.draws_len]; omega) (wipe_ok (by decide))
    generalize (Num.drawsF (Num.numberF p 5) k ms).1 = v at *
    generalize (Num.drawsF (Num.numberF p 5) k ms).2 = ks at *
    have vok : VecOk p k v := ⟨vl, fun x hx => ⟨Nat.le_trans (va x hx).1 (by decide), (va x hx).2⟩⟩
    have wok : VecOk p k (sentL p rows v) := ⟨by rw [List.length_map, ok.sq.1], fun x hx => by
      obtain ⟨r, hr, rfl⟩ := List.mem_map.mp hx
      have h1 := dot_le (m := 19) (n := 19) (sz r hr) fun t ht => (va t ht).1
      have h2 : (Num.dot r v).natAbs < 2 ^ 20 := by
        rw [ok.sq.2 r hr] at h1
        have : k * (19 * 19) ≤ 6 * (19 * 19) := Nat.mul_le_mul_right _ k6
        omega
      exact ⟨Nat.le_trans (Nat.le_of_lt (Num.settled_sz hp h2 (by decide))) (Nat.pow_le_pow_right (by decide) (by decide)), fun h0 => Num.settled_rng hp h0⟩⟩
    have es := u.n.sent v vl
    refine st_sq (st_ifF ((t_test (d_neTT (ms := sentL p T1 (sentL p rows v)) (ns := v.map fun n => Num.settled p (z * n)) (c_sent (d_var rfl) (d_var rfl) (c_sent (d_var rfl) (d_var rfl) (d_var rfl) ok vok) okT wok) (d_tupleOf ?due))).to (by rw [decide_eq_true es]; rfl)) st_next) ?_
    case due =>
      refine (d_lcT (ds := v.map PyData.int) (rs := v.map fun n => PyData.int (Num.settled p (z * n))) (d_var rfl) ?_ (by rw [List.length_map]; omega) (wipe_ok (by decide))).to (by rw [List.map_map]; rfl)
      refine lc_ints' (fun n => .int (Num.settled p (z * n))) fun n hn => ?_
      refine c_f2 (x := p) (y := z * n) (d_var rfl) (d_mul (d_var rfl) (d_var rfl) (wide_mul (a := 30) (b := 10) zb (Nat.lt_of_le_of_lt (va n hn).1 (by decide)) (by decide) (by decide) (by decide))) hp.small.1
    refine st_sq (st_asg (d := lstI []) (d_lst (ds := []) a_nil rfl (by decide))) ?_
    obtain ⟨s3, l3⟩ := for_cat (K := K) (β := some ks) (j := 8) (g := lstI) (F := fun s ns => [some .bag, some (.imm (.int p)), some (.imm (.int (k : Int))), some (.imm (.list (rows.map lstI))), some (.imm (.tuple (rows.map tupI))), some (.imm (.int val)), some (.imm (.tuple (T1.map tupI))), some (.imm (lstI T1.flatten)), s, some (.imm (.list (((List.range k).map fun (i : Nat) => (List.range k).map fun (j : Nat) => if j = i then z else 0).map lstI))), x2, none, none, none, none, none, some (.imm (.int z)), none, some (.imm (tupI v)), none, some (.imm (lstI ns)), none]) (tu := tAsg (tOp rCat (tVar 20) (tVar 8)) (gName 20)) (fun _ _ _ => rfl) (fun r ns h => st_asg (d := lstI (ns ++ r)) ((d_cat (ds := ns.map PyData.int) (es := r.map PyData.int) (d_var rfl) (d_var rfl) (by rw [List.length_map, List.length_map]; omega)).to (by show _ = PyData.list ((ns ++ r).map PyData.int); rw [List.map_append]))) rows x1 [] (by rw [List.length_nil]; omega)
    refine st_sq (st_forL (d_var rfl) l3) ?_
    rw [List.nil_append]
    refine st_sq (st_asg (d := lstI []) (d_lst (ds := []) a_nil rfl (by decide))) ?_
    obtain ⟨s4, l4⟩ := for_cat (K := K) (β := some ks) (j := 8) (g := tupI) (F := fun s ns => [some .bag, some (.imm (.int p)), some (.imm (.int (k : Int))), some (.imm (.list (rows.map lstI))), some (.imm (.tuple (rows.map tupI))), some (.imm (.int val)), some (.imm (.tuple (T1.map tupI))), some (.imm (lstI T1.flatten)), s, some (.imm (.list (((List.range k).map fun (i : Nat) => (List.range k).map fun (j : Nat) => if j = i then z else 0).map lstI))), x2, none, none, none, none, none, some (.imm (.int z)), none, some (.imm (tupI v)), none, some (.imm (lstI rows.flatten)), some (.imm (lstI ns))]) (tu := tAsg (tOp rCat (tVar 21) (tCB (rListOf K) (tCons (tVar 8) tNil))) (gName 21)) (fun _ _ _ => rfl) (fun r ns h => st_asg (d := lstI (ns ++ r)) ((d_cat (ds := ns.map PyData.int) (es := r.map PyData.int) (d_var rfl) (d_listOf (d_var rfl) (.inr rfl)) (by rw [List.length_map, List.length_map]; omega)).to (by show _ = PyData.list ((ns ++ r).map PyData.int); rw [List.map_append]))) T2 s3 [] (by rw [List.length_nil]; omega)
    refine st_sq (st_forT (c_und (d_var rfl) (d_var rfl) okT (by omega) (by omega) u.ne2 u.mk2 u.cut2) l4) ?_
    rw [List.nil_append]
    refine st_ret ((d_eqTT (ms := T2.flatten) (ns := Num.normalF p rows.flatten) (d_tupleOf (d_var rfl)) (d_call0 (a_con (d_var rfl) (a_con (d_var rfl) a_nil)) ⟨p, _, rows.flatten, rfl, ⟨.inl rfl, hp, by omega, fun x hx => ?_⟩, rfl, rfl, rfl⟩)).to (congrArg PyData.bool (decide_eq_true u.again)))
    obtain ⟨r, hr, hx⟩ := List.mem_flatten.mp hx
    exact Nat.lt_of_le_of_lt (sz r hr x hx) (Nat.lt_of_lt_of_le (m := 2 ^ 10) (by decide) (Nat.pow_le_pow_right (by decide) (by decide)))

end K03
/-! ## K03r -/
set_option Elab.async false
set_option linter.all false
set_option maxRecDepth 100000
set_option maxHeartbeats 1100000
namespace K03
open PySem L2 TD PySem.Spec PyProof.Rows
variable [TabW]

theorem flat_strs : ∀ ss : List Str, flatL (ss.map .str) = true
  | [] => rfl
  | s :: ss => by
    show (flatD (.str s) && flatL (ss.map .str)) = true
    rw [flat_strs ss]
    rfl
theorem lay_strs : ∀ ss : List Str, (∀ s ∈ ss, PyData.canLay0 (.str s) = true) → PyData.canLayAll0 (ss.map .str) = true
  | [], _ => rfl
  | s :: ss, h => by
    show (PyData.canLay0 (.str s) && PyData.canLayAll0 (ss.map .str)) = true
    rw [lay_strs ss fun t ht => h t (List.mem_cons_of_mem _ ht), h s (List.mem_cons_self ..)]
    rfl
theorem depth_strs : ∀ ss : List Str, PyData.depthAll (ss.map .str) = 0
  | [] => rfl
  | s :: ss => by
    show max (PyData.depth (.str s)) (PyData.depthAll (ss.map .str)) = 0
    rw [depth_strs ss]
    rfl
theorem shaped_strs {ss : List Str} (h : ∀ s ∈ ss, PyData.canLay0 (.str s) = true) : SeqAt.shaped (.list (ss.map .str)) = true := by
  show (PyData.canLayAll0 (ss.map .str) && decide (PyData.depthAll (ss.map .str) + 1 ≤ 64)) = true
  rw [lay_strs ss h, depth_strs]
  rfl
theorem eqv_strs : ∀ ss : List Str, PyData.eqvAll (ss.map .str) (ss.map .str) = true
  | [] => rfl
  | s :: ss => by
    show (PyData.eqv (.str s) (.str s) && PyData.eqvAll (ss.map .str) (ss.map .str)) = true
    rw [eqv_strs ss]
    have e : PyData.eqv (.str s) (.str s) = decide (s = s) := rfl
    rw [e, decide_eq_true rfl]
    rfl
theorem d_eqStrs {K : PySem.W.Frag} {ρ : Rho} {β β1 β2 : Bag} {ta tb : TE} {ss : List Str} (h : ∀ s ∈ ss, PyData.canLay0 (.str s) = true) (ha : EvB K ta ρ β (.list (ss.map .str)) β1) (hb : EvB K tb ρ β1 (.list (ss.map .str)) β2) : EvB K (tOp (rEqD K) ta tb) ρ β (.bool true) β2 :=
  (d_eqD ha hb (flat_strs ss) (flat_strs ss) (shaped_strs h) (shaped_strs h)).to (congrArg PyData.bool (eqv_strs ss))
theorem d_neStrs {K : PySem.W.Frag} {ρ : Rho} {β β1 β2 : Bag} {ta tb : TE} {ss : List Str} (h : ∀ s ∈ ss, PyData.canLay0 (.str s) = true) (ha : EvB K ta ρ β (.list (ss.map .str)) β1) (hb : EvB K tb ρ β1 (.list (ss.map .str)) β2) : EvB K (tOp (rNeD K) ta tb) ρ β (.bool false) β2 :=
  (d_neD ha hb (flat_strs ss) (flat_strs ss) (shaped_strs h) (shaped_strs h)).to (by
    show PyData.bool (!PyData.eqvAll (ss.map .str) (ss.map .str)) = _
    rw [eqv_strs]
    rfl)
theorem getD_mem {xs : List Dt} (hx : xs ≠ []) (ns : List Int) : xs.getD (Num.grabF (xs.length : Int) ns).1.toNat .none ∈ xs := by
  have hp : 0 < xs.length := List.length_pos_iff.mpr hx
  have hg := Num.grab_rng (t := (xs.length : Int)) (by omega) ns
  have hlt : (Num.grabF (xs.length : Int) ns).1.toNat < xs.length := by omega
  rw [List.getD_eq_getElem?_getD, List.getElem?_eq_getElem hlt]
  exact List.getElem_mem hlt
abbrev nxD (xs : List Dt) (ns : List Int) : List Int := (Num.grabF (xs.length : Int) ns).2
abbrev pkD (xs : List Dt) (ns : List Int) : Dt := xs.getD (Num.grabF (xs.length : Int) ns).1.toNat .none
abbrev badL : List Dt := [.int 4, .int 23, .none, .bool true, .str "0", .int (-2), .tuple [.int 0], .int 1]
abbrev tabL : List Dt := [.none, .tuple [], .tuple [.tuple []], .list [.list [.int 1]], .tuple [.tuple [.int 1], .tuple [.int 1, .int 2]], .tuple [.tuple [.bool true]], .tuple [.tuple [.str "1"]], .tuple [.tuple [.int 1], .list [.int 1]], .tuple [.tuple [.int (10 ^ (60 : Int).toNat)]], .int 1, .str "1", .dict []]
abbrev farL : List Dt := [.none, .tuple [], .tuple [.int 1], .list [.int 1, .int 1], .tuple [.int 1, .int 1, .int 1], .tuple [.int 1, .none], .tuple [.bool true, .int 1], .int 5, .tuple [.int (10 ^ (60 : Int).toNat), .int 1]]
def errBag (ns : List Int) : List Int := nxD farL (nxD tabL (nxD badL ns))
theorem err_bag {ns : List Int} (h : ∃ n, Num.BagI n ns) : ∃ n, Num.BagI n (errBag ns) := Num.grabB (by decide) (Num.grabB (by decide) (Num.grabB (by decide) h))
theorem bad_ok : ∀ d ∈ badL, (!Num.isPrime d && tellB d) = true := by decide +kernel
theorem tab_no : ∀ p ∈ (0 :: Num.primes : List Int), ∀ t ∈ tabL, Num.isTable p t = false := by decide +kernel
theorem far_no : ∀ p ∈ (0 :: Num.primes : List Int), ∀ t ∈ farL, Num.allFit p 2 t = false := by decide +kernel
theorem one_fit {p : Int} (hp : Num.PrimeI p) : (1 : Int).natAbs ≤ 2 ^ 100 ∧ (p ≠ 0 → 0 ≤ (1 : Int) ∧ (1 : Int) < p) := ⟨by decide, fun h => by
  have := Num.prime_pos hp h
  omega⟩
abbrev onesT (k : Nat) : List (List Int) := List.replicate k (List.replicate k 1)
theorem ones_ok {p : Int} (hp : Num.PrimeI p) {k : Nat} (h1 : 1 ≤ k) (h6 : k ≤ 6) : RowsOk p k (onesT k) := ⟨hp, h1, h6, ⟨by rw [List.length_replicate], fun r hr => by rw [List.eq_of_mem_replicate hr, List.length_replicate]⟩, fun r hr x hx => by
  rw [List.eq_of_mem_replicate hr] at hx
  rw [List.eq_of_mem_replicate hx]
  exact one_fit hp⟩
section
variable {K : PySem.W.Frag} {ρ : Rho} {β : Bag} {te : TE}
theorem d_ones {x a : Int} {n : Nat} (h1 : 2 ≤ a) (h2 : a ≤ 1000) (e : a.toNat = n) : EvB K (tOp (rRepT K) (tTup (tCons (tC (.int x)) tNil)) (tC (.int a))) ρ β (tupI (List.replicate n x)) β :=
  (d_repT (ds := [.int x]) (k := a) (d_tup (ds := [.int x]) (a_con (β1 := β) d_int a_nil) rfl (by show 1 ≤ 100000; decide)) d_int (by simp) h1 h2 (by show 1 ≤ 1000; decide)).to (by rw [List.flatten_replicate_singleton, e]; show _ = PyData.tuple ((List.replicate n x).map PyData.int); rw [List.map_replicate])
theorem d_onesT {d : Dt} {a : Int} {n : Nat} (h : EvB K te ρ β d β) (h1 : 2 ≤ a) (h2 : a ≤ 1000) (e : a.toNat = n) : EvB K (tOp (rRepT K) (tTup (tCons te tNil)) (tC (.int a))) ρ β (.tuple (List.replicate n d)) β :=
  (d_repT (ds := [d]) (k := a) (d_tup (ds := [d]) (a_con (β1 := β) h a_nil) rfl (by show 1 ≤ 100000; decide)) d_int (by simp) h1 h2 (by show 1 ≤ 1000; decide)).to (by rw [List.flatten_replicate_singleton, e])
theorem d_tup1 {d : Dt} (h : EvB K te ρ β d β) : EvB K (tTup (tCons te tNil)) ρ β (.tuple [d]) β := d_tup (ds := [d]) (a_con (β1 := β) h a_nil) rfl (by show 1 ≤ 100000; decide)
theorem d_onesS {a : Int} {n : Nat} (h1 : 2 ≤ a) (h2 : a ≤ 1000) (e : a.toNat = n) : EvB K (tOp (rRepT K) (tTup (tCons (tOp (rRepT K) (tTup (tCons (tC (.int 1)) tNil)) (tC (.int a))) tNil)) (tC (.int a))) ρ β (.tuple ((onesT n).map tupI)) β := by
  have q := d_onesT (K := K) (ρ := ρ) (β := β) (d_ones (x := 1) h1 h2 e) h1 h2 e
  unfold onesT
  rw [List.map_replicate]
  exact q
end
theorem ones_sq {p n m : Int} {k : Nat} (h : Num.sqB n m (.tuple ((onesT k).map tupI)) = false) : (Num.isTable p (.tuple ((onesT k).map tupI)) && Num.sqB n m (.tuple ((onesT k).map tupI))) = false := by rw [h, Bool.and_false]
abbrev tolds1 (w : Str) : List Str := [w, w, w, w, w, w, w]
abbrev tolds2 : List Str := ["table", "table", "table", "table", "table", "table", "table", "table", "table", "table", "table", "operation", flatT]
abbrev tolds3 : List Str := ["fine", "table", "table", "fine", "fine"]


abbrev s_law_errors_right : Stmt := top 61
theorem sc_law_errors_right : FnScope ["_law_bag_here", "_law_prime", "_law_bad", "_law_table", "_law_flat", "_law_far", "_law_told"] ["_law_bag_here", "_law_prime"] (defScope s_law_errors_right) := ⟨rfl, rfl, rfl, by decide +kernel, rfl, by decide +kernel, by decide +kernel⟩
abbrev R_law_errors_right : FR := fD (fun p : Int => [.imm (.int p)]) Num.PrimeI fun p ns => (.bool true, errBag ns)
theorem ok_law_errors_right {P : Program} {w : World} {K : PySem.W.Frag} {mg : Str → Option Value} {base : Heap} {Y : Cn} (F : DefAtC K "_law_errors_right" s_law_errors_right Y.c2) (hX : K.In base) (hG : base.Ns mainGlobals mg) (T : Txt K mg Y) (WA : WordAt K mg "_law_word" s_law_word) (TB : TbAt base mg Y Y.c2 q2) (G_law_one_of : FnG P w K mg base 2 "_law_one_of" ["_law_bag_here", "_law_items"] R_law_one_of) (G_rank : FnX P w K mg base 6 "rank" ["prime", "table"] (R_rank Y)) (G_echelon : FnX P w K mg base 6 "echelon" ["prime", "table"] (R_echelon Y)) (G_is_mix : FnX P w K mg base 6 "is_mix" ["prime", "table", "value"] (R_is_mix Y)) (G_kernel : FnX P w K mg base 6 "kernel" ["prime", "table"] (R_kernel Y)) (G_sent : FnX P w K mg base 6 "sent" ["prime", "table", "numbers"] (R_sent Y)) (G_determinant : FnX P w K mg base 9 "determinant" ["prime", "table"] (R_determinant Y)) (G_undone : FnX P w K mg base 9 "undone" ["prime", "table"] (R_undone Y)) : FnH P w K mg base 12 "_law_errors_right" ["_law_bag_here", "_law_prime"] R_law_errors_right := by
  have nd := sc_law_errors_right.nd
  refine fnC_mk F hX hG sc_law_errors_right (fun as β r β' h => by first | exact FR.len h | (obtain ⟨_, rfl, _⟩ := h; rfl) | (obtain ⟨_, _, rfl, _⟩ := h; rfl) | (obtain ⟨_, _, _, rfl, _⟩ := h; rfl) | (obtain ⟨_, _, _, _, rfl, _⟩ := h; rfl) | (obtain ⟨_, _, _, _, _, rfl, _⟩ := h; rfl)) (fun _ _ _ _ _ _ _ us hl => match us, hl with | [_, _], _ => rfl) (fun f A outer s H E hr => ⟨_, (pss_cons (ps_set (i := 2) nd rfl (Or.inr rfl) (pe_fn G_law_one_of (hr.toRoom.mono (by decide)) (pa_cons (pv 0) (pa_cons (pe_lst (pa_cons pe_int (pa_cons pe_int (pa_cons pe_non (pa_cons pe_bl (pa_cons pe_str (pa_cons (pe_un un_neg pe_int) (pa_cons (pe_tup (pa_cons pe_int pa_nil)) (pa_cons pe_int pa_nil))))))))) pa_nil)))) (pss_cons (ps_set (i := 3) nd rfl (Or.inr rfl) (pe_fn G_law_one_of (hr.toRoom.mono (by decide)) (pa_cons (pv 0) (pa_cons (pe_lst (pa_cons pe_non (pa_cons (pe_tup pa_nil) (pa_cons (pe_tup (pa_cons (pe_tup pa_nil) pa_nil)) (pa_cons (pe_lst (pa_cons (pe_lst (pa_cons pe_int pa_nil)) pa_nil)) (pa_cons (pe_tup (pa_cons (pe_tup (pa_cons pe_int pa_nil)) (pa_cons (pe_tup (pa_cons pe_int (pa_cons pe_int pa_nil))) pa_nil))) (pa_cons (pe_tup (pa_cons (pe_tup (pa_cons pe_bl pa_nil)) pa_nil)) (pa_cons (pe_tup (pa_cons (pe_tup (pa_cons pe_str pa_nil)) pa_nil)) (pa_cons (pe_tup (pa_cons (pe_tup (pa_cons pe_int pa_nil)) (pa_cons (pe_lst (pa_cons pe_int pa_nil)) pa_nil))) (pa_cons (pe_tup (pa_cons (pe_tup (pa_cons (pe_op op_powW pe_int pe_int) pa_nil)) pa_nil)) (pa_cons pe_int (pa_cons pe_str (pa_cons pe_dnewK pa_nil))))))))))))) pa_nil)))) (pss_cons (ps_set (i := 4) nd rfl (Or.inr rfl) (pe_tup (pa_cons (pe_tup (pa_cons pe_int (pa_cons pe_int pa_nil))) (pa_cons (pe_tup (pa_cons pe_int (pa_cons pe_int pa_nil))) pa_nil)))) (pss_cons (ps_set (i := 5) nd rfl (Or.inr rfl) (pe_fn G_law_one_of (hr.toRoom.mono (by decide)) (pa_cons (pv 0) (pa_cons (pe_lst (pa_cons pe_non (pa_cons (pe_tup pa_nil) (pa_cons (pe_tup (pa_cons pe_int pa_nil)) (pa_cons (pe_lst (pa_cons pe_int (pa_cons pe_int pa_nil))) (pa_cons (pe_tup (pa_cons pe_int (pa_cons pe_int (pa_cons pe_int pa_nil)))) (pa_cons (pe_tup (pa_cons pe_int (pa_cons pe_non pa_nil))) (pa_cons (pe_tup (pa_cons pe_bl (pa_cons pe_int pa_nil))) (pa_cons pe_int (pa_cons (pe_tup (pa_cons (pe_op op_powW pe_int pe_int) (pa_cons pe_int pa_nil))) pa_nil)))))))))) pa_nil)))) (pss_cons (ps_set (i := 6) nd rfl (Or.inl rfl) (pe_lst (pa_cons (pe_tell (k := 6) (sc := defScope s_law_errors_right) (hr.mono (by decide)) WA TB T (by decide +kernel) (fun _ _ _ _ _ => rfl) (fun A outer s H E f c' hr2 => by exact (pe_fnL G_rank (hr2.mono (by decide)) (pa_cons (pv 2) (pa_cons (pv 3) pa_nil))))) pa_nil))) (pss_cons (ps_expr (pe_castBM (K := K) (pe_bm PySem.F.plainAttrs_list PySem.F.slot_list_append PySem.F.type_list_append mt_append (pv 6) (pa_cons (pe_tell (k := 6) (sc := defScope s_law_errors_right) (hr.mono (by decide)) WA TB T (by decide +kernel) (fun _ _ _ _ _ => rfl) (fun A outer s H E f c' hr2 => by exact (pe_fnL G_echelon (hr2.mono (by decide)) (pa_cons (pv 2) (pa_cons (pv 3) pa_nil))))) pa_nil)))) (pss_cons (ps_expr (pe_castBM (K := K) (pe_bm PySem.F.plainAttrs_list PySem.F.slot_list_append PySem.F.type_list_append mt_append (pv 6) (pa_cons (pe_tell (k := 6) (sc := defScope s_law_errors_right) (hr.mono (by decide)) WA TB T (by decide +kernel) (fun _ _ _ _ _ => rfl) (fun A outer s H E f c' hr2 => by exact (pe_fnL G_is_mix (hr2.mono (by decide)) (pa_cons (pv 2) (pa_cons (pv 3) (pa_cons pe_non pa_nil)))))) pa_nil)))) (pss_cons (ps_expr (pe_castBM (K := K) (pe_bm PySem.F.plainAttrs_list PySem.F.slot_list_append PySem.F.type_list_append mt_append (pv 6) (pa_cons (pe_tell (k := 6) (sc := defScope s_law_errors_right) (hr.mono (by decide)) WA TB T (by decide +kernel) (fun _ _ _ _ _ => rfl) (fun A outer s H E f c' hr2 => by exact (pe_fnL G_kernel (hr2.mono (by decide)) (pa_cons (pv 2) (pa_cons (pv 3) pa_nil))))) pa_nil)))) (pss_cons (ps_expr (pe_castBM (K := K) (pe_bm PySem.F.plainAttrs_list PySem.F.slot_list_append PySem.F.type_list_append mt_append (pv 6) (pa_cons (pe_tell (k := 6) (sc := defScope s_law_errors_right) (hr.mono (by decide)) WA TB T (by decide +kernel) (fun _ _ _ _ _ => rfl) (fun A outer s H E f c' hr2 => by exact (pe_fnL G_sent (hr2.mono (by decide)) (pa_cons (pv 2) (pa_cons (pv 3) (pa_cons (pv 5) pa_nil)))))) pa_nil)))) (pss_cons (ps_expr (pe_castBM (K := K) (pe_bm PySem.F.plainAttrs_list PySem.F.slot_list_append PySem.F.type_list_append mt_append (pv 6) (pa_cons (pe_tell (k := 9) (sc := defScope s_law_errors_right) (hr.mono (by decide)) WA TB T (by decide +kernel) (fun _ _ _ _ _ => rfl) (fun A outer s H E f c' hr2 => by exact (pe_fnL G_determinant (hr2.mono (by decide)) (pa_cons (pv 2) (pa_cons (pv 3) pa_nil))))) pa_nil)))) (pss_cons (ps_expr (pe_castBM (K := K) (pe_bm PySem.F.plainAttrs_list PySem.F.slot_list_append PySem.F.type_list_append mt_append (pv 6) (pa_cons (pe_tell (k := 9) (sc := defScope s_law_errors_right) (hr.mono (by decide)) WA TB T (by decide +kernel) (fun _ _ _ _ _ => rfl) (fun A outer s H E f c' hr2 => by exact (pe_fnL G_undone (hr2.mono (by decide)) (pa_cons (pv 2) (pa_cons (pv 3) pa_nil))))) pa_nil)))) (pss_cons (ps_if (pt_cmpR (op_neD hr.units) (pv 6) (pe_op op_rep (pe_lst (pa_cons (pe_op op_add_str pe_str (pe_callB (call_rep (K := K) hr.gd hr.units) (by rfl) T.z_repr bo_repr (pa_cons (pv 2) pa_nil))) pa_nil)) pe_int) (nomark _)) (pss_one (ps_ret pe_bl)) pss_nil) (pss_cons (ps_set (i := 6) nd rfl (Or.inl rfl) (pe_lst (pa_cons (pe_tell (k := 6) (sc := defScope s_law_errors_right) (hr.mono (by decide)) WA TB T (by decide +kernel) (fun _ _ _ _ _ => rfl) (fun A outer s H E f c' hr2 => by exact (pe_fnL G_rank (hr2.mono (by decide)) (pa_cons (pv 1) (pa_cons (pv 3) pa_nil))))) pa_nil))) (pss_cons (ps_expr (pe_castBM (K := K) (pe_bm PySem.F.plainAttrs_list PySem.F.slot_list_append PySem.F.type_list_append mt_append (pv 6) (pa_cons (pe_tell (k := 6) (sc := defScope s_law_errors_right) (hr.mono (by decide)) WA TB T (by decide +kernel) (fun _ _ _ _ _ => rfl) (fun A outer s H E f c' hr2 => by exact (pe_fnL G_echelon (hr2.mono (by decide)) (pa_cons (pv 1) (pa_cons (pv 3) pa_nil))))) pa_nil)))) (pss_cons (ps_expr (pe_castBM (K := K) (pe_bm PySem.F.plainAttrs_list PySem.F.slot_list_append PySem.F.type_list_append mt_append (pv 6) (pa_cons (pe_tell (k := 6) (sc := defScope s_law_errors_right) (hr.mono (by decide)) WA TB T (by decide +kernel) (fun _ _ _ _ _ => rfl) (fun A outer s H E f c' hr2 => by exact (pe_fnL G_is_mix (hr2.mono (by decide)) (pa_cons (pv 1) (pa_cons (pv 3) (pa_cons pe_non pa_nil)))))) pa_nil)))) (pss_cons (ps_expr (pe_castBM (K := K) (pe_bm PySem.F.plainAttrs_list PySem.F.slot_list_append PySem.F.type_list_append mt_append (pv 6) (pa_cons (pe_tell (k := 6) (sc := defScope s_law_errors_right) (hr.mono (by decide)) WA TB T (by decide +kernel) (fun _ _ _ _ _ => rfl) (fun A outer s H E f c' hr2 => by exact (pe_fnL G_kernel (hr2.mono (by decide)) (pa_cons (pv 1) (pa_cons (pv 3) pa_nil))))) pa_nil)))) (pss_cons (ps_expr (pe_castBM (K := K) (pe_bm PySem.F.plainAttrs_list PySem.F.slot_list_append PySem.F.type_list_append mt_append (pv 6) (pa_cons (pe_tell (k := 6) (sc := defScope s_law_errors_right) (hr.mono (by decide)) WA TB T (by decide +kernel) (fun _ _ _ _ _ => rfl) (fun A outer s H E f c' hr2 => by exact (pe_fnL G_sent (hr2.mono (by decide)) (pa_cons (pv 1) (pa_cons (pv 3) (pa_cons (pv 5) pa_nil)))))) pa_nil)))) (pss_cons (ps_expr (pe_castBM (K := K) (pe_bm PySem.F.plainAttrs_list PySem.F.slot_list_append PySem.F.type_list_append mt_append (pv 6) (pa_cons (pe_tell (k := 9) (sc := defScope s_law_errors_right) (hr.mono (by decide)) WA TB T (by decide +kernel) (fun _ _ _ _ _ => rfl) (fun A outer s H E f c' hr2 => by exact (pe_fnL G_determinant (hr2.mono (by decide)) (pa_cons (pv 1) (pa_cons (pv 3) pa_nil))))) pa_nil)))) (pss_cons (ps_expr (pe_castBM (K := K) (pe_bm PySem.F.plainAttrs_list PySem.F.slot_list_append PySem.F.type_list_append mt_append (pv 6) (pa_cons (pe_tell (k := 9) (sc := defScope s_law_errors_right) (hr.mono (by decide)) WA TB T (by decide +kernel) (fun _ _ _ _ _ => rfl) (fun A outer s H E f c' hr2 => by exact (pe_fnL G_undone (hr2.mono (by decide)) (pa_cons (pv 1) (pa_cons (pv 3) pa_nil))))) pa_nil)))) (pss_cons (ps_expr (pe_castBM (K := K) (pe_bm PySem.F.plainAttrs_list PySem.F.slot_list_append PySem.F.type_list_append mt_append (pv 6) (pa_cons (pe_tell (k := 9) (sc := defScope s_law_errors_right) (hr.mono (by decide)) WA TB T (by decide +kernel) (fun _ _ _ _ _ => rfl) (fun A outer s H E f c' hr2 => by exact (pe_fnL G_determinant (hr2.mono (by decide)) (pa_cons (pv 1) (pa_cons (pe_tup (pa_cons (pe_tup (pa_cons pe_int (pa_cons pe_int pa_nil))) pa_nil)) pa_nil))))) pa_nil)))) (pss_cons (ps_expr (pe_castBM (K := K) (pe_bm PySem.F.plainAttrs_list PySem.F.slot_list_append PySem.F.type_list_append mt_append (pv 6) (pa_cons (pe_tell (k := 9) (sc := defScope s_law_errors_right) (hr.mono (by decide)) WA TB T (by decide +kernel) (fun _ _ _ _ _ => rfl) (fun A outer s H E f c' hr2 => by exact (pe_fnL G_determinant (hr2.mono (by decide)) (pa_cons (pv 1) (pa_cons (pe_op (op_ofK (K := K) (r := rRepT) op_repT) (pe_tup (pa_cons (pe_op (op_ofK (K := K) (r := rRepT) op_repT) (pe_tup (pa_cons pe_int pa_nil)) pe_int) pa_nil)) pe_int) pa_nil))))) pa_nil)))) (pss_cons (ps_expr (pe_castBM (K := K) (pe_bm PySem.F.plainAttrs_list PySem.F.slot_list_append PySem.F.type_list_append mt_append (pv 6) (pa_cons (pe_tell (k := 9) (sc := defScope s_law_errors_right) (hr.mono (by decide)) WA TB T (by decide +kernel) (fun _ _ _ _ _ => rfl) (fun A outer s H E f c' hr2 => by exact (pe_fnL G_undone (hr2.mono (by decide)) (pa_cons (pv 1) (pa_cons (pe_tup (pa_cons (pe_tup (pa_cons pe_int pa_nil)) pa_nil)) pa_nil))))) pa_nil)))) (pss_cons (ps_expr (pe_castBM (K := K) (pe_bm PySem.F.plainAttrs_list PySem.F.slot_list_append PySem.F.type_list_append mt_append (pv 6) (pa_cons (pe_tell (k := 9) (sc := defScope s_law_errors_right) (hr.mono (by decide)) WA TB T (by decide +kernel) (fun _ _ _ _ _ => rfl) (fun A outer s H E f c' hr2 => by exact (pe_fnL G_undone (hr2.mono (by decide)) (pa_cons (pv 1) (pa_cons (pe_op (op_ofK (K := K) (r := rRepT) op_repT) (pe_tup (pa_cons (pe_op (op_ofK (K := K) (r := rRepT) op_repT) (pe_tup (pa_cons pe_int pa_nil)) pe_int) pa_nil)) pe_int) pa_nil))))) pa_nil)))) (pss_cons (ps_expr (pe_castBM (K := K) (pe_bm PySem.F.plainAttrs_list PySem.F.slot_list_append PySem.F.type_list_append mt_append (pv 6) (pa_cons (pe_tell (k := 6) (sc := defScope s_law_errors_right) (hr.mono (by decide)) WA TB T (by decide +kernel) (fun _ _ _ _ _ => rfl) (fun A outer s H E f c' hr2 => by exact (pe_fnL G_sent (hr2.mono (by decide)) (pa_cons (pv 1) (pa_cons (pv 4) (pa_cons (pv 5) pa_nil)))))) pa_nil)))) (pss_cons (ps_expr (pe_castBM (K := K) (pe_bm PySem.F.plainAttrs_list PySem.F.slot_list_append PySem.F.type_list_append mt_append (pv 6) (pa_cons (pe_tell (k := 9) (sc := defScope s_law_errors_right) (hr.mono (by decide)) WA TB T (by decide +kernel) (fun _ _ _ _ _ => rfl) (fun A outer s H E f c' hr2 => by exact (pe_fnL G_undone (hr2.mono (by decide)) (pa_cons (pv 1) (pa_cons (pv 4) pa_nil))))) pa_nil)))) (pss_one (ps_ret (pe_cmpR (op_eqD hr.units) (pv 6) (pe_op op_cat (pe_op op_rep (pe_lst (pa_cons pe_str pa_nil)) pe_int) (pe_lst (pa_cons pe_str (pa_cons pe_str pa_nil)))) (nomark _))))))))))))))))))))))))))))), fun as β r β' hR => ?_⟩)
  obtain ⟨p, n, ns, rfl, hp, hb, rfl, rfl, rfl⟩ := hR
  dsimp only [cxOf, Cx.nox, Cx.wish] at *
  have hb0 : ∃ n, Num.BagI n ns := ⟨n, hb⟩
  have hpm : p ∈ (0 :: Num.primes : List Int) := by
    rcases hp with rfl | h
    · exact List.mem_cons_self ..
    · exact List.mem_cons_of_mem _ h
  unfold errBag
  have hb1 : ∃ n, Num.BagI n (nxD badL ns) := Num.grabB (by decide) hb0
  have hb2 : ∃ n, Num.BagI n (nxD tabL (nxD badL ns)) := Num.grabB (by decide) hb1
  refine .ret (st_seq (β1 := some (nxD badL ns)) (st_asg (c_oneD (xs := badL) rfl (d_lst (ds := badL) (a_con (β1 := some ns) d_int (a_con (β1 := some ns) d_int (a_con (β1 := some ns) d_non (a_con (β1 := some ns) d_bl (a_con (β1 := some ns) d_str (a_con (β1 := some ns) (d_neg d_int) (a_con (β1 := some ns) (d_tup1 d_int) (a_con (β1 := some ns) d_int a_nil)))))))) rfl (by decide)) (by decide) (by decide) hb0)) ?_)
  show StB K _ [some .bag, some (.imm (.int p)), some (.imm (pkD badL ns)), none, none, none, none] _ _ _
  have q1 : (!Num.isPrime (pkD badL ns) && tellB (pkD badL ns)) = true := bad_ok _ (getD_mem (xs := badL) (by decide) ns)
  generalize pkD badL ns = bad at *
  generalize nxD badL ns = ms at *
  refine st_seq (β1 := some (nxD tabL ms)) (st_asg (c_oneD (xs := tabL) rfl (d_lst (ds := tabL) (a_con (β1 := some ms) d_non (a_con (β1 := some ms) (d_tup (ds := []) a_nil rfl (by decide)) (a_con (β1 := some ms) (d_tup1 (d_tup (ds := []) a_nil rfl (by decide))) (a_con (β1 := some ms) (d_lst (ds := [.list [.int 1]]) (a_con (β1 := some ms) (d_lst (ds := [.int 1]) (a_con (β1 := some ms) d_int a_nil) rfl (by decide)) a_nil) rfl (by decide)) (a_con (β1 := some ms) (d_tup (ds := [.tuple [.int 1], .tuple [.int 1, .int 2]]) (a_con (β1 := some ms) (d_tup1 d_int) (a_con (β1 := some ms) (d_tup (ds := [.int 1, .int 2]) (a_con (β1 := some ms) d_int (a_con (β1 := some ms) d_int a_nil)) rfl (by decide)) a_nil)) rfl (by decide)) (a_con (β1 := some ms) (d_tup1 (d_tup1 d_bl)) (a_con (β1 := some ms) (d_tup1 (d_tup1 d_str)) (a_con (β1 := some ms) (d_tup (ds := [.tuple [.int 1], .list [.int 1]]) (a_con (β1 := some ms) (d_tup1 d_int) (a_con (β1 := some ms) (d_lst (ds := [.int 1]) (a_con (β1 := some ms) d_int a_nil) rfl (by decide)) a_nil)) rfl (by decide)) (a_con (β1 := some ms) (d_tup1 (d_tup1 (d_pow d_int d_int ⟨by decide, by decide⟩))) (a_con (β1 := some ms) d_int (a_con (β1 := some ms) d_str (a_con (β1 := some ms) d_dict0 a_nil)))))))))))) rfl (by decide)) (by decide) (by decide) hb1)) ?_
  show StB K _ [some .bag, some (.imm (.int p)), some (.imm bad), some (.imm (pkD tabL ms)), none, none, none] _ _ _
  have ht : Num.isTable p (pkD tabL ms) = false := tab_no p hpm _ (getD_mem (xs := tabL) (by decide) ms)
  generalize pkD tabL ms = tab at *
  generalize nxD tabL ms = ks at *
  refine st_sq (st_asg (d := .tuple (([[1, 1], [1, 1]] : List (List Int)).map tupI)) (d_tup (ds := ([[1, 1], [1, 1]] : List (List Int)).map tupI) (a_con (β1 := some ks) (d_tup (ds := [.int 1, .int 1]) (a_con (β1 := some ks) d_int (a_con (β1 := some ks) d_int a_nil)) rfl (by decide)) (a_con (β1 := some ks) (d_tup (ds := [.int 1, .int 1]) (a_con (β1 := some ks) d_int (a_con (β1 := some ks) d_int a_nil)) rfl (by decide)) a_nil)) rfl (by decide))) ?_
  refine st_seq (β1 := some (nxD farL ks)) (st_asg (c_oneD (xs := farL) rfl (d_lst (ds := farL) (a_con (β1 := some ks) d_non (a_con (β1 := some ks) (d_tup (ds := []) a_nil rfl (by decide)) (a_con (β1 := some ks) (d_tup1 d_int) (a_con (β1 := some ks) (d_lst (ds := [.int 1, .int 1]) (a_con (β1 := some ks) d_int (a_con (β1 := some ks) d_int a_nil)) rfl (by decide)) (a_con (β1 := some ks) (d_tup (ds := [.int 1, .int 1, .int 1]) (a_con (β1 := some ks) d_int (a_con (β1 := some ks) d_int (a_con (β1 := some ks) d_int a_nil))) rfl (by decide)) (a_con (β1 := some ks) (d_tup (ds := [.int 1, .none]) (a_con (β1 := some ks) d_int (a_con (β1 := some ks) d_non a_nil)) rfl (by decide)) (a_con (β1 := some ks) (d_tup (ds := [.bool true, .int 1]) (a_con (β1 := some ks) d_bl (a_con (β1 := some ks) d_int a_nil)) rfl (by decide)) (a_con (β1 := some ks) d_int (a_con (β1 := some ks) (d_tup (ds := [.int (10 ^ (60 : Int).toNat), .int 1]) (a_con (β1 := some ks) (d_pow d_int d_int ⟨by decide, by decide⟩) (a_con (β1 := some ks) d_int a_nil)) rfl (by decide)) a_nil))))))))) rfl (by decide)) (by decide) (by decide) hb2)) ?_
  show StB K _ [some .bag, some (.imm (.int p)), some (.imm bad), some (.imm tab), some (.imm (.tuple (([[1, 1], [1, 1]] : List (List Int)).map tupI))), some (.imm (pkD farL ks)), none] _ _ _
  have hf : Num.allFit p 2 (pkD farL ks) = false := far_no p hpm _ (getD_mem (xs := farL) (by decide) ks)
  generalize pkD farL ks = far at *
  generalize nxD farL ks = js at *
  obtain ⟨k1p, k1t⟩ := Bool.and_eq_true_iff.mp q1
  have hnp : Num.isPrime bad = false := by simpa using k1p
  have tb := told_num T k1t
  have tt := told_table T
  have to := told_op T
  have tf := told_flat T
  have okF : RowsOk p 2 [[1, 1], [1, 1]] := ones_ok hp (k := 2) (by decide) (by decide)
  have hsq : ∀ n m : Int, (Num.isTable p tab && Num.sqB n m tab) = false := fun n m => by rw [ht, Bool.false_and]
  refine st_own (d := .list [.str (wN bad)]) (β1 := some js) (by show 6 < 7; decide) (en_lst (ds := [.str (wN bad)]) (a_con (β1 := some js) (d_lamEx T.tabw (a_con (d_var rfl) (a_con (d_var rfl) a_nil)) ⟨_, _, rfl, .inr ⟨hnp, rfl⟩, rfl, rfl⟩ tb) a_nil) (Nat.le_of_ble_eq_true rfl)) ?_
  refine sp_seq (sw_app (β1 := some js) (d_lamEx T.tabw (a_con (d_var rfl) (a_con (d_var rfl) a_nil)) ⟨_, _, rfl, .inr ⟨hnp, rfl⟩, rfl, rfl⟩ tb) (Nat.le_of_ble_eq_true rfl)) ?_
  refine sp_seq (sw_app (β1 := some js) (d_lamEx T.tabw (a_con (d_var rfl) (a_con (d_var rfl) (a_con d_non a_nil))) ⟨_, _, _, rfl, .inr ⟨hnp, rfl⟩, rfl, rfl⟩ tb) (Nat.le_of_ble_eq_true rfl)) ?_
  refine sp_seq (sw_app (β1 := some js) (d_lamEx T.tabw (a_con (d_var rfl) (a_con (d_var rfl) a_nil)) ⟨_, _, rfl, .inr ⟨hnp, rfl⟩, rfl, rfl⟩ tb) (Nat.le_of_ble_eq_true rfl)) ?_
  refine sp_seq (sw_app (β1 := some js) (d_lamEx T.tabw (a_con (d_var rfl) (a_con (d_var rfl) (a_con (d_var rfl) a_nil))) ⟨_, _, _, rfl, .inr ⟨hnp, rfl⟩, rfl, rfl⟩ tb) (Nat.le_of_ble_eq_true rfl)) ?_
  refine sp_seq (sw_app (β1 := some js) (d_lamEx T.tabw (a_con (d_var rfl) (a_con (d_var rfl) a_nil)) ⟨_, _, rfl, .inr ⟨hnp, rfl⟩, rfl, rfl⟩ tb) (Nat.le_of_ble_eq_true rfl)) ?_
  refine sp_seq (sw_app (β1 := some js) (d_lamEx T.tabw (a_con (d_var rfl) (a_con (d_var rfl) a_nil)) ⟨_, _, rfl, .inr ⟨hnp, rfl⟩, rfl, rfl⟩ tb) (Nat.le_of_ble_eq_true rfl)) (sp_end ?_)
  show StB K _ [some .bag, some (.imm (.int p)), some (.imm bad), some (.imm tab), some (.imm (.tuple (([[1, 1], [1, 1]] : List (List Int)).map tupI))), some (.imm far), some (.imm (.list ((tolds1 (wN bad)).map PyData.str)))] _ _ _
  refine st_sq (st_ifF (t_test (d_neStrs (ss := tolds1 (wN bad)) ?lay1 (d_var rfl) ((d_repL (ds := [.str (wN bad)]) (k := 7) (d_lst (ds := [.str (wN bad)]) (a_con (β1 := some js) (d_addS d_str (d_repr (d_var rfl) (tell_show k1t).1) (num_len k1t)) a_nil) rfl (Nat.le_of_ble_eq_true rfl)) d_int (by decide) (by decide) (Nat.le_of_ble_eq_true rfl)).to rfl))) st_next) ?_
  case lay1 =>
    intro s hs
    have lb := (tell_show k1t).2.2
    simp only [List.mem_cons, List.not_mem_nil, or_false] at hs
    rcases hs with h | h | h | h | h | h | h <;> rw [h] <;> exact lb
  refine st_own (d := .list [.str "table"]) (β1 := some js) (by show 6 < 7; decide) (en_lst (ds := [.str "table"]) (a_con (β1 := some js) (d_lamEx T.tabw (a_con (d_var rfl) (a_con (d_var rfl) a_nil)) ⟨_, _, rfl, .inl ⟨p, rfl, hp, .inl ⟨ht, rfl⟩⟩, rfl, rfl⟩ tt) a_nil) (Nat.le_of_ble_eq_true rfl)) ?_
  refine sp_seq (sw_app (β1 := some js) (d_lamEx T.tabw (a_con (d_var rfl) (a_con (d_var rfl) a_nil)) ⟨_, _, rfl, .inl ⟨p, rfl, hp, ht, rfl⟩, rfl, rfl⟩ tt) (Nat.le_of_ble_eq_true rfl)) ?_
  refine sp_seq (sw_app (β1 := some js) (d_lamEx T.tabw (a_con (d_var rfl) (a_con (d_var rfl) (a_con d_non a_nil))) ⟨_, _, _, rfl, .inl ⟨p, rfl, hp, ht, rfl⟩, rfl, rfl⟩ tt) (Nat.le_of_ble_eq_true rfl)) ?_
  refine sp_seq (sw_app (β1 := some js) (d_lamEx T.tabw (a_con (d_var rfl) (a_con (d_var rfl) a_nil)) ⟨_, _, rfl, .inl ⟨p, rfl, hp, .inl ⟨ht, rfl⟩⟩, rfl, rfl⟩ tt) (Nat.le_of_ble_eq_true rfl)) ?_
  refine sp_seq (sw_app (β1 := some js) (d_lamEx T.tabw (a_con (d_var rfl) (a_con (d_var rfl) (a_con (d_var rfl) a_nil))) ⟨_, _, _, rfl, .inl ⟨p, rfl, hp, .inl ⟨ht, rfl⟩⟩, rfl, rfl⟩ tt) (Nat.le_of_ble_eq_true rfl)) ?_
  refine sp_seq (sw_app (β1 := some js) (d_lamEx T.tabw (a_con (d_var rfl) (a_con (d_var rfl) a_nil)) ⟨_, _, rfl, .inl ⟨p, rfl, hp, .inl ⟨hsq _ _, rfl⟩⟩, rfl, rfl⟩ tt) (Nat.le_of_ble_eq_true rfl)) ?_
  refine sp_seq (sw_app (β1 := some js) (d_lamEx T.tabw (a_con (d_var rfl) (a_con (d_var rfl) a_nil)) ⟨_, _, rfl, .inl ⟨p, rfl, hp, .inl ⟨hsq _ _, rfl⟩⟩, rfl, rfl⟩ tt) (Nat.le_of_ble_eq_true rfl)) ?_
  refine sp_seq (sw_app (β1 := some js) (d_lamEx T.tabw (a_con (d_var rfl) (a_con (β1 := some js) (d_tup1 (d := tupI [1, 1]) (d_tup (ds := [.int 1, .int 1]) (a_con (β1 := some js) d_int (a_con (β1 := some js) d_int a_nil)) rfl (Nat.le_of_ble_eq_true rfl))) a_nil)) ⟨_, _, rfl, .inl ⟨p, rfl, hp, .inl ⟨by rw [show Num.sqB 1 6 (.tuple [tupI [1, 1]]) = false by decide +kernel, Bool.and_false], rfl⟩⟩, rfl, rfl⟩ tt) (Nat.le_of_ble_eq_true rfl)) ?_
  refine sp_seq (sw_app (β1 := some js) (d_lamEx T.tabw (a_con (d_var rfl) (a_con (β1 := some js) (d_onesS (a := 7) (n := 7) (by decide) (by decide) rfl) a_nil)) ⟨_, _, rfl, .inl ⟨p, rfl, hp, .inl ⟨ones_sq (by decide +kernel), rfl⟩⟩, rfl, rfl⟩ tt) (Nat.le_of_ble_eq_true rfl)) ?_
  refine sp_seq (sw_app (β1 := some js) (d_lamEx T.tabw (a_con (d_var rfl) (a_con (β1 := some js) (d_tup1 (d := tupI [1]) (d_tup1 d_int)) a_nil)) ⟨_, _, rfl, .inl ⟨p, rfl, hp, .inl ⟨by rw [show Num.sqB 2 3 (.tuple [tupI [1]]) = false by decide +kernel, Bool.and_false], rfl⟩⟩, rfl, rfl⟩ tt) (Nat.le_of_ble_eq_true rfl)) ?_
  refine sp_seq (sw_app (β1 := some js) (d_lamEx T.tabw (a_con (d_var rfl) (a_con (β1 := some js) (d_onesS (a := 4) (n := 4) (by decide) (by decide) rfl) a_nil)) ⟨_, _, rfl, .inl ⟨p, rfl, hp, .inl ⟨ones_sq (by decide +kernel), rfl⟩⟩, rfl, rfl⟩ tt) (Nat.le_of_ble_eq_true rfl)) ?_
  refine sp_seq (sw_app (β1 := some js) (d_lamEx T.tabw (a_con (d_var rfl) (a_con (d_var rfl) (a_con (d_var rfl) a_nil))) ⟨_, _, _, rfl, .inl ⟨p, rfl, hp, .inr ⟨[.int 1, .int 1], [tupI [1, 1]], rfl, okF.sent.1, by decide, .inl ⟨hf, rfl⟩⟩⟩, rfl, rfl⟩ to) (Nat.le_of_ble_eq_true rfl)) ?_
  refine sp_seq (sw_app (β1 := some js) (d_lamEx T.tabw (a_con (d_var rfl) (a_con (d_var rfl) a_nil)) (und_flat okF (by decide) (by decide) ?det) tf) (Nat.le_of_ble_eq_true rfl)) (sp_end ?_)
  case det =>
    show Num.settled p (Det.detL 1 [[1, 1], [1, 1]]) = 0
    rw [detL_two]
    exact Num.settled_zero p
  show StB K _ [some .bag, some (.imm (.int p)), some (.imm bad), some (.imm tab), some (.imm (.tuple (([[1, 1], [1, 1]] : List (List Int)).map tupI))), some (.imm far), some (.imm (.list (tolds2.map PyData.str)))] _ _ _
  refine st_ret (d_eqStrs (ss := tolds2) ?lay2 (d_var rfl) ((d_cat (ds := (List.replicate 11 [PyData.str "table"]).flatten) (es := [.str "operation", .str flatT]) (d_repL (ds := [.str "table"]) (k := 11) (d_lst (ds := [.str "table"]) (a_con (β1 := some js) d_str a_nil) rfl (Nat.le_of_ble_eq_true rfl)) d_int (by decide) (by decide) (Nat.le_of_ble_eq_true rfl)) (d_lst (a_con (β1 := some js) d_str (a_con (β1 := some js) (d_str.to (congrArg PyData.str flat_text)) a_nil)) rfl (Nat.le_of_ble_eq_true rfl)) (Nat.le_of_ble_eq_true rfl)).to rfl))
  intro s hs
  simp only [List.mem_cons, List.not_mem_nil, or_false] at hs
  rcases hs with h | h | h | h | h | h | h | h | h | h | h | h | h <;> rw [h] <;> first | exact table_lay | exact op_lay | exact flat_lay


abbrev s_law_bounds_right : Stmt := top 62
theorem sc_law_bounds_right : FnScope ["_law_prime", "_law_told"] ["_law_prime"] (defScope s_law_bounds_right) := ⟨rfl, rfl, rfl, by decide +kernel, rfl, by decide +kernel, by decide +kernel⟩
abbrev R_law_bounds_right : FR := f1 PyData.int P07 fun _ => .bool true
theorem ok_law_bounds_right {P : Program} {w : World} {K : PySem.W.Frag} {mg : Str → Option Value} {base : Heap} {Y : Cn} (F : DefAtC K "_law_bounds_right" s_law_bounds_right Y.c3) (hX : K.In base) (hG : base.Ns mainGlobals mg) (T : Txt K mg Y) (WA : WordAt K mg "_law_word" s_law_word) (TB : TbAt base mg Y Y.c3 q3) (G_rank : FnX P w K mg base 6 "rank" ["prime", "table"] (R_rank Y)) (G_echelon : FnX P w K mg base 6 "echelon" ["prime", "table"] (R_echelon Y)) (G_kernel : FnX P w K mg base 6 "kernel" ["prime", "table"] (R_kernel Y)) (G_determinant : FnX P w K mg base 9 "determinant" ["prime", "table"] (R_determinant Y)) : FnH P w K mg base 12 "_law_bounds_right" ["_law_prime"] R_law_bounds_right := by
  have nd := sc_law_bounds_right.nd
  refine fnC_mk F hX hG sc_law_bounds_right (fun as β r β' h => by first | exact FR.len h | (obtain ⟨_, rfl, _⟩ := h; rfl) | (obtain ⟨_, _, rfl, _⟩ := h; rfl) | (obtain ⟨_, _, _, rfl, _⟩ := h; rfl) | (obtain ⟨_, _, _, _, rfl, _⟩ := h; rfl) | (obtain ⟨_, _, _, _, _, rfl, _⟩ := h; rfl)) (fun _ _ _ _ _ _ _ us hl => match us, hl with | [_], _ => rfl) (fun f A outer s H E hr => ⟨_, (pss_cons (ps_set (i := 1) nd rfl (Or.inl rfl) (pe_lst (pa_cons (pe_tell (k := 6) (sc := defScope s_law_bounds_right) (hr.mono (by decide)) WA TB T (by decide +kernel) (fun _ _ _ _ _ => rfl) (fun A outer s H E f c' hr2 => by exact (pe_fnL G_rank (hr2.mono (by decide)) (pa_cons (pv 0) (pa_cons (pe_op (op_ofK (K := K) (r := rRepT) op_repT) (pe_tup (pa_cons (pe_op (op_ofK (K := K) (r := rRepT) op_repT) (pe_tup (pa_cons pe_int pa_nil)) pe_int) pa_nil)) pe_int) pa_nil))))) pa_nil))) (pss_cons (ps_expr (pe_castBM (K := K) (pe_bm PySem.F.plainAttrs_list PySem.F.slot_list_append PySem.F.type_list_append mt_append (pv 1) (pa_cons (pe_tell (k := 6) (sc := defScope s_law_bounds_right) (hr.mono (by decide)) WA TB T (by decide +kernel) (fun _ _ _ _ _ => rfl) (fun A outer s H E f c' hr2 => by exact (pe_fnL G_rank (hr2.mono (by decide)) (pa_cons (pv 0) (pa_cons (pe_tup (pa_cons (pe_op (op_ofK (K := K) (r := rRepT) op_repT) (pe_tup (pa_cons pe_int pa_nil)) pe_int) pa_nil)) pa_nil))))) pa_nil)))) (pss_cons (ps_expr (pe_castBM (K := K) (pe_bm PySem.F.plainAttrs_list PySem.F.slot_list_append PySem.F.type_list_append mt_append (pv 1) (pa_cons (pe_tell (k := 6) (sc := defScope s_law_bounds_right) (hr.mono (by decide)) WA TB T (by decide +kernel) (fun _ _ _ _ _ => rfl) (fun A outer s H E f c' hr2 => by exact (pe_fnL G_echelon (hr2.mono (by decide)) (pa_cons (pv 0) (pa_cons (pe_op (op_ofK (K := K) (r := rRepT) op_repT) (pe_tup (pa_cons (pe_tup (pa_cons pe_int pa_nil)) pa_nil)) pe_int) pa_nil))))) pa_nil)))) (pss_cons (ps_expr (pe_castBM (K := K) (pe_bm PySem.F.plainAttrs_list PySem.F.slot_list_append PySem.F.type_list_append mt_append (pv 1) (pa_cons (pe_tell (k := 6) (sc := defScope s_law_bounds_right) (hr.mono (by decide)) WA TB T (by decide +kernel) (fun _ _ _ _ _ => rfl) (fun A outer s H E f c' hr2 => by exact (pe_fnL G_kernel (hr2.mono (by decide)) (pa_cons (pv 0) (pa_cons (pe_tup (pa_cons (pe_op (op_ofK (K := K) (r := rRepT) op_repT) (pe_tup (pa_cons pe_int pa_nil)) pe_int) pa_nil)) pa_nil))))) pa_nil)))) (pss_cons (ps_expr (pe_castBM (K := K) (pe_bm PySem.F.plainAttrs_list PySem.F.slot_list_append PySem.F.type_list_append mt_append (pv 1) (pa_cons (pe_tell (k := 9) (sc := defScope s_law_bounds_right) (hr.mono (by decide)) WA TB T (by decide +kernel) (fun _ _ _ _ _ => rfl) (fun A outer s H E f c' hr2 => by exact (pe_fnL G_determinant (hr2.mono (by decide)) (pa_cons (pv 0) (pa_cons (pe_op (op_ofK (K := K) (r := rRepT) op_repT) (pe_tup (pa_cons (pe_op (op_ofK (K := K) (r := rRepT) op_repT) (pe_tup (pa_cons pe_int pa_nil)) pe_int) pa_nil)) pe_int) pa_nil))))) pa_nil)))) (pss_one (ps_ret (pe_and (pe_cmpR (op_eqD hr.units) (pv 1) (pe_lst (pa_cons pe_str (pa_cons pe_str (pa_cons pe_str (pa_cons pe_str (pa_cons pe_str pa_nil)))))) (nomark _)) (pe_one (pe_cmpR (op_eqD hr.units) (pe_lst (pa_cons (pe_glob (v := .int _) (by rfl) T.c_MAX_ROWS ⟨_, rfl⟩) (pa_cons (pe_glob (v := .int _) (by rfl) T.c_MAX_WIDTH ⟨_, rfl⟩) pa_nil))) (pe_lst (pa_cons pe_int (pa_cons pe_int pa_nil))) (nomark _))))))))))), fun as β r β' hR => ?_⟩)
  obtain ⟨p, rfl, h7, rfl, rfl, rfl⟩ := hR
  dsimp only [cxOf, Cx.nox, Cx.wish] at *
  have hp := h7.pr
  have tt := told_table T
  have ok6 := ones_ok hp (k := 6) (by decide) (by decide)
  have wide : Num.isTable p (.tuple [tupI (List.replicate 141 1)]) = false := by rcases h7 with rfl | rfl <;> decide +kernel
  have high : Num.isTable p (.tuple (List.replicate 91 (tupI [1]))) = false := by rcases h7 with rfl | rfl <;> decide +kernel
  refine .ret (st_own (d := .list [.str "fine"]) (by show 1 < 2; decide) (en_lst (ds := [.str "fine"]) (a_con (β1 := none) (d_lamOk T.tabw (a_con (d_var rfl) (a_con (β1 := none) (d_onesT (d := tupI onesI) (a := 90) (d_ones (x := 1) (a := 140) (n := 140) (by decide) (by decide) rfl) (n := 90) (by decide) (by decide) rfl) a_nil)) ⟨_, _, rfl, .inl ⟨p, rfl, hp, .inr ⟨h7, rfl, rfl⟩⟩, rfl, rfl⟩) a_nil) (Nat.le_of_ble_eq_true rfl)) ?_)
  refine sp_seq (sw_app (β1 := none) (d_lamEx T.tabw (a_con (d_var rfl) (a_con (β1 := none) (d_tup1 (d_ones (x := 1) (a := 141) (n := 141) (by decide) (by decide) rfl)) a_nil)) ⟨_, _, rfl, .inl ⟨p, rfl, hp, .inl ⟨wide, rfl⟩⟩, rfl, rfl⟩ tt) (Nat.le_of_ble_eq_true rfl)) ?_
  refine sp_seq (sw_app (β1 := none) (d_lamEx T.tabw (a_con (d_var rfl) (a_con (β1 := none) (d_onesT (d := tupI [1]) (d_tup1 d_int) (a := 91) (n := 91) (by decide) (by decide) rfl) a_nil)) ⟨_, _, rfl, .inl ⟨p, rfl, hp, high, rfl⟩, rfl, rfl⟩ tt) (Nat.le_of_ble_eq_true rfl)) ?_
  refine sp_seq (sw_app (β1 := none) (d_lamOk T.tabw (a_con (d_var rfl) (a_con (β1 := none) (d_tup1 (d := tupI zerosI) (d_ones (x := 0) (a := 140) (n := 140) (by decide) (by decide) rfl)) a_nil)) ⟨_, _, rfl, .inl ⟨p, rfl, hp, .inr ⟨h7, rfl, rfl⟩⟩, rfl, rfl⟩) (Nat.le_of_ble_eq_true rfl)) ?_
  refine sp_seq (sw_app (β1 := none) (d_lamOk T.tabw (a_con (d_var rfl) (a_con (β1 := none) (d_onesS (a := 6) (n := 6) (by decide) (by decide) rfl) a_nil)) ⟨_, _, rfl, .inl ⟨p, rfl, hp, .inr ⟨onesT 6, by rw [ok6.sent.1, ok6.sent.2 1 6 (by decide) (by decide)]; rfl, rfl, ok6.det, rfl⟩⟩, rfl, rfl⟩) (Nat.le_of_ble_eq_true rfl)) (sp_end ?_)
  show StB K _ [some (.imm (.int p)), some (.imm (.list (tolds3.map PyData.str)))] _ _ _
  refine st_ret (d_andT (d_eqStrs (ss := tolds3) ?lay (d_var rfl) (d_lst (ds := tolds3.map PyData.str) (a_con (β1 := none) d_str (a_con (β1 := none) d_str (a_con (β1 := none) d_str (a_con (β1 := none) d_str (a_con (β1 := none) d_str a_nil))))) rfl (Nat.le_of_ble_eq_true rfl))) ((d_eqLL (ms := [90, 140]) (ns := [90, 140]) (d_lst (a_con (β1 := none) d_int (a_con (β1 := none) d_int a_nil)) rfl (Nat.le_of_ble_eq_true rfl)) (d_lst (a_con (β1 := none) d_int (a_con (β1 := none) d_int a_nil)) rfl (Nat.le_of_ble_eq_true rfl))).to (congrArg PyData.bool (decide_eq_true rfl))))
  intro s hs
  simp only [List.mem_cons, List.not_mem_nil, or_false] at hs
  rcases hs with h | h | h | h | h <;> rw [h] <;> first | exact table_lay | exact fine_lay

end K03
/-! ## K03s -/
set_option Elab.async false
set_option linter.all false
set_option maxRecDepth 100000
set_option maxHeartbeats 1100000
namespace K03
open PySem L2 TD PySem.Spec PyProof.Rows
open Evl (Ex ex_l ex_t fresh_back sq_of st_of sz_of sz_lt rMax2)
variable [TabW]


abbrev s_law_bag : Stmt := top 46
theorem sc_law_bag : FnScope ["_law_script", "_law_spot", "_law_cell", "_law_great", "_law_mixed_here"] ["_law_script", "_law_spot"] (defScope s_law_bag) := ⟨rfl, rfl, rfl, by decide +kernel, rfl, by decide +kernel, by decide +kernel⟩
abbrev R_law_bag : PySem.W.Frag → Sp := spBag
theorem ok_law_bag {P : Program} {w : World} {K : PySem.W.Frag} {mg : Str → Option Value} {base : Heap}  (F : DefAt K "_law_bag" s_law_bag) (hX : K.In base) (hG : base.Ns mainGlobals mg) {Y : Cn} (T : Txt K mg Y)   : FnS P w K mg base 1 "_law_bag" ["_law_script", "_law_spot"] (R_law_bag K) := by
  have nd := sc_law_bag.nd
  refine fnS_mk F hX hG sc_law_bag ?len (fun _ _ _ _ _ _ _ us hl => match us, hl with | [_, _], _ => rfl) (fun f cdv A outer s H E hr => ⟨_, (pss_cons (ps_set (i := 2) nd rfl (Or.inl rfl) (pe_ifExp (pt_cmpR op_lt (pv 1) (pe_callB (c_lenK (K := K)) (by rfl) T.z_len bo_len (pa_cons (pv 0) pa_nil)) (nomark _)) (pe_ix ix_list (pv 0) (pv 1) (fun _ _ => rfl)) (pe_op op_add (pe_op op_add (pe_callB (cr_sum rfl) (by rfl) T.z_sum bo_sum (pa_cons (pe_slice sl_list (pv 0) po_none (po_some pe_int)) pa_nil)) (pe_op op_mul pe_int (pv 1))) pe_int))) (pss_cons (ps_set (i := 3) nd rfl (Or.inl rfl) (pe_op op_mod (pe_callTy c_int (by rfl) T.z_int bo_int (pa_cons (pe_callB c_abs (by rfl) T.z_abs bo_abs (pa_cons (pv 2) pa_nil)) pa_nil)) (pe_op op_powW (pe_op op_powW pe_int pe_int) pe_int))) (pss_cons (ps_set (i := 4) nd rfl (Or.inl rfl) (pe_op op_add (pe_op op_add (pe_op op_add (pe_op op_mul (pe_op op_mod (pe_callTy c_int (by rfl) T.z_int bo_int (pa_cons (pv 3) pa_nil)) pe_int) pe_int) (pe_op op_mul pe_int (pv 1))) (pe_op op_mul pe_int (pe_callTy c_int (by rfl) T.z_int bo_int (pa_cons (pe_cmpR op_lt (pv 2) pe_int (nomark _)) pa_nil)))) pe_int)) (pss_one (ps_ret (pe_lst (pa_cons (pe_callB (c_max2 rfl) (by rfl) T.z_max bo_max (pa_cons pe_int (pa_cons (pe_op op_sub (pv 3) (pe_op op_powW pe_int pe_int)) pa_nil))) (pa_cons (pe_op op_mod (pe_callTy c_int (by rfl) T.z_int bo_int (pa_cons (pv 4) pa_nil)) pe_int) (pa_cons pe_int pa_nil))))))))), fun vs H Q E hsp => ?run⟩)
  case len =>
    rintro vs H Q E ⟨a, ns, spot, G, rfl, _⟩
    rfl
  case run =>
    dsimp only [cxOf, Cx.nox, Cx.wish]
    obtain ⟨a, ns, spot, G, rfl, e, tb, hS, h0, h10, k⟩ := hsp
    have hb : ∀ (b : Addr) (c : Int) (G' H' : Hp), Step b false G H G' H' → EnvD K b none G' H' [some (.ref a), some (.int spot), some (.int c), none, none] [none, some (.imm (.int spot)), some (.imm (.int c)), none, none] := fun b c G' H' s' => by
      refine ⟨s'.s, (fun _ z => nomatch z), rfl, fun i d hi => ?_, fun i hi => ?_, s'.tabs tb, fun i a hi => ?_⟩
      · match i, hi with
        | 0, hi => cases hi
        | 1, hi => cases hi; exact ⟨_, rfl, .int _⟩
        | 2, hi => cases hi; exact ⟨_, rfl, .int _⟩
        | 3, hi => cases hi
        | 4, hi => cases hi
        | n + 5, hi => cases hi
      · match i, hi with
        | 0, hi => cases hi
        | 1, hi => cases hi
        | 2, hi => cases hi
        | 3, hi => cases hi
        | 4, hi => cases hi
        | n + 5, hi => cases hi
      · match i, hi with
        | 0, hi => cases hi
        | 1, hi => cases hi
        | 2, hi => cases hi
        | 3, hi => cases hi
        | 4, hi => cases hi
        | n + 5, hi => cases hi
    have tail : ∀ (b : Addr) (c : Int) (G' H' : Hp) (D : Ends), D.rt = Q → Step b false G H G' H' → (tSeq (tAsg (tOp (rI (fun _ j => 0 < j) fun i j => .int (i % j)) (tCB rInt1 (tCons (tCB rAbs (tCons (tVar 2) tNil)) tNil)) (tOp (rI CPowW fun i j => .int (i ^ j.toNat)) (tOp (rI CPowW fun i j => .int (i ^ j.toNat)) (tC (.int 10)) (tC (.int 45))) (tC (.int 13)))) (gName 3)) (tSeq (tAsg (tOp (rI0 fun i j => .int (i + j)) (tOp (rI0 fun i j => .int (i + j)) (tOp (rI0 fun i j => .int (i + j)) (tOp (rI CMul fun i j => .int (i * j)) (tOp (rI (fun _ j => 0 < j) fun i j => .int (i % j)) (tCB rInt1 (tCons (tVar 3) tNil)) (tC (.int 2305843009213693723))) (tC (.int 1000403))) (tOp (rI CMul fun i j => .int (i * j)) (tC (.int 9041)) (tVar 1))) (tOp (rI CMul fun i j => .int (i * j)) (tC (.int 47)) (tCB rInt1 (tCons (tOp (rI0 fun i j => .bl (decide (i < j))) (tVar 2) (tC (.int 0))) tNil)))) (tC (.int 31))) (gName 4))
        (tRet (tLst (tCons (tCB rMax2 (tCons (tC (.int 0)) (tCons (tOp (rI0 fun i j => .int (i - j)) (tVar 3) (tOp (rI CPowW fun i j => .int (i ^ j.toNat)) (tC (.int 10)) (tC (.int 18)))) tNil))) (tCons (tOp (rI (fun _ j => 0 < j) fun i j => .int (i % j)) (tCB rInt1 (tCons (tVar 4) tNil)) (tC (.int 2305843009213693951))) (tCons (tC (.int 0)) tNil))))))) D [some (.ref a), some (.int spot), some (.int c), none, none] H' := by
      intro b c G' H' D hD s'
      have hpp : (0 : Int) < (10 ^ (45 : Int).toNat) ^ (13 : Int).toNat := by decide
      have cp : CPowW (10 ^ (45 : Int).toNat) 13 := ⟨by decide, by decide⟩
      refine (st_asg (d_mod (d_intI (d_abs (d_var rfl))) (d_pow (d_pow d_int d_int ⟨by decide, by decide⟩) d_int cp) hpp)).run b G' H' _ _ (hb b c G' H' s') fun σ2 G2 H2 s2 E2 => ?_
      refine (st_asg (d_add (d_add (d_add (d_mul (d_mod (d_intI (d_var rfl)) d_int (by decide)) d_int (.inr (by decide))) (d_mul d_int (d_var rfl) (.inl (by decide)))) (d_mul d_int (d_intB (d_lt (d_var rfl) d_int)) (.inl (by decide)))) d_int)).run b G2 H2 _ _ E2 fun σ3 G3 H3 s3 E3 => ?_
      dsimp only [tRet]
      unfold tLst
      refine' EvA.run (as := imms (List.map PyData.int [if (TD.absI c % (10 ^ 45) ^ 13 - 10 ^ 18) > 0 then TD.absI c % (10 ^ 45) ^ 13 - 10 ^ 18 else 0, (((TD.absI c % (10 ^ 45) ^ 13) % 2305843009213693723 * 1000403 + 9041 * spot) + 47 * (if decide (c < 0) = true then 1 else 0) + 31) % 2305843009213693951, 0])) (β' := none) ?ea b G3 H3 σ3 _ E3 fun vs G4 H4 s4 k4 d4 => ?_
      case ea => exact a_con (β1 := none) (d_max2 (β1 := none) d_int (d_sub (β1 := none) (d_var rfl) (d_pow (β1 := none) d_int d_int ⟨by decide, by decide⟩))) (a_con (β1 := none) (d_mod (β1 := none) (d_intI (d_var rfl)) d_int (by show (0 : Int) < 2305843009213693951; decide)) (a_con (β1 := none) d_int a_nil))
      have s := ((s'.trans s2).trans s3).trans s4
      have dl := DenSs.imm (ds := List.map PyData.int [if (TD.absI c % (10 ^ 45) ^ 13 - 10 ^ 18) > 0 then TD.absI c % (10 ^ 45) ^ 13 - 10 ^ 18 else 0, (((TD.absI c % (10 ^ 45) ^ 13) % 2305843009213693723 * 1000403 + 9041 * spot) + 47 * (if decide (c < 0) = true then 1 else 0) + 31) % 2305843009213693951, 0]) d4
      have ev := dl.ints
      subst ev
      refine ⟨by show 3 ≤ sizeLine; decide, fun p hp => ?_⟩
      have gp : G4 p = none := fresh_back s.s hp
      have hp0 : Gone H p := fun o t z => by
        obtain ⟨o', _, z2⟩ := s.stay p o t z
        rw [hp] at z2
        cases z2
      have sm : ∀ xs : List V, Step p false G H G4 (upd H4 p (.lst xs)) := fun xs => by
        have sm : Step b false G H G4 (upd H4 p (.lst xs)) := s.mut hp0 gp (LstAt.none hp)
        exact ⟨sm.g, sm.s, sm.fresh, fun x o _ t h => sm.keep x o (fun z => nomatch z) t h, sm.stay, sm.tabs⟩
      rw [hD]
      exact k p G4 _ _ (sm _) gp upd_same (bag_ok h0)
    have hSH := ex_l e hS
    refine ⟨_, rfl, _, rfl, a, ns.map V.int, rfl, .inl hSH, spot, _, rfl, rfl, _, rfl, ?_⟩
    by_cases hlt : spot < ((ns.map V.int).length : Int)
    · dsimp only []
      rw [if_pos (decide_eq_true hlt)]
      obtain ⟨m, hm⟩ : ∃ m : Nat, spot = (m : Int) := ⟨spot.toNat, by omega⟩
      subst hm
      have hlt' : m < ns.length := by rw [List.length_map] at hlt; omega
      exact ⟨_, rfl, _, rfl, a, ns.map V.int, (m : Int), V.int ns[m], rfl, rfl, hSH, atI_nat (by rw [List.getElem?_map, List.getElem?_eq_getElem hlt']; rfl), tail 0 _ G H _ rfl (Step.refl e)⟩
    · dsimp only []
      rw [if_neg (by rw [decide_eq_false hlt]; decide)]
      refine ⟨_, rfl, 1, rfl, a, ns.map V.int, rfl, hSH, fun p hp => ?_⟩
      have n := Step.new (b := 0) (m := false) (o := .lst (cutV (ns.map V.int) none (some 1))) e hp
      have ec : cutV (ns.map V.int) none (some 1) = ((ns.drop (HT.sIx ns.length 0 none)).take (HT.sIx ns.length ns.length (some 1) - HT.sIx ns.length 0 none)).map V.int := by
        unfold cutV
        rw [List.map_take, List.map_drop, List.length_map]
      exact ⟨p, _, rfl, sq_of (by rw [upd_same, ec]), _, rfl, 127, spot, rfl, rfl, .inl (by decide), _, _, rfl, rfl, _, _, rfl, rfl, tail 0 _ _ _ _ rfl n⟩

abbrev lawPrimes : List Int := [0, 0, 0, 2, 3, 5, 7, 13]
theorem law_prime : ∀ p ∈ lawPrimes, Num.isPrime (.int p) = true := by decide +kernel
theorem law_primeI {p : Int} (h : p ∈ lawPrimes) : Num.PrimeI p := by
  have := law_prime p h
  unfold Num.isPrime at this
  rcases Bool.or_eq_true_iff.mp this with h | h
  · exact .inl (of_decide_eq_true h)
  · exact .inr (of_decide_eq_true h)
abbrev lastD : List Dt := [.int 1, .int 0, .tuple [tupI [4, -2], tupI [-3, 1]], .tuple [tupI [1, 2], tupI [0, 1]]]
theorem rows_two {p a b c d : Int} (hp : Num.PrimeI p) (h : ∀ x ∈ [a, b, c, d], x.natAbs ≤ 2 ^ 100 ∧ (p ≠ 0 → 0 ≤ x ∧ x < p)) : RowsOk p 2 [[a, b], [c, d]] := ⟨hp, by decide, by decide, ⟨rfl, fun r hr => by
    simp only [List.mem_cons, List.not_mem_nil, or_false] at hr
    rcases hr with rfl | rfl <;> rfl⟩, fun r hr x hx => by
    simp only [List.mem_cons, List.not_mem_nil, or_false] at hr
    refine h x ?_
    rcases hr with rfl | rfl <;> simp only [List.mem_cons, List.not_mem_nil, or_false] at hx ⊢ <;> rcases hx with h | h <;> simp [h]⟩
theorem d_two {K : PySem.W.Frag} {ρ : Rho} {a b c d : Int} {ta tb tc td : TE} (h1 : EvB K ta ρ none (.int a) none) (h2 : EvB K tb ρ none (.int b) none) (h3 : EvB K tc ρ none (.int c) none) (h4 : EvB K td ρ none (.int d) none) : EvB K (tTup (tCons (tTup (tCons ta (tCons tb tNil))) (tCons (tTup (tCons tc (tCons td tNil))) tNil))) ρ none (.tuple (([[a, b], [c, d]] : List (List Int)).map tupI)) none :=
  d_tup (ds := [tupI [a, b], tupI [c, d]]) (a_con (β1 := none) (d_tup (ds := [.int a, .int b]) (a_con (β1 := none) h1 (a_con (β1 := none) h2 a_nil)) rfl (Nat.le_of_ble_eq_true rfl)) (a_con (β1 := none) (d_tup (ds := [.int c, .int d]) (a_con (β1 := none) h3 (a_con (β1 := none) h4 a_nil)) rfl (Nat.le_of_ble_eq_true rfl)) a_nil)) rfl (Nat.le_of_ble_eq_true rfl)
theorem ok_a : RowsOk 0 2 [[2, 1], [1, 1]] := rows_two (.inl rfl) (by decide +kernel)
theorem ok_b : RowsOk 5 2 [[2, 1], [1, 3]] := rows_two (.inr (by decide)) (by decide +kernel)
theorem ok_c : RowsOk 0 2 [[1, 2], [3, 4]] := rows_two (.inl rfl) (by decide +kernel)
theorem ok_d : RowsOk 3 2 [[1, 1], [0, 1]] := rows_two (.inr (by decide)) (by decide +kernel)
theorem det_a : Num.settled 0 (Det.detL (2 - 1) [[2, 1], [1, 1]]) = 1 := by decide +kernel
theorem det_b : Num.settled 5 (Det.detL (2 - 1) [[2, 1], [1, 3]]) = 0 := by decide +kernel
theorem det_c : Num.settled 0 (Det.detL (2 - 1) [[1, 2], [3, 4]]) ≠ 0 := by decide +kernel
theorem det_d : Num.settled 3 (Det.detL (2 - 1) [[1, 1], [0, 1]]) ≠ 0 := by decide +kernel
theorem und_c : Num.made 0 (undL 0 [[1, 2], [3, 4]]) = [4, -2, -3, 1] := by decide +kernel
theorem und_d : Num.made 3 (undL 3 [[1, 1], [0, 1]]) = [1, 2, 0, 1] := by decide +kernel
theorem mk_c : Num.MadeOk 0 (undL 0 [[1, 2], [3, 4]]) := by
  obtain ⟨_, _, _, u⟩ := und_ok ok_c (.inl rfl) (by decide +kernel) det_c
  exact u.mk1
theorem mk_d : Num.MadeOk 3 (undL 3 [[1, 1], [0, 1]]) := by
  obtain ⟨_, _, _, u⟩ := und_ok ok_d (.inl rfl) (by decide +kernel) det_d
  exact u.mk1


abbrev s_law : Stmt := top 63
theorem sc_law : FnScope ["_law_script", "_law_spot", "_law_bag_here", "_law_prime", "_law_turn", "_law_told"] ["_law_script"] (defScope s_law) := ⟨rfl, rfl, rfl, by decide +kernel, rfl, by decide +kernel, by decide +kernel⟩
abbrev R_law : PySem.W.Frag → Sp := spLaw
theorem ok_law {P : Program} {w : World} {K : PySem.W.Frag} {mg : Str → Option Value} {base : Heap}  (F : DefAt K "law" s_law) (hX : K.In base) (hG : base.Ns mainGlobals mg) {Y : Cn} (T : Txt K mg Y)  (G_law_bag : FnS P w K mg base 1 "_law_bag" ["_law_script", "_law_spot"] (R_law_bag K)) (G_law_one_of : FnG P w K mg base 2 "_law_one_of" ["_law_bag_here", "_law_items"] R_law_one_of) (G_determinant : FnX P w K mg base 9 "determinant" ["prime", "table"] (R_determinant Y)) (G_undone : FnX P w K mg base 9 "undone" ["prime", "table"] (R_undone Y)) (G_law_bounds_right : FnH P w K mg base 12 "_law_bounds_right" ["_law_prime"] R_law_bounds_right) (G_law_errors_right : FnH P w K mg base 12 "_law_errors_right" ["_law_bag_here", "_law_prime"] R_law_errors_right) (G_law_determinants_right : FnG P w K mg base 10 "_law_determinants_right" ["_law_bag_here", "_law_prime"] R_law_determinants_right) (G_law_undone_right : FnH P w K mg base 12 "_law_undone_right" ["_law_bag_here", "_law_prime"] R_law_undone_right) : FnSG P w K mg base 13 "law" ["_law_script"] (R_law K) := by
  have nd := sc_law.nd
  refine fnSG_mk F hX hG sc_law ?len (fun _ _ _ _ _ _ _ us hl => match us, hl with | [_], _ => rfl) (fun f cdv A outer s H E hr => ⟨_, (pss_cons (ps_for PassesOwn.never rfl (pi_range1 (by rfl) T.z_range (pa_cons (pe_callB (c_max2 rfl) (by rfl) T.z_max bo_max (pa_cons pe_int (pa_cons (pe_callB (c_min2 rfl) (by rfl) T.z_min bo_min (pa_cons pe_int (pa_cons (pe_callB (c_lenK (K := K)) (by rfl) T.z_len bo_len (pa_cons (pv 0) pa_nil)) pa_nil))) pa_nil))) pa_nil)) (pg_name (i := 1) nd rfl (Or.inl rfl)) (pss_cons (ps_set (i := 2) nd rfl (Or.inl rfl) (pe_fnS G_law_bag (hr.toRoom.mono (by decide)) (pa_cons (pv 0) (pa_cons (pv 1) pa_nil)))) (pss_cons (ps_set (i := 3) nd rfl (Or.inl rfl) (pe_fn G_law_one_of (hr.toRoom.mono (by decide)) (pa_cons (pv 2) (pa_cons (pe_lst (pa_cons pe_int (pa_cons pe_int (pa_cons pe_int (pa_cons pe_int (pa_cons pe_int (pa_cons pe_int (pa_cons pe_int (pa_cons pe_int pa_nil))))))))) pa_nil)))) (pss_cons (ps_for PassesOwn.never rfl (pi_range1 (by rfl) T.z_range (pa_cons pe_int pa_nil)) (pg_name (i := 4) nd rfl (Or.inl rfl)) (pss_one (ps_if (PW.pt (pw_or (pt_not (pt_val (pe_fn G_law_determinants_right (hr.toRoom.mono (by decide)) (pa_cons (pv 2) (pa_cons (pv 3) pa_nil))))) (pw_or1 (pt_not (pt_val (pe_fnH G_law_undone_right (hr.mono (by decide)) (pa_cons (pv 2) (pa_cons (pv 3) pa_nil)))))))) (pss_one (ps_ret pe_bl)) pss_nil))) (pss_one (ps_if (pt_not (pt_val (pe_fnH G_law_errors_right (hr.mono (by decide)) (pa_cons (pv 2) (pa_cons (pv 3) pa_nil))))) (pss_one (ps_ret pe_bl)) pss_nil)))))) (pss_cons (ps_set (i := 5) nd rfl (Or.inl rfl) (pe_lst (pa_cons (pe_fnX (E := E0) G_determinant (hr.toRoom.mono (by decide)) passL (pa_cons pe_int (pa_cons (pe_tup (pa_cons (pe_tup (pa_cons pe_int (pa_cons pe_int pa_nil))) (pa_cons (pe_tup (pa_cons pe_int (pa_cons pe_int pa_nil))) pa_nil))) pa_nil))) (pa_cons (pe_fnX (E := E0) G_determinant (hr.toRoom.mono (by decide)) passL (pa_cons pe_int (pa_cons (pe_tup (pa_cons (pe_tup (pa_cons pe_int (pa_cons pe_int pa_nil))) (pa_cons (pe_tup (pa_cons pe_int (pa_cons pe_int pa_nil))) pa_nil))) pa_nil))) (pa_cons (pe_fnX (E := E0) G_undone (hr.toRoom.mono (by decide)) passL (pa_cons pe_int (pa_cons (pe_tup (pa_cons (pe_tup (pa_cons pe_int (pa_cons pe_int pa_nil))) (pa_cons (pe_tup (pa_cons pe_int (pa_cons pe_int pa_nil))) pa_nil))) pa_nil))) (pa_cons (pe_fnX (E := E0) G_undone (hr.toRoom.mono (by decide)) passL (pa_cons pe_int (pa_cons (pe_tup (pa_cons (pe_tup (pa_cons pe_int (pa_cons pe_int pa_nil))) (pa_cons (pe_tup (pa_cons pe_int (pa_cons pe_int pa_nil))) pa_nil))) pa_nil))) pa_nil)))))) (pss_one (ps_ret (pe_and (pe_cmpR (op_eqD hr.units) (pv 5) (pe_lst (pa_cons pe_int (pa_cons pe_int (pa_cons (pe_tup (pa_cons (pe_tup (pa_cons pe_int (pa_cons (pe_un un_neg pe_int) pa_nil))) (pa_cons (pe_tup (pa_cons (pe_un un_neg pe_int) (pa_cons pe_int pa_nil))) pa_nil))) (pa_cons (pe_tup (pa_cons (pe_tup (pa_cons pe_int (pa_cons pe_int pa_nil))) (pa_cons (pe_tup (pa_cons pe_int (pa_cons pe_int pa_nil))) pa_nil))) pa_nil))))) (nomark _)) (pe_and (pe_fnH G_law_bounds_right (hr.mono (by decide)) (pa_cons pe_int pa_nil)) (pe_one (pe_fnH G_law_bounds_right (hr.mono (by decide)) (pa_cons pe_int pa_nil))))))))), fun vs H Q E hsp => ?run⟩)
  case len =>
    rintro vs H Q E ⟨a, ns, G, rfl, _⟩
    rfl
  case run =>
    dsimp only [cxOf, Cx.nox, Cx.wish]
    obtain ⟨a, ns, G, rfl, eG, tbG, hS, hl, k⟩ := hsp
    refine ⟨_, rfl, a, ns.map V.int, rfl, .inl (ex_l eG hS), ?_⟩
    refine ⟨3, _, rfl, ?_⟩
    refine ⟨1, _, rfl, ?_⟩
    refine ⟨_, rfl, ?_, ?_, ?_⟩
    · split <;> split <;> omega
    · rw [List.length_map]; split <;> split <;> omega
    refine for_range (lo := 0) (n := _) (fun i σ' H' => ∃ G', Ex G' H' ∧ TabsOk G' H' ∧ σ'.length = 6 ∧ σ'[0]? = some (some (.ref a)) ∧ SqL K G' a (ns.map V.int)) ⟨G, eG, tbG, rfl, rfl, hS⟩ ?_ ?_
    · rintro i σ' H' hi ⟨G', e, tb, hl6, h0, hS'⟩
      have hi3 : i < 3 := by
        have : (if (if ((ns.map V.int).length : Int) < 3 then ((ns.map V.int).length : Int) else 3) > 1 then (if ((ns.map V.int).length : Int) < 3 then ((ns.map V.int).length : Int) else 3) else 1) ≤ (3 : Int) := by split <;> split <;> omega
        omega
      have q0 : (σ'.set 1 (some (V.int (0 + (i : Int)))))[0]? = some (some (.ref a)) := by rw [List.getElem?_set_ne (by decide)]; exact h0
      have q1 : (σ'.set 1 (some (V.int (0 + (i : Int)))))[1]? = some (some (.int (0 + (i : Int)))) := List.getElem?_set_self (by omega)
      refine ⟨_, q0, _, q1, a, ns, 0 + (i : Int), G', rfl, e, tb, hS', by omega, by omega, fun p G2 H2 bag s2 gp hp hbag => ?_⟩
      have hlen : ((σ'.set 1 (some (V.int (0 + (i : Int))))).set 2 (some (V.ref p))).length = 6 := by rw [List.length_set, List.length_set]; exact hl6
      have q2 : ((σ'.set 1 (some (V.int (0 + (i : Int))))).set 2 (some (V.ref p)))[2]? = some (some (.ref p)) := List.getElem?_set_self (by rw [List.length_set]; omega)
      have q20 : ((σ'.set 1 (some (V.int (0 + (i : Int))))).set 2 (some (V.ref p)))[0]? = some (some (.ref a)) := by rw [List.getElem?_set_ne (by decide)]; exact q0
      have E5 : EnvD K p (some bag) G2 H2 ((σ'.set 1 (some (V.int (0 + (i : Int))))).set 2 (some (V.ref p))) [some (.fn a), none, some .bag, none, none, none] := by
        refine ⟨s2.s, fun ms em => (by cases em; exact ⟨hp, gp⟩), hlen, fun j d hj => ?_, fun j hj => ?_, s2.tabs tb, fun j a hj => ?_⟩
        · match j, hj with
          | 0, hj => cases hj
          | 1, hj => cases hj
          | 2, hj => cases hj
          | 3, hj => cases hj
          | 4, hj => cases hj
          | 5, hj => cases hj
          | n + 6, hj => cases hj
        · match j, hj with
          | 0, hj => cases hj
          | 1, hj => cases hj
          | 2, hj => exact q2
          | 3, hj => cases hj
          | 4, hj => cases hj
          | 5, hj => cases hj
          | n + 6, hj => cases hj
        · match j, hj with
          | 0, hj => cases hj; exact q20
          | 1, hj => cases hj
          | 2, hj => cases hj
          | 3, hj => cases hj
          | 4, hj => cases hj
          | 5, hj => cases hj
          | n + 6, hj => cases hj
      have hq := law_primeI (Num.one_mem (xs := lawPrimes) (by decide) bag)
      have hb0 := Num.one_bag (xs := lawPrimes) (by decide) hbag
      generalize eq : (Num.oneF lawPrimes bag).1 = q at hq
      generalize eb : (Num.oneF lawPrimes bag).2 = bag1 at hb0
      have ht : ∀ (x : Option Slot) (ms : List Int), (∃ n, Num.BagI n ms) → TtB K (tOr (tNot (tB (tCall (spR K R_law_determinants_right) [] E0 (tCons (tVar 2) (tCons (tVar 3) tNil))))) (tNot (tB (tCall (spR K R_law_undone_right) [] E0 (tCons (tVar 2) (tCons (tVar 3) tNil)))))) [some (.fn a), none, some .bag, some (.imm (.int q)), x, none] (some ms) false (some (undBag q (detBag q ms))) := fun x ms hm => by
        obtain ⟨n1, h1⟩ := hm
        obtain ⟨n2, h2⟩ := det_bag hq ⟨n1, h1⟩
        exact t_orF (t_not (t_B (c_fD (K := K) (E := E0) (a := fun p : Int => [.imm (.int p)]) (P := Num.PrimeI) (g := fun p ns => (.bool true, detBag p ns)) (x := q) (t := tCons (tVar 2) (tCons (tVar 3) tNil)) (a_bg rfl (a_con (d_var rfl) a_nil)) hq h1)))
          (t_not (t_B (c_fD (K := K) (E := E0) (a := fun p : Int => [.imm (.int p)]) (P := Num.PrimeI) (g := fun p ns => (.bool true, undBag p ns)) (x := q) (t := tCons (tVar 2) (tCons (tVar 3) tNil)) (a_bg rfl (a_con (d_var rfl) a_nil)) hq h2)))
      have hb1 := und_bag hq (det_bag hq ⟨_, hb0⟩)
      have hb2 := und_bag hq (det_bag hq hb1)
      have hst : StB K (tSeq (tAsg (tCall (spR K R_law_one_of) [] E0 (tCons (tVar 2) (tCons (tLst (tCons (tC (.int 0)) (tCons (tC (.int 0)) (tCons (tC (.int 0)) (tCons (tC (.int 2)) (tCons (tC (.int 3)) (tCons (tC (.int 5)) (tCons (tC (.int 7)) (tCons (tC (.int 13)) tNil))))))))) tNil))) (gName 3)) (tSeq (tFor (iRng1 (tCons (tC (.int 2)) tNil)) (gName 4) (tIfS (tOr (tNot (tB (tCall (spR K R_law_determinants_right) [] E0 (tCons (tVar 2) (tCons (tVar 3) tNil))))) (tNot (tB (tCall (spR K R_law_undone_right) [] E0 (tCons (tVar 2) (tCons (tVar 3) tNil)))))) (tRet (tC (.bl false))) tNext)) (tIfS (tNot (tB (tCall (spR K R_law_errors_right) [] E0 (tCons (tVar 2) (tCons (tVar 3) tNil))))) (tRet (tC (.bl false))) tNext))) [some (.fn a), none, some .bag, none, none, none] (some bag) (.nx [some (.fn a), none, some .bag, some (.imm (.int q)), some (.imm (.int 1)), none]) (some (errBag (undBag q (detBag q (undBag q (detBag q bag1)))))) := by
        refine st_seq (β1 := some bag1) (ρ1 := [some (.fn a), none, some .bag, some (.imm (.int q)), none, none]) ?one (st_seq (β1 := some (undBag q (detBag q (undBag q (detBag q bag1))))) (st_forR1 (β1 := some bag1) (i := 2) d_int (by decide) (show ForR K 4 _ [.int 0, .int 1] _ _ _ _ from .nx (st_ifF (ht _ bag1 ⟨_, hb0⟩) st_next) (.nx (st_ifF (ht _ _ hb1) st_next) (.nil _ _)))) (st_ifF ?err st_next))
        case one =>
          have h1 := c_oneI (K := K) (ρ := [some (.fn a), none, some .bag, none, none, none]) (i := 2) (E := E0) (xs := lawPrimes) (ns := bag) (tl := tLst (tCons (tC (.int 0)) (tCons (tC (.int 0)) (tCons (tC (.int 0)) (tCons (tC (.int 2)) (tCons (tC (.int 3)) (tCons (tC (.int 5)) (tCons (tC (.int 7)) (tCons (tC (.int 13)) tNil))))))))) rfl (d_lst (a_con (β1 := some bag) d_int (a_con (β1 := some bag) d_int (a_con (β1 := some bag) d_int (a_con (β1 := some bag) d_int (a_con (β1 := some bag) d_int (a_con (β1 := some bag) d_int (a_con (β1 := some bag) d_int (a_con (β1 := some bag) d_int a_nil)))))))) rfl (by decide)) (by decide) (by decide) ⟨_, hbag⟩
          rw [eq, eb] at h1
          exact st_asg h1
        case err =>
          obtain ⟨n2, h2⟩ := hb2
          exact t_not (t_B (c_fD (K := K) (E := E0) (a := fun p : Int => [.imm (.int p)]) (P := Num.PrimeI) (g := fun p ns => (.bool true, errBag ns)) (x := q) (t := tCons (tVar 2) (tCons (tVar 3) tNil)) (a_bg rfl (a_con (d_var rfl) a_nil)) hq h2))
      exact hst.run p G2 H2 _ _ E5 fun σ3 G3 H3 s3 E3 => ⟨G3, E3.sub, E3.tabs, E3.len, E3.fnv 0 a rfl, ex_l (s2.g.trans s3.g) hS'⟩
    · rintro σ' H' ⟨G', e, tb, hl6, h0, hS'⟩
      have E5 : EnvD K 0 none G' H' σ' [none, none, none, none, none, none] := by
        refine ⟨e, (fun _ z => nomatch z), hl6, fun j d hj => ?_, fun j hj => ?_, tb, fun j a hj => ?_⟩
        · match j, hj with
          | 0, hj => cases hj
          | 1, hj => cases hj
          | 2, hj => cases hj
          | 3, hj => cases hj
          | 4, hj => cases hj
          | 5, hj => cases hj
          | n + 6, hj => cases hj
        · match j, hj with
          | 0, hj => cases hj
          | 1, hj => cases hj
          | 2, hj => cases hj
          | 3, hj => cases hj
          | 4, hj => cases hj
          | 5, hj => cases hj
          | n + 6, hj => cases hj
        · match j, hj with
          | 0, hj => cases hj
          | 1, hj => cases hj
          | 2, hj => cases hj
          | 3, hj => cases hj
          | 4, hj => cases hj
          | 5, hj => cases hj
          | n + 6, hj => cases hj
      dsimp only []
      refine StB.run (o := .ret (.bool true)) (β' := none) ?st 0 G' H' σ' _ E5 fun v G2 H2 s2 k2 d2 => ?_
      case st =>
        refine st_sq (st_asg (d := .list lastD) (d_lst (ds := lastD)
          (a_con (β1 := none) ((c_det (Y := Y) d_int (d_two d_int d_int d_int d_int) ok_a).to (congrArg PyData.int det_a))
          (a_con (β1 := none) ((c_det (Y := Y) d_int (d_two d_int d_int d_int d_int) ok_b).to (congrArg PyData.int det_b))
          (a_con (β1 := none) (c_und (Y := Y) (U := [[4, -2], [-3, 1]]) d_int (d_two d_int d_int d_int d_int) ok_c (by decide) (by decide) det_c mk_c (by rw [und_c]; rfl))
          (a_con (β1 := none) (c_und (Y := Y) (U := [[1, 2], [0, 1]]) d_int (d_two d_int d_int d_int d_int) ok_d (by decide) (by decide) det_d mk_d (by rw [und_d]; rfl))
           a_nil)))) rfl (Nat.le_of_ble_eq_true rfl))) ?_
        show StB K _ [none, none, none, none, none, some (.imm (.list lastD))] none _ _
        refine st_ret (d_andT ((d_eqD (x := .list lastD) (y := .list lastD) (d_var rfl) (d_lst (ds := lastD) (a_con (β1 := none) d_int (a_con (β1 := none) d_int (a_con (β1 := none) (d_two d_int (d_neg d_int) (d_neg d_int) d_int) (a_con (β1 := none) (d_two d_int d_int d_int d_int) a_nil)))) rfl (Nat.le_of_ble_eq_true rfl)) (by decide +kernel) (by decide +kernel) (by decide +kernel) (by decide +kernel)).to (congrArg PyData.bool (show PyData.eqv (.list lastD) (.list lastD) = true by decide +kernel)))
          (d_andT (c_f1 (K := K) (E := E0) (a := PyData.int) (P := P07) (g := fun _ => .bool true) (x := 0) (ta := tC (.int 0)) d_int (.inl rfl)) (c_f1 (K := K) (E := E0) (a := PyData.int) (P := P07) (g := fun _ => .bool true) (x := 7) (ta := tC (.int 7)) d_int (.inr rfl))))
      · cases d2
        exact k H2

end K03
/-! ## K03m -/
set_option Elab.async false
set_option linter.all false
set_option maxRecDepth 100000
set_option maxHeartbeats 5000000
namespace K03
open PySem L2 TD PySem.Spec PyProof.Rows
theorem ve_ArithmeticError : ∀ o : Value, refuseLoop o "__setattr__" [.type "ArithmeticError", .type "Exception", .type "BaseException", .type "object"] = pure () := fun o => by rfl
structure DefsAt (K : PySem.W.Frag) (c1 c2 c3 : Addr) : Prop where
  d_is_integer : DefAt K "is_integer" s_is_integer
  d_is_prime : DefAt K "is_prime" s_is_prime
  d_need_prime : DefAt K "need_prime" s_need_prime
  d_fits : DefAt K "fits" s_fits
  d_all_fit : DefAt K "all_fit" s_all_fit
  d_settled : DefAt K "settled" s_settled
  d_inverse_of : DefAt K "inverse_of" s_inverse_of
  d_divisor_of : DefAt K "divisor_of" s_divisor_of
  d_made_normal : DefAt K "made_normal" s_made_normal
  d_is_table : DefAt K "is_table" s_is_table
  d_is_square : DefAt K "is_square" s_is_square
  d_need_table : DefAt K "need_table" s_need_table
  d_need_square : DefAt K "need_square" s_need_square
  d_lowered : DefAt K "lowered" s_lowered
  d_steps_of : DefAt K "steps_of" s_steps_of
  d_rank_of : DefAt K "rank_of" s_rank_of
  d_echelon_of : DefAt K "echelon_of" s_echelon_of
  d_freed : DefAt K "freed" s_freed
  d_kernel_of : DefAt K "kernel_of" s_kernel_of
  d_rank : DefAt K "rank" s_rank
  d_echelon : DefAt K "echelon" s_echelon
  d_is_mix : DefAt K "is_mix" s_is_mix
  d_kernel : DefAt K "kernel" s_kernel
  d_sent_by : DefAt K "sent_by" s_sent_by
  d_sent : DefAt K "sent" s_sent
  d_minor : DefAt K "minor" s_minor
  d_determinant_of_rows : DefAt K "determinant_of_rows" s_determinant_of_rows
  d_determinant : DefAt K "determinant" s_determinant
  d_undone : DefAt K "undone" s_undone
  d_law_bag : DefAt K "_law_bag" s_law_bag
  d_law_grab : DefAt K "_law_grab" s_law_grab
  d_law_one_of : DefAt K "_law_one_of" s_law_one_of
  d_law_mixed : DefAt K "_law_mixed" s_law_mixed
  d_law_low : DefAt K "_law_low" s_law_low
  d_law_common : DefAt K "_law_common" s_law_common
  d_law_back : DefAt K "_law_back" s_law_back
  d_law_normal : DefAt K "_law_normal" s_law_normal
  d_law_number : DefAt K "_law_number" s_law_number
  d_law_word : DefAt K "_law_word" s_law_word
  d_law_value_of : DefAt K "_law_value_of" s_law_value_of
  d_law_square : DefAt K "_law_square" s_law_square
  d_law_given : DefAt K "_law_given" s_law_given
  d_law_determinants_right : DefAt K "_law_determinants_right" s_law_determinants_right
  d_law_undone_right : DefAtC K "_law_undone_right" s_law_undone_right c1
  d_law_errors_right : DefAtC K "_law_errors_right" s_law_errors_right c2
  d_law_bounds_right : DefAtC K "_law_bounds_right" s_law_bounds_right c3
  d_law : DefAt K "law" s_law
theorem all_mk [iT : TabW] {l : PySem.W.OpenLaw} {w : World} {K : PySem.W.Frag} {h : Heap} {mg : Str → Option Value} {fa aP cN cB cO cR c1 P1 c2 P2 c3 P3 : Addr} {tg tr tw ts : Tok} {t1 t2 t3 t4 t5 t6 t7 t8 : Tok} {odP : Option Addr} {nP : Nat} {slP : Array (Option Value)} (X : K.In h) (G : h.Ns mainGlobals mg) (hfa : mg "law" = some (.ref fa)) (D : DefsAt K c1 c2 c3)
    (z_abs : PySem.W.nsIn K mainGlobals "abs" = some none)
    (z_all : PySem.W.nsIn K mainGlobals "all" = some none)
    (z_any : PySem.W.nsIn K mainGlobals "any" = some none)
    (z_bool : PySem.W.nsIn K mainGlobals "bool" = some none)
    (z_enumerate : PySem.W.nsIn K mainGlobals "enumerate" = some none)
    (z_int : PySem.W.nsIn K mainGlobals "int" = some none)
    (z_isinstance : PySem.W.nsIn K mainGlobals "isinstance" = some none)
    (z_len : PySem.W.nsIn K mainGlobals "len" = some none)
    (z_list : PySem.W.nsIn K mainGlobals "list" = some none)
    (z_max : PySem.W.nsIn K mainGlobals "max" = some none)
    (z_min : PySem.W.nsIn K mainGlobals "min" = some none)
    (z_range : PySem.W.nsIn K mainGlobals "range" = some none)
    (z_repr : PySem.W.nsIn K mainGlobals "repr" = some none)
    (z_sorted : PySem.W.nsIn K mainGlobals "sorted" = some none)
    (z_sum : PySem.W.nsIn K mainGlobals "sum" = some none)
    (z_tuple : PySem.W.nsIn K mainGlobals "tuple" = some none)
    (z_zip : PySem.W.nsIn K mainGlobals "zip" = some none)
    (m_gcd : PySem.W.nsIn K mainGlobals "gcd" = some (some (.builtin "math.gcd")))
    (cTG : PySem.W.nsIn K mainGlobals "TOO_GREAT" = some (some (.int 1000000000000000000000000000000000000000000000000000000000000 tg))) (cMR : PySem.W.nsIn K mainGlobals "MAX_ROWS" = some (some (.int 90 tr))) (cMW : PySem.W.nsIn K mainGlobals "MAX_WIDTH" = some (some (.int 140 tw))) (cMS : PySem.W.nsIn K mainGlobals "MAX_SQUARE" = some (some (.int 6 ts))) (cP : PySem.W.nsIn K mainGlobals "PRIMES" = some (some (.ref aP)))
    (lP : K.lookup aP = some ⟨.type "tuple", odP, .seq #[.int 2 t1, .int 3 t2, .int 5 t3, .int 7 t4, .int 11 t5, .int 13 t6, .int 17 t7, .int 19 t8] nP, slP⟩)
    (oN : OwnC K mg "InvalidNumber" "given" cN) (oR : OwnC K mg "Refused" "reason" cR) (bB : BareC K mg "InvalidTable" cB) (bO : BareC K mg "InvalidOperation" cO)
    (eNN : PySem.W.exmOne K (.ref cN) (.ref cN) = some true)
    (eBN : PySem.W.exmOne K (.ref cB) (.ref cN) = some false)
    (eBB : PySem.W.exmOne K (.ref cB) (.ref cB) = some true)
    (eON : PySem.W.exmOne K (.ref cO) (.ref cN) = some false)
    (eOB : PySem.W.exmOne K (.ref cO) (.ref cB) = some false)
    (eOO : PySem.W.exmOne K (.ref cO) (.ref cO) = some true)
    (eRN : PySem.W.exmOne K (.ref cR) (.ref cN) = some false)
    (eRB : PySem.W.exmOne K (.ref cR) (.ref cB) = some false)
    (eRO : PySem.W.exmOne K (.ref cR) (.ref cO) = some false)
    (eRR : PySem.W.exmOne K (.ref cR) (.ref cR) = some true)
    (n12 : P1 ≠ P2)
    (n13 : P1 ≠ P3)
    (n23 : P2 ≠ P3)
    (hw : ∀ Q q, TabW.w Q q ↔ (Q, q) ∈ (⟨tg, tr, tw, ts, aP, cN, cB, cO, cR, c1, P1, c2, P2, c3, P3⟩ : Cn).T) :
    ∃ fd : FuncData, (∀ (s : Shared) (v : Value), BindsTo s fd ⟨[v], []⟩ [("_law_script", v)]) ∧ ∀ base : Heap, K.In base → base.Ns mainGlobals mg → (∀ p ∈ [(c1, P1), (c2, P2), (c3, P3)], LamX.TabB base mg p.1 p.2) → FnOkG l.prog w K mg base CX0 13 fa fd ["_law_script"] (spLaw K) := by
  have T : Txt K mg ⟨tg, tr, tw, ts, aP, cN, cB, cO, cR, c1, P1, c2, P2, c3, P3⟩ := {
    z_abs := PySem.W.mg_none_of X G z_abs
    z_all := PySem.W.mg_none_of X G z_all
    z_any := PySem.W.mg_none_of X G z_any
    z_bool := PySem.W.mg_none_of X G z_bool
    z_enumerate := PySem.W.mg_none_of X G z_enumerate
    z_int := PySem.W.mg_none_of X G z_int
    z_isinstance := PySem.W.mg_none_of X G z_isinstance
    z_len := PySem.W.mg_none_of X G z_len
    z_list := PySem.W.mg_none_of X G z_list
    z_max := PySem.W.mg_none_of X G z_max
    z_min := PySem.W.mg_none_of X G z_min
    z_range := PySem.W.mg_none_of X G z_range
    z_repr := PySem.W.mg_none_of X G z_repr
    z_sorted := PySem.W.mg_none_of X G z_sorted
    z_sum := PySem.W.mg_none_of X G z_sum
    z_tuple := PySem.W.mg_none_of X G z_tuple
    z_zip := PySem.W.mg_none_of X G z_zip
    m_gcd := PySem.W.mg_of X G m_gcd
    o_InvalidNumber := oN
    o_Refused := oR
    b_InvalidTable := bB
    b_InvalidOperation := bO
    eNN := eNN
    eBN := eBN
    eBB := eBB
    eON := eON
    eOB := eOB
    eOO := eOO
    eRN := eRN
    eRB := eRB
    eRO := eRO
    eRR := eRR
    n12 := n12
    n13 := n13
    n23 := n23
    tabw := hw
    c_TOO_GREAT := PySem.W.mg_of X G cTG
    c_MAX_ROWS := PySem.W.mg_of X G cMR
    c_MAX_WIDTH := PySem.W.mg_of X G cMW
    c_MAX_SQUARE := PySem.W.mg_of X G cMS
    c_PRIMES := PySem.W.mg_of X G cP
    q_PRIMES := fun H => den_ints (ns := Num.primes) lP rfl rfl (by show 8 ≤ sizeLine; decide) (.cons ⟨_, rfl⟩ (.cons ⟨_, rfl⟩ (.cons ⟨_, rfl⟩ (.cons ⟨_, rfl⟩ (.cons ⟨_, rfl⟩ (.cons ⟨_, rfl⟩ (.cons ⟨_, rfl⟩ (.cons ⟨_, rfl⟩ .nil)))))))) H }
  have all : ∀ base : Heap, K.In base → base.Ns mainGlobals mg → (∀ p ∈ [(c1, P1), (c2, P2), (c3, P3)], LamX.TabB base mg p.1 p.2) → FnSG l.prog w K mg base 13 "law" ["_law_script"] (spLaw K) := by
    intro base hX hG hTB
    have TB1 := tb_one (Y := ⟨tg, tr, tw, ts, aP, cN, cB, cO, cR, c1, P1, c2, P2, c3, P3⟩) (hTB (c1, P1) (List.mem_cons_self ..)) n12 n13
    have TB2 := tb_two (Y := ⟨tg, tr, tw, ts, aP, cN, cB, cO, cR, c1, P1, c2, P2, c3, P3⟩) (hTB (c2, P2) (List.mem_cons_of_mem _ (List.mem_cons_self ..))) n12 n23
    have TB3 := tb_three (Y := ⟨tg, tr, tw, ts, aP, cN, cB, cO, cR, c1, P1, c2, P2, c3, P3⟩) (hTB (c3, P3) (List.mem_cons_of_mem _ (List.mem_cons_of_mem _ (List.mem_cons_self ..)))) n13 n23
    have WA : WordAt K mg "_law_word" s_law_word := wordAt_of D.d_law_word hX hG
    have G_is_integer : FnG l.prog w K mg base 1 "is_integer" ["value"] R_is_integer := ok_is_integer D.d_is_integer hX hG T 
    have G_is_prime : FnG l.prog w K mg base 2 "is_prime" ["value"] R_is_prime := ok_is_prime D.d_is_prime hX hG T (G_is_integer := G_is_integer)
    have G_need_prime : FnX l.prog w K mg base 3 "need_prime" ["prime"] (R_need_prime ⟨tg, tr, tw, ts, aP, cN, cB, cO, cR, c1, P1, c2, P2, c3, P3⟩) := ok_need_prime D.d_need_prime hX hG T (G_is_prime := G_is_prime)
    have G_fits : FnG l.prog w K mg base 2 "fits" ["prime", "value"] R_fits := ok_fits D.d_fits hX hG T (G_is_integer := G_is_integer)
    have G_all_fit : FnG l.prog w K mg base 3 "all_fit" ["prime", "value", "many"] R_all_fit := ok_all_fit D.d_all_fit hX hG T (G_fits := G_fits)
    have G_settled : FnG l.prog w K mg base 1 "settled" ["prime", "number"] R_settled := ok_settled D.d_settled hX hG T 
    have G_inverse_of : FnG l.prog w K mg base 1 "inverse_of" ["prime", "number"] R_inverse_of := ok_inverse_of D.d_inverse_of hX hG T 
    have G_divisor_of : FnG l.prog w K mg base 1 "divisor_of" ["numbers"] R_divisor_of := ok_divisor_of D.d_divisor_of hX hG T 
    have G_made_normal : FnG l.prog w K mg base 2 "made_normal" ["prime", "numbers"] R_made_normal := ok_made_normal D.d_made_normal hX hG T (G_divisor_of := G_divisor_of) (G_inverse_of := G_inverse_of)
    have G_is_table : FnG l.prog w K mg base 4 "is_table" ["prime", "value"] R_is_table := ok_is_table D.d_is_table hX hG T (G_all_fit := G_all_fit)
    have G_is_square : FnG l.prog w K mg base 5 "is_square" ["prime", "value", "least", "most"] R_is_square := ok_is_square D.d_is_square hX hG T (G_is_table := G_is_table)
    have G_need_table : FnX l.prog w K mg base 5 "need_table" ["prime", "table"] (R_need_table ⟨tg, tr, tw, ts, aP, cN, cB, cO, cR, c1, P1, c2, P2, c3, P3⟩) := ok_need_table D.d_need_table hX hG T (G_need_prime := G_need_prime) (G_is_table := G_is_table)
    have G_need_square : FnX l.prog w K mg base 6 "need_square" ["prime", "table", "least", "most"] (R_need_square ⟨tg, tr, tw, ts, aP, cN, cB, cO, cR, c1, P1, c2, P2, c3, P3⟩) := ok_need_square D.d_need_square hX hG T (G_need_prime := G_need_prime) (G_is_square := G_is_square)
    have G_lowered : FnG l.prog w K mg base 2 "lowered" ["prime", "row", "step", "at"] R_lowered := ok_lowered D.d_lowered hX hG T (G_divisor_of := G_divisor_of)
    have G_steps_of : FnG l.prog w K mg base 3 "steps_of" ["prime", "rows"] R_steps_of := ok_steps_of D.d_steps_of hX hG T (G_lowered := G_lowered) (G_made_normal := G_made_normal)
    have G_rank_of : FnG l.prog w K mg base 4 "rank_of" ["prime", "rows"] R_rank_of := ok_rank_of D.d_rank_of hX hG T (G_steps_of := G_steps_of)
    have G_echelon_of : FnG l.prog w K mg base 4 "echelon_of" ["prime", "rows"] R_echelon_of := ok_echelon_of D.d_echelon_of hX hG T (G_steps_of := G_steps_of)
    have G_freed : FnG l.prog w K mg base 2 "freed" ["prime", "steps", "free", "width"] R_freed := ok_freed D.d_freed hX hG T 
    have G_kernel_of : FnG l.prog w K mg base 5 "kernel_of" ["prime", "rows", "width"] R_kernel_of := ok_kernel_of D.d_kernel_of hX hG T (G_echelon_of := G_echelon_of) (G_made_normal := G_made_normal) (G_freed := G_freed)
    have G_rank : FnX l.prog w K mg base 6 "rank" ["prime", "table"] (R_rank ⟨tg, tr, tw, ts, aP, cN, cB, cO, cR, c1, P1, c2, P2, c3, P3⟩) := ok_rank D.d_rank hX hG T (G_need_table := G_need_table) (G_rank_of := G_rank_of)
    have G_echelon : FnX l.prog w K mg base 6 "echelon" ["prime", "table"] (R_echelon ⟨tg, tr, tw, ts, aP, cN, cB, cO, cR, c1, P1, c2, P2, c3, P3⟩) := ok_echelon D.d_echelon hX hG T (G_need_table := G_need_table)
    have G_is_mix : FnX l.prog w K mg base 6 "is_mix" ["prime", "table", "value"] (R_is_mix ⟨tg, tr, tw, ts, aP, cN, cB, cO, cR, c1, P1, c2, P2, c3, P3⟩) := ok_is_mix D.d_is_mix hX hG T (G_need_table := G_need_table) (G_all_fit := G_all_fit)
    have G_kernel : FnX l.prog w K mg base 6 "kernel" ["prime", "table"] (R_kernel ⟨tg, tr, tw, ts, aP, cN, cB, cO, cR, c1, P1, c2, P2, c3, P3⟩) := ok_kernel D.d_kernel hX hG T (G_need_table := G_need_table) (G_kernel_of := G_kernel_of)
    have G_sent_by : FnG l.prog w K mg base 2 "sent_by" ["prime", "rows", "numbers"] R_sent_by := ok_sent_by D.d_sent_by hX hG T (G_settled := G_settled)
    have G_sent : FnX l.prog w K mg base 6 "sent" ["prime", "table", "numbers"] (R_sent ⟨tg, tr, tw, ts, aP, cN, cB, cO, cR, c1, P1, c2, P2, c3, P3⟩) := ok_sent D.d_sent hX hG T (G_need_table := G_need_table) (G_sent_by := G_sent_by) (G_all_fit := G_all_fit)
    have G_minor : FnG l.prog w K mg base 1 "minor" ["rows", "row", "column"] R_minor := ok_minor D.d_minor hX hG T 
    have G_determinant_of_rows : FnG l.prog w K mg base 8 "determinant_of_rows" ["rows"] (R_det 6) := det_all D.d_determinant_of_rows hX hG T (G_minor := G_minor) 6
    have G_determinant : FnX l.prog w K mg base 9 "determinant" ["prime", "table"] (R_determinant ⟨tg, tr, tw, ts, aP, cN, cB, cO, cR, c1, P1, c2, P2, c3, P3⟩) := ok_determinant D.d_determinant hX hG T (G_need_square := G_need_square) (G_settled := G_settled) (G_determinant_of_rows := G_determinant_of_rows)
    have G_undone : FnX l.prog w K mg base 9 "undone" ["prime", "table"] (R_undone ⟨tg, tr, tw, ts, aP, cN, cB, cO, cR, c1, P1, c2, P2, c3, P3⟩) := ok_undone D.d_undone hX hG T (G_need_square := G_need_square) (G_made_normal := G_made_normal) (G_settled := G_settled) (G_determinant_of_rows := G_determinant_of_rows) (G_minor := G_minor)
    have G_law_bag : FnS l.prog w K mg base 1 "_law_bag" ["_law_script", "_law_spot"] (R_law_bag K) := ok_law_bag D.d_law_bag hX hG T 
    have G_law_grab : FnG l.prog w K mg base 1 "_law_grab" ["_law_bag_here", "_law_total"] R_law_grab := ok_law_grab D.d_law_grab hX hG T 
    have G_law_one_of : FnG l.prog w K mg base 2 "_law_one_of" ["_law_bag_here", "_law_items"] R_law_one_of := ok_law_one_of D.d_law_one_of hX hG T (G_law_grab := G_law_grab)
    have G_law_mixed : FnG l.prog w K mg base 2 "_law_mixed" ["_law_bag_here", "_law_items"] R_law_mixed := ok_law_mixed D.d_law_mixed hX hG T (G_law_grab := G_law_grab)
    have G_law_low : FnG l.prog w K mg base 1 "_law_low" ["_law_prime", "_law_number_here"] R_law_low := ok_law_low D.d_law_low hX hG T 
    have G_law_common : FnG l.prog w K mg base 1 "_law_common" ["_law_numbers"] R_law_common := ok_law_common D.d_law_common hX hG T 
    have G_law_back : FnG l.prog w K mg base 1 "_law_back" ["_law_prime", "_law_number_here"] R_law_back := ok_law_back D.d_law_back hX hG T 
    have G_law_normal : FnG l.prog w K mg base 2 "_law_normal" ["_law_prime", "_law_row"] R_law_normal := ok_law_normal D.d_law_normal hX hG T (G_law_common := G_law_common) (G_law_low := G_law_low) (G_law_back := G_law_back)
    have G_law_number : FnG l.prog w K mg base 2 "_law_number" ["_law_bag_here", "_law_prime", "_law_spread"] R_law_number := ok_law_number D.d_law_number hX hG T (G_law_grab := G_law_grab)
    have G_law_value_of : FnG l.prog w K mg base 7 "_law_value_of" ["_law_rows"] (R_val 6) := val_all D.d_law_value_of hX hG T 6
    have G_law_square : FnG l.prog w K mg base 3 "_law_square" ["_law_bag_here", "_law_prime", "_law_size"] R_law_square := ok_law_square D.d_law_square hX hG T (G_law_one_of := G_law_one_of) (G_law_number := G_law_number) (G_law_grab := G_law_grab) (G_law_mixed := G_law_mixed) (G_law_low := G_law_low)
    have G_law_given : FnG l.prog w K mg base 1 "_law_given" ["_law_rows"] R_law_given := ok_law_given D.d_law_given hX hG T 
    have G_law_determinants_right : FnG l.prog w K mg base 10 "_law_determinants_right" ["_law_bag_here", "_law_prime"] R_law_determinants_right := ok_law_determinants_right D.d_law_determinants_right hX hG T (G_law_square := G_law_square) (G_law_low := G_law_low) (G_law_one_of := G_law_one_of) (G_law_grab := G_law_grab) (G_law_value_of := G_law_value_of) (G_law_mixed := G_law_mixed) (G_determinant := G_determinant) (G_law_given := G_law_given)
    have G_law_undone_right : FnH l.prog w K mg base 12 "_law_undone_right" ["_law_bag_here", "_law_prime"] R_law_undone_right := ok_law_undone_right D.d_law_undone_right hX hG T WA TB1 (G_law_square := G_law_square) (G_undone := G_undone) (G_law_grab := G_law_grab) (G_law_given := G_law_given) (G_law_low := G_law_low) (G_sent := G_sent) (G_law_normal := G_law_normal) (G_law_value_of := G_law_value_of) (G_law_number := G_law_number)
    have G_law_errors_right : FnH l.prog w K mg base 12 "_law_errors_right" ["_law_bag_here", "_law_prime"] R_law_errors_right := ok_law_errors_right D.d_law_errors_right hX hG T WA TB2 (G_law_one_of := G_law_one_of) (G_rank := G_rank) (G_echelon := G_echelon) (G_is_mix := G_is_mix) (G_kernel := G_kernel) (G_sent := G_sent) (G_determinant := G_determinant) (G_undone := G_undone)
    have G_law_bounds_right : FnH l.prog w K mg base 12 "_law_bounds_right" ["_law_prime"] R_law_bounds_right := ok_law_bounds_right D.d_law_bounds_right hX hG T WA TB3 (G_rank := G_rank) (G_echelon := G_echelon) (G_kernel := G_kernel) (G_determinant := G_determinant)
    have G_law : FnSG l.prog w K mg base 13 "law" ["_law_script"] (R_law K) := ok_law D.d_law hX hG T (G_law_bag := G_law_bag) (G_law_one_of := G_law_one_of) (G_determinant := G_determinant) (G_undone := G_undone) (G_law_bounds_right := G_law_bounds_right) (G_law_errors_right := G_law_errors_right) (G_law_determinants_right := G_law_determinants_right) (G_law_undone_right := G_law_undone_right)
    exact G_law
  obtain ⟨f, fd, ha, hF⟩ := D.d_law.ex
  have e := hfa.symm.trans (PySem.W.mg_of X G ha)
  cases e
  obtain ⟨oc, od, kV, doc, pm, an, cdv, ct, osl, efd, hlk, _⟩ := hF.ex
  refine ⟨fd, fun s v => ?_, fun base hX hG hTB => ?_⟩
  · subst efd
    exact .of_eq rfl
  · obtain ⟨f', fd', hm', hok, oc', od', osl', hlk'⟩ := (all base hX hG hTB).ex
    have e := hfa.symm.trans hm'
    cases e
    rw [hlk] at hlk'
    cases hlk'
    exact hok
end K03
/-! ## K03z -/
set_option Elab.async false
set_option linter.all false
set_option maxRecDepth 100000
open PySem PySem.W PyProof.Rows in
set_option maxRecDepth 100000 in
set_option maxHeartbeats 0 in
theorem PySem.Challenge.cw_tangentrows_k03_whole_determinants_and_t_holds : PySem.Challenge.rw_tangentrows_k03_whole_determinants_and_t.Holds := by
  w_on; o_law; k_head; (case hw => w_witness2)
  k_fill
  refine @TD.walkG ⟨fun Q q => (Q, q) ∈ [((399 : Addr), ("_law_undone_right.<locals>.<lambda>" : Str)), ((404 : Addr), ("_law_errors_right.<locals>.<lambda>" : Str)), ((411 : Addr), ("_law_bounds_right.<locals>.<lambda>" : Str))]⟩ PySem.Challenge.rw_tangentrows_k03_whole_determinants_and_t 13 _ _ _ _ _ _ "_law_script" [(401, 399), (408, 404), (415, 411)] (fun Q q h => by
    rcases List.mem_cons.mp h with z | h
    · rw [(Prod.mk.inj z).1]; exact List.mem_cons_self ..
    · rcases List.mem_cons.mp h with z | z
      · rw [(Prod.mk.inj z).1]; exact List.mem_cons_of_mem _ (List.mem_cons_self ..)
      · rw [(Prod.mk.inj (List.mem_singleton.mp z)).1]; exact List.mem_cons_of_mem _ (List.mem_cons_of_mem _ (List.mem_cons_self ..))) rfl rfl ⟨rfl, by decide, by decide⟩ (fun w h Y => ⟨PySem.W.km_in_of Y, fun p hp => by
    (rcases List.mem_cons.mp hp with z | hp)
    · rw [z]; exact PySem.W.km_tabs_of Y 399 (by simp)
    · rcases List.mem_cons.mp hp with z | z
      · rw [z]; exact PySem.W.km_tabs_of Y 404 (by simp)
      · rw [List.mem_singleton.mp z]; exact PySem.W.km_tabs_of Y 411 (by simp)⟩) ?F
  case F =>
    intro w mg fa h KX G hmg
    refine ⟨fun p hp => ?_, ?_⟩
    · (rcases List.mem_cons.mp hp with z | hp)
      · rw [z]
        refine' ⟨?n1, TD.codeHd_mk ?n2 ?n3⟩
        (case n1 => rfl)
        (case n2 => k_is)
        (case n3 => rfl)
      · rcases List.mem_cons.mp hp with z | z
        · rw [z]
          refine' ⟨?m1, TD.codeHd_mk ?m2 ?m3⟩
          (case m1 => rfl)
          (case m2 => k_is)
          (case m3 => rfl)
        · (rw [List.mem_singleton.mp z])
          refine' ⟨?p1, TD.codeHd_mk ?p2 ?p3⟩
          (case p1 => rfl)
          (case p2 => k_is)
          (case p3 => rfl)
    refine' K03.all_mk (iT := ⟨fun Q q => (Q, q) ∈ [((399 : Addr), ("_law_undone_right.<locals>.<lambda>" : Str)), ((404 : Addr), ("_law_errors_right.<locals>.<lambda>" : Str)), ((411 : Addr), ("_law_bounds_right.<locals>.<lambda>" : Str))]⟩) (c1 := 401) (P1 := 399) (c2 := 408) (P2 := 404) (c3 := 415) (P3 := 411) KX G hmg ⟨TD.defAt_mk ?a10 ?l10 ?c10 ?k10, TD.defAt_mk ?a11 ?l11 ?c11 ?k11, TD.defAt_mk ?a12 ?l12 ?c12 ?k12, TD.defAt_mk ?a13 ?l13 ?c13 ?k13, TD.defAt_mk ?a14 ?l14 ?c14 ?k14, TD.defAt_mk ?a15 ?l15 ?c15 ?k15, TD.defAt_mk ?a16 ?l16 ?c16 ?k16, TD.defAt_mk ?a17 ?l17 ?c17 ?k17, TD.defAt_mk ?a18 ?l18 ?c18 ?k18, TD.defAt_mk ?a23 ?l23 ?c23 ?k23, TD.defAt_mk ?a24 ?l24 ?c24 ?k24, TD.defAt_mk ?a25 ?l25 ?c25 ?k25, TD.defAt_mk ?a26 ?l26 ?c26 ?k26, TD.defAt_mk ?a27 ?l27 ?c27 ?k27, TD.defAt_mk ?a28 ?l28 ?c28 ?k28, TD.defAt_mk ?a30 ?l30 ?c30 ?k30, TD.defAt_mk ?a31 ?l31 ?c31 ?k31, TD.defAt_mk ?a33 ?l33 ?c33 ?k33, TD.defAt_mk ?a34 ?l34 ?c34 ?k34, TD.defAt_mk ?a35 ?l35 ?c35 ?k35, TD.defAt_mk ?a36 ?l36 ?c36 ?k36, TD.defAt_mk ?a37 ?l37 ?c37 ?k37, TD.defAt_mk ?a38 ?l38 ?c38 ?k38, TD.defAt_mk ?a39 ?l39 ?c39 ?k39, TD.defAt_mk ?a40 ?l40 ?c40 ?k40, TD.defAt_mk ?a41 ?l41 ?c41 ?k41, TD.defAt_mk ?a42 ?l42 ?c42 ?k42, TD.defAt_mk ?a43 ?l43 ?c43 ?k43, TD.defAt_mk ?a44 ?l44 ?c44 ?k44, TD.defAt_mk ?a46 ?l46 ?c46 ?k46, TD.defAt_mk ?a47 ?l47 ?c47 ?k47, TD.defAt_mk ?a48 ?l48 ?c48 ?k48, TD.defAt_mk ?a49 ?l49 ?c49 ?k49, TD.defAt_mk ?a50 ?l50 ?c50 ?k50, TD.defAt_mk ?a51 ?l51 ?c51 ?k51, TD.defAt_mk ?a52 ?l52 ?c52 ?k52, TD.defAt_mk ?a53 ?l53 ?c53 ?k53, TD.defAt_mk ?a54 ?l54 ?c54 ?k54, TD.defAt_mk ?a55 ?l55 ?c55 ?k55, TD.defAt_mk ?a56 ?l56 ?c56 ?k56, TD.defAt_mk ?a57 ?l57 ?c57 ?k57, TD.defAt_mk ?a58 ?l58 ?c58 ?k58, TD.defAt_mk ?a59 ?l59 ?c59 ?k59, TD.defAtC_mk ?a60 ?l60 ?c60 ?k60, TD.defAtC_mk ?a61 ?l61 ?c61 ?k61, TD.defAtC_mk ?a62 ?l62 ?c62 ?k62, TD.defAt_mk ?a63 ?l63 ?c63 ?k63⟩ ?z_abs ?z_all ?z_any ?z_bool ?z_enumerate ?z_int ?z_isinstance ?z_len ?z_list ?z_max ?z_min ?z_range ?z_repr ?z_sorted ?z_sum ?z_tuple ?z_zip ?m_gcd ?cTG ?cMR ?cMW ?cMS ?cP ?lP (TD.ownC_mk (rs := []) PySem.F.excBase_IndexError TD.fld_given (by rfl) TD.ve_IndexError KX G ?o0_1 ?o0_2 ?o0_3 ?o0_4 ?o0_5 ?o0_6 ?o0_7 ?o0_8 ?o0_9 ?o0_10 ?o0_11 ?o0_12 ?o0_13 ?o0_14) (TD.ownC_mk (rs := []) PySem.F.excBase_ArithmeticError TD.fld_reason (by rfl) K03.ve_ArithmeticError KX G ?o1_1 ?o1_2 ?o1_3 ?o1_4 ?o1_5 ?o1_6 ?o1_7 ?o1_8 ?o1_9 ?o1_10 ?o1_11 ?o1_12 ?o1_13 ?o1_14) (TD.bareC_mk PySem.F.excBase_ValueError KX G ?b2_1 ?b2_2 ?b2_3 ?b2_4 ?b2_5) (TD.bareC_mk PySem.F.excBase_ValueError KX G ?b3_1 ?b3_2 ?b3_3 ?b3_4 ?b3_5) (TD.exm_mk ?eNN_1 ?eNN_2 ?eNN_3 ?eNN_4) (TD.exm_mk ?eBN_1 ?eBN_2 ?eBN_3 ?eBN_4) (TD.exm_mk ?eBB_1 ?eBB_2 ?eBB_3 ?eBB_4) (TD.exm_mk ?eON_1 ?eON_2 ?eON_3 ?eON_4) (TD.exm_mk ?eOB_1 ?eOB_2 ?eOB_3 ?eOB_4) (TD.exm_mk ?eOO_1 ?eOO_2 ?eOO_3 ?eOO_4) (TD.exm_mk ?eRN_1 ?eRN_2 ?eRN_3 ?eRN_4) (TD.exm_mk ?eRB_1 ?eRB_2 ?eRB_3 ?eRB_4) (TD.exm_mk ?eRO_1 ?eRO_2 ?eRO_3 ?eRO_4) (TD.exm_mk ?eRR_1 ?eRR_2 ?eRR_3 ?eRR_4) (by decide) (by decide) (by decide) (fun _ _ => Iff.rfl)
    (case a10 => k_is)
    (case l10 => k_is)
    (case c10 => k_is)
    (case k10 => k_is)
    (case a11 => k_is)
    (case l11 => k_is)
    (case c11 => k_is)
    (case k11 => k_is)
    (case a12 => k_is)
    (case l12 => k_is)
    (case c12 => k_is)
    (case k12 => k_is)
    (case a13 => k_is)
    (case l13 => k_is)
    (case c13 => k_is)
    (case k13 => k_is)
    (case a14 => k_is)
    (case l14 => k_is)
    (case c14 => k_is)
    (case k14 => k_is)
    (case a15 => k_is)
    (case l15 => k_is)
    (case c15 => k_is)
    (case k15 => k_is)
    (case a16 => k_is)
    (case l16 => k_is)
    (case c16 => k_is)
    (case k16 => k_is)
    (case a17 => k_is)
    (case l17 => k_is)
    (case c17 => k_is)
    (case k17 => k_is)
    (case a18 => k_is)
    (case l18 => k_is)
    (case c18 => k_is)
    (case k18 => k_is)
    (case a23 => k_is)
    (case l23 => k_is)
    (case c23 => k_is)
    (case k23 => k_is)
    (case a24 => k_is)
    (case l24 => k_is)
    (case c24 => k_is)
    (case k24 => k_is)
    (case a25 => k_is)
    (case l25 => k_is)
    (case c25 => k_is)
    (case k25 => k_is)
    (case a26 => k_is)
    (case l26 => k_is)
    (case c26 => k_is)
    (case k26 => k_is)
    (case a27 => k_is)
    (case l27 => k_is)
    (case c27 => k_is)
    (case k27 => k_is)
    (case a28 => k_is)
    (case l28 => k_is)
    (case c28 => k_is)
    (case k28 => k_is)
    (case a30 => k_is)
    (case l30 => k_is)
    (case c30 => k_is)
    (case k30 => k_is)
    (case a31 => k_is)
    (case l31 => k_is)
    (case c31 => k_is)
    (case k31 => k_is)
    (case a33 => k_is)
    (case l33 => k_is)
    (case c33 => k_is)
    (case k33 => k_is)
    (case a34 => k_is)
    (case l34 => k_is)
    (case c34 => k_is)
    (case k34 => k_is)
    (case a35 => k_is)
    (case l35 => k_is)
    (case c35 => k_is)
    (case k35 => k_is)
    (case a36 => k_is)
    (case l36 => k_is)
    (case c36 => k_is)
    (case k36 => k_is)
    (case a37 => k_is)
    (case l37 => k_is)
    (case c37 => k_is)
    (case k37 => k_is)
    (case a38 => k_is)
    (case l38 => k_is)
    (case c38 => k_is)
    (case k38 => k_is)
    (case a39 => k_is)
    (case l39 => k_is)
    (case c39 => k_is)
    (case k39 => k_is)
    (case a40 => k_is)
    (case l40 => k_is)
    (case c40 => k_is)
    (case k40 => k_is)
    (case a41 => k_is)
    (case l41 => k_is)
    (case c41 => k_is)
    (case k41 => k_is)
    (case a42 => k_is)
    (case l42 => k_is)
    (case c42 => k_is)
    (case k42 => k_is)
    (case a43 => k_is)
    (case l43 => k_is)
    (case c43 => k_is)
    (case k43 => k_is)
    (case a44 => k_is)
    (case l44 => k_is)
    (case c44 => k_is)
    (case k44 => k_is)
    (case a46 => k_is)
    (case l46 => k_is)
    (case c46 => k_is)
    (case k46 => k_is)
    (case a47 => k_is)
    (case l47 => k_is)
    (case c47 => k_is)
    (case k47 => k_is)
    (case a48 => k_is)
    (case l48 => k_is)
    (case c48 => k_is)
    (case k48 => k_is)
    (case a49 => k_is)
    (case l49 => k_is)
    (case c49 => k_is)
    (case k49 => k_is)
    (case a50 => k_is)
    (case l50 => k_is)
    (case c50 => k_is)
    (case k50 => k_is)
    (case a51 => k_is)
    (case l51 => k_is)
    (case c51 => k_is)
    (case k51 => k_is)
    (case a52 => k_is)
    (case l52 => k_is)
    (case c52 => k_is)
    (case k52 => k_is)
    (case a53 => k_is)
    (case l53 => k_is)
    (case c53 => k_is)
    (case k53 => k_is)
    (case a54 => k_is)
    (case l54 => k_is)
    (case c54 => k_is)
    (case k54 => k_is)
    (case a55 => k_is)
    (case l55 => k_is)
    (case c55 => k_is)
    (case k55 => k_is)
    (case a56 => k_is)
    (case l56 => k_is)
    (case c56 => k_is)
    (case k56 => k_is)
    (case a57 => k_is)
    (case l57 => k_is)
    (case c57 => k_is)
    (case k57 => k_is)
    (case a58 => k_is)
    (case l58 => k_is)
    (case c58 => k_is)
    (case k58 => k_is)
    (case a59 => k_is)
    (case l59 => k_is)
    (case c59 => k_is)
    (case k59 => k_is)
    (case a60 => k_is)
    (case l60 => k_is)
    (case c60 => k_is)
    (case k60 => k_is)
    (case a61 => k_is)
    (case l61 => k_is)
    (case c61 => k_is)
    (case k61 => k_is)
    (case a62 => k_is)
    (case l62 => k_is)
    (case c62 => k_is)
    (case k62 => k_is)
    (case a63 => k_is)
    (case l63 => k_is)
    (case c63 => k_is)
    (case k63 => k_is)
    (case z_abs => k_is)
    (case z_all => k_is)
    (case z_any => k_is)
    (case z_bool => k_is)
    (case z_enumerate => k_is)
    (case z_int => k_is)
    (case z_isinstance => k_is)
    (case z_len => k_is)
    (case z_list => k_is)
    (case z_max => k_is)
    (case z_min => k_is)
    (case z_range => k_is)
    (case z_repr => k_is)
    (case z_sorted => k_is)
    (case z_sum => k_is)
    (case z_tuple => k_is)
    (case z_zip => k_is)
    (case m_gcd => k_is)
    (case cTG => k_is)
    (case cMR => k_is)
    (case cMW => k_is)
    (case cMS => k_is)
    (case cP => k_is)
    (case lP => k_is)
    (case o0_1 => k_is)
    (case o0_2 => k_is)
    (case o0_3 => k_is)
    (case o0_4 => k_is)
    (case o0_5 => k_is)
    (case o0_6 => k_is)
    (case o0_7 => k_is)
    (case o0_8 => k_is)
    (case o0_9 => k_is)
    (case o0_10 => k_is)
    (case o0_11 => k_is)
    (case o0_12 => k_is)
    (case o0_13 => k_is)
    (case o0_14 => k_is)
    (case o1_1 => k_is)
    (case o1_2 => k_is)
    (case o1_3 => k_is)
    (case o1_4 => k_is)
    (case o1_5 => k_is)
    (case o1_6 => k_is)
    (case o1_7 => k_is)
    (case o1_8 => k_is)
    (case o1_9 => k_is)
    (case o1_10 => k_is)
    (case o1_11 => k_is)
    (case o1_12 => k_is)
    (case o1_13 => k_is)
    (case o1_14 => k_is)
    (case b2_1 => k_is)
    (case b2_2 => k_exc)
    (case b2_3 => k_is)
    (case b2_4 => k_is)
    (case b2_5 => k_is)
    (case b3_1 => k_is)
    (case b3_2 => k_exc)
    (case b3_3 => k_is)
    (case b3_4 => k_is)
    (case b3_5 => k_is)
    (case eNN_1 => k_is)
    (case eNN_2 => k_is)
    (case eNN_3 => k_is)
    (case eNN_4 => k_is)
    (case eBN_1 => k_is)
    (case eBN_2 => k_is)
    (case eBN_3 => k_is)
    (case eBN_4 => k_is)
    (case eBB_1 => k_is)
    (case eBB_2 => k_is)
    (case eBB_3 => k_is)
    (case eBB_4 => k_is)
    (case eON_1 => k_is)
    (case eON_2 => k_is)
    (case eON_3 => k_is)
    (case eON_4 => k_is)
    (case eOB_1 => k_is)
    (case eOB_2 => k_is)
    (case eOB_3 => k_is)
    (case eOB_4 => k_is)
    (case eOO_1 => k_is)
    (case eOO_2 => k_is)
    (case eOO_3 => k_is)
    (case eOO_4 => k_is)
    (case eRN_1 => k_is)
    (case eRN_2 => k_is)
    (case eRN_3 => k_is)
    (case eRN_4 => k_is)
    (case eRB_1 => k_is)
    (case eRB_2 => k_is)
    (case eRB_3 => k_is)
    (case eRB_4 => k_is)
    (case eRO_1 => k_is)
    (case eRO_2 => k_is)
    (case eRO_3 => k_is)
    (case eRO_4 => k_is)
    (case eRR_1 => k_is)
    (case eRR_2 => k_is)
    (case eRR_3 => k_is)
    (case eRR_4 => k_is)
