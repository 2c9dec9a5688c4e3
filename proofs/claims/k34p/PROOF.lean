import PyProof.Rows.All
import Wide.All
import OpenK.AllK
import Wide.FinOn
import HandS.ForMost
import HandS.Evl
import HandS.Lambda
import HandS.IsInst
import HandS.Gcd
import HandS.Wide
import HandS.Deep
import HandS.Zip
import HandS.Ends
import HandS.NoneIn
import HandS.TupSets
import PySem.PyData
import PyProof.Lay0
import HandS.TupAny
import HandS.Style
import HandS.Exc
import HandS.TryMany
import HandS.ExcField
import HandS.ExcOwn
import HandS.WordsExc
import HandS.EndTab
import HandS.Conv
import HandS.TupMul
import KE.KSortedM
import PySem.Challenge.RW_tangentrows_k34_cross_ratios_of_four_spo
import HandS.SetFor
import PyProof.WalksMore
import HandS.CallLocal
import PyProof.Rows.SumAny
import KE.KExcInit
/-! ## TdBase -/
set_option Elab.async false
set_option linter.all false
set_option maxRecDepth 100000
set_option maxHeartbeats 3000000
/-! A reading told over plain data: what a value stands for (Den), a def's slots as data (Rho), what a term of readings comes to (EvB, TtB, StB). One list of ints that is changed by callees (the bag) goes beside. -/
namespace TD
open PySem L2
open Evl (Ex ex_l ex_t fresh_back sq_of st_of sz_of sz_lt)

abbrev Dt := PyData
mutual
inductive Den (K : PySem.W.Frag) (G : Hp) : V → Dt → Prop
  | non : Den K G .non .none
  | bl (b : Bool) : Den K G (.bl b) (.bool b)
  | int (i : Int) : Den K G (.int i) (.int i)
  | str (x : Str) : Den K G (.str x) (.str x)
  | lst {a : Addr} {xs : List V} {ds : List Dt} : G a = some (.lst xs) → DenL K G xs ds → Den K G (.ref a) (.list ds)
  | tup {a : Addr} {xs : List V} {ds : List Dt} : SqT K G a xs → DenL K G xs ds → Den K G (.ref a) (.tuple ds)
  | dct {a : Addr} {kvs : List (Key × V)} : G a = some (.dK kvs) → Den K G (.ref a) (.dict [])
inductive DenL (K : PySem.W.Frag) (G : Hp) : List V → List Dt → Prop
  | nil : DenL K G [] []
  | cons {v : V} {vs : List V} {d : Dt} {ds : List Dt} : Den K G v d → DenL K G vs ds → DenL K G (v :: vs) (d :: ds)
end
section
variable {K : PySem.W.Frag} {G G' : Hp}
mutual
theorem Den.mono (e : Ex G G') : ∀ {d : Dt} {v : V}, Den K G v d → Den K G' v d
  | .none, _, h => by cases h; exact .non
  | .bool b, _, h => by cases h; exact .bl b
  | .int i, _, h => by cases h; exact .int i
  | .str x, _, h => by cases h; exact .str x
  | .list ds, _, h => by
    cases h with
    | lst hs hd => exact .lst (e _ _ hs) (DenL.mono e hd)
  | .tuple ds, _, h => by
    cases h with
    | tup hs hd => exact .tup (ex_t e hs) (DenL.mono e hd)
  | .dict kvs, _, h => by
    cases h with
    | dct hs => exact .dct (e _ _ hs)
theorem DenL.mono (e : Ex G G') : ∀ {ds : List Dt} {vs : List V}, DenL K G vs ds → DenL K G' vs ds
  | [], _, h => by cases h; exact .nil
  | d :: ds, _, h => by
    cases h with
    | cons h1 h2 => exact .cons (Den.mono e h1) (DenL.mono e h2)
end
theorem DenL.length : ∀ {vs : List V} {ds : List Dt}, DenL K G vs ds → vs.length = ds.length
  | [], [], _ => rfl
  | [], _ :: _, h => nomatch h
  | _ :: _, [], h => nomatch h
  | _ :: _, _ :: _, .cons _ h => congrArg (· + 1) h.length
theorem DenL.get : ∀ {vs : List V} {ds : List Dt} {i : Nat} {v : V}, DenL K G vs ds → vs[i]? = some v → ∃ d, ds[i]? = some d ∧ Den K G v d
  | [], [], _, _, _, h => by simp at h
  | [], _ :: _, _, _, h, _ => nomatch h
  | _ :: _, [], _, _, h, _ => nomatch h
  | _ :: _, d :: _, 0, _, .cons h1 _, h => by simp at h; subst h; exact ⟨d, rfl, h1⟩
  | _ :: _, _ :: _, i + 1, v, .cons _ h2, h => by
    obtain ⟨d, h3, h4⟩ := DenL.get (i := i) (v := v) h2 (by simpa using h)
    exact ⟨d, by simpa using h3, h4⟩
theorem DenL.get' : ∀ {vs : List V} {ds : List Dt} {i : Nat} {d : Dt}, DenL K G vs ds → ds[i]? = some d → ∃ v, vs[i]? = some v ∧ Den K G v d
  | [], [], _, _, _, h => by simp at h
  | [], _ :: _, _, _, h, _ => nomatch h
  | _ :: _, [], _, _, h, _ => nomatch h
  | v :: _, d :: _, 0, _, .cons h1 _, h => by simp at h; subst h; exact ⟨v, rfl, h1⟩
  | _ :: _, _ :: _, i + 1, d, .cons _ h2, h => by
    obtain ⟨v, h3, h4⟩ := DenL.get' (i := i) (d := d) h2 (by simpa using h)
    exact ⟨v, by simpa using h3, h4⟩
theorem DenL.append : ∀ {vs ws : List V} {ds es : List Dt}, DenL K G vs ds → DenL K G ws es → DenL K G (vs ++ ws) (ds ++ es)
  | [], _, [], _, _, h => h
  | [], _, _ :: _, _, h, _ => nomatch h
  | _ :: _, _, [], _, h, _ => nomatch h
  | _ :: _, _, _ :: _, _, .cons h1 h2, h => .cons h1 (DenL.append h2 h)
theorem DenL.drop : ∀ (n : Nat) {vs : List V} {ds : List Dt}, DenL K G vs ds → DenL K G (vs.drop n) (ds.drop n)
  | 0, _, _, h => h
  | _ + 1, [], [], _ => .nil
  | _ + 1, [], _ :: _, h => nomatch h
  | _ + 1, _ :: _, [], h => nomatch h
  | n + 1, _ :: _, _ :: _, .cons _ h => DenL.drop n h
theorem DenL.take : ∀ (n : Nat) {vs : List V} {ds : List Dt}, DenL K G vs ds → DenL K G (vs.take n) (ds.take n)
  | 0, _, _, _ => .nil
  | _ + 1, [], [], _ => .nil
  | _ + 1, [], _ :: _, h => nomatch h
  | _ + 1, _ :: _, [], h => nomatch h
  | n + 1, _ :: _, _ :: _, .cons h1 h => .cons h1 (DenL.take n h)
theorem DenL.ints : ∀ {vs : List V} {ns : List Int}, DenL K G vs (ns.map PyData.int) → vs = ns.map V.int
  | [], [], _ => rfl
  | [], _ :: _, h => nomatch h
  | _ :: _, [], h => nomatch h
  | _ :: _, n :: ns, .cons h1 h2 => by
    cases h1
    rw [DenL.ints h2]
    rfl
theorem DenL.of_ints : ∀ (ns : List Int), DenL K G (ns.map V.int) (ns.map PyData.int)
  | [] => .nil
  | n :: ns => .cons (.int n) (DenL.of_ints ns)
theorem DenL.bls : ∀ {vs : List V} {ns : List Bool}, DenL K G vs (ns.map PyData.bool) → vs = ns.map V.bl
  | [], [], _ => rfl
  | [], _ :: _, h => nomatch h
  | _ :: _, [], h => nomatch h
  | _ :: _, n :: ns, .cons h1 h2 => by
    cases h1
    rw [DenL.bls h2]
    rfl
end

/-! ### the state -/
/-- the tables of code objects that the text's lambdas write: where they stand, the name of their code objects -/
class TabW where
  w : Addr → Str → Prop
def NoTabs (G : Hp) : Prop := ∀ x ps, G x ≠ some (.tbl ps)
structure TabsOk [TabW] (G H : Hp) : Prop where
  tab : ∀ P q, TabW.w P q → LamX.TabS H P q
  free : NoTabs G
def NoT (o : HO) : Prop := ∀ ps, o ≠ .tbl ps
theorem NoT.lst {xs : List V} : NoT (.lst xs) := fun _ z => by cases z
inductive Slot where
  | imm (d : Dt)
  | bag
  | fn (a : Addr)
abbrev Rho := List (Option Slot)
/-- the bag's numbers, where there is a bag -/
abbrev Bag := Option (List Int)
def BagOk (b : Addr) (β : Bag) (G H : Hp) : Prop := ∀ ns, β = some ns → H b = some (.lst (ns.map V.int)) ∧ G b = none
structure EnvD [TabW] (K : PySem.W.Frag) (b : Addr) (β : Bag) (G H : Hp) (σ : L2.St) (ρ : Rho) : Prop where
  sub : Ex G H
  bagk : BagOk b β G H
  len : σ.length = ρ.length
  imm : ∀ (i : Nat) (d : Dt), ρ[i]? = some (some (Slot.imm d)) → ∃ v, σ[i]? = some (some v) ∧ Den K G v d
  bagv : ∀ (i : Nat), ρ[i]? = some (some Slot.bag) → σ[i]? = some (some (V.ref b))
  tabs : TabsOk G H
  fnv : ∀ (i : Nat) (a : Addr), ρ[i]? = some (some (Slot.fn a)) → σ[i]? = some (some (V.ref a))
/-- m: there is a bag, which may change -/
structure Step [TabW] (b : Addr) (m : Bool) (G H G' H' : Hp) : Prop where
  g : Ex G G'
  s : Ex G' H'
  fresh : ∀ x o, G x = none → NoT o → H x = some o → G' x = none
  keep : ∀ x o, (m = true → x ≠ b) → NoT o → H x = some o → H' x = some o
  stay : ∀ x o, NoT o → H x = some o → ∃ o', NoT o' ∧ H' x = some o'
  tabs : TabsOk G H → TabsOk G' H'
section
variable [TabW] {K : PySem.W.Frag} {b : Addr} {m : Bool} {β β' : Bag} {G H G1 H1 G2 H2 : Hp} {σ : L2.St} {ρ : Rho}
theorem Step.refl (e : Ex G H) : Step b m G H G H := ⟨Ex.refl G, e, fun _ _ h _ _ => h, fun _ _ _ _ h => h, fun _ o t h => ⟨o, t, h⟩, fun h => h⟩
theorem Step.trans (x : Step b m G H G1 H1) (y : Step b m G1 H1 G2 H2) : Step b m G H G2 H2 :=
  ⟨x.g.trans y.g, y.s, fun a o h1 t h2 => let ⟨o', t', h'⟩ := x.stay a o t h2; y.fresh a o' (x.fresh a o h1 t h2) t' h', fun a o n t h => y.keep a o n t (x.keep a o n t h), fun a o t h => let ⟨o', t', h'⟩ := x.stay a o t h; y.stay a o' t' h', fun h => y.tabs (x.tabs h)⟩
theorem Step.up (x : Step b false G H G1 H1) : Step b m G H G1 H1 := ⟨x.g, x.s, x.fresh, fun a o _ t h => x.keep a o (fun z => by cases z) t h, x.stay, x.tabs⟩
/-- a new object -/
theorem Step.new {p : Addr} {o : HO} (e : Ex G H) (hp : H p = none) (nt : NoT o := by intro _ z; cases z) : Step b m G H (upd G p o) (upd H p o) := by
  have gp : G p = none := fresh_back e hp
  refine ⟨Ex.new gp, fun a u h => ?_, fun a u h1 t h2 => ?_, fun a u _ _ h => ?_, fun a u t h => ?_, fun h => ⟨fun P q w => (h.tab P q w).ext fun a u z => ?_, fun x ps z => ?_⟩⟩
  · by_cases z : a = p
    · subst z; rw [upd_same] at h ⊢; exact h
    · rw [upd_ne z] at h ⊢; exact e a u h
  · rw [upd_ne (ne_of_none h2 hp)]; exact h1
  · rw [upd_ne (ne_of_none h hp)]; exact h
  · exact ⟨u, t, by rw [upd_ne (ne_of_none h hp)]; exact h⟩
  · rw [upd_ne (ne_of_none z hp)]; exact z
  · by_cases q : x = p
    · rw [q, upd_same] at z; exact nt ps (Option.some.inj z)
    · rw [upd_ne q] at z; exact h.free x ps z
theorem BagOk.step {m} (x : Step b m G H G1 H1) (h : BagOk b β G H) (hm : β.isSome = true → m = true → False ∨ H1 b = H b) : BagOk b β G1 H1 := fun ns e => by
  obtain ⟨h1, h2⟩ := h ns e
  refine ⟨?_, x.fresh b _ h2 NoT.lst h1⟩
  cases m with
  | false => exact x.keep b _ (fun z => by cases z) NoT.lst h1
  | true =>
    rcases hm (by rw [e]; rfl) rfl with z | z
    · exact z.elim
    · rw [z]; exact h1
theorem BagOk.same (x : Step b false G H G1 H1) (h : BagOk b β G H) : BagOk b β G1 H1 := BagOk.step x h fun _ z => by cases z
theorem BagOk.gone (x : Step b m G H G1 H1) (h : BagOk b β G H) : β.isSome = true → G1 b = none := fun z => by
  obtain ⟨ns, e⟩ := Option.isSome_iff_exists.mp z
  obtain ⟨h1, h2⟩ := h ns e
  exact x.fresh b _ h2 NoT.lst h1
theorem EnvD.step (E : EnvD K b β G H σ ρ) (x : Step b m G H G1 H1) (hb : BagOk b β' G1 H1) : EnvD K b β' G1 H1 σ ρ :=
  ⟨x.s, hb, E.len, fun i d h => let ⟨v, h1, h2⟩ := E.imm i d h; ⟨v, h1, h2.mono x.g⟩, E.bagv, x.tabs E.tabs, E.fnv⟩
theorem EnvD.same (E : EnvD K b β G H σ ρ) (x : Step b false G H G1 H1) : EnvD K b β G1 H1 σ ρ := E.step x (E.bagk.same x)
theorem EnvD.set {i : Nat} {v : V} {d : Dt} (E : EnvD K b β G H σ ρ) (h : Den K G v d) : EnvD K b β G H (σ.set i (some v)) (ρ.set i (some (.imm d))) := by
  refine ⟨E.sub, E.bagk, by rw [List.length_set, List.length_set]; exact E.len, fun j e hj => ?_, fun j hj => ?_, E.tabs, fun j a hj => ?_⟩
  · by_cases z : i = j
    · subst z
      have hl : i < ρ.length := by
        have := (List.getElem?_eq_some_iff.mp hj).1
        rw [List.length_set] at this
        exact this
      rw [List.getElem?_set_self hl] at hj
      cases hj
      exact ⟨v, List.getElem?_set_self (by rw [E.len]; exact hl), h⟩
    · rw [List.getElem?_set_ne z] at hj
      rw [List.getElem?_set_ne z]
      exact E.imm j e hj
  · by_cases z : i = j
    · subst z
      have hl : i < ρ.length := by
        have := (List.getElem?_eq_some_iff.mp hj).1
        rw [List.length_set] at this
        exact this
      rw [List.getElem?_set_self hl] at hj
      cases hj
    · rw [List.getElem?_set_ne z] at hj
      rw [List.getElem?_set_ne z]
      exact E.bagv j hj
  · by_cases z : i = j
    · subst z
      have hl : i < ρ.length := by
        have := (List.getElem?_eq_some_iff.mp hj).1
        rw [List.length_set] at this
        exact this
      rw [List.getElem?_set_self hl] at hj
      cases hj
    · rw [List.getElem?_set_ne z] at hj
      rw [List.getElem?_set_ne z]
      exact E.fnv j a hj
theorem EnvD.setBag {i : Nat} (E : EnvD K b β G H σ ρ) : EnvD K b β G H (σ.set i (some (.ref b))) (ρ.set i (some .bag)) := by
  refine ⟨E.sub, E.bagk, by rw [List.length_set, List.length_set]; exact E.len, fun j e hj => ?_, fun j hj => ?_, E.tabs, fun j a hj => ?_⟩
  · by_cases z : i = j
    · subst z
      have hl : i < ρ.length := by
        have := (List.getElem?_eq_some_iff.mp hj).1
        rw [List.length_set] at this
        exact this
      rw [List.getElem?_set_self hl] at hj
      cases hj
    · rw [List.getElem?_set_ne z] at hj
      rw [List.getElem?_set_ne z]
      exact E.imm j e hj
  · by_cases z : i = j
    · subst z
      have hl : i < ρ.length := by
        have := (List.getElem?_eq_some_iff.mp hj).1
        rw [List.length_set] at this
        exact this
      exact List.getElem?_set_self (by rw [E.len]; exact hl)
    · rw [List.getElem?_set_ne z] at hj
      rw [List.getElem?_set_ne z]
      exact E.bagv j hj
  · by_cases z : i = j
    · subst z
      have hl : i < ρ.length := by
        have := (List.getElem?_eq_some_iff.mp hj).1
        rw [List.length_set] at this
        exact this
      rw [List.getElem?_set_self hl] at hj
      cases hj
    · rw [List.getElem?_set_ne z] at hj
      rw [List.getElem?_set_ne z]
      exact E.fnv j a hj
theorem EnvD.setFn {i : Nat} {f : Addr} (E : EnvD K b β G H σ ρ) : EnvD K b β G H (σ.set i (some (.ref f))) (ρ.set i (some (.fn f))) := by
  refine ⟨E.sub, E.bagk, by rw [List.length_set, List.length_set]; exact E.len, fun j e hj => ?_, fun j hj => ?_, E.tabs, fun j a hj => ?_⟩
  · by_cases z : i = j
    · subst z
      have hl : i < ρ.length := by
        have := (List.getElem?_eq_some_iff.mp hj).1
        rw [List.length_set] at this
        exact this
      rw [List.getElem?_set_self hl] at hj
      cases hj
    · rw [List.getElem?_set_ne z] at hj
      rw [List.getElem?_set_ne z]
      exact E.imm j e hj
  · by_cases z : i = j
    · subst z
      have hl : i < ρ.length := by
        have := (List.getElem?_eq_some_iff.mp hj).1
        rw [List.length_set] at this
        exact this
      rw [List.getElem?_set_self hl] at hj
      cases hj
    · rw [List.getElem?_set_ne z] at hj
      rw [List.getElem?_set_ne z]
      exact E.bagv j hj
  · by_cases z : i = j
    · subst z
      have hl : i < ρ.length := by
        have := (List.getElem?_eq_some_iff.mp hj).1
        rw [List.length_set] at this
        exact this
      rw [List.getElem?_set_self hl] at hj
      cases hj
      exact List.getElem?_set_self (by rw [E.len]; exact hl)
    · rw [List.getElem?_set_ne z] at hj
      rw [List.getElem?_set_ne z]
      exact E.fnv j a hj
theorem EnvD.unset {i : Nat} (E : EnvD K b β G H σ ρ) : EnvD K b β G H (σ.set i none) (ρ.set i none) := by
  refine ⟨E.sub, E.bagk, by rw [List.length_set, List.length_set]; exact E.len, fun j e hj => ?_, fun j hj => ?_, E.tabs, fun j a hj => ?_⟩
  · by_cases z : i = j
    · subst z
      have hl : i < ρ.length := by
        have := (List.getElem?_eq_some_iff.mp hj).1
        rw [List.length_set] at this
        exact this
      rw [List.getElem?_set_self hl] at hj
      cases hj
    · rw [List.getElem?_set_ne z] at hj
      rw [List.getElem?_set_ne z]
      exact E.imm j e hj
  · by_cases z : i = j
    · subst z
      have hl : i < ρ.length := by
        have := (List.getElem?_eq_some_iff.mp hj).1
        rw [List.length_set] at this
        exact this
      rw [List.getElem?_set_self hl] at hj
      cases hj
    · rw [List.getElem?_set_ne z] at hj
      rw [List.getElem?_set_ne z]
      exact E.bagv j hj
  · by_cases z : i = j
    · subst z
      have hl : i < ρ.length := by
        have := (List.getElem?_eq_some_iff.mp hj).1
        rw [List.length_set] at this
        exact this
      rw [List.getElem?_set_self hl] at hj
      cases hj
    · rw [List.getElem?_set_ne z] at hj
      rw [List.getElem?_set_ne z]
      exact E.fnv j a hj
def wipeR (ρ : Rho) : List Nat → Rho
  | [] => ρ
  | v :: vs => (wipeR ρ vs).set v none
theorem EnvD.wipe (E : EnvD K b β G H σ ρ) : ∀ vs : List Nat, EnvD K b β G H (L2.wipe σ vs) (wipeR ρ vs)
  | [] => E
  | v :: vs => (EnvD.wipe E vs).unset
end

/-! ### what a reading comes to -/
/-- an expression: the datum d, the bag behind it β' -/
structure EvB [TabW] (K : PySem.W.Frag) (te : TE) (ρ : Rho) (β : Bag) (d : Dt) (β' : Bag) : Prop where
  som : β'.isSome = β.isSome
  run : ∀ (b : Addr) (G H : Hp) (σ : L2.St) (Q : VK), EnvD K b β G H σ ρ → (∀ v G' H', Step b β.isSome G H G' H' → BagOk b β' G' H' → Den K G' v d → Q v H') → te σ H Q
structure TtB [TabW] (K : PySem.W.Frag) (tt : TT) (ρ : Rho) (β : Bag) (c : Bool) (β' : Bag) : Prop where
  som : β'.isSome = β.isSome
  run : ∀ (b : Addr) (G H : Hp) (σ : L2.St) (Q : Bool → Hp → Prop), EnvD K b β G H σ ρ → (∀ G' H', Step b β.isSome G H G' H' → BagOk b β' G' H' → Q c H') → tt σ H Q
/-- arguments: data, or the bag itself -/
def DenS (K : PySem.W.Frag) (b : Addr) (G : Hp) (v : V) : Slot → Prop
  | .imm d => Den K G v d
  | .bag => v = .ref b
  | .fn a => v = .ref a
inductive DenSs (K : PySem.W.Frag) (b : Addr) (G : Hp) : List V → List Slot → Prop
  | nil : DenSs K b G [] []
  | cons {v : V} {vs : List V} {a : Slot} {as : List Slot} : DenS K b G v a → DenSs K b G vs as → DenSs K b G (v :: vs) (a :: as)
structure EvS [TabW] (K : PySem.W.Frag) (te : TE) (ρ : Rho) (β : Bag) (a : Slot) (β' : Bag) : Prop where
  som : β'.isSome = β.isSome
  run : ∀ (b : Addr) (G H : Hp) (σ : L2.St) (Q : VK), EnvD K b β G H σ ρ → (∀ v G' H', Step b β.isSome G H G' H' → BagOk b β' G' H' → DenS K b G' v a → Q v H') → te σ H Q
structure EvA [TabW] (K : PySem.W.Frag) (ta : TA) (ρ : Rho) (β : Bag) (as : List Slot) (β' : Bag) : Prop where
  som : β'.isSome = β.isSome
  run : ∀ (b : Addr) (G H : Hp) (σ : L2.St) (Q : List V → Hp → Prop), EnvD K b β G H σ ρ → (∀ vs G' H', Step b β.isSome G H G' H' → BagOk b β' G' H' → DenSs K b G' vs as → Q vs H') → ta σ H Q
inductive Out where
  | nx (ρ : Rho)
  | ret (d : Dt)
  | brk (ρ : Rho)
  | ct (ρ : Rho)
def OutOk [TabW] (K : PySem.W.Frag) (b : Addr) (m : Bool) (β' : Bag) (G H : Hp) (D : Ends) : Out → Prop
  | .nx ρ' => ∀ σ' G' H', Step b m G H G' H' → EnvD K b β' G' H' σ' ρ' → D.nx σ' H'
  | .brk ρ' => ∀ σ' G' H', Step b m G H G' H' → EnvD K b β' G' H' σ' ρ' → D.bk σ' H'
  | .ct ρ' => ∀ σ' G' H', Step b m G H G' H' → EnvD K b β' G' H' σ' ρ' → D.ct σ' H'
  | .ret d => ∀ v G' H', Step b m G H G' H' → BagOk b β' G' H' → Den K G' v d → D.rt v H'
structure StB [TabW] (K : PySem.W.Frag) (ts : TS) (ρ : Rho) (β : Bag) (o : Out) (β' : Bag) : Prop where
  som : β'.isSome = β.isSome
  run : ∀ (b : Addr) (G H : Hp) (σ : L2.St) (D : Ends), EnvD K b β G H σ ρ → OutOk K b β.isSome β' G H D o → ts D σ H
end TD
/-! ## TdEv -/
set_option Elab.async false
set_option linter.all false
set_option maxRecDepth 100000
set_option maxHeartbeats 3000000
/-! What the terms come to: expressions. -/
namespace TD
open PySem L2
open Evl (Ex ex_l ex_t fresh_back sq_of st_of sz_of sz_lt rMax2)
section
variable [TabW] {K : PySem.W.Frag} {b : Addr} {ρ : Rho} {β β1 β2 β3 : Bag} {ta tb te tc : TE} {tt tu : TT} {x y z d : Dt} {G H G1 H1 G2 H2 : Hp} {σ : L2.St}

theorem BagOk.of_false {G H G1 H1} (x : Step b false G H G1 H1) (h : BagOk b β G H) : BagOk b β G1 H1 := h.same x
/-- the leaf: the state as it stands -/
theorem ev_now (h : ∀ b G H σ, EnvD K b β G H σ ρ → ∀ Q : VK, (∀ v, Den K G v d → Q v H) → te σ H Q) : EvB K te ρ β d β :=
  ⟨rfl, fun b G H σ Q E k => h b G H σ E Q fun v hv => k v G H (Step.refl E.sub) E.bagk hv⟩
theorem d_var {i : Nat} (h : ρ[i]? = some (some (Slot.imm d))) : EvB K (tVar i) ρ β d β := ev_now fun b G H σ E Q k => by
  obtain ⟨v, h1, h2⟩ := E.imm i d h
  exact ⟨v, h1, k v h2⟩
theorem d_int {i : Int} : EvB K (tC (.int i)) ρ β (.int i) β := ev_now fun _ _ _ _ _ _ k => k _ (.int i)
theorem d_bl {c : Bool} : EvB K (tC (.bl c)) ρ β (.bool c) β := ev_now fun _ _ _ _ _ _ k => k _ (.bl c)
theorem d_non : EvB K (tC .non) ρ β .none β := ev_now fun _ _ _ _ _ _ k => k _ .non
theorem d_str {s : Str} : EvB K (tC (.str s)) ρ β (.str s) β := ev_now fun _ _ _ _ _ _ k => k _ (.str s)
/-- a constant of the module, a tuple or list of the written part -/
theorem d_ref {a : Addr} (h : ∀ G, Den K G (.ref a) d) : EvB K (tC (.ref a)) ρ β d β := ev_now fun _ G _ _ _ _ k => k _ (h G)
theorem EvB.to {d' : Dt} (h : EvB K te ρ β d β1) (e : d = d') : EvB K te ρ β d' β1 := e ▸ h
theorem TtB.to {c c' : Bool} (h : TtB K tt ρ β c β1) (e : c = c') : TtB K tt ρ β c' β1 := e ▸ h

/-! ### two parts, one part -/
theorem d_op {r : R2} (ha : EvB K ta ρ β x β1) (hb : EvB K tb ρ β1 y β2)
    (hr : ∀ (b : Addr) (G H : Hp) (v w : V) (Q : VK), Ex G H → Den K G v x → Den K G w y → (∀ u G' H', Step b false G H G' H' → Den K G' u z → Q u H') → r v w H Q) : EvB K (tOp r ta tb) ρ β z β2 := by
  refine ⟨hb.som.trans ha.som, fun b G H σ Q E k => ?_⟩
  refine ha.run b G H σ _ E fun v G1 H1 s1 k1 d1 => ?_
  refine hb.run b G1 H1 σ _ (E.step s1 k1) fun w G2 H2 s2 k2 d2 => ?_
  rw [ha.som] at s2
  exact hr b G2 H2 v w Q s2.s (d1.mono s2.g) d2 fun u G3 H3 s3 d3 => k u G3 H3 ((s1.trans s2).trans s3.up) (k2.same s3) d3
theorem d_un {r : V → Hp → VK → Prop} (ha : EvB K ta ρ β x β1) (hr : ∀ (b : Addr) (G H : Hp) (v : V) (Q : VK), Ex G H → Den K G v x → (∀ u G' H', Step b false G H G' H' → Den K G' u z → Q u H') → r v H Q) : EvB K (tUn r ta) ρ β z β1 := by
  refine ⟨ha.som, fun b G H σ Q E k => ?_⟩
  refine ha.run b G H σ _ E fun v G1 H1 s1 k1 d1 => ?_
  exact hr b G1 H1 v Q s1.s d1 fun u G3 H3 s3 d3 => k u G3 H3 (s1.trans s3.up) (k1.same s3) d3
/-! ### ints -/
def toD : V → Dt
  | .int i => .int i
  | .bl c => .bool c
  | .str s => .str s
  | _ => .none
theorem den_toI {G : Hp} (i : Int) : Den K G (.int i) (toD (.int i)) := .int i
theorem d_rI0 {g : Int → Int → V} {i j : Int} (ha : EvB K ta ρ β (.int i) β1) (hb : EvB K tb ρ β1 (.int j) β2) (hz : ∀ G, Den K G (g i j) z) : EvB K (tOp (rI0 g) ta tb) ρ β z β2 :=
  d_op ha hb fun b G H v w Q e h1 h2 k => by
    cases h1
    cases h2
    exact ⟨i, j, rfl, rfl, k _ G H (Step.refl e) (hz G)⟩
theorem d_rI {C : Int → Int → Prop} {g : Int → Int → V} {i j : Int} (ha : EvB K ta ρ β (.int i) β1) (hb : EvB K tb ρ β1 (.int j) β2) (hc : C i j) (hz : ∀ G, Den K G (g i j) z) : EvB K (tOp (rI C g) ta tb) ρ β z β2 :=
  d_op ha hb fun b G H v w Q e h1 h2 k => by
    cases h1
    cases h2
    exact ⟨i, j, rfl, rfl, hc, k _ G H (Step.refl e) (hz G)⟩
theorem d_add {i j : Int} (ha : EvB K ta ρ β (.int i) β1) (hb : EvB K tb ρ β1 (.int j) β2) : EvB K (tOp (rI0 fun i j => .int (i + j)) ta tb) ρ β (.int (i + j)) β2 := d_rI0 ha hb fun _ => .int _
theorem d_sub {i j : Int} (ha : EvB K ta ρ β (.int i) β1) (hb : EvB K tb ρ β1 (.int j) β2) : EvB K (tOp (rI0 fun i j => .int (i - j)) ta tb) ρ β (.int (i - j)) β2 := d_rI0 ha hb fun _ => .int _
theorem d_lt {i j : Int} (ha : EvB K ta ρ β (.int i) β1) (hb : EvB K tb ρ β1 (.int j) β2) : EvB K (tOp (rI0 fun i j => .bl (decide (i < j))) ta tb) ρ β (.bool (decide (i < j))) β2 := d_rI0 ha hb fun _ => .bl _
theorem d_le {i j : Int} (ha : EvB K ta ρ β (.int i) β1) (hb : EvB K tb ρ β1 (.int j) β2) : EvB K (tOp (rI0 fun i j => .bl (decide (i ≤ j))) ta tb) ρ β (.bool (decide (i ≤ j))) β2 := d_rI0 ha hb fun _ => .bl _
theorem d_gt {i j : Int} (ha : EvB K ta ρ β (.int i) β1) (hb : EvB K tb ρ β1 (.int j) β2) : EvB K (tOp (rI0 fun i j => .bl (decide (j < i))) ta tb) ρ β (.bool (decide (j < i))) β2 := d_rI0 ha hb fun _ => .bl _
theorem d_ge {i j : Int} (ha : EvB K ta ρ β (.int i) β1) (hb : EvB K tb ρ β1 (.int j) β2) : EvB K (tOp (rI0 fun i j => .bl (decide (j ≤ i))) ta tb) ρ β (.bool (decide (j ≤ i))) β2 := d_rI0 ha hb fun _ => .bl _
theorem d_mul {i j : Int} {C : Int → Int → Prop} (ha : EvB K ta ρ β (.int i) β1) (hb : EvB K tb ρ β1 (.int j) β2) (hc : C i j) : EvB K (tOp (rI C fun i j => .int (i * j)) ta tb) ρ β (.int (i * j)) β2 := d_rI ha hb hc fun _ => .int _
theorem d_mod {i j : Int} {C : Int → Int → Prop} (ha : EvB K ta ρ β (.int i) β1) (hb : EvB K tb ρ β1 (.int j) β2) (hc : C i j) : EvB K (tOp (rI C fun i j => .int (i % j)) ta tb) ρ β (.int (i % j)) β2 := d_rI ha hb hc fun _ => .int _
theorem d_div {i j : Int} {C : Int → Int → Prop} (ha : EvB K ta ρ β (.int i) β1) (hb : EvB K tb ρ β1 (.int j) β2) (hc : C i j) : EvB K (tOp (rI C fun i j => .int (i / j)) ta tb) ρ β (.int (i / j)) β2 := d_rI ha hb hc fun _ => .int _
theorem d_pow {i j : Int} {C : Int → Int → Prop} (ha : EvB K ta ρ β (.int i) β1) (hb : EvB K tb ρ β1 (.int j) β2) (hc : C i j) : EvB K (tOp (rI C fun i j => .int (i ^ j.toNat)) ta tb) ρ β (.int (i ^ j.toNat)) β2 := d_rI ha hb hc fun _ => .int _
theorem d_neg {i : Int} (ha : EvB K ta ρ β (.int i) β1) : EvB K (tUn (rU fun i => .int (-i)) ta) ρ β (.int (-i)) β1 := d_un ha fun b G H v Q e h1 k => by
  cases h1
  exact ⟨i, rfl, k _ G H (Step.refl e) (.int _)⟩
/-! ### == of scalars -/
theorem d_eqI {i j : Int} (ha : EvB K ta ρ β (.int i) β1) (hb : EvB K tb ρ β1 (.int j) β2) : EvB K (tOp rEq ta tb) ρ β (.bool (decide (i = j))) β2 := d_op ha hb fun b G H v w Q e h1 h2 k => by
  cases h1
  cases h2
  have q : decide (V.int i = V.int j) = decide (i = j) := by
    by_cases z : i = j
    · subst z; simp
    · rw [decide_eq_false z]; exact decide_eq_false fun q => z (V.int.inj q)
  exact ⟨rfl, by rw [q]; exact k _ G H (Step.refl e) (.bl _)⟩
theorem d_neI {i j : Int} (ha : EvB K ta ρ β (.int i) β1) (hb : EvB K tb ρ β1 (.int j) β2) : EvB K (tOp rNe ta tb) ρ β (.bool (!decide (i = j))) β2 := d_op ha hb fun b G H v w Q e h1 h2 k => by
  cases h1
  cases h2
  have q : decide (V.int i = V.int j) = decide (i = j) := by
    by_cases z : i = j
    · subst z; simp
    · rw [decide_eq_false z]; exact decide_eq_false fun q => z (V.int.inj q)
  exact ⟨rfl, by rw [q]; exact k _ G H (Step.refl e) (.bl _)⟩
theorem str_dec (i j : Str) : decide (V.str i = V.str j) = decide (i = j) := by
  by_cases z : i = j
  · subst z; simp
  · rw [decide_eq_false z]; exact decide_eq_false fun q => z (V.str.inj q)
theorem d_eqS {i j : Str} (ha : EvB K ta ρ β (.str i) β1) (hb : EvB K tb ρ β1 (.str j) β2) : EvB K (tOp rEq ta tb) ρ β (.bool (decide (i = j))) β2 := d_op ha hb fun b G H v w Q e h1 h2 k => by
  cases h1
  cases h2
  exact ⟨rfl, by rw [str_dec]; exact k _ G H (Step.refl e) (.bl _)⟩
theorem d_neS {i j : Str} (ha : EvB K ta ρ β (.str i) β1) (hb : EvB K tb ρ β1 (.str j) β2) : EvB K (tOp rNe ta tb) ρ β (.bool (!decide (i = j))) β2 := d_op ha hb fun b G H v w Q e h1 h2 k => by
  cases h1
  cases h2
  exact ⟨rfl, by rw [str_dec]; exact k _ G H (Step.refl e) (.bl _)⟩
/-! ### data without dicts -/
mutual
def flatD : Dt → Bool
  | .dict _ => false
  | .list xs => flatL xs
  | .tuple xs => flatL xs
  | _ => true
def flatL : List Dt → Bool
  | [] => true
  | d :: ds => flatD d && flatL ds
end
mutual
theorem Den.dp : ∀ {d : Dt} {v : V}, Ex G H → Den K G v d → flatD d = true → Dp K H v d
  | .none, _, _, h, _ => by cases h; exact .non
  | .bool c, _, _, h, _ => by cases h; exact .bl c
  | .int i, _, _, h, _ => by cases h; exact .int i
  | .str s, _, _, h, _ => by cases h; exact .str s
  | .list ds, _, e, h, f => by
    cases h with
    | lst hs hd => exact .lst (sq_of (e _ _ hs)) (DenL.dp e hd (by unfold flatD at f; exact f))
  | .tuple ds, _, e, h, f => by
    cases h with
    | tup hs hd => exact .tup (ex_t e hs) (DenL.dp e hd (by unfold flatD at f; exact f))
  | .dict _, _, _, _, f => by unfold flatD at f; cases f
theorem DenL.dp : ∀ {ds : List Dt} {vs : List V}, Ex G H → DenL K G vs ds → flatL ds = true → DpAll K H vs ds
  | [], _, _, h, _ => by cases h; exact .nil
  | d :: ds, _, e, h, f => by
    unfold flatL at f
    rw [Bool.and_eq_true] at f
    cases h with
    | cons h1 h2 => exact .cons (Den.dp e h1 f.1) (DenL.dp e h2 f.2)
end
theorem d_eqD (ha : EvB K ta ρ β x β1) (hb : EvB K tb ρ β1 y β2) (fx : flatD x = true) (fy : flatD y = true) (sx : SeqAt.shaped x = true) (sy : SeqAt.shaped y = true) : EvB K (tOp (rEqD K) ta tb) ρ β (.bool (PyData.eqv x y)) β2 :=
  d_op ha hb fun b G H v w Q e h1 h2 k => ⟨x, y, h1.dp e fx, h2.dp e fy, sx, sy, k _ G H (Step.refl e) (.bl _)⟩
theorem d_neD (ha : EvB K ta ρ β x β1) (hb : EvB K tb ρ β1 y β2) (fx : flatD x = true) (fy : flatD y = true) (sx : SeqAt.shaped x = true) (sy : SeqAt.shaped y = true) : EvB K (tOp (rNeD K) ta tb) ρ β (.bool (!PyData.eqv x y)) β2 :=
  d_op ha hb fun b G H v w Q e h1 h2 k => ⟨x, y, h1.dp e fx, h2.dp e fy, sx, sy, k _ G H (Step.refl e) (.bl _)⟩
/-! ### places and slices -/
theorem atI_map {α γ : Type} {xs : List α} {ys : List γ} (hl : xs.length = ys.length) {i : Int} {n : Nat} (h : ixN ys.length i = some n) : ixN xs.length i = some n := by rw [hl]; exact h
theorem den_at {xs : List V} {ds : List Dt} {i : Int} {d : Dt} (h : DenL K G xs ds) (ha : atI ds i = some d) : ∃ v, atI xs i = some v ∧ Den K G v d := by
  unfold atI at ha ⊢
  obtain ⟨n, h1, h2⟩ := Option.bind_eq_some_iff.mp ha
  obtain ⟨v, h3, h4⟩ := h.get' h2
  exact ⟨v, by rw [h.length, h1]; exact h3, h4⟩
theorem d_ixL {ds : List Dt} {i : Int} (ha : EvB K ta ρ β (.list ds) β1) (hb : EvB K tb ρ β1 (.int i) β2) (hi : atI ds i = some d) : EvB K (tOp (rIxL K) ta tb) ρ β d β2 := d_op ha hb fun b G H v w Q e h1 h2 k => by
  cases h2
  cases h1 with
  | lst hs hd =>
    obtain ⟨u, h3, h4⟩ := den_at hd hi
    exact ⟨_, _, i, u, rfl, rfl, sq_of (e _ _ hs), h3, k u G H (Step.refl e) h4⟩
theorem d_ixT {ds : List Dt} {i : Int} (ha : EvB K ta ρ β (.tuple ds) β1) (hb : EvB K tb ρ β1 (.int i) β2) (hi : atI ds i = some d) : EvB K (tOp (rIxT K) ta tb) ρ β d β2 := d_op ha hb fun b G H v w Q e h1 h2 k => by
  cases h2
  cases h1 with
  | tup hs hd =>
    obtain ⟨u, h3, h4⟩ := den_at hd hi
    exact ⟨_, _, i, u, rfl, rfl, ex_t e hs, h3, k u G H (Step.refl e) h4⟩
/-- of a list or a tuple -/
theorem d_ix {ds : List Dt} {i : Int} (ha : EvB K ta ρ β x β1) (hx : x = .list ds ∨ x = .tuple ds) (hb : EvB K tb ρ β1 (.int i) β2) (hi : atI ds i = some d) : EvB K (tOp (rIx K) ta tb) ρ β d β2 := d_op ha hb fun b G H v w Q e h1 h2 k => by
  cases h2
  rcases hx with rfl | rfl
  · cases h1 with
    | lst hs hd =>
      obtain ⟨u, h3, h4⟩ := den_at hd hi
      exact .inl ⟨_, _, i, u, rfl, rfl, sq_of (e _ _ hs), h3, k u G H (Step.refl e) h4⟩
  · cases h1 with
    | tup hs hd =>
      obtain ⟨u, h3, h4⟩ := den_at hd hi
      exact .inr (.inl ⟨_, _, i, u, rfl, rfl, ex_t e hs, h3, k u G H (Step.refl e) h4⟩)
def EvO (K : PySem.W.Frag) (to : TO) (ρ : Rho) (β : Bag) (o : Option Int) (β' : Bag) : Prop := β'.isSome = β.isSome ∧ ∀ (b : Addr) (G H : Hp) (σ : L2.St) (Q : Option Int → Hp → Prop), EnvD K b β G H σ ρ → (∀ G' H', Step b β.isSome G H G' H' → BagOk b β' G' H' → Q o H') → to σ H Q
theorem o_none : EvO K tNoPart ρ β none β := ⟨rfl, fun b G H σ Q E k => k G H (Step.refl E.sub) E.bagk⟩
theorem o_some {i : Int} (h : EvB K te ρ β (.int i) β1) : EvO K (tPart te) ρ β (some i) β1 := ⟨h.som, fun b G H σ Q E k => h.run b G H σ _ E fun v G1 H1 s1 k1 d1 => by
  cases d1
  exact ⟨i, rfl, k G1 H1 s1 k1⟩⟩
def cutD (xs : List Dt) (lo hi : Option Int) : List Dt := (xs.drop (HT.sIx xs.length 0 lo)).take (HT.sIx xs.length xs.length hi - HT.sIx xs.length 0 lo)
theorem den_cut {xs : List V} {ds : List Dt} {lo hi : Option Int} (h : DenL K G xs ds) : DenL K G (cutV xs lo hi) (cutD ds lo hi) := by
  unfold cutV cutD
  rw [h.length]
  exact (h.drop _).take _
theorem d_slL {tl th : TO} {ds : List Dt} {lo hi : Option Int} (ha : EvB K te ρ β (.list ds) β1) (h1 : EvO K tl ρ β1 lo β2) (h2 : EvO K th ρ β2 hi β3) : EvB K (tSl (rSlL K) te tl th) ρ β (.list (cutD ds lo hi)) β3 := by
  refine ⟨h2.1.trans (h1.1.trans ha.som), fun b G H σ Q E k => ?_⟩
  refine ha.run b G H σ _ E fun v G1 H1 s1 k1 d1 => ?_
  have E1 := E.step s1 k1
  refine h1.2 b G1 H1 σ _ E1 fun G2 H2 s2 k2 => ?_
  have E2 := E1.step s2 k2
  refine h2.2 b G2 H2 σ _ E2 fun G3 H3 s3 k3 => ?_
  rw [h1.1, ha.som] at s3
  rw [ha.som] at s2
  have d3 := (d1.mono s2.g).mono s3.g
  cases d3 with
  | @lst a xs _ hs hd =>
    refine ⟨_, _, rfl, sq_of (s3.s _ _ hs), fun p hp => ?_⟩
    have n := Step.new (b := b) (m := false) (o := .lst (cutV xs lo hi)) s3.s hp
    exact k (.ref p) _ _ (((s1.trans s2).trans s3).trans n.up) (k3.same n) (.lst upd_same ((den_cut hd).mono n.g))
/-! ### displays -/
theorem s_imm (h : EvB K te ρ β d β1) : EvS K te ρ β (.imm d) β1 := ⟨h.som, fun b G H σ Q E k => h.run b G H σ Q E k⟩
theorem s_bag {i : Nat} (h : ρ[i]? = some (some Slot.bag)) : EvS K (tVar i) ρ β .bag β := ⟨rfl, fun b G H σ Q E k => ⟨_, E.bagv i h, k _ G H (Step.refl E.sub) E.bagk rfl⟩⟩
theorem s_fn {i : Nat} {a : Addr} (h : ρ[i]? = some (some (Slot.fn a))) : EvS K (tVar i) ρ β (.fn a) β := ⟨rfl, fun b G H σ Q E k => ⟨_, E.fnv i a h, k _ G H (Step.refl E.sub) E.bagk rfl⟩⟩
theorem DenS.mono {a : Slot} {v : V} (e : Ex G G1) (h : DenS K b G v a) : DenS K b G1 v a := by
  cases a with
  | imm d => exact Den.mono e h
  | bag => exact h
  | fn a => exact h
theorem DenSs.mono {as : List Slot} {vs : List V} (e : Ex G G1) (h : DenSs K b G vs as) : DenSs K b G1 vs as := by
  induction h with
  | nil => exact .nil
  | cons h _ ih => exact .cons (h.mono e) ih
theorem a_nil : EvA K tNil ρ β [] β := ⟨rfl, fun b G H σ Q E k => k [] G H (Step.refl E.sub) E.bagk .nil⟩
theorem a_cons {tr : TA} {a : Slot} {as : List Slot} (h : EvS K te ρ β a β1) (hr : EvA K tr ρ β1 as β2) : EvA K (tCons te tr) ρ β (a :: as) β2 := by
  refine ⟨hr.som.trans h.som, fun b G H σ Q E k => ?_⟩
  refine h.run b G H σ _ E fun v G1 H1 s1 k1 d1 => ?_
  refine hr.run b G1 H1 σ _ (E.step s1 k1) fun vs G2 H2 s2 k2 d2 => ?_
  rw [h.som] at s2
  exact k _ G2 H2 (s1.trans s2) k2 (.cons (d1.mono s2.g) d2)
theorem a_con {tr : TA} {as : List Slot} (h : EvB K te ρ β d β1) (hr : EvA K tr ρ β1 as β2) : EvA K (tCons te tr) ρ β (.imm d :: as) β2 := a_cons (s_imm h) hr
def imms (ds : List Dt) : List Slot := ds.map Slot.imm
theorem DenSs.imm : ∀ {vs : List V} {ds : List Dt}, DenSs K b G vs (imms ds) → DenL K G vs ds
  | _, [], h => by cases h; exact .nil
  | _, d :: ds, h => by
    cases h with
    | cons h1 h2 => exact .cons h1 (DenSs.imm h2)
theorem DenL.ss : ∀ {vs : List V} {ds : List Dt}, DenL K G vs ds → DenSs K b G vs (imms ds)
  | [], [], _ => .nil
  | [], _ :: _, h => nomatch h
  | _ :: _, [], h => nomatch h
  | _ :: _, _ :: _, .cons h1 h2 => .cons h1 (DenL.ss h2)
theorem DenSs.length {as : List Slot} {vs : List V} (h : DenSs K b G vs as) : vs.length = as.length := by
  induction h with
  | nil => rfl
  | cons _ _ ih => exact congrArg (· + 1) ih
theorem d_tup {t : TA} {as : List Slot} {ds : List Dt} (h : EvA K t ρ β as β1) (ha : as = imms ds) (hl : ds.length ≤ 100000) : EvB K (tTup t) ρ β (.tuple ds) β1 := by
  refine ⟨h.som, fun b G H σ Q E k => ?_⟩
  refine h.run b G H σ _ E fun vs G1 H1 s1 k1 d1 => ?_
  subst ha
  have dl := d1.imm
  refine ⟨sz_of (by rw [dl.length]; exact hl), fun p hp => ?_⟩
  have n := Step.new (b := b) (m := false) (o := .tup vs) s1.s hp
  exact k (.ref p) _ _ (s1.trans n.up) (k1.same n) (.tup (st_of upd_same) (dl.mono n.g))
theorem d_lst {t : TA} {as : List Slot} {ds : List Dt} (h : EvA K t ρ β as β1) (ha : as = imms ds) (hl : ds.length ≤ 100000) : EvB K (tLst t) ρ β (.list ds) β1 := by
  refine ⟨h.som, fun b G H σ Q E k => ?_⟩
  refine h.run b G H σ _ E fun vs G1 H1 s1 k1 d1 => ?_
  subst ha
  have dl := d1.imm
  refine ⟨sz_of (by rw [dl.length]; exact hl), fun p hp => ?_⟩
  have n := Step.new (b := b) (m := false) (o := .lst vs) s1.s hp
  exact k (.ref p) _ _ (s1.trans n.up) (k1.same n) (.lst upd_same (dl.mono n.g))
/-! ### built-ins -/
theorem d_cb {r : List V → Hp → VK → Prop} {t : TA} {as : List Slot} {ds : List Dt} (h : EvA K t ρ β as β1) (ha : as = imms ds)
    (hr : ∀ (b : Addr) (G H : Hp) (vs : List V) (Q : VK), Ex G H → DenL K G vs ds → (∀ u G' H', Step b false G H G' H' → Den K G' u z → Q u H') → r vs H Q) : EvB K (tCB r t) ρ β z β1 := by
  refine ⟨h.som, fun b G H σ Q E k => ?_⟩
  refine h.run b G H σ _ E fun vs G1 H1 s1 k1 d1 => ?_
  subst ha
  exact hr b G1 H1 vs Q s1.s d1.imm fun u G3 H3 s3 d3 => k u G3 H3 (s1.trans s3.up) (k1.same s3) d3
theorem den1 {vs : List V} (h : DenL K G vs [d]) : ∃ v, vs = [v] ∧ Den K G v d := by
  cases h with
  | cons h1 h2 => cases h2; exact ⟨_, rfl, h1⟩
theorem den2 {vs : List V} (h : DenL K G vs [x, y]) : ∃ v w, vs = [v, w] ∧ Den K G v x ∧ Den K G w y := by
  cases h with
  | cons h1 h2 =>
    obtain ⟨w, rfl, h3⟩ := den1 h2
    exact ⟨_, w, rfl, h1, h3⟩
/-- what a call of one datum asks -/
theorem d_c1 {r : List V → Hp → VK → Prop} (h : EvB K te ρ β x β1) (hr : ∀ (b : Addr) (G H : Hp) (v : V) (Q : VK), Ex G H → Den K G v x → (∀ u G' H', Step b false G H G' H' → Den K G' u z → Q u H') → r [v] H Q) : EvB K (tCB r (tCons te tNil)) ρ β z β1 :=
  d_cb (ds := [x]) (a_con h a_nil) rfl fun b G H vs Q e dl k => by
    obtain ⟨v, rfl, dv⟩ := den1 dl
    exact hr b G H v Q e dv k
theorem d_c2 {r : List V → Hp → VK → Prop} (h : EvB K ta ρ β x β1) (h' : EvB K tb ρ β1 y β2) (hr : ∀ (b : Addr) (G H : Hp) (v w : V) (Q : VK), Ex G H → Den K G v x → Den K G w y → (∀ u G' H', Step b false G H G' H' → Den K G' u z → Q u H') → r [v, w] H Q) : EvB K (tCB r (tCons ta (tCons tb tNil))) ρ β z β2 :=
  d_cb (ds := [x, y]) (a_con h (a_con h' a_nil)) rfl fun b G H vs Q e dl k => by
    obtain ⟨v, w, rfl, dv, dw⟩ := den2 dl
    exact hr b G H v w Q e dv dw k
def rAbs : List V → Hp → VK → Prop := fun xs H Q => ∃ i, xs = [.int i] ∧ Q (.int (if i < 0 then -i else i)) H
def rMin2 : List V → Hp → VK → Prop := fun xs H Q => ∃ i j, xs = [.int i, .int j] ∧ Q (.int (if j < i then j else i)) H
def rInt1 : List V → Hp → VK → Prop := fun xs H Q => (∃ i, xs = [.int i] ∧ Q (.int i) H) ∨ ∃ k, xs = [.bl k] ∧ Q (.int (if k then 1 else 0)) H
def rLen (K : PySem.W.Frag) : List V → Hp → VK → Prop := fun xs H Q => ∃ p ys, xs = [.ref p] ∧ (SqL K H p ys ∨ SqT K H p ys) ∧ Q (.int ys.length) H
def rListOf (K : PySem.W.Frag) : List V → Hp → VK → Prop := fun xs H Q => ∃ p ys, xs = [.ref p] ∧ (SqL K H p ys ∨ SqT K H p ys) ∧ ∀ l, H l = none → Q (.ref l) (upd H l (.lst ys))
def rTupleOf (K : PySem.W.Frag) : List V → Hp → VK → Prop := fun xs H Q => ∃ p ys, xs = [.ref p] ∧ ((SqL K H p ys ∧ ∀ l, H l = none → Q (.ref l) (upd H l (.tup ys))) ∨ (SqT K H p ys ∧ Q (.ref p) H))
omit [TabW] in
theorem c_abs {X : Cx} : CallR X (.builtin "abs") rAbs := call_abs
omit [TabW] in
theorem c_max2 {X : Cx} (hc : X.calm = true) : CallR X (.builtin "max") rMax2 := call_max2 hc
omit [TabW] in
theorem c_min2 {X : Cx} (hc : X.calm = true) : CallR X (.builtin "min") rMin2 := call_min2 hc
omit [TabW] in
theorem c_int {X : Cx} : CallR X (.type "int") rInt1 := call_int1
omit [TabW] in
theorem c_len {X : Cx} : CallR X (.builtin "len") (rLen X.K) := call_len_seq
omit [TabW] in
theorem c_list {X : Cx} : CallR X (.type "list") (rListOf X.K) := call_list_of
omit [TabW] in
theorem c_tuple {X : Cx} : CallR X (.type "tuple") (rTupleOf X.K) := call_tuple_of
def absI (i : Int) : Int := if i < 0 then -i else i
theorem d_abs {i : Int} (h : EvB K te ρ β (.int i) β1) : EvB K (tCB rAbs (tCons te tNil)) ρ β (.int (absI i)) β1 := d_c1 h fun b G H v Q e dv k => by
  cases dv
  exact ⟨i, rfl, k _ G H (Step.refl e) (.int _)⟩
theorem d_max2 {i j : Int} (h : EvB K ta ρ β (.int i) β1) (h' : EvB K tb ρ β1 (.int j) β2) : EvB K (tCB rMax2 (tCons ta (tCons tb tNil))) ρ β (.int (if j > i then j else i)) β2 := d_c2 h h' fun b G H v w Q e dv dw k => by
  cases dv
  cases dw
  exact ⟨i, j, rfl, k _ G H (Step.refl e) (.int _)⟩
theorem d_min2 {i j : Int} (h : EvB K ta ρ β (.int i) β1) (h' : EvB K tb ρ β1 (.int j) β2) : EvB K (tCB rMin2 (tCons ta (tCons tb tNil))) ρ β (.int (if j < i then j else i)) β2 := d_c2 h h' fun b G H v w Q e dv dw k => by
  cases dv
  cases dw
  exact ⟨i, j, rfl, k _ G H (Step.refl e) (.int _)⟩
theorem d_intI {i : Int} (h : EvB K te ρ β (.int i) β1) : EvB K (tCB rInt1 (tCons te tNil)) ρ β (.int i) β1 := d_c1 h fun b G H v Q e dv k => by
  cases dv
  exact .inl ⟨i, rfl, k _ G H (Step.refl e) (.int _)⟩
theorem d_intB {c : Bool} (h : EvB K te ρ β (.bool c) β1) : EvB K (tCB rInt1 (tCons te tNil)) ρ β (.int (if c then 1 else 0)) β1 := d_c1 h fun b G H v Q e dv k => by
  cases dv
  exact .inr ⟨c, rfl, k _ G H (Step.refl e) (.int _)⟩
/-- a list or a tuple of ds -/
def SeqD (x : Dt) (ds : List Dt) : Prop := x = .list ds ∨ x = .tuple ds
theorem Den.seq {v : V} {ds : List Dt} (h : Den K G v x) (hx : SeqD x ds) (e : Ex G H) : ∃ p ys, v = .ref p ∧ (SqL K H p ys ∨ SqT K H p ys) ∧ DenL K G ys ds := by
  rcases hx with rfl | rfl
  · cases h with
    | lst hs hd => exact ⟨_, _, rfl, .inl (sq_of (e _ _ hs)), hd⟩
  · cases h with
    | tup hs hd => exact ⟨_, _, rfl, .inr (ex_t e hs), hd⟩
theorem d_len {ds : List Dt} (h : EvB K te ρ β x β1) (hx : SeqD x ds) : EvB K (tCB (rLen K) (tCons te tNil)) ρ β (.int (ds.length : Int)) β1 := d_c1 h fun b G H v Q e dv k => by
  obtain ⟨p, ys, rfl, hq, hd⟩ := dv.seq hx e
  exact ⟨p, ys, rfl, hq, by rw [hd.length]; exact k _ G H (Step.refl e) (.int _)⟩
theorem d_listOf {ds : List Dt} (h : EvB K te ρ β x β1) (hx : SeqD x ds) : EvB K (tCB (rListOf K) (tCons te tNil)) ρ β (.list ds) β1 := d_c1 h fun b G H v Q e dv k => by
  obtain ⟨p, ys, rfl, hq, hd⟩ := dv.seq hx e
  refine ⟨p, ys, rfl, hq, fun l hl => ?_⟩
  have n := Step.new (b := b) (m := false) (o := .lst ys) e hl
  exact k _ _ _ n (.lst upd_same (hd.mono n.g))
theorem d_tupleOf {ds : List Dt} (h : EvB K te ρ β (.list ds) β1) : EvB K (tCB (rTupleOf K) (tCons te tNil)) ρ β (.tuple ds) β1 := d_c1 h fun b G H v Q e dv k => by
  cases dv with
  | @lst a ys _ hs hd =>
    refine ⟨_, ys, rfl, .inl ⟨sq_of (e _ _ hs), fun l hl => ?_⟩⟩
    have n := Step.new (b := b) (m := false) (o := .tup ys) e hl
    exact k _ _ _ n (.tup (st_of upd_same) (hd.mono n.g))
theorem d_tupleOfT {ds : List Dt} (h : EvB K te ρ β (.tuple ds) β1) : EvB K (tCB (rTupleOf K) (tCons te tNil)) ρ β (.tuple ds) β1 := d_c1 h fun b G H v Q e dv k => by
  have dv' := dv
  cases dv with
  | @tup a ys _ hs hd => exact ⟨_, ys, rfl, .inr ⟨ex_t e hs, k _ G H (Step.refl e) dv'⟩⟩
theorem d_slT {tl th : TO} {ds : List Dt} {lo hi : Option Int} (ha : EvB K te ρ β (.tuple ds) β1) (h1 : EvO K tl ρ β1 lo β2) (h2 : EvO K th ρ β2 hi β3) (hn : ¬ (HT.sIx ds.length 0 lo = 0 ∧ HT.sIx ds.length ds.length hi = ds.length)) : EvB K (tSl (rSlT K) te tl th) ρ β (.tuple (cutD ds lo hi)) β3 := by
  refine ⟨h2.1.trans (h1.1.trans ha.som), fun b G H σ Q E k => ?_⟩
  refine ha.run b G H σ _ E fun v G1 H1 s1 k1 d1 => ?_
  have E1 := E.step s1 k1
  refine h1.2 b G1 H1 σ _ E1 fun G2 H2 s2 k2 => ?_
  have E2 := E1.step s2 k2
  refine h2.2 b G2 H2 σ _ E2 fun G3 H3 s3 k3 => ?_
  rw [h1.1, ha.som] at s3
  rw [ha.som] at s2
  have d3 := (d1.mono s2.g).mono s3.g
  cases d3 with
  | @tup a xs _ hs hd =>
    refine ⟨_, xs, rfl, ex_t s3.s hs, by rw [hd.length]; exact hn, fun p hp => ?_⟩
    have n := Step.new (b := b) (m := false) (o := .tup (cutV xs lo hi)) s3.s hp
    exact k (.ref p) _ _ (((s1.trans s2).trans s3).trans n.up) (k3.same n) (.tup (st_of upd_same) ((den_cut hd).mono n.g))
/-! ### + of lists, of tuples; a list times a number -/
theorem d_cat {ds es : List Dt} (ha : EvB K ta ρ β (.list ds) β1) (hb : EvB K tb ρ β1 (.list es) β2) (hz : ds.length + es.length ≤ 100000) : EvB K (tOp rCat ta tb) ρ β (.list (ds ++ es)) β2 := d_op ha hb fun b G H v w Q e h1 h2 k => by
  cases h1 with
  | @lst a xs _ hs hd =>
    cases h2 with
    | @lst c ys _ hs' hd' =>
      refine ⟨a, c, xs, ys, rfl, rfl, e _ _ hs, e _ _ hs', sz_of (by rw [hd.length, hd'.length]; exact hz), fun p hp => ?_⟩
      have n := Step.new (b := b) (m := false) (o := .lst (xs ++ ys)) e hp
      exact k _ _ _ n (.lst upd_same ((hd.append hd').mono n.g))
theorem d_catT {ds es : List Dt} (ha : EvB K ta ρ β (.tuple ds) β1) (hb : EvB K tb ρ β1 (.tuple es) β2) (hz : ds.length + es.length ≤ 100000) (hn : ds ≠ []) : EvB K (tOp (rCatT K) ta tb) ρ β (.tuple (ds ++ es)) β2 := d_op ha hb fun b G H v w Q e h1 h2 k => by
  have h1' := h1
  cases h1 with
  | @tup a xs _ hs hd =>
    cases h2 with
    | @tup c ys _ hs' hd' =>
      refine ⟨a, c, xs, ys, rfl, rfl, ex_t e hs, ex_t e hs', fun z => ?_, sz_of (by rw [hd.length, hd'.length]; exact hz), fun z => ?_, fun z p hp => ?_⟩
      · subst z
        cases hd
        exact hn rfl
      · subst z
        cases hd'
        rw [List.append_nil] at k
        exact k _ G H (Step.refl e) h1'
      · have n := Step.new (b := b) (m := false) (o := .tup (xs ++ ys)) e hp
        exact k _ _ _ n (.tup (st_of upd_same) ((hd.append hd').mono n.g))
/-! ### sums, greatest ones, any, all -/
theorem d_sum {ns : List Int} (h : EvB K te ρ β (.list (ns.map .int)) β1) : EvB K (tCB (rSum K) (tCons te tNil)) ρ β (.int ns.sum) β1 := d_c1 h fun b G H v Q e dv k => by
  cases dv with
  | @lst a xs _ hs hd =>
    have := hd.ints
    subst this
    exact ⟨a, ns, rfl, sq_of (e _ _ hs), k _ G H (Step.refl e) (.int _)⟩
theorem d_all {bs : List Bool} (h : EvB K te ρ β (.list (bs.map .bool)) β1) : EvB K (tCB (rAll K) (tCons te tNil)) ρ β (.bool (bs.all id)) β1 := d_c1 h fun b G H v Q e dv k => by
  cases dv with
  | @lst a xs _ hs hd =>
    have := hd.bls
    subst this
    exact ⟨a, bs, rfl, sq_of (e _ _ hs), k _ G H (Step.refl e) (.bl _)⟩
theorem d_anyB {bs : List Bool} (h : EvB K te ρ β (.list (bs.map .bool)) β1) : EvB K (tCB (rAny K) (tCons te tNil)) ρ β (.bool (bs.any id)) β1 := d_c1 h fun b G H v Q e dv k => by
  cases dv with
  | @lst a xs _ hs hd =>
    have := hd.bls
    subst this
    exact ⟨a, bs, rfl, sq_of (e _ _ hs), k _ G H (Step.refl e) (.bl _)⟩
/-- the greatest of some ints: M is it -/
theorem d_max {ns : List Int} {M : Int} (h : EvB K te ρ β (.list (ns.map .int)) β1) (hM : M ∈ ns) (hg : ∀ y ∈ ns, y ≤ M) : EvB K (tCB (rMax K) (tCons te tNil)) ρ β (.int M) β1 := d_c1 h fun b G H v Q e dv k => by
  cases dv with
  | @lst a xs _ hs hd =>
    have := hd.ints
    subst this
    refine ⟨a, ns, rfl, sq_of (e _ _ hs), List.length_pos_of_mem hM, fun m hm hle => ?_⟩
    have e1 : m = M := Int.le_antisymm (hg m hm) (hle M hM)
    rw [e1]
    exact k _ G H (Step.refl e) (.int _)
theorem d_gcd {i j : Int} (h : EvB K ta ρ β (.int i) β1) (h' : EvB K tb ρ β1 (.int j) β2) : EvB K (tCB rGcd (tCons ta (tCons tb tNil))) ρ β (.int ((Nat.gcd i.natAbs j.natAbs : Nat) : Int)) β2 := d_c2 h h' fun b G H v w Q e dv dw k => by
  cases dv
  cases dw
  exact ⟨i, j, rfl, k _ G H (Step.refl e) (.int _)⟩
/-! ### isinstance -/
def tyD : Dt → String
  | .none => "NoneType"
  | .bool _ => "bool"
  | .int _ => "int"
  | .str _ => "str"
  | .list _ => "list"
  | .tuple _ => "tuple"
  | .dict _ => "dict"
theorem Den.ty {v : V} (h : Den K G v x) (e : Ex G H) : TyX K H v (.type (tyD x)) := by
  cases x with
  | none => cases h; exact .base .non
  | bool c => cases h; exact .base (.bl c)
  | int i => cases h; exact .base (.int i)
  | str s => cases h; exact .base (.str s)
  | list ds =>
    cases h with
    | lst hs hd => exact .base (.lst (e _ _ hs))
  | tuple ds =>
    cases h with
    | tup hs hd =>
      rcases ex_t e hs with (h1 | ⟨o, h1⟩) | ⟨o, its, n, h1, h2, _⟩
      · exact .base (.tup h1)
      · exact .fTuple h1
      · exact .kTuple h1 h2
  | dict kvs =>
    cases h with
    | dct hs => exact .base (.dK (e _ _ hs))
theorem d_isi {T : String} {c : Bool} (h : EvB K te ρ β x β1) (hk : kitB (tyD x) T = some c) : EvB K (tCB (rIsi K) (tCons te (tCons (tC (.ty T)) tNil))) ρ β (.bool c) β1 := by
  refine ⟨h.som, fun b G H σ Q E k => ?_⟩
  refine h.run b G H σ _ E fun v G1 H1 s1 k1 d1 => ?_
  exact ⟨v, .ty T, _, _, c, rfl, .ty T, d1.ty s1.s, kit_ty hk, k _ G1 H1 s1 k1 (.bl c)⟩
def isIntD : Dt → Bool
  | .int _ => true
  | .bool _ => true
  | _ => false
def isBoolD : Dt → Bool
  | .bool _ => true
  | _ => false
def isTupD : Dt → Bool
  | .tuple _ => true
  | _ => false
def isStrD : Dt → Bool
  | .str _ => true
  | _ => false
def isListD : Dt → Bool
  | .list _ => true
  | _ => false
def isDictD : Dt → Bool
  | .dict _ => true
  | _ => false
theorem kit_int : ∀ x : Dt, kitB (tyD x) "int" = some (isIntD x)
  | .none => by decide +kernel
  | .bool _ => by show kitB "bool" "int" = some true; decide +kernel
  | .int _ => by show kitB "int" "int" = some true; decide +kernel
  | .str _ => by show kitB "str" "int" = some false; decide +kernel
  | .list _ => by show kitB "list" "int" = some false; decide +kernel
  | .tuple _ => by show kitB "tuple" "int" = some false; decide +kernel
  | .dict _ => by show kitB "dict" "int" = some false; decide +kernel
theorem kit_bool : ∀ x : Dt, kitB (tyD x) "bool" = some (isBoolD x)
  | .none => by decide +kernel
  | .bool _ => by show kitB "bool" "bool" = some true; decide +kernel
  | .int _ => by show kitB "int" "bool" = some false; decide +kernel
  | .str _ => by show kitB "str" "bool" = some false; decide +kernel
  | .list _ => by show kitB "list" "bool" = some false; decide +kernel
  | .tuple _ => by show kitB "tuple" "bool" = some false; decide +kernel
  | .dict _ => by show kitB "dict" "bool" = some false; decide +kernel
theorem kit_tup : ∀ x : Dt, kitB (tyD x) "tuple" = some (isTupD x)
  | .none => by decide +kernel
  | .bool _ => by show kitB "bool" "tuple" = some false; decide +kernel
  | .int _ => by show kitB "int" "tuple" = some false; decide +kernel
  | .str _ => by show kitB "str" "tuple" = some false; decide +kernel
  | .list _ => by show kitB "list" "tuple" = some false; decide +kernel
  | .tuple _ => by show kitB "tuple" "tuple" = some true; decide +kernel
  | .dict _ => by show kitB "dict" "tuple" = some false; decide +kernel
theorem kit_str : ∀ x : Dt, kitB (tyD x) "str" = some (isStrD x)
  | .none => by decide +kernel
  | .bool _ => by show kitB "bool" "str" = some false; decide +kernel
  | .int _ => by show kitB "int" "str" = some false; decide +kernel
  | .str _ => by show kitB "str" "str" = some true; decide +kernel
  | .list _ => by show kitB "list" "str" = some false; decide +kernel
  | .tuple _ => by show kitB "tuple" "str" = some false; decide +kernel
  | .dict _ => by show kitB "dict" "str" = some false; decide +kernel
theorem d_isInt (h : EvB K te ρ β x β1) : EvB K (tCB (rIsi K) (tCons te (tCons (tC (.ty "int")) tNil))) ρ β (.bool (isIntD x)) β1 := d_isi h (kit_int x)
theorem d_isBool (h : EvB K te ρ β x β1) : EvB K (tCB (rIsi K) (tCons te (tCons (tC (.ty "bool")) tNil))) ρ β (.bool (isBoolD x)) β1 := d_isi h (kit_bool x)
theorem d_isTup (h : EvB K te ρ β x β1) : EvB K (tCB (rIsi K) (tCons te (tCons (tC (.ty "tuple")) tNil))) ρ β (.bool (isTupD x)) β1 := d_isi h (kit_tup x)
theorem d_isStr (h : EvB K te ρ β x β1) : EvB K (tCB (rIsi K) (tCons te (tCons (tC (.ty "str")) tNil))) ρ β (.bool (isStrD x)) β1 := d_isi h (kit_str x)
/-! ### a value or another, by a test -/
theorem d_andF (h : EvB K ta ρ β (.bool false) β1) : EvB K (tAndV ta tb) ρ β (.bool false) β1 := ⟨h.som, fun b G H σ Q E k => h.run b G H σ _ E fun v G1 H1 s1 k1 d1 => by
  cases d1
  exact ⟨false, rfl, by rw [if_neg (Bool.false_ne_true)]; exact k _ G1 H1 s1 k1 (.bl _)⟩⟩
theorem d_andT (h : EvB K ta ρ β (.bool true) β1) (h' : EvB K tb ρ β1 d β2) : EvB K (tAndV ta tb) ρ β d β2 := ⟨h'.som.trans h.som, fun b G H σ Q E k => h.run b G H σ _ E fun v G1 H1 s1 k1 d1 => by
  cases d1
  refine ⟨true, rfl, ?_⟩
  rw [if_pos rfl]
  refine h'.run b G1 H1 σ _ (E.step s1 k1) fun w G2 H2 s2 k2 d2 => ?_
  rw [h.som] at s2
  exact k w G2 H2 (s1.trans s2) k2 d2⟩
/-- both bools, the bag as it was -/
theorem d_and {p q : Bool} (h : EvB K ta ρ β (.bool p) β) (h' : p = true → EvB K tb ρ β (.bool q) β) : EvB K (tAndV ta tb) ρ β (.bool (p && q)) β := by
  cases p with
  | false => exact d_andF h
  | true => exact d_andT h (h' rfl)
theorem d_orT (h : EvB K ta ρ β (.bool true) β1) : EvB K (tOrV ta tb) ρ β (.bool true) β1 := ⟨h.som, fun b G H σ Q E k => h.run b G H σ _ E fun v G1 H1 s1 k1 d1 => by
  cases d1
  exact ⟨true, rfl, by rw [if_pos rfl]; exact k _ G1 H1 s1 k1 (.bl _)⟩⟩
theorem d_orF (h : EvB K ta ρ β (.bool false) β1) (h' : EvB K tb ρ β1 d β2) : EvB K (tOrV ta tb) ρ β d β2 := ⟨h'.som.trans h.som, fun b G H σ Q E k => h.run b G H σ _ E fun v G1 H1 s1 k1 d1 => by
  cases d1
  refine ⟨false, rfl, ?_⟩
  rw [if_neg (Bool.false_ne_true)]
  refine h'.run b G1 H1 σ _ (E.step s1 k1) fun w G2 H2 s2 k2 d2 => ?_
  rw [h.som] at s2
  exact k w G2 H2 (s1.trans s2) k2 d2⟩
theorem d_or {p q : Bool} (h : EvB K ta ρ β (.bool p) β) (h' : p = false → EvB K tb ρ β (.bool q) β) : EvB K (tOrV ta tb) ρ β (.bool (p || q)) β := by
  cases p with
  | true => exact d_orT h
  | false => exact d_orF h (h' rfl)
theorem d_not {p : Bool} (h : EvB K ta ρ β (.bool p) β1) : EvB K (tNotV ta) ρ β (.bool (!p)) β1 := ⟨h.som, fun b G H σ Q E k => h.run b G H σ _ E fun v G1 H1 s1 k1 d1 => by
  cases d1
  exact ⟨p, rfl, k _ G1 H1 s1 k1 (.bl _)⟩⟩
theorem t_test {p : Bool} (h : EvB K te ρ β (.bool p) β1) : TtB K (tTest te) ρ β p β1 := ⟨h.som, fun b G H σ Q E k => h.run b G H σ _ E fun v G1 H1 s1 k1 d1 => by
  cases d1
  exact ⟨p, rfl, k G1 H1 s1 k1⟩⟩
theorem t_B {p : Bool} (h : EvB K te ρ β (.bool p) β1) : TtB K (tB te) ρ β p β1 := ⟨h.som, fun b G H σ Q E k => h.run b G H σ _ E fun v G1 H1 s1 k1 d1 => by
  cases d1
  exact ⟨p, rfl, k G1 H1 s1 k1⟩⟩
theorem t_not {p : Bool} (h : TtB K tt ρ β p β1) : TtB K (tNot tt) ρ β (!p) β1 := ⟨h.som, fun b G H σ Q E k => h.run b G H σ _ E fun G1 H1 s1 k1 => k G1 H1 s1 k1⟩
theorem t_andF (h : TtB K tt ρ β false β1) : TtB K (tAnd tt tu) ρ β false β1 := ⟨h.som, fun b G H σ Q E k => h.run b G H σ _ E fun G1 H1 s1 k1 => by
  rw [if_neg (Bool.false_ne_true)]
  exact k G1 H1 s1 k1⟩
theorem t_andT {q : Bool} (h : TtB K tt ρ β true β1) (h' : TtB K tu ρ β1 q β2) : TtB K (tAnd tt tu) ρ β q β2 := ⟨h'.som.trans h.som, fun b G H σ Q E k => h.run b G H σ _ E fun G1 H1 s1 k1 => by
  rw [if_pos rfl]
  refine h'.run b G1 H1 σ _ (E.step s1 k1) fun G2 H2 s2 k2 => ?_
  rw [h.som] at s2
  exact k G2 H2 (s1.trans s2) k2⟩
theorem t_and {p q : Bool} (h : TtB K tt ρ β p β) (h' : p = true → TtB K tu ρ β q β) : TtB K (tAnd tt tu) ρ β (p && q) β := by
  cases p with
  | false => exact t_andF h
  | true => exact t_andT h (h' rfl)
theorem t_orT (h : TtB K tt ρ β true β1) : TtB K (tOr tt tu) ρ β true β1 := ⟨h.som, fun b G H σ Q E k => h.run b G H σ _ E fun G1 H1 s1 k1 => by
  rw [if_pos rfl]
  exact k G1 H1 s1 k1⟩
theorem t_orF {q : Bool} (h : TtB K tt ρ β false β1) (h' : TtB K tu ρ β1 q β2) : TtB K (tOr tt tu) ρ β q β2 := ⟨h'.som.trans h.som, fun b G H σ Q E k => h.run b G H σ _ E fun G1 H1 s1 k1 => by
  rw [if_neg (Bool.false_ne_true)]
  refine h'.run b G1 H1 σ _ (E.step s1 k1) fun G2 H2 s2 k2 => ?_
  rw [h.som] at s2
  exact k G2 H2 (s1.trans s2) k2⟩
theorem t_or {p q : Bool} (h : TtB K tt ρ β p β) (h' : p = false → TtB K tu ρ β q β) : TtB K (tOr tt tu) ρ β (p || q) β := by
  cases p with
  | true => exact t_orT h
  | false => exact t_orF h (h' rfl)
theorem t_yes {p : Bool} (h : p = true → TtB K tt ρ β p β1) (e : p = true) : TtB K tt ρ β true β1 := e ▸ h e
theorem d_if {p : Bool} (h : TtB K tt ρ β p β1) (h1 : p = true → EvB K ta ρ β1 d β2) (h2 : p = false → EvB K tb ρ β1 d β2) : EvB K (tIf tt ta tb) ρ β d β2 := by
  cases p with
  | true =>
    refine ⟨(h1 rfl).som.trans h.som, fun b G H σ Q E k => h.run b G H σ _ E fun G1 H1 s1 k1 => ?_⟩
    rw [if_pos rfl]
    refine (h1 rfl).run b G1 H1 σ _ (E.step s1 k1) fun w G2 H2 s2 k2 d2 => ?_
    rw [h.som] at s2
    exact k w G2 H2 (s1.trans s2) k2 d2
  | false =>
    refine ⟨(h2 rfl).som.trans h.som, fun b G H σ Q E k => h.run b G H σ _ E fun G1 H1 s1 k1 => ?_⟩
    rw [if_neg (Bool.false_ne_true)]
    refine (h2 rfl).run b G1 H1 σ _ (E.step s1 k1) fun w G2 H2 s2 k2 d2 => ?_
    rw [h.som] at s2
    exact k w G2 H2 (s1.trans s2) k2 d2
theorem d_ifT (h : TtB K tt ρ β true β1) (h1 : EvB K ta ρ β1 d β2) : EvB K (tIf tt ta tb) ρ β d β2 := d_if h (fun _ => h1) fun z => by cases z
theorem d_ifF (h : TtB K tt ρ β false β1) (h1 : EvB K tb ρ β1 d β2) : EvB K (tIf tt ta tb) ρ β d β2 := d_if h (fun z => by cases z) fun _ => h1
/-- a < b < c of ints and the like -/
theorem d_chain {r r' : R2} {p q : Bool} (ha : EvB K ta ρ β x β1) (hb : EvB K tb ρ β1 y β2) (hc : p = true → EvB K tc ρ β2 z β2)
    (h1 : ∀ (G H : Hp) (v w : V) (Q : VK), Ex G H → Den K G v x → Den K G w y → Q (.bl p) H → r v w H Q) (h2 : p = true → ∀ (G H : Hp) (v w : V) (Q : VK), Ex G H → Den K G v y → Den K G w z → Q (.bl q) H → r' v w H Q) :
    EvB K (tChain r r' ta tb tc) ρ β (.bool (p && q)) β2 := by
  refine ⟨hb.som.trans ha.som, fun b G H σ Q E k => ?_⟩
  refine ha.run b G H σ _ E fun v G1 H1 s1 k1 d1 => ?_
  have E1 := E.step s1 k1
  refine hb.run b G1 H1 σ _ E1 fun w G2 H2 s2 k2 d2 => ?_
  have E2 := E1.step s2 k2
  rw [ha.som] at s2
  refine h1 G2 H2 v w _ s2.s (d1.mono s2.g) d2 ⟨p, rfl, ?_⟩
  cases p with
  | false =>
    rw [if_neg (Bool.false_ne_true)]
    exact k _ G2 H2 (s1.trans s2) k2 (.bl _)
  | true =>
    rw [if_pos rfl]
    refine (hc rfl).run b G2 H2 σ _ E2 fun u G3 H3 s3 k3 d3 => ?_
    rw [hb.som, ha.som] at s3
    exact h2 rfl G3 H3 w u _ s3.s (d2.mono s3.g) d3 (k _ G3 H3 ((s1.trans s2).trans s3) k3 (.bl _))
theorem d_chLtLt {i j l : Int} (ha : EvB K ta ρ β (.int i) β1) (hb : EvB K tb ρ β1 (.int j) β2) (hc : EvB K tc ρ β2 (.int l) β2) : EvB K (tChain (rI0 fun i j => .bl (decide (i < j))) (rI0 fun i j => .bl (decide (i < j))) ta tb tc) ρ β (.bool (decide (i < j) && decide (j < l))) β2 :=
  d_chain ha hb (fun _ => hc) (fun G H v w Q e h1 h2 q => by cases h1; cases h2; exact ⟨i, j, rfl, rfl, q⟩) fun _ G H v w Q e h1 h2 q => by cases h1; cases h2; exact ⟨j, l, rfl, rfl, q⟩
theorem d_chLeLt {i j l : Int} (ha : EvB K ta ρ β (.int i) β1) (hb : EvB K tb ρ β1 (.int j) β2) (hc : EvB K tc ρ β2 (.int l) β2) : EvB K (tChain (rI0 fun i j => .bl (decide (i ≤ j))) (rI0 fun i j => .bl (decide (i < j))) ta tb tc) ρ β (.bool (decide (i ≤ j) && decide (j < l))) β2 :=
  d_chain ha hb (fun _ => hc) (fun G H v w Q e h1 h2 q => by cases h1; cases h2; exact ⟨i, j, rfl, rfl, q⟩) fun _ G H v w Q e h1 h2 q => by cases h1; cases h2; exact ⟨j, l, rfl, rfl, q⟩
theorem d_chLeLe {i j l : Int} (ha : EvB K ta ρ β (.int i) β1) (hb : EvB K tb ρ β1 (.int j) β2) (hc : EvB K tc ρ β2 (.int l) β2) : EvB K (tChain (rI0 fun i j => .bl (decide (i ≤ j))) (rI0 fun i j => .bl (decide (i ≤ j))) ta tb tc) ρ β (.bool (decide (i ≤ j) && decide (j ≤ l))) β2 :=
  d_chain ha hb (fun _ => hc) (fun G H v w Q e h1 h2 q => by cases h1; cases h2; exact ⟨i, j, rfl, rfl, q⟩) fun _ G H v w Q e h1 h2 q => by cases h1; cases h2; exact ⟨j, l, rfl, rfl, q⟩
/-! ### in -/
theorem d_inT {xs : List V} {ds : List Dt} (hx : EvB K ta ρ β x β1) (hy : EvB K tb ρ β1 y β2) (hs : SeqD y ds) {c : Bool} (hc : ∀ (G : Hp) (v : V) (ws : List V), Den K G v x → DenL K G ws ds → flatV v = true ∧ ws.all flatV = true ∧ inV v ws = c) : EvB K (tOp (rIn K false) ta tb) ρ β (.bool c) β2 :=
  d_op hx hy fun b G H v w Q e h1 h2 k => by
    obtain ⟨p, ys, rfl, hq, hd⟩ := h2.seq hs e
    obtain ⟨f1, f2, f3⟩ := hc G v ys h1 hd
    exact ⟨p, ys, rfl, hq, f1, f2, by rw [if_neg Bool.false_ne_true, f3]; exact k _ G H (Step.refl e) (.bl _)⟩
theorem ints_flat : ∀ ns : List Int, (ns.map V.int).all flatV = true
  | [] => rfl
  | n :: ns => by
    show (flatV (.int n) && (ns.map V.int).all flatV) = true
    rw [ints_flat ns]
    rfl
theorem inV_ints (i : Int) : ∀ ns : List Int, inV (.int i) (ns.map V.int) = decide (i ∈ ns)
  | [] => rfl
  | n :: ns => by
    have ih := inV_ints i ns
    unfold inV at ih ⊢
    rw [List.map_cons, List.any_cons, ih]
    have e : eqV (V.int n) (V.int i) = decide (n = i) := rfl
    rw [e]
    by_cases h : n = i
    · subst h; simp
    · by_cases h2 : i ∈ ns
      · simp [h2]
      · have h3 : ¬ i = n := fun z => h z.symm
        simp [h, h2, h3]
/-- an int in a tuple or list of ints -/
theorem d_inI {i : Int} {ns : List Int} (hx : EvB K ta ρ β (.int i) β1) (hy : EvB K tb ρ β1 y β2) (hs : SeqD y (ns.map .int)) : EvB K (tOp (rIn K false) ta tb) ρ β (.bool (decide (i ∈ ns))) β2 :=
  d_inT (xs := []) hx hy hs fun G v ws h1 h2 => by
    cases h1
    have := h2.ints
    subst this
    exact ⟨rfl, ints_flat ns, inV_ints i ns⟩
end
end TD
/-! ## TdSt -/
set_option Elab.async false
set_option linter.all false
set_option maxRecDepth 100000
set_option maxHeartbeats 3000000
/-! What the terms come to: statements, loops, comprehensions, defs. -/
namespace TD
open PySem L2
open Evl (Ex ex_l ex_t fresh_back sq_of st_of sz_of sz_lt)
section
variable [TabW] {K : PySem.W.Frag} {b : Addr} {ρ ρ' ρ1 : Rho} {β β1 β2 β3 : Bag} {ta tb te tc : TE} {tt : TT} {tu tw ts : TS} {x y z d : Dt} {o : Out} {G H G1 H1 G2 H2 : Hp} {σ : L2.St}

/-! ### statements -/
theorem OutOk.of {D D' : Ends} {m : Bool} (s : Step b m G H G1 H1) (h : OutOk K b m β G H D o) : OutOk K b m β G1 H1 D o := by
  cases o with
  | nx r => exact fun σ' G' H' s' e => h σ' G' H' (s.trans s') e
  | brk r => exact fun σ' G' H' s' e => h σ' G' H' (s.trans s') e
  | ct r => exact fun σ' G' H' s' e => h σ' G' H' (s.trans s') e
  | ret d => exact fun v G' H' s' e dv => h v G' H' (s.trans s') e dv
theorem st_asg {i : Nat} (h : EvB K te ρ β d β1) : StB K (tAsg te (gName i)) ρ β (.nx (ρ.set i (some (Slot.imm d)))) β1 := ⟨h.som, fun b G H σ D E k => h.run b G H σ _ E fun v G1 H1 s1 k1 d1 =>
  k (σ.set i (some v)) G1 H1 s1 ((E.step s1 k1).set d1)⟩
theorem st_ret (h : EvB K te ρ β d β1) : StB K (tRet te) ρ β (.ret d) β1 := ⟨h.som, fun b G H σ D E k => h.run b G H σ _ E fun v G1 H1 s1 k1 d1 => k v G1 H1 s1 k1 d1⟩
theorem st_drop (h : EvB K te ρ β d β1) : StB K (tDrop te) ρ β (.nx ρ) β1 := ⟨h.som, fun b G H σ D E k => h.run b G H σ _ E fun v G1 H1 s1 k1 d1 => k σ G1 H1 s1 (E.step s1 k1)⟩
theorem st_next : StB K tNext ρ β (.nx ρ) β := ⟨rfl, fun b G H σ D E k => k σ G H (Step.refl E.sub) E⟩
theorem st_break : StB K tBreak ρ β (.brk ρ) β := ⟨rfl, fun b G H σ D E k => k σ G H (Step.refl E.sub) E⟩
theorem st_cont : StB K tCont ρ β (.ct ρ) β := ⟨rfl, fun b G H σ D E k => k σ G H (Step.refl E.sub) E⟩
theorem st_seq (h : StB K tu ρ β (.nx ρ1) β1) (h' : StB K tw ρ1 β1 o β2) : StB K (tSeq tu tw) ρ β o β2 := ⟨h'.som.trans h.som, fun b G H σ D E k => h.run b G H σ { D with nx := tw D } E fun σ1 G1 H1 s1 E1 =>
  h'.run b G1 H1 σ1 D E1 (by rw [h.som]; exact k.of (D' := D) s1)⟩
theorem st_seqR (h : StB K tu ρ β (.ret d) β1) : StB K (tSeq tu tw) ρ β (.ret d) β1 := ⟨h.som, fun b G H σ D E k => h.run b G H σ { D with nx := tw D } E k⟩
theorem st_seqB (h : StB K tu ρ β (.brk ρ1) β1) : StB K (tSeq tu tw) ρ β (.brk ρ1) β1 := ⟨h.som, fun b G H σ D E k => h.run b G H σ { D with nx := tw D } E k⟩
theorem st_seqC (h : StB K tu ρ β (.ct ρ1) β1) : StB K (tSeq tu tw) ρ β (.ct ρ1) β1 := ⟨h.som, fun b G H σ D E k => h.run b G H σ { D with nx := tw D } E k⟩
theorem st_if {p : Bool} (h : TtB K tt ρ β p β1) (h1 : p = true → StB K tu ρ β1 o β2) (h2 : p = false → StB K tw ρ β1 o β2) : StB K (tIfS tt tu tw) ρ β o β2 := by
  cases p with
  | true =>
    refine ⟨(h1 rfl).som.trans h.som, fun b G H σ D E k => h.run b G H σ _ E fun G1 H1 s1 k1 => ?_⟩
    rw [if_pos rfl]
    exact (h1 rfl).run b G1 H1 σ D (E.step s1 k1) (by rw [h.som]; exact k.of (D' := D) s1)
  | false =>
    refine ⟨(h2 rfl).som.trans h.som, fun b G H σ D E k => h.run b G H σ _ E fun G1 H1 s1 k1 => ?_⟩
    rw [if_neg (Bool.false_ne_true)]
    exact (h2 rfl).run b G1 H1 σ D (E.step s1 k1) (by rw [h.som]; exact k.of (D' := D) s1)
theorem st_ifT (h : TtB K tt ρ β true β1) (h1 : StB K tu ρ β1 o β2) : StB K (tIfS tt tu tw) ρ β o β2 := st_if h (fun _ => h1) fun z => by cases z
theorem st_ifF (h : TtB K tt ρ β false β1) (h1 : StB K tw ρ β1 o β2) : StB K (tIfS tt tu tw) ρ β o β2 := st_if h (fun z => by cases z) fun _ => h1
/-- a, b = e1, e2, plain local names -/
theorem st_par {i j : Nat} (h : EvB K ta ρ β x β1) (h' : EvB K tb ρ β1 y β2) : StB K (tPar i j (tCons ta (tCons tb tNil))) ρ β (.nx ((ρ.set i (some (Slot.imm x))).set j (some (Slot.imm y)))) β2 := by
  refine ⟨h'.som.trans h.som, fun b G H σ D E k => ?_⟩
  refine h.run b G H σ _ E fun v G1 H1 s1 k1 d1 => ?_
  refine h'.run b G1 H1 σ _ (E.step s1 k1) fun w G2 H2 s2 k2 d2 => ?_
  refine ⟨v, w, rfl, ?_⟩
  rw [h.som] at s2
  exact k _ G2 H2 (s1.trans s2) ((((E.step s1 k1).step s2 k2).set (d1.mono s2.g)).set d2)
/-! ### unpacking a tuple into names -/
def gNames : List Nat → TGs
  | [] => gNil
  | i :: is => gCons (gName i) (gNames is)
def setR (ρ : Rho) : List Nat → List Dt → Rho
  | i :: is, d :: ds => setR (ρ.set i (some (Slot.imm d))) is ds
  | _, _ => ρ
theorem gNames_run {Q : L2.St → Hp → Prop} : ∀ {is : List Nat} {vs : List V} {ds : List Dt} {σ : L2.St} {ρ : Rho}, DenL K G vs ds → vs.length = is.length → EnvD K b β G H σ ρ → (∀ σ', EnvD K b β G H σ' (setR ρ is ds) → Q σ' H) → gNames is vs σ H Q
  | [], [], [], σ, ρ, _, _, E, k => ⟨rfl, k σ E⟩
  | [], _ :: _, _, _, _, _, h, _, _ => by cases h
  | [], [], _ :: _, _, _, h, _, _, _ => nomatch h
  | _ :: _, [], _, _, _, _, h, _, _ => by cases h
  | _ :: _, _ :: _, [], _, _, h, _, _, _ => nomatch h
  | i :: is, v :: vs, d :: ds, σ, ρ, .cons h1 h2, hl, E, k => ⟨v, vs, rfl, gNames_run h2 (Nat.succ.inj hl) (E.set h1) k⟩
theorem st_unpack {is : List Nat} {n : Nat} {ds : List Dt} (h : EvB K te ρ β (.tuple ds) β1) (hn : ds.length = n) (hi : is.length = n) : StB K (tAsg te (gTup K n (gNames is))) ρ β (.nx (setR ρ is ds)) β1 := ⟨h.som, fun b G H σ D E k => h.run b G H σ _ E fun v G1 H1 s1 k1 d1 => by
  cases d1 with
  | @tup a xs _ hs hd =>
    refine ⟨a, xs, rfl, ex_t s1.s hs, by rw [hd.length]; exact hn, ?_⟩
    exact gNames_run hd (by rw [hd.length, hn, hi]) (E.step s1 k1) fun σ' E' => k σ' G1 H1 s1 E'⟩

end

/-! ### loops -/
inductive ForR [TabW] (K : PySem.W.Frag) (j : Nat) (tu : TS) : List Dt → Rho → Bag → Out → Bag → Prop
  | nil (ρ : Rho) (β : Bag) : ForR K j tu [] ρ β (.nx ρ) β
  | nx {d : Dt} {ds : List Dt} {ρ ρ1 : Rho} {β β1 β2 : Bag} {o : Out} : StB K tu (ρ.set j (some (Slot.imm d))) β (.nx ρ1) β1 → ForR K j tu ds ρ1 β1 o β2 → ForR K j tu (d :: ds) ρ β o β2
  | ct {d : Dt} {ds : List Dt} {ρ ρ1 : Rho} {β β1 β2 : Bag} {o : Out} : StB K tu (ρ.set j (some (Slot.imm d))) β (.ct ρ1) β1 → ForR K j tu ds ρ1 β1 o β2 → ForR K j tu (d :: ds) ρ β o β2
  | brk {d : Dt} {ds : List Dt} {ρ ρ1 : Rho} {β β1 : Bag} : StB K tu (ρ.set j (some (Slot.imm d))) β (.brk ρ1) β1 → ForR K j tu (d :: ds) ρ β (.nx ρ1) β1
  | ret {d : Dt} {ds : List Dt} {ρ : Rho} {β β1 : Bag} {r : Dt} : StB K tu (ρ.set j (some (Slot.imm d))) β (.ret r) β1 → ForR K j tu (d :: ds) ρ β (.ret r) β1
section
variable [TabW] {K : PySem.W.Frag} {b : Addr} {ρ ρ' ρ1 : Rho} {β β1 β2 β3 : Bag} {ta tb te tc : TE} {tt : TT} {tu tw ts : TS} {x y z d : Dt} {o : Out} {G H G1 H1 G2 H2 : Hp} {σ : L2.St}
theorem ForR.som {j : Nat} {ds : List Dt} (h : ForR K j tu ds ρ β o β2) : β2.isSome = β.isSome := by
  induction h with
  | nil => rfl
  | nx h _ ih => exact ih.trans h.som
  | ct h _ ih => exact ih.trans h.som
  | brk h => exact h.som
  | ret h => exact h.som
/-- one turn of a for, at any next -/
theorem for_turn {j : Nat} {ds : List Dt} {D : Ends} {m : Bool} {v : V} {N : L2.St → Hp → Prop} (hm : m = β.isSome) (h : ForR K j tu (d :: ds) ρ β o β2) (E : EnvD K b β G H σ ρ) (dv : Den K G v d)
    (s : Step b m G1 H1 G H) (k : OutOk K b m β2 G1 H1 D o) (hN : ∀ σ' G' H' ρ' β', Step b m G1 H1 G' H' → β'.isSome = m → EnvD K b β' G' H' σ' ρ' → ForR K j tu ds ρ' β' o β2 → N σ' H') :
    tu { D with nx := N, ct := N, bk := D.nx } (σ.set j (some v)) H := by
  have E' := E.set (i := j) dv
  subst hm
  cases h with
  | nx h hr => exact h.run b G H _ _ E' fun σ' G' H' s' e => hN σ' G' H' _ _ (s.trans s') h.som e hr
  | ct h hr => exact h.run b G H _ _ E' fun σ' G' H' s' e => hN σ' G' H' _ _ (s.trans s') h.som e hr
  | brk h => exact h.run b G H _ _ E' fun σ' G' H' s' e => k σ' G' H' (s.trans s') e
  | ret h => exact h.run b G H _ _ E' fun w G' H' s' e dw => k w G' H' (s.trans s') e dw
theorem st_forL {j : Nat} {tl : TE} {ds : List Dt} (hl : EvB K tl ρ β (.list ds) β1) (h : ForR K j tu ds ρ β1 o β2) : StB K (tFor (iList K tl) (gName j) tu) ρ β o β2 := by
  refine ⟨h.som.trans hl.som, fun b G H σ D E k => ?_⟩
  refine hl.run b G H σ _ E fun v G1 H1 s1 k1 d1 => ?_
  cases d1 with
  | @lst a xs _ hs hd =>
    refine ⟨a, rfl, ⟨xs, sq_of (s1.s _ _ hs)⟩, for_list (K := K) (a := a) (xs := xs) (fun i σ' H' => ∃ G' ρ' β', Step b β.isSome G1 H1 G' H' ∧ β'.isSome = β.isSome ∧ EnvD K b β' G' H' σ' ρ' ∧ ForR K j tu (ds.drop i) ρ' β' o β2) ?_ ?_ ?_ ?_⟩
    · exact ⟨G1, ρ, β1, Step.refl s1.s, hl.som, E.step s1 k1, h⟩
    · rintro i σ' H' _ ⟨G', ρ', β', s', _⟩
      exact sq_of (s'.s _ _ (s'.g _ _ hs))
    · rintro i v σ' H' hi ⟨G', ρ', β', s', m', E', r'⟩
      obtain ⟨d, hd1, hd2⟩ := hd.get hi
      have e : ds.drop i = d :: ds.drop (i + 1) := by
        obtain ⟨hlt, he⟩ := List.getElem?_eq_some_iff.mp hd1
        rw [← he]
        exact List.drop_eq_getElem_cons hlt
      rw [e] at r'
      exact for_turn (m := β.isSome) m'.symm r' E' (hd2.mono s'.g) s' (k.of (D' := D) s1) fun σ2 G2 H2 ρ2 β2' s2 m2 E2 r2 => ⟨G2, ρ2, β2', s2, m2, E2, r2⟩
    · rintro σ' H' ⟨G', ρ', β', s', m', E', r'⟩
      rw [hd.length, List.drop_length] at r'
      cases r'
      exact k σ' G' H' (s1.trans s') E'
theorem st_forT {j : Nat} {tl : TE} {ds : List Dt} (hl : EvB K tl ρ β (.tuple ds) β1) (h : ForR K j tu ds ρ β1 o β2) : StB K (tFor (iTup K tl) (gName j) tu) ρ β o β2 := by
  refine ⟨h.som.trans hl.som, fun b G H σ D E k => ?_⟩
  refine hl.run b G H σ _ E fun v G1 H1 s1 k1 d1 => ?_
  cases d1 with
  | @tup a xs _ hs hd =>
    refine ⟨a, rfl, ⟨xs, ex_t s1.s hs⟩, for_tup (K := K) (a := a) (xs := xs) (fun i σ' H' => ∃ G' ρ' β', Step b β.isSome G1 H1 G' H' ∧ β'.isSome = β.isSome ∧ EnvD K b β' G' H' σ' ρ' ∧ ForR K j tu (ds.drop i) ρ' β' o β2) ?_ ?_ ?_ ?_⟩
    · exact ⟨G1, ρ, β1, Step.refl s1.s, hl.som, E.step s1 k1, h⟩
    · rintro i σ' H' _ ⟨G', ρ', β', s', _⟩
      exact ex_t s'.s (ex_t s'.g hs)
    · rintro i v σ' H' hi ⟨G', ρ', β', s', m', E', r'⟩
      obtain ⟨d, hd1, hd2⟩ := hd.get hi
      have e : ds.drop i = d :: ds.drop (i + 1) := by
        obtain ⟨hlt, he⟩ := List.getElem?_eq_some_iff.mp hd1
        rw [← he]
        exact List.drop_eq_getElem_cons hlt
      rw [e] at r'
      exact for_turn (m := β.isSome) m'.symm r' E' (hd2.mono s'.g) s' (k.of (D' := D) s1) fun σ2 G2 H2 ρ2 β2' s2 m2 E2 r2 => ⟨G2, ρ2, β2', s2, m2, E2, r2⟩
    · rintro σ' H' ⟨G', ρ', β', s', m', E', r'⟩
      rw [hd.length, List.drop_length] at r'
      cases r'
      exact k σ' G' H' (s1.trans s') E'
def rng (lo : Int) (n : Nat) : List Dt := (List.range n).map fun (i : Nat) => PyData.int (lo + (i : Int))
theorem rng_length (lo : Int) (n : Nat) : (rng lo n).length = n := by unfold rng; rw [List.length_map, List.length_range]
theorem rng_drop {lo : Int} {n i : Nat} (h : i < n) : (rng lo n).drop i = .int (lo + (i : Int)) :: (rng lo n).drop (i + 1) := by
  have hl : i < (rng lo n).length := by rw [rng_length]; exact h
  have e : (rng lo n)[i]'hl = .int (lo + (i : Int)) := by simp [rng]
  rw [List.drop_eq_getElem_cons (hl), e]
theorem a_int1 {te : TE} {i : Int} (h : EvB K te ρ β (.int i) β1) (R : It → Hp → Prop) {m : Bool} (hm : m = β.isSome) (E : EnvD K b β G H σ ρ) (k : ∀ G1 H1, Step b m G H G1 H1 → BagOk b β1 G1 H1 → -(2 ^ 62) ≤ i ∧ i < 2 ^ 62 ∧ R (Itr 0 i.toNat) H1) : iRng1 (tCons te tNil) σ H R := by
  subst hm
  refine h.run b G H σ _ E fun v G1 H1 s1 k1 d1 => ?_
  cases d1
  obtain ⟨q1, q2, q3⟩ := k G1 H1 s1 k1
  exact ⟨i, rfl, q1, q2, q3⟩
theorem st_forR1 {j : Nat} {i : Int} (hl : EvB K te ρ β (.int i) β1) (hb : -(2 ^ 62) ≤ i ∧ i < 2 ^ 62) (h : ForR K j tu (rng 0 i.toNat) ρ β1 o β2) : StB K (tFor (iRng1 (tCons te tNil)) (gName j) tu) ρ β o β2 := by
  refine ⟨h.som.trans hl.som, fun b G H σ D E k => ?_⟩
  refine a_int1 hl _ rfl E fun G1 H1 s1 k1 => ⟨hb.1, hb.2, ?_⟩
  refine for_range (lo := 0) (n := i.toNat) (fun i' σ' H' => ∃ G' ρ' β', Step b β.isSome G1 H1 G' H' ∧ β'.isSome = β.isSome ∧ EnvD K b β' G' H' σ' ρ' ∧ ForR K j tu ((rng 0 i.toNat).drop i') ρ' β' o β2) ?_ ?_ ?_
  · exact ⟨G1, ρ, β1, Step.refl s1.s, hl.som, E.step s1 k1, h⟩
  · rintro i' σ' H' hi ⟨G', ρ', β', s', m', E', r'⟩
    rw [rng_drop hi] at r'
    exact for_turn (m := β.isSome) m'.symm r' E' (.int _) s' (k.of (D' := D) s1) fun σ2 G2 H2 ρ2 β2' s2 m2 E2 r2 => ⟨G2, ρ2, β2', s2, m2, E2, r2⟩
  · rintro σ' H' ⟨G', ρ', β', s', m', E', r'⟩
    have e : (rng 0 i.toNat).drop i.toNat = [] := by rw [List.drop_eq_nil_iff, rng_length]; exact Nat.le_refl _
    rw [e] at r'
    cases r'
    exact k σ' G' H' (s1.trans s') E'
/-! ### while: n turns at most -/
end
inductive WhR [TabW] (K : PySem.W.Frag) (tt : TT) (tu : TS) : Nat → Rho → Bag → Out → Bag → Prop
  | done {n : Nat} {ρ : Rho} {β β1 : Bag} : TtB K tt ρ β false β1 → WhR K tt tu n ρ β (.nx ρ) β1
  | nx {n : Nat} {ρ ρ1 : Rho} {β β1 β2 β3 : Bag} {o : Out} : TtB K tt ρ β true β1 → StB K tu ρ β1 (.nx ρ1) β2 → WhR K tt tu n ρ1 β2 o β3 → WhR K tt tu (n + 1) ρ β o β3
  | ret {n : Nat} {ρ : Rho} {β β1 β2 : Bag} {r : Dt} : TtB K tt ρ β true β1 → StB K tu ρ β1 (.ret r) β2 → WhR K tt tu n ρ β (.ret r) β2
section
variable [TabW] {K : PySem.W.Frag} {b : Addr} {ρ ρ' ρ1 : Rho} {β β1 β2 β3 : Bag} {ta tb te tc : TE} {tt : TT} {tu tw ts : TS} {x y z d : Dt} {o : Out} {G H G1 H1 G2 H2 : Hp} {σ : L2.St}
theorem WhR.som {n : Nat} (h : WhR K tt tu n ρ β o β2) : β2.isSome = β.isSome := by
  induction h with
  | done h => exact h.som
  | nx h1 h2 _ ih => exact ih.trans (h2.som.trans h1.som)
  | ret h1 h2 => exact h2.som.trans h1.som
theorem st_while {n : Nat} (h : WhR K tt tu n ρ β o β2) : StB K (tWhile tt tu) ρ β o β2 := by
  refine ⟨h.som, fun b G H σ D E k => ?_⟩
  refine ⟨fun m σ' H' => ∃ G' ρ' β', Step b β.isSome G H G' H' ∧ β'.isSome = β.isSome ∧ EnvD K b β' G' H' σ' ρ' ∧ WhR K tt tu m ρ' β' o β2, ⟨n, G, ρ, β, Step.refl E.sub, rfl, E, h⟩, ?_⟩
  rintro m σ' H' ⟨G', ρ', β', s', m', E', r'⟩
  cases r' with
  | done ht =>
    refine ht.run b G' H' σ' _ E' fun G1 H1 s1 k1 => ?_
    rw [if_neg (Bool.false_ne_true)]
    rw [m'] at s1
    exact k σ' G1 H1 (s'.trans s1) (E'.step s1 k1)
  | @nx n' _ ρ1 _ β1 β2' _ _ ht hu hr =>
    refine ht.run b G' H' σ' _ E' fun G1 H1 s1 k1 => ?_
    rw [if_pos rfl]
    rw [m'] at s1
    refine ⟨fun σ2 H2 => ∃ G2, Step b β.isSome G H G2 H2 ∧ EnvD K b β2' G2 H2 σ2 ρ1, ?_, ?_⟩
    · rintro σ2 H2 ⟨G2, s2, E2⟩
      exact ⟨n', Nat.lt_succ_self _, G2, ρ1, β2', s2, hu.som.trans (ht.som.trans m'), E2, hr⟩
    · refine hu.run b G1 H1 σ' _ (E'.step s1 k1) fun σ2 G2 H2 s2 E2 => ?_
      rw [ht.som, m'] at s2
      exact ⟨G2, (s'.trans s1).trans s2, E2⟩
  | ret ht hu =>
    refine ht.run b G' H' σ' _ E' fun G1 H1 s1 k1 => ?_
    rw [if_pos rfl]
    rw [m'] at s1
    refine ⟨fun _ _ => False, fun _ _ z => z.elim, ?_⟩
    refine hu.run b G1 H1 σ' _ (E'.step s1 k1) fun v G2 H2 s2 k2 d2 => ?_
    rw [ht.som, m'] at s2
    exact k v G2 H2 ((s'.trans s1).trans s2) k2 d2
end

/-! ### comprehensions -/
inductive LcR [TabW] (K : PySem.W.Frag) (j : Nat) (tt : TT) (te : TE) : List Dt → Rho → Bag → List Dt → Bag → Prop
  | nil (ρ : Rho) (β : Bag) : LcR K j tt te [] ρ β [] β
  | yes {d r : Dt} {ds rs : List Dt} {ρ : Rho} {β β1 β2 β3 : Bag} : TtB K tt (ρ.set j (some (Slot.imm d))) β true β1 → EvB K te (ρ.set j (some (Slot.imm d))) β1 r β2 → LcR K j tt te ds ρ β2 rs β3 → LcR K j tt te (d :: ds) ρ β (r :: rs) β3
  | no {d : Dt} {ds rs : List Dt} {ρ : Rho} {β β1 β3 : Bag} : TtB K tt (ρ.set j (some (Slot.imm d))) β false β1 → LcR K j tt te ds ρ β1 rs β3 → LcR K j tt te (d :: ds) ρ β rs β3
section
variable [TabW] {K : PySem.W.Frag} {b : Addr} {ρ ρ' ρ1 : Rho} {β β1 β2 β3 : Bag} {ta tb te tc : TE} {tt : TT} {tu tw ts : TS} {x y z d : Dt} {o : Out} {G H G1 H1 G2 H2 : Hp} {σ : L2.St}
theorem LcR.som {j : Nat} {ds rs : List Dt} (h : LcR K j tt te ds ρ β rs β2) : β2.isSome = β.isSome := by
  induction h with
  | nil => rfl
  | yes h1 h2 _ ih => exact ih.trans (h2.som.trans h1.som)
  | no h1 _ ih => exact ih.trans h1.som
theorem LcR.len {j : Nat} {ds rs : List Dt} (h : LcR K j tt te ds ρ β rs β2) : rs.length ≤ ds.length := by
  induction h with
  | nil => exact Nat.le_refl _
  | yes h1 h2 _ ih => exact Nat.succ_le_succ ih
  | no h1 _ ih => exact Nat.le_succ_of_le ih
/-- the tests hold or not, by f; the items are g's: nothing is drawn -/
theorem LcR.pure {j : Nat} (f : Dt → Bool) (g : Dt → Dt) : ∀ {ds : List Dt}, (∀ d ∈ ds, TtB K tt (ρ.set j (some (Slot.imm d))) β (f d) β) → (∀ d ∈ ds, f d = true → EvB K te (ρ.set j (some (Slot.imm d))) β (g d) β) → LcR K j tt te ds ρ β ((ds.filter f).map g) β
  | [], _, _ => .nil ρ β
  | d :: ds, h1, h2 => by
    have ih := LcR.pure f g (ds := ds) (fun e he => h1 e (List.mem_cons_of_mem _ he)) (fun e he => h2 e (List.mem_cons_of_mem _ he))
    have t := h1 d List.mem_cons_self
    cases hf : f d with
    | true =>
      rw [List.filter_cons, if_pos hf, List.map_cons]
      rw [hf] at t
      exact .yes t (h2 d List.mem_cons_self hf) ih
    | false =>
      rw [List.filter_cons, if_neg (by rw [hf]; decide)]
      rw [hf] at t
      exact .no t ih
theorem t_yes0 : TtB K tYes ρ β true β := ⟨rfl, fun b G H σ Q E k => k G H (Step.refl E.sub) E.bagk⟩
theorem LcR.map {j : Nat} (g : Dt → Dt) {ds : List Dt} (h2 : ∀ d ∈ ds, EvB K te (ρ.set j (some (Slot.imm d))) β (g d) β) : LcR K j tYes te ds ρ β (ds.map g) β := by
  have h := LcR.pure (K := K) (tt := tYes) (te := te) (ρ := ρ) (β := β) (j := j) (fun _ => true) g (ds := ds) (fun _ _ => t_yes0) fun d hd _ => h2 d hd
  rw [List.filter_eq_self.mpr fun _ _ => rfl] at h
  exact h
/-- the state between the turns -/
structure LcW [TabW] (K : PySem.W.Frag) (b : Addr) (m : Bool) (G1 H1 : Hp) (Dl : Addr) (rs : List Dt) (β3 : Bag) (P : List Dt → Bag → Prop) (H : Hp) : Prop where
  ex : ∃ (G : Hp) (β : Bag) (done rest : List Dt) (acc : List V), Step b m G1 H1 G H ∧ BagOk b β G H ∧ β.isSome = m ∧ G Dl = none ∧ H Dl = some (.lst acc) ∧ DenL K G acc done ∧ done ++ rest = rs ∧ P rest β
theorem LstAt.none {H : Hp} {Dl : Addr} (h : H Dl = none) : ∀ o, H Dl = some o → ∃ xs, o = HO.lst xs := fun o e => by rw [h] at e; cases e
theorem LstAt.of {H : Hp} {Dl : Addr} {xs : List V} (h : H Dl = some (.lst xs)) : ∀ o, H Dl = some o → ∃ xs, o = HO.lst xs := fun o e => by rw [h] at e; cases e; exact ⟨xs, rfl⟩
/-- nothing but a table -/
def Gone (H : Hp) (p : Addr) : Prop := ∀ o, NoT o → H p ≠ some o
theorem Gone.none {H : Hp} {p : Addr} (h : H p = none) : Gone H p := fun o _ z => by rw [h] at z; cases z
theorem Gone.ne {H : Hp} {p a : Addr} {o : HO} (g : Gone H p) (t : NoT o) (h : H a = some o) : a ≠ p := fun z => g o t (by rw [← z]; exact h)
/-- a table stays one if a list is written -/
theorem tab_upd {Dl P : Addr} {q : Str} {ob : HO} {H : Hp} (h : LamX.TabS H P q) (hl : ∀ o, H Dl = some o → ∃ xs, o = HO.lst xs) : LamX.TabS (upd H Dl ob) P q := by
  obtain ⟨ps, h1, h2, h3⟩ := h
  refine ⟨ps, ?_, h2, fun pos cv hc => ?_⟩
  · rw [upd_ne fun z => ?_]
    · exact h1
    · rw [← z] at hl
      obtain ⟨_, e⟩ := hl _ h1
      cases e
  · obtain ⟨c, e1, e2⟩ := h3 pos cv hc
    refine ⟨c, e1, ?_⟩
    rw [upd_ne fun z => ?_]
    · exact e2
    · rw [← z] at hl
      obtain ⟨_, e⟩ := hl _ e2
      unfold LamX.CodeO at e
      cases e
theorem Step.mut {m : Bool} {Dl : Addr} {ob : HO} (s : Step b m G1 H1 G H) (h1 : Gone H1 Dl) (h2 : G Dl = none) (hl : ∀ o, H Dl = some o → ∃ xs, o = HO.lst xs) : Step b m G1 H1 G (upd H Dl ob) := by
  refine ⟨s.g, s.s.mut h2, s.fresh, fun a u n t h => ?_, fun a u t h => ?_, fun h => ⟨fun P q w => tab_upd ((s.tabs h).tab P q w) hl, (s.tabs h).free⟩⟩
  · rw [upd_ne (h1.ne t h)]
    exact s.keep a u n t h
  · rw [upd_ne (h1.ne t h)]
    exact s.stay a u t h
theorem BagOk.mut {Dl : Addr} {ob : HO} (k : BagOk b β G H) (n : β.isSome = true → Dl ≠ b) : BagOk b β G (upd H Dl ob) := fun ns e => by
  obtain ⟨h1, h2⟩ := k ns e
  exact ⟨by rw [upd_ne (Ne.symm (n (by rw [e]; rfl)))]; exact h1, h2⟩
/-- one turn, with the element at hand -/
theorem lc_turn {j : Nat} {m : Bool} {Dl : Addr} {ds rs : List Dt} {σ0 : L2.St} {v : V} (hD : H1 Dl = none) (nb : m = true → Dl ≠ b) (hz : rs.length ≤ 100000) (E1 : ∀ G H β, Step b m G1 H1 G H → BagOk b β G H → EnvD K b β G H σ0 ρ)
    (hv : Den K G1 v d) (hw : LcW K b m G1 H1 Dl rs β3 (fun rest β => LcR K j tt te (d :: ds) ρ β rest β3) H) :
    tt (σ0.set j (some v)) H fun c H3 => if c = true then te (σ0.set j (some v)) H3 fun y H4 => ∃ acc, H4 Dl = some (.lst acc) ∧ acc.length < sizeLine ∧ LcW K b m G1 H1 Dl rs β3 (fun rest β => LcR K j tt te ds ρ β rest β3) (upd H4 Dl (.lst (acc ++ [y])))
      else LcW K b m G1 H1 Dl rs β3 (fun rest β => LcR K j tt te ds ρ β rest β3) H3 := by
  obtain ⟨G, β, done, rest, acc, s, kb, hm, gD, hH, ha, hr, r⟩ := hw
  have E := (E1 G H β s kb).set (i := j) (hv.mono s.g)
  cases r with
  | @yes _ r' _ rs' _ _ β1 β2 _ ht he hr' =>
    refine ht.run b G H _ _ E fun G3 H3 s3 k3 => ?_
    rw [if_pos rfl]
    rw [hm] at s3
    refine he.run b G3 H3 _ _ (E.step s3 k3) fun y G4 H4 s4 k4 d4 => ?_
    rw [ht.som, hm] at s4
    have hH3 := s3.keep Dl _ nb NoT.lst hH
    have hH4 := s4.keep Dl _ nb NoT.lst hH3
    have gD3 := s3.fresh Dl _ gD NoT.lst hH
    have gD4 := s4.fresh Dl _ gD3 NoT.lst hH3
    have m2 : β2.isSome = m := he.som.trans (ht.som.trans hm)
    have hlen : acc.length = done.length := ha.length
    have hrl : rs.length = done.length + (rs'.length + 1) := by rw [← hr, List.length_append, List.length_cons]
    refine ⟨acc, hH4, sz_lt (by omega), ⟨G4, β2, done ++ [r'], rs', acc ++ [y], ((s.trans s3).trans s4).mut (Gone.none hD) gD4 (LstAt.of hH4), k4.mut (by rw [m2]; exact nb), m2, gD4, upd_same, ?_, ?_, hr'⟩⟩
    · exact (ha.mono (s3.g.trans s4.g)).append (.cons d4 .nil)
    · rw [← hr, List.append_assoc]
      rfl
  | @no _ _ _ _ _ β1 _ ht hr' =>
    refine ht.run b G H _ _ E fun G3 H3 s3 k3 => ?_
    rw [if_neg (Bool.false_ne_true)]
    rw [hm] at s3
    exact ⟨G3, β1, done, rest, acc, s.trans s3, k3, ht.som.trans hm, s3.fresh Dl _ gD NoT.lst hH, s3.keep Dl _ nb NoT.lst hH, ha.mono s3.g, hr, hr'⟩
theorem lc_start {m : Bool} {Dl : Addr} {rs : List Dt} {P : List Dt → Bag → Prop} (e : Ex G1 H1) (hD : H1 Dl = none) (kb : BagOk b β G1 H1) (hm : β.isSome = m) (nb : m = true → Dl ≠ b) (h : P rs β) : LcW K b m G1 H1 Dl rs β3 P (upd H1 Dl (.lst [])) :=
  ⟨G1, β, [], rs, [], (Step.refl e).mut (Gone.none hD) (fresh_back e hD) (LstAt.none hD), kb.mut (by rw [hm]; exact nb), hm, fresh_back e hD, upd_same, .nil, rfl, h⟩
theorem lc_end {j : Nat} {m : Bool} {Dl : Addr} {rs : List Dt} {Q : VK} (e : Ex G1 H1) (hD : H1 Dl = none) (nb : m = true → Dl ≠ b) (hw : LcW K b m G1 H1 Dl rs β3 (fun rest β => LcR K j tt te [] ρ β rest β3) H)
    (k : ∀ v G' H', Step b m G1 H1 G' H' → BagOk b β3 G' H' → Den K G' v (.list rs) → Q v H') : Q (.ref Dl) H := by
  obtain ⟨G, β, done, rest, acc, s, kb, hm, gD, hH, ha, hr, r⟩ := hw
  cases r
  rw [List.append_nil] at hr
  subst hr
  have ex : Ex G (upd G Dl (.lst acc)) := Ex.new gD
  refine k (.ref Dl) (upd G Dl (.lst acc)) H ⟨s.g.trans ex, fun a u h => ?_, fun a u h1 t h2 => ?_, s.keep, s.stay, fun h => ⟨(s.tabs h).tab, fun x ps z => ?_⟩⟩ (fun ns q => ?_) (.lst upd_same (ha.mono ex))
  · by_cases z : a = Dl
    · subst z; rw [upd_same] at h; cases h; exact hH
    · rw [upd_ne z] at h; exact s.s a u h
  · rw [upd_ne (ne_of_none h2 hD)]
    exact s.fresh a u h1 t h2
  · by_cases q : x = Dl
    · rw [q, upd_same] at z; cases z
    · rw [upd_ne q] at z; exact (s.tabs h).free x ps z
  · obtain ⟨q1, q2⟩ := kb ns q
    exact ⟨q1, by rw [upd_ne (Ne.symm (nb (by rw [← hm, q]; rfl)))]; exact q2⟩
theorem bag_ne {m : Bool} {Dl : Addr} (kb : BagOk b β G H) (hm : β.isSome = m) (hD : H Dl = none) : m = true → Dl ≠ b := fun z q => by
  rw [← hm] at z
  obtain ⟨ns, e⟩ := Option.isSome_iff_exists.mp z
  have := (kb ns e).1
  rw [← q, hD] at this
  cases this
/-- a comprehension over a list -/
theorem d_lcL {j : Nat} {vs : List Nat} {tl : TE} {ds rs : List Dt} (hl : EvB K tl ρ β (.list ds) β1) (h : LcR K j tt te ds (wipeR ρ vs) β1 rs β2) (hz : rs.length ≤ 100000)
    (hw : ∀ (σ : L2.St) x, wipe ((wipe σ vs).set j (some x)) vs = wipe σ vs) : EvB K (tLc (iList K tl) (gName j) tt te vs) ρ β (.list rs) β2 := by
  refine ⟨h.som.trans hl.som, fun b G H σ Q E k => ?_⟩
  refine hl.run b G H σ _ E fun v G1 H1 s1 k1 d1 => ?_
  have E1 := E.step s1 k1
  cases d1 with
  | @lst a xs _ hs hd =>
    refine ⟨a, rfl, ⟨xs, sq_of (s1.s _ _ hs)⟩, fun Dl hD => ?_⟩
    have nb := bag_ne k1 hl.som hD
    refine lc_list (K := K) (a := a) (xs := xs) (fun i H' => LcW K b β.isSome G1 H1 Dl rs β2 (fun rest β' => LcR K j tt te (ds.drop i) (wipeR ρ vs) β' rest β2) H') ?_ ?_ ?_ ?_
    · exact lc_start s1.s hD k1 hl.som nb h
    · rintro i H' _ ⟨G', β', done, rest, acc, s', _⟩
      exact sq_of (s'.s _ _ (s'.g _ _ hs))
    · rintro i x H' hi w'
      obtain ⟨d, hd1, hd2⟩ := hd.get hi
      have e : ds.drop i = d :: ds.drop (i + 1) := by
        obtain ⟨hlt, he⟩ := List.getElem?_eq_some_iff.mp hd1
        rw [← he]
        exact List.drop_eq_getElem_cons hlt
      rw [e] at w'
      exact ⟨hw σ x, lc_turn hD nb hz (fun G' H' β' s' kb' => (E1.wipe vs).step s' kb') hd2 w'⟩
    · rintro H' w'
      rw [hd.length, List.drop_length] at w'
      exact lc_end s1.s hD nb w' fun v G' H'' s' kb' dv => k v G' H'' (s1.trans s') kb' dv
theorem d_lcT {j : Nat} {vs : List Nat} {tl : TE} {ds rs : List Dt} (hl : EvB K tl ρ β (.tuple ds) β1) (h : LcR K j tt te ds (wipeR ρ vs) β1 rs β2) (hz : rs.length ≤ 100000)
    (hw : ∀ (σ : L2.St) x, wipe ((wipe σ vs).set j (some x)) vs = wipe σ vs) : EvB K (tLc (iTup K tl) (gName j) tt te vs) ρ β (.list rs) β2 := by
  refine ⟨h.som.trans hl.som, fun b G H σ Q E k => ?_⟩
  refine hl.run b G H σ _ E fun v G1 H1 s1 k1 d1 => ?_
  have E1 := E.step s1 k1
  cases d1 with
  | @tup a xs _ hs hd =>
    refine ⟨a, rfl, ⟨xs, ex_t s1.s hs⟩, fun Dl hD => ?_⟩
    have nb := bag_ne k1 hl.som hD
    refine lc_tup (K := K) (a := a) (xs := xs) (fun i H' => LcW K b β.isSome G1 H1 Dl rs β2 (fun rest β' => LcR K j tt te (ds.drop i) (wipeR ρ vs) β' rest β2) H') ?_ ?_ ?_ ?_
    · exact lc_start s1.s hD k1 hl.som nb h
    · rintro i H' _ ⟨G', β', done, rest, acc, s', _⟩
      exact ex_t s'.s (ex_t s'.g hs)
    · rintro i x H' hi w'
      obtain ⟨d, hd1, hd2⟩ := hd.get hi
      have e : ds.drop i = d :: ds.drop (i + 1) := by
        obtain ⟨hlt, he⟩ := List.getElem?_eq_some_iff.mp hd1
        rw [← he]
        exact List.drop_eq_getElem_cons hlt
      rw [e] at w'
      exact ⟨hw σ x, lc_turn hD nb hz (fun G' H' β' s' kb' => (E1.wipe vs).step s' kb') hd2 w'⟩
    · rintro H' w'
      rw [hd.length, List.drop_length] at w'
      exact lc_end s1.s hD nb w' fun v G' H'' s' kb' dv => k v G' H'' (s1.trans s') kb' dv
theorem d_lcR1 {j : Nat} {vs : List Nat} {i : Int} {rs : List Dt} (hl : EvB K ta ρ β (.int i) β1) (hb : -(2 ^ 62) ≤ i ∧ i < 2 ^ 62) (h : LcR K j tt te (rng 0 i.toNat) (wipeR ρ vs) β1 rs β2) (hz : rs.length ≤ 100000)
    (hw : ∀ (σ : L2.St) x, wipe ((wipe σ vs).set j (some x)) vs = wipe σ vs) : EvB K (tLc (iRng1 (tCons ta tNil)) (gName j) tt te vs) ρ β (.list rs) β2 := by
  refine ⟨h.som.trans hl.som, fun b G H σ Q E k => ?_⟩
  refine a_int1 hl _ rfl E fun G1 H1 s1 k1 => ⟨hb.1, hb.2, fun Dl hD => ?_⟩
  have E1 := E.step s1 k1
  have nb := bag_ne k1 hl.som hD
  refine lc_range (lo := 0) (n := i.toNat) (fun i' H' => LcW K b β.isSome G1 H1 Dl rs β2 (fun rest β' => LcR K j tt te ((rng 0 i.toNat).drop i') (wipeR ρ vs) β' rest β2) H') ?_ ?_ ?_
  · exact lc_start s1.s hD k1 hl.som nb h
  · rintro i' H' hi w'
    rw [rng_drop hi] at w'
    exact ⟨hw σ _, lc_turn hD nb hz (fun G' H' β' s' kb' => (E1.wipe vs).step s' kb') (.int _) w'⟩
  · rintro H' w'
    have e : (rng 0 i.toNat).drop i.toNat = [] := by rw [List.drop_eq_nil_iff, rng_length]; exact Nat.le_refl _
    rw [e] at w'
    exact lc_end s1.s hD nb w' fun v G' H'' s' kb' dv => k v G' H'' (s1.trans s') kb' dv
theorem d_lcR2 {j : Nat} {vs : List Nat} {lo i : Int} {rs : List Dt} (hl0 : EvB K ta ρ β (.int lo) β1) (hl : EvB K tb ρ β1 (.int i) β2) (hb : -(2 ^ 62) ≤ lo ∧ lo < 2 ^ 62 ∧ -(2 ^ 62) ≤ i ∧ i < 2 ^ 62) (h : LcR K j tt te (rng lo (i - lo).toNat) (wipeR ρ vs) β2 rs β3) (hz : rs.length ≤ 100000)
    (hw : ∀ (σ : L2.St) x, wipe ((wipe σ vs).set j (some x)) vs = wipe σ vs) : EvB K (tLc (iRng2 (tCons ta (tCons tb tNil))) (gName j) tt te vs) ρ β (.list rs) β3 := by
  refine ⟨h.som.trans (hl.som.trans hl0.som), fun b G H σ Q E k => ?_⟩
  refine hl0.run b G H σ _ E fun v G0 H0 s0 k0 d0 => ?_
  refine hl.run b G0 H0 σ _ (E.step s0 k0) fun w G1 H1 s1 k1 d1 => ?_
  rw [hl0.som] at s1
  have d0' := d0.mono s1.g
  have s1 := s0.trans s1
  cases d0
  cases d1
  refine ⟨lo, i, rfl, hb, fun Dl hD => ?_⟩
  have E1 := E.step s1 k1
  have nb := bag_ne k1 (hl.som.trans hl0.som) hD
  refine lc_range (lo := lo) (n := (i - lo).toNat) (fun i' H' => LcW K b β.isSome G1 H1 Dl rs β3 (fun rest β' => LcR K j tt te ((rng lo (i - lo).toNat).drop i') (wipeR ρ vs) β' rest β3) H') ?_ ?_ ?_
  · exact lc_start s1.s hD k1 (hl.som.trans hl0.som) nb h
  · rintro i' H' hi w'
    rw [rng_drop hi] at w'
    exact ⟨hw σ _, lc_turn hD nb hz (fun G' H' β' s' kb' => (E1.wipe vs).step s' kb') (.int _) w'⟩
  · rintro H' w'
    have e : (rng lo (i - lo).toNat).drop (i - lo).toNat = [] := by rw [List.drop_eq_nil_iff, rng_length]; exact Nat.le_refl _
    rw [e] at w'
    exact lc_end s1.s hD nb w' fun v G' H'' s' kb' dv => k v G' H'' (s1.trans s') kb' dv
end
end TD
/-! ## TdFn -/
set_option Elab.async false
set_option linter.all false
set_option maxRecDepth 100000
set_option maxHeartbeats 3000000
/-! Defs by what they do with data. -/
namespace TD
open PySem L2 PySem.Spec PyProof.Rows
open Evl (Ex ex_l ex_t fresh_back sq_of st_of sz_of sz_lt)
theorem wipe_set {j : Nat} {y : Option V} : ∀ {vs : List Nat} {σ : L2.St}, j ∈ vs → wipe (σ.set j y) vs = wipe σ vs
  | [], _, h => by cases h
  | v :: vs, σ, h => by
    unfold wipe
    by_cases z : j ∈ vs
    · rw [wipe_set z]
    · have e : j = v := by
        rcases List.mem_cons.mp h with h | h
        · exact h
        · exact absurd h z
      subst e
      have q : ∀ {ws : List Nat} {τ : L2.St}, j ∉ ws → wipe (τ.set j y) ws = (wipe τ ws).set j y := by
        intro ws
        induction ws with
        | nil => intro τ _; rfl
        | cons w ws ih =>
          intro τ hn
          unfold wipe
          rw [ih (fun m => hn (List.mem_cons_of_mem _ m)), List.set_comm _ _ (fun e => hn (by rw [e]; exact List.mem_cons_self))]
      rw [q z, List.set_set]
theorem wipe_wipe : ∀ {vs : List Nat} {σ : L2.St}, wipe (wipe σ vs) vs = wipe σ vs
  | vs, σ => by
    have q : ∀ {ws : List Nat} {τ : L2.St}, (∀ w ∈ ws, w ∈ vs) → wipe (wipe τ ws) vs = wipe τ vs := by
      intro ws
      induction ws with
      | nil => intro τ _; rfl
      | cons w ws ih =>
        intro τ hs
        show wipe ((wipe τ ws).set w none) vs = _
        rw [wipe_set (hs w List.mem_cons_self)]
        exact ih fun u hu => hs u (List.mem_cons_of_mem _ hu)
    exact q fun w h => h
theorem wipe_ok {j : Nat} {vs : List Nat} (h : j ∈ vs) (σ : L2.St) (x : V) : wipe ((wipe σ vs).set j (some x)) vs = wipe σ vs := by rw [wipe_set h, wipe_wipe]

/-- what a def makes of its arguments: the arguments, the bag ahead, the answer, the bag behind -/
abbrev FR := List Slot → Bag → Dt → Bag → Prop
def spR [TabW] (K : PySem.W.Frag) (R : FR) : Sp := fun vs H Q _ => ∃ (b : Addr) (G : Hp) (β : Bag) (as : List Slot) (r : Dt) (β' : Bag), Ex G H ∧ TabsOk G H ∧ BagOk b β G H ∧ DenSs K b G vs as ∧ R as β r β' ∧ β'.isSome = β.isSome ∧
  ∀ v G' H', Step b β.isSome G H G' H' → BagOk b β' G' H' → Den K G' v r → Q v H'
/-- a function of data, with no bag -/
def fR (n : Nat) (f : List Dt → Option Dt) : FR := fun as β r β' => ∃ ds : List Dt, as = imms ds ∧ ds.length = n ∧ f ds = some r ∧ β = none ∧ β' = none
def startR (N : List Str) (as : List Slot) : Rho := as.map some ++ List.replicate (N.length - as.length) none
section
variable [TabW] {K : PySem.W.Frag} {b : Addr} {β β' β1 β2 : Bag} {G H : Hp} {ρ : Rho}
theorem start_env {N : List Str} {vs : List V} {as : List Slot} (e : Ex G H) (tb : TabsOk G H) (kb : BagOk b β G H) (h : DenSs K b G vs as) : EnvD K b β G H (L2.start N vs) (startR N as) := by
  have hl := h.length
  have get : ∀ (i : Nat) (a : Slot), (startR N as)[i]? = some (some a) → ∃ v, (L2.start N vs)[i]? = some (some v) ∧ DenS K b G v a := by
    intro i a hi
    have hia : i < as.length := by
      by_cases z : i < as.length
      · exact z
      · unfold startR at hi
        rw [List.getElem?_append_right (by simpa using z), List.getElem?_replicate] at hi
        split at hi <;> cases hi
    unfold startR at hi
    rw [List.getElem?_append_left (by simpa using hia), List.getElem?_map] at hi
    have ha : as[i]? = some a := by
      cases q : as[i]? with
      | none => rw [q] at hi; cases hi
      | some a' => rw [q] at hi; cases hi; rfl
    have q : ∀ {vs : List V} {as : List Slot} {i : Nat}, DenSs K b G vs as → as[i]? = some a → ∃ v, vs[i]? = some v ∧ DenS K b G v a := by
      intro vs as i hd
      induction hd generalizing i with
      | nil => intro z; simp at z
      | cons h1 _ ih =>
        intro z
        cases i with
        | zero => simp at z; subst z; exact ⟨_, rfl, h1⟩
        | succ i =>
          obtain ⟨v, z1, z2⟩ := ih (i := i) (by simpa using z)
          exact ⟨v, by simpa using z1, z2⟩
    obtain ⟨v, h1, h2⟩ := q h ha
    refine ⟨v, ?_, h2⟩
    unfold L2.start
    rw [List.getElem?_append_left (by rw [List.length_map, hl]; exact hia), List.getElem?_map, h1]
    rfl
  refine ⟨e, kb, ?_, fun i d hi => get i (.imm d) hi, fun i hi => ?_, tb, fun i a hi => get i (.fn a) hi |>.elim fun v h => by have h2 : v = .ref a := h.2; rw [← h2]; exact h.1⟩
  · unfold L2.start startR
    rw [List.length_append, List.length_append, List.length_map, List.length_map, List.length_replicate, List.length_replicate, hl]
  · obtain ⟨v, h1, h2⟩ := get i .bag hi
    have : v = .ref b := h2
    subst this
    exact h1
/-- a body that returns, or comes to its end -/
inductive BodyR [TabW] (K : PySem.W.Frag) (t : TS) (ρ : Rho) (β : Bag) (r : Dt) (β' : Bag) : Prop
  | ret : StB K t ρ β (.ret r) β' → BodyR K t ρ β r β'
  | fall (ρ' : Rho) : StB K t ρ β (.nx ρ') β' → r = .none → BodyR K t ρ β r β'
theorem fn_read {R : FR} {N : List Str} {t : TS} (h : ∀ as β r β', R as β r β' → BodyR K t (startR N as) β r β') {vs : List V} {H : Hp} {Q : VK} {E : XK} (hsp : spR K R vs H Q E) : t { nx := fun _ H' => Q .non H', rt := Q } (L2.start N vs) H := by
  obtain ⟨b, G, β, as, r, β', e, tb, kb, ha, hR, hm, k⟩ := hsp
  have E0 := start_env (N := N) e tb kb ha
  cases h _ _ _ _ hR with
  | ret hb => exact hb.run b G H _ _ E0 fun v G' H' s' k' d' => k v G' H' s' k' d'
  | fall ρ' hb hr =>
    subst hr
    exact hb.run b G H _ _ E0 fun σ' G' H' s' e' => k .non G' H' s' e'.bagk .non
/-- a call of it, with the bag or without -/
theorem d_call {R : FR} {E : XK} {t : TA} {as : List Slot} {r : Dt} (ha : EvA K t ρ β as β1) (hR : R as β1 r β2) (hm : β2.isSome = β1.isSome) : EvB K (tCall (spR K R) [] E t) ρ β r β2 := by
  refine ⟨hm.trans ha.som, fun b G H σ Q E' k => ?_⟩
  refine ha.run b G H σ _ E' fun vs G1 H1 s1 k1 d1 => ?_
  rw [List.append_nil]
  refine ⟨b, G1, β1, as, r, β2, s1.s, (E'.step s1 k1).tabs, k1, d1, hR, hm, fun v G2 H2 s2 k2 d2 => ?_⟩
  rw [ha.som] at s2
  exact k v G2 H2 (s1.trans s2) k2 d2
theorem d_call0 {R : FR} {E : XK} {t : TA} {as : List Slot} {r : Dt} (ha : EvA K t ρ β as β1) (hR : R as none r none) : EvB K (tCall (spR K R) [] E t) ρ β r β1 := by
  refine ⟨ha.som, fun b G H σ Q E' k => ?_⟩
  refine ha.run b G H σ _ E' fun vs G1 H1 s1 k1 d1 => ?_
  rw [List.append_nil]
  exact ⟨b, G1, none, as, r, none, s1.s, (E'.step s1 k1).tabs, (fun _ z => nomatch z), d1, hR, rfl, fun v G2 H2 s2 k2 d2 => k v G2 H2 (s1.trans s2.up) (k1.same s2) d2⟩
theorem d_callF {n : Nat} {f : List Dt → Option Dt} {E : XK} {t : TA} {as : List Slot} {ds : List Dt} {r : Dt} (ha : EvA K t ρ β as β1) (he : as = imms ds) (hn : ds.length = n) (hf : f ds = some r) : EvB K (tCall (spR K (fR n f)) [] E t) ρ β r β1 :=
  d_call0 ha ⟨ds, he, hn, hf, rfl, rfl⟩
end

/-! ### the defs of the text -/
structure FnG [TabW] (P : Program) (w : World) (K : PySem.W.Frag) (mg : Str → Option Value) (base : Heap) (k : Nat) (x : Str) (ps : List Str) (R : FR) : Prop where
  ex : ∃ (f : Addr) (fd : FuncData), mg x = some (.ref f) ∧ FnOk P w K mg base CX0 k f fd ps (spR K R) ∧ Binds K fd ps [] ∧ PySem.W.keepIn K (.ref f) = true
section
variable [TabW] {X : Cx} {k : Nat} {x : Str} {ps : List Str} {R : FR} {q pos : Pos} {e : Expr} {es : List Expr} {t : TA}
theorem pe_fn {P : Program} {w : World} {K : PySem.W.Frag} {mg : Str → Option Value} {base : Heap} (F : FnG P w K mg base k x ps R) (hr : Room k X.A) (ha : PA X (e :: es) t) (h1 : X.prog = P := by rfl) (h2 : X.w = w := by rfl) (h3 : X.K = K := by rfl) (h4 : X.mg = mg := by rfl) (h5 : X.base = base := by rfl)
    (hg : Gl X x := by rfl) (hdb : (x == ("__debug__" : Str)) = false := by decide) (hs : starEach (e :: es) X.env = (false, eval e X.env) :: starEach es X.env := by rfl)
    (hp : (backTo pos (starEach es X.env)).any (·.1) = false := by rfl) : PE X (.Call (.Name x q) (e :: es) [] pos) (tCall (spR K R) [] E0 t) := by
  obtain ⟨f, fd, hm, hf, hb, hk⟩ := F.ex
  subst h1 h2 h3 h4 h5
  exact pe_call hf hr hg hm hk hb .nil pass0 ha hdb hs hp
end
/-- where a def of the text stands -/
structure DefAt (K : PySem.W.Frag) (x : Str) (st : Stmt) : Prop where
  ex : ∃ (f : Addr) (fd : FuncData), PySem.W.nsIn K mainGlobals x = some (some (.ref f)) ∧ Fun K x x st f fd
theorem defAt_mk {K : PySem.W.Frag} {x : Str} {st : Stmt} {f : Addr} {oc : Value} {od an : Option Addr} {osl : Array (Option Value)} {kV doc pm cdv ct : Value} (a : PySem.W.nsIn K mainGlobals x = some (some (.ref f)))
    (l : K.lookup f = some ⟨oc, od, .func (PySem.W.fnOf x x (defArgs st) (defBody st) (defScope st) .none kV doc pm an cdv ct), osl⟩) (c : PySem.W.codeIn K cdv x = true) (k : PySem.W.keepIn K (.ref f) = true) : DefAt K x st := ⟨f, _, a, fun_mk l c k⟩
section
variable [TabW] {P : Program} {w : World} {K : PySem.W.Frag} {mg : Str → Option Value} {base : Heap} {k : Nat} {x : Str} {st : Stmt} {N ps : List Str} {R : FR}
/-- THE RULE for a def -/
theorem fn_mk (F : DefAt K x st) (hX : K.In base) (hG : base.Ns mainGlobals mg) (S : FnScope N ps (defScope st)) (hlen : ∀ as β r β', R as β r β' → as.length = ps.length)
    (hb : ∀ (f : Addr) (kV doc pm : Value) (an : Option Addr) (cdv ct : Value) (us : List Value), us.length = ps.length → bindArgs (PySem.W.fnOf x x (defArgs st) (defBody st) (defScope st) .none kV doc pm an cdv ct) ⟨us, []⟩ = pure (ps.zip us))
    (hbody : ∀ (f : Addr) (cdv : Value) (A : Around) (outer : List PySem.Env) (s : Shared) (H : Hp) (E : XK), Room k (A.deeper (envOfC x (defScope st) s.heap.objs.size f cdv)) →
      ∃ t, PSs (cxOf CX0 P w K mg base N x (defScope st) f cdv A outer s H E).nox (defBody st) t ∧ ∀ as β r β', R as β r β' → BodyR K t (startR N as) β r β') : FnG P w K mg base (k + 1) x ps R := by
  obtain ⟨f, fd, ha, hF⟩ := F.ex
  refine ⟨f, fd, PySem.W.mg_of hX hG ha, ?_, hF.binds (hb f), hF.kp⟩
  refine hF.ok S (fun vs H Q E hsp => ?_) fun cdv A outer s H vs Q E hr hsp => ?_
  · obtain ⟨b, G, β, as, r, β', _, _, _, hd, hR, _⟩ := hsp
    rw [hd.length]
    exact hlen _ _ _ _ hR
  · obtain ⟨t, h1, h2⟩ := hbody f cdv A outer s H E hr
    exact ⟨t, h1, fn_read h2 hsp⟩
end
end TD
/-! ## TdX -/
set_option Elab.async false
set_option linter.all false
set_option maxRecDepth 100000
set_option maxHeartbeats 3000000
/-! Further rules of my own over the hand layer, and what they come to. -/
namespace TD
open PySem L2 PySem.Spec PyProof.Rows
open Evl (Ex ex_l ex_t fresh_back sq_of st_of sz_of sz_lt)
theorem units1 {k : Nat} {A : Around} (r : Room k A) : A.units + 65 < cLine := by have := r.un; omega
def CPowW (i j : Int) : Prop := 0 ≤ j ∧ (Builtin.Int.intBits i : Int) * j ≤ 2 ^ 27
theorem op_powW {X : Cx} : OpR X (binaryOp .Pow) (rI CPowW fun i j => .int (i ^ j.toNat)) := opI fun _ _ _ _ _ _ _ hc q => pow_int hc.1 hc.2 q
theorem bo_int : bootBuiltins "int" = some (.type "int") := by decide +kernel
theorem bo_bool : bootBuiltins "bool" = some (.type "bool") := by decide +kernel
theorem bo_tuple : bootBuiltins "tuple" = some (.type "tuple") := by decide +kernel
theorem bo_list : bootBuiltins "list" = some (.type "list") := by decide +kernel
theorem bo_str : bootBuiltins "str" = some (.type "str") := by decide +kernel
theorem bo_dict : bootBuiltins "dict" = some (.type "dict") := by decide +kernel
theorem bo_set : bootBuiltins "set" = some (.type "set") := by decide +kernel
theorem bo_abs : bootBuiltins "abs" = some (.builtin "abs") := by decide +kernel
theorem bo_len : bootBuiltins "len" = some (.builtin "len") := by decide +kernel
theorem bo_sum : bootBuiltins "sum" = some (.builtin "sum") := by decide +kernel
theorem bo_max : bootBuiltins "max" = some (.builtin "max") := by decide +kernel
theorem bo_min : bootBuiltins "min" = some (.builtin "min") := by decide +kernel
theorem bo_all : bootBuiltins "all" = some (.builtin "all") := by decide +kernel
theorem bo_any : bootBuiltins "any" = some (.builtin "any") := by decide +kernel
theorem bo_repr : bootBuiltins "repr" = some (.builtin "repr") := by decide +kernel
theorem bo_sorted : bootBuiltins "sorted" = some (.builtin "sorted") := by decide +kernel
theorem bo_isinstance : bootBuiltins "isinstance" = some (.builtin "isinstance") := by decide +kernel
/-! ### a walk over a list or a tuple -/
section
variable {X : Cx} {tg : Expr}
def iSeq (K : PySem.W.Frag) (tl : TE) : TI := fun σ H R => tl σ H fun x H1 => ∃ a, x = .ref a ∧ (((∃ xs, SqL K H1 a xs) ∧ R (Itl K a) H1) ∨ ((∃ xs, SqT K H1 a xs) ∧ R (Itt K a) H1))
theorem pi_seq {l : Expr} {tl : TE} (hl : PE X l tl) : PI X tg l (iSeq X.K tl) := ⟨fun pins s σ H R I h => thn (hl.run pins s σ H _ I h) fun u t1 z => by
  obtain ⟨y, J, V1, ry, a, rfl, ⟨⟨xs, hq⟩, q⟩ | ⟨⟨xs, hq⟩, q⟩⟩ := z
  all_goals cases ry
  all_goals have new := V1.fpOk (Nat.le_refl _) (V1.hok.fresh (Nat.le_refl _))
  · obtain ⟨us, _, pl, _⟩ := V1.list hq
    exact wpAny_pyIter_list pl.isList ⟨_, [_], _, _, J, rfl, V1.kept (t' := t1.toks) (fun _ _ => Heap.get?_push_of_some _), turn_list a _, ⟨_, Heap.get?_push_size _ rfl, rfl, rfl⟩, (fun c hc => by
      rw [List.mem_singleton.mp hc]; exact new), q⟩
  · obtain ⟨us, _, pt, _⟩ := V1.tuple hq
    exact wpAny_pyIter_tuple (show t1.heap.IsTuple a us.toArray from pt) ⟨_, [_], _, _, J, rfl, V1.kept (t' := t1.toks) (fun _ _ => Heap.get?_push_of_some _), turn_tuple a _, ⟨_, Heap.get?_push_size _ rfl, rfl, rfl⟩, (fun c hc => by
      rw [List.mem_singleton.mp hc]; exact new), q⟩⟩
end
section
variable [TabW] {K : PySem.W.Frag} {b : Addr} {ρ ρ' ρ1 : Rho} {β β1 β2 β3 : Bag} {ta tb te tc : TE} {tt : TT} {tu tw ts : TS} {x y z d : Dt} {o : Out} {G H G1 H1 G2 H2 : Hp} {σ : L2.St}
theorem st_forQ {j : Nat} {tl : TE} {ds : List Dt} (hl : EvB K tl ρ β x β1) (hx : SeqD x ds) (h : ForR K j tu ds ρ β1 o β2) : StB K (tFor (iSeq K tl) (gName j) tu) ρ β o β2 := by
  refine ⟨h.som.trans hl.som, fun b G H σ D E k => ?_⟩
  refine hl.run b G H σ _ E fun v G1 H1 s1 k1 d1 => ?_
  rcases hx with rfl | rfl
  · cases d1 with
    | @lst a xs _ hs hd =>
      refine ⟨a, rfl, .inl ⟨⟨xs, sq_of (s1.s _ _ hs)⟩, for_list (K := K) (a := a) (xs := xs) (fun i σ' H' => ∃ G' ρ' β', Step b β.isSome G1 H1 G' H' ∧ β'.isSome = β.isSome ∧ EnvD K b β' G' H' σ' ρ' ∧ ForR K j tu (ds.drop i) ρ' β' o β2) ?_ ?_ ?_ ?_⟩⟩
      · exact ⟨G1, ρ, β1, Step.refl s1.s, hl.som, E.step s1 k1, h⟩
      · rintro i σ' H' _ ⟨G', ρ', β', s', _⟩
        exact sq_of (s'.s _ _ (s'.g _ _ hs))
      · rintro i v σ' H' hi ⟨G', ρ', β', s', m', E', r'⟩
        obtain ⟨d, hd1, hd2⟩ := hd.get hi
        have e : ds.drop i = d :: ds.drop (i + 1) := by
          obtain ⟨hlt, he⟩ := List.getElem?_eq_some_iff.mp hd1
          rw [← he]
          exact List.drop_eq_getElem_cons hlt
        rw [e] at r'
        exact for_turn (m := β.isSome) m'.symm r' E' (hd2.mono s'.g) s' (k.of (D' := D) s1) fun σ2 G2 H2 ρ2 β2' s2 m2 E2 r2 => ⟨G2, ρ2, β2', s2, m2, E2, r2⟩
      · rintro σ' H' ⟨G', ρ', β', s', m', E', r'⟩
        rw [hd.length, List.drop_length] at r'
        cases r'
        exact k σ' G' H' (s1.trans s') E'
  · cases d1 with
    | @tup a xs _ hs hd =>
      refine ⟨a, rfl, .inr ⟨⟨xs, ex_t s1.s hs⟩, for_tup (K := K) (a := a) (xs := xs) (fun i σ' H' => ∃ G' ρ' β', Step b β.isSome G1 H1 G' H' ∧ β'.isSome = β.isSome ∧ EnvD K b β' G' H' σ' ρ' ∧ ForR K j tu (ds.drop i) ρ' β' o β2) ?_ ?_ ?_ ?_⟩⟩
      · exact ⟨G1, ρ, β1, Step.refl s1.s, hl.som, E.step s1 k1, h⟩
      · rintro i σ' H' _ ⟨G', ρ', β', s', _⟩
        exact ex_t s'.s (ex_t s'.g hs)
      · rintro i v σ' H' hi ⟨G', ρ', β', s', m', E', r'⟩
        obtain ⟨d, hd1, hd2⟩ := hd.get hi
        have e : ds.drop i = d :: ds.drop (i + 1) := by
          obtain ⟨hlt, he⟩ := List.getElem?_eq_some_iff.mp hd1
          rw [← he]
          exact List.drop_eq_getElem_cons hlt
        rw [e] at r'
        exact for_turn (m := β.isSome) m'.symm r' E' (hd2.mono s'.g) s' (k.of (D' := D) s1) fun σ2 G2 H2 ρ2 β2' s2 m2 E2 r2 => ⟨G2, ρ2, β2', s2, m2, E2, r2⟩
      · rintro σ' H' ⟨G', ρ', β', s', m', E', r'⟩
        rw [hd.length, List.drop_length] at r'
        cases r'
        exact k σ' G' H' (s1.trans s') E'
theorem d_lcQ {j : Nat} {vs : List Nat} {tl : TE} {ds rs : List Dt} (hl : EvB K tl ρ β x β1) (hx : SeqD x ds) (h : LcR K j tt te ds (wipeR ρ vs) β1 rs β2) (hz : rs.length ≤ 100000)
    (hw : ∀ (σ : L2.St) x, wipe ((wipe σ vs).set j (some x)) vs = wipe σ vs) : EvB K (tLc (iSeq K tl) (gName j) tt te vs) ρ β (.list rs) β2 := by
  refine ⟨h.som.trans hl.som, fun b G H σ Q E k => ?_⟩
  refine hl.run b G H σ _ E fun v G1 H1 s1 k1 d1 => ?_
  have E1 := E.step s1 k1
  rcases hx with rfl | rfl
  · cases d1 with
    | @lst a xs _ hs hd =>
      refine ⟨a, rfl, .inl ⟨⟨xs, sq_of (s1.s _ _ hs)⟩, fun Dl hD => ?_⟩⟩
      have nb := bag_ne k1 hl.som hD
      refine lc_list (K := K) (a := a) (xs := xs) (fun i H' => LcW K b β.isSome G1 H1 Dl rs β2 (fun rest β' => LcR K j tt te (ds.drop i) (wipeR ρ vs) β' rest β2) H') ?_ ?_ ?_ ?_
      · exact lc_start s1.s hD k1 hl.som nb h
      · rintro i H' _ ⟨G', β', done, rest, acc, s', _⟩
        exact sq_of (s'.s _ _ (s'.g _ _ hs))
      · rintro i x H' hi w'
        obtain ⟨d, hd1, hd2⟩ := hd.get hi
        have e : ds.drop i = d :: ds.drop (i + 1) := by
          obtain ⟨hlt, he⟩ := List.getElem?_eq_some_iff.mp hd1
          rw [← he]
          exact List.drop_eq_getElem_cons hlt
        rw [e] at w'
        exact ⟨hw σ x, lc_turn hD nb hz (fun G' H' β' s' kb' => (E1.wipe vs).step s' kb') hd2 w'⟩
      · rintro H' w'
        rw [hd.length, List.drop_length] at w'
        exact lc_end s1.s hD nb w' fun v G' H'' s' kb' dv => k v G' H'' (s1.trans s') kb' dv
  · cases d1 with
    | @tup a xs _ hs hd =>
      refine ⟨a, rfl, .inr ⟨⟨xs, ex_t s1.s hs⟩, fun Dl hD => ?_⟩⟩
      have nb := bag_ne k1 hl.som hD
      refine lc_tup (K := K) (a := a) (xs := xs) (fun i H' => LcW K b β.isSome G1 H1 Dl rs β2 (fun rest β' => LcR K j tt te (ds.drop i) (wipeR ρ vs) β' rest β2) H') ?_ ?_ ?_ ?_
      · exact lc_start s1.s hD k1 hl.som nb h
      · rintro i H' _ ⟨G', β', done, rest, acc, s', _⟩
        exact ex_t s'.s (ex_t s'.g hs)
      · rintro i x H' hi w'
        obtain ⟨d, hd1, hd2⟩ := hd.get hi
        have e : ds.drop i = d :: ds.drop (i + 1) := by
          obtain ⟨hlt, he⟩ := List.getElem?_eq_some_iff.mp hd1
          rw [← he]
          exact List.drop_eq_getElem_cons hlt
        rw [e] at w'
        exact ⟨hw σ x, lc_turn hD nb hz (fun G' H' β' s' kb' => (E1.wipe vs).step s' kb') hd2 w'⟩
      · rintro H' w'
        rw [hd.length, List.drop_length] at w'
        exact lc_end s1.s hD nb w' fun v G' H'' s' kb' dv => k v G' H'' (s1.trans s') kb' dv
/-! ### any of some ints -/
omit [TabW] in
theorem truth_ints {prog : Program} {w : World} {A : Around} {ns : List Int} {its : List Value} (e : Vals (ns.map V.int) its) :
    TruthOf prog w A (fun i v => its.toArray[i]? = some v) (fun i => (ns.map (· != 0)).getD i false) := fun i v s Q E hv hq => by
  have hv' : its[i]? = some v := by simpa using (hv)
  have hl : its.length = ns.length := by rw [← e.length, List.length_map]
  have hi : i < ns.length := by rw [← hl]; exact (List.getElem?_eq_some_iff.mp hv').1
  have h1 : (ns.map V.int)[i]? = some (V.int ns[i]) := by simp [hi]
  obtain ⟨u, h2, h3⟩ := e.get h1
  rw [hv'] at h2
  cases h2
  obtain ⟨t, rfl⟩ := h3
  have hg : (ns.map (· != 0)).getD i false = (ns[i] != 0) := by simp [hi]
  have hq' : Q ((ns.map (· != 0)).getD i false) s := hq
  rw [hg] at hq'
  exact PyProof.Rows.truthy_int hq'
end
def rAnyT (K : PySem.W.Frag) : List V → Hp → VK → Prop := fun vs H Q => ∃ (a : Addr) (ns : List Int), vs = [V.ref a] ∧ SqT K H a (ns.map V.int) ∧ Q (.bl (ns.any (· != 0))) H
theorem cr_anyT {X : Cx} (hc : X.calm = true) : CallR X (.builtin "any") (rAnyT X.K) := by
  rintro pins s σ H vs us Q I r ⟨a, ns, rfl, hs, q⟩
  obtain ⟨its, rv, ht, hz⟩ := I.tuple hs
  rw [Vals.ref1 r]
  have hlt : a < s.heap.objs.size := ht.lt
  have hne : a ≠ s.heap.objs.size := Nat.ne_of_lt (hlt)
  refine call_any_walk (wpAny_pyIter_tuple (show s.heap.IsTuple a its.toArray from ht) ?_)
  refine ⟨_, _, _, _, _, _, _, rfl, Walks.tuple (A := X.A.in1) (I.ok.hd hc) _ a hne its.toArray, ⟨⟨_, Heap.get?_push_size _ rfl, rfl, rfl⟩, ?_⟩, truth_ints rv, fun h' tk hk => ?_⟩
  · obtain ⟨o, h1, h2⟩ := (show s.heap.IsTuple a its.toArray from ht)
    exact ⟨o, Heap.get?_push_of_some _ h1, h2⟩
  · refine ⟨.bl _, H, I.kept fun b o eo => hk b o (fun hmem => ?_) (Heap.get?_push_of_some _ eo), ?_, q⟩
    · obtain e1 | hmem := List.mem_cons.mp hmem
      · exact (Nat.lt_irrefl _ (e1 ▸ Heap.lt_size eo)).elim
      · cases hmem
    · show (Value.bool _ : Value) = Value.bool _
      have hl : its.toArray.size = (ns.map (· != 0)).length := by rw [List.size_toArray, ← rv.length, List.length_map, List.length_map]
      rw [hl, L2.any_range, List.any_map]
      rfl
def rReprB : List V → Hp → VK → Prop := fun xs H Q => ∃ c : Bool, xs = [.bl c] ∧ Q (.str (if c then "True" else "False")) H
theorem call_repr_b {X : Cx} : CallR X (.builtin "repr") rReprB := by
  rintro pins s σ H xs us Q I r ⟨i, rfl, q⟩
  obtain ⟨u, rfl, hu⟩ := vals1 r
  cases hu
  exact PySem.P.repr_of_bool ⟨.str _, H, I.tok _, ⟨_, rfl⟩, q⟩
section
variable [TabW] {K : PySem.W.Frag} {b : Addr} {ρ ρ' ρ1 : Rho} {β β1 β2 β3 : Bag} {ta tb te tc : TE} {tt : TT} {tu tw ts : TS} {x y z d : Dt} {o : Out} {G H G1 H1 G2 H2 : Hp} {σ : L2.St}
theorem d_anyT {ns : List Int} (h : EvB K te ρ β (.tuple (ns.map .int)) β1) : EvB K (tCB (rAnyT K) (tCons te tNil)) ρ β (.bool (ns.any (· != 0))) β1 := d_c1 h fun b G H v Q e dv k => by
  cases dv with
  | @tup a xs _ hs hd =>
    have := hd.ints
    subst this
    exact ⟨a, ns, rfl, ex_t e hs, k _ G H (Step.refl e) (.bl _)⟩
def boolT (c : Bool) : Str := if c then "True" else "False"
theorem d_reprB {c : Bool} (h : EvB K te ρ β (.bool c) β1) : EvB K (tCB rReprB (tCons te tNil)) ρ β (.str (boolT c)) β1 := d_c1 h fun b G H v Q e dv k => by
  cases dv
  exact ⟨c, rfl, k _ G H (Step.refl e) (.str _)⟩
theorem boolT_inj {c e : Bool} : (boolT c = boolT e) ↔ c = e := by cases c <;> cases e <;> decide
/-- a truth -/
def tTruth (K : PySem.W.Frag) (te : TE) : TT := fun σ H Q => te σ H fun x H' => ∃ k, TruV K x H' k ∧ Q k H'
theorem pt_tru {X : Cx} {K : PySem.W.Frag} {e : Expr} {te : TE} (he : PE X e te) (hw : ∀ whole, isTrue e X.env whole = (do let v ← whole; standAt e.pos; holding [v] (truthy v)) := by intro _; rfl) (h3 : X.K = K := by rfl) : PT X e (tTruth K te) := by
  subst h3
  exact pt_truth he hw
theorem t_truthI {i : Int} (h : EvB K te ρ β (.int i) β1) : TtB K (tTruth K te) ρ β (i != 0) β1 := ⟨h.som, fun b G H σ Q E k => h.run b G H σ _ E fun v G1 H1 s1 k1 d1 => by
  cases d1
  exact ⟨_, rfl, k G1 H1 s1 k1⟩⟩
theorem d_inD {ds : List Dt} (hx : EvB K ta ρ β x β1) (hy : EvB K tb ρ β1 (.list ds) β2) (fx : flatD x = true) (fy : flatL ds = true) (sx : SeqAt.shaped x = true) (sy : SeqAt.shaped (.list ds) = true) : EvB K (tOp (rInD K) ta tb) ρ β (.bool (ds.any fun z => PyData.eqv z x)) β2 :=
  d_op hx hy fun b G H v w Q e h1 h2 k => ⟨x, ds, h1.dp e fx, h2.dp e (by unfold flatD; exact fy), sx, sy, k _ G H (Step.refl e) (.bl _)⟩
theorem d_notInD {ds : List Dt} (hx : EvB K ta ρ β x β1) (hy : EvB K tb ρ β1 (.list ds) β2) (fx : flatD x = true) (fy : flatL ds = true) (sx : SeqAt.shaped x = true) (sy : SeqAt.shaped (.list ds) = true) : EvB K (tOp (rNotInD K) ta tb) ρ β (.bool (!ds.any fun z => PyData.eqv z x)) β2 :=
  d_op hx hy fun b G H v w Q e h1 h2 k => ⟨x, ds, h1.dp e fx, h2.dp e (by unfold flatD; exact fy), sx, sy, k _ G H (Step.refl e) (.bl _)⟩
/-! ### // by any divisor but 0 -/
def CDivV (_ j : Int) : Prop := j ≠ 0 ∧ j.natAbs.log2 < 9000
theorem op_fdivV {X : Cx} : OpR X (binaryOp .FloorDiv) (rI CDivV fun i j => .int (i.fdiv j)) := opI fun _ _ _ _ _ _ _ hc q => floordiv_int hc.1 q (.inl (PyProof.noPylong_of_log2 hc.2))
theorem d_fdiv {i j : Int} {C : Int → Int → Prop} (ha : EvB K ta ρ β (.int i) β1) (hb : EvB K tb ρ β1 (.int j) β2) (hc : C i j) : EvB K (tOp (rI C fun i j => .int (i.fdiv j)) ta tb) ρ β (.int (i.fdiv j)) β2 := d_rI ha hb hc fun _ => .int _
/-! ### tuples and lists of ints compared -/
theorem eqv_ints : ∀ ms ns : List Int, PyData.eqvAll (ms.map .int) (ns.map .int) = decide (ms = ns)
  | [], [] => rfl
  | [], _ :: _ => rfl
  | _ :: _, [] => rfl
  | m :: ms, n :: ns => by
    show (PyData.eqv (.int m) (.int n) && PyData.eqvAll (ms.map .int) (ns.map .int)) = _
    rw [eqv_ints ms ns]
    have e : PyData.eqv (.int m) (.int n) = decide (m = n) := rfl
    rw [e]
    by_cases h1 : m = n
    · by_cases h2 : ms = ns
      · simp [h1, h2]
      · simp [h1, h2]
    · simp [h1]
theorem flat_ints : ∀ ns : List Int, flatL (ns.map .int) = true
  | [] => rfl
  | n :: ns => by
    show (flatD (.int n) && flatL (ns.map .int)) = true
    rw [flat_ints ns]
    rfl
theorem lay_ints : ∀ ns : List Int, PyData.canLayAll0 (ns.map .int) = true
  | [] => rfl
  | n :: ns => by
    show (PyData.canLay0 (.int n) && PyData.canLayAll0 (ns.map .int)) = true
    rw [lay_ints ns]
    rfl
theorem depth_ints : ∀ ns : List Int, PyData.depthAll (ns.map .int) = 0
  | [] => rfl
  | n :: ns => by
    show max (PyData.depth (.int n)) (PyData.depthAll (ns.map .int)) = 0
    rw [depth_ints ns]
    rfl
theorem shaped_tup (ns : List Int) : SeqAt.shaped (.tuple (ns.map .int)) = true := by
  show (PyData.canLayAll0 (ns.map .int) && decide (PyData.depthAll (ns.map .int) + 1 ≤ 64)) = true
  rw [lay_ints, depth_ints]
  rfl
theorem shaped_lst (ns : List Int) : SeqAt.shaped (.list (ns.map .int)) = true := by
  show (PyData.canLayAll0 (ns.map .int) && decide (PyData.depthAll (ns.map .int) + 1 ≤ 64)) = true
  rw [lay_ints, depth_ints]
  rfl
theorem d_eqTT {ms ns : List Int} (ha : EvB K ta ρ β (.tuple (ms.map .int)) β1) (hb : EvB K tb ρ β1 (.tuple (ns.map .int)) β2) : EvB K (tOp (rEqD K) ta tb) ρ β (.bool (decide (ms = ns))) β2 :=
  (d_eqD ha hb (flat_ints ms) (flat_ints ns) (shaped_tup ms) (shaped_tup ns)).to (congrArg PyData.bool (eqv_ints ms ns))
theorem d_neTT {ms ns : List Int} (ha : EvB K ta ρ β (.tuple (ms.map .int)) β1) (hb : EvB K tb ρ β1 (.tuple (ns.map .int)) β2) : EvB K (tOp (rNeD K) ta tb) ρ β (.bool (!decide (ms = ns))) β2 :=
  (d_neD ha hb (flat_ints ms) (flat_ints ns) (shaped_tup ms) (shaped_tup ns)).to (congrArg (fun c => PyData.bool (!c)) (eqv_ints ms ns))
theorem d_eqLL {ms ns : List Int} (ha : EvB K ta ρ β (.list (ms.map .int)) β1) (hb : EvB K tb ρ β1 (.list (ns.map .int)) β2) : EvB K (tOp (rEqD K) ta tb) ρ β (.bool (decide (ms = ns))) β2 :=
  (d_eqD ha hb (flat_ints ms) (flat_ints ns) (shaped_lst ms) (shaped_lst ns)).to (congrArg PyData.bool (eqv_ints ms ns))
theorem d_neLL {ms ns : List Int} (ha : EvB K ta ρ β (.list (ms.map .int)) β1) (hb : EvB K tb ρ β1 (.list (ns.map .int)) β2) : EvB K (tOp (rNeD K) ta tb) ρ β (.bool (!decide (ms = ns))) β2 :=
  (d_neD ha hb (flat_ints ms) (flat_ints ns) (shaped_lst ms) (shaped_lst ns)).to (congrArg (fun c => PyData.bool (!c)) (eqv_ints ms ns))
/-! ### comprehensions over ints -/
theorem filter_ints (f : Int → Bool) (g : Int → Dt) (F : Dt → Bool) (G' : Dt → Dt) (hF : ∀ n, F (.int n) = f n) (hG : ∀ n, G' (.int n) = g n) : ∀ ns : List Int, ((ns.map PyData.int).filter F).map G' = (ns.filter f).map g
  | [] => rfl
  | n :: ns => by
    have ih := filter_ints f g F G' hF hG ns
    rw [List.map_cons, List.filter_cons, List.filter_cons, hF]
    cases f n with
    | true => simp only [if_true]; rw [List.map_cons, List.map_cons, hG, ih]
    | false => simp only [Bool.false_eq_true, if_false]; exact ih
def intV : Dt → Int
  | .int i => i
  | _ => 0
theorem lc_ints {j : Nat} (f : Int → Bool) (g : Int → Dt) {ns : List Int} (h1 : ∀ n ∈ ns, TtB K tt (ρ.set j (some (Slot.imm (.int n)))) β (f n) β) (h2 : ∀ n ∈ ns, f n = true → EvB K te (ρ.set j (some (Slot.imm (.int n)))) β (g n) β) :
    LcR K j tt te (ns.map .int) ρ β ((ns.filter f).map g) β := by
  rw [← filter_ints f g (fun d => f (intV d)) (fun d => g (intV d)) (fun _ => rfl) (fun _ => rfl) ns]
  refine LcR.pure _ _ (fun d hd => ?_) fun d hd hf => ?_
  · obtain ⟨n, hn, rfl⟩ := List.mem_map.mp hd
    exact h1 n hn
  · obtain ⟨n, hn, rfl⟩ := List.mem_map.mp hd
    exact h2 n hn hf
theorem lc_ints' {j : Nat} (g : Int → Dt) {ns : List Int} (h2 : ∀ n ∈ ns, EvB K te (ρ.set j (some (Slot.imm (.int n)))) β (g n) β) : LcR K j tYes te (ns.map .int) ρ β (ns.map g) β := by
  have h := lc_ints (K := K) (tt := tYes) (te := te) (ρ := ρ) (β := β) (j := j) (fun _ => true) g (ns := ns) (fun _ _ => t_yes0) fun n hn _ => h2 n hn
  rw [List.filter_eq_self.mpr fun _ _ => rfl] at h
  exact h
end
end TD
/-! ## NumM -/
set_option linter.all false
/-! Numbers over a prime, in plain Lean: what the program and the laws reckon. -/
namespace Num
open PySem
abbrev Dt := PyData
def big : Int := 1000000000000000000000000000000000000000000000000000000000000
def isInteger : Dt → Bool
  | .int i => decide (-big < i) && decide (i < big)
  | _ => false
def primes : List Int := [2, 3, 5, 7, 11, 13, 17, 19]
def isPrime : Dt → Bool
  | .int p => decide (p = 0) || decide (p ∈ primes)
  | _ => false
/-- a prime of the package, as a number -/
def PrimeI (p : Int) : Prop := p = 0 ∨ p ∈ primes
theorem PrimeI.small {p : Int} (h : PrimeI p) : 0 ≤ p ∧ p ≤ 19 := by
  rcases h with rfl | h
  · decide
  · unfold primes at h
    simp only [List.mem_cons, or_false, List.not_mem_nil] at h
    omega
theorem isPrime_int (p : Int) : isPrime (.int p) = (isInteger (.int p) && (decide (p = 0) || decide (p ∈ primes))) := by
  show (decide (p = 0) || decide (p ∈ primes)) = _
  by_cases h : PrimeI p
  · have hs := h.small
    have h1 : isInteger (.int p) = true := by
      show (decide (-big < p) && decide (p < big)) = true
      unfold big
      rw [decide_eq_true (by omega), decide_eq_true (by omega)]
      rfl
    rw [h1, Bool.true_and]
  · have h1 : ¬ p = 0 := fun z => h (.inl z)
    have h2 : ¬ p ∈ primes := fun z => h (.inr z)
    rw [decide_eq_false h1, decide_eq_false h2, Bool.false_or, Bool.and_false]
theorem isPrime_of {p : Int} (h : PrimeI p) : isPrime (.int p) = true := by
  show (decide (p = 0) || decide (p ∈ primes)) = true
  rcases h with h | h
  · rw [decide_eq_true h]; rfl
  · rw [decide_eq_true h, Bool.or_true]
def fits (p : Int) : Dt → Bool
  | .int i => (decide (-big < i) && decide (i < big)) && (decide (p = 0) || (decide (0 ≤ i) && decide (i < p)))
  | _ => false
def allFit (p : Int) (n : Int) : Dt → Bool
  | .tuple ds => decide ((ds.length : Int) = n) && ds.all (fits p)
  | _ => false
def settled (p n : Int) : Int := if p ≠ 0 then n % p else n
/-- the numbers from lo on, n of them -/
def upto (lo : Int) (n : Nat) : List Int := (List.range n).map fun (i : Nat) => lo + (i : Int)
def invs (p a : Int) : List Int := (upto 1 (p - 1).toNat).filter fun o => decide (a * o % p = 1)
def inv (p a : Int) : Int := (invs p a).headD 0
def gcdI (i j : Int) : Int := ((Nat.gcd i.natAbs j.natAbs : Nat) : Int)
def gcdL : Int → List Int → Int
  | s, [] => s
  | s, n :: ns => gcdL (gcdI s n) ns
theorem gcdL_one : ∀ ns : List Int, gcdL 1 ns = 1
  | [] => rfl
  | n :: ns => by
    unfold gcdL
    have e : gcdI 1 n = 1 := by
      unfold gcdI
      show ((Nat.gcd 1 n.natAbs : Nat) : Int) = 1
      rw [Nat.gcd_one_left]
      rfl
    rw [e, gcdL_one ns]
def firstI (ns : List Int) : Int := (ns.filter fun n => !decide (n = 0)).headD 0
def made (p : Int) (ns : List Int) : List Int :=
  if p ≠ 0 then ns.map fun n => n * inv p (firstI ns) % p
  else ns.map fun n => n.fdiv (if firstI ns < 0 then -(gcdL 0 ns) else gcdL 0 ns)
/-- what made asks: a number other than 0, and its inverse -/
structure MadeOk (p : Int) (ns : List Int) : Prop where
  pr : PrimeI p
  ex : ∃ n ∈ ns, n ≠ 0
  lt : p ≠ 0 → ∀ n ∈ ns, 0 ≤ n ∧ n < p
  len : ns.length ≤ 140
  sz : ∀ n ∈ ns, n.natAbs < 2 ^ 1000
theorem gcdI_dvd (i j : Int) : gcdI i j ∣ i ∧ gcdI i j ∣ j := by
  unfold gcdI
  exact ⟨Int.ofNat_dvd_left.mpr (Nat.gcd_dvd_left _ _), Int.ofNat_dvd_left.mpr (Nat.gcd_dvd_right _ _)⟩
theorem gcdL_dvd : ∀ (ns : List Int) (s : Int), gcdL s ns ∣ s ∧ ∀ n ∈ ns, gcdL s ns ∣ n
  | [], s => ⟨Int.dvd_refl s, fun n h => by cases h⟩
  | m :: ns, s => by
    obtain ⟨h1, h2⟩ := gcdL_dvd ns (gcdI s m)
    obtain ⟨g1, g2⟩ := gcdI_dvd s m
    refine ⟨Int.dvd_trans h1 g1, fun n hn => ?_⟩
    obtain rfl | hn := List.mem_cons.mp hn
    · exact Int.dvd_trans h1 g2
    · exact h2 n hn
theorem gcdL_nn : ∀ (ns : List Int) (s : Int), 0 ≤ s → 0 ≤ gcdL s ns
  | [], s, h => h
  | m :: ns, s, _ => gcdL_nn ns (gcdI s m) (Int.natCast_nonneg _)
theorem gcdL_pos {ns : List Int} (h : ∃ n ∈ ns, n ≠ 0) : 0 < gcdL 0 ns := by
  obtain ⟨n, hn, h0⟩ := h
  have h1 := gcdL_nn ns 0 (Int.le_refl 0)
  have h2 := (gcdL_dvd ns 0).2 n hn
  rcases Int.lt_or_eq_of_le h1 with h3 | h3
  · exact h3
  · rw [← h3] at h2
    exact absurd (Int.zero_dvd.mp h2) h0
theorem gcdL_le {ns : List Int} {n : Int} (hn : n ∈ ns) (h0 : n ≠ 0) : (gcdL 0 ns).natAbs ≤ n.natAbs := by
  have h2 := (gcdL_dvd ns 0).2 n hn
  exact Nat.le_of_dvd (Int.natAbs_pos.mpr h0) (Int.natAbs_dvd_natAbs.mpr h2)
theorem first_cons {ns : List Int} (h : ∃ n ∈ ns, n ≠ 0) : ∃ rest, (ns.filter fun n => !decide (n = 0)) = firstI ns :: rest ∧ firstI ns ∈ ns ∧ firstI ns ≠ 0 := by
  obtain ⟨n, hn, h0⟩ := h
  have hm : n ∈ ns.filter fun n => !decide (n = 0) := List.mem_filter.mpr ⟨hn, by simp [h0]⟩
  unfold firstI
  cases e : ns.filter fun n => !decide (n = 0) with
  | nil => rw [e] at hm; cases hm
  | cons m rest =>
    have h1 : m ∈ ns.filter fun n => !decide (n = 0) := by rw [e]; exact List.mem_cons_self
    obtain ⟨h2, h3⟩ := List.mem_filter.mp h1
    exact ⟨rest, rfl, h2, by simpa using h3⟩
theorem inv_all : ∀ p ∈ primes, ∀ a ∈ upto 1 (p - 1).toNat, (invs p a).isEmpty = false := by decide +kernel
theorem mem_upto {lo a : Int} {n : Nat} (h1 : lo ≤ a) (h2 : a < lo + n) : a ∈ upto lo n := by
  unfold upto
  exact List.mem_map.mpr ⟨(a - lo).toNat, List.mem_range.mpr (by omega), by omega⟩
theorem inv_cons {p a : Int} (hp : PrimeI p) (h0 : p ≠ 0) (h1 : 0 < a) (h2 : a < p) : ∃ rest, invs p a = inv p a :: rest := by
  rcases hp with rfl | hp
  · exact absurd rfl h0
  · have := inv_all p hp a (mem_upto (by omega) (by omega))
    unfold inv
    cases e : invs p a with
    | nil => rw [e] at this; cases this
    | cons b rest => exact ⟨rest, rfl⟩
theorem inv_lt {p a : Int} (hp : PrimeI p) (h0 : p ≠ 0) (h1 : 0 < a) (h2 : a < p) : 1 ≤ inv p a ∧ inv p a < p ∧ a * inv p a % p = 1 := by
  obtain ⟨rest, e⟩ := inv_cons hp h0 h1 h2
  have hm : inv p a ∈ invs p a := by rw [e]; exact List.mem_cons_self
  obtain ⟨h3, h4⟩ := List.mem_filter.mp hm
  obtain ⟨i, hi, hj⟩ := List.mem_map.mp h3
  have := List.mem_range.mp hi
  have := hp.small
  refine ⟨by omega, by omega, of_decide_eq_true h4⟩
theorem log_lt {n : Nat} (h : n < 2 ^ 1000) : n.log2 < 9000 := by
  by_cases z : n = 0
  · subst z; decide
  · have := (Nat.log2_lt z).mpr h
    omega
theorem MadeOk.first {p : Int} {ns : List Int} (h : MadeOk p ns) (h0 : p ≠ 0) : 0 < firstI ns ∧ firstI ns < p := by
  obtain ⟨_, _, h1, h2⟩ := first_cons h.ex
  have := h.lt h0 _ h1
  omega
end Num
/-! ## NumN -/
set_option linter.all false
/-! Normal triples, crosses: the numbers. -/
namespace Num
open PySem
def toI : Dt → Int
  | .int i => i
  | _ => 0
theorem map_toI (ns : List Int) : (ns.map PyData.int).map toI = ns := by
  rw [List.map_map]
  exact List.map_id ns
theorem allFit_ints {p n : Int} : ∀ {ds : List Dt}, allFit p n (.tuple ds) = true → ∃ ns : List Int, ds = ns.map PyData.int ∧ (ns.length : Int) = n ∧ ∀ m ∈ ns, (-big < m ∧ m < big) ∧ (p = 0 ∨ (0 ≤ m ∧ m < p)) := by
  intro ds h
  have h : (decide ((ds.length : Int) = n) && ds.all (fits p)) = true := h
  obtain ⟨h1, h2⟩ := Bool.and_eq_true_iff.mp h
  have h1 := of_decide_eq_true h1
  have q : ∀ ds : List Dt, ds.all (fits p) = true → ∃ ns : List Int, ds = ns.map PyData.int ∧ ∀ m ∈ ns, (-big < m ∧ m < big) ∧ (p = 0 ∨ (0 ≤ m ∧ m < p)) := by
    intro ds
    induction ds with
    | nil => exact fun _ => ⟨[], rfl, fun m h => by cases h⟩
    | cons d ds ih =>
      intro h
      rw [List.all_cons] at h
      obtain ⟨a1, a2⟩ := Bool.and_eq_true_iff.mp h
      obtain ⟨ns, rfl, hn⟩ := ih a2
      cases d with
      | int i =>
        refine ⟨i :: ns, rfl, fun m hm => ?_⟩
        obtain rfl | hm := List.mem_cons.mp hm
        · have a1 : ((decide (-big < m) && decide (m < big)) && (decide (p = 0) || (decide (0 ≤ m) && decide (m < p)))) = true := a1
          simp only [Bool.and_eq_true, Bool.or_eq_true, decide_eq_true_eq] at a1
          exact a1
        · exact hn m hm
      | _ => cases a1
  obtain ⟨ns, rfl, hn⟩ := q ds h2
  exact ⟨ns, rfl, by rw [List.length_map] at h1; exact h1, hn⟩
theorem allFit_of {p n : Int} {ns : List Int} (h1 : (ns.length : Int) = n) (h2 : ∀ m ∈ ns, (-big < m ∧ m < big) ∧ (p = 0 ∨ (0 ≤ m ∧ m < p))) : allFit p n (.tuple (ns.map PyData.int)) = true := by
  show (decide (((ns.map PyData.int).length : Int) = n) && (ns.map PyData.int).all (fits p)) = true
  rw [List.length_map, decide_eq_true h1, Bool.true_and, List.all_eq_true]
  intro d hd
  obtain ⟨m, hm, rfl⟩ := List.mem_map.mp hd
  show ((decide (-big < m) && decide (m < big)) && (decide (p = 0) || (decide (0 ≤ m) && decide (m < p)))) = true
  simp only [Bool.and_eq_true, Bool.or_eq_true, decide_eq_true_eq]
  exact h2 m hm
/-- a normal triple, of ints -/
def normI (p : Int) (ns : List Int) : Bool := allFit p 3 (.tuple (ns.map PyData.int)) && ns.any (· != 0) && decide (made p ns = ns)
def isNormal (p : Int) : Dt → Bool
  | .tuple ds => allFit p 3 (.tuple ds) && (ds.map toI).any (· != 0) && decide (made p (ds.map toI) = ds.map toI)
  | _ => false
theorem isNormal_ints (p : Int) (ns : List Int) : isNormal p (.tuple (ns.map PyData.int)) = normI p ns := by
  show (allFit p 3 (.tuple (ns.map PyData.int)) && ((ns.map PyData.int).map toI).any (· != 0) && decide (made p ((ns.map PyData.int).map toI) = (ns.map PyData.int).map toI)) = _
  rw [map_toI]
  rfl
def smallL (ns : List Int) : Bool := ns.all fun n => decide (n.natAbs ≤ 1000)
def isLine (p : Int) : Dt → Bool
  | .tuple ds => isNormal p (.tuple ds) && smallL (ds.map toI)
  | _ => false
def lineI (p : Int) (ns : List Int) : Bool := normI p ns && smallL ns
theorem isLine_ints (p : Int) (ns : List Int) : isLine p (.tuple (ns.map PyData.int)) = lineI p ns := by
  show (isNormal p (.tuple (ns.map PyData.int)) && smallL ((ns.map PyData.int).map toI)) = _
  rw [isNormal_ints, map_toI]
  rfl
theorem any_ex {ns : List Int} : ns.any (· != 0) = true ↔ ∃ n ∈ ns, n ≠ 0 := by
  rw [List.any_eq_true]
  constructor
  · rintro ⟨n, h1, h2⟩; exact ⟨n, h1, by simpa using h2⟩
  · rintro ⟨n, h1, h2⟩; exact ⟨n, h1, by simpa using h2⟩
theorem big_lt {m : Int} (h : -big < m ∧ m < big) : m.natAbs < 2 ^ 200 := by
  unfold big at h
  have : m.natAbs < 1000000000000000000000000000000000000000000000000000000000000 := by omega
  exact Nat.lt_trans this (by decide)
theorem up1000 {n : Nat} (h : n < 2 ^ 200) : n < 2 ^ 1000 := Nat.lt_of_lt_of_le h (Nat.pow_le_pow_right (by decide) (by decide))
theorem madeOk_fit {p : Int} {ns : List Int} (hp : PrimeI p) (h : allFit p 3 (.tuple (ns.map PyData.int)) = true) (ha : ns.any (· != 0) = true) : MadeOk p ns := by
  obtain ⟨ms, e, hl, hm⟩ := allFit_ints h
  have e : ns = ms := by
    have := congrArg (List.map toI) e
    rw [map_toI, map_toI] at this
    exact this
  subst e
  refine ⟨hp, any_ex.mp ha, fun h0 n hn => ?_, by omega, fun n hn => up1000 (big_lt (hm n hn).1)⟩
  rcases (hm n hn).2 with h | h
  · exact absurd h h0
  · exact h
/-- what a normal triple is -/
structure NT (p : Int) (ns : List Int) : Prop where
  ok : MadeOk p ns
  len : ns.length = 3
  fit : allFit p 3 (.tuple (ns.map PyData.int)) = true
  sz : ∀ n ∈ ns, -big < n ∧ n < big
  eq : made p ns = ns
theorem NT.of {p : Int} {ns : List Int} (hp : PrimeI p) (h : normI p ns = true) : NT p ns := by
  unfold normI at h
  obtain ⟨h1, h3⟩ := Bool.and_eq_true_iff.mp h
  obtain ⟨h1, h2⟩ := Bool.and_eq_true_iff.mp h1
  obtain ⟨ms, e, hl, hm⟩ := allFit_ints h1
  have e : ns = ms := by
    have := congrArg (List.map toI) e
    rw [map_toI, map_toI] at this
    exact this
  subst e
  exact ⟨madeOk_fit hp h1 h2, by omega, h1, fun n hn => (hm n hn).1, of_decide_eq_true h3⟩
theorem NT.to {p : Int} {ns : List Int} (h : NT p ns) : normI p ns = true := by
  unfold normI
  rw [h.fit, any_ex.mpr h.ok.ex, decide_eq_true h.eq]
  rfl
theorem NT.cons {p : Int} {ns : List Int} (h : NT p ns) : ∃ a b c, ns = [a, b, c] := by
  have hl := h.len
  match ns, hl with
  | [a, b, c], _ => exact ⟨a, b, c, rfl⟩
def dot (x y : List Int) : Int := ((x.zip y).map fun q => q.1 * q.2).sum
/-- the cross of two triples -/
def crossI : List Int → List Int → List Int
  | [a, b, c], [d, e, f] => [b * f - c * e, c * d - a * f, a * e - b * d]
  | _, _ => []
/-! ### multiples -/
def gN : Nat → List Int → Nat
  | s, [] => s
  | s, n :: ns => gN (Nat.gcd s n.natAbs) ns
theorem gcdL_nat : ∀ (ns : List Int) (s : Nat), gcdL (s : Int) ns = ((gN s ns : Nat) : Int)
  | [], s => rfl
  | n :: ns, s => by
    show gcdL (gcdI (s : Int) n) ns = _
    have e : gcdI (s : Int) n = ((Nat.gcd s n.natAbs : Nat) : Int) := rfl
    rw [e, gcdL_nat ns]
    rfl
theorem gN_mul (k : Int) : ∀ (ns : List Int) (s : Nat), gN (k.natAbs * s) (ns.map fun n => k * n) = k.natAbs * gN s ns
  | [], s => rfl
  | n :: ns, s => by
    show gN (Nat.gcd (k.natAbs * s) (k * n).natAbs) (ns.map fun n => k * n) = k.natAbs * gN (Nat.gcd s n.natAbs) ns
    rw [Int.natAbs_mul, Nat.gcd_mul_left, gN_mul k ns]
theorem gcdL_mul (k : Int) (ns : List Int) : gcdL 0 (ns.map fun n => k * n) = (k.natAbs : Int) * gcdL 0 ns := by
  have h1 := gcdL_nat (ns.map fun n => k * n) 0
  have h2 := gcdL_nat ns 0
  have h3 := gN_mul k ns 0
  rw [Nat.mul_zero] at h3
  have h1 : gcdL 0 (ns.map fun n => k * n) = ((gN 0 (ns.map fun n => k * n) : Nat) : Int) := h1
  have h2 : gcdL 0 ns = ((gN 0 ns : Nat) : Int) := h2
  rw [h1, h2, h3, Int.natCast_mul]
theorem first_map (f : Int → Int) : ∀ {ns : List Int}, (∀ n ∈ ns, f n = 0 ↔ n = 0) → f 0 = 0 → firstI (ns.map f) = f (firstI ns)
  | [], _, h0 => h0.symm
  | n :: ns, h, h0 => by
    have ih := first_map f (ns := ns) (fun m hm => h m (List.mem_cons_of_mem _ hm)) h0
    unfold firstI at ih ⊢
    rw [List.map_cons, List.filter_cons, List.filter_cons]
    by_cases z : n = 0
    · have z' := (h n List.mem_cons_self).mpr z
      simp only [z, z', h0, decide_true, Bool.not_true, Bool.false_eq_true, if_false]
      exact ih
    · have z' : ¬ f n = 0 := fun e => z ((h n List.mem_cons_self).mp e)
      simp only [z, z', decide_false, Bool.not_false, if_true]
      rfl
theorem made_zero (ns : List Int) : made 0 ns = ns.map fun n => n.fdiv (if firstI ns < 0 then -(gcdL 0 ns) else gcdL 0 ns) := if_neg (by decide)
theorem made0_mul {k : Int} (hk : k ≠ 0) {ns : List Int} (hx : ∃ n ∈ ns, n ≠ 0) : made 0 (ns.map fun n => k * n) = made 0 ns := by
  rw [made_zero, made_zero, gcdL_mul, first_map (fun n => k * n) (fun n _ => ⟨fun h => (Int.mul_eq_zero.mp h).resolve_left hk, fun h => by rw [h]; exact Int.mul_zero k⟩) (Int.mul_zero k), List.map_map]
  obtain ⟨_, _, _, hf⟩ := first_cons hx
  have hg := gcdL_pos hx
  refine List.map_congr_left fun n hn => ?_
  obtain ⟨q, hq⟩ := (gcdL_dvd ns 0).2 n hn
  generalize gcdL 0 ns = g at *
  generalize firstI ns = f at *
  show (k * n).fdiv (if k * f < 0 then -((k.natAbs : Int) * g) else (k.natAbs : Int) * g) = n.fdiv (if f < 0 then -g else g)
  have e : (if k * f < 0 then -((k.natAbs : Int) * g) else (k.natAbs : Int) * g) = k * (if f < 0 then -g else g) := by
    rcases Int.lt_or_gt_of_ne hk with h1 | h1
    · have ha : (k.natAbs : Int) = -k := by omega
      rcases Int.lt_or_gt_of_ne hf with h2 | h2
      · have h3 : ¬ k * f < 0 := by have := Int.mul_pos_of_neg_of_neg h1 h2; omega
        rw [if_neg h3, if_pos h2, ha]
        grind
      · have h3 : k * f < 0 := Int.mul_neg_of_neg_of_pos h1 h2
        rw [if_pos h3, if_neg (by omega), ha]
        grind
    · have ha : (k.natAbs : Int) = k := by omega
      rcases Int.lt_or_gt_of_ne hf with h2 | h2
      · have h3 : k * f < 0 := Int.mul_neg_of_pos_of_neg h1 h2
        rw [if_pos h3, if_pos h2, ha]
        grind
      · have h3 : ¬ k * f < 0 := by have := Int.mul_pos h1 h2; omega
        rw [if_neg h3, if_neg (by omega), ha]
  rw [e]
  have hs : (if f < 0 then -g else g) ≠ 0 := by split <;> omega
  have e2 : ∃ q', n = (if f < 0 then -g else g) * q' := by
    split
    · exact ⟨-q, by rw [hq]; grind⟩
    · exact ⟨q, hq⟩
  generalize (if f < 0 then -g else g) = s at *
  obtain ⟨q', rfl⟩ := e2
  rw [← Int.mul_assoc, Int.mul_fdiv_cancel_left _ (Int.mul_ne_zero hk hs), Int.mul_fdiv_cancel_left _ hs]
theorem prime_pos {p : Int} (hp : PrimeI p) (h0 : p ≠ 0) : 2 ≤ p ∧ p ≤ 19 := by
  rcases hp with h | h
  · exact absurd h h0
  · unfold primes at h
    simp only [List.mem_cons, or_false, List.not_mem_nil] at h
    omega
theorem inv_mod {p a : Int} (hp : PrimeI p) (h0 : p ≠ 0) (ha : a % p ≠ 0) : ∃ i q, 1 ≤ i ∧ i < p ∧ a * i = 1 + p * q ∧ inv p (a % p) = i := by
  have h2 := prime_pos hp h0
  have h3 : 0 ≤ a % p := Int.emod_nonneg _ (by omega)
  have h4 : a % p < p := Int.emod_lt_of_pos _ (by omega)
  obtain ⟨i1, i2, i3⟩ := inv_lt hp h0 (a := a % p) (by omega) h4
  have h5 := Int.emod_add_mul_ediv (a % p * inv p (a % p)) p
  have h6 := Int.emod_add_mul_ediv a p
  generalize inv p (a % p) = i at *
  refine ⟨i, a % p * i / p + a / p * i, i1, i2, ?_, rfl⟩
  rw [i3] at h5
  generalize a % p * i / p = u at *
  generalize a / p = v at *
  generalize a % p = w at *
  grind
theorem mul_zero_mod {p a b : Int} (hp : PrimeI p) (h0 : p ≠ 0) (ha : a % p ≠ 0) (h : a * b % p = 0) : b % p = 0 := by
  obtain ⟨i, q, _, _, e, _⟩ := inv_mod hp h0 ha
  obtain ⟨r, hr⟩ := Int.dvd_of_emod_eq_zero h
  refine Int.emod_eq_zero_of_dvd ⟨i * r - q * b, ?_⟩
  grind
theorem emod_eq_of {p a b c : Int} (h : a = b + p * c) : a % p = b % p := by
  rw [h, Int.add_mul_emod_self_left]
theorem madeP_mul {p k : Int} (hp : PrimeI p) (h0 : p ≠ 0) (hk : k % p ≠ 0) {ns : List Int} (hb : ∀ n ∈ ns, 0 ≤ n ∧ n < p) (hx : ∃ n ∈ ns, n ≠ 0) : made p (ns.map fun n => k * n % p) = made p ns := by
  have h2 := prime_pos hp h0
  have hz : ∀ n ∈ ns, k * n % p = 0 ↔ n = 0 := fun n hn => by
    have := hb n hn
    constructor
    · intro h
      have := mul_zero_mod hp h0 hk h
      rw [Int.emod_eq_of_lt (by omega) (by omega)] at this
      exact this
    · rintro rfl
      simp
  obtain ⟨_, _, hm, hf⟩ := first_cons hx
  have hfb := hb _ hm
  have hfz := hz _ hm
  unfold made
  rw [if_pos h0, if_pos h0, first_map (fun n => k * n % p) hz (by simp), List.map_map]
  generalize firstI ns = f at *
  have hkf : (k * f) % p ≠ 0 := fun z => hf (hfz.mp z)
  have hff : f % p = f := Int.emod_eq_of_lt (by omega) (by omega)
  obtain ⟨i, q, _, _, e1, e2⟩ := inv_mod hp h0 (a := f) (by rw [hff]; exact hf)
  obtain ⟨j, r, _, _, e3, e4⟩ := inv_mod hp h0 hkf
  rw [hff] at e2
  refine List.map_congr_left fun n hn => ?_
  show k * n % p * inv p (k * f % p) % p = n * inv p f % p
  rw [e2, e4]
  have h6 := Int.emod_add_mul_ediv (k * n) p
  generalize k * n % p = u at *
  generalize k * n / p = v at *
  exact emod_eq_of (c := n * i * r - k * n * j * q - v * j) (by grind)
/-- two normal tuples of which one is a multiple of the other are one -/
def low (p : Int) (n : Int) : Int := settled p n
theorem made_low {p k : Int} (hp : PrimeI p) (hk : settled p k ≠ 0) {ns : List Int} (hb : p ≠ 0 → ∀ n ∈ ns, 0 ≤ n ∧ n < p) (hx : ∃ n ∈ ns, n ≠ 0) : made p (ns.map fun n => settled p (k * n)) = made p ns := by
  by_cases h0 : p = 0
  · subst h0
    have e : settled 0 k = k := rfl
    rw [e] at hk
    exact made0_mul hk hx
  · have e : ∀ n, settled p n = n % p := fun n => by unfold settled; rw [if_pos h0]
    simp only [e] at hk ⊢
    exact madeP_mul hp h0 hk (hb h0) hx
theorem settled_sub {p a b : Int} (h : settled p (a - b) = 0) : settled p a = settled p b := by
  unfold settled at h ⊢
  split
  · rename_i h0
    rw [if_pos h0] at h
    exact Int.emod_eq_emod_iff_emod_sub_eq_zero.mpr h
  · rename_i h0
    rw [if_neg h0] at h
    omega
theorem settled_mul {p a b : Int} (hp : PrimeI p) (ha : settled p a ≠ 0) (h : settled p (a * b) = 0) : settled p b = 0 := by
  unfold settled at ha h ⊢
  split
  · rename_i h0
    rw [if_pos h0] at ha h
    exact mul_zero_mod hp h0 ha h
  · rename_i h0
    rw [if_neg h0] at ha h
    rcases Int.mul_eq_zero.mp h with h | h
    · exact absurd h ha
    · exact h
theorem settled_id {p : Int} {ns : List Int} (h : MadeOk p ns) {n : Int} (hn : n ∈ ns) : settled p n = n := by
  unfold settled
  split
  · rename_i h0
    have := h.lt h0 n hn
    exact Int.emod_eq_of_lt (by omega) (by omega)
  · rfl
/-- normal triples whose cross is zero are one -/
theorem cross_zero {p : Int} {x y : List Int} (hx : NT p x) (hy : NT p y) (h : ∀ n ∈ crossI x y, settled p n = 0) : x = y := by
  obtain ⟨a, b, c, rfl⟩ := hx.cons
  obtain ⟨d, e, f, rfl⟩ := hy.cons
  have hp := hx.ok.pr
  have h1 : settled p (b * f) = settled p (c * e) := settled_sub (h _ (by simp [crossI]))
  have h2 : settled p (c * d) = settled p (a * f) := settled_sub (h _ (by simp [crossI]))
  have h3 : settled p (a * e) = settled p (b * d) := settled_sub (h _ (by simp [crossI]))
  have sx : ∀ n ∈ [a, b, c], settled p n = n := fun n hn => settled_id hx.ok hn
  have sy : ∀ n ∈ [d, e, f], settled p n = n := fun n hn => settled_id hy.ok hn
  have sz : settled p 0 = 0 := by unfold settled; split <;> simp
  have key : ∀ (k l : Int), settled p k ≠ 0 → (∀ v ∈ [(a, d), (b, e), (c, f)], settled p (k * v.2) = settled p (l * v.1)) → l ∈ [d, e, f] → k ∈ [a, b, c] → [a, b, c] = [d, e, f] := by
    intro k l hk hv hl hkm
    have e1 := hv (a, d) (by simp)
    have e2 := hv (b, e) (by simp)
    have e3 := hv (c, f) (by simp)
    have hl0 : settled p l ≠ 0 := by
      intro hl0
      have l0 : l = 0 := by rw [sy l hl] at hl0; exact hl0
      subst l0
      simp only [Int.zero_mul, sz] at e1 e2 e3
      obtain ⟨n, hn, hz⟩ := hy.ok.ex
      have q1 := settled_mul hp hk e1
      have q2 := settled_mul hp hk e2
      have q3 := settled_mul hp hk e3
      rw [sy d (by simp)] at q1
      rw [sy e (by simp)] at q2
      rw [sy f (by simp)] at q3
      simp only [List.mem_cons, or_false, List.not_mem_nil] at hn
      rcases hn with rfl | rfl | rfl
      · exact hz q1
      · exact hz q2
      · exact hz q3
    have m1 := made_low hp hk (ns := [d, e, f]) hy.ok.lt hy.ok.ex
    have m2 := made_low hp hl0 (ns := [a, b, c]) hx.ok.lt hx.ok.ex
    rw [hy.eq] at m1
    rw [hx.eq] at m2
    rw [← m1, ← m2]
    congr 1
    show [settled p (l * a), settled p (l * b), settled p (l * c)] = [settled p (k * d), settled p (k * e), settled p (k * f)]
    rw [e1, e2, e3]
  obtain ⟨n, hn, hz⟩ := hx.ok.ex
  have hs : settled p n ≠ 0 := by rw [sx n hn]; exact hz
  simp only [List.mem_cons, or_false, List.not_mem_nil] at hn
  rcases hn with rfl | rfl | rfl
  · refine key n d hs (fun v hv => ?_) (by simp) (by simp)
    simp only [List.mem_cons, or_false, List.not_mem_nil] at hv
    rcases hv with rfl | rfl | rfl
    · show settled p (n * d) = settled p (d * n)
      rw [Int.mul_comm]
    · show settled p (n * e) = settled p (d * b)
      rw [h3, Int.mul_comm]
    · show settled p (n * f) = settled p (d * c)
      rw [← h2, Int.mul_comm]
  · refine key n e hs (fun v hv => ?_) (by simp) (by simp)
    simp only [List.mem_cons, or_false, List.not_mem_nil] at hv
    rcases hv with rfl | rfl | rfl
    · show settled p (n * d) = settled p (e * a)
      rw [← h3, Int.mul_comm]
    · show settled p (n * e) = settled p (e * n)
      rw [Int.mul_comm]
    · show settled p (n * f) = settled p (e * c)
      rw [h1, Int.mul_comm]
  · refine key n f hs (fun v hv => ?_) (by simp) (by simp)
    simp only [List.mem_cons, or_false, List.not_mem_nil] at hv
    rcases hv with rfl | rfl | rfl
    · show settled p (n * d) = settled p (f * a)
      rw [h2, Int.mul_comm]
    · show settled p (n * e) = settled p (f * b)
      rw [← h1, Int.mul_comm]
    · show settled p (n * f) = settled p (f * n)
      rw [Int.mul_comm]
theorem cross_len {p : Int} {x y : List Int} (hx : NT p x) (hy : NT p y) : (crossI x y).length = 3 := by
  obtain ⟨a, b, c, rfl⟩ := hx.cons
  obtain ⟨d, e, f, rfl⟩ := hy.cons
  rfl
theorem mul_sz {a b : Int} (ha : a.natAbs < 2 ^ 200) (hb : b.natAbs < 2 ^ 200) : (a * b).natAbs < 2 ^ 400 := by
  rw [Int.natAbs_mul, show (400 : Nat) = 200 + 200 from rfl, Nat.pow_add]
  exact Nat.mul_lt_mul'' ha hb
theorem sub_sz {a b : Int} (ha : a.natAbs < 2 ^ 400) (hb : b.natAbs < 2 ^ 400) : (a - b).natAbs < 2 ^ 401 := by
  have : (2 : Nat) ^ 401 = 2 ^ 400 + 2 ^ 400 := by rw [show (401 : Nat) = 400 + 1 from rfl, Nat.pow_succ]; omega
  generalize (2 : Nat) ^ 400 = z at *
  omega
theorem cross_sz {p : Int} {x y : List Int} (hx : NT p x) (hy : NT p y) : ∀ n ∈ crossI x y, n.natAbs < 2 ^ 401 := by
  have sx := fun n hn => big_lt (hx.sz n hn)
  have sy := fun n hn => big_lt (hy.sz n hn)
  obtain ⟨a, b, c, rfl⟩ := hx.cons
  obtain ⟨d, e, f, rfl⟩ := hy.cons
  intro n hn
  simp only [crossI, List.mem_cons, List.not_mem_nil, or_false] at hn
  rcases hn with rfl | rfl | rfl
  all_goals exact sub_sz (mul_sz (sx _ (by simp)) (sy _ (by simp))) (mul_sz (sx _ (by simp)) (sy _ (by simp)))
theorem settled_sz {p n : Int} {k : Nat} (hp : PrimeI p) (h : n.natAbs < 2 ^ k) (hk : 5 ≤ k) : (settled p n).natAbs < 2 ^ k := by
  unfold settled
  split
  · rename_i h0
    have h2 := prime_pos hp h0
    have h3 : 0 ≤ n % p := Int.emod_nonneg _ (by omega)
    have h4 : n % p < p := Int.emod_lt_of_pos _ (by omega)
    have h5 : 2 ^ 5 ≤ 2 ^ k := Nat.pow_le_pow_right (by decide) hk
    have : (2 : Nat) ^ 5 = 32 := by decide
    omega
  · exact h
theorem settled_rng {p n : Int} (hp : PrimeI p) (h0 : p ≠ 0) : 0 ≤ settled p n ∧ settled p n < p := by
  have h2 := prime_pos hp h0
  unfold settled
  rw [if_pos h0]
  exact ⟨Int.emod_nonneg _ (by omega), Int.emod_lt_of_pos _ (by omega)⟩
/-- the numbers of a cross, over the prime -/
def crossS (p : Int) (x y : List Int) : List Int := (crossI x y).map (settled p)
theorem cross_ok {p : Int} {x y : List Int} (hx : NT p x) (hy : NT p y) (hn : x ≠ y) : MadeOk p (crossS p x y) := by
  have hp := hx.ok.pr
  refine ⟨hp, ?_, fun h0 n hn' => ?_, by unfold crossS; rw [List.length_map, cross_len hx hy]; decide, fun n hn' => ?_⟩
  · by_cases z : ∀ n ∈ crossI x y, settled p n = 0
    · exact absurd (cross_zero hx hy z) hn
    · obtain ⟨n, h1⟩ := Classical.not_forall.mp z
      obtain ⟨h2, h3⟩ := Classical.not_imp.mp h1
      exact ⟨_, List.mem_map_of_mem h2, h3⟩
  · obtain ⟨m, hm, rfl⟩ := List.mem_map.mp hn'
    exact settled_rng hp h0
  · obtain ⟨m, hm, rfl⟩ := List.mem_map.mp hn'
    exact Nat.lt_of_lt_of_le (settled_sz hp (cross_sz hx hy m hm) (by decide)) (Nat.pow_le_pow_right (by decide) (by decide))
def absI (n : Int) : Int := ((n.natAbs : Nat) : Int)
theorem max_ex : ∀ {ns : List Int}, ns ≠ [] → ∃ M ∈ ns, ∀ n ∈ ns, n ≤ M
  | [], h => absurd rfl h
  | [n], _ => ⟨n, List.mem_cons_self, fun m hm => by simp at hm; omega⟩
  | n :: m :: ns, _ => by
    obtain ⟨M, h1, h2⟩ := max_ex (ns := m :: ns) (by simp)
    by_cases z : n ≤ M
    · refine ⟨M, List.mem_cons_of_mem _ h1, fun k hk => ?_⟩
      obtain rfl | hk := List.mem_cons.mp hk
      · exact z
      · exact h2 k hk
    · refine ⟨n, List.mem_cons_self, fun k hk => ?_⟩
      obtain rfl | hk := List.mem_cons.mp hk
      · omega
      · have := h2 k hk; omega
theorem max_small {ns : List Int} {M : Int} (hM : M ∈ ns.map absI) (hg : ∀ n ∈ ns.map absI, n ≤ M) : decide (M ≤ 1000) = smallL ns := by
  unfold smallL
  rw [Bool.eq_iff_iff, decide_eq_true_eq, List.all_eq_true]
  constructor
  · intro h n hn
    have := hg _ (List.mem_map_of_mem hn)
    unfold absI at this
    apply decide_eq_true; omega
  · intro h
    obtain ⟨n, hn, rfl⟩ := List.mem_map.mp hM
    have := of_decide_eq_true (h n hn)
    unfold absI
    omega
theorem made_len (p : Int) (ns : List Int) : (made p ns).length = ns.length := by
  unfold made
  split <;> rw [List.length_map]
theorem isNormal_no {p : Int} {ds : List Dt} (h : allFit p 3 (.tuple ds) = false) : isNormal p (.tuple ds) = false := by
  show (allFit p 3 (.tuple ds) && (ds.map toI).any (· != 0) && decide (made p (ds.map toI) = ds.map toI)) = false
  rw [h]
  rfl
theorem isLine_no {p : Int} {ds : List Dt} (h : isNormal p (.tuple ds) = false) : isLine p (.tuple ds) = false := by
  show (isNormal p (.tuple ds) && smallL (ds.map toI)) = false
  rw [h]
  rfl
end Num
/-! ## NumL -/
set_option linter.all false
/-! What the law reckons: its own draws and normal triples, mirrored. -/
namespace Num
open PySem
def grabF (t : Int) : List Int → Int × List Int
  | [a, m, c] => if 0 < a then (a % t, [a.fdiv t, m, c]) else
      let o := (m + 1048627 * (c + 1)) % 2305843009213693951
      ((((o * o % 2305843009213693723 * o + 8147 * (c + 1)) % 2305843009213693921).fdiv 16384) % t, [a, m, c + 1])
  | ns => (0, ns)
structure BagI (n : Int) (ns : List Int) : Prop where
  ex : ∃ a m c, ns = [a, m, c] ∧ 0 ≤ a ∧ a.natAbs < 2 ^ 3000 ∧ 0 ≤ m ∧ m < 2305843009213693951 ∧ 0 ≤ c ∧ c ≤ n
theorem BagI.mono {n k : Int} {ns : List Int} (h : BagI n ns) (hk : n ≤ k) : BagI k ns := by
  obtain ⟨a, m, c, e, h1, h2, h3, h4, h5, h6⟩ := h.ex
  exact ⟨a, m, c, e, h1, h2, h3, h4, h5, by omega⟩
theorem grab_rng {t : Int} (ht : 0 < t) (ns : List Int) : 0 ≤ (grabF t ns).1 ∧ (grabF t ns).1 < t := by
  unfold grabF
  split
  · split
    · exact ⟨Int.emod_nonneg _ (by omega), Int.emod_lt_of_pos _ ht⟩
    · exact ⟨Int.emod_nonneg _ (by omega), Int.emod_lt_of_pos _ ht⟩
  · exact ⟨Int.le_refl 0, ht⟩
theorem grab_bag {t n : Int} (ht : 0 < t) {ns : List Int} (h : BagI n ns) : BagI (n + 1) (grabF t ns).2 := by
  obtain ⟨a, m, c, rfl, h1, h2, h3, h4, h5, h6⟩ := h.ex
  unfold grabF
  split
  · rename_i a' m' c' e
    cases e
    split
    · refine ⟨_, _, _, rfl, ?_, ?_, h3, h4, h5, by omega⟩
      · rw [Int.fdiv_eq_ediv_of_nonneg _ (by omega)]; exact Int.ediv_nonneg h1 (by omega)
      · rw [Int.fdiv_eq_ediv_of_nonneg _ (by omega)]
        refine Nat.lt_of_le_of_lt ?_ h2
        have e1 := Int.ediv_nonneg h1 (show 0 ≤ t by omega)
        have e2 := Int.ediv_le_self t h1
        omega
    · exact ⟨_, _, _, rfl, h1, h2, h3, h4, by omega, by omega⟩
  · rename_i hne
    exact absurd rfl (hne a m c)
def oneF (xs : List Int) (ns : List Int) : Int × List Int := (xs.getD (grabF xs.length ns).1.toNat 0, (grabF xs.length ns).2)
theorem one_mem {xs : List Int} (h : xs ≠ []) (ns : List Int) : (oneF xs ns).1 ∈ xs := by
  have hl : 0 < xs.length := List.length_pos_iff.mpr h
  have hg := grab_rng (t := xs.length) (by omega) ns
  unfold oneF
  have : (grabF xs.length ns).1.toNat < xs.length := by omega
  show xs.getD _ 0 ∈ xs
  rw [List.getD_eq_getElem?_getD, List.getElem?_eq_getElem this]
  exact List.getElem_mem this
theorem one_bag {xs : List Int} (h : xs ≠ []) {n : Int} {ns : List Int} (hb : BagI n ns) : BagI (n + 1) (oneF xs ns).2 := grab_bag (by have := List.length_pos_iff.mpr h; omega) hb
def drawnPrimes : List Int := [0, 0, 0, 2, 3, 5, 7, 0, 11, 0]
def primeF (ns : List Int) : Int × List Int := oneF drawnPrimes ns
theorem primeF_ok (ns : List Int) : PrimeI (primeF ns).1 := by
  have h := one_mem (xs := drawnPrimes) (by decide) ns
  show PrimeI (oneF drawnPrimes ns).1
  generalize (oneF drawnPrimes ns).1 = q at *
  unfold drawnPrimes at h
  simp only [List.mem_cons, or_false, List.not_mem_nil] at h
  unfold PrimeI primes
  simp only [List.mem_cons, List.not_mem_nil, or_false]
  omega
def allZero (ns : List Int) : Bool := ns.all fun n => decide (n = 0)
/-- the law's normal tuple -/
def normalF (p : Int) (ns : List Int) : List Int :=
  if allZero (ns.map (settled p)) then ns.map (settled p) else made p (ns.map (settled p))
theorem allZero_ex {ns : List Int} (h : allZero ns = false) : ∃ n ∈ ns, n ≠ 0 := by
  unfold allZero at h
  rw [List.all_eq_false] at h
  obtain ⟨n, h1, h2⟩ := h
  exact ⟨n, h1, by simpa using h2⟩
theorem allZero_filter {ns : List Int} : (ns.filter fun n => !decide (n = 0)) = [] ↔ allZero ns = true := by
  rw [List.filter_eq_nil_iff]
  unfold allZero
  rw [List.all_eq_true]
  constructor
  · intro h n hn; have := h n hn; simpa using this
  · intro h n hn; have := h n hn; simpa using this
theorem told_ok {p : Int} {ns : List Int} (hp : PrimeI p) (hl : ns.length ≤ 140) (hs : ∀ n ∈ ns, n.natAbs < 2 ^ 1000) (h : allZero (ns.map (settled p)) = false) : MadeOk p (ns.map (settled p)) := by
  refine ⟨hp, allZero_ex h, fun h0 n hn => ?_, by rw [List.length_map]; exact hl, fun n hn => ?_⟩
  · obtain ⟨m, _, rfl⟩ := List.mem_map.mp hn
    exact settled_rng hp h0
  · obtain ⟨m, hm, rfl⟩ := List.mem_map.mp hn
    exact settled_sz hp (hs m hm) (by decide)
theorem normalF_len (p : Int) (ns : List Int) : (normalF p ns).length = ns.length := by
  unfold normalF
  split
  · rw [List.length_map]
  · rw [made_len, List.length_map]
def crossF (p : Int) (x y : List Int) : List Int := normalF p (crossI x y)
def numberF (p s : Int) (ns : List Int) : Int × List Int :=
  if p = 0 then ((grabF (2 * s + 1) ns).1 - s, (grabF (2 * s + 1) ns).2) else grabF p ns
/-- n draws, one behind the other -/
def drawsF (f : List Int → Int × List Int) : Nat → List Int → List Int × List Int
  | 0, ns => ([], ns)
  | k + 1, ns => ((f ns).1 :: (drawsF f k (f ns).2).1, (drawsF f k (f ns).2).2)
def lineF (p s : Int) (ns : List Int) : List Int × List Int :=
  (if normalF p (drawsF (numberF p s) 3 ns).1 ≠ [0, 0, 0] then normalF p (drawsF (numberF p s) 3 ns).1 else [0, 0, 1], (drawsF (numberF p s) 3 ns).2)
theorem number_bag {p s n : Int} (hp : PrimeI p) (hs : 0 ≤ s) {ns : List Int} (hb : BagI n ns) : BagI (n + 1) (numberF p s ns).2 := by
  unfold numberF
  split
  · exact grab_bag (by omega) hb
  · rename_i h0
    exact grab_bag (by have := prime_pos hp h0; omega) hb
theorem number_rng {p s : Int} (hp : PrimeI p) (hs : 0 ≤ s) (ns : List Int) : -s ≤ (numberF p s ns).1 ∧ (numberF p s ns).1 ≤ max s 19 ∧ (p ≠ 0 → 0 ≤ (numberF p s ns).1 ∧ (numberF p s ns).1 < p) ∧ (p = 0 → (numberF p s ns).1 ≤ s) := by
  unfold numberF
  split
  · have := grab_rng (t := 2 * s + 1) (by omega) ns
    rename_i h0
    refine ⟨?_, ?_, fun h => absurd h0 h, fun _ => ?_⟩ <;> (show _ ≤ _; simp only; omega)
  · rename_i h0
    have h2 := prime_pos hp h0
    have := grab_rng (t := p) (by omega) ns
    refine ⟨by omega, by omega, fun _ => this, fun h => absurd h h0⟩
theorem draws_bag {f : List Int → Int × List Int} (hf : ∀ {n : Int} {ns : List Int}, BagI n ns → BagI (n + 1) (f ns).2) : ∀ (k : Nat) {n : Int} {ns : List Int}, BagI n ns → BagI (n + k) (drawsF f k ns).2
  | 0, n, ns, h => h.mono (by omega)
  | k + 1, n, ns, h => (draws_bag hf k (hf h)).mono (by omega)
theorem draws_len (f : List Int → Int × List Int) : ∀ (k : Nat) (ns : List Int), (drawsF f k ns).1.length = k
  | 0, _ => rfl
  | k + 1, ns => congrArg (· + 1) (draws_len f k _)
theorem draws_all {f : List Int → Int × List Int} {P : Int → Prop} (hf : ∀ ns, P (f ns).1) : ∀ (k : Nat) (ns : List Int), ∀ x ∈ (drawsF f k ns).1, P x
  | 0, _, x, h => by cases h
  | k + 1, ns, x, h => by
    obtain rfl | h := List.mem_cons.mp h
    · exact hf ns
    · exact draws_all hf k _ x h
theorem line_bag {p s n : Int} (hp : PrimeI p) (hs : 0 ≤ s) {ns : List Int} (hb : BagI n ns) : BagI (n + 3) (lineF p s ns).2 := draws_bag (fun h => number_bag hp hs h) 3 hb
/-- every line -/
def everyF (p : Int) : List (List Int) :=
  if p = 0 then (upto 0 14).map fun a => [1, a, a * a + 2]
  else (upto 0 p.toNat).foldl (fun acc o => acc ++ (upto 0 p.toNat).map fun r => [1, o, r]) ([0, 0, 1] :: (upto 0 p.toNat).map fun o => [0, 1, o])
theorem log_lt3 {n : Nat} (h : n < 2 ^ 3000) : n.log2 < 9000 := by
  by_cases z : n = 0
  · subst z; decide
  · have := (Nat.log2_lt z).mpr h
    omega
theorem crossI_sz {x y : List Int} (hx : ∀ n ∈ x, n.natAbs < 2 ^ 200) (hy : ∀ n ∈ y, n.natAbs < 2 ^ 200) : ∀ n ∈ crossI x y, n.natAbs < 2 ^ 401 := by
  intro n hn
  unfold crossI at hn
  split at hn
  · simp only [List.mem_cons, or_false, List.not_mem_nil] at hn
    rcases hn with rfl | rfl | rfl
    all_goals exact sub_sz (mul_sz (hx _ (by simp)) (hy _ (by simp))) (mul_sz (hx _ (by simp)) (hy _ (by simp)))
  · cases hn
theorem sz1000 {k : Nat} (hk : k ≤ 1000) {n : Int} (h : n.natAbs < 2 ^ k) : n.natAbs < 2 ^ 1000 := Nat.lt_of_lt_of_le h (Nat.pow_le_pow_right (by decide) hk)
theorem three {x : List Int} (h : x.length = 3) : ∃ a b c, x = [a, b, c] := by
  match x, h with
  | [a, b, c], _ => exact ⟨a, b, c, rfl⟩
def multF (p : Int) (x : List Int) (ns : List Int) : List Int × List Int :=
  if p = 0 then (x.map fun n => settled p ((oneF [1, -1, 2, -7, 10000000000000000000000000000000000000000] ns).1 * n), (oneF [1, -1, 2, -7, 10000000000000000000000000000000000000000] ns).2)
  else (x.map fun n => settled p ((1 + (grabF (p - 1) ns).1) * n), (grabF (p - 1) ns).2)
def pointF (p : Int) (x y : List Int) (ns : List Int) : List Int × List Int :=
  if (grabF 3 ns).1 = 0 then (crossF p x (lineF p 5 (grabF 3 ns).2).1, (lineF p 5 (grabF 3 ns).2).2)
  else if (grabF 3 ns).1 = 1 ∧ p = 0 then
    (normalF 0 [1 + (grabF 10000000000000000000000000 (grabF 3 ns).2).1, 0 - (grabF 100000000000000000000 (grabF 10000000000000000000000000 (grabF 3 ns).2).2).1, y.headD 0], (grabF 100000000000000000000 (grabF 10000000000000000000000000 (grabF 3 ns).2).2).2)
  else lineF p 4 (grabF 3 ns).2
/-- the law's own look -/
def isI : Dt → Bool
  | .int _ => true
  | _ => false
def lawN (p m : Int) : Dt → Bool
  | .tuple ds => decide (ds.length = 3) && ds.all isI && ((ds.map toI).all fun n => decide ((if p = 0 then 0 - m else 0) ≤ n) && decide (n ≤ if p = 0 then m else p - 1)) && !decide (ds.map toI = [0, 0, 0]) && decide (normalF p (ds.map toI) = ds.map toI)
  | _ => false
def simpleD : Dt → Bool
  | .none => true
  | .bool _ => true
  | .int _ => true
  | .str s => PyData.canLay0 (.str s)
  | _ => false
def nearD : Dt → Bool
  | .tuple ds => decide (ds.length ≤ 100) && ds.all simpleD
  | _ => true
theorem upto_len (lo : Int) (n : Nat) : (upto lo n).length = n := by unfold upto; rw [List.length_map, List.length_range]
theorem upto_mem {lo a : Int} {n : Nat} (h : a ∈ upto lo n) : lo ≤ a ∧ a < lo + n := by
  obtain ⟨i, hi, hj⟩ := List.mem_map.mp h
  have := List.mem_range.mp hi
  omega
def lawI (p m : Int) (ns : List Int) : Bool := decide (ns.length = 3) && (ns.all fun n => decide ((if p = 0 then 0 - m else 0) ≤ n) && decide (n ≤ if p = 0 then m else p - 1)) && !decide (ns = [0, 0, 0]) && decide (normalF p ns = ns)
theorem all_isI (ns : List Int) : (ns.map PyData.int).all isI = true := by
  rw [List.all_map, List.all_eq_true]
  intro n _
  rfl
theorem lawN_ints (p m : Int) (ns : List Int) : lawN p m (.tuple (ns.map PyData.int)) = lawI p m ns := by
  show (decide ((ns.map PyData.int).length = 3) && (ns.map PyData.int).all isI && (((ns.map PyData.int).map toI).all fun n => decide ((if p = 0 then 0 - m else 0) ≤ n) && decide (n ≤ if p = 0 then m else p - 1)) && !decide ((ns.map PyData.int).map toI = [0, 0, 0]) && decide (normalF p ((ns.map PyData.int).map toI) = (ns.map PyData.int).map toI)) = _
  rw [map_toI, List.length_map, all_isI, Bool.and_true]
  rfl
theorem lawN_len {p m : Int} {ds : List Dt} (h : ds.length ≠ 3) : lawN p m (.tuple ds) = false := by
  show (decide (ds.length = 3) && ds.all isI && _ && _ && _) = false
  rw [decide_eq_false h]
  rfl
theorem lawN_no {p m : Int} {ds : List Dt} (h : ds.all isI = false) : lawN p m (.tuple ds) = false := by
  show (decide (ds.length = 3) && ds.all isI && _ && _ && _) = false
  rw [h, Bool.and_false]
  rfl
theorem all_ints : ∀ {ds : List Dt}, ds.all isI = true → ∃ ns : List Int, ds = ns.map PyData.int
  | [], _ => ⟨[], rfl⟩
  | d :: ds, h => by
    rw [List.all_cons] at h
    obtain ⟨h1, h2⟩ := Bool.and_eq_true_iff.mp h
    obtain ⟨ns, rfl⟩ := all_ints h2
    cases d with
    | int i => exact ⟨i :: ns, rfl⟩
    | _ => cases h1
theorem fdiv_abs {n g : Int} (hg : g ≠ 0) (hd : g ∣ n) : (n.fdiv g).natAbs ≤ n.natAbs := by
  obtain ⟨q, rfl⟩ := hd
  rw [Int.mul_fdiv_cancel_left _ hg, Int.natAbs_mul]
  exact Nat.le_mul_of_pos_left _ (Int.natAbs_pos.mpr hg)
/-- a made tuple is no greater than what it is made of -/
theorem made_sz {p : Int} {ns : List Int} (h : MadeOk p ns) {k : Nat} (hk : 19 ≤ k) (hz : ∀ n ∈ ns, n.natAbs ≤ k) : ∀ n ∈ made p ns, n.natAbs ≤ k := by
  intro n hn
  by_cases h0 : p = 0
  · subst h0
    rw [made_zero] at hn
    obtain ⟨m, hm, rfl⟩ := List.mem_map.mp hn
    have hg := gcdL_pos h.ex
    have hd := (gcdL_dvd ns 0).2 m hm
    refine Nat.le_trans (fdiv_abs ?_ ?_) (hz m hm)
    · split <;> omega
    · split
      · exact Int.neg_dvd.mpr hd
      · exact hd
  · unfold made at hn
    rw [if_pos h0] at hn
    obtain ⟨m, hm, rfl⟩ := List.mem_map.mp hn
    have h2 := prime_pos h.pr h0
    have h3 := Int.emod_nonneg (m * inv p (firstI ns)) (show p ≠ 0 by omega)
    have h4 := Int.emod_lt_of_pos (m * inv p (firstI ns)) (show 0 < p by omega)
    omega
theorem settled_abs {p n : Int} (hp : PrimeI p) {k : Nat} (hk : 19 ≤ k) (h : n.natAbs ≤ k) : (settled p n).natAbs ≤ k := by
  by_cases h0 : p = 0
  · subst h0; exact h
  · have := settled_rng (n := n) hp h0
    have := prime_pos hp h0
    omega
theorem normalF_sz {p : Int} {ns : List Int} (hp : PrimeI p) (hl : ns.length ≤ 140) {k : Nat} (hk : 19 ≤ k) (hk2 : k < 2 ^ 1000) (hz : ∀ n ∈ ns, n.natAbs ≤ k) : ∀ n ∈ normalF p ns, n.natAbs ≤ k := by
  have hz' : ∀ n ∈ ns.map (settled p), n.natAbs ≤ k := fun n hn => by
    obtain ⟨m, hm, rfl⟩ := List.mem_map.mp hn
    exact settled_abs hp hk (hz m hm)
  unfold normalF
  split
  · exact hz'
  · rename_i h
    exact made_sz (told_ok hp hl (fun n hn => Nat.lt_of_le_of_lt (hz n hn) hk2) (Bool.eq_false_iff.mpr h)) hk hz'
theorem line_sz {p s : Int} (hp : PrimeI p) (h0 : 0 ≤ s) (h1 : s ≤ 1000) (ns : List Int) : (lineF p s ns).1.length = 3 ∧ ∀ n ∈ (lineF p s ns).1, n.natAbs < 2 ^ 200 := by
  have hl := draws_len (numberF p s) 3 ns
  have hz := draws_all (f := numberF p s) (P := fun x => x.natAbs ≤ 1000) (fun ns => by have := number_rng hp h0 ns; omega) 3 ns
  have h2 := normalF_sz hp (by omega) (by decide) (Nat.lt_of_lt_of_le (m := 2 ^ 10) (by decide) (Nat.pow_le_pow_right (by decide) (by decide))) hz
  have h3 := normalF_len p (drawsF (numberF p s) 3 ns).1
  have h4 : (1000 : Nat) < 2 ^ 200 := by decide
  unfold lineF
  split
  · exact ⟨by rw [h3, hl], fun n hn => Nat.lt_of_le_of_lt (h2 n hn) h4⟩
  · refine ⟨rfl, fun n hn => ?_⟩
    have hn : n ∈ [0, 0, 1] := hn
    simp only [List.mem_cons, or_false, List.not_mem_nil] at hn
    rcases hn with rfl | rfl | rfl <;> decide
theorem settled_same {p : Int} {ns : List Int} (h : ∀ n ∈ ns, p ≠ 0 → 0 ≤ n ∧ n < p) : ns.map (settled p) = ns := by
  have e : ns.map (settled p) = ns.map id := List.map_congr_left fun n hn => by
    unfold settled
    split
    · rename_i h0
      have := h n hn h0
      exact Int.emod_eq_of_lt (by omega) (by omega)
    · rfl
  rw [e, List.map_id]
theorem lawI_true {p m : Int} {ns : List Int} : lawI p m ns = true ↔ ns.length = 3 ∧ (∀ n ∈ ns, (if p = 0 then 0 - m else 0) ≤ n ∧ n ≤ if p = 0 then m else p - 1) ∧ ns ≠ [0, 0, 0] ∧ normalF p ns = ns := by
  unfold lawI
  simp only [Bool.and_eq_true, List.all_eq_true, decide_eq_true_eq, Bool.not_eq_true', decide_eq_false_iff_not]
  constructor
  · rintro ⟨⟨⟨h1, h2⟩, h3⟩, h4⟩; exact ⟨h1, h2, h3, h4⟩
  · rintro ⟨h1, h2, h3, h4⟩; exact ⟨⟨⟨h1, h2⟩, h3⟩, h4⟩
theorem zero3 {ns : List Int} (h : ns.length = 3) : (∃ n ∈ ns, n ≠ 0) ↔ ns ≠ [0, 0, 0] := by
  obtain ⟨a, b, c, rfl⟩ := three h
  simp only [List.mem_cons, List.not_mem_nil, or_false, ne_eq, List.cons.injEq, and_true, exists_eq_or_imp, exists_eq_left]
  omega
theorem normI_true {p : Int} {ns : List Int} : normI p ns = true ↔ ns.length = 3 ∧ (∀ n ∈ ns, (-big < n ∧ n < big) ∧ (p = 0 ∨ (0 ≤ n ∧ n < p))) ∧ ns ≠ [0, 0, 0] ∧ made p ns = ns := by
  unfold normI
  simp only [Bool.and_eq_true, decide_eq_true_eq, any_ex]
  constructor
  · rintro ⟨⟨h1, h2⟩, h3⟩
    obtain ⟨ms, e, hl, hm⟩ := allFit_ints h1
    have e : ns = ms := by
      have := congrArg (List.map toI) e
      rw [map_toI, map_toI] at this
      exact this
    subst e
    have hl : ns.length = 3 := by omega
    exact ⟨hl, hm, (zero3 hl).mp h2, h3⟩
  · rintro ⟨h1, h2, h3, h4⟩
    exact ⟨⟨allFit_of (by omega) h2, (zero3 h1).mpr h3⟩, h4⟩
theorem normal_made {p : Int} {ns : List Int} (hl : ns.length = 3) (hr : ∀ n ∈ ns, p ≠ 0 → 0 ≤ n ∧ n < p) (hz : ns ≠ [0, 0, 0]) : normalF p ns = made p ns := by
  unfold normalF
  rw [settled_same hr]
  have h : ¬ allZero ns = true := fun h => by
    obtain ⟨n, h1, h2⟩ := (zero3 hl).mpr hz
    unfold allZero at h
    exact h2 (of_decide_eq_true (List.all_eq_true.mp h n h1))
  rw [if_neg h]
theorem law_norm {p : Int} (hp : PrimeI p) (ns : List Int) : lawI p (big - 1) ns = normI p ns := by
  rw [Bool.eq_iff_iff, lawI_true, normI_true]
  have hs := hp.small
  constructor
  · rintro ⟨h1, h2, h3, h4⟩
    have hr : ∀ n ∈ ns, (-big < n ∧ n < big) ∧ (p = 0 ∨ (0 ≤ n ∧ n < p)) := fun n hn => by
      have := h2 n hn
      by_cases h0 : p = 0
      · rw [if_pos h0, if_pos h0] at this
        exact ⟨by omega, .inl h0⟩
      · rw [if_neg h0, if_neg h0] at this
        exact ⟨by unfold big; omega, .inr (by omega)⟩
    refine ⟨h1, hr, h3, ?_⟩
    rw [← normal_made h1 (fun n hn h0 => (hr n hn).2.resolve_left h0) h3]
    exact h4
  · rintro ⟨h1, h2, h3, h4⟩
    refine ⟨h1, fun n hn => ?_, h3, ?_⟩
    · have := h2 n hn
      by_cases h0 : p = 0
      · rw [if_pos h0, if_pos h0]; omega
      · rw [if_neg h0, if_neg h0]; omega
    · rw [normal_made h1 (fun n hn h0 => (h2 n hn).2.resolve_left h0) h3]
      exact h4
theorem law_line {p : Int} (hp : PrimeI p) (ns : List Int) : lawI p 1000 ns = lineI p ns := by
  unfold lineI
  rw [Bool.eq_iff_iff, Bool.and_eq_true, ← law_norm hp, lawI_true, lawI_true]
  have hs := hp.small
  unfold smallL
  simp only [List.all_eq_true, decide_eq_true_eq]
  constructor
  · rintro ⟨h1, h2, h3, h4⟩
    refine ⟨⟨h1, fun n hn => ?_, h3, h4⟩, fun n hn => ?_⟩
    · have := h2 n hn
      by_cases h0 : p = 0
      · rw [if_pos h0, if_pos h0] at *; unfold big; omega
      · rw [if_neg h0, if_neg h0] at *; omega
    · have := h2 n hn
      by_cases h0 : p = 0
      · rw [if_pos h0, if_pos h0] at this; omega
      · rw [if_neg h0, if_neg h0] at this; omega
  · rintro ⟨⟨h1, h2, h3, h4⟩, h5⟩
    refine ⟨h1, fun n hn => ?_, h3, h4⟩
    have := h2 n hn
    have := h5 n hn
    by_cases h0 : p = 0
    · rw [if_pos h0, if_pos h0]; omega
    · rw [if_neg h0, if_neg h0] at *; omega
theorem lawN_norm {p : Int} (hp : PrimeI p) (d : Dt) : lawN p (big - 1) d = isNormal p d := by
  cases d with
  | tuple ds =>
    by_cases h : ds.all isI = true
    · obtain ⟨ns, rfl⟩ := all_ints h
      rw [lawN_ints, isNormal_ints, law_norm hp]
    · rw [lawN_no (Bool.eq_false_iff.mpr h), isNormal_no]
      rw [Bool.eq_false_iff]
      intro z
      obtain ⟨ns, rfl, _⟩ := allFit_ints z
      exact h (all_isI ns)
  | _ => rfl
theorem lawN_line {p : Int} (hp : PrimeI p) (d : Dt) : lawN p 1000 d = isLine p d := by
  cases d with
  | tuple ds =>
    by_cases h : ds.all isI = true
    · obtain ⟨ns, rfl⟩ := all_ints h
      rw [lawN_ints, isLine_ints, law_line hp]
    · rw [lawN_no (Bool.eq_false_iff.mpr h), isLine_no]
      rw [isNormal_no]
      rw [Bool.eq_false_iff]
      intro z
      obtain ⟨ns, rfl, _⟩ := allFit_ints z
      exact h (all_isI ns)
  | _ => rfl
def spliceF (x : List Int) (w : Nat) (e : Dt) : Dt := .tuple ((x.take w).map PyData.int ++ [e] ++ (x.drop (w + 1)).map PyData.int)
def tupD (ns : List Int) : Dt := .tuple (ns.map PyData.int)
/-- the values near a line -/
def nearF (p : Int) (x : List Int) (w : Nat) : List Dt :=
  [tupD x, .list (x.map PyData.int), tupD (x.take 2), tupD (x ++ [0]), tupD [0, 0, 0], tupD x.reverse, .none, .str "100", .tuple [.bool true, .int 0, .int 0], .tuple [.int 1, .bool false, .int 0]]
  ++ [PyData.int 0, .int 1, .int p, .int (0 - x.getD w 0), .int (x.getD w 0 + 1), .int 1001, .int 100000000000000000000000000000000000000000000000000000000000, .int 1000000000000000000000000000000000000000000000000000000000000, .str "1", .none].map (spliceF x w)
  ++ [tupD (x.map fun n => 2 * n), tupD (x.map fun n => 0 - n), tupD [1, 1000, -1000], .dict [], .int 7]
theorem nearD_tup {ns : List Int} (h : ns.length ≤ 100) : nearD (tupD ns) = true := by
  show (decide ((ns.map PyData.int).length ≤ 100) && (ns.map PyData.int).all simpleD) = true
  rw [List.length_map, decide_eq_true h, Bool.true_and, List.all_map, List.all_eq_true]
  exact fun _ _ => rfl
theorem near_ok {p : Int} {x : List Int} (h : x.length = 3) (w : Nat) : ∀ d ∈ nearF p x w, nearD d = true := by
  have hs : ∀ e, simpleD e = true → nearD (spliceF x w e) = true := fun e he => by
    have q : ∀ ns : List Int, (ns.map PyData.int).all simpleD = true := fun ns => by
      rw [List.all_map, List.all_eq_true]
      exact fun _ _ => rfl
    show (decide (((x.take w).map PyData.int ++ [e] ++ (x.drop (w + 1)).map PyData.int).length ≤ 100) && ((x.take w).map PyData.int ++ [e] ++ (x.drop (w + 1)).map PyData.int).all simpleD) = true
    rw [List.all_append, List.all_append, q, q, List.length_append, List.length_append, List.length_map, List.length_map, List.length_take, List.length_drop]
    have e1 : [e].all simpleD = true := by show (simpleD e && true) = true; rw [he]; rfl
    rw [e1, decide_eq_true (by show _ + 1 + _ ≤ 100; omega)]
    rfl
  intro d hd
  unfold nearF at hd
  obtain hd | hd := List.mem_append.mp hd
  · obtain hd | hd := List.mem_append.mp hd
    · simp only [List.mem_cons, or_false, List.not_mem_nil] at hd
      rcases hd with rfl | rfl | rfl | rfl | rfl | rfl | rfl | rfl | rfl | rfl
      · exact nearD_tup (by omega)
      · rfl
      · exact nearD_tup (by rw [List.length_take]; omega)
      · exact nearD_tup (by rw [List.length_append]; show _ + 1 ≤ 100; omega)
      · rfl
      · exact nearD_tup (by rw [List.length_reverse]; omega)
      · rfl
      · rfl
      · rfl
      · rfl
    · obtain ⟨e, he, rfl⟩ := List.mem_map.mp (hd)
      refine hs e ?_
      simp only [List.mem_cons, or_false, List.not_mem_nil] at he
      rcases he with rfl | rfl | rfl | rfl | rfl | rfl | rfl | rfl | rfl | rfl <;> first | rfl | decide +kernel
  · simp only [List.mem_cons, or_false, List.not_mem_nil] at hd
    rcases hd with rfl | rfl | rfl | rfl | rfl
    · exact nearD_tup (by rw [List.length_map]; omega)
    · exact nearD_tup (by rw [List.length_map]; omega)
    · rfl
    · rfl
    · rfl
/-- every drawn line is small -/
theorem line_small {p s : Int} (hp : PrimeI p) (h0 : 0 ≤ s) (h1 : s ≤ 1000) (ns : List Int) : (lineF p s ns).1.length = 3 ∧ ∀ n ∈ (lineF p s ns).1, n.natAbs ≤ 1000 := by
  have hl := draws_len (numberF p s) 3 ns
  have hz := draws_all (f := numberF p s) (P := fun x => x.natAbs ≤ 1000) (fun ns => by have := number_rng hp h0 ns; omega) 3 ns
  have h2 := normalF_sz hp (by omega) (by decide) (Nat.lt_of_lt_of_le (m := 2 ^ 10) (by decide) (Nat.pow_le_pow_right (by decide) (by decide))) hz
  have h3 := normalF_len p (drawsF (numberF p s) 3 ns).1
  unfold lineF
  split
  · exact ⟨by rw [h3, hl], h2⟩
  · refine ⟨rfl, fun n hn => ?_⟩
    have hn : n ∈ [0, 0, 1] := hn
    simp only [List.mem_cons, or_false, List.not_mem_nil] at hn
    rcases hn with rfl | rfl | rfl <;> decide
theorem every_small : ∀ p ∈ drawnPrimes, ∀ l ∈ everyF p, l.length = 3 ∧ ∀ n ∈ l, n.natAbs ≤ 1000 := by decide +kernel
theorem every_len : ∀ p ∈ drawnPrimes, 7 ≤ (everyF p).length ∧ (everyF p).length ≤ 1000 := by decide +kernel
theorem every_nodup : ∀ p ∈ drawnPrimes, (everyF p).Nodup := by decide +kernel
theorem every_line : ∀ p ∈ drawnPrimes, ∀ l ∈ everyF p, lineI p l = true := by decide +kernel
end Num
/-! ## NumR -/
set_option linter.all false
/-! What the law's comparisons come to: the numbers. -/
namespace Num
open PySem
theorem made_ex {p : Int} {ns : List Int} (h : MadeOk p ns) : ∃ n ∈ made p ns, n ≠ 0 := by
  obtain ⟨n, hn, h0⟩ := h.ex
  by_cases hp0 : p = 0
  · subst hp0
    rw [made_zero]
    have hg := gcdL_pos h.ex
    obtain ⟨q, hq⟩ := (gcdL_dvd ns 0).2 n hn
    refine ⟨_, List.mem_map_of_mem hn, fun z => h0 ?_⟩
    have e2 : ∃ q', n = (if firstI ns < 0 then -gcdL 0 ns else gcdL 0 ns) * q' := by
      split
      · exact ⟨-q, by rw [hq]; grind⟩
      · exact ⟨q, hq⟩
    have hs : (if firstI ns < 0 then -gcdL 0 ns else gcdL 0 ns) ≠ 0 := by split <;> omega
    generalize (if firstI ns < 0 then -gcdL 0 ns else gcdL 0 ns) = s at *
    obtain ⟨q', rfl⟩ := e2
    rw [Int.mul_fdiv_cancel_left _ hs] at z
    rw [z, Int.mul_zero]
  · obtain ⟨f1, f2⟩ := h.first hp0
    obtain ⟨i1, i2, i3⟩ := inv_lt h.pr hp0 f1 f2
    unfold made
    rw [if_pos hp0]
    refine ⟨_, List.mem_map_of_mem hn, fun z => h0 ?_⟩
    have hb := h.lt hp0 n hn
    have hi : inv p (firstI ns) % p ≠ 0 := by rw [Int.emod_eq_of_lt (by omega) (by omega)]; omega
    have := mul_zero_mod h.pr hp0 hi (by rw [Int.mul_comm]; exact z)
    rw [Int.emod_eq_of_lt (by omega) (by omega)] at this
    exact this
theorem made_lt {p : Int} {ns : List Int} (hp : PrimeI p) (h0 : p ≠ 0) : ∀ n ∈ made p ns, 0 ≤ n ∧ n < p := by
  have h2 := prime_pos hp h0
  intro n hn
  unfold made at hn
  rw [if_pos h0] at hn
  obtain ⟨m, _, rfl⟩ := List.mem_map.mp hn
  exact ⟨Int.emod_nonneg _ (by omega), Int.emod_lt_of_pos _ (by omega)⟩
/-- made twice is made once -/
theorem made_made {p : Int} {ns : List Int} (h : MadeOk p ns) : made p (made p ns) = made p ns := by
  by_cases hp0 : p = 0
  · subst hp0
    have hx := made_ex h
    have hg := gcdL_pos h.ex
    have hs : (if firstI ns < 0 then -gcdL 0 ns else gcdL 0 ns) ≠ 0 := by split <;> omega
    have e : (made 0 ns).map (fun n => (if firstI ns < 0 then -gcdL 0 ns else gcdL 0 ns) * n) = ns := by
      rw [made_zero, List.map_map]
      have : ∀ n ∈ ns, ((fun n => (if firstI ns < 0 then -gcdL 0 ns else gcdL 0 ns) * n) ∘ fun n => n.fdiv (if firstI ns < 0 then -gcdL 0 ns else gcdL 0 ns)) n = id n := fun n hn => by
        obtain ⟨q, hq⟩ := (gcdL_dvd ns 0).2 n hn
        have e2 : ∃ q', n = (if firstI ns < 0 then -gcdL 0 ns else gcdL 0 ns) * q' := by
          split
          · exact ⟨-q, by rw [hq]; grind⟩
          · exact ⟨q, hq⟩
        show (if firstI ns < 0 then -gcdL 0 ns else gcdL 0 ns) * n.fdiv (if firstI ns < 0 then -gcdL 0 ns else gcdL 0 ns) = n
        generalize (if firstI ns < 0 then -gcdL 0 ns else gcdL 0 ns) = s at *
        obtain ⟨q', rfl⟩ := e2
        rw [Int.mul_fdiv_cancel_left _ hs]
      rw [List.map_congr_left this, List.map_id]
    have := made0_mul hs hx
    rw [e] at this
    exact this.symm
  · obtain ⟨f1, f2⟩ := h.first hp0
    obtain ⟨i1, i2, i3⟩ := inv_lt h.pr hp0 f1 f2
    have e : made p ns = ns.map fun n => inv p (firstI ns) * n % p := by
      unfold made
      rw [if_pos hp0]
      exact List.map_congr_left fun n _ => by rw [Int.mul_comm]
    have hi : inv p (firstI ns) % p ≠ 0 := by rw [Int.emod_eq_of_lt (by omega) (by omega)]; omega
    have := madeP_mul h.pr hp0 hi (h.lt hp0) h.ex
    rw [← e] at this
    exact this
/-- the law's normal tuple is zero, or normal -/
theorem normalF_norm {p : Int} {ns : List Int} (hp : PrimeI p) (hl : ns.length = 3) (hz : ∀ n ∈ ns, n.natAbs < 10 ^ 60) : normalF p ns = [0, 0, 0] ∨ normI p (normalF p ns) = true := by
  have hbig : big = ((10 ^ 60 : Nat) : Int) := by decide
  by_cases h : allZero (ns.map (settled p)) = true
  · left
    have e : normalF p ns = ns.map (settled p) := if_pos h
    rw [e]
    obtain ⟨a, b, c, e3⟩ := three (x := ns.map (settled p)) (by rw [List.length_map]; exact hl)
    rw [e3] at h ⊢
    unfold allZero at h
    simp only [List.all_cons, List.all_nil, Bool.and_true, Bool.and_eq_true, decide_eq_true_eq] at h
    obtain ⟨rfl, rfl, rfl⟩ := h
    rfl
  · right
    have e : normalF p ns = made p (ns.map (settled p)) := if_neg h
    have hM := told_ok (ns := ns) hp (by omega) (fun n hn => Nat.lt_trans (hz n hn) (by decide +kernel)) (Bool.eq_false_iff.mpr h)
    have hsz := normalF_sz (ns := ns) hp (by omega) (k := 10 ^ 60 - 1) (by decide) (by decide +kernel) fun n hn => by have := hz n hn; omega
    rw [e] at hsz ⊢
    rw [normI_true]
    have hlen : (made p (ns.map (settled p))).length = 3 := by rw [made_len, List.length_map]; exact hl
    refine ⟨hlen, fun n hn => ⟨by have := hsz n hn; omega, ?_⟩, (zero3 hlen).mp (made_ex hM), made_made hM⟩
    by_cases h0 : p = 0
    · exact .inl h0
    · exact .inr (made_lt hp h0 n hn)
theorem one_line : ∀ p ∈ (0 :: primes : List Int), lineI p [0, 0, 1] = true := by decide +kernel
theorem smallL_of {ns : List Int} (h : ∀ n ∈ ns, n.natAbs ≤ 1000) : smallL ns = true := by
  unfold smallL
  rw [List.all_eq_true]
  exact fun n hn => decide_eq_true (h n hn)
theorem lineF_line {p s : Int} (hp : PrimeI p) (h0 : 0 ≤ s) (h1 : s ≤ 1000) (ns : List Int) : lineI p (lineF p s ns).1 = true := by
  have hs := line_small hp h0 h1 ns
  have hl := draws_len (numberF p s) 3 ns
  have hz := draws_all (f := numberF p s) (P := fun x => x.natAbs < 10 ^ 60) (fun ns => by have := number_rng hp h0 ns; exact Nat.lt_of_le_of_lt (m := 1000) (by omega) (by decide)) 3 ns
  have hn := normalF_norm hp hl hz
  unfold lineI
  rw [smallL_of hs.2, Bool.and_true]
  unfold lineF
  split
  · rename_i h
    rcases hn with hn | hn
    · exact absurd hn h
    · exact hn
  · have := one_line p (by rcases hp with h | h <;> simp [h])
    unfold lineI at this
    exact (Bool.and_eq_true_iff.mp this).1
/-- crosses -/
theorem crossF_made {p : Int} {x y : List Int} (hx : NT p x) (hy : NT p y) (hn : x ≠ y) : crossF p x y = made p (crossS p x y) := by
  have hM := cross_ok hx hy hn
  unfold crossF normalF
  have h : ¬ allZero ((crossI x y).map (settled p)) = true := fun h => by
    obtain ⟨n, h1, h2⟩ := hM.ex
    unfold allZero at h
    exact h2 (of_decide_eq_true (List.all_eq_true.mp h n h1))
  rw [if_neg h]
  rfl
theorem settled_neg (p n : Int) : settled p (-1 * settled p n) = settled p (-n) := by
  unfold settled
  split
  · have h6 := Int.emod_add_mul_ediv n p
    refine emod_eq_of (c := n / p) ?_
    grind
  · omega
/-- the other way about -/
theorem made_swap {p : Int} {x y : List Int} (hx : NT p x) (hy : NT p y) (hn : x ≠ y) : made p (crossS p y x) = made p (crossS p x y) := by
  have hM := cross_ok hx hy hn
  have hk : settled p (-1) ≠ 0 := by
    unfold settled
    split
    · rename_i h0
      have := prime_pos hx.ok.pr h0
      intro z
      have := Int.dvd_of_emod_eq_zero z
      obtain ⟨q, hq⟩ := this
      have : p ∣ 1 := ⟨-q, by grind⟩
      have := Int.le_of_dvd (by decide) this
      omega
    · decide
  have := made_low hx.ok.pr hk hM.lt hM.ex
  rw [← this]
  congr 1
  obtain ⟨a, b, c, rfl⟩ := hx.cons
  obtain ⟨d, e, f, rfl⟩ := hy.cons
  unfold crossS crossI
  simp only [List.map_cons, List.map_nil, settled_neg]
  have e1 : -(b * f - c * e) = e * c - f * b := by grind
  have e2 : -(c * d - a * f) = f * a - d * c := by grind
  have e3 : -(a * e - b * d) = d * b - e * a := by grind
  rw [e1, e2, e3]
theorem lineI_nt {p : Int} {x : List Int} (hp : PrimeI p) (h : lineI p x = true) : NT p x ∧ ∀ n ∈ x, n.natAbs ≤ 1000 := by
  obtain ⟨h1, h2⟩ := Bool.and_eq_true_iff.mp h
  refine ⟨NT.of hp h1, fun n hn => ?_⟩
  unfold smallL at h2
  exact of_decide_eq_true (List.all_eq_true.mp h2 n hn)
theorem mul_small {a b : Int} {k l : Nat} (ha : a.natAbs ≤ k) (hb : b.natAbs ≤ l) : (a * b).natAbs ≤ k * l := by
  rw [Int.natAbs_mul]
  exact Nat.mul_le_mul ha hb
/-- a drawn point is zero, or a point -/
theorem pointF_norm {p : Int} {x y : List Int} (hp : PrimeI p) (hx : lineI p x = true) (hy : lineI p y = true) (ns : List Int) : (pointF p x y ns).1 = [0, 0, 0] ∨ normI p (pointF p x y ns).1 = true := by
  obtain ⟨nx, sx⟩ := lineI_nt hp hx
  obtain ⟨ny, sy⟩ := lineI_nt hp hy
  unfold pointF
  split
  · obtain ⟨hl, hs⟩ := line_small hp (s := 5) (by decide) (by decide) (grabF 3 ns).2
    obtain ⟨a, b, c, rfl⟩ := nx.cons
    obtain ⟨d, e, f, e3⟩ := three hl
    show crossF p _ (lineF p 5 (grabF 3 ns).2).1 = _ ∨ normI p (crossF p _ (lineF p 5 (grabF 3 ns).2).1) = true
    rw [e3] at hs ⊢
    have hbig : 1000 * 1000 + 1000 * 1000 < 10 ^ 60 := by decide
    have ms : ∀ {i j : Int}, i ∈ [a, b, c] → j ∈ [d, e, f] → (i * j).natAbs ≤ 1000 * 1000 := fun hi hj => mul_small (sx _ hi) (hs _ hj)
    refine normalF_norm hp rfl fun n hn => ?_
    simp only [crossI, List.mem_cons, List.not_mem_nil, or_false] at hn
    have q1 := ms (i := b) (j := f) (by simp) (by simp)
    have q2 := ms (i := c) (j := e) (by simp) (by simp)
    have q3 := ms (i := c) (j := d) (by simp) (by simp)
    have q4 := ms (i := a) (j := f) (by simp) (by simp)
    have q5 := ms (i := a) (j := e) (by simp) (by simp)
    have q6 := ms (i := b) (j := d) (by simp) (by simp)
    rcases hn with rfl | rfl | rfl <;> omega
  · split
    · rename_i h
      obtain ⟨_, rfl⟩ := h
      have r1 := grab_rng (t := 10000000000000000000000000) (by decide) (grabF 3 ns).2
      have r2 := grab_rng (t := 100000000000000000000) (by decide) (grabF 10000000000000000000000000 (grabF 3 ns).2).2
      obtain ⟨y0, y1, y2, rfl⟩ := ny.cons
      have s0 := sy y0 (by simp)
      have hbig : 10000000000000000000000001 < 10 ^ 60 := by decide
      refine normalF_norm hp rfl fun n hn => ?_
      simp only [List.mem_cons, or_false, List.not_mem_nil] at hn
      rcases hn with rfl | rfl | rfl
      · omega
      · omega
      · exact Nat.lt_of_le_of_lt s0 (by decide)
    · right
      have := lineF_line hp (s := 4) (by decide) (by decide) (grabF 3 ns).2
      exact (Bool.and_eq_true_iff.mp this).1
theorem point_bag {p : Int} {x y : List Int} (hp : PrimeI p) {n : Int} {ns : List Int} (hb : BagI n ns) : ∃ m, BagI m (pointF p x y ns).2 := by
  have b1 := grab_bag (t := 3) (by decide) hb
  unfold pointF
  split
  · exact ⟨_, line_bag hp (by decide) b1⟩
  · split
    · exact ⟨_, grab_bag (by decide) (grab_bag (by decide) b1)⟩
    · exact ⟨_, line_bag hp (by decide) b1⟩
/-- a multiple leads back -/
theorem multF_ok {p : Int} {x : List Int} (hp : PrimeI p) (hx : lineI p x = true) (ns : List Int) :
    allFit p 3 (.tuple ((multF p x ns).1.map PyData.int)) = true ∧ (multF p x ns).1.any (· != 0) = true ∧ made p (multF p x ns).1 = x := by
  obtain ⟨nx, sx⟩ := lineI_nt hp hx
  have key : ∀ k : Int, settled p k ≠ 0 → k.natAbs ≤ 10 ^ 40 → allFit p 3 (.tuple ((x.map fun n => settled p (k * n)).map PyData.int)) = true ∧ (x.map fun n => settled p (k * n)).any (· != 0) = true ∧ made p (x.map fun n => settled p (k * n)) = x := by
    intro k hk hk2
    refine ⟨allFit_of (by rw [List.length_map, nx.len]; rfl) fun m hm => ?_, any_ex.mpr ?_, ?_⟩
    · obtain ⟨n, hn, rfl⟩ := List.mem_map.mp hm
      by_cases h0 : p = 0
      · subst h0
        have hq := mul_small hk2 (sx n hn)
        have hbig : big = ((10 ^ 60 : Nat) : Int) := by decide
        have h4 : 10 ^ 40 * 1000 < 10 ^ 60 := by decide
        refine ⟨?_, .inl rfl⟩
        show -big < k * n ∧ k * n < big
        omega
      · have hr := settled_rng (n := k * n) hp h0
        have := prime_pos hp h0
        refine ⟨?_, .inr hr⟩
        unfold big
        omega
    · obtain ⟨n, hn, h0⟩ := nx.ok.ex
      refine ⟨_, List.mem_map_of_mem hn, fun z => h0 ?_⟩
      have := settled_mul hp hk z
      rw [settled_id nx.ok hn] at this
      exact this
    · rw [made_low hp hk nx.ok.lt nx.ok.ex]
      exact nx.eq
  unfold multF
  split
  · rename_i h0
    subst h0
    have hm := one_mem (xs := [1, -1, 2, -7, 10000000000000000000000000000000000000000]) (by decide) ns
    refine key _ ?_ ?_
    · show (oneF [1, -1, 2, -7, 10000000000000000000000000000000000000000] ns).1 ≠ 0
      generalize (oneF [1, -1, 2, -7, 10000000000000000000000000000000000000000] ns).1 = q at *
      simp only [List.mem_cons, or_false, List.not_mem_nil] at hm
      omega
    · generalize (oneF [1, -1, 2, -7, 10000000000000000000000000000000000000000] ns).1 = q at *
      simp only [List.mem_cons, or_false, List.not_mem_nil] at hm
      rcases hm with rfl | rfl | rfl | rfl | rfl <;> decide
  · rename_i h0
    have h2 := prime_pos hp h0
    have hg := grab_rng (t := p - 1) (by omega) ns
    refine key _ ?_ ?_
    · unfold settled
      rw [if_pos h0, Int.emod_eq_of_lt (by omega) (by omega)]
      omega
    · exact Nat.le_trans (m := 100) (by omega) (by decide)
theorem mult_bag {p : Int} {x : List Int} (hp : PrimeI p) {n : Int} {ns : List Int} (hb : BagI n ns) : ∃ m, BagI m (multF p x ns).2 := by
  unfold multF
  split
  · exact ⟨_, one_bag (by decide) hb⟩
  · rename_i h0
    have := prime_pos hp h0
    exact ⟨_, grab_bag (by omega) hb⟩
end Num
/-! ## NumA -/
set_option Elab.async false
set_option linter.all false
set_option maxRecDepth 100000
/-! Numbers: what may be judged and refused. Plain Lean. -/
namespace Num
open PySem
theorem isPrime_is {d : Dt} (h : isPrime d = true) : ∃ p, d = .int p ∧ PrimeI p := by
  cases d with
  | int p =>
    refine ⟨p, rfl, ?_⟩
    rw [isPrime_int] at h
    rcases Bool.or_eq_true_iff.mp (Bool.and_eq_true_iff.mp h).2 with h | h
    · exact .inl (of_decide_eq_true h)
    · exact .inr (of_decide_eq_true h)
  | _ => cases h
/-- a tuple of at most 140 numbers -/
def okNums (p : Int) : Dt → Bool
  | .tuple ds => decide (ds.length ≤ 140) && allFit p (ds.length : Int) (.tuple ds)
  | _ => false
/-- .. not all 0 -/
def okTup (p : Int) : Dt → Bool
  | .tuple ds => decide (ds.length ≤ 140) && allFit p (ds.length : Int) (.tuple ds) && (ds.map toI).any (· != 0)
  | _ => false
theorem okNums_is {p : Int} {d : Dt} (h : okNums p d = true) : ∃ ns : List Int, d = .tuple (ns.map PyData.int) ∧ ns.length ≤ 140 ∧ ∀ m ∈ ns, (-big < m ∧ m < big) ∧ (p = 0 ∨ (0 ≤ m ∧ m < p)) := by
  cases d with
  | tuple ds =>
    obtain ⟨h1, h2⟩ := Bool.and_eq_true_iff.mp h
    obtain ⟨ns, e, _, h3⟩ := allFit_ints h2
    subst e
    exact ⟨ns, rfl, by simpa using of_decide_eq_true h1, h3⟩
  | _ => cases h
theorem okTup_is {p : Int} {d : Dt} (h : okTup p d = true) : ∃ ns : List Int, d = .tuple (ns.map PyData.int) ∧ ns.length ≤ 140 ∧ (∀ m ∈ ns, (-big < m ∧ m < big) ∧ (p = 0 ∨ (0 ≤ m ∧ m < p))) ∧ ∃ n ∈ ns, n ≠ 0 := by
  cases d with
  | tuple ds =>
    obtain ⟨h1, h3⟩ := Bool.and_eq_true_iff.mp h
    obtain ⟨ns, e, h4, h5⟩ := okNums_is (p := p) (d := .tuple ds) h1
    cases e
    rw [map_toI] at h3
    exact ⟨ns, rfl, h4, h5, any_ex.mp h3⟩
  | _ => cases h
theorem okNums_of {p : Int} {ns : List Int} (hl : ns.length ≤ 140) (h : ∀ m ∈ ns, (-big < m ∧ m < big) ∧ (p = 0 ∨ (0 ≤ m ∧ m < p))) : okNums p (.tuple (ns.map PyData.int)) = true :=
  Bool.and_eq_true_iff.mpr ⟨decide_eq_true (by simpa using hl), allFit_of (by simp) h⟩
theorem okTup_of {p : Int} {ns : List Int} (hl : ns.length ≤ 140) (h : ∀ m ∈ ns, (-big < m ∧ m < big) ∧ (p = 0 ∨ (0 ≤ m ∧ m < p))) (hx : ∃ n ∈ ns, n ≠ 0) : okTup p (.tuple (ns.map PyData.int)) = true := by
  refine Bool.and_eq_true_iff.mpr ⟨okNums_of hl h, ?_⟩
  rw [map_toI]
  exact any_ex.mpr hx
theorem madeOk_tup {p : Int} {ns : List Int} (hp : PrimeI p) (hl : ns.length ≤ 140) (h : ∀ m ∈ ns, (-big < m ∧ m < big) ∧ (p = 0 ∨ (0 ≤ m ∧ m < p))) (hx : ∃ n ∈ ns, n ≠ 0) : MadeOk p ns := by
  refine ⟨hp, hx, fun h0 n hn => ?_, hl, fun n hn => up1000 (big_lt (h n hn).1)⟩
  rcases (h n hn).2 with h | h
  · exact absurd h h0
  · exact h
end Num
namespace Num
open PySem
theorem fits_small {p n : Int} (hp : PrimeI p) (n0 : 0 ≤ n) (np : n < p) : fits p (.int n) = true := by
  have := hp.small
  show ((decide (-big < n) && decide (n < big)) && (decide (p = 0) || (decide (0 ≤ n) && decide (n < p)))) = true
  rw [decide_eq_true (show -big < n by unfold big; omega), decide_eq_true (show n < big by unfold big; omega), decide_eq_true n0, decide_eq_true np, Bool.and_true, Bool.or_true]
  rfl
end Num
namespace Num
open PySem
theorem inv_perm_all : ∀ p ∈ primes, (upto 1 (p - 1).toNat).isPerm ((upto 1 (p - 1).toNat).map (inv p)) = true := by decide +kernel
theorem inv_perm {p : Int} (hp : PrimeI p) (h0 : p ≠ 0) : (upto 1 (p - 1).toNat).Perm ((upto 1 (p - 1).toNat).map (inv p)) := by
  rcases hp with h | h
  · exact absurd h h0
  · exact List.isPerm_iff.mp (inv_perm_all p h)
theorem inv_ones_all : ∀ p ∈ primes, decide ((((upto 1 (p - 1).toNat).zip ((upto 1 (p - 1).toNat).map (inv p))).map fun q => q.1 * q.2 % p) = List.replicate (p - 1).toNat 1) = true := by decide +kernel
theorem inv_ones {p : Int} (hp : PrimeI p) (h0 : p ≠ 0) : (((upto 1 (p - 1).toNat).zip ((upto 1 (p - 1).toNat).map (inv p))).map fun q => q.1 * q.2 % p) = List.replicate (p - 1).toNat 1 := by
  rcases hp with h | h
  · exact absurd h h0
  · exact of_decide_eq_true (inv_ones_all p h)
theorem upto_sorted (lo : Int) (n : Nat) : (upto lo n).Pairwise (· ≤ ·) := by
  unfold upto
  rw [List.pairwise_map]
  exact List.pairwise_le_range.imp fun h => by omega
end Num
namespace Num
open PySem
/-! ### the rows that are drawn -/
def valF (p : Int) (ns : List Int) : Int × List Int := if p > 0 then (1, ns) else oneF [2, -6, 4, 1] ns
def timesF (p : Int) (ns : List Int) : Int × List Int := if p = 0 then oneF [1, 1, -1, 6, 10 ^ 57, 10 ^ 58] ns else (1, ns)
def manyF (ns : List Int) : Int × List Int := oneF [1, 2, 3, 3, 5, 140] ns
def row0F (p : Int) (ns : List Int) : List Int × List Int := drawsF (numberF p 9) (manyF ns).1.toNat (manyF ns).2
def row1F (p : Int) (ns : List Int) : List Int × List Int :=
  ((row0F p ns).1.set (grabF (manyF ns).1 (valF p (row0F p ns).2).2).1.toNat (valF p (row0F p ns).2).1, (grabF (manyF ns).1 (valF p (row0F p ns).2).2).2)
def rowF (p : Int) (ns : List Int) : List Int × List Int := ((row1F p ns).1.map fun n => (timesF p (row1F p ns).2).1 * n, (timesF p (row1F p ns).2).2)
theorem many_mem (ns : List Int) : (manyF ns).1 = 1 ∨ (manyF ns).1 = 2 ∨ (manyF ns).1 = 3 ∨ (manyF ns).1 = 5 ∨ (manyF ns).1 = 140 := by
  have h := one_mem (xs := [1, 2, 3, 3, 5, 140]) (by decide) ns
  unfold manyF
  simp only [List.mem_cons, List.not_mem_nil, or_false] at h
  omega
theorem many_rng (ns : List Int) : 1 ≤ (manyF ns).1 ∧ (manyF ns).1 ≤ 140 := by
  have := many_mem ns
  omega
theorem val_mem {p : Int} (hp : PrimeI p) (ns : List Int) : (valF p ns).1 ≠ 0 ∧ (valF p ns).1.natAbs ≤ 9 ∧ (p ≠ 0 → (valF p ns).1 = 1) := by
  have hs := hp.small
  unfold valF
  by_cases h : p > 0
  · rw [if_pos h]
    show (1 : Int) ≠ 0 ∧ (1 : Int).natAbs ≤ 9 ∧ (p ≠ 0 → (1 : Int) = 1)
    exact ⟨by decide, by decide, fun _ => rfl⟩
  · rw [if_neg h]
    have hm := one_mem (xs := [2, -6, 4, 1]) (by decide) ns
    simp only [List.mem_cons, or_false, List.not_mem_nil] at hm
    refine ⟨?_, ?_, fun h0 => absurd h (by omega)⟩ <;> rcases hm with h | h | h | h <;> rw [h] <;> decide
theorem times_mem {p : Int} (ns : List Int) : (timesF p ns).1 ≠ 0 ∧ (timesF p ns).1.natAbs ≤ 10 ^ 58 ∧ (p ≠ 0 → (timesF p ns).1 = 1) := by
  unfold timesF
  by_cases h : p = 0
  · rw [if_pos h]
    have hm := one_mem (xs := [1, 1, -1, 6, 10 ^ 57, 10 ^ 58]) (by decide) ns
    simp only [List.mem_cons, or_false, List.not_mem_nil] at hm
    refine ⟨?_, ?_, fun h0 => absurd h h0⟩ <;> rcases hm with h | h | h | h | h | h <;> rw [h] <;> decide
  · rw [if_neg h]
    show (1 : Int) ≠ 0 ∧ (1 : Int).natAbs ≤ 10 ^ 58 ∧ (p ≠ 0 → (1 : Int) = 1)
    exact ⟨by decide, by decide, fun _ => rfl⟩
theorem row0_len (p : Int) (ns : List Int) : (row0F p ns).1.length = (manyF ns).1.toNat := draws_len _ _ _
theorem row0_all {p : Int} (hp : PrimeI p) (ns : List Int) : ∀ n ∈ (row0F p ns).1, n.natAbs ≤ 19 ∧ (p = 0 → n.natAbs ≤ 9) ∧ (p ≠ 0 → 0 ≤ n ∧ n < p) :=
  draws_all (P := fun n => n.natAbs ≤ 19 ∧ (p = 0 → n.natAbs ≤ 9) ∧ (p ≠ 0 → 0 ≤ n ∧ n < p)) (fun ns => by
    have h := number_rng hp (s := 9) (by decide) ns
    have hs := hp.small
    refine ⟨by omega, fun h0 => ?_, fun h0 => (h.2.2.1 h0)⟩
    subst h0
    have e : numberF 0 9 ns = ((grabF (2 * 9 + 1) ns).1 - 9, (grabF (2 * 9 + 1) ns).2) := by unfold numberF; rw [if_pos rfl]
    have g := grab_rng (t := 2 * 9 + 1) (by decide) ns
    rw [e]
    show ((grabF (2 * 9 + 1) ns).1 - 9).natAbs ≤ 9
    omega) _ _
theorem row1_all {p : Int} (hp : PrimeI p) (ns : List Int) : ∀ n ∈ (row1F p ns).1, n.natAbs ≤ 19 ∧ (p = 0 → n.natAbs ≤ 9) ∧ (p ≠ 0 → 0 ≤ n ∧ n < p) := by
  have hv := val_mem hp (row0F p ns).2
  intro n hn
  rcases List.mem_or_eq_of_mem_set hn with h | h
  · exact row0_all hp ns n h
  · rw [h]
    refine ⟨by omega, fun _ => hv.2.1, fun h0 => ?_⟩
    rw [hv.2.2 h0]
    have := prime_pos hp h0
    omega
theorem row_ok {p : Int} (hp : PrimeI p) (ns : List Int) : (rowF p ns).1.length ≤ 140 ∧ (∀ m ∈ (rowF p ns).1, (-big < m ∧ m < big) ∧ (p = 0 ∨ (0 ≤ m ∧ m < p))) ∧ ∃ n ∈ (rowF p ns).1, n ≠ 0 := by
  have hv := val_mem hp (row0F p ns).2
  have ht := times_mem (p := p) (row1F p ns).2
  have hm := many_rng ns
  have hl := row0_len p ns
  have hg := grab_rng (t := (manyF ns).1) (by omega) (valF p (row0F p ns).2).2
  have hp1 := hp.small
  have mem1 := row1_all hp ns
  refine ⟨?_, fun m hmm => ?_, ?_⟩
  · unfold rowF row1F
    rw [List.length_map, List.length_set, hl]
    omega
  · obtain ⟨n, hn, rfl⟩ := List.mem_map.mp hmm
    have h := mem1 n hn
    by_cases h0 : p = 0
    · have h9 := h.2.1 h0
      have e : ((timesF p (row1F p ns).2).1 * n).natAbs ≤ 10 ^ 58 * 9 := by
        rw [Int.natAbs_mul]
        exact Nat.mul_le_mul ht.2.1 h9
      refine ⟨?_, .inl h0⟩
      unfold big
      omega
    · show (-big < (timesF p (row1F p ns).2).1 * n ∧ (timesF p (row1F p ns).2).1 * n < big) ∧ _
      rw [ht.2.2 h0, Int.one_mul]
      have := h.2.2 h0
      exact ⟨by unfold big; omega, .inr this⟩
  · have hlt : (grabF (manyF ns).1 (valF p (row0F p ns).2).2).1.toNat < (row0F p ns).1.length := by rw [hl]; omega
    refine ⟨(timesF p (row1F p ns).2).1 * (valF p (row0F p ns).2).1, List.mem_map.mpr ⟨(valF p (row0F p ns).2).1, List.mem_set hlt _, rfl⟩, Int.mul_ne_zero ht.1 hv.1⟩
theorem one_bag' {xs : List Int} (h : xs ≠ []) {ns : List Int} (hb : ∃ n, BagI n ns) : ∃ n, BagI n (oneF xs ns).2 := let ⟨n, hn⟩ := hb; ⟨n + 1, one_bag h hn⟩
theorem row_bag {p : Int} (hp : PrimeI p) {ns : List Int} (hb : ∃ n, BagI n ns) : (∃ n, BagI n (manyF ns).2) ∧ (∃ n, BagI n (row0F p ns).2) ∧ (∃ n, BagI n (valF p (row0F p ns).2).2) ∧ (∃ n, BagI n (row1F p ns).2) ∧ ∃ n, BagI n (rowF p ns).2 := by
  have h1 := one_bag' (xs := [1, 2, 3, 3, 5, 140]) (by decide) hb
  obtain ⟨n1, h1'⟩ := h1
  have h2 : ∃ n, BagI n (row0F p ns).2 := ⟨_, draws_bag (fun h => number_bag hp (s := 9) (by decide) h) _ h1'⟩
  have h3 : ∃ n, BagI n (valF p (row0F p ns).2).2 := by
    unfold valF
    split
    · exact h2
    · exact one_bag' (by decide) h2
  have hm := many_rng ns
  obtain ⟨n3, h3'⟩ := h3
  have h4 : ∃ n, BagI n (row1F p ns).2 := ⟨n3 + 1, grab_bag (by omega) h3'⟩
  refine ⟨⟨n1, h1'⟩, h2, ⟨n3, h3'⟩, h4, ?_⟩
  show ∃ n, BagI n (timesF p (row1F p ns).2).2
  unfold timesF
  split
  · exact one_bag' (by decide) h4
  · exact h4
end Num
/-! ## NumB -/
set_option Elab.async false
set_option linter.all false
set_option maxRecDepth 100000
/-! Numbers: what is made normal, told in many ways. Plain Lean. -/
namespace Num
open PySem
/-- numbers as they are drawn and passed -/
structure NumsOk (p : Int) (ns : List Int) : Prop where
  pr : PrimeI p
  len : ns.length ≤ 140
  rng : ∀ m ∈ ns, (-big < m ∧ m < big) ∧ (p = 0 ∨ (0 ≤ m ∧ m < p))
  ex : ∃ n ∈ ns, n ≠ 0
theorem NumsOk.made {p : Int} {ns : List Int} (h : NumsOk p ns) : MadeOk p ns := madeOk_tup h.pr h.len h.rng h.ex
theorem NumsOk.tup {p : Int} {ns : List Int} (h : NumsOk p ns) : okTup p (.tuple (ns.map PyData.int)) = true := okTup_of h.len h.rng h.ex
theorem normal_same {p : Int} {ns : List Int} (h : MadeOk p ns) : normalF p ns = Num.made p ns := by
  have e : ns.map (settled p) = ns := by
    conv => rhs; rw [← List.map_id ns]
    exact List.map_congr_left fun n hn => settled_id h hn
  unfold normalF
  rw [e, if_neg]
  intro z
  obtain ⟨n, hn, h0⟩ := h.ex
  unfold allZero at z
  rw [List.all_eq_true] at z
  exact h0 (of_decide_eq_true (z n hn))
/-- the divisor with its sign -/
def sgnG (ns : List Int) : Int := if firstI ns < 0 then -(gcdL 0 ns) else gcdL 0 ns
theorem sgn_ne {ns : List Int} (hx : ∃ n ∈ ns, n ≠ 0) : sgnG ns ≠ 0 := by
  have := gcdL_pos hx
  unfold sgnG
  split <;> omega
theorem sgn_dvd {ns : List Int} {n : Int} (hn : n ∈ ns) : sgnG ns ∣ n := by
  have := (gcdL_dvd ns 0).2 n hn
  unfold sgnG
  split
  · exact Int.neg_dvd.mpr this
  · exact this
theorem made0_back {ns : List Int} (hx : ∃ n ∈ ns, n ≠ 0) : (made 0 ns).map (fun n => sgnG ns * n) = ns := by
  rw [made_zero, List.map_map]
  conv => rhs; rw [← List.map_id ns]
  refine List.map_congr_left fun n hn => ?_
  obtain ⟨q, hq⟩ := sgn_dvd hn
  show sgnG ns * n.fdiv (sgnG ns) = n
  have h0 := sgn_ne hx
  generalize sgnG ns = s at *
  rw [hq, Int.mul_fdiv_cancel_left _ h0]
theorem made_rng {p : Int} {ns : List Int} (h : NumsOk p ns) : ∀ m ∈ made p ns, (-big < m ∧ m < big) ∧ (p = 0 ∨ (0 ≤ m ∧ m < p)) := by
  intro m hm
  have hz := made_sz h.made (k := (big - 1).toNat) (by decide) (fun n hn => by have := (h.rng n hn).1; unfold big at *; omega) m hm
  have e : (big - 1).toNat = 999999999999999999999999999999999999999999999999999999999999 := by decide
  refine ⟨by rw [e] at hz; unfold big; omega, ?_⟩
  by_cases h0 : p = 0
  · exact .inl h0
  · right
    unfold made at hm
    rw [if_pos h0] at hm
    obtain ⟨n, hn, rfl⟩ := List.mem_map.mp hm
    have h2 := prime_pos h.pr h0
    exact ⟨Int.emod_nonneg _ (by omega), Int.emod_lt_of_pos _ (by omega)⟩
theorem NumsOk.madeNums {p : Int} {ns : List Int} (h : NumsOk p ns) : NumsOk p (Num.made p ns) := ⟨h.pr, by rw [made_len]; exact h.len, made_rng h, made_ex h.made⟩
theorem inv_ne {p : Int} {ns : List Int} (h : MadeOk p ns) (h0 : p ≠ 0) : inv p (firstI ns) % p ≠ 0 := by
  obtain ⟨f1, f2⟩ := h.first h0
  obtain ⟨i1, i2, i3⟩ := inv_lt h.pr h0 f1 f2
  rw [Int.emod_eq_of_lt (by omega) i2]
  omega
theorem made_back {p : Int} {ns : List Int} (h : MadeOk p ns) (h0 : p ≠ 0) : ((made p ns).map fun n => settled p (n * firstI ns)) = ns := by
  obtain ⟨f1, f2⟩ := h.first h0
  obtain ⟨i1, i2, i3⟩ := inv_lt h.pr h0 f1 f2
  unfold made
  rw [if_pos h0, List.map_map]
  conv => rhs; rw [← List.map_id ns]
  refine List.map_congr_left fun n hn => ?_
  have hb := h.lt h0 n hn
  show settled p (n * inv p (firstI ns) % p * firstI ns) = n
  unfold settled
  rw [if_pos h0]
  generalize firstI ns = f at *
  generalize inv p f = i at *
  have e1 := Int.emod_add_mul_ediv (n * i) p
  have e2 := Int.emod_add_mul_ediv (f * i) p
  rw [i3] at e2
  generalize n * i % p = u at *
  generalize n * i / p = v at *
  generalize f * i / p = t at *
  have e3 : u * f = n + p * (n * t - v * f) := by grind
  rw [emod_eq_of (b := n) (c := n * t - v * f) e3, Int.emod_eq_of_lt hb.1 hb.2]
theorem first_made {p : Int} {ns : List Int} (h : MadeOk p ns) : (p ≠ 0 → firstI (made p ns) = 1) ∧ (p = 0 → 0 < firstI (made p ns)) := by
  obtain ⟨_, _, hm, hf⟩ := first_cons h.ex
  constructor
  · intro h0
    obtain ⟨f1, f2⟩ := h.first h0
    obtain ⟨i1, i2, i3⟩ := inv_lt h.pr h0 f1 f2
    unfold made
    rw [if_pos h0, first_map (fun n => n * inv p (firstI ns) % p) (fun n hn => ?_) (by simp)]
    · exact i3
    · have hb := h.lt h0 n hn
      constructor
      · intro z
        rw [Int.mul_comm] at z
        have := mul_zero_mod h.pr h0 (inv_ne h h0) z
        rw [Int.emod_eq_of_lt hb.1 hb.2] at this
        exact this
      · rintro rfl
        simp
  · intro h0
    subst h0
    have hg := gcdL_pos h.ex
    rw [made_zero]
    show 0 < firstI (ns.map fun n => n.fdiv (sgnG ns))
    rw [first_map (fun n => n.fdiv (sgnG ns)) (fun n hn => ?_) (by simp)]
    · obtain ⟨q, hq⟩ := sgn_dvd hm
      have hs := sgn_ne h.ex
      show 0 < (firstI ns).fdiv (sgnG ns)
      have e : (firstI ns).fdiv (sgnG ns) = q := by
        conv => lhs; rw [hq]
        generalize sgnG ns = s at *
        rw [Int.mul_fdiv_cancel_left _ hs]
      rw [e]
      unfold sgnG at hq hs
      generalize firstI ns = f at *
      generalize gcdL 0 ns = g at *
      split at hq
      · rename_i h1
        rcases Int.lt_trichotomy q 0 with h2 | h2 | h2
        · have h3 := Int.mul_pos hg (show 0 < -q by omega)
          have h4 : -g * q = g * -q := by grind
          omega
        · subst h2; rw [Int.mul_zero] at hq; omega
        · exact h2
      · rename_i h1
        rcases Int.lt_trichotomy q 0 with h2 | h2 | h2
        · have h3 := Int.mul_pos hg (show 0 < -q by omega)
          have h4 : g * q = -(g * -q) := by grind
          omega
        · subst h2; rw [Int.mul_zero] at hq; omega
        · exact h2
    · obtain ⟨q, hq⟩ := sgn_dvd hn
      have hs := sgn_ne h.ex
      generalize sgnG ns = s at *
      subst hq
      rw [Int.mul_fdiv_cancel_left _ hs]
      constructor
      · rintro rfl; simp
      · intro z; exact (Int.mul_eq_zero.mp z).resolve_left hs
theorem gcd_made {ns : List Int} (h : MadeOk 0 ns) : gcdL 0 (made 0 ns) = 1 := by
  have e := gcdL_mul (sgnG ns) (made 0 ns)
  rw [made0_back h.ex] at e
  have hg := gcdL_pos h.ex
  have hs : ((sgnG ns).natAbs : Int) = gcdL 0 ns := by
    unfold sgnG
    split <;> omega
  rw [hs] at e
  have e1 : gcdL 0 ns * gcdL 0 (made 0 ns) = gcdL 0 ns * 1 := by rw [Int.mul_one]; exact e.symm
  exact Int.eq_of_mul_eq_mul_left (by omega) e1
/-- the factor that is drawn beside -/
def times2F (p : Int) (ns : List Int) : Int × List Int := if p = 0 then oneF [-1, 2, -3] ns else (1 + (grabF (p - 1) ns).1, (grabF (p - 1) ns).2)
theorem times2_ok {p : Int} (hp : PrimeI p) (ns : List Int) : (times2F p ns).1.natAbs ≤ 19 ∧ settled p (times2F p ns).1 ≠ 0 := by
  unfold times2F
  by_cases h0 : p = 0
  · rw [if_pos h0]
    have hm := one_mem (xs := [-1, 2, -3]) (by decide) ns
    simp only [List.mem_cons, or_false, List.not_mem_nil] at hm
    subst h0
    rcases hm with h | h | h <;> rw [h] <;> decide
  · rw [if_neg h0]
    have h2 := prime_pos hp h0
    have hg := grab_rng (t := p - 1) (by omega) ns
    show (1 + (grabF (p - 1) ns).1).natAbs ≤ 19 ∧ settled p (1 + (grabF (p - 1) ns).1) ≠ 0
    refine ⟨by omega, ?_⟩
    unfold settled
    rw [if_pos h0, Int.emod_eq_of_lt (by omega) (by omega)]
    omega
theorem times2_bag {p : Int} (hp : PrimeI p) {ns : List Int} (hb : ∃ n, BagI n ns) : ∃ n, BagI n (times2F p ns).2 := by
  unfold times2F
  by_cases h0 : p = 0
  · rw [if_pos h0]
    exact one_bag' (by decide) hb
  · rw [if_neg h0]
    obtain ⟨n, hn⟩ := hb
    have h2 := prime_pos hp h0
    exact ⟨n + 1, grab_bag (by omega) hn⟩
theorem row_nums {p : Int} (hp : PrimeI p) (ns : List Int) : NumsOk p (rowF p ns).1 := ⟨hp, (row_ok hp ns).1, (row_ok hp ns).2.1, (row_ok hp ns).2.2⟩
/-- a multiple of them, if it is not too great -/
theorem more_ok {p t : Int} {ns : List Int} (h : NumsOk p ns) (ht : settled p t ≠ 0) {M : Int} (hM : ∀ m ∈ (ns.map fun n => settled p (t * n)).map absI, m ≤ M) (hb : M < big) : NumsOk p (ns.map fun n => settled p (t * n)) ∧ made p (ns.map fun n => settled p (t * n)) = made p ns := by
  have e := made_low h.pr ht (fun h0 n hn => (h.made.lt h0 n hn)) h.ex
  refine ⟨⟨h.pr, by rw [List.length_map]; exact h.len, fun m hm => ?_, ?_⟩, e⟩
  · have h1 := hM (absI m) (List.mem_map.mpr ⟨m, hm, rfl⟩)
    unfold absI at h1
    refine ⟨by unfold big at *; omega, ?_⟩
    by_cases h0 : p = 0
    · exact .inl h0
    · obtain ⟨n, _, rfl⟩ := List.mem_map.mp hm
      exact .inr (settled_rng h.pr h0)
  · obtain ⟨n, hn, h0⟩ := h.ex
    refine ⟨settled p (t * n), List.mem_map.mpr ⟨n, hn, rfl⟩, fun z => h0 ?_⟩
    have z2 := settled_mul h.pr ht z
    rwa [settled_id h.made hn] at z2
end Num
/-! ## NumX -/
set_option Elab.async false
set_option linter.all false
set_option maxRecDepth 100000
/-! Four spots: brackets, cross ratios, and what a table makes of them. Plain Lean. -/
namespace Num
open PySem
/-- equal up to the prime -/
def Cong (p a b : Int) : Prop := settled p a = settled p b
theorem cong_iff {p a b : Int} : Cong p a b ↔ ∃ q, a = b + p * q := by
  unfold Cong settled
  by_cases h0 : p = 0
  · subst h0
    simp only [ne_eq, not_true_eq_false, if_false]
    exact ⟨fun h => ⟨0, by rw [h]; simp⟩, fun ⟨q, h⟩ => by rw [h]; simp⟩
  · rw [if_pos h0, if_pos h0]
    constructor
    · intro h
      have e1 := Int.emod_add_mul_ediv a p
      have e2 := Int.emod_add_mul_ediv b p
      exact ⟨a / p - b / p, by grind⟩
    · rintro ⟨q, h⟩
      exact emod_eq_of h
theorem Cong.refl (p a : Int) : Cong p a a := rfl
theorem Cong.symm {p a b : Int} (h : Cong p a b) : Cong p b a := Eq.symm h
theorem Cong.trans {p a b c : Int} (h : Cong p a b) (h' : Cong p b c) : Cong p a c := Eq.trans h h'
theorem Cong.add {p a b c d : Int} (h : Cong p a b) (h' : Cong p c d) : Cong p (a + c) (b + d) := by
  obtain ⟨q, rfl⟩ := cong_iff.mp h
  obtain ⟨r, rfl⟩ := cong_iff.mp h'
  exact cong_iff.mpr ⟨q + r, by grind⟩
theorem Cong.mul {p a b c d : Int} (h : Cong p a b) (h' : Cong p c d) : Cong p (a * c) (b * d) := by
  obtain ⟨q, rfl⟩ := cong_iff.mp h
  obtain ⟨r, rfl⟩ := cong_iff.mp h'
  exact cong_iff.mpr ⟨b * r + q * d + p * q * r, by grind⟩
theorem Cong.sub {p a b c d : Int} (h : Cong p a b) (h' : Cong p c d) : Cong p (a - c) (b - d) := by
  obtain ⟨q, rfl⟩ := cong_iff.mp h
  obtain ⟨r, rfl⟩ := cong_iff.mp h'
  exact cong_iff.mpr ⟨q - r, by grind⟩
theorem cong_settled (p a : Int) : Cong p (settled p a) a := by
  refine cong_iff.mpr ?_
  unfold settled
  by_cases h0 : p = 0
  · rw [if_neg (by simpa using h0)]
    exact ⟨0, by simp⟩
  · rw [if_pos h0]
    have e1 := Int.emod_add_mul_ediv a p
    exact ⟨-(a / p), by grind⟩
/-- a factor that can be undone -/
def UnitI (p k : Int) : Prop := settled p k ≠ 0
theorem UnitI.mul {p a b : Int} (hp : PrimeI p) (ha : UnitI p a) (hb : UnitI p b) : UnitI p (a * b) := fun z => hb (settled_mul hp ha z)
theorem UnitI.of_cong {p a b : Int} (h : Cong p a b) (ha : UnitI p a) : UnitI p b := fun z => ha (Eq.trans h z)
/-- the normal form depends on the residues alone -/
theorem normal_cong {p : Int} {xs ys : List Int} (h : xs.map (settled p) = ys.map (settled p)) : normalF p xs = normalF p ys := by
  unfold normalF
  rw [h]
theorem settled_zero (p : Int) : settled p 0 = 0 := by
  unfold settled
  split
  · exact Int.zero_emod p
  · rfl
theorem normal_mul {p k : Int} (hp : PrimeI p) (hk : UnitI p k) (xs : List Int) : normalF p (xs.map fun n => k * n) = normalF p xs := by
  have e : (xs.map fun n => k * n).map (settled p) = (xs.map (settled p)).map fun n => settled p (k * n) := by
    (rw [List.map_map, List.map_map])
    exact List.map_congr_left fun n _ => ((Cong.refl p k).mul (cong_settled p n)).symm
  unfold normalF
  rw [e]
  have hr : p ≠ 0 → ∀ n ∈ xs.map (settled p), 0 ≤ n ∧ n < p := fun h0 n hn => by
    obtain ⟨m, _, rfl⟩ := List.mem_map.mp hn
    exact settled_rng hp h0
  generalize xs.map (settled p) = ys at *
  cases hz : allZero ys with
  | true =>
    have hy : (ys.map fun n => settled p (k * n)) = ys := by
      conv => rhs; rw [← List.map_id ys]
      refine List.map_congr_left fun n hn => ?_
      have h0 : n = 0 := of_decide_eq_true ((List.all_eq_true.mp hz) n hn)
      subst h0
      rw [Int.mul_zero, settled_zero]
      rfl
    rw [hy, hz]
  | false =>
    have hx := allZero_ex hz
    have hz2 : allZero (ys.map fun n => settled p (k * n)) = false := by
      cases q : allZero (ys.map fun n => settled p (k * n)) with
      | false => rfl
      | true =>
        obtain ⟨n, hn, h0⟩ := hx
        have h1 := of_decide_eq_true ((List.all_eq_true.mp q) _ (List.mem_map_of_mem hn))
        have h2 := settled_mul hp hk h1
        refine absurd ?_ h0
        by_cases hp0 : p = 0
        · subst hp0
          exact h2
        · have := hr hp0 n hn
          unfold settled at h2
          rw [if_pos hp0, Int.emod_eq_of_lt this.1 this.2] at h2
          exact h2
    rw [hz2, if_neg (by decide), if_neg (by decide)]
    exact made_low hp hk hr hx
/-- a pair and its normal form: a factor lies between them -/
theorem pair_unit {p x y : Int} (hp : PrimeI p) (hx : x.natAbs < 2 ^ 1000) (hy : y.natAbs < 2 ^ 1000) : ∃ u v k, normalF p [x, y] = [u, v] ∧ UnitI p k ∧ Cong p x (k * u) ∧ Cong p y (k * v) := by
  cases hz : allZero ([x, y].map (settled p)) with
  | true =>
    have e : normalF p [x, y] = [settled p x, settled p y] := by
      unfold normalF
      rw [hz]
      rfl
    have one : UnitI p 1 := by
      unfold UnitI settled
      by_cases h0 : p = 0
      · subst h0; decide
      · have := prime_pos hp h0
        rw [if_pos h0, Int.emod_eq_of_lt (by decide) (by omega)]
        decide
    exact ⟨_, _, 1, e, one, by rw [Int.one_mul]; exact (cong_settled p x).symm, by rw [Int.one_mul]; exact (cong_settled p y).symm⟩
  | false =>
    have hM := told_ok (ns := [x, y]) hp (by show 2 ≤ 140; decide) (fun n hn => by
      simp only [List.mem_cons, List.not_mem_nil, or_false] at hn
      rcases hn with h | h <;> rw [h] <;> assumption) hz
    have e : normalF p [x, y] = made p ([x, y].map (settled p)) := by
      unfold normalF
      rw [hz]
      rfl
    rw [e]
    by_cases h0 : p = 0
    · subst h0
      have hb := made0_back hM.ex
      have hs := sgn_ne hM.ex
      have hl := made_len 0 ([x, y].map (settled 0))
      generalize sgnG ([x, y].map (settled 0)) = g at *
      generalize made 0 ([x, y].map (settled 0)) = t at *
      match t, hl with
      | [u, v], _ =>
        have h1 : g * u = settled 0 x := (List.cons.inj hb).1
        have h2 : g * v = settled 0 y := (List.cons.inj (List.cons.inj hb).2).1
        exact ⟨u, v, g, rfl, hs, (cong_settled 0 x).symm.trans (by rw [h1]; rfl), (cong_settled 0 y).symm.trans (by rw [h2]; rfl)⟩
    · have hb := made_back hM h0
      have hl := made_len p ([x, y].map (settled p))
      have hf := hM.first h0
      generalize firstI ([x, y].map (settled p)) = g at *
      generalize made p ([x, y].map (settled p)) = t at *
      match t, hl with
      | [u, v], _ =>
        have h1 : settled p (u * g) = settled p x := (List.cons.inj hb).1
        have h2 : settled p (v * g) = settled p y := (List.cons.inj (List.cons.inj hb).2).1
        refine ⟨u, v, g, rfl, ?_, (show settled p x = settled p (g * u) by rw [Int.mul_comm]; exact h1.symm), (show settled p y = settled p (g * v) by rw [Int.mul_comm]; exact h2.symm)⟩
        unfold UnitI settled
        rw [if_pos h0, Int.emod_eq_of_lt (by omega) hf.2]
        omega
theorem normal_of {p x y x' y' k : Int} (hp : PrimeI p) (hk : UnitI p k) (h1 : Cong p x (k * x')) (h2 : Cong p y (k * y')) : normalF p [x, y] = normalF p [x', y'] := by
  rw [← normal_mul hp hk [x', y']]
  exact normal_cong (by
    show [settled p x, settled p y] = [settled p (k * x'), settled p (k * y')]
    rw [show settled p x = settled p (k * x') from h1, show settled p y = settled p (k * y') from h2])
/-- what is made of a pair by whole numbers, made of its normal form -/
theorem normal_lin {p x y u v : Int} (hp : PrimeI p) (hx : x.natAbs < 2 ^ 1000) (hy : y.natAbs < 2 ^ 1000) (e : normalF p [x, y] = [u, v]) (a b c d : Int) : normalF p [a * x + b * y, c * x + d * y] = normalF p [a * u + b * v, c * u + d * v] := by
  obtain ⟨u', v', k, e', hk, h1, h2⟩ := pair_unit hp hx hy
  rw [e] at e'
  cases e'
  refine normal_of hp hk ?_ ?_
  · have := ((Cong.refl p a).mul h1).add ((Cong.refl p b).mul h2)
    rwa [show a * (k * u) + b * (k * v) = k * (a * u + b * v) by grind] at this
  · have := ((Cong.refl p c).mul h1).add ((Cong.refl p d).mul h2)
    rwa [show c * (k * u) + d * (k * v) = k * (c * u + d * v) by grind] at this
/-! ### brackets -/
def br (x y : Int × Int) : Int := x.1 * y.2 - x.2 * y.1
def crI (a b c d : Int × Int) : Int × Int := (br a c * br b d, br a d * br b c)
def crF (p : Int) (a b c d : Int × Int) : List Int := normalF p [(crI a b c d).1, (crI a b c d).2]
theorem crI_last (a b c d : Int × Int) : crI a b d c = ((crI a b c d).2, (crI a b c d).1) := rfl
theorem crI_pairs (a b c d : Int × Int) : crI c d a b = crI a b c d := by
  unfold crI br
  ext <;> dsimp only <;> grind
theorem crI_mid (a b c d : Int × Int) : crI a c b d = ((crI a b c d).1 - (crI a b c d).2, 0 - (crI a b c d).2) := by
  unfold crI br
  ext <;> dsimp only <;> grind
/-- a table's image, ahead of the normal form -/
def ledI (t : (Int × Int) × (Int × Int)) (s : Int × Int) : Int × Int := (t.2.1 * s.2 + t.2.2 * (0 - s.1), 0 - (t.1.1 * s.2 + t.1.2 * (0 - s.1)))
def detI (t : (Int × Int) × (Int × Int)) : Int := t.1.1 * t.2.2 - t.1.2 * t.2.1
theorem br_led (t : (Int × Int) × (Int × Int)) (x y : Int × Int) : br (ledI t x) (ledI t y) = detI t * br x y := by
  unfold br ledI detI
  dsimp only
  grind
theorem br_cong {p k l : Int} {x y u v : Int × Int} (h1 : Cong p x.1 (k * u.1)) (h2 : Cong p x.2 (k * u.2)) (h3 : Cong p y.1 (l * v.1)) (h4 : Cong p y.2 (l * v.2)) : Cong p (br x y) (k * l * br u v) := by
  have := (h1.mul h4).sub (h2.mul h3)
  unfold br
  rwa [show k * u.1 * (l * v.2) - k * u.2 * (l * v.1) = k * l * (u.1 * v.2 - u.2 * v.1) by grind] at this
/-- spots that are led by a table keep their cross ratio -/
theorem crF_led {p : Int} (hp : PrimeI p) {t : (Int × Int) × (Int × Int)} (ht : UnitI p (detI t)) {a b c d a' b' c' d' : Int × Int} {ka kb kc kd : Int} (ua : UnitI p ka) (ub : UnitI p kb) (uc : UnitI p kc) (ud : UnitI p kd)
    (ha : Cong p (ledI t a).1 (ka * a'.1) ∧ Cong p (ledI t a).2 (ka * a'.2)) (hb : Cong p (ledI t b).1 (kb * b'.1) ∧ Cong p (ledI t b).2 (kb * b'.2)) (hc : Cong p (ledI t c).1 (kc * c'.1) ∧ Cong p (ledI t c).2 (kc * c'.2)) (hd : Cong p (ledI t d).1 (kd * d'.1) ∧ Cong p (ledI t d).2 (kd * d'.2)) :
    crF p a' b' c' d' = crF p a b c d := by
  have hk : UnitI p (ka * kb * kc * kd) := UnitI.mul hp (UnitI.mul hp (UnitI.mul hp ua ub) uc) ud
  have hD : UnitI p (detI t * detI t) := UnitI.mul hp ht ht
  have e1 : Cong p (detI t * detI t * (crI a b c d).1) (ka * kb * kc * kd * (crI a' b' c' d').1) := by
    have := (br_cong ha.1 ha.2 hc.1 hc.2).mul (br_cong hb.1 hb.2 hd.1 hd.2)
    rw [br_led, br_led] at this
    unfold crI
    dsimp only
    rwa [show detI t * br a c * (detI t * br b d) = detI t * detI t * (br a c * br b d) by grind, show ka * kc * br a' c' * (kb * kd * br b' d') = ka * kb * kc * kd * (br a' c' * br b' d') by grind] at this
  have e2 : Cong p (detI t * detI t * (crI a b c d).2) (ka * kb * kc * kd * (crI a' b' c' d').2) := by
    have := (br_cong ha.1 ha.2 hd.1 hd.2).mul (br_cong hb.1 hb.2 hc.1 hc.2)
    rw [br_led, br_led] at this
    unfold crI
    dsimp only
    rwa [show detI t * br a d * (detI t * br b c) = detI t * detI t * (br a d * br b c) by grind, show ka * kd * br a' d' * (kb * kc * br b' c') = ka * kb * kc * kd * (br a' d' * br b' c') by grind] at this
  unfold crF
  rw [← normal_mul hp hk [(crI a' b' c' d').1, (crI a' b' c' d').2], ← normal_mul hp hD [(crI a b c d).1, (crI a b c d).2]]
  exact normal_cong (by
    show [settled p _, settled p _] = [settled p _, settled p _]
    rw [show settled p _ = settled p _ from e1.symm, show settled p _ = settled p _ from e2.symm])
/-! ### unlike spots -/
theorem cong_zero {p a : Int} : settled p a = 0 ↔ Cong p a 0 := by
  unfold Cong
  rw [settled_zero]
/-- two spots whose bracket is 0 are one -/
theorem br_unit {p : Int} (hp : PrimeI p) {x y : Int × Int} (nx : normalF p [x.1, x.2] = [x.1, x.2]) (ny : normalF p [y.1, y.2] = [y.1, y.2]) (hx : UnitI p x.1 ∨ UnitI p x.2) (hy : UnitI p y.1 ∨ UnitI p y.2) (hne : x ≠ y) : UnitI p (br x y) := by
  intro z
  have hc : Cong p (x.1 * y.2) (x.2 * y.1) := settled_sub z
  refine hne ?_
  have same : ∀ {k l : Int}, UnitI p k → UnitI p l → Cong p (k * x.1) (l * y.1) → Cong p (k * x.2) (l * y.2) → x = y := fun {k l} hk hl h1 h2 => by
    have e1 := normal_mul hp hk [x.1, x.2]
    have e2 := normal_mul hp hl [y.1, y.2]
    have e3 : normalF p ([x.1, x.2].map fun n => k * n) = normalF p ([y.1, y.2].map fun n => l * n) := normal_cong (by
      show [settled p (k * x.1), settled p (k * x.2)] = [settled p (l * y.1), settled p (l * y.2)]
      rw [show settled p (k * x.1) = settled p (l * y.1) from h1, show settled p (k * x.2) = settled p (l * y.2) from h2])
    rw [e1, e2, nx, ny] at e3
    have h3 := List.cons.inj e3
    exact Prod.ext h3.1 (List.cons.inj h3.2).1
  by_cases u1 : UnitI p x.1
  · have v1 : UnitI p y.1 := fun q => by
      have h0 : Cong p (x.1 * y.2) 0 := hc.trans (by
        have := (Cong.refl p x.2).mul (cong_zero.mp q)
        rwa [Int.mul_zero] at this)
      have h2 := settled_mul hp u1 (cong_zero.mpr h0)
      rcases hy with h | h
      · exact h q
      · exact h h2
    exact same v1 u1 (by rw [Int.mul_comm]; rfl) (by rw [Int.mul_comm]; exact hc.symm)
  · have q1 : settled p x.1 = 0 := Classical.byContradiction fun h => u1 h
    have u2 : UnitI p x.2 := hx.resolve_left u1
    have h0 : Cong p (x.2 * y.1) 0 := hc.symm.trans (by
      have := (cong_zero.mp q1).mul (Cong.refl p y.2)
      rwa [Int.zero_mul] at this)
    have r1 : settled p y.1 = 0 := settled_mul hp u2 (cong_zero.mpr h0)
    have v2 : UnitI p y.2 := hy.resolve_left fun h => h r1
    refine same v2 u2 ?_ (by rw [Int.mul_comm]; rfl)
    have a1 := (Cong.refl p y.2).mul (cong_zero.mp q1)
    rw [Int.mul_zero] at a1
    exact a1.trans h0.symm
end Num
/-! ## TdZ -/
set_option Elab.async false
set_option linter.all false
set_option maxRecDepth 100000
set_option maxHeartbeats 3000000
/-! A comprehension over zip of two tuples, or of two lists. -/
namespace TD
open PySem L2 PySem.Spec PyProof.Rows
open RZ
open Evl (Ex ex_l ex_t fresh_back sq_of st_of sz_of sz_lt)
inductive LcZ [TabW] (K : PySem.W.Frag) (i j : Nat) (tt : TT) (te : TE) : List (Dt × Dt) → Rho → Bag → List Dt → Bag → Prop
  | nil (ρ : Rho) (β : Bag) : LcZ K i j tt te [] ρ β [] β
  | yes {p : Dt × Dt} {r : Dt} {ps : List (Dt × Dt)} {rs : List Dt} {ρ : Rho} {β β1 β2 β3 : Bag} : TtB K tt ((ρ.set i (some (Slot.imm p.1))).set j (some (Slot.imm p.2))) β true β1 →
      EvB K te ((ρ.set i (some (Slot.imm p.1))).set j (some (Slot.imm p.2))) β1 r β2 → LcZ K i j tt te ps ρ β2 rs β3 → LcZ K i j tt te (p :: ps) ρ β (r :: rs) β3
section
variable [TabW] {K : PySem.W.Frag} {b : Addr} {ρ ρ' ρ1 ρx : Rho} {β β1 β2 β3 : Bag} {ta tb te tc : TE} {tt : TT} {x y z d : Dt} {G H G1 H1 G2 H2 : Hp} {σ σx : L2.St}
theorem LcZ.som {i j : Nat} {ps : List (Dt × Dt)} {rs : List Dt} (h : LcZ K i j tt te ps ρ β rs β2) : β2.isSome = β.isSome := by
  induction h with
  | nil => rfl
  | yes h1 h2 _ ih => exact ih.trans (h2.som.trans h1.som)
theorem LcZ.map {i j : Nat} (g : Dt × Dt → Dt) : ∀ {ps : List (Dt × Dt)}, (∀ p ∈ ps, EvB K te ((ρ.set i (some (Slot.imm p.1))).set j (some (Slot.imm p.2))) β (g p) β) → LcZ K i j tYes te ps ρ β (ps.map g) β
  | [], _ => .nil ρ β
  | p :: ps, h => .yes t_yes0 (h p List.mem_cons_self) (LcZ.map g fun q hq => h q (List.mem_cons_of_mem _ hq))
theorem pg_tupK {X : Cx} {K : PySem.W.Frag} {es : List Expr} {k : Nat} {pos : Pos} {t : TGs} {n : Nat} (hc : X.calm = true) (h : PGs X es t) (hK : X.K = K := by rfl)
    (hn : (assignEach es X.env).length = n := by rfl) (hst : (assignEach es X.env).findIdx? (·.1) = none := by rfl) : PG X (.Tuple es k pos) (gTup K n t) := by
  subst hK
  exact pg_tup hc h hn hst
/-- one turn that gives an item, whatever the target -/
theorem lc_turnG {m : Bool} {Dl : Addr} {rs : List Dt} {P P' : List Dt → Bag → Prop} (hD : H1 Dl = none) (nb : m = true → Dl ≠ b) (hz : rs.length ≤ 100000) (E1 : ∀ G β, Step b m G1 H1 G H → BagOk b β G H → EnvD K b β G H σx ρx)
    (hP : ∀ rest β, P rest β → ∃ (r : Dt) (rest' : List Dt) (β1 β2 : Bag), rest = r :: rest' ∧ TtB K tt ρx β true β1 ∧ EvB K te ρx β1 r β2 ∧ P' rest' β2) (hw : LcW K b m G1 H1 Dl rs β3 P H) :
    tt σx H fun c H3 => if c = true then te σx H3 fun y H4 => ∃ acc, H4 Dl = some (.lst acc) ∧ acc.length < sizeLine ∧ LcW K b m G1 H1 Dl rs β3 P' (upd H4 Dl (.lst (acc ++ [y]))) else LcW K b m G1 H1 Dl rs β3 P' H3 := by
  obtain ⟨G, β, done, rest, acc, s, kb, hm, gD, hH, ha, hr, hp⟩ := hw
  have E := E1 G β s kb
  obtain ⟨r, rest', β1, β2, hrr, ht, he, hp'⟩ := hP rest β hp
  refine ht.run b G H _ _ E fun G3 H3 s3 k3 => ?_
  rw [if_pos rfl]
  rw [hm] at s3
  refine he.run b G3 H3 _ _ (E.step s3 k3) fun y G4 H4 s4 k4 d4 => ?_
  rw [ht.som, hm] at s4
  have hH3 := s3.keep Dl _ nb NoT.lst hH
  have gD3 := s3.fresh Dl _ gD NoT.lst hH
  have gD4 := s4.fresh Dl _ gD3 NoT.lst hH3
  have m2 : β2.isSome = m := he.som.trans (ht.som.trans hm)
  have hlen : acc.length = done.length := ha.length
  have hrl : rs.length = done.length + (rest'.length + 1) := by rw [← hr, List.length_append, hrr, List.length_cons]
  refine ⟨acc, s4.keep Dl _ nb NoT.lst hH3, sz_lt (by omega), ⟨G4, β2, done ++ [r], rest', acc ++ [y], ((s.trans s3).trans s4).mut (Gone.none hD) gD4 (LstAt.of (s4.keep Dl _ nb NoT.lst hH3)), k4.mut (by rw [m2]; exact nb), m2, gD4, upd_same, (ha.mono (s3.g.trans s4.g)).append (.cons d4 .nil), ?_, hp'⟩⟩
  rw [← hr, hrr, List.append_assoc]
  rfl
theorem LcW.new {m : Bool} {Dl T : Addr} {o : HO} {rs : List Dt} {P : List Dt → Bag → Prop} (hw : LcW K b m G1 H1 Dl rs β3 P H) (hT : H T = none) : LcW K b m G1 H1 Dl rs β3 P (upd H T o) := by
  obtain ⟨G, β, done, rest, acc, s, kb, hm, gD, hH, ha, hr, hp⟩ := hw
  have h1T : Gone H1 T := fun u nt q => by
    obtain ⟨_, _, z⟩ := s.stay T u nt q
    rw [hT] at z
    cases z
  have gT : G T = none := fresh_back s.s hT
  have nD : Dl ≠ T := ne_of_none hH hT
  refine ⟨G, β, done, rest, acc, s.mut h1T gT (LstAt.none hT), fun ns e => ?_, hm, gD, by rw [upd_ne nD]; exact hH, ha, hr, hp⟩
  obtain ⟨q1, q2⟩ := kb ns e
  exact ⟨by rw [upd_ne (ne_of_none q1 hT)]; exact q1, q2⟩
/-- the pairs of two sequences -/
theorem d_lcZT {i j : Nat} {vs : List Nat} {xs ys rs : List Dt} (hx : EvB K ta ρ β (.tuple xs) β1) (hy : EvB K tb ρ β1 (.tuple ys) β2) (hxy : xs.length = ys.length) (h : LcZ K i j tt te (xs.zip ys) (wipeR ρ vs) β2 rs β3) (hz : rs.length ≤ 100000)
    (hi : i ∈ vs) (hj : j ∈ vs) : EvB K (tLc (iZipA K (tCons ta (tCons tb tNil))) (gTup K 2 (gCons (gName i) (gCons (gName j) gNil))) tt te vs) ρ β (.list rs) β3 := by
  refine ⟨h.som.trans (hy.som.trans hx.som), fun b G H σ Q E k => ?_⟩
  refine hx.run b G H σ _ E fun v G0 H0 s0 k0 d0 => ?_
  have E0 := E.step s0 k0
  refine hy.run b G0 H0 σ _ E0 fun w G1 H1 s1 k1 d1 => ?_
  have E1 := E0.step s1 k1
  rw [hx.som] at s1
  have d0' := d0.mono s1.g
  have s01 := s0.trans s1
  cases d0' with
  | @tup a vsx _ hs hd =>
    cases d1 with
    | @tup c vsy _ hs' hd' =>
      refine ⟨a, c, vsx, vsy, rfl, .inr ⟨ex_t s1.s hs, ex_t s1.s hs', fun Dl hD => ?_⟩⟩
      have nb := bag_ne k1 (hy.som.trans hx.som) hD
      have hl : (xs.zip ys).length = xs.length := by rw [List.length_zip]; omega
      have lx := hd.length
      have ly := hd'.length
      refine ⟨fun n q H' => q = xs.length - n ∧ n ≤ xs.length ∧ LcW K b β.isSome G1 H1 Dl rs β3 (fun rest β' => LcZ K i j tt te ((xs.zip ys).drop n) (wipeR ρ vs) β' rest β3) H', ⟨xs.length, by simp, Nat.zero_le _, lc_start s1.s hD k1 (hy.som.trans hx.som) nb h⟩, ?_⟩
      rintro n q H' ⟨rfl, hn, w'⟩
      have hG : Ex G1 H' := by
        obtain ⟨G', β', done, rest, acc, s', _⟩ := w'
        exact s'.g.trans s'.s
      by_cases hlt : n < xs.length
      · have h1 : vsx[n]? = some (vsx[n]'(by omega)) := List.getElem?_eq_getElem (by omega)
        have h2 : vsy[n]? = some (vsy[n]'(by omega)) := List.getElem?_eq_getElem (by omega)
        obtain ⟨dx, e1, e2⟩ := hd.get h1
        obtain ⟨dy, e3, e4⟩ := hd'.get h2
        refine .inr ⟨⟨vsx, vsy, _, _, ex_t hG hs, ex_t hG hs', h1, h2⟩, fun H2 => LcW K b β.isSome G1 H1 Dl rs β3 (fun rest β' => LcZ K i j tt te ((xs.zip ys).drop (n + 1)) (wipeR ρ vs) β' rest β3) H2, fun H2 w2 => ⟨xs.length - (n + 1), by omega, rfl, hlt, w2⟩, ?_⟩
        rintro x H2 ⟨T, vx, vy, rfl, hT, rfl, f1, f2⟩
        have g1 := f1 vsx (ex_t hG hs)
        have g2 := f2 vsy (ex_t hG hs')
        rw [h1] at g1
        rw [h2] at g2
        cases g1
        cases g2
        refine ⟨T, _, rfl, st_of upd_same, rfl, _, _, rfl, _, _, rfl, rfl, ?_⟩
        refine ⟨by rw [wipe_set hj, wipe_set hi, wipe_wipe], ?_⟩
        have e5 : (xs.zip ys).drop n = (dx, dy) :: (xs.zip ys).drop (n + 1) := by
          have hlt' : n < (xs.zip ys).length := by omega
          rw [List.drop_eq_getElem_cons (hlt')]
          congr 1
          rw [List.getElem_zip]
          have q1 := (List.getElem?_eq_some_iff.mp e1).2
          have q2 := (List.getElem?_eq_some_iff.mp e3).2
          rw [q1, q2]
        rw [e5] at w'
        refine lc_turnG (ρx := ((wipeR ρ vs).set i (some (Slot.imm dx))).set j (some (Slot.imm dy))) hD nb hz (fun G' β' s' kb' => ?_) ?_ (w'.new hT)
        · exact (((E1.wipe vs).step s' kb').set (e2.mono s'.g)).set (e4.mono s'.g)
        · rintro rest β' hr
          cases hr with
          | yes a1 a2 a3 => exact ⟨_, _, _, _, rfl, a1, a2, a3⟩
      · have e6 : n = xs.length := by omega
        subst e6
        refine .inl ⟨⟨vsx, vsy, ex_t hG hs, ex_t hG hs', .inl (by omega)⟩, ?_⟩
        have e7 : (xs.zip ys).drop xs.length = [] := by rw [List.drop_eq_nil_iff]; omega
        rw [e7] at w'
        obtain ⟨G', β', done, rest, acc, s', kb', hm', gD', hH', ha', hr', hp'⟩ := w'
        cases hp'
        refine lc_end (j := 0) (ρ := ρ) (tt := tt) (te := te) s1.s hD nb ⟨G', β3, done, [], acc, s', kb', hm', gD', hH', ha', hr', .nil _ _⟩ fun v G'' H'' s'' kb'' dv => k v G'' H'' (s01.trans s'') kb'' dv
theorem zip_ints : ∀ x y : List Int, (x.map PyData.int).zip (y.map PyData.int) = (x.zip y).map fun q => (PyData.int q.1, PyData.int q.2)
  | [], _ => rfl
  | _ :: _, [] => rfl
  | a :: x, b :: y => by
    exact congrArg ((PyData.int a, PyData.int b) :: ·) (zip_ints x y)
theorem LcZ.ints {i j : Nat} (g : Int → Int → Dt) : ∀ {x y : List Int}, (∀ n m, n ∈ x → m ∈ y → EvB K te ((ρ.set i (some (Slot.imm (.int n)))).set j (some (Slot.imm (.int m)))) β (g n m) β) → LcZ K i j tYes te ((x.zip y).map fun q => (PyData.int q.1, PyData.int q.2)) ρ β ((x.zip y).map fun q => g q.1 q.2) β
  | [], _, _ => .nil ρ β
  | _ :: _, [], _ => .nil ρ β
  | a :: x, b :: y, h => .yes t_yes0 (h a b List.mem_cons_self List.mem_cons_self) (LcZ.ints g fun n m h1 h2 => h n m (List.mem_cons_of_mem _ h1) (List.mem_cons_of_mem _ h2))
theorem absI_num (n : Int) : absI n = ((n.natAbs : Nat) : Int) := by
  unfold absI
  split <;> omega
end
end TD
/-! ## TdB -/
set_option Elab.async false
set_option linter.all false
set_option maxRecDepth 100000
set_option maxHeartbeats 3000000
/-! The bag: a list of ints that is read, changed and handed on. -/
namespace TD
open PySem L2 PySem.Spec PyProof.Rows
open Evl (Ex ex_l ex_t fresh_back sq_of st_of sz_of sz_lt)
section
variable [TabW] {K : PySem.W.Frag} {b : Addr} {ρ ρ' ρ1 : Rho} {β β1 β2 β3 : Bag} {ta tb te tc : TE} {tt : TT} {tu tw : TS} {o : Out} {x y z d : Dt} {G H G1 H1 G2 H2 : Hp} {σ : L2.St}
theorem d_ixB {i : Nat} {k n : Int} {ns : List Int} (hi : ρ[i]? = some (some Slot.bag)) (hb : EvB K tb ρ (some ns) (.int k) (some ns)) (hn : atI ns k = some n) : EvB K (tOp (rIxL K) (tVar i) tb) ρ (some ns) (.int n) (some ns) := by
  refine ⟨rfl, fun b G H σ Q E q => ?_⟩
  refine ⟨_, E.bagv i hi, ?_⟩
  refine hb.run b G H σ _ E fun v G1 H1 s1 k1 d1 => ?_
  cases d1
  refine ⟨b, ns.map V.int, k, V.int n, rfl, rfl, sq_of (k1 ns rfl).1, ?_, q _ G1 H1 s1 k1 (.int n)⟩
  unfold atI at hn ⊢
  obtain ⟨m, h1, h2⟩ := Option.bind_eq_some_iff.mp hn
  rw [List.length_map, h1]
  show (ns.map V.int)[m]? = _
  rw [List.getElem?_map, h2]
  rfl
theorem Step.bag {o : HO} (e : Ex G H) (hg : G b = none) (hl : ∀ o, H b = some o → ∃ xs, o = HO.lst xs) (ho : NoT o := by intro _ z; cases z) : Step b true G H G (upd H b o) := by
  refine ⟨Ex.refl G, e.mut hg, fun x _ h _ _ => h, fun x u n _ h => ?_, fun x u t h => ?_, fun h => ⟨fun P q w => tab_upd (h.tab P q w) hl, h.free⟩⟩
  · rw [upd_ne (n rfl)]; exact h
  · by_cases z : x = b
    · exact ⟨o, ho, by rw [z, upd_same]⟩
    · exact ⟨u, t, by rw [upd_ne z]; exact h⟩
theorem st_setB {i : Nat} {k n : Int} {ns : List Int} {j : Nat} (he : EvB K te ρ (some ns) (.int n) (some ns)) (hi : ρ[i]? = some (some Slot.bag)) (hj : ixN ns.length k = some j) : StB K (tAsg te (gSub (tVar i) (tC (.int k)) rSetL)) ρ (some ns) (.nx ρ) (some (ns.set j n)) := by
  refine ⟨rfl, fun b G H σ D E q => ?_⟩
  refine he.run b G H σ _ E fun v G1 H1 s1 k1 d1 => ?_
  cases d1
  refine ⟨_, E.bagv i hi, ?_⟩
  obtain ⟨h1, h2⟩ := k1 ns rfl
  have sb : Step b true G1 H1 G1 (upd H1 b (.lst ((ns.map V.int).set j (V.int n)))) := Step.bag s1.s h2 (LstAt.of h1)
  refine ⟨b, ns.map V.int, k, j, rfl, rfl, h1, by rw [List.length_map]; exact hj, ?_⟩
  have kb : BagOk b (some (ns.set j n)) G1 (upd H1 b (.lst ((ns.map V.int).set j (V.int n)))) := fun ms e => by
    cases e
    exact ⟨by rw [upd_same, List.map_set], h2⟩
  exact q σ G1 _ (s1.trans sb) (E.step (s1.trans sb) kb)
theorem s_bag' {i : Nat} (hi : ρ[i]? = some (some Slot.bag)) : EvS K (tVar i) ρ β .bag β := ⟨rfl, fun b G H σ Q E k => ⟨_, E.bagv i hi, k _ G H (Step.refl E.sub) E.bagk rfl⟩⟩
theorem a_bg {i : Nat} {tr : TA} {as : List Slot} (hi : ρ[i]? = some (some Slot.bag)) (hr : EvA K tr ρ β as β2) : EvA K (tCons (tVar i) tr) ρ β (.bag :: as) β2 := a_cons (s_bag' hi) hr
end
end TD
/-! ## TdK -/
set_option Elab.async false
set_option linter.all false
/-! Rules told over the fragment by name, for use inside comprehensions. -/
namespace TD
open PySem L2 PySem.Spec PyProof.Rows
theorem call_isiK {X : Cx} {K : PySem.W.Frag} (h : X.K = K := by rfl) : CallR X (.builtin "isinstance") (rIsi K) := h ▸ call_isi
theorem op_inDK {X : Cx} {K : PySem.W.Frag} (hu : X.A.units + 65 < cLine) (h : X.K = K := by rfl) : OpR X (compareOp .In) (rInD K) := h ▸ op_inD hu
theorem op_notInDK {X : Cx} {K : PySem.W.Frag} (hu : X.A.units + 65 < cLine) (h : X.K = K := by rfl) : OpR X (compareOp .NotIn) (rNotInD K) := h ▸ op_notInD hu
theorem c_lenK {X : Cx} {K : PySem.W.Frag} (h : X.K = K := by rfl) : CallR X (.builtin "len") (rLen K) := h ▸ c_len
end TD
/-! ## TdT -/
set_option Elab.async false
set_option linter.all false
set_option maxRecDepth 100000
set_option maxHeartbeats 3000000
/-! t[::-1] of a tuple; + of any two tuples. -/
namespace TD
open PySem L2 PySem.Spec PyProof.Rows
open Evl (Ex ex_l ex_t fresh_back sq_of st_of sz_of sz_lt)
section
open HT PyProof Calls
variable {prog : Program} {w : World} {A : Around} {s : Shared} {E : Value → Shared → Prop}
theorem adjust_rev (n : Nat) : Builtin.Slice.sliceAdjust none none (-1) (n : Int) = ((n : Int) - 1, -1) := rfl
theorem places_rev (n : Nat) : Builtin.Slice.slicePlaces ((n : Int) - 1) (-1) (-1) = n := by
  show (if (-1 : Int) > 0 then _ else _ : Int).toNat = n
  have h1 : ¬ ((-1 : Int) > 0) := by omega
  have h2 : (- -1 : Int) = 1 := rfl
  simp only [h1, if_false, h2, Int.ediv_one]
  split <;> omega
theorem fm_congr {α γ : Type} {f g : α → Option γ} : ∀ {xs : List α}, (∀ x ∈ xs, f x = g x) → xs.filterMap f = xs.filterMap g
  | [], _ => rfl
  | x :: xs, h => by
    rw [List.filterMap_cons, List.filterMap_cons, h x List.mem_cons_self, fm_congr fun y hy => h y (List.mem_cons_of_mem _ hy)]
theorem pick_rev (xs : Array Value) : ((List.range xs.size).filterMap fun (m : Nat) => xs[(((xs.size : Int) - 1) + (m : Int) * -1).toNat]?).toArray = xs.toList.reverse.toArray := by
  congr 1
  have e : ∀ m ∈ List.range xs.size, xs[(((xs.size : Int) - 1) + (m : Int) * -1).toNat]? = xs.toList.reverse[m]? := by
    intro m hm
    have hm := List.mem_range.mp hm
    have h1 : (((xs.size : Int) - 1) + (m : Int) * -1).toNat = xs.size - 1 - m := by omega
    rw [h1, List.getElem?_reverse (by rw [Array.length_toList]; exact hm), Array.length_toList, Array.getElem?_toList]
  rw [fm_congr e]
  have q : ∀ (ys : List Value), (List.range ys.length).filterMap (fun m => ys[m]?) = ys := by
    intro ys
    induction ys with
    | nil => rfl
    | cons y ys ih =>
      rw [List.length_cons, List.range_succ_eq_map, List.filterMap_cons, List.filterMap_map]
      show y :: List.filterMap ((fun m => (y :: ys)[m]?) ∘ Nat.succ) (List.range ys.length) = y :: ys
      congr 1
  have := q xs.toList.reverse
  rw [List.length_reverse, Array.length_toList] at this
  exact this
theorem sliceApplied_rev {sl : Addr} {vs : Value} {n : Nat} {Q : Int × Int × Nat → Shared → Prop} (hs : s.heap.IsSliceOf sl .none .none vs) (ps : IsPart vs (some (-1)))
    (h : Q ((n : Int) - 1, -1, n) s) : wpAny (model prog w) A (Builtin.Slice.sliceApplied (.ref sl) (pure (n : Int))) Q E s := by
  have fields : wpAny (model prog w) A (Builtin.Slice.sliceFields (.ref sl)) (fun r s' => r = (.none, .none, vs) ∧ s' = s) E s := by
    obtain ⟨ob, at_, _, dt⟩ := id hs
    unfold Builtin.Slice.sliceFields
    exact wpAny_bind (wpAny_field at_ dt (x := .none) rfl (wpAny_bind (wpAny_field at_ dt (x := .none) rfl (wpAny_bind (wpAny_field at_ dt (x := vs) rfl (wpAny_pure ⟨rfl, rfl⟩))))))
  unfold Builtin.Slice.sliceApplied
  refine wpAny_bind (thn fields fun r s' e => ?_)
  obtain ⟨rfl, rfl⟩ := e
  refine wpAny_bind (slicePart_ ps (show wpAny _ _ (if ((-1 : Int) == 0) = true then _ else _) _ _ s' from ?_))
  rw [if_neg (by decide)]
  refine wpAny_bind (slicePart_none (wpAny_bind (slicePart_none (wpAny_bind (wpAny_pure (wpAny_pure ?_))))))
  show Q ((n : Int) - 1, (-1 : Int), Builtin.Slice.slicePlaces ((n : Int) - 1) (-1) (-1)) s'
  rw [places_rev]
  exact h
end
section
open HT PyProof Calls
variable {prog : Program} {w : World} {A : Around} {s : Shared} {E : Value → Shared → Prop}
/-- the slice at sl, taken of the tuple at t -/
theorem getItem_tuple_rev {t sl : Addr} {items : Array Value} {vs : Value} {Q : Value → Shared → Prop} (ht : IsTup s.heap t items) (hs : s.heap.IsSliceOf sl .none .none vs) (ps : IsPart vs (some (-1))) (big : items.size ≤ sizeLine)
    (h : Q (.ref s.heap.objs.size) { s with heap := s.heap.push { cls := .type "tuple", data := .seq items.toList.reverse.toArray } }) : wpAny (model prog w) A (getItem (.ref t) (.ref sl)) Q E s := by
  have isSlice : s.TypeIs (.ref sl) "slice" := by
    obtain ⟨ob, at_, cl, _⟩ := id hs
    exact ⟨ob, at_, cl⟩
  have fits : sizeOk (.seq items.toList.reverse.toArray) := by
    show items.toList.reverse.toArray.size ≤ sizeLine
    rwa [List.size_toArray, List.length_reverse, Array.length_toList]
  have made : wpAny (model prog w) A.in1 (Builtin.«tuple.__getitem__» ⟨[.ref t, .ref sl], []⟩) (fun f s' => ∃ v, f = .done (.ret v) ∧ Q v s') E s := by
    have no : ¬ ((((items.size : Int) - 1) == 0 && (-1 : Int) == 1 && items.size == items.size) = true) := fun q => absurd (Bool.and_eq_true_iff.mp (Bool.and_eq_true_iff.mp q).1).2 (by decide)
    show wpAny (model prog w) A.in1 (Builtin.Tuple.tupleItemsOf (.ref t) >>= _) _ E s
    refine wpAny_bind (tupleItemsOf_ ht (wpAny_bind (wpAny_typeOf isSlice ?_)))
    rw [if_pos (by decide)]
    refine wpAny_bind (sliceApplied_rev hs ps (show wpAny _ _ (if (((items.size : Int) - 1) == 0 && (-1 : Int) == 1 && items.size == items.size) = true then _ else _) _ _ s from ?_))
    rw [if_neg no, pick_rev]
    exact wpAny_bind (wpAny_newObj_type (wpAny_pure ⟨_, rfl, h⟩) fits)
  unfold getItem
  exact wpAny_holding (wpAny_bind (wpAny_sequenceKey ht.typeIs (by decide) (wpAny_bind (wpAny_callSpecial?_slot (name := Str.ofString "__getitem__") ht.typeIs PyProof.Rows.slot_tuple_getitem (wpAny_call_entry PyProof.Rows.slot_tuple_getitem ht.typeIs entry_tuple_getitem (thn made fun f s' ⟨v, e, q⟩ => ⟨v, e, wpAny_pure q⟩) (args_tuple_getitem _ _))))))
end
/-- t[::-1] -/
def tRevT (K : PySem.W.Frag) (te : TE) : TE := fun σ H Q => te σ H fun x H1 => ∃ a xs, x = .ref a ∧ SqT K H1 a xs ∧ ∀ p, H1 p = none → Q (.ref p) (upd H1 p (.tup xs.reverse))
/-- the part -1 -/
theorem po_minus1 {X : Cx} {k : Nat} {p1 p2 : Pos} : PO X (some (.UnaryOp .USub (.Constant (.int 1) k p1) p2)) (tPart (tUn (rU fun i => .int (-i)) (tC (.int 1)))) := po_some (pe_un un_neg pe_int)
theorem pe_revT {X : Cx} {e : Expr} {te : TE} {k : Nat} {p1 p2 p3 pos : Pos} (he : PE X e te) : PE X (.Subscript e (.Slice none none (some (.UnaryOp .USub (.Constant (.int 1) k p1) p2)) p3) pos) (tRevT X.K te) where
  run pins s σ H Q I h := by
    refine Subscript_ (thn (he.run pins s σ H _ I h) fun v s1 z => ?_)
    obtain ⟨y, J, I1, rel, a, xs, rfl, hx, q⟩ := z
    cases rel
    refine wpAny_Slice (thn (po_none.run pins s1 σ J (fun l L => l = none ∧ L = J) I1 ⟨rfl, rfl⟩) fun v1 s2 ⟨_, _, I2, part1, z1, z2⟩ => ?_)
    cases z1; cases z2; cases part1
    refine thn (po_none.run pins s2 σ J (fun l L => l = none ∧ L = J) I2 ⟨rfl, rfl⟩) fun v2 s3 ⟨_, _, I3, part2, z1, z2⟩ => ?_
    cases z1; cases z2; cases part2
    refine thn (po_minus1.run pins s3 σ J (fun l L => l = some (-1) ∧ L = J) I3 ⟨1, rfl, -1, rfl, rfl, rfl⟩) fun v3 s4 ⟨_, _, I4, part3, z1, z2⟩ => ?_
    cases z1; cases z2
    have I5 := I4.kept (h' := s4.heap.push { cls := .type "slice", data := .fields #[.none, .none, v3] }) (t' := s4.toks) fun b ob q => Heap.get?_push_of_some _ q
    obtain ⟨its, vals, ht, hz⟩ := I5.tuple hx
    refine tail_any (ops := [.ref a, .ref s4.heap.objs.size]) ht.typeIs PyProof.Rows.slot_tuple_getitem.lookup (getItem_tuple_rev ht (Heap.IsSliceOf.new _ .none .none v3) part3 (by rw [List.size_toArray, ← vals.length]; exact hz) ?_) (by with_unfolding_all rfl)
    exact ⟨.ref _, _, I5.laid (t' := s4.toks) (o := .tup xs.reverse) (fun b ob q => Heap.get?_push_of_some _ q) (Nat.le_refl _) ⟨by rw [List.length_reverse]; exact hz, _, vals.reverse, IsTup.new _ _⟩, rfl, q _ (I5.hok.fresh (Nat.le_refl _))⟩
section
variable [TabW] {K : PySem.W.Frag} {b : Addr} {ρ ρ' ρ1 : Rho} {β β1 β2 β3 : Bag} {ta tb te tc : TE} {x y z d : Dt} {G H G1 H1 G2 H2 : Hp} {σ : L2.St}
theorem DenL.reverse : ∀ {vs : List V} {ds : List Dt}, DenL K G vs ds → DenL K G vs.reverse ds.reverse
  | [], [], _ => .nil
  | [], _ :: _, h => nomatch h
  | _ :: _, [], h => nomatch h
  | _ :: _, _ :: _, .cons h1 h2 => by
    simp only [List.reverse_cons]
    exact (DenL.reverse h2).append (.cons h1 .nil)
theorem d_revT {ds : List Dt} (h : EvB K te ρ β (.tuple ds) β1) : EvB K (tRevT K te) ρ β (.tuple ds.reverse) β1 := by
  refine ⟨h.som, fun b G H σ Q E k => ?_⟩
  refine h.run b G H σ _ E fun v G1 H1 s1 k1 d1 => ?_
  cases d1 with
  | @tup a xs _ hs hd =>
    refine ⟨a, xs, rfl, ex_t s1.s hs, fun p hp => ?_⟩
    have n := Step.new (b := b) (m := false) (o := .tup xs.reverse) s1.s hp
    exact k (.ref p) _ _ (s1.trans n.up) (k1.same n) (.tup (st_of upd_same) (hd.reverse.mono n.g))
theorem d_catA {ds es : List Dt} (ha : EvB K ta ρ β (.tuple ds) β1) (hb : EvB K tb ρ β1 (.tuple es) β2) (hz : ds.length + es.length ≤ 100000) : EvB K (tOp (rCatA K) ta tb) ρ β (.tuple (ds ++ es)) β2 := d_op ha hb fun b G H v w Q e h1 h2 k => by
  have h1' := h1
  have h2' := h2
  cases h1 with
  | @tup a xs _ hs hd =>
    cases h2 with
    | @tup c ys _ hs' hd' =>
      refine ⟨a, c, xs, ys, rfl, rfl, ex_t e hs, ex_t e hs', sz_of (by rw [hd.length, hd'.length]; exact hz), fun z => ?_, fun z1 z => ?_, fun z1 z p hp => ?_⟩
      · subst z
        cases hd
        exact k _ G H (Step.refl e) h2'
      · subst z
        cases hd'
        rw [List.append_nil] at k
        exact k _ G H (Step.refl e) h1'
      · have n := Step.new (b := b) (m := false) (o := .tup (xs ++ ys)) e hp
        exact k _ _ _ n (.tup (st_of upd_same) ((hd.append hd').mono n.g))
end
end TD
/-! ## TdG -/
set_option Elab.async false
set_option linter.all false
set_option maxRecDepth 100000
set_option maxHeartbeats 3000000
/-! A list of one's own that grows in a for, or shrinks in a comprehension. -/
namespace TD
open PySem L2 PySem.Spec PyProof.Rows
open Evl (Ex ex_l ex_t fresh_back sq_of st_of sz_of sz_lt)
section
variable [TabW] {K : PySem.W.Frag} {b : Addr} {ρ ρ' ρ1 : Rho} {β β1 β2 β3 : Bag} {ta : TA} {tl te tr tb tc : TE} {x y z d : Dt} {G H G1 H1 G2 H2 : Hp} {σ : L2.St}
theorem EnvD.mutl {l : Addr} {o : HO} (E : EnvD K b β G H σ ρ) (h2 : G l = none) (nb : β.isSome = true → l ≠ b) (hl : ∀ u, H l = some u → ∃ xs, u = HO.lst xs) : EnvD K b β G (upd H l o) σ ρ := ⟨E.sub.mut h2, E.bagk.mut nb, E.len, E.imm, E.bagv, ⟨fun P q w => tab_upd (E.tabs.tab P q w) hl, E.tabs.free⟩, E.fnv⟩
theorem EnvD.put {i : Nat} {v : Option V} (E : EnvD K b β G H σ ρ) (hi : ρ[i]? = some none) : EnvD K b β G H (σ.set i v) ρ := by
  refine ⟨E.sub, E.bagk, by rw [List.length_set]; exact E.len, fun j e hj => ?_, fun j hj => ?_, E.tabs, fun j a hj => ?_⟩
  · have z : i ≠ j := fun z => by
      subst z
      rw [hi] at hj
      cases hj
    rw [List.getElem?_set_ne z]
    exact E.imm j e hj
  · have z : i ≠ j := fun z => by
      subst z
      rw [hi] at hj
      cases hj
    rw [List.getElem?_set_ne z]
    exact E.bagv j hj
  · have z : i ≠ j := fun z => by
      subst z
      rw [hi] at hj
      cases hj
    rw [List.getElem?_set_ne z]
    exact E.fnv j a hj
theorem st_gather {i j : Nat} {ds0 es rs : List Dt} {g : Dt → Dt} (h0 : EvA K ta ρ β (imms ds0) β1) (hij : i ≠ j) (hi : ρ[i]? = some none) (hj : ρ.set j none = ρ) (ht : EvB K tl ρ β1 (.tuple es) β1)
    (hg : ∀ e ∈ es, EvB K te (ρ.set j (some (Slot.imm e))) β1 (g e) β1) (hr : ∀ v, EvB K tr (ρ.set j v) β1 (.list rs) β1) (hz : ds0.length + es.length + rs.length ≤ 100000) :
    StB K (tSeq (tAsg (tLst ta) (gName i)) (tSeq (tFor (iTup K tl) (gName j) (tDrop (tBM K "list" rAppend (tVar i) (tCons te tNil)))) (tRet (tOp rCat (tVar i) tr)))) ρ β (.ret (.list (ds0 ++ es.map g ++ rs))) β1 := by
  refine ⟨h0.som, fun b G H σ D E k => ?_⟩
  refine h0.run b G H σ _ E fun vs G0 H0 s0 k0 d0 => ?_
  have dl := d0.imm
  have E0 := E.step s0 k0
  refine ⟨sz_of (by rw [dl.length]; omega), fun p hp => ?_⟩
  have hm : β1.isSome = β.isSome := h0.som
  have np : β1.isSome = true → p ≠ b := bag_ne k0 rfl hp
  have gp : G0 p = none := fresh_back s0.s hp
  have sp : Step b β.isSome G0 H0 G0 (upd H0 p (.lst vs)) := (Step.refl s0.s).mut (Gone.none hp) gp (LstAt.none hp)
  have E1 : EnvD K b β1 G0 (upd H0 p (.lst vs)) (σ.set i (some (.ref p))) ρ := (E0.mutl gp np (LstAt.none hp)).put hi
  have hil : i < σ.length := by
    rw [E.len]
    exact (List.getElem?_eq_some_iff.mp hi).1
  have hpi : (σ.set i (some (V.ref p)))[i]? = some (some (.ref p)) := List.getElem?_set_self hil
  refine ht.run b G0 _ _ _ E1 fun v G2 H2 s2 k2 d2 => ?_
  rw [hm] at s2
  have E2 := E1.step s2 k2
  have hp2 : H2 p = some (.lst vs) := s2.keep p _ (fun q => np (hm.trans q)) NoT.lst upd_same
  have gp2 : G2 p = none := s2.fresh p _ gp NoT.lst upd_same
  cases d2 with
  | @tup a xs _ hs hd =>
    have s02 : Step b β.isSome G0 H0 G2 H2 := sp.trans s2
    refine ⟨a, rfl, ⟨xs, ex_t s2.s hs⟩, for_tup (K := K) (a := a) (xs := xs) (fun n σ' H' => ∃ G' v ws, Step b β.isSome G0 H0 G' H' ∧ Ex G2 G' ∧ EnvD K b β1 G' H' σ' (ρ.set j v) ∧ σ'[i]? = some (some (.ref p)) ∧ G' p = none ∧ H' p = some (.lst ws) ∧ DenL K G' ws (ds0 ++ (es.take n).map g)) ?_ ?_ ?_ ?_⟩
    · refine ⟨G2, none, vs, s02, Ex.refl G2, by rw [hj]; exact E2, hpi, gp2, hp2, ?_⟩
      rw [List.take_zero, List.map_nil, List.append_nil]
      exact dl.mono s2.g
    · rintro n σ' H' _ ⟨G', v, ws, s', e', _⟩
      exact ex_t s'.s (ex_t e' hs)
    · rintro n x σ' H' hn ⟨G', v, ws, s', e', E', hσ, g', h', dw⟩
      obtain ⟨e, he1, he2⟩ := hd.get hn
      have hlt := (List.getElem?_eq_some_iff.mp he1).1
      have E3 := E'.set (i := j) (he2.mono e')
      rw [List.set_set] at E3
      have hσ' : (σ'.set j (some x))[i]? = some (some (.ref p)) := by rw [List.getElem?_set_ne (Ne.symm hij)]; exact hσ
      refine ⟨_, hσ', .inl ⟨rfl, ws, sq_of h'⟩, ?_⟩
      refine (hg e (List.mem_of_getElem? he1)).run b G' H' _ _ E3 fun y G4 H4 s4 k4 d4 => ?_
      rw [hm] at s4
      have hp4 : H4 p = some (.lst ws) := s4.keep p _ (fun q => np (hm.trans q)) NoT.lst h'
      have gp4 : G4 p = none := s4.fresh p _ g' NoT.lst h'
      have hwl : ws.length = ds0.length + n := by
        rw [dw.length, List.length_append, List.length_map, List.length_take]
        omega
      refine ⟨p, ws, y, rfl, rfl, hp4, sz_lt (by omega), G4, some (Slot.imm e), ws ++ [y], (s'.trans s4).mut (Gone.none hp) gp4 (LstAt.of hp4), e'.trans s4.g, (E3.step s4 k4).mutl gp4 np (LstAt.of hp4), hσ', gp4, upd_same, ?_⟩
      have e9 : ds0 ++ (es.take (n + 1)).map g = (ds0 ++ (es.take n).map g) ++ [g e] := by
        rw [List.take_succ, he1, List.map_append, List.append_assoc]
        rfl
      rw [e9]
      exact (dw.mono s4.g).append (.cons d4 .nil)
    · rintro σ' H' ⟨G', v, ws, s', e', E', hσ, g', h', dw⟩
      rw [hd.length, List.take_length] at dw
      refine ⟨_, hσ, ?_⟩
      refine (hr v).run b G' H' _ _ E' fun u G5 H5 s5 k5 d5 => ?_
      rw [hm] at s5
      cases d5 with
      | @lst c zs _ hs5 hd5 =>
        have hp5 : H5 p = some (.lst ws) := s5.keep p _ (fun q => np (hm.trans q)) NoT.lst h'
        refine ⟨p, c, ws, zs, rfl, rfl, hp5, s5.s _ _ hs5, sz_of (by rw [dw.length, hd5.length, List.length_append, List.length_map]; omega), fun q hq => ?_⟩
        have n := Step.new (b := b) (m := false) (o := .lst (ws ++ zs)) s5.s hq
        exact k (.ref q) _ _ (((s0.trans s').trans s5).trans n.up) (k5.same n) (.lst upd_same (((dw.mono s5.g).append hd5).mono n.g))
def mixF (f : Int → List Int → Int × List Int) : Nat → List Dt → List Int → List Dt × List Int
  | 0, _, ns => ([], ns)
  | k + 1, ds, ns => (ds.getD (f ds.length ns).1.toNat .none :: (mixF f k (ds.eraseIdx (f ds.length ns).1.toNat) (f ds.length ns).2).1, (mixF f k (ds.eraseIdx (f ds.length ns).1.toNat) (f ds.length ns).2).2)
theorem DenL.erase : ∀ {vs : List V} {ds : List Dt} (k : Nat), DenL K G vs ds → DenL K G (vs.eraseIdx k) (ds.eraseIdx k)
  | [], [], _, _ => .nil
  | [], _ :: _, _, h => nomatch h
  | _ :: _, [], _, h => nomatch h
  | _ :: _, _ :: _, 0, .cons _ h2 => h2
  | _ :: _, _ :: _, k + 1, .cons h1 h2 => .cons h1 (DenL.erase k h2)
theorem seqIx {i : Int} {n : Nat} (h0 : 0 ≤ i) (h1 : i < n) : seqIndex? i n = some i.toNat := by
  unfold seqIndex?
  rw [if_neg (show ¬ i < 0 by omega)]
  show (if (decide (0 ≤ i) && decide (i < (n : Int))) = true then some i.toNat else none) = _
  rw [decide_eq_true h0, decide_eq_true h1]
  rfl
theorem st_mixed {ds : List Dt} {d : Dt} {R : FR} {ns : List Int} {P : List Int → Prop} (f : Int → List Int → Int × List Int) (hd : SeqD d ds) (hl : ds.length ≤ 1000) (hP : P ns) (hs : ∀ {n : Int} {ns : List Int}, P ns → 0 < n → P (f n ns).2)
    (hg : ∀ {n : Int} {ns : List Int}, 0 < n → 0 ≤ (f n ns).1 ∧ (f n ns).1 < n) (hR : ∀ {n : Int} {ns : List Int}, P ns → 0 < n → n ≤ 1000 → R [.bag, .imm (.int n)] (some ns) (.int (f n ns).1) (some (f n ns).2)) :
    StB K (tSeq (tAsg (tCB (rListOf K) (tCons (tVar 1) tNil)) (gName 2)) (tRet (tLc (iRng1 (tCons (tCB (rLen K) (tCons (tVar 1) tNil)) tNil)) (gName 3) tYes (tBM K "list" rPopAt (tVar 2) (tCons (tCall (spR K R) [] E0 (tCons (tVar 0) (tCons (tCB (rLen K) (tCons (tVar 2) tNil)) tNil))) tNil)) [3])))
      [some .bag, some (.imm d), none, none] (some ns) (.ret (.list (mixF f ds.length ds ns).1)) (some (mixF f ds.length ds ns).2) := by
  refine ⟨rfl, fun b G0 H0 σ D E k => ?_⟩
  obtain ⟨v1, hv1, dv1⟩ := E.imm 1 d rfl
  have hb0 := E.bagv 0 rfl
  have kb0 := E.bagk
  have σl : σ.length = 4 := E.len
  obtain ⟨pd, ys, rfl, hq, hdl⟩ := dv1.seq hd E.sub
  refine ⟨_, hv1, pd, ys, rfl, hq, fun p hp => ?_⟩
  have np : p ≠ b := bag_ne kb0 rfl hp rfl
  have gp : G0 p = none := fresh_back E.sub hp
  have hyl := hdl.length
  have hσ1 : (σ.set 2 (some (V.ref p)))[1]? = some (some (.ref pd)) := by rw [List.getElem?_set_ne (by decide)]; exact hv1
  have ex1 : Ex G0 (upd H0 p (.lst ys)) := E.sub.mut gp
  obtain ⟨pd', ys', e', hq', hdl'⟩ := dv1.seq hd ex1
  cases e'
  have hyl' := hdl'.length
  refine ⟨_, hσ1, pd, ys', rfl, hq', ?_⟩
  refine ⟨(ys'.length : Int), rfl, by omega, by omega, fun Dl hD => ?_⟩
  have hpD : p ≠ Dl := fun z => by rw [← z, upd_same] at hD; cases hD
  have hD0 : H0 Dl = none := by rw [upd_ne (Ne.symm hpD)] at hD; exact hD
  have nD : Dl ≠ b := bag_ne kb0 rfl hD0 rfl
  have gD : G0 Dl = none := fresh_back E.sub hD0
  have hn : ((ys'.length : Int)).toNat = ds.length := by omega
  refine lc_range (lo := 0) (n := ((ys'.length : Int)).toNat) (fun n H' => ∃ G' ns' ds' ws acc done, Step b true G0 H0 G' H' ∧ BagOk b (some ns') G' H' ∧ P ns' ∧ ds'.length + n = ds.length ∧ G' p = none ∧ H' p = some (.lst ws) ∧ DenL K G' ws ds' ∧ G' Dl = none ∧ H' Dl = some (.lst acc) ∧ DenL K G' acc done ∧ done.length = n ∧
    done ++ (mixF f ds'.length ds' ns').1 = (mixF f ds.length ds ns).1 ∧ (mixF f ds'.length ds' ns').2 = (mixF f ds.length ds ns).2) ?_ ?_ ?_
  · refine ⟨G0, ns, ds, ys, [], [], (Step.refl E.sub |>.mut (Gone.none hp) gp (LstAt.none hp)).mut (Gone.none hD0) gD (LstAt.none hD), (kb0.mut fun _ => np).mut fun _ => nD, hP, rfl, gp, by rw [upd_ne hpD, upd_same], hdl, gD, upd_same, .nil, rfl, rfl, rfl⟩
  · rintro n H' hlt ⟨G', ns', ds', ws, acc, done, s', k', hP', hlen, gp', hp', dw, gD', hD', da, hdn, ht, hns⟩
    have hpos : 0 < ds'.length := by omega
    obtain ⟨k0, hk0⟩ : ∃ k0, ds'.length = k0 + 1 := ⟨ds'.length - 1, by omega⟩
    have hwl := dw.length
    have hg' := hg (n := (ds'.length : Int)) (ns := ns') (by omega)
    have E' : EnvD K b (some ns') G' H' σ _ := E.step s' k'
    have E3 := ((E'.put (i := 2) (v := some (V.ref p)) rfl).put (i := 3) (v := none) rfl).put (i := 3) (v := some (V.int (0 + (n : Int)))) rfl
    have h2 : (((σ.set 2 (some (V.ref p))).set 3 none).set 3 (some (V.int (0 + (n : Int)))))[2]? = some (some (.ref p)) := by
      rw [List.getElem?_set_ne (by decide), List.getElem?_set_ne (by decide), List.getElem?_set_self (by omega)]
    have h0 : (((σ.set 2 (some (V.ref p))).set 3 none).set 3 (some (V.int (0 + (n : Int)))))[0]? = some (some (.ref b)) := by
      rw [List.getElem?_set_ne (by decide), List.getElem?_set_ne (by decide), List.getElem?_set_ne (by decide)]
      exact hb0
    refine ⟨wipe_ok (by decide) _ _, ?_⟩
    unfold tYes
    dsimp only []
    rw [if_pos rfl]
    refine ⟨_, h2, .inl ⟨rfl, ws, sq_of hp'⟩, ?_⟩
    refine ⟨_, h0, _, h2, p, ws, rfl, .inl (sq_of hp'), ?_⟩
    refine ⟨b, G', some ns', [.bag, .imm (.int (ds'.length : Int))], .int (f ds'.length ns').1, some (f ds'.length ns').2, s'.s, E'.tabs, k', .cons rfl (.cons (by rw [hwl]; exact .int _) .nil), hR hP' (by omega) (by omega), rfl, fun v G4 H4 s4 k4 d4 => ?_⟩
    cases d4
    have hp4 : H4 p = some (.lst ws) := s4.keep p _ (fun _ => np) NoT.lst hp'
    have gp4 : G4 p = none := s4.fresh p _ gp' NoT.lst hp'
    have hD4 : H4 Dl = some (.lst acc) := s4.keep Dl _ (fun _ => nD) NoT.lst hD'
    have gD4 : G4 Dl = none := s4.fresh Dl _ gD' NoT.lst hD'
    have hi : (f ds'.length ns').1.toNat < ws.length := by omega
    have hid : (f ds'.length ns').1.toNat < ds'.length := by omega
    obtain ⟨e, he1, he2⟩ := (dw.mono s4.g).get (List.getElem?_eq_getElem hi)
    refine ⟨p, ws, (f ds'.length ns').1, (f ds'.length ns').1.toNat, ws[(f ds'.length ns').1.toNat], rfl, rfl, hp4, by omega, by omega, seqIx (by omega) (by omega), List.getElem?_eq_getElem hi, ?_⟩
    have hal := da.length
    have hu : mixF f ds'.length ds' ns' = (ds'.getD (f ds'.length ns').1.toNat .none :: (mixF f k0 (ds'.eraseIdx (f ds'.length ns').1.toNat) (f ds'.length ns').2).1, (mixF f k0 (ds'.eraseIdx (f ds'.length ns').1.toNat) (f ds'.length ns').2).2) := by
      conv => lhs; rw [hk0]
      rw [mixF]
    have e2 : (ds'.eraseIdx (f ds'.length ns').1.toNat).length = k0 := by rw [List.length_eraseIdx, if_pos hid]; omega
    refine ⟨acc, by rw [upd_ne (Ne.symm hpD)]; exact hD4, sz_lt (by omega), ?_⟩
    refine ⟨G4, (f ds'.length ns').2, ds'.eraseIdx (f ds'.length ns').1.toNat, ws.eraseIdx (f ds'.length ns').1.toNat, acc ++ [ws[(f ds'.length ns').1.toNat]], done ++ [e], ((s'.trans s4).mut (Gone.none hp) gp4 (LstAt.of hp4)).mut (Gone.none hD0) gD4 (LstAt.of (by rw [upd_ne (Ne.symm hpD)]; exact hD4)), (k4.mut fun _ => np).mut fun _ => nD, hs hP' (by omega), ?_, gp4, by rw [upd_ne hpD, upd_same], (dw.mono s4.g).erase _, gD4, upd_same, (da.mono s4.g).append (.cons he2 .nil), by rw [List.length_append, hdn]; rfl, ?_, ?_⟩
    · rw [List.length_eraseIdx, if_pos hid]
      omega
    · rw [← ht, hu]
      have e1 : ds'.getD (f ds'.length ns').1.toNat .none = e := by rw [List.getD_eq_getElem?_getD, he1]; rfl
      rw [e1, e2, List.append_assoc]
      rfl
    · rw [← hns, hu, e2]
  · rintro H' ⟨G', ns', ds', ws, acc, done, s', k', hP', hlen, gp', hp', dw, gD', hD', da, hdn, ht, hns⟩
    have hnil : ds' = [] := List.length_eq_zero_iff.mp (by omega)
    subst hnil
    have ht : done ++ [] = (mixF f ds.length ds ns).1 := ht
    have hns : ns' = (mixF f ds.length ds ns).2 := hns
    refine lc_end (j := 0) (ρ := []) (β3 := some (mixF f ds.length ds ns).2) (tt := tYes) (te := tVar 0) (m := true) E.sub hD0 (fun _ => nD) ⟨G', some ns', done, [], acc, s', k', rfl, gD', hD', da, ht, ?_⟩ fun v G'' H'' s'' k'' dv => k v G'' H'' s'' k'' dv
    rw [hns]
    exact .nil _ _
theorem upd_upd {H : Hp} {p : Addr} {o o' : HO} : upd (upd H p o) p o' = upd H p o' := by
  funext q
  by_cases z : q = p
  · rw [z, upd_same, upd_same]
  · rw [upd_ne z, upd_ne z, upd_ne z]
theorem d_disp1 {i j : Int} : EvB K (tDisp [(tC (.int i), tC (.int j))]) ρ β (.dict []) β := by
  refine ⟨rfl, fun b G H σ Q E k => ?_⟩
  intro p hp
  refine ⟨upd_same, [(Sum.inl i, .int j)], rfl, by show 1 ≤ 15; decide, ?_⟩
  rw [upd_upd]
  have n := Step.new (b := b) (m := false) (o := .dK (mergeK [] [(Sum.inl i, V.int j)])) E.sub hp
  exact k (.ref p) _ _ n.up (E.bagk.same n) (.dct upd_same)
end
/-- a method's reading, told over the fragment by name -/
theorem pe_castBM {X : Cx} {K : PySem.W.Frag} {e : Expr} {T : String} {r : V → List V → Hp → VK → Prop} {to : TE} {t : TA} (h : PE X e (tBM X.K T r to t)) (hK : X.K = K := by rfl) : PE X e (tBM K T r to t) := hK ▸ h
end TD
/-! ## TdS -/
set_option Elab.async false
set_option linter.all false
set_option maxRecDepth 100000
set_option maxHeartbeats 3000000
/-! sorted of tuples of ints that may be below 0. -/
namespace TDS
open TS PySem PyProof.Rows
def shI (S : Int) (ns : List Int) : List Int := ns.map (· + S)
/-- where a tuple stands among the others -/
def cd (S B : Int) (ns : List Int) : Int := code B (shI S ns)
section
variable {prog : Program} {w : World} {s : Shared} {A : Around} {E : Value → Shared → Prop}
theorem lexS {S B : Int} {b : Bool} {Q : Bool → Shared → Prop} : ∀ {xs ys : List Value} {ns ms : List Int} (i : Nat), IntsAre xs ns → IntsAre ys ms → ns.length = ms.length → Bd B (shI S ns) → Bd B (shI S ms) →
    Q (decide (cd S B ns < cd S B ms)) s → PySem.W.KatLex prog w A b false Q (xs.zip ys) i s
  | _, _, _, _, i, .nil, .nil, _, _, _, h => PySem.W.kat_nil (by
      have e : decide (cd S B [] < cd S B []) = false := decide_eq_false (Int.lt_irrefl _)
      rw [e] at h
      exact h)
  | _, _, _, _, i, .nil, .cons _ _ _, hl, _, _, _ => by simp at hl
  | _, _, _, _, i, .cons _ _ _, .nil, hl, _, _, _ => by simp at hl
  | _, _, _, _, i, @IntsAre.cons p t xs ns hx, @IntsAre.cons q u ys ms hy, hl, h1, h2, h => by
    have hl2 := Nat.succ.inj hl
    have hs : (shI S ns).length = (shI S ms).length := by unfold shI; rw [List.length_map, List.length_map, hl2]
    by_cases e : p = q
    · subst e
      have d : decide (cd S B (p :: ns) < cd S B (p :: ms)) = decide (cd S B ns < cd S B ms) := decide_eq_decide.mpr (code_same hs)
      rw [d] at h
      exact PySem.W.kat_cons (wpAny_eqBool_int (by rw [beq_self_eq_true]; exact PySem.W.kat_yes (lexS (i + 1) hx hy hl2 h1.tail h2.tail h)))
    · have up : p < q → cd S B (p :: ns) < cd S B (q :: ms) := fun x => code_lt hs h1.tail h2.tail (show p + S < q + S by omega)
      have down : q < p → cd S B (q :: ms) < cd S B (p :: ns) := fun x => code_lt hs.symm h2.tail h1.tail (show q + S < p + S by omega)
      have d : decide (cd S B (p :: ns) < cd S B (q :: ms)) = decide (p < q) := decide_eq_decide.mpr ⟨fun x => Int.not_le.mp fun y => absurd (down (by omega)) (by omega), up⟩
      rw [d] at h
      exact PySem.W.kat_cons (wpAny_eqBool_int (by rw [beq_eq_false_iff_ne.mpr e]; exact PySem.W.kat_no (oneLt_ints _ h)))
/-- tuples of d ints each, at least -S and below B - S -/
def OkS (h : Heap) (d : Nat) (S B : Int) (vs : List Value) : Prop := ∀ v, v ∈ vs → ∃ ns, TupInts h v ns ∧ ns.length = d ∧ Bd B (shI S ns)
theorem OkS.keeps {h h' : Heap} {d : Nat} {S B : Int} {vs : List Value} (x : OkS h d S B vs) (k : ∀ b o, h.get? b = some o → o.cls = .type "tuple" → h'.get? b = some o) : OkS h' d S B vs := fun v hv => by
  obtain ⟨ns, t, r⟩ := x v hv
  exact ⟨ns, t.keeps k, r⟩
theorem firstsS {h : Heap} {d : Nat} {S B : Int} (hd : 1 ≤ d) : ∀ vs : List Value, OkS h d S B vs → ∃ fs, PySem.W.KatTups h vs fs ∧ fs.length = vs.length ∧ ∀ f ∈ fs, ∃ n t, f = Value.int n t
  | [], _ => ⟨[], .nil, rfl, fun _ hf => by cases hf⟩
  | v :: vs, x => by
    obtain ⟨fs, k, hl, hi⟩ := firstsS hd vs fun u hu => x u (List.mem_cons_of_mem _ hu)
    obtain ⟨ns, ⟨a, xs, rfl, ⟨o, ho, hc, n, hdt⟩, i⟩, hn, _⟩ := x v List.mem_cons_self
    have hlen := i.length
    cases q : xs.toList with
    | nil => rw [q] at hlen; simp at hlen; omega
    | cons y ys =>
      obtain ⟨m, t, hy⟩ := i.all y (by rw [q]; exact List.mem_cons_self)
      have h0 : xs[0]? = some y := by rw [← Array.getElem?_toList, q]; rfl
      exact ⟨y :: fs, .cons ho hc hdt h0 k, by simp [hl], fun f hf => (List.mem_cons.mp hf).elim (fun e => e ▸ ⟨m, t, hy⟩) (hi f)⟩
theorem kindS {d : Nat} {S B : Int} {vs : List Value} (hd : 1 ≤ d) (h2 : 2 ≤ vs.length) (x : OkS s.heap d S B vs) (Q : SortKind → Shared → Prop)
    (r : Value → Int) (hr : ∀ v ∈ vs, ∀ ns, TupInts s.heap v ns → r v = cd S B ns) (h : ∀ κ, Cmp prog w A s κ (pairsOf vs) r → Q κ s) : wpAny (model prog w) A (keyKind' vs.toArray) Q E s := by
  obtain ⟨fs, k, hl, hi⟩ := firstsS hd vs x
  refine PySem.W.kat_kind (T := Value.type "int") k (by omega) (fun f hf => by obtain ⟨i, tk, e⟩ := hi f hf; rw [e]; exact PySem.W.Looks.of_pure rfl) rfl (h _ ?_)
  intro p q hp hq Q' E' hQ
  rw [pairsOf_toList] at hp hq
  have mp : p.1 ∈ vs := (mem_zip_self hp).2
  have mq : q.1 ∈ vs := (mem_zip_self hq).2
  obtain ⟨ns, tp, lp, bp⟩ := x _ mp
  obtain ⟨ms, tq, lq, bq⟩ := x _ mq
  rw [hr _ mp ns tp, hr _ mq ms tq] at hQ
  obtain ⟨a, xs, e1, ⟨o, ho, _, n, hdt⟩, i⟩ := tp
  obtain ⟨a', ys, e2, ⟨o', ho', _, n', hdt'⟩, i'⟩ := tq
  have sz : decide (xs.size < ys.size) = false := decide_eq_false (by have l1 := i.length; have l2 := i'.length; rw [Array.length_toList] at l1; rw [Array.length_toList] at l2; omega)
  rw [e1, e2]
  exact PySem.W.kat_lt ho hdt ho' hdt' (by rw [sz]; exact lexS 0 i i' (by omega) bp bq hQ)
/-- xs.sort(), then the list again -/
theorem sortS {a : Addr} {vs : List Value} {n d : Nat} {S B : Int} {Q : Value → Shared → Prop} (ho : s.heap.get? a = some (seqObj "list" vs.toArray n)) (h64 : vs.length < 64) (hd : 1 ≤ d) (x : OkS s.heap d S B vs)
    (h : ∀ out : Array Value, out.toList.Perm vs → out.toList.Pairwise (fun u v => cd S B (intsOf s.heap u) ≤ cd S B (intsOf s.heap v)) → Q .none { s with heap := sortedHeap s.heap a vs out }) : wpAny (model prog w) A (call (.builtin "list.sort") [.ref a]) Q E s := by
  have other : ∀ b o, s.heap.get? b = some o → o.cls = .type "tuple" → b ≠ a := fun b o e hc z => by
    rw [z, ho] at e
    cases e
    exact absurd hc (by show ¬ Value.type "list" = Value.type "tuple"; decide)
  have mid := x.keeps (h' := midHeap s.heap a vs) fun b o e hc => midHeap_old (other b o e hc) e
  refine wpAny_call_entry slot_list_sort ⟨_, ho, rfl⟩ entry_list_sort (SK.plain_sort (r := fun v => cd S B (intsOf s.heap v)) ho h64 (fun h2 Q' hQ => kindS (s := { s with heap := midHeap s.heap a vs }) hd h2 mid Q' _ (fun v hv ns t => ?_) hQ) fun ps out h1 h2 h3 => ?_) (args_list_sort _)
  · obtain ⟨ns0, t0, -⟩ := x v hv
    have same := t.ints.symm.trans (t0.keeps (h' := midHeap s.heap a vs) fun b o e hc => midHeap_old (other b o e hc) e).ints
    show cd S B (intsOf s.heap v) = cd S B ns
    rw [t0.ints, same]
  · have r := out_rank (r := fun v => cd S B (intsOf s.heap v)) h1 h2 h3
    exact ⟨_, rfl, h out r.1 r.2⟩
/-- what holds of the tuples before a list is laid behind them, holds after -/
theorem OkS.push {h h' : Heap} {d : Nat} {S B : Int} {vs : List Value} (x : OkS h d S B vs) (old : ∀ b o, h.get? b = some o → h'.get? b = some o) : OkS h' d S B vs ∧ ∀ v ∈ vs, intsOf h' v = intsOf h v :=
  ⟨x.keeps fun b o q _ => old b o q, fun v hv => by obtain ⟨ns, t, _⟩ := x v hv; rw [t.ints, (t.keeps fun b o q _ => old b o q).ints]⟩
theorem sortedS {l : Addr} {vs : List Value} {d : Nat} {S B : Int} {Q : Value → Shared → Prop} (hl : s.heap.IsList l vs.toArray) (h64 : vs.length < 64) (hd : 1 ≤ d) (x : OkS s.heap d S B vs)
    (h : ∀ out : Array Value, out.toList.Perm vs → out.toList.Pairwise (fun u v => cd S B (intsOf s.heap u) ≤ cd S B (intsOf s.heap v)) → Q (.ref (s.heap.objs.size + 1)) { s with heap := sortedAll s.heap vs out }) : wpAny (model prog w) A (call (.builtin "sorted") [.ref l]) Q E s := by
  have few : vs.length ≤ sizeLine := by rw [sizeLine_eq]; omega
  refine Calls.call_function_entry kind_sorted plain_sorted entry_sorted (args_sorted1 _) (show wpAny _ _ (Builtin.«sorted» _) _ _ _ from ?_)
  unfold Builtin.«sorted»
  refine wpAny_bind (m := checkCount "sorted" 1 1 _) (wpAny_pure (wpAny_bind (collect_list hl (wpAny_bind (wpAny_newList ?_ few)) few)))
  have hsz : ((s.heap.push (seqObj "list" #[] 0)).update s.heap.objs.size (Obj.mapSeq (· ++ vs.toArray))).objs.size = s.heap.objs.size + 1 := by rw [Heap.size_update, size_push']
  generalize hm : (s.heap.push (seqObj "list" #[] 0)).update s.heap.objs.size (Obj.mapSeq (· ++ vs.toArray)) = hp at *
  have old : ∀ b o, s.heap.get? b = some o → (hp.push (seqObj "list" vs.toArray 0)).get? b = some o := fun b o q => by
    have lt := Heap.lt_size q
    rw [Heap.get?_push_ne _ _ _ (by rw [hsz]; exact Nat.ne_of_lt (Nat.lt_succ_of_lt lt)), ← hm, Heap.get?_update_ne _ _ _ _ (Nat.ne_of_lt lt), Heap.get?_push_ne _ _ _ (Nat.ne_of_lt lt), q]
  have at1 : (hp.push (seqObj "list" vs.toArray 0)).get? (s.heap.objs.size + 1) = some (seqObj "list" vs.toArray 0) := by rw [← hsz]; exact Heap.get?_push_size _ rfl
  show wpAny _ _ _ _ _ { s with heap := hp.push (seqObj "list" vs.toArray 0) }
  rw [hsz]
  obtain ⟨x', same⟩ := x.push old
  refine wpAny_bind (wpAny_holding (sortS (s := { s with heap := hp.push (seqObj "list" vs.toArray 0) }) at1 h64 hd x' fun out p1 p2 => wpAny_pure ⟨_, rfl, ?_⟩))
  have q := h out p1 (p2.imp_of_mem fun {u v} hu hv q => by rw [← same u (p1.mem_iff.mp hu), ← same v (p1.mem_iff.mp hv)]; exact q)
  rw [show sortedAll s.heap vs out = sortedHeap (hp.push (seqObj "list" vs.toArray 0)) (s.heap.objs.size + 1) vs out by rw [← hm]; rfl] at q
  exact q
end
end TDS

namespace TDS
open TS L2 PySem PySem.Spec PyProof.Rows
theorem perm_map {α γ : Type} {f : α → γ} : ∀ {l m : List γ}, l.Perm m → ∀ L : List α, m = L.map f → ∃ L' : List α, L'.Perm L ∧ l = L'.map f := by
  intro l m h
  induction h with
  | nil => exact fun L e => ⟨[], by
      have : L = [] := List.map_eq_nil_iff.mp e.symm
      rw [this], rfl⟩
  | @cons x l1 l2 _ ih =>
    intro L e
    cases L with
    | nil => cases e
    | cons a L2 =>
      rw [List.map_cons] at e
      injection e with e1 e2
      obtain ⟨L', h1, h2⟩ := ih L2 e2
      exact ⟨a :: L', h1.cons a, by rw [List.map_cons, e1, h2]⟩
  | swap x y l =>
    intro L e
    match L, e with
    | a :: b :: L2, e =>
      rw [List.map_cons] at e; rw [List.map_cons] at e
      injection e with e1 e2
      injection e2 with e2 e3
      exact ⟨b :: a :: L2, .swap a b L2, by rw [List.map_cons, List.map_cons, e1, e2, e3]⟩
  | trans _ _ ih1 ih2 =>
    intro L e
    obtain ⟨L2, h1, h2⟩ := ih2 L e
    obtain ⟨L1, h3, h4⟩ := ih1 L2 h2
    exact ⟨L1, h3.trans h1, h4⟩
section
variable {P : Program} {w : World} {A : Around} {s : Shared} {E : Value → Shared → Prop}
theorem sorted_setS {a : Addr} {L : List (Addr × List Int)} {es : Array (Int × Value)} {ep : Nat} {t : SetTable} {Q : Value → Shared → Prop} (R : SetTR P w s.heap a L es ep t) (hh : A.handled = none)
    {d : Nat} {S B : Int} (hd1 : 1 ≤ d) (hB : ∀ p ∈ L, p.2.length = d ∧ Bd B (shI S p.2))
    (hQ : ∀ s' p (out : Array Value) (c : Nat) (L' : List (Addr × List Int)), (∀ b o, s.heap.get? b = some o → s'.heap.get? b = some o) ∧ s'.gens = s.gens ∧ s'.os = s.os ∧ s.heap.objs.size ≤ p ∧
      s'.heap.get? p = some (seqObj "list" out c) ∧ out.toList = L'.map (fun q => Value.ref q.1) ∧ L'.Perm L ∧ L'.Pairwise (fun q r => cd S B q.2 ≤ cd S B r.2) → Q (.ref p) s') : wpAny (model P w) A (call (.builtin "sorted") [.ref a]) Q E s := by
  obtain ⟨ob, at_, ex, dt⟩ := R.ob
  have few := R.few
  have small := R.size
  refine Calls.call_function_entry kind_sorted plain_sorted entry_sorted (args_sorted1 _) (show wpAny _ _ (Builtin.«sorted» _) _ _ _ from ?_)
  unfold Builtin.«sorted»
  refine wpAny_bind (m := checkCount "sorted" 1 1 _) (wpAny_pure (wpAny_bind (collect_set (A := A.in1) hh ⟨ob, at_, ex.1, dt⟩ R.fits (by unfold scanBound; omega) R.tab.ris R.led fun s1 vs k1 hz g1 o1 pm => ?_)))
  rw [show es.toList.map (·.2) = L.map (fun q => Value.ref q.1) by rw [R.rows]; unfold rowsOf; rw [List.map_map] <;> rfl] at pm
  have len : vs.length < 64 := by rw [pm.length_eq, List.length_map]; omega
  refine wpAny_bind (wpAny_newList (show wpAny _ _ _ _ _ { s1 with heap := s1.heap.push (seqObj "list" vs.toArray 0) } from ?_) (by rw [sizeLine_eq]; omega))
  have tk : ∀ q ∈ L, TupInts (s1.heap.push (seqObj "list" vs.toArray 0)) (.ref q.1) q.2 := fun q hq => tupInts_of (P := P) (w := w) (isT_keep (R.tup q hq) fun b u e => Heap.get?_push_of_some _ (k1 b u e))
  have x : OkS (s1.heap.push (seqObj "list" vs.toArray 0)) d S B vs := fun v hv => by
    obtain ⟨q, hq, rfl⟩ := List.mem_map.mp (pm.mem_iff.mp hv)
    exact ⟨q.2, tk q hq, hB q hq⟩
  have at0 : (s1.heap.push (seqObj "list" vs.toArray 0)).get? s1.heap.objs.size = some (seqObj "list" vs.toArray 0) := Heap.get?_push_size _ rfl
  refine wpAny_bind (wpAny_holding (sortS (s := { s1 with heap := s1.heap.push (seqObj "list" vs.toArray 0) }) at0 len hd1 x fun out a1 a2 => wpAny_pure ⟨_, rfl, ?_⟩))
  obtain ⟨c, hc⟩ := sortedHeap_at (vs := vs) (out := out) at0
  obtain ⟨L', pL, eL⟩ := perm_map (a1.trans pm) L rfl
  refine hQ _ s1.heap.objs.size out c L' ⟨fun b u e => ?_, g1, o1, hz, hc, eL, pL, ?_⟩
  · have kept := k1 b u e
    have lt := Heap.lt_size kept
    exact (sortedHeap_old (Nat.ne_of_lt lt) (by rw [size_push']; exact Nat.lt_succ_of_lt lt)).trans (Heap.get?_push_of_some _ kept)
  · rw [eL, List.pairwise_map] at a2
    exact a2.imp_of_mem fun {q r} hq hr hle => by rw [← (tk q (pL.mem_iff.mp hq)).ints, ← (tk r (pL.mem_iff.mp hr)).ints]; exact hle
end
section
variable {X : Cx}
/-- sorted(set), the set of tuples of d ints, at least -S and below B - S -/
def rSortedS (K : PySem.W.Frag) (P : Program) (w : World) : List V → Hp → VK → Prop := fun vs H Q => ∃ (a : Addr) (L : List (Addr × List Int)) (d : Nat) (S B : Int), vs = [V.ref a] ∧ H a = some (SetTO P w a L) ∧ (∀ p ∈ L, SqT K H p.1 (p.2.map V.int)) ∧ 1 ≤ d ∧
  (∀ p ∈ L, p.2.length = d ∧ Bd B (shI S p.2)) ∧
  ∀ (L' : List (Addr × List Int)) (p : Addr), L'.Perm L → (L'.map (·.2)).Nodup → L'.length < 64 → L'.Pairwise (fun q r => cd S B q.2 ≤ cd S B r.2) → H p = none → Q (.ref p) (upd H p (.lst (L'.map fun q => V.ref q.1)))
theorem shared_eq {s s' : Shared} (h : s'.os = s.os) : s' = { s with heap := s'.heap, gens := s'.gens, drawn := s'.drawn, toks := s'.toks } := by
  cases s; cases s'; cases h; rfl
theorem cr_sortedS (hc : X.calm = true) : CallR X (.builtin "sorted") (rSortedS X.K X.prog X.w) := fun pins s σ H vs us Q I r h => by
  obtain ⟨a, L, d, S, B, rfl, ha, hk, hd, hB, q⟩ := h
  obtain ⟨es, ep, t, R⟩ := SetT0.full (I.hok a _ ha).1 fun p hp => I.isT (hk p hp)
  rw [Vals.ref1 r]
  refine sorted_setS R (I.ok.hd hc) hd hB fun s' p out c L' z => ?_
  obtain ⟨old, eg, eo, free, at_, eout, perm, up⟩ := z
  have len : L'.length < 64 := by have := R.few; rw [perm.length_eq]; exact this
  have none_ : H p = none := I.hok.fresh free
  rw [shared_eq eo]
  have vals : Vals (L'.map fun z => V.ref z.1) out.toList := by rw [eout]; exact vals_of_refs L'
  have J : Inv X pins σ (upd H p (.lst (L'.map fun z => V.ref z.1))) { s with heap := s'.heap, gens := s'.gens, drawn := s'.drawn, toks := s'.toks } := I.call (ch := []) (Un.laid old free none_) (I.hok.laid old free ⟨by rw [List.length_map, sizeLine_eq]; omega, out.toList, c, vals, at_⟩) (by rw [eg]; exact I.bare) fun _ z => nomatch z
  exact ⟨.ref p, _, J, rfl, q L' p perm ((perm.map (·.2)).nodup_iff.mpr R.nd) len up none_⟩
/-- sorted(xs), xs a list of fewer than 64 such tuples -/
def rSortS (K : PySem.W.Frag) (d : Nat) (S B : Int) : List V → Hp → VK → Prop := fun vs H Q => ∃ (a : Addr) (xs : List V), vs = [V.ref a] ∧ SqL K H a xs ∧ xs.length < 64 ∧ (∀ x ∈ xs, ∃ ns, TupI K H x ns ∧ ns.length = d ∧ Bd B (shI S ns)) ∧
  ∀ (ys : List V) (p : Addr), ys.Perm xs → ys.Pairwise (fun x y => ∀ n m, TupI K H x n → TupI K H y m → cd S B n ≤ cd S B m) → H p = none → Q (.ref p) (upd H p (.lst ys))
theorem cr_sortS {d : Nat} {S B : Int} (hd : 1 ≤ d) : CallR X (.builtin "sorted") (rSortS X.K d S B) := fun pins s σ H vs us Q I r h => by
  obtain ⟨a, xs, rfl, hs, len, hx, q⟩ := h
  obtain ⟨its, vals, hl, hz⟩ := I.list hs
  rw [Vals.ref1 r]
  obtain ⟨back, refs⟩ := bkV_refs vals fun x m => (hx x m).elim fun _ z => z.1.elim fun t e => ⟨t, e.1⟩
  have raw : ∀ {v : Value} {ns : List Int}, TupI X.K H (bkV v) ns → TupInts s.heap v ns := fun {v ns} z => z.elim fun t e => bkV_ref e.1 ▸ tupI_raw I e.2
  refine sortedS (d := d) (S := S) (B := B) hl.isList (by rw [← vals.length]; exact len) hd (fun v hv => ?_) fun out perm up => ?_
  · obtain ⟨ns, t, z⟩ := hx (bkV v) (by rw [back]; exact List.mem_map_of_mem hv)
    exact ⟨ns, raw t, z⟩
  · obtain ⟨ep, at_⟩ := PyProof.Rows.sortedAll_at s.heap its out
    have pm : (out.toList.map bkV).Perm xs := by rw [back]; exact perm.map bkV
    refine ⟨.ref _, upd H (s.heap.objs.size + 1) (.lst (out.toList.map bkV)), I.laid (t' := s.toks) (fun _ _ => PyProof.Rows.sortedAll_old) (Nat.le_succ _) ⟨by rw [pm.length_eq]; exact hz, out.toList, ep, bkV_vals fun u hu => refs u (perm.mem_iff.mp hu), at_⟩, rfl, q _ _ pm (List.pairwise_map.mpr (up.imp fun {u v} z n m hn hm => ?_)) (I.hok.fresh (Nat.le_succ _))⟩
    rw [← (raw hn).ints, ← (raw hm).ints]
    exact z
end
end TDS
/-! ## TdU -/
set_option Elab.async false
set_option linter.all false
set_option maxRecDepth 100000
set_option maxHeartbeats 3000000
/-! sorted(set(..)), sorted(..) of triples, not in a tuple of tuples, a list taken apart. -/
namespace TD
open PySem L2 PySem.Spec PyProof.Rows
open Evl (Ex ex_l ex_t fresh_back sq_of st_of sz_of sz_lt)
section
variable {X : Cx}
def rNotInT (K : PySem.W.Frag) : R2 := fun x y H Q => ∃ d ds, Dp K H x d ∧ Dp K H y (.tuple ds) ∧ SeqAt.shaped d = true ∧ SeqAt.shaped (.tuple ds) = true ∧ Q (.bl (!ds.any fun z => PyData.eqv z d)) H
theorem op_notInT {K : PySem.W.Frag} (hu : X.A.units + 65 < cLine) (hK : X.K = K := by rfl) : OpR X (compareOp .NotIn) (rNotInT K) := by
  subst hK
  rintro pins s σ H x y v u Q I rx ry ⟨d, ds, hd, he, sd, se, q⟩
  obtain ⟨_, r1⟩ := Dp.reads I d x v hd rx
  obtain ⟨_, r2⟩ := Dp.reads I (.tuple ds) y u he ry
  exact SeqAt.notIn_tuple_reads r2 r1 (SeqAt.canLay_of_shaped se) (SeqAt.canLay_of_shaped sd) (room_in_shaped sd hu) ⟨.bl _, H, I, rfl, q⟩
end
section
variable [TabW] {K : PySem.W.Frag} {b : Addr} {ρ ρ' ρ1 : Rho} {β β1 β2 β3 : Bag} {ta tb te tc : TE} {x y z d : Dt} {G H G1 H1 G2 H2 : Hp} {σ : L2.St}
theorem d_notInT {ds : List Dt} (hx : EvB K ta ρ β x β1) (hy : EvB K tb ρ β1 (.tuple ds) β2) (fx : flatD x = true) (fy : flatL ds = true) (sx : SeqAt.shaped x = true) (sy : SeqAt.shaped (.tuple ds) = true) : EvB K (tOp (rNotInT K) ta tb) ρ β (.bool (!ds.any fun z => PyData.eqv z x)) β2 :=
  d_op hx hy fun b G H v w Q e h1 h2 k => ⟨x, ds, h1.dp e fx, h2.dp e (by unfold flatD; exact fy), sx, sy, k _ G H (Step.refl e) (.bl _)⟩
theorem st_unpackL {is : List Nat} {n : Nat} {ds : List Dt} (h : EvB K te ρ β (.list ds) β1) (hn : ds.length = n) (hi : is.length = n) : StB K (tAsg te (gUnl K n (gNames is))) ρ β (.nx (setR ρ is ds)) β1 := ⟨h.som, fun b G H σ D E k => h.run b G H σ _ E fun v G1 H1 s1 k1 d1 => by
  cases d1 with
  | @lst a xs _ hs hd =>
    refine ⟨a, xs, rfl, sq_of (s1.s _ _ hs), by rw [hd.length]; exact hn, ?_⟩
    exact gNames_run hd (by rw [hd.length, hn, hi]) (E.step s1 k1) fun σ' E' => k σ' G1 H1 s1 E'⟩
abbrev tupJ (ns : List Int) : Dt := .tuple (ns.map PyData.int)
/-- the tuples' addresses -/
theorem DenL.refs : ∀ {xs : List V} {ns : List (List Int)}, DenL K G xs (ns.map tupJ) → ∃ ks : List (Addr × List Int), xs = ks.map (fun p => V.ref p.1) ∧ ns = ks.map (·.2) ∧ ∀ p ∈ ks, SqT K G p.1 (p.2.map V.int)
  | [], [], _ => ⟨[], rfl, rfl, fun _ h => by cases h⟩
  | [], _ :: _, h => nomatch h
  | _ :: _, [], h => nomatch h
  | x :: xs, n :: ns, .cons h1 h2 => by
    obtain ⟨ks, rfl, rfl, hk⟩ := DenL.refs h2
    cases h1 with
    | @tup a ys _ hs hd =>
      have := hd.ints
      subst this
      refine ⟨(a, n) :: ks, rfl, rfl, fun p hp => ?_⟩
      obtain rfl | hp := List.mem_cons.mp hp
      · exact hs
      · exact hk p hp
theorem DenL.of_refs : ∀ {ks : List (Addr × List Int)}, (∀ p ∈ ks, SqT K G p.1 (p.2.map V.int)) → DenL K G (ks.map fun p => V.ref p.1) ((ks.map (·.2)).map tupJ)
  | [], _ => .nil
  | p :: ks, h => .cons (.tup (h p List.mem_cons_self) (DenL.of_ints p.2)) (DenL.of_refs fun q hq => h q (List.mem_cons_of_mem _ hq))
end
/-! ### one order -/
theorem code_inj {B : Int} : ∀ {xs ys : List Int}, xs.length = ys.length → TS.Bd B xs → TS.Bd B ys → TS.code B xs = TS.code B ys → xs = ys
  | [], [], _, _, _, _ => rfl
  | [], _ :: _, h, _, _, _ => by simp at h
  | _ :: _, [], h, _, _, _ => by simp at h
  | x :: xs, y :: ys, hl, h1, h2, e => by
    have hl' : xs.length = ys.length := by simpa using hl
    rcases Int.lt_trichotomy x y with c | c | c
    · have := TS.code_lt hl' h1.tail h2.tail c; omega
    · subst c
      have e1 : ¬ TS.code B xs < TS.code B ys := fun z => by have := (TS.code_same (B := B) (d := x) hl').mpr z; omega
      have e2 : ¬ TS.code B ys < TS.code B xs := fun z => by have := (TS.code_same (B := B) (d := x) hl'.symm).mpr z; omega
      rw [code_inj hl' h1.tail h2.tail (by omega)]
    · have := TS.code_lt hl'.symm h2.tail h1.tail c; omega
theorem sh_inj {S : Int} {xs ys : List Int} (h : TDS.shI S xs = TDS.shI S ys) : xs = ys := by
  have : ∀ {xs ys : List Int}, TDS.shI S xs = TDS.shI S ys → xs = ys := by
    intro xs
    induction xs with
    | nil => intro ys h; cases ys with
      | nil => rfl
      | cons => cases h
    | cons x xs ih => intro ys h; cases ys with
      | nil => cases h
      | cons y ys =>
        unfold TDS.shI at h
        rw [List.map_cons] at h; rw [List.map_cons] at h
        injection h with h1 h2
        rw [ih h2, show x = y by omega]
  exact this h
/-- what may be sorted here -/
def OkT (ns : List Int) : Prop := ns.length = 3 ∧ TS.Bd 2001 (TDS.shI 1000 ns)
theorem cd_inj {x y : List Int} (hx : OkT x) (hy : OkT y) (h : TDS.cd 1000 2001 x = TDS.cd 1000 2001 y) : x = y :=
  sh_inj (code_inj (by unfold TDS.shI; rw [List.length_map, List.length_map, hx.1, hy.1]) hx.2 hy.2 h)
def leT (x y : List Int) : Bool := decide (TDS.cd 1000 2001 x ≤ TDS.cd 1000 2001 y)
def sortL (ns : List (List Int)) : List (List Int) := ns.mergeSort leT
theorem sortL_perm (ns : List (List Int)) : (sortL ns).Perm ns := List.mergeSort_perm ns leT
theorem sortL_uniq {ns rs : List (List Int)} (ho : ∀ x ∈ ns, OkT x) (hp : rs.Perm ns) (hs : rs.Pairwise fun x y => TDS.cd 1000 2001 x ≤ TDS.cd 1000 2001 y) : rs = sortL ns := by
  refine List.Perm.eq_of_pairwise (le := fun x y => TDS.cd 1000 2001 x ≤ TDS.cd 1000 2001 y) (fun x y hx hy h1 h2 => cd_inj (ho x (hp.mem_iff.mp hx)) (ho y ((sortL_perm ns).mem_iff.mp hy)) (by omega)) hs ?_ (hp.trans (sortL_perm ns).symm)
  refine (List.pairwise_mergeSort (le := leT) (fun a b c h1 h2 => ?_) (fun a b => ?_) ns).imp fun h => of_decide_eq_true h
  · have h1 := of_decide_eq_true h1
    have h2 := of_decide_eq_true h2
    apply decide_eq_true; omega
  · unfold leT
    simp only [Bool.or_eq_true, decide_eq_true_eq]
    omega
/-- the members, once each -/
def once : List (List Int) → List (List Int)
  | [] => []
  | x :: xs => if x ∈ once xs then once xs else x :: once xs
theorem once_mem {x : List Int} : ∀ {xs : List (List Int)}, x ∈ once xs ↔ x ∈ xs
  | [] => Iff.rfl
  | y :: xs => by
    unfold once
    split
    · rename_i h
      rw [once_mem, List.mem_cons]
      constructor
      · exact .inr
      · rintro (rfl | h')
        · exact once_mem.mp h
        · exact h'
    · rw [List.mem_cons, List.mem_cons, once_mem]
theorem once_nodup : ∀ xs : List (List Int), (once xs).Nodup
  | [] => List.nodup_nil
  | y :: xs => by
    unfold once
    split
    · exact once_nodup xs
    · rename_i h
      exact List.nodup_cons.mpr ⟨h, once_nodup xs⟩
def sortU (ns : List (List Int)) : List (List Int) := sortL (once ns)
theorem sortU_mem {ns : List (List Int)} {x : List Int} : x ∈ sortU ns ↔ x ∈ ns := by
  unfold sortU
  rw [(sortL_perm _).mem_iff, once_mem]
theorem sortU_nodup (ns : List (List Int)) : (sortU ns).Nodup := (sortL_perm _).nodup_iff.mpr (once_nodup ns)
section
variable [TabW] {K : PySem.W.Frag} {P : Program} {w : World} {b : Addr} {ρ ρ' ρ1 : Rho} {β β1 β2 β3 : Bag} {ta tb te tc : TE} {x y z d : Dt} {G H G1 H1 G2 H2 : Hp} {σ : L2.St}
theorem d_sortSet {ns : List (List Int)} (h : EvB K te ρ β (.list (ns.map tupJ)) β1) (hl : ns.length < 64) (ho : ∀ x ∈ ns, OkT x) : EvB K (tCB (TDS.rSortedS K P w) (tCons (tCB (rSetOfT K P w) (tCons te tNil)) tNil)) ρ β (.list ((sortU ns).map tupJ)) β1 := by
  refine ⟨h.som, fun b G H σ Q E k => ?_⟩
  refine h.run b G H σ _ E fun v G1 H1 s1 k1 d1 => ?_
  cases d1 with
  | @lst a xs _ hs hd =>
    obtain ⟨ks, rfl, rfl, hk⟩ := hd.refs
    rw [List.length_map] at hl
    refine ⟨a, ks, rfl, sq_of (s1.s _ _ hs), fun p hp => ex_t s1.s (hk p hp), hl, fun c L hc hL1 hL2 => ?_⟩
    have n1 := Step.new (b := b) (m := false) (o := SetTO P w c L) s1.s hc (by intro _ z; cases z)
    have hkL : ∀ p ∈ L, SqT K G1 p.1 (p.2.map V.int) := fun p hp => hk p (hL1 p hp)
    refine ⟨c, L, 3, 1000, 2001, rfl, upd_same, fun p hp => ex_t n1.s (ex_t n1.g (hkL p hp)), by decide, fun p hp => ho p.2 (List.mem_map_of_mem (hL1 p hp)), fun L' p hp hnd hlt hpw hfr => ?_⟩
    have n2 := Step.new (b := b) (m := false) (o := .lst (L'.map fun q => V.ref q.1)) n1.s hfr
    have n := n1.trans n2
    have e : L'.map (·.2) = sortU (ks.map (·.2)) := by
      refine sortL_uniq (fun x hx => ho x (once_mem.mp hx)) ?_ (List.pairwise_map.mpr hpw)
      refine (List.perm_ext_iff_of_nodup hnd (once_nodup _)).mpr fun x => ?_
      rw [once_mem]
      constructor
      · intro hx
        obtain ⟨q, hq, rfl⟩ := List.mem_map.mp hx
        exact List.mem_map_of_mem (hL1 q (hp.mem_iff.mp hq))
      · intro hx
        obtain ⟨q, hq, rfl⟩ := List.mem_map.mp hx
        exact ((hp.map (·.2)).mem_iff).mpr (hL2 q hq)
    rw [← e] at k
    exact k (.ref p) _ _ (s1.trans n.up) (k1.same n) (.lst upd_same (DenL.mono n.g (DenL.of_refs fun q hq => hkL q (hp.mem_iff.mp hq))))
theorem d_sortT {ns : List (List Int)} (h : EvB K te ρ β (.list (ns.map tupJ)) β1) (hl : ns.length < 64) (ho : ∀ x ∈ ns, OkT x) : EvB K (tCB (TDS.rSortS K 3 1000 2001) (tCons te tNil)) ρ β (.list ((sortL ns).map tupJ)) β1 := by
  refine d_c1 h fun b G H v Q e dv k => ?_
  cases dv with
  | @lst a xs _ hs hd =>
    obtain ⟨ks, rfl, rfl, hk⟩ := hd.refs
    rw [List.length_map] at hl
    refine ⟨a, _, rfl, sq_of (e _ _ hs), by rw [List.length_map]; exact hl, fun x hx => ?_, fun ys p hp hpw hfr => ?_⟩
    · obtain ⟨q, hq, rfl⟩ := List.mem_map.mp hx
      exact ⟨q.2, ⟨q.1, rfl, ex_t e (hk q hq)⟩, (ho q.2 (List.mem_map_of_mem hq)).1, (ho q.2 (List.mem_map_of_mem hq)).2⟩
    · obtain ⟨L', pL, rfl⟩ := TDS.perm_map hp ks rfl
      have n := Step.new (b := b) (m := false) (o := .lst (L'.map fun q => V.ref q.1)) e hfr
      have hkL : ∀ q ∈ L', SqT K G q.1 (q.2.map V.int) := fun q hq => hk q (pL.mem_iff.mp hq)
      have e2 : L'.map (·.2) = sortL (ks.map (·.2)) := by
        refine sortL_uniq ho (pL.map (·.2)) (List.pairwise_map.mpr ?_)
        exact List.Pairwise.imp_of_mem (fun {q r} hq hr h => h _ _ ⟨q.1, rfl, ex_t e (hkL q hq)⟩ ⟨r.1, rfl, ex_t e (hkL r hr)⟩) (List.pairwise_map.mp hpw)
      rw [← e2] at k
      exact k (.ref p) _ _ n (.lst upd_same (DenL.mono n.g (DenL.of_refs hkL)))
end
end TD
/-! ## TdTry -/
set_option Elab.async false
set_option linter.all false
set_option maxRecDepth 100000
set_option maxHeartbeats 4100000
/-! try with several except clauses, with a name or without. -/
namespace TD
open PySem L2 PySem.Spec PyProof.Rows
/-- a clause: its class, the slot of its name, its suite -/
abbrev Cl := Value × Option Nat × (Addr → Value → Option Addr → TS)
/-- the ends of a suite behind which the name is gone -/
def endN (D : Ends) : Option Nat → Ends
  | none => D
  | some i => { nx := fun τ h => D.nx (τ.set i none) h, rt := D.rt, bk := fun τ h => D.bk (τ.set i none) h, ct := fun τ h => D.ct (τ.set i none) h }
def setN (σ : L2.St) (a : Addr) : Option Nat → L2.St
  | none => σ
  | some i => σ.set i (some (.ref a))
def wNames (K : PySem.W.Frag) (n : Nat) (W0 : WX) (D : Ends) : List Cl → WX
  | [] => W0
  | (c, oi, ts) :: r => fun k d σ h => ∃ b, PySem.W.exmOne K k c = some b ∧ (b = true → σ.length = n → ∀ a, h a = none → ts a k d (endN D oi) (setN σ a oi) h) ∧ (b = false → wNames K n W0 D r k d σ h)
def Suite (X : Cx) (su : List Stmt) (ts : Addr → Value → Option Addr → TS) : Prop :=
  ∀ (a : Addr) (oe : Obj) (k : Value) (d : Option Addr) (pn : List (Addr × Obj)), Zc k d oe → (∃ vs, oe.data = .fields vs) → PSs (X.suite a ((a, oe) :: pn)) su (ts a k d)
inductive Cls (X : Cx) : List ExceptHandler → List Cl → Prop
  | nil : Cls X [] []
  | bare {x : Str} {c : Value} {ts : Addr → Value → Option Addr → TS} {s0 : Stmt} {su : List Stmt} {p q : Pos} {hs : List ExceptHandler} {l : List Cl} : Names X x c → Suite X (s0 :: su) ts → Cls X hs l →
      Cls X (.ExceptHandler (some (.Name x p)) none (s0 :: su) q :: hs) ((c, none, ts) :: l)
  | named {x n : Str} {i : Nat} {c : Value} {ts : Addr → Value → Option Addr → TS} {s0 : Stmt} {su : List Stmt} {p q : Pos} {hs : List ExceptHandler} {l : List Cl} : X.N.Nodup → X.N[i]? = some n → X.env.kindOf n = some .local → Names X x c → Suite X (s0 :: su) ts → Cls X hs l →
      Cls X (.ExceptHandler (some (.Name x p)) (some n) (s0 :: su) q :: hs) ((c, some i, ts) :: l)
section
variable {X : Cx} {bd : List Stmt} {h0 : ExceptHandler} {hs : List ExceptHandler} {l : List Cl} {pos : Pos} {tb : WX → TS} {W0 : WX}
theorem ps_tryN (st : X.stack = X.env :: X.outer) (fr : X.env.frame = some X.env.locals) (tk : Takes X W0)
    (hb : ∀ (W : WX) (pn : List (Addr × Obj)) (xe : Value → Shared → Prop), Takes (X.tr pn xe) W → PassesOwn (model X.prog X.w) X.A X.env xe → PSs (X.tr pn xe) bd (tb W))
    (hh : Cls X (h0 :: hs) l) : PS X (.Try bd (h0 :: hs) [] [] pos) (fun D σ H => tb (wNames X.K X.N.length W0 D l) D σ H) := by
  refine ⟨fun pins s σ H D I hrun => ?_⟩
  have okX := I.ok
  have frA : X.A.frames = some (X.env :: X.outer) := by rw [okX.frames, st]
  have body := hb (wNames X.K X.N.length W0 D l) (X.pn ++ pins) (fun e t₁ => wpAny (model X.prog X.w) X.A (noteFrame e X.env) (fun _ t₂ => wpAny (model X.prog X.w) X.A (setFlight e none) (fun _ t₃ => wpAny (model X.prog X.w) X.A (handleBy e X.env (h0 :: hs)) (SP X pins D) X.xe t₃) X.xe t₂) X.xe t₁)
  refine wpAny_Try_except (wpAny_mono ((body (fun u t xx => ?_) PassesOwn.looking).run [] s σ H D (I.toTry _) hrun) (fun fl t1 hsp => ?_) (fun e t1 he => he))
  · obtain ⟨a, Bg, tI, _, σ1, Hx, k, d, rfl, Jt, onB, upS, sk, fresh, oss, bare, wish⟩ := xx
    have J1 : Inv X pins σ1 Hx tI := Jt.ofTry okX
    rw [show (X.tr (X.pn ++ pins) _).stack = X.env :: X.outer from st] at sk
    refine Sky.land Zc.steady frA fr sk fun g3 fly3 ups3 => ?_
    have J3 : Inv X pins σ1 Hx { t with heap := g3 } := J1.landed onB fly3.1 (upS.trans ups3) oss bare
    obtain ⟨ob3, fv3, at3, zc3, dt3⟩ := fly3.there
    have apart : ∀ {g : Heap} {ob : Obj} {fv : Array Value}, g.FunFrames Bg (X.env :: X.outer) → g.get? a = some ob → ob.data = .fields fv → a ∉ frs (X.env :: X.outer) := fun {g ob fv} ff q1 q2 hm => by
      obtain ⟨_, ob', q3, q4⟩ := ff.mem hm
      rw [q1] at q3
      cases q3
      exact q4 _ q2
    have notIn := apart fly3.2.2.1 at3 dt3
    have notL : a ≠ X.env.locals := fun z => notIn (List.mem_filterMap.mpr ⟨X.env, List.mem_cons_self, by rw [fr, z]⟩)
    have notF : a ∉ X.fs := fun hm => by
      obtain ⟨en, hen, qn⟩ := List.mem_filterMap.mp hm
      exact notIn (List.mem_filterMap.mpr ⟨en, List.mem_cons_of_mem _ hen, qn⟩)
    have Sx := J3.suite at3 dt3 fresh notL notF
    have typ : PySem.W.Looks (model X.prog X.w) g3 (typeOf (.ref a)) k := fun A Q E s kk qq => wpAny_typeOf_ref (kk _ _ at3) (by rw [zc3.1]; exact qq)
    have name : ∀ {x : Str} {np : Pos} {c : Value} {Q E : Value → Shared → Prop}, Names X x c → Q c { t with heap := g3 } → wpAny (model X.prog X.w) (X.A.mark (some (.ref a))) (eval (.Name x np) X.env) Q E { t with heap := g3 } := fun {x np c Q E} hc qq => by
      obtain ⟨gx, dx, m1 | ⟨m1, m2, m3⟩⟩ := hc
      · exact ld_glob (X := X.suite a ((a, ob3) :: (X.pn ++ pins))) Sx gx m1 qq dx
      · exact ld_blt (X := X.suite a ((a, ob3) :: (X.pn ++ pins))) Sx gx m1 m2 qq m3 dx
    have all : ∀ {hs' : List ExceptHandler} {l' : List Cl}, Cls X hs' l' → wNames X.K X.N.length W0 D l' k d σ1 Hx → wpAny (model X.prog X.w) X.A (handleBy (.ref a) X.env hs') (SP X pins D) X.xe { t with heap := g3 } := by
      intro hs' l' hk
      induction hk with
      | nil =>
        intro wout
        obtain ⟨_, _, _, ob, fv, T, oT, tl, o1, o2, o3, o4, o5⟩ := id fly3
        refine wpAny_handleBy_nil ?_
        unfold PySem.passOn
        refine wpAny_bind (wpAny_field o1 o3 o4 ?_)
        rw [if_neg (by simp : ¬ ((Value.ref T == Value.none) = true))]
        have out : wpAny (model X.prog X.w) X.A (setFlight (.ref a) X.env.frame) (fun _ t4 => wpAny (model X.prog X.w) X.A (throw (.ref a) : Sem Flow) (SP X pins D) X.xe t4) X.xe { t with heap := g3 } := by
          rw [fr]
          exact HandSPX.setFlight_upZ fly3 fun g4 held4 ups4 => wpAny_throw (tk _ _ ⟨a, Bg, tI, pins, σ1, Hx, k, d, rfl, J1, onB, (upS.trans ups3).trans ups4, .inr (.inr (by rw [st]; exact held4)), fresh, oss, bare, wout⟩)
        first
          | exact wpAny_bind (wpAny_pure (wpAny_bind out))
          | exact wpAny_bind out
      | @bare x c ts s0 su np q hs2 l2 hc hsu _ ih =>
        rintro ⟨b, hb1, yes, no⟩
        have same := PySem.W.exm_one (M := model X.prog X.w) (J3.kIn) typ hb1
        refine wpAny_handleBy_cons (codeAny_handlers_test (name hc (same.here ?_))) (by intro z; cases z)
        cases b with
        | false => exact ih (no rfl)
        | true =>
          refine codeAny_handlers_suite (HandSPX.lands_againZ fly3 fun g4 fly4 ups4 => ?_)
          have J4 : Inv X pins σ1 Hx { t with heap := g4 } := J1.landed onB fly4.1 ((upS.trans ups3).trans ups4) oss bare
          obtain ⟨ob4, fv4, at4, zc4, dt4⟩ := fly4.there
          refine wpAny_mono ((hsu a ob4 k d (X.pn ++ pins) zc4 ⟨_, dt4⟩).run [] _ _ Hx _ (J4.suite at4 dt4 fresh notL notF) (yes rfl J1.len a fresh)) (fun fl t6 hsp => ?_) (fun _ _ z => z.elim)
          cases fl with
          | ret u =>
            obtain ⟨v6, τ, H6, S6, r6, q6⟩ := hsp
            exact ⟨_, _, _, S6.unsuite okX, r6, q6⟩
          | next =>
            obtain ⟨τ, H6, S6, q6⟩ := hsp
            exact ⟨_, _, S6.unsuite okX, q6⟩
          | brk =>
            obtain ⟨τ, H6, S6, q6⟩ := hsp
            exact ⟨_, _, S6.unsuite okX, q6⟩
          | cont =>
            obtain ⟨τ, H6, S6, q6⟩ := hsp
            exact ⟨_, _, S6.unsuite okX, q6⟩
      | @named x n i c ts s0 su np q hs2 l2 hN hi hln hc hsu _ ih =>
        rintro ⟨b, hb1, yes, no⟩
        have same := PySem.W.exm_one (M := model X.prog X.w) (J3.kIn) typ hb1
        refine wpAny_handleBy_cons (codeAny_handlers_test (name hc (same.here ?_))) (by intro z; cases z)
        cases b with
        | false => exact ih (no rfl)
        | true =>
          refine codeAny_handlers_suite_as (HandSPX.lands_againZ fly3 fun g4 fly4 ups4 => ?_)
          have J4 : Inv X pins σ1 Hx { t with heap := g4 } := J1.landed onB fly4.1 ((upS.trans ups3).trans ups4) oss bare
          obtain ⟨ob4, fv4, at4, zc4, dt4⟩ := fly4.there
          refine store_ok (X := X.suite a ((a, ob4) :: (X.pn ++ pins))) (v := .ref a) (J4.suite at4 dt4 fresh notL notF) hN hi (.inl hln) rfl (fun t5 S5 => ?_) (.inr hln)
          refine wpAny_mono ((hsu a ob4 k d (X.pn ++ pins) zc4 ⟨_, dt4⟩).run [] t5 _ Hx _ S5 (yes rfl J1.len a fresh)) (fun fl t6 hsp => ?_) (fun _ _ z => z.elim)
          cases fl with
          | ret u =>
            obtain ⟨v6, τ, H6, S6, r6, q6⟩ := hsp
            exact gone_ok (S6.unsuite okX) hN hi hln fun t7 J7 => ⟨_, _, _, J7, r6, q6⟩
          | next =>
            obtain ⟨τ, H6, S6, q6⟩ := hsp
            exact gone_ok (S6.unsuite okX) hN hi hln fun t7 J7 => ⟨_, _, J7, q6⟩
          | brk =>
            obtain ⟨τ, H6, S6, q6⟩ := hsp
            exact gone_ok (S6.unsuite okX) hN hi hln fun t7 J7 => ⟨_, _, J7, q6⟩
          | cont =>
            obtain ⟨τ, H6, S6, q6⟩ := hsp
            exact gone_ok (S6.unsuite okX) hN hi hln fun t7 J7 => ⟨_, _, J7, q6⟩
    exact all hh wish
  · cases fl with
    | ret u =>
      obtain ⟨v, τ, Hn, Jn, rn, qn⟩ := hsp
      exact ⟨v, τ, Hn, Jn.ofTry okX, rn, qn⟩
    | next =>
      obtain ⟨τ, Hn, Jn, qn⟩ := hsp
      exact wpAny_execs_nil ⟨τ, Hn, Jn.ofTry okX, qn⟩
    | brk =>
      obtain ⟨τ, Hn, Jn, qn⟩ := hsp
      exact ⟨τ, Hn, Jn.ofTry okX, qn⟩
    | cont =>
      obtain ⟨τ, Hn, Jn, qn⟩ := hsp
      exact ⟨τ, Hn, Jn.ofTry okX, qn⟩
end
end TD
/-! ## TdOwn -/
set_option Elab.async false
set_option linter.all false
set_option maxRecDepth 100000
set_option maxHeartbeats 4100000
/-! Own exception classes over any built-in one: with an __init__ that keeps its one argument in a field; made, raised, its field read. -/
namespace TO
open PySem PySem.W PySem.Calls PyProof.Rows PySem.HandSPX L2
open Builtin.ObjectAttr Builtin
/-! ### an own class's ancestors: own ones, then a built-in one's -/
def mroOver (rs : List Addr) (bt : List Value) : List Value := rs.map Value.ref ++ bt
theorem mro_has {bt : List Value} (T : String) : ∀ rs : List Addr, (mroOver rs bt).contains (.type T) = bt.contains (.type T)
  | [] => rfl
  | c :: rs => by
    show (Value.ref c :: mroOver rs bt).contains (.type T) = _
    rw [List.contains_cons, mro_has T rs]
    rfl
theorem mro_pass {bt : List Value} (o : Value) (h : refuseLoop o "__setattr__" bt = pure ()) : ∀ rs : List Addr, refuseLoop o "__setattr__" (mroOver rs bt) = pure ()
  | [] => h
  | c :: rs => by
    show refuseLoop o "__setattr__" (Value.ref c :: mroOver rs bt) = _
    rw [refuseLoop_ref]
    exact mro_pass o h rs
/-! ### the text of the __init__ -/
abbrev inArgs (f : Str) (p p' : Pos) : Arguments := { posonlyargs := [], args := [⟨"self", none, p⟩, ⟨f, none, p'⟩], vararg := none, kwonlyargs := [], kw_defaults := [], kwarg := none, defaults := [] }
abbrev inBody (f : Str) (q q' q2 q3 : Pos) : List Stmt := [.Assign [.Attribute (.Name "self" q) f q'] (.Name f q2) q3]
abbrev inScope (f : Str) : Scope := { kind := .function, names := [(PySem.Str.ofString "self", .local), (f, .local)], isGenerator := false, isCoroutine := false, more := [] }
/-- what is plain of a field's name -/
structure Fld (f : Str) : Prop where
  dbg : (f == ("__debug__" : Str)) = false
  kinds : ∀ u v : Value, ([(("self" : Str), u), (f, v)].all fun y => (inScope f).names.lookup y.1 == some .local || (inScope f).names.lookup y.1 == some .cell) = true
  kSelf : ∀ (q : Str) (L a : Addr) (cd : Value), (envOfC q (inScope f) L a cd).kindOf "self" = some .local
  kFld : ∀ (q : Str) (L a : Addr) (cd : Value), (envOfC q (inScope f) L a cd).kindOf f = some .local
  vSelf : ∀ (q : Str) (L a : Addr) (cd u v : Value), bindL (envOfC q (inScope f) L a cd).kindOf [("self", u), (f, v)] (fun _ => none) "self" = some u
  vFld : ∀ (q : Str) (L a : Addr) (cd u v : Value), bindL (envOfC q (inScope f) L a cd).kindOf [("self", u), (f, v)] (fun _ => none) f = some v
  binds : ∀ (s : Shared) (q : Str) (p p' q1 q2 q3 q4 : Pos) (doc pm : Value) (an : Option Addr) (cdv ct u v : Value), BindsTo s (fnOf "__init__" q (inArgs f p p') (inBody f q1 q2 q3 q4) (inScope f) .none .none doc pm an cdv ct) ⟨[u, v], []⟩ [("self", u), (f, v)]
  look : ∀ v : V, List.lookup f [(f, v)] = some v
/-- what the written part says of the class at C, its __init__ at fI -/
structure Own (K : Frag) (mg : Str → Option Value) (x f : Str) (C fI : Addr) (newId : String) (bt : List Value) : Prop where
  gC : mg x = some (.ref C)
  cls : ∃ nm q N bs sn sub ab col dd k0 k1 k2 k3 k5 rs, K.lookup C = some (excClassObj nm q C N bs (mroOver rs bt) true sn sub ab col dd k0 k1 k2 k3 k5 newId)
  (sa : findIn K (.ref C) "__setattr__" = some (some (.builtin "object.__setattr__")))
  xf : XfC K C
  noN : findIn K (.ref C) f = some none
  (iC : findIn K (.ref C) "__init__" = some (some (.ref fI))) (tC : typeIn K (.ref fI) = some (.type "function"))
  kC : keepIn K (.ref C) = true
  (exC : subIn K (.ref C) (.type "BaseException") = some true) (tyC : typeIn K (.ref C) = some (.type "type"))
  fn : ∃ (oc : Value) (od : Option Addr) (q : Str) (doc pm : Value) (an : Option Addr) (cdv ct : Value) (osl : Array (Option Value)) (p p' q1 q2 q3 q4 : Pos),
    K.lookup fI = some ⟨oc, od, .func (fnOf "__init__" q (inArgs f p p') (inBody f q1 q2 q3 q4) (inScope f) .none .none doc pm an cdv ct), osl⟩ ∧ codeIn K cdv q = true
section
variable {w : World} {prog : Program} {A : Around} {E : Value → Shared → Prop} {R : Result → Shared → Prop} {hp : Heap} {g : Array GenState} {d : Drawn} {t : Nat} {os : OsState}
/-- nothing in the classes stops a store: own ones have no rule for it, the built-in ones let it pass -/
theorem lets_store {K : Frag} {x C : Addr} {ox : Obj} {od : Option Obj} {cd : ClassData} {rs : List Addr} {bt : List Value} (X : K.In hp) (J : InstAt hp x ox C od) (hcd : clsIn K C = some cd) (hm : cd.mro = mroOver rs bt) (hps : ∀ o : Value, refuseLoop o "__setattr__" bt = pure ()) :
    Looks (model prog w) hp (refuseIfOverridden (.ref x) "__setattr__") () := by
  have order : Looks (model prog w) hp (mroOf (.ref C)) (mroOver rs bt) := by
    rw [← hm]
    exact (looks_clsIn X hcd).andThen .now
  rw [refuse_eq]
  apply J.type.andThen
  apply order.andThen
  rw [mro_pass _ (hps _)]
  exact .now
/-- its class has object among its ancestors -/
theorem over_object {K : Frag} {x C : Addr} {ox : Obj} {od : Option Obj} {cd : ClassData} {rs : List Addr} {bt : List Value} (X : K.In hp) (J : InstAt hp x ox C od) (hcd : clsIn K C = some cd) (hm : cd.mro = mroOver (C :: rs) bt) (hob : bt.contains (.type "object") = true) :
    Looks (model prog w) hp (isInstance (.ref x) (.type "object")) true := by
  apply J.type.andThen
  apply looks_mroIn X
  simp only [mroIn, hcd, Option.bind_some, hm, mro_has, hob]
  rfl
/-- the dict of an exception that has none as yet is made, and holds the one name -/
theorem first_name {M : Model} {Q : Fin → Shared → Prop} {name : Str} {tk : Tok} {v : Value} {x C tu : Addr} {cd : ClassData} (ax : hp.get? x = some (excO C tu)) (lc : Looks M hp (classData C) cd) (hh : cd.hasDict = true)
    (hq : ∀ h1 tk1 dx, (∀ b o, b ≠ x → hp.get? b = some o → h1.get? b = some o) → hp.objs.size ≤ dx → dx ≠ x → h1.get? x = some { excO C tu with dict := some dx } → h1.Ns1 dx (fun y => if y = name then some v else none) → Q (.done (.ret .none)) ⟨h1, g, d, tk1, os⟩) :
    wpAny M A (storeInOwnDict (.ref x) (.ref C) (.str name tk) name v false) Q E ⟨hp, g, d, t, os⟩ := by
  have far : hp.objs.size ≠ x := Nat.ne_of_gt (Heap.lt_size ax)
  have was := Heap.get?_push_of_some (dictOf [] 0) ax
  refine wpAny_bind (wpAny_pure (wpAny_bind (instanceDict_exc (s := ⟨hp, g, d, t, os⟩) ax lc hh (store_in_new ⟨dictOf [] 0, #[], 0, ?_, rfl, ?_, fun _ => rfl⟩ ?_))))
  · rw [Heap.get?_update_ne _ _ _ _ far]
    exact Heap.get?_push_at rfl rfl
  · intro z hz
    simp at hz
  · intro h1 tk1 holds others
    have now := Heap.get?_update_self (fun o : Obj => { o with dict := some hp.objs.size }) was rfl
    apply hq h1 tk1 hp.objs.size _ (Nat.le_refl _) far ((others.2 x far.symm).trans now) holds
    intro b o hb ho
    rw [others.2 b (Nat.ne_of_lt (Heap.lt_size ho)), Heap.get?_update_ne _ _ _ _ hb]
    (exact Heap.get?_push_of_some _ ho)
/-- self.f = v, on an exception without a dict as yet -/
theorem put_new {K : Frag} {name : Str} {tk : Tok} {v : Value} {x C tu : Addr} {cd : ClassData} {rs : List Addr} {bt : List Value} (X : K.In hp) (ax : hp.get? x = some (excO C tu)) (hcd : clsIn K C = some cd)
    (hm : cd.mro = .ref C :: mroOver rs bt) (hob : bt.contains (.type "object") = true) (hps : ∀ o : Value, refuseLoop o "__setattr__" bt = pure ()) (hh : cd.hasDict = true) (ha : findIn K (.ref C) name = some none)
    (hq : ∀ h1 tk1 dx, (∀ b o, b ≠ x → hp.get? b = some o → h1.get? b = some o) → hp.objs.size ≤ dx → dx ≠ x → h1.get? x = some { excO C tu with dict := some dx } → h1.Ns1 dx (fun y => if y = name then some v else none) → R (.ok (.ret .none)) ⟨h1, g, d, tk1, os⟩) :
    codeAny (model prog w) A (.call (.builtin "object.__setattr__") ⟨[.ref x, .str name tk, v], []⟩) R (⟨hp, g, d, t, os⟩ : Shared) := by
  have J : InstAt hp x (excO C tu) C none := ⟨ax, rfl, rfl, trivial⟩
  have store := F.store_object
  have none_ : Looks (model prog w) hp (storeTaker? none) none := .now
  have whose := looks_findIn (M := model prog w) X ha
  refine codeAny_call_builtin store.slot.plain store.entry ?_
  refine @check_slot (model prog w) _ _ ⟨hp, g, d, t, os⟩ "object.__setattr__" "object" "__setattr__" (.ref x) [.str name tk, v] [] _ store.kind store.split (over_object (rs := rs) X J hcd hm hob) (store.args (.ref x) (.str name tk) v) ?_
  rw [osa_eq]
  refine wpAny_bind ((lets_store (rs := C :: rs) X J hcd hm hps).at (wpAny_bind (J.type.at (wpAny_bind (whose.at (wpAny_bind (none_.at ?_)))))))
  exact first_name ax (looks_clsIn X hcd) hh hq
end
theorem len1 (v : Value) : [v].length ≤ sizeLine := by rw [sizeLine_eq]; exact (by decide : 1 ≤ 16777216)
theorem in_but {K : Frag} {h h1 : Heap} {x : Addr} (X : K.In h) (hx : K.lookup x = none) (k : ∀ b o, b ≠ x → h.get? b = some o → h1.get? b = some o) : K.In h1 := fun a o e => k a o (fun z => by rw [z, hx] at e; cases e) (X a o e)
/-- a local that stands -/
theorem ld_at {M : Model} {s : Shared} {q : Str} {sc : Scope} {L a : Addr} {cd : Value} {m : Str → Option Value} {x : Str} {pos : Pos} {v : Value} {Q : Value → Shared → Prop} {A : Around} {E : Value → Shared → Prop} (hn : s.heap.Ns L m) (hv : m x = some v) (hk : sc.kind = .function)
    (hl : (envOfC q sc L a cd).kindOf x = some .local) (hd : (x == ("__debug__" : Str)) = false) (h : Q v s) : wpAny M A (eval (.Name x pos) (envOfC q sc L a cd)) Q E s := wpAny_Name (wpAny_loadName_local hk hl hn hv h) hd
/-- behind the __init__ of a new exception at x -/
structure Laid (h h1 : Heap) (x C dx t : Addr) (f : Str) (v : Value) : Prop where
  keep : ∀ b o, b ≠ x → h.get? b = some o → h1.get? b = some o
  obj : h1.get? x = some { cls := .ref C, dict := some dx, data := .fields #[.ref t, .none, .none, .none, .bool false, .none] }
  big : h.objs.size ≤ dx
  ne : dx ≠ x
  ns : h1.Ns1 dx (fun y => if y = f then some v else none)
structure Done (h h1 : Heap) (e C dx : Addr) (f : Str) (v : Value) : Prop where
  keep : ∀ b o, h.get? b = some o → h1.get? b = some o
  new : h.objs.size ≤ e
  obj : ∃ oe vs, h1.get? e = some oe ∧ oe.cls = .ref C ∧ oe.dict = some dx ∧ oe.data = .fields vs ∧ vs[1]? = some .none
  big : h.objs.size ≤ dx
  ne : dx ≠ e
  ns : h1.Ns1 dx (fun y => if y = f then some v else none)
section
variable {w : World} {prog : Program} {A : Around} {E : Value → Shared → Prop} {R : Result → Shared → Prop} {s : Shared} {K : Frag} {mg : Str → Option Value} {C fI : Addr} {x f : Str} {B newId initId : String} {bt : List Value}
theorem own_init (T : Own K mg x f C fI newId bt) (D : Fld f) (hob : bt.contains (.type "object") = true) (hps : ∀ o : Value, refuseLoop o "__setattr__" bt = pure ()) {e t : Addr} {v : Value} (X : K.In s.heap) (lim : s.heap.NoLimit)
    (ax : s.heap.get? e = some (excO C t)) (nx : K.lookup e = none) (room : A.depth < recursionLimit) (hq : ∀ h1 tk dx, Laid s.heap h1 e C dx t f v → R (.ok (.ret .none)) { s with heap := h1, toks := tk }) :
    codeAny (model prog w) A (.call (.ref fI) ⟨[.ref e, v], []⟩) R s := by
  obtain ⟨oc, od, q, doc, pm, an, cdv, ct, osl, p, p', q1, q2, q3, q4, lk, hcd⟩ := T.fn
  obtain ⟨nm, qc, N, bs, sn, sub, ab, col, dd, k0, k1, k2, k3, k5, rs, hC⟩ := T.cls
  have hcl : clsIn K C = some { name := nm, bases := bs, mro := .ref C :: mroOver rs bt, ns := N, qualname := qc, hasDict := true, slotNames := sn, subclasses := sub, abstract := ab, collection := col, hasDel := false } := by unfold clsIn; rw [hC] <;> rfl
  refine Att.call_fn (binds := [("self", .ref e), (f, v)]) X lim lk hcd room (D.binds _ _ _ _ _ _ _ _ _ _ _ _ _ _ _) (D.kinds _ _) (fun s1 IC => ?_) rfl rfl rfl
  obtain ⟨h1, tk1, rfl⟩ := IC.toInCall.same
  have kk : ∀ b o, s.heap.get? b = some o → h1.get? b = some o := IC.toInCall.keep
  have hn := IC.toInCall.ns
  have ax1 := kk _ _ ax
  have X1 : K.In h1 := X.keeps kk
  show wpAny (model _ _) _ (execs _ _) _ _ _
  refine wpAny_execs_cons (plainObj_wpAny_Assign_Attribute (?_))
  refine ld_at (v := v) hn (D.vFld _ _ _ _ _ _) rfl (D.kFld _ _ _ _) D.dbg (ld_at (v := .ref e) hn (D.vSelf _ _ _ _ _ _) rfl (D.kSelf _ _ _ _) (by decide) ?_)
  refine set_plain X1 (ox := excO C t) (od := none) ⟨ax1, rfl, rfl, trivial⟩ T.sa ?_
  refine put_new X1 ax1 hcl rfl hob hps rfl T.noN (fun h3 tk3 dx k3 dn dne ax3 hn3 => ?_)
  show wpAny (model _ _) _ (execs _ _) _ _ _
  have z : s.heap.objs.size < h1.objs.size := hn.lt
  exact wpAny_execs_nil (hq h3 tk3 dx ⟨fun b o hb o1 => k3 b o hb (kk b o o1), ax3, Nat.le_of_lt (Nat.lt_of_lt_of_le z dn), dne, hn3⟩)
theorem own_made (F : ExcBaseFacts B newId initId bt) (T : Own K mg x f C fI newId bt) (D : Fld f) (hob : bt.contains (.type "object") = true) (hps : ∀ o : Value, refuseLoop o "__setattr__" bt = pure ()) {v : Value} (X : K.In s.heap) (lim : s.heap.NoLimit)
    (room : A.depth + 1 < recursionLimit) (hq : ∀ h1 tk e dx, Done s.heap h1 e C dx f v → R (.ok (.ret (.ref e))) { s with heap := h1, toks := tk }) : codeAny (model prog w) A (.call (.ref C) ⟨[v], []⟩) R s := by
  obtain ⟨nm, qc, N, bs, sn, sub, ab, col, dd, k0, k1, k2, k3, k5, rs, hC⟩ := T.cls
  obtain ⟨hp, g, dr, tk, os⟩ := (s)
  have kk : ∀ b o, hp.get? b = some o → ((hp.push (kdv_tup [v])).push (excO C hp.objs.size)).get? b = some o := fun b o z => Heap.get?_push_of_some _ (Heap.get?_push_of_some _ z)
  have at_ : ((hp.push (kdv_tup [v])).push (excO C hp.objs.size)).get? (hp.objs.size + 1) = some (excO C hp.objs.size) := by heap_get
  have nK : K.lookup (hp.objs.size + 1) = none := by
    cases z : K.lookup (hp.objs.size + 1) with
    | none => rfl
    | some o => exact absurd (Nat.lt_of_succ_lt (Heap.lt_size (X _ _ z))) (Nat.lt_irrefl _)
  refine call_own F (fun T => mro_has T rs) (X _ _ hC) (looks_findIn X T.iC) (fun o => bind_fn X o T.tC) (len1 v) ?_
  refine own_init (s := ⟨(hp.push (kdv_tup [v])).push (excO C hp.objs.size), g, dr, tk, os⟩) T D hob hps (X.keeps kk) (lim.keeps kk) at_ nK (by show A.depth + 1 < recursionLimit; exact room) fun h1 tk1 dx L => ?_
  have old : ∀ b o, hp.get? b = some o → h1.get? b = some o := fun b o z => L.keep b o (Nat.ne_of_lt (Nat.lt_succ_of_lt (Heap.lt_size z))) (kk b o z)
  have big : hp.objs.size + 1 + 1 ≤ dx := by
    have q := L.big
    first
      | exact q
      | (rw [Heap.size_push, Heap.size_push] at q; exact q)
      | (simpa only [Heap.size_push] using q)
  exact ⟨rfl, hq h1 tk1 (hp.objs.size + 1) dx ⟨old, Nat.le_succ _, ⟨_, _, L.obj, rfl, rfl, rfl, rfl⟩, Nat.le_trans (Nat.le_trans (Nat.le_succ _) (Nat.le_succ _)) big, L.ne, L.ns⟩⟩
end
/-! ### made in an expression, raised -/
theorem rel_fld {f : Str} (D : Fld f) {v : V} {u : Value} (r : RelV v u) (y : Str) : RelO (List.lookup y [(f, v)]) (if y = f then some u else none) := by
  by_cases h : y = f
  · subst h
    rw [if_pos rfl, D.look]
    exact r
  · rw [if_neg h]
    have q : (y == f) = false := by simpa using h
    have q2 : List.lookup y [(f, v)] = none := by simp [List.lookup, q]
    rw [q2]
    trivial
section
variable {X : Cx} {x f : Str} {C fI : Addr} {B newId initId : String} {bt : List Value}
/-- x(e) -/
def tMade (f : Str) (C : Addr) (ta : TA) : L2.St → Hp → XK → Prop := fun σ H Q => ta σ H fun vs H1 => ∃ v, vs = [v] ∧ ∀ d, H1 d = none → Q (.ref C) (some d) (upd H1 d (.xd [(f, v)]))
theorem pmk_made {a : Expr} {ta : TA} {p pos : Pos} {k : Nat} (F : ExcBaseFacts B newId initId bt) (T : Own X.K X.mg x f C fI newId bt) (D : Fld f) (hob : bt.contains (.type "object") = true) (hps : ∀ o : Value, refuseLoop o "__setattr__" bt = pure ())
    (hr : Room k X.A) (ha : PA X [a] ta) (hg : Gl X x) (hdb : (x == ("__debug__" : Str)) = false) (he : starEach (a :: []) X.env = (false, eval a X.env) :: starEach [] X.env) (hpl : (backTo pos (starEach [] X.env)).any (·.1) = false) :
    PMk X (.Call (.Name x p) [a] [] pos) (tMade f C ta) := by
  intro pins s σ H Q I h
  refine wpAny_Call_Name_kw (ld_glob I hg T.gC ?_ hdb)
  refine callWith_K (h₀ := X.base) I.ok.mod.kin T.kC (thn (ha.run pos pins s σ H _ I h) fun us s1 hh => ?_) he hpl
  obtain ⟨vs, H1, I1, r1, v, rfl, q1⟩ := hh
  refine ⟨I1.kIn, ?_⟩
  cases r1 with
  | cons rv rn =>
    rename_i u us'
    cases rn
    have lim := I1.nolimit
    show wpAny (model _ _) _ (call (.ref C) [u]) _ _ _
    obtain ⟨hp, g, dr, tk, os⟩ := (s1)
    refine wpAny_call (own_made F T D hob hps I1.kIn lim (by have := hr.dp; omega) fun h1 tk1 e d M => ?_)
    show MkP X pins σ Q (.ref e) ⟨h1, g, dr, tk1, os⟩
    obtain ⟨oe, fv, hoe, hc, hd, hdat, hn1⟩ := M.obj
    obtain ⟨G1, g1, g2⟩ := restrict h1 fun b => decide (b ≠ e)
    have same : ∀ b, b ≠ e → G1.get? b = h1.get? b := fun b hb => g1 b (decide_eq_true hb)
    have gone : G1.get? e = none := g2 e (by simp)
    have old : ∀ b o, hp.get? b = some o → G1.get? b = some o := fun b o q => (same b (Nat.ne_of_lt (Nat.lt_of_lt_of_le (Heap.lt_size q) M.new))).trans (M.keep b o q)
    have ob : ObjOk X.prog X.w (upd H1 d (.xd [(f, v)])) G1 d (.xd [(f, v)]) := ⟨_, M.ns.at (fun o q => (same d M.ne).trans q), fun y => rel_fld D rv y⟩
    have J : Inv X pins σ (upd H1 d (.xd [(f, v)])) ⟨G1, g, dr, tk1, os⟩ := I1.laid (t' := tk1) old M.big ob
    refine ⟨e, oe, fv, ⟨G1, g, dr, tk1, os⟩, _, .ref C, some d, rfl, J, fun b o q => ?_, gone, hoe, ⟨hc, hd⟩, hdat, hn1, ?_, rfl, I1.bare, raises_own T.exC T.tyC, q1 d (I1.hok.fresh M.big)⟩
    · have q : G1.get? b = some o := q
      by_cases hb : b = e
      · rw [hb, gone] at q
        cases q
      · exact (same b hb).symm.trans q
    · rw [upd_ne (Ne.symm M.ne)]
      exact I1.hok.fresh M.new
end
end TO
/-! ## TdE -/
set_option Elab.async false
set_option linter.all false
set_option maxRecDepth 100000
set_option maxHeartbeats 4100000
/-! Exceptions told over data: what raises, and with what; defs that may raise; repr; defs that want to know that nothing is being shown. -/
namespace TD
open PySem L2 PySem.Spec PyProof.Rows
open Evl (Ex ex_l ex_t fresh_back sq_of st_of sz_of sz_lt)
/-! ### repr -/
def rRep (K : PySem.W.Frag) : List V → Hp → VK → Prop := fun xs H Q => ∃ (v : V) (d : Dt), xs = [v] ∧ Dp K H v d ∧ d.showable = true ∧ d.hasDict = false ∧ d.depth ≤ 20 ∧ d.shown.length ≤ sizeLine ∧ Q (.str d.shown) H
theorem call_rep {X : Cx} {K : PySem.W.Frag} (hg : X.A.guards = some []) (hu : X.A.units + 64 < cLine) (h3 : X.K = K := by rfl) : CallR X (.builtin "repr") (rRep K) := by
  subst h3
  rintro pins s σ H xs us Q I r ⟨v, d, rfl, hd, h1, h2, hdp, hz, q⟩
  obtain ⟨u, rfl, ru⟩ := (vals1 r)
  obtain ⟨as, hR⟩ := Dp.reads I d v u hd ru
  have go : ∀ {a : Addr}, u = .ref a → wpAny (model X.prog X.w) X.A (call (.builtin "repr") [u]) (EP X pins σ Q) X.xe s := fun {a} e => by
    subst e
    exact PySem.repr_of_reads' hR h1 (PyData.noDict_hsm h2) hg (by omega) (fun _ _ z => z) (fun h' w' tk hk => ⟨.str _, H, I.kept hk, ⟨_, rfl⟩, q⟩) hz
  cases hd with
  | non =>
    cases ru
    exact PySem.P.repr_of_none ⟨.str _, H, I.tok _, ⟨_, rfl⟩, q⟩
  | bl c =>
    cases ru
    exact PySem.P.repr_of_bool ⟨.str _, H, I.tok _, ⟨_, rfl⟩, q⟩
  | int i =>
    obtain ⟨t, rfl⟩ := ru
    exact PySem.P.repr_of_int (by unfold PyData.showable at h1; exact of_decide_eq_true h1) ⟨.str _, H, I.tok _, ⟨_, rfl⟩, q⟩
  | str x =>
    obtain ⟨t, rfl⟩ := ru
    exact PySem.P.repr_of_str ⟨.str _, H, I.tok _, ⟨_, rfl⟩, q⟩ hz
  | lst hs ha =>
    cases ru
    exact go rfl
  | tup hs ha =>
    cases ru
    exact go rfl
/-- what may be shown -/
def ShowOk (d : Dt) : Prop := flatD d = true ∧ d.showable = true ∧ d.hasDict = false ∧ d.depth ≤ 20 ∧ d.shown.length ≤ sizeLine
section
variable [TabW] {K : PySem.W.Frag} {b : Addr} {ρ : Rho} {β β1 : Bag} {te : TE} {d : Dt}
theorem d_repr (h : EvB K te ρ β d β1) (hs : ShowOk d) : EvB K (tCB (rRep K) (tCons te tNil)) ρ β (.str d.shown) β1 := d_c1 h fun b G H v Q e dv k =>
  ⟨v, d, rfl, dv.dp e hs.1, hs.2.1, hs.2.2.1, hs.2.2.2.1, hs.2.2.2.2, k _ G H (Step.refl e) (.str _)⟩
end
/-! ### room, and nothing is being shown -/
structure RoomG (k : Nat) (A : Around) : Prop extends Room k A where
  gd : A.guards = some []
theorem RoomG.mono {j k : Nat} {A : Around} (r : RoomG k A) (h : j ≤ k) : RoomG j A := ⟨r.toRoom.mono h, r.gd⟩
theorem RoomG.deeper {k : Nat} {A : Around} (r : RoomG (k + 1) A) (env : Env) : RoomG k (A.deeper env) := ⟨r.toRoom.deeper env, r.gd⟩
/-- a def's promise, kept where nothing is being shown -/
structure FnOkG (P : Program) (w : World) (K : PySem.W.Frag) (mg : Str → Option Value) (base : Heap) (CX : CXT) (k : Nat) (f : Addr) (fd : FuncData) (ps : List Str) (sp : Sp) : Prop where
  (len : (∀ vs H Q E, sp vs H Q E → vs.length = ps.length))
  run : ∀ (A : Around) (outer : List Env) (s : Shared) (H : Hp) (args : Args) (us : List Value) (vs : List V) (Q : VK) (E : XK), RoomG k A → Env0 P w K mg base A outer s H → BindsTo s fd args (ps.zip us) → Vals vs us → sp vs H Q E →
    codeAny (model P w) A (Code.call (.ref f) args) (CR CX outer P w H s Q E) s
section
variable {X : Cx} {CX : CXT} {k : Nat} {f : Addr} {fd : FuncData} {ps : List Str} {sp : Sp} {E : XK} {x : Str} {p pos : Pos} {e : Expr} {es : List Expr} {t : TA}
theorem pe_callG (F : FnOkG X.prog X.w X.K X.mg X.base CX k f fd ps sp) (hr : RoomG k X.A) (hg : Gl X x) (hm : X.mg x = some (.ref f)) (hk : PySem.W.keepIn X.K (.ref f) = true) (hb : Binds X.K fd ps []) (hx : Passes CX X E)
    (ha : PA X (e :: es) t) (hdb : (x == ("__debug__" : Str)) = false) (he : starEach (e :: es) X.env = (false, eval e X.env) :: starEach es X.env) (hpl : (backTo pos (starEach es X.env)).any (·.1) = false) : PE X (.Call (.Name x p) (e :: es) [] pos) (tCall sp [] E t) := by
  refine ⟨fun pins s σ H Q I h => wpAny_Call_Name_kw (ld_glob I hg hm ?_ hdb)⟩
  refine PySem.W.callWith_K (h₀ := X.base) I.ok.mod.kin hk (thn (ha.run pos pins s σ H _ I h) fun us t1 hh => ?_) he hpl
  obtain ⟨vs, H1, I1, rv, q⟩ := hh
  have hl : (us ++ []).length = ps.length := by rw [List.append_nil, ← rv.length, ← List.append_nil vs]; exact F.len _ _ _ _ q
  have rv2 : Vals (vs ++ []) (us ++ []) := by rw [List.append_nil, List.append_nil]; exact rv
  refine ⟨I1.kIn, wpAny_call (codeAny_mono (F.run X.A X.stack t1 H1 ⟨us, []⟩ (us ++ []) (vs ++ []) Q E hr I1.env0 (hb t1 us I1.kIn hl) rv2 q) fun r t2 hq => ?_)⟩
  cases r with
  | error u => exact hx pins σ H1 t1 u t2 I1 hq
  | ok fl =>
    cases fl with
    | ret u => exact I1.after hq
    | _ => exact hq.elim
end
/-! ### what raises -/
abbrev Kept := Option (Str × Dt)
inductive Res where
  | ok (d : Dt)
  | ex (C : Addr) (k : Kept)
/-- how what is kept lies -/
def KeptAt (K : PySem.W.Frag) (G : Hp) : Option Addr → Kept → Prop
  | dx, none => dx = none
  | dx, some (f, d) => ∃ (a : Addr) (v : V), dx = some a ∧ G a = some (.xd [(f, v)]) ∧ Den K G v d
section
variable [TabW]
/-- the wish E takes the error -/
def ExTo (K : PySem.W.Frag) (b : Addr) (m : Bool) (β' : Bag) (G H : Hp) (E : XK) (C : Addr) (k : Kept) : Prop := ∀ dx G' H', Step b m G H G' H' → BagOk b β' G' H' → KeptAt K G' dx k → E (.ref C) dx H'
structure EvR (K : PySem.W.Frag) (E : XK) (te : TE) (ρ : Rho) (β : Bag) (C : Addr) (k : Kept) (β' : Bag) : Prop where
  som : β'.isSome = β.isSome
  run : ∀ (b : Addr) (G H : Hp) (σ : L2.St) (Q : VK), EnvD K b β G H σ ρ → ExTo K b β.isSome β' G H E C k → te σ H Q
structure StR (K : PySem.W.Frag) (E : XK) (ts : TS) (ρ : Rho) (β : Bag) (C : Addr) (k : Kept) (β' : Bag) : Prop where
  som : β'.isSome = β.isSome
  run : ∀ (b : Addr) (G H : Hp) (σ : L2.St) (D : Ends), EnvD K b β G H σ ρ → ExTo K b β.isSome β' G H E C k → ts D σ H
structure TtR (K : PySem.W.Frag) (E : XK) (tt : TT) (ρ : Rho) (β : Bag) (C : Addr) (k : Kept) (β' : Bag) : Prop where
  som : β'.isSome = β.isSome
  run : ∀ (b : Addr) (G H : Hp) (σ : L2.St) (Q : Bool → Hp → Prop), EnvD K b β G H σ ρ → ExTo K b β.isSome β' G H E C k → tt σ H Q
structure ArR (K : PySem.W.Frag) (E : XK) (ta : TA) (ρ : Rho) (β : Bag) (C : Addr) (k : Kept) (β' : Bag) : Prop where
  som : β'.isSome = β.isSome
  run : ∀ (b : Addr) (G H : Hp) (σ : L2.St) (Q : List V → Hp → Prop), EnvD K b β G H σ ρ → ExTo K b β.isSome β' G H E C k → ta σ H Q
end
section
variable [TabW] {K : PySem.W.Frag} {b : Addr} {ρ ρ1 : Rho} {β β1 β2 : Bag} {ta tb te : TE} {tt : TT} {ts tu tw : TS} {tl : TA} {d x : Dt} {G H G1 H1 : Hp} {E : XK} {C : Addr} {k : Kept} {c : Bool} {s : Slot}
theorem ExTo.of {m : Bool} (h : ExTo K b m β1 G H E C k) (s : Step b m G H G1 H1) : ExTo K b m β1 G1 H1 E C k := fun dx G' H' s' kb ka => h dx G' H' (s.trans s') kb ka
/-- behind a part that raises nothing -/
theorem evR_l {r : R2} (h : EvR K E ta ρ β C k β1) : EvR K E (tOp r ta tb) ρ β C k β1 := ⟨h.som, fun b G H σ Q e w => h.run b G H σ _ e w⟩
theorem evR_r {r : R2} (h : EvB K ta ρ β d β1) (h' : EvR K E tb ρ β1 C k β2) : EvR K E (tOp r ta tb) ρ β C k β2 := ⟨h'.som.trans h.som, fun b G H σ Q e w => h.run b G H σ _ e fun v G1 H1 s1 k1 _ => h'.run b G1 H1 σ _ (e.step s1 k1) (by rw [h.som]; exact w.of s1)⟩
theorem evR_un {r : V → Hp → VK → Prop} (h : EvR K E ta ρ β C k β1) : EvR K E (tUn r ta) ρ β C k β1 := ⟨h.som, fun b G H σ Q e w => h.run b G H σ _ e w⟩
theorem arR_hd (h : EvR K E te ρ β C k β1) : ArR K E (tCons te tl) ρ β C k β1 := ⟨h.som, fun b G H σ Q e w => h.run b G H σ _ e w⟩
theorem arR_tl (h : EvB K te ρ β d β1) (h' : ArR K E tl ρ β1 C k β2) : ArR K E (tCons te tl) ρ β C k β2 := ⟨h'.som.trans h.som, fun b G H σ Q e w => h.run b G H σ _ e fun v G1 H1 s1 k1 _ => h'.run b G1 H1 σ _ (e.step s1 k1) (by rw [h.som]; exact w.of s1)⟩
theorem evR_cb {r : List V → Hp → VK → Prop} (h : ArR K E tl ρ β C k β1) : EvR K E (tCB r tl) ρ β C k β1 := ⟨h.som, fun b G H σ Q e w => h.run b G H σ _ e w⟩
theorem evR_call {sp : Sp} {E' : XK} (h : ArR K E tl ρ β C k β1) : EvR K E (tCall sp [] E' tl) ρ β C k β1 := ⟨h.som, fun b G H σ Q e w => h.run b G H σ _ e w⟩
theorem ttR_test (h : EvR K E te ρ β C k β1) : TtR K E (tTest te) ρ β C k β1 := ⟨h.som, fun b G H σ Q e w => h.run b G H σ _ e w⟩
theorem stR_asg {g : TG} (h : EvR K E te ρ β C k β1) : StR K E (tAsg te g) ρ β C k β1 := ⟨h.som, fun b G H σ D e w => h.run b G H σ _ e w⟩
theorem stR_ret (h : EvR K E te ρ β C k β1) : StR K E (tRet te) ρ β C k β1 := ⟨h.som, fun b G H σ D e w => h.run b G H σ _ e w⟩
theorem stR_drop (h : EvR K E te ρ β C k β1) : StR K E (tDrop te) ρ β C k β1 := ⟨h.som, fun b G H σ D e w => h.run b G H σ _ e w⟩
theorem stR_seq (h : StR K E tu ρ β C k β1) : StR K E (tSeq tu tw) ρ β C k β1 := ⟨h.som, fun b G H σ D e w => h.run b G H σ _ e w⟩
theorem stR_then (h : StB K tu ρ β (.nx ρ1) β1) (h' : StR K E tw ρ1 β1 C k β2) : StR K E (tSeq tu tw) ρ β C k β2 := ⟨h'.som.trans h.som, fun b G H σ D e w => h.run b G H σ { D with nx := tw D } e fun σ1 G1 H1 s1 E1 =>
  h'.run b G1 H1 σ1 D E1 (by rw [h.som]; exact w.of s1)⟩
theorem stR_ifR (h : TtR K E tt ρ β C k β1) : StR K E (tIfS tt tu tw) ρ β C k β1 := ⟨h.som, fun b G H σ D e w => h.run b G H σ _ e w⟩
theorem stR_if (h : TtB K tt ρ β c β1) (h1 : c = true → StR K E tu ρ β1 C k β2) (h2 : c = false → StR K E tw ρ β1 C k β2) : StR K E (tIfS tt tu tw) ρ β C k β2 := by
  cases c with
  | true =>
    refine ⟨(h1 rfl).som.trans h.som, fun b G H σ D e w => h.run b G H σ _ e fun G1 H1 s1 k1 => ?_⟩
    rw [if_pos rfl]
    exact (h1 rfl).run b G1 H1 σ D (e.step s1 k1) (by rw [h.som]; exact w.of s1)
  | false =>
    refine ⟨(h2 rfl).som.trans h.som, fun b G H σ D e w => h.run b G H σ _ e fun G1 H1 s1 k1 => ?_⟩
    rw [if_neg (Bool.false_ne_true)]
    exact (h2 rfl).run b G1 H1 σ D (e.step s1 k1) (by rw [h.som]; exact w.of s1)
theorem stR_ifT (h : TtB K tt ρ β true β1) (h1 : StR K E tu ρ β1 C k β2) : StR K E (tIfS tt tu tw) ρ β C k β2 := stR_if h (fun _ => h1) fun z => by cases z
theorem stR_ifF (h : TtB K tt ρ β false β1) (h1 : StR K E tw ρ β1 C k β2) : StR K E (tIfS tt tu tw) ρ β C k β2 := stR_if h (fun z => by cases z) fun _ => h1
/-! ### raise -/
/-- raise x(e), of a class that keeps e in the field f -/
def tRaiseK (f : Str) (C : Addr) (E : XK) (ta : TA) : TS := fun _ σ H => TO.tMade f C ta σ H fun cls d H' => E cls d H'
/-- raise x('..') -/
def tRaise0 (C : Addr) (E : XK) : TS := fun _ _ H => E (.ref C) none H
theorem st_raiseK {f : Str} (h : EvB K te ρ β d β1) : StR K E (tRaiseK f C E (tCons te tNil)) ρ β C (some (f, d)) β1 := ⟨h.som, fun b G H σ D e w => h.run b G H σ _ e fun v G1 H1 s1 k1 dv =>
  ⟨v, rfl, fun a ha => by
    have n := Step.new (b := b) (m := false) (o := .xd [(f, v)]) s1.s ha
    exact w (some a) _ _ (s1.trans n.up) (k1.same n) ⟨a, v, rfl, upd_same, dv.mono n.g⟩⟩⟩
theorem st_raise0 : StR K E (tRaise0 C E) ρ β C none β := ⟨rfl, fun b G H σ D e w => w none G H (Step.refl e.sub) e.bagk rfl⟩
end
/-! ### defs that may raise -/
abbrev FX := List Slot → Bag → Res → Bag → Prop
section
variable [TabW]
def ToRes (K : PySem.W.Frag) (b : Addr) (m : Bool) (β' : Bag) (G H : Hp) (Q : VK) (E : XK) : Res → Prop
  | .ok r => ∀ v G' H', Step b m G H G' H' → BagOk b β' G' H' → Den K G' v r → Q v H'
  | .ex C k => ExTo K b m β' G H E C k
def spX (K : PySem.W.Frag) (R : FX) : Sp := fun vs H Q E => ∃ (b : Addr) (G : Hp) (β : Bag) (as : List Slot) (r : Res) (β' : Bag), Ex G H ∧ TabsOk G H ∧ BagOk b β G H ∧ DenSs K b G vs as ∧ R as β r β' ∧ β'.isSome = β.isSome ∧ ToRes K b β.isSome β' G H Q E r
inductive BodyX (K : PySem.W.Frag) (E : XK) (t : TS) (ρ : Rho) (β : Bag) (β' : Bag) : Res → Prop
  | ok {r : Dt} : BodyR K t ρ β r β' → BodyX K E t ρ β β' (.ok r)
  | ex {C : Addr} {k : Kept} : StR K E t ρ β C k β' → BodyX K E t ρ β β' (.ex C k)
structure FnX (P : Program) (w : World) (K : PySem.W.Frag) (mg : Str → Option Value) (base : Heap) (k : Nat) (x : Str) (ps : List Str) (R : FX) : Prop where
  ex : ∃ (f : Addr) (fd : FuncData), mg x = some (.ref f) ∧ FnOk P w K mg base (L2.CX P w) k f fd ps (spX K R) ∧ Binds K fd ps [] ∧ PySem.W.keepIn K (.ref f) = true
/-- a def that wants to know that nothing is being shown -/
structure FnH (P : Program) (w : World) (K : PySem.W.Frag) (mg : Str → Option Value) (base : Heap) (k : Nat) (x : Str) (ps : List Str) (R : FR) : Prop where
  ex : ∃ (f : Addr) (fd : FuncData), mg x = some (.ref f) ∧ FnOkG P w K mg base CX0 k f fd ps (spR K R) ∧ Binds K fd ps [] ∧ PySem.W.keepIn K (.ref f) = true
end
section
variable [TabW] {P : Program} {w : World} {K : PySem.W.Frag} {mg : Str → Option Value} {base : Heap} {X : Cx} {k : Nat} {x : Str} {ps : List Str} {R : FX} {R' : FR} {q pos : Pos} {e : Expr} {es : List Expr} {t : TA} {E : XK}
theorem pe_fnX (F : FnX P w K mg base k x ps R) (hr : Room k X.A) (hx : Passes (L2.CX X.prog X.w) X E) (ha : PA X (e :: es) t) (h1 : X.prog = P := by rfl) (h2 : X.w = w := by rfl) (h3 : X.K = K := by rfl) (h4 : X.mg = mg := by rfl) (h5 : X.base = base := by rfl)
    (hg : Gl X x := by rfl) (hdb : (x == ("__debug__" : Str)) = false := by decide) (hs : starEach (e :: es) X.env = (false, eval e X.env) :: starEach es X.env := by rfl)
    (hp : (backTo pos (starEach es X.env)).any (·.1) = false := by rfl) : PE X (.Call (.Name x q) (e :: es) [] pos) (tCall (spX K R) [] E t) := by
  obtain ⟨f, fd, hm, hf, hb, hk⟩ := F.ex
  subst h1 h2 h3 h4 h5
  exact pe_call hf hr hg hm hk hb .nil hx ha hdb hs hp
theorem pe_fnH (F : FnH P w K mg base k x ps R') (hr : RoomG k X.A) (ha : PA X (e :: es) t) (h1 : X.prog = P := by rfl) (h2 : X.w = w := by rfl) (h3 : X.K = K := by rfl) (h4 : X.mg = mg := by rfl) (h5 : X.base = base := by rfl)
    (hg : Gl X x := by rfl) (hdb : (x == ("__debug__" : Str)) = false := by decide) (hs : starEach (e :: es) X.env = (false, eval e X.env) :: starEach es X.env := by rfl)
    (hp : (backTo pos (starEach es X.env)).any (·.1) = false := by rfl) : PE X (.Call (.Name x q) (e :: es) [] pos) (tCall (spR K R') [] E0 t) := by
  obtain ⟨f, fd, hm, hf, hb, hk⟩ := F.ex
  subst h1 h2 h3 h4 h5
  exact pe_callG hf hr hg hm hk hb pass0 ha hdb hs hp
end
section
variable [TabW] {P : Program} {w : World} {K : PySem.W.Frag} {mg : Str → Option Value} {base : Heap} {k : Nat} {x : Str} {st : Stmt} {N ps : List Str} {R : FX} {R' : FR}
theorem fnX_read {t : TS} {vs : List V} {H : Hp} {Q : VK} {E : XK} (h : ∀ as β r β', R as β r β' → BodyX K E t (startR N as) β β' r) (hsp : spX K R vs H Q E) : t { nx := fun _ H' => Q .non H', rt := Q } (L2.start N vs) H := by
  obtain ⟨b, G, β, as, r, β', e, tb, kb, ha, hR, hm, kk⟩ := hsp
  have E0 := start_env (N := N) e tb kb ha
  cases h _ _ _ _ hR with
  | ok hb =>
    cases hb with
    | ret hb => exact hb.run b G H _ _ E0 fun v G' H' s' k' d' => kk v G' H' s' k' d'
    | fall ρ' hb hr =>
      subst hr
      exact hb.run b G H _ _ E0 fun σ' G' H' s' e' => kk .non G' H' s' e'.bagk .non
  | ex hb => exact hb.run b G H _ _ E0 kk
theorem fnX_mk (F : DefAt K x st) (hX : K.In base) (hG : base.Ns mainGlobals mg) (S : FnScope N ps (defScope st)) (hlen : ∀ as β r β', R as β r β' → as.length = ps.length)
    (hb : ∀ (f : Addr) (kV doc pm : Value) (an : Option Addr) (cdv ct : Value) (us : List Value), us.length = ps.length → bindArgs (PySem.W.fnOf x x (defArgs st) (defBody st) (defScope st) .none kV doc pm an cdv ct) ⟨us, []⟩ = pure (ps.zip us))
    (hbody : ∀ (f : Addr) (cdv : Value) (A : Around) (outer : List PySem.Env) (s : Shared) (H : Hp) (E : XK), Room k (A.deeper (envOfC x (defScope st) s.heap.objs.size f cdv)) →
      ∃ t, PSs (cxOf (L2.CX P w) P w K mg base N x (defScope st) f cdv A outer s H E) (defBody st) t ∧ ∀ as β r β', R as β r β' → BodyX K E t (startR N as) β β' r) : FnX P w K mg base (k + 1) x ps R := by
  obtain ⟨f, fd, ha, hF⟩ := F.ex
  refine ⟨f, fd, PySem.W.mg_of hX hG ha, ?_, hF.binds (hb f), hF.kp⟩
  refine hF.okX S (fun vs H Q E hsp => ?_) fun cdv A outer s H vs Q E hr hsp => ?_
  · obtain ⟨b, G, β, as, r, β', _, _, _, hd, hR, _⟩ := hsp
    rw [hd.length]
    exact hlen _ _ _ _ hR
  · obtain ⟨t, h1, h2⟩ := hbody f cdv A outer s H E hr
    exact ⟨t, h1, fnX_read h2 hsp⟩
theorem fnG_ok {sp : Sp} {f : Addr} {fd : FuncData} (hF : Fun K x x st f fd) (S : FnScope N ps (defScope st)) (hlen : ∀ vs H Q E, sp vs H Q E → vs.length = ps.length)
    (hbody : ∀ (cdv : Value) (A : Around) (outer : List PySem.Env) (s : Shared) (H : Hp) (vs : List V) (Q : VK) (E : XK), RoomG k (A.deeper (envOfC x (defScope st) s.heap.objs.size f cdv)) → sp vs H Q E →
      ∃ t, PSs (cxOf CX0 P w K mg base N x (defScope st) f cdv A outer s H E).nox (defBody st) t ∧ t { nx := fun _ H' => Q .non H', rt := Q } (L2.start N vs) H) : FnOkG P w K mg base CX0 (k + 1) f fd ps sp := by
  obtain ⟨oc, od, kV, doc, pm, an, cdv, ct, osl, rfl, lk, hcd⟩ := hF.ex
  refine ⟨hlen, fun A outer s H args us vs Q E hr e0 hb rv hsp => LamX.run_ofS lk hcd S hr.toRoom e0 hb rv (hlen _ _ _ _ hsp) fun _ => ?_⟩
  obtain ⟨t, h1, h2⟩ := hbody cdv A outer s H vs Q E (hr.deeper _) hsp
  exact ⟨t, h1.nox, h2⟩
theorem fnH_mk (F : DefAt K x st) (hX : K.In base) (hG : base.Ns mainGlobals mg) (S : FnScope N ps (defScope st)) (hlen : ∀ as β r β', R' as β r β' → as.length = ps.length)
    (hb : ∀ (f : Addr) (kV doc pm : Value) (an : Option Addr) (cdv ct : Value) (us : List Value), us.length = ps.length → bindArgs (PySem.W.fnOf x x (defArgs st) (defBody st) (defScope st) .none kV doc pm an cdv ct) ⟨us, []⟩ = pure (ps.zip us))
    (hbody : ∀ (f : Addr) (cdv : Value) (A : Around) (outer : List PySem.Env) (s : Shared) (H : Hp) (E : XK), RoomG k (A.deeper (envOfC x (defScope st) s.heap.objs.size f cdv)) →
      ∃ t, PSs (cxOf CX0 P w K mg base N x (defScope st) f cdv A outer s H E).nox (defBody st) t ∧ ∀ as β r β', R' as β r β' → BodyR K t (startR N as) β r β') : FnH P w K mg base (k + 1) x ps R' := by
  obtain ⟨f, fd, ha, hF⟩ := F.ex
  refine ⟨f, fd, PySem.W.mg_of hX hG ha, ?_, hF.binds (hb f), hF.kp⟩
  refine fnG_ok hF S (fun vs H Q E hsp => ?_) fun cdv A outer s H vs Q E hr hsp => ?_
  · obtain ⟨b, G, β, as, r, β', _, _, _, hd, hR, _⟩ := hsp
    rw [hd.length]
    exact hlen _ _ _ _ hR
  · obtain ⟨t, h1, h2⟩ := hbody f cdv A outer s H E hr
    exact ⟨t, h1, fn_read h2 hsp⟩
end
/-! ### a call of a def that may raise -/
section
variable [TabW] {K : PySem.W.Frag} {ρ : Rho} {β β1 β2 : Bag} {t : TA} {E : XK} {as : List Slot} {R : FX} {r : Dt} {C : Addr} {k : Kept}
theorem x_call (ha : EvA K t ρ β as β1) (hR : R as β1 (.ok r) β2) (hm : β2.isSome = β1.isSome) : EvB K (tCall (spX K R) [] E t) ρ β r β2 := by
  refine ⟨hm.trans ha.som, fun b G H σ Q E' kk => ha.run b G H σ _ E' fun vs G1 H1 s1 k1 d1 => ?_⟩
  rw [List.append_nil]
  refine ⟨b, G1, β1, as, .ok r, β2, s1.s, (E'.step s1 k1).tabs, k1, d1, hR, hm, fun v G2 H2 s2 k2 d2 => ?_⟩
  rw [ha.som] at s2
  exact kk v G2 H2 (s1.trans s2) k2 d2
theorem x_call0 (ha : EvA K t ρ β as β1) (hR : R as none (.ok r) none) : EvB K (tCall (spX K R) [] E t) ρ β r β1 := by
  refine ⟨ha.som, fun b G H σ Q E' kk => ha.run b G H σ _ E' fun vs G1 H1 s1 k1 d1 => ?_⟩
  rw [List.append_nil]
  exact ⟨b, G1, none, as, .ok r, none, s1.s, (E'.step s1 k1).tabs, (fun _ z => nomatch z), d1, hR, rfl, fun v G2 H2 s2 k2 d2 => kk v G2 H2 (s1.trans s2.up) (k1.same s2) d2⟩
theorem x_raise0 (ha : EvA K t ρ β as β1) (hR : R as none (.ex C k) none) : EvR K E (tCall (spX K R) [] E t) ρ β C k β1 := by
  refine ⟨ha.som, fun b G H σ Q E' kk => ha.run b G H σ _ E' fun vs G1 H1 s1 k1 d1 => ?_⟩
  rw [List.append_nil]
  exact ⟨b, G1, none, as, .ex C k, none, s1.s, (E'.step s1 k1).tabs, (fun _ z => nomatch z), d1, hR, rfl, fun dx G2 H2 s2 k2 ka => kk dx G2 H2 (s1.trans s2.up) (k1.same s2) ka⟩
end
end TD
/-! ## TdL -/
set_option Elab.async false
set_option linter.all false
set_option maxRecDepth 100000
set_option maxHeartbeats 4100000
/-! A def that calls what it gets and tells how that ends; a lambda of one call handed to it. -/
namespace TD
open PySem L2 PySem.Spec PyProof.Rows LamX
open Evl (Ex ex_l ex_t fresh_back sq_of st_of sz_of sz_lt)
/-- what a clause tells: a text; or a text and what repr makes of the error's field -/
inductive Tell where
  | lit (s : Str)
  | fld (pre f : Str)
abbrev Clauses := List (Addr × Tell)
def ShowAt (K : PySem.W.Frag) (H : Hp) (v : V) (t : Str) : Prop := ∃ d : Dt, Dp K H v d ∧ d.showable = true ∧ d.hasDict = false ∧ d.depth ≤ 20 ∧ d.shown.length ≤ sizeLine ∧ t = d.shown
/-- the wish about what is raised in it -/
def tellX (K : PySem.W.Frag) (Q : VK) : Clauses → XK
  | [] => fun _ _ _ => False
  | (c, .lit s) :: r => fun cls d H => ∃ b, PySem.W.exmOne K cls (.ref c) = some b ∧ (b = true → Q (.str s) H) ∧ (b = false → tellX K Q r cls d H)
  | (c, .fld pre f) :: r => fun cls d H => ∃ b, PySem.W.exmOne K cls (.ref c) = some b ∧ (b = true → cls = .ref c ∧ ∃ (dd : Addr) (fs : List (Str × V)) (v : V) (t : Str), d = some dd ∧ H dd = some (.xd fs) ∧ fs.lookup f = some v ∧ ShowAt K H v t ∧ pre.length + t.length ≤ sizeLine ∧ Q (.str (pre ++ t)) H) ∧
      (b = false → tellX K Q r cls d H)
/-- what it makes of the call's reading -/
def TTell (K : PySem.W.Frag) (l : Clauses) (fine : Str) : (XK → Hp → VK → Prop) → Hp → VK → Prop := fun tl H Q => tl (tellX K Q l) H (fun _ H' => Q (.str fine) H')
abbrev rAddS : R2 := fun x y H Q => ∃ i j, x = .str i ∧ y = .str j ∧ i.length + j.length ≤ sizeLine ∧ Q (.str (i ++ j)) H
def suT (K : PySem.W.Frag) (C : Addr) : Tell → Addr → Value → Option Addr → TS
  | .lit s => fun _ _ _ => tRet (tC (.str s))
  | .fld pre f => fun a k d => tRet (tOp rAddS (tC (.str pre)) (tCB (rRep K) (tCons (tXf a k d C f (tVar 1)) tNil)))
def nmT : Tell → Option Nat
  | .lit _ => none
  | .fld _ _ => some 1
def clT (K : PySem.W.Frag) : Clauses → List Cl
  | [] => []
  | (c, t) :: r => (.ref c, nmT t, suT K c t) :: clT K r
theorem clT_run {K : PySem.W.Frag} {Q : VK} {D : Ends} (hQ : D.rt = Q) : ∀ {l : Clauses} {cls : Value} {d : Option Addr} {σ : L2.St} {H : Hp}, tellX K Q l cls d H → wNames K 2 (fun _ _ _ _ => False) D (clT K l) cls d σ H
  | [], _, _, _, _, h => h
  | (c, .lit s) :: r, cls, d, σ, H, ⟨b, h1, h2, h3⟩ => ⟨b, h1, fun hb _ a _ => by
    show (endN D none).rt (.str s) H
    unfold endN
    rw [hQ]
    exact h2 hb, fun hb => clT_run hQ (h3 hb)⟩
  | (c, .fld pre f) :: r, cls, d, σ, H, ⟨b, h1, h2, h3⟩ => ⟨b, h1, fun hb hl a _ => by
    obtain ⟨e, dd, fs, v, t, ed, ea, lk, ⟨dt, hd, s1, s2, s3, s4, et⟩, hz, q⟩ := h2 hb
    have q1 : (σ.set 1 (some (V.ref a)))[1]? = some (some (.ref a)) := List.getElem?_set_self (by omega)
    refine ⟨_, q1, rfl, e, dd, fs, v, ed, ea, lk, v, dt, rfl, hd, s1, s2, s3, s4, pre, dt.shown, rfl, rfl, by rw [← et]; exact hz, ?_⟩
    show (endN D (some 1)).rt _ H
    unfold endN
    rw [hQ, ← et]
    exact q, fun hb => clT_run hQ (h3 hb)⟩
section
variable {X : Cx}
/-- the def that catches -/
theorem tells {Ng : List Str} {x a q fine : Str} {sg : Scope} {g : Addr} {cdg : Value} {l : Clauses} {h0 : ExceptHandler} {hs : List ExceptHandler} {p1 p2 p3 p4 p5 p6 : Pos} {j : Nat} (hN2 : Ng.length = 2)
    (hc : ∀ (s : Shared) (H : Hp), Cls (cxOf C8.CX0 X.prog X.w X.K X.mg X.base Ng x sg g cdg X.A X.stack s H C8.E0).nox (h0 :: hs) (clT X.K l)) :
    GivesTo X Ng x sg g cdg [.Try [.Expr (.Call (.Name a p1) [] [] p2) p3] (h0 :: hs) [] [] p4, .Return (some (.Constant (.str fine) j p5)) p6] a q (TTell X.K l fine) := by
  intro f c' s H Q tl act hco h
  refine ⟨_, pss_cons (ps_tryN (X := (cxOf C8.CX0 X.prog X.w X.K X.mg X.base Ng x sg g cdg X.A X.stack s H C8.E0).nox) (W0 := fun _ _ _ _ => False)
    (tb := fun W D σ H => ∃ Ec : XK, (∀ cls d σ' H', Ec cls d H' → W cls d σ' H') ∧ σ[0]? = some (some (.ref f)) ∧ H c' = some (CodeO c' q) ∧ tl Ec H (fun _ H' => D.nx σ H'))
    rfl rfl L2.takes0 (fun W pn xe tk _ => ?_) (hc s H)) (pss_one (ps_ret pe_str)), ?_⟩
  · refine ⟨fun pins t σ H D I hh => ?_⟩
    obtain ⟨Ec, hW, h1, h2, h3⟩ := hh
    exact (pss_one (ps_expr (act W pn xe Ec p1 p2 tk hW))).run pins t σ H D I ⟨h1, h2, h3⟩
  · refine ⟨tellX X.K Q l, fun cls d σ' H' hE => ?_, ?_, hco, h⟩
    · show wNames X.K Ng.length _ _ _ _ _ _ _
      rw [hN2]
      exact clT_run rfl hE
    · rw [show Ng = [Ng[0]'(by omega), Ng[1]'(by omega)] from by
        match Ng, hN2 with
        | [_, _], _ => rfl]
      rfl
end

/-! ### the clauses of a text -/
section
variable {X : Cx} {hs : List ExceptHandler} {l : Clauses}
theorem cls_nil : Cls X [] (clT X.K []) := .nil
theorem cls_lit {x s : Str} {C : Addr} {p q q1 : Pos} {j : Nat} {p1 : Pos} (n : Names X x (.ref C)) (r : Cls X hs (clT X.K l)) : Cls X (.ExceptHandler (some (.Name x p)) none [.Return (some (.Constant (.str s) j p1)) q1] q :: hs) (clT X.K ((C, .lit s) :: l)) :=
  .bare n (fun _ _ _ _ _ _ _ => pss_one (ps_ret pe_str)) r
theorem cls_fld {x n f pre newId : Str} {C : Addr} {p q q1 p1 p2 p3 p4 p5 p6 : Pos} {j : Nat} (hN : X.N.Nodup) (hi : X.N[1]? = some n) (hl : X.env.kindOf n = some .local) (nm : Names X x (.ref C)) (xf : XfC X.K C) (no : PySem.W.findIn X.K (.ref C) f = some none)
    (gd : X.A.guards = some []) (un : X.A.units + 64 < cLine) (gr : Gl X "repr") (mr : X.mg "repr" = none) (hb : attributeBase (.Name n p4) f X.env (eval (.Name n p4) X.env) = eval (.Name n p4) X.env) (dn : (n == ("__debug__" : Str)) = false) (cn : (n == ("__classdict__" : Str)) = false)
    (st : starEach (.Attribute (.Name n p4) f p5 :: []) X.env = (false, eval (.Attribute (.Name n p4) f p5) X.env) :: starEach [] X.env) (r : Cls X hs (clT X.K l)) :
    Cls X (.ExceptHandler (some (.Name x p)) (some n) [.Return (some (.BinOp (.Constant (.str pre) j p1) .Add (.Call (.Name "repr" p2) [.Attribute (.Name n p4) f p5] [] p3) p6)) q1] q :: hs) (clT X.K ((C, .fld pre f) :: l)) :=
  .named hN hi hl nm (fun a oe k d pn hz hf => pss_one (ps_ret (pe_op (X := X.suite a ((a, oe) :: pn)) op_add_str pe_str (pe_callB (X := X.suite a ((a, oe) :: pn)) (call_rep gd un) gr mr bo_repr (pa_cons (pe_xf xf no hz hf (pe_var (X := X.suite a ((a, oe) :: pn)) hi (.inl hl) dn cn) hb) pa_nil st))))) r
end
/-! ### a lambda of one call, handed to it -/
/-- the def that catches, where it stands -/
structure WordAt (K : PySem.W.Frag) (mg : Str → Option Value) (x : Str) (st : Stmt) : Prop where
  ex : ∃ (g : Addr) (fd : FuncData), mg x = some (.ref g) ∧ Fun K x x st g fd
theorem wordAt_of {K : PySem.W.Frag} {mg : Str → Option Value} {base : Heap} {x : Str} {st : Stmt} (D : DefAt K x st) (hX : K.In base) (hG : base.Ns mainGlobals mg) : WordAt K mg x st := by
  obtain ⟨f, fd, ha, hF⟩ := D.ex
  exact ⟨f, fd, PySem.W.mg_of hX hG ha, hF⟩
section
variable {X : Cx} {K : PySem.W.Frag} {mg : Str → Option Value}
theorem pe_word {T : List (Addr × Str)} {TT : (XK → Hp → VK → Prop) → Hp → VK → Prop} {x a : Str} {wst : Stmt} {Ng : List Str} {c P : Addr} {k : Nat} {params : Arguments} {body : Expr} {scope : Scope} {t : XK → TE} {p lpos pos : Pos}
    (W : WordAt K mg x wst) (Sg : FnScope Ng [a] (defScope wst)) (hNg : Ng[0]? = some a) (hva : Vis (defScope wst) a)
    (hbw : ∀ (kV doc pm : Value) (an : Option Addr) (cdv ct : Value) (us : List Value), us.length = 1 → bindArgs (PySem.W.fnOf x x (defArgs wst) (defBody wst) (defScope wst) .none kV doc pm an cdv ct) ⟨us, []⟩ = pure ([a].zip us))
    (hG : ∀ (g : Addr) (cdg : Value), GivesTo X Ng x (defScope wst) g cdg (defBody wst) a (X.env.qual ++ "<lambda>") TT) (TB : TabB X.base X.mg c P) (hcode : X.env.code = .ref c) (hmT : (P, X.env.qual ++ "<lambda>") ∈ T) (hu : ∀ p ∈ T, p.1 = P → p.2 = X.env.qual ++ "<lambda>")
    (hr : Room (k + 2) X.A) (L : LamS X.env.scope scope) (hdef : defaultsOf params X.env = ([], [])) (hbind : ∀ (q : Str) (cl : List (Str × Addr)) (pm cv ctv : Value), bindArgs (PySem.W.kla_fn "<lambda>" q params body scope cl pm cv ctv) ⟨[], []⟩ = pure [])
    (hbody : ∀ (A : Around) (outer : List PySem.Env) (s : Shared) (H : Hp) (E : XK) (f c' : Addr), Room k (A.deeper (lamEnv X scope s.heap.objs.size f c')) → PE (lamCx X A outer s H E scope f c') body (t E))
    (h3 : X.K = K := by rfl) (h4 : X.mg = mg := by rfl) (hg : Gl X x := by rfl) (hdb : (x == ("__debug__" : Str)) = false := by decide) (hd : (a == ("__debug__" : Str)) = false := by decide) (hcd : (a == ("__classdict__" : Str)) = false := by decide) :
    PE X (Expr.Call (.Name x p) [.Lambda params body scope lpos] [] pos) (tLam T TT t) := by
  subst h3 h4
  obtain ⟨g, fd, hm, hF⟩ := W.ex
  have kp := hF.kp
  have bd := hF.binds (ps := [a]) hbw
  obtain ⟨oc, od, kV, doc, pm, an, cdv, ct, osl, rfl, lk, hcdg⟩ := hF.ex
  exact pe_lamcall hg hm kp lk hcdg bd Sg hNg hva (hG g cdv) TB hcode hmT hu hr L hdef hbind hbody hdb hd hcd
end
/-- in a lambda's body what the call raises is handed on -/
theorem pass_lam {X : Cx} {A : Around} {outer : List PySem.Env} {s : Shared} {H : Hp} {E : XK} {scope : Scope} {f c' : Addr} (hk : scope.kind = .function) : Passes (L2.CX X.prog X.w) (lamCx X A outer s H E scope f c') E :=
  fun pins σ H' s' e s'' I c => passes_call (X := lamCx X A outer s H E scope f c') (W := fun cls d _ H => E cls d H) (takes_of rfl rfl rfl rfl) (fun _ _ _ _ h => h) pins σ H' s' e s'' I c
/-! ### what it comes to -/
/-- what a class's error is told as -/
inductive ToldAs (K : PySem.W.Frag) (C : Addr) : Clauses → Kept → Str → Prop
  | lit {s : Str} {l : Clauses} {k : Kept} : PySem.W.exmOne K (.ref C) (.ref C) = some true → ToldAs K C ((C, .lit s) :: l) k s
  | litOf {c : Addr} {s : Str} {l : Clauses} {k : Kept} : PySem.W.exmOne K (.ref C) (.ref c) = some true → ToldAs K C ((c, .lit s) :: l) k s
  | fld {pre f : Str} {l : Clauses} {d : Dt} : PySem.W.exmOne K (.ref C) (.ref C) = some true → ShowOk d → pre.length + d.shown.length ≤ sizeLine → ToldAs K C ((C, .fld pre f) :: l) (some (f, d)) (pre ++ d.shown)
  | next {c : Addr} {t : Tell} {l : Clauses} {k : Kept} {s : Str} : PySem.W.exmOne K (.ref C) (.ref c) = some false → ToldAs K C l k s → ToldAs K C ((c, t) :: l) k s
section
variable [TabW] {K : PySem.W.Frag} {b : Addr} {ρ : Rho} {β β1 : Bag} {ta : TA} {as : List Slot} {R : FX} {r : Dt} {C : Addr} {k : Kept} {l : Clauses} {s fine : Str} {T : List (Addr × Str)} {G H G1 H1 : Hp}
theorem toldAs_run {Q : VK} {dx : Option Addr} (h : ToldAs K C l k s) (e : Ex G H) (ka : KeptAt K G dx k) (q : Q (.str s) H) : tellX K Q l (.ref C) dx H := by
  induction h with
  | lit h1 => exact ⟨true, h1, fun _ => q, fun z => by cases z⟩
  | litOf h1 => exact ⟨true, h1, fun _ => q, fun z => by cases z⟩
  | @fld pre f l d h1 so hz =>
    obtain ⟨a, v, e1, e2, e3⟩ := ka
    refine ⟨true, h1, fun _ => ⟨rfl, a, [(f, v)], v, d.shown, e1, e _ _ e2, by simp [List.lookup], ⟨d, e3.dp e so.1, so.2.1, so.2.2.1, so.2.2.2.1, so.2.2.2.2, rfl⟩, hz, q⟩, fun z => by cases z⟩
  | @next c t l k s h1 _ ih =>
    cases t with
    | lit _ => exact ⟨false, h1, (fun z => by cases z), fun _ => ih ka q⟩
    | fld _ _ => exact ⟨false, h1, (fun z => by cases z), fun _ => ih ka q⟩
/-- the tables are written, all else stays -/
theorem step_ext {m : Bool} (hw : ∀ P q, TabW.w P q ↔ (P, q) ∈ T) (ex : Ex G H) (tb : TabsOk G H) (e : ExtN H H1) (t1 : Tabs T H1) : Step b m G H G H1 :=
  ⟨Ex.refl G, fun x o h => e x o (ex x o h) (fun ps z => tb.free x ps (by rw [h, z])), fun _ _ h _ _ => h, fun x o _ t h => e x o h t, fun x o t h => ⟨o, t, e x o h t⟩, fun tb => ⟨fun P q w => t1 (P, q) ((hw P q).mp w), tb.free⟩⟩
theorem tabs_of (hw : ∀ P q, TabW.w P q ↔ (P, q) ∈ T) (tb : TabsOk G H) : Tabs T H := fun p hp => tb.tab p.1 p.2 ((hw p.1 p.2).mpr hp)
theorem d_lamOk (hw : ∀ P q, TabW.w P q ↔ (P, q) ∈ T) (ha : EvA K ta ρ β as β1) (hR : R as none (.ok r) none) : EvB K (tLam T (TTell K l fine) (fun E => tCall (spX K R) [] E ta)) ρ β (.str fine) β1 := by
  refine ⟨ha.som, fun b G H σ Q E kk => ⟨tabs_of hw E.tabs, fun H1 e t1 => ?_⟩⟩
  have s0 : Step b β.isSome G H G H1 := step_ext hw E.sub E.tabs e t1
  have k0 : BagOk b β G H1 := fun ns z => ⟨e _ _ (E.bagk ns z).1 NoT.lst, (E.bagk ns z).2⟩
  exact (x_call0 (E := tellX K Q l) ha hR).run b G H1 σ _ (E.step s0 k0) fun v G2 H2 s2 k2 _ => kk _ G2 H2 (s0.trans s2) k2 (.str _)
theorem d_lamEx (hw : ∀ P q, TabW.w P q ↔ (P, q) ∈ T) (ha : EvA K ta ρ β as β1) (hR : R as none (.ex C k) none) (ht : ToldAs K C l k s) : EvB K (tLam T (TTell K l fine) (fun E => tCall (spX K R) [] E ta)) ρ β (.str s) β1 := by
  refine ⟨ha.som, fun b G H σ Q E kk => ⟨tabs_of hw E.tabs, fun H1 e t1 => ?_⟩⟩
  have s0 : Step b β.isSome G H G H1 := step_ext hw E.sub E.tabs e t1
  have k0 : BagOk b β G H1 := fun ns z => ⟨e _ _ (E.bagk ns z).1 NoT.lst, (E.bagk ns z).2⟩
  exact (x_raise0 (E := tellX K Q l) ha hR).run b G H1 σ _ (E.step s0 k0) fun dx G2 H2 s2 k2 ka => toldAs_run ht s2.s ka (kk _ G2 H2 (s0.trans s2) k2 (.str _))
end

/-! ### classes of errors, as a text has them -/
/-- a class that keeps its one argument in the field f -/
structure OwnC (K : PySem.W.Frag) (mg : Str → Option Value) (x f : Str) (C : Addr) : Prop where
  ex : ∃ (fI : Addr) (B newId initId : String) (bt : List Value), PySem.ExcBaseFacts B newId initId bt ∧ TO.Own K mg x f C fI newId bt ∧ TO.Fld f ∧ bt.contains (.type "object") = true ∧ ∀ o : Value, refuseLoop o "__setattr__" bt = pure ()
/-- a class of its own name alone -/
structure BareC (K : PySem.W.Frag) (mg : Str → Option Value) (x : Str) (C : Addr) : Prop where
  ex : ∃ (B newId initId : String) (bt : List Value), PySem.ExcBaseFacts B newId initId bt ∧ PySem.W.excIn K C bt newId = true ∧ mg x = some (.ref C) ∧ PySem.W.keepIn K (.ref C) = true ∧ PySem.W.subIn K (.ref C) (.type "BaseException") = some true ∧ PySem.W.typeIn K (.ref C) = some (.type "type")
theorem OwnC.gC {K : PySem.W.Frag} {mg : Str → Option Value} {x f : Str} {C : Addr} (O : OwnC K mg x f C) : mg x = some (.ref C) := by
  obtain ⟨_, _, _, _, _, _, T, _⟩ := O.ex
  exact T.gC
theorem OwnC.xf {K : PySem.W.Frag} {mg : Str → Option Value} {x f : Str} {C : Addr} (O : OwnC K mg x f C) : XfC K C := by
  obtain ⟨_, _, _, _, _, _, T, _⟩ := O.ex
  exact T.xf
theorem OwnC.noN {K : PySem.W.Frag} {mg : Str → Option Value} {x f : Str} {C : Addr} (O : OwnC K mg x f C) : PySem.W.findIn K (.ref C) f = some none := by
  obtain ⟨_, _, _, _, _, _, T, _⟩ := O.ex
  exact T.noN
theorem BareC.gC {K : PySem.W.Frag} {mg : Str → Option Value} {x : Str} {C : Addr} (O : BareC K mg x C) : mg x = some (.ref C) := by
  obtain ⟨_, _, _, _, _, _, h, _⟩ := O.ex
  exact h
section
variable {X : Cx} {K : PySem.W.Frag} {mg : Str → Option Value} {x f m : Str} {C : Addr} {k : Nat} {E : XK} {a : Expr} {ta : TA} {p pos pos2 p2 : Pos} {j : Nat}
theorem ps_raiseOwn (O : OwnC K mg x f C) (hr : Room k X.A) (tk : Takes X (fun cls d _ H => E cls d H)) (ha : PA X [a] ta) (hc : X.calm = true := by rfl) (h3 : X.K = K := by rfl) (h4 : X.mg = mg := by rfl) (hg : Gl X x := by rfl) (hdb : (x == ("__debug__" : Str)) = false := by decide)
    (he : starEach (a :: []) X.env = (false, eval a X.env) :: starEach [] X.env := by rfl) (hpl : (backTo pos (starEach [] X.env)).any (·.1) = false := by rfl) : PS X (.Raise (some (.Call (.Name x p) [a] [] pos)) none pos2) (tRaiseK f C E ta) := by
  subst h3 h4
  obtain ⟨fI, B, newId, initId, bt, F, T, D, hob, hps⟩ := O.ex
  exact ps_raise hc tk (TO.pmk_made F T D hob hps hr ha hg hdb he hpl)
theorem ps_raiseBare (O : BareC K mg x C) (tk : Takes X (fun cls d _ H => E cls d H)) (hc : X.calm = true := by rfl) (h3 : X.K = K := by rfl) (h4 : X.mg = mg := by rfl) (hg : Gl X x := by rfl) (hdb : (x == ("__debug__" : Str)) = false := by decide) :
    PS X (.Raise (some (.Call (.Name x p) [.Constant (.str m) j p2] [] pos)) none pos2) (tRaise0 C E) := by
  subst h3 h4
  obtain ⟨B, newId, initId, bt, F, q, gC, kC, sb, ty⟩ := O.ex
  exact ps_raise hc tk (pmk_own F q gC kC (raises_own sb ty) hg hdb)
end
/-- what a callee raises is handed on, in a def that may raise -/
theorem pass_x {X : Cx} {E : XK} (tk : Takes X (fun cls d _ H => E cls d H)) : Passes (L2.CX X.prog X.w) X E := passes_call tk fun _ _ _ _ h => h
/-- a def whose code object is known: one that makes lambdas -/
structure DefAtC (K : PySem.W.Frag) (x : Str) (st : Stmt) (c : Addr) : Prop where
  ex : ∃ (f : Addr) (oc : Value) (od : Option Addr) (kV doc pm : Value) (an : Option Addr) (ct : Value) (osl : Array (Option Value)), PySem.W.nsIn K mainGlobals x = some (some (.ref f)) ∧
    K.lookup f = some ⟨oc, od, .func (PySem.W.fnOf x x (defArgs st) (defBody st) (defScope st) .none kV doc pm an (.ref c) ct), osl⟩ ∧ PySem.W.codeIn K (.ref c) x = true ∧ PySem.W.keepIn K (.ref f) = true
section
variable [TabW] {P : Program} {w : World} {K : PySem.W.Frag} {mg : Str → Option Value} {base : Heap} {k : Nat} {x : Str} {st : Stmt} {N ps : List Str} {R : FR} {c : Addr}
theorem fnC_mk (F : DefAtC K x st c) (hX : K.In base) (hG : base.Ns mainGlobals mg) (S : FnScope N ps (defScope st)) (hlen : ∀ as β r β', R as β r β' → as.length = ps.length)
    (hb : ∀ (f : Addr) (kV doc pm : Value) (an : Option Addr) (cdv ct : Value) (us : List Value), us.length = ps.length → bindArgs (PySem.W.fnOf x x (defArgs st) (defBody st) (defScope st) .none kV doc pm an cdv ct) ⟨us, []⟩ = pure (ps.zip us))
    (hbody : ∀ (f : Addr) (A : Around) (outer : List PySem.Env) (s : Shared) (H : Hp) (E : XK), RoomG k (A.deeper (envOfC x (defScope st) s.heap.objs.size f (.ref c))) →
      ∃ t, PSs (cxOf CX0 P w K mg base N x (defScope st) f (.ref c) A outer s H E).nox (defBody st) t ∧ ∀ as β r β', R as β r β' → BodyR K t (startR N as) β r β') : FnH P w K mg base (k + 1) x ps R := by
  obtain ⟨f, oc, od, kV, doc, pm, an, ct, osl, ha, lk, hcd, kp⟩ := F.ex
  have len : ∀ vs H Q E, spR K R vs H Q E → vs.length = ps.length := fun vs H Q E hsp => by
    obtain ⟨b, G, β, as, r, β', _, _, _, hd, hR, _⟩ := hsp
    rw [hd.length]
    exact hlen _ _ _ _ hR
  refine ⟨f, _, PySem.W.mg_of hX hG ha, ⟨len, fun A outer s H args us vs Q E hr e0 hbd rv hsp => LamX.run_ofS lk hcd S hr.toRoom e0 hbd rv (len _ _ _ _ hsp) fun _ => ?_⟩, (fun s us _ hl => ?_), kp⟩
  · obtain ⟨t, h1, h2⟩ := hbody f A outer s H E (hr.deeper _)
    exact ⟨t, h1.nox, fn_read h2 hsp⟩
  · rw [List.append_nil] at hl ⊢
    exact .of_eq (hb f kV doc pm an (.ref c) ct us hl)
end
/-- the fields that occur -/
theorem fld_given : TO.Fld "given" := ⟨by decide, fun _ _ => by rfl, fun _ _ _ _ => by rfl, fun _ _ _ _ => by rfl, fun _ _ _ _ _ _ => by rfl, fun _ _ _ _ _ _ => by rfl, fun _ _ _ _ _ _ _ _ _ _ _ _ _ _ _ => BindsTo.of_eq (by first | rfl | with_unfolding_all rfl), fun _ => by simp [List.lookup]⟩
theorem fld_most : TO.Fld "most" := ⟨by decide, fun _ _ => by rfl, fun _ _ _ _ => by rfl, fun _ _ _ _ => by rfl, fun _ _ _ _ _ _ => by rfl, fun _ _ _ _ _ _ => by rfl, fun _ _ _ _ _ _ _ _ _ _ _ _ _ _ _ => BindsTo.of_eq (by first | rfl | with_unfolding_all rfl), fun _ => by simp [List.lookup]⟩
theorem fld_reason : TO.Fld "reason" := ⟨by decide, fun _ _ => by rfl, fun _ _ _ _ => by rfl, fun _ _ _ _ => by rfl, fun _ _ _ _ _ _ => by rfl, fun _ _ _ _ _ _ => by rfl, fun _ _ _ _ _ _ _ _ _ _ _ _ _ _ _ => BindsTo.of_eq (by first | rfl | with_unfolding_all rfl), fun _ => by simp [List.lookup]⟩
end TD
/-! ## TdA -/
set_option Elab.async false
set_option linter.all false
set_option maxRecDepth 100000
set_option maxHeartbeats 4100000
/-! A list of one's own, in a slot, that grows while other things are done. -/
namespace TD
open PySem L2 PySem.Spec PyProof.Rows
open Evl (Ex ex_l ex_t fresh_back sq_of st_of sz_of sz_lt)
/-- slot i holds a list at p that nothing else knows -/
structure OwnL [TabW] (K : PySem.W.Frag) (b : Addr) (β : Bag) (i : Nat) (p : Addr) (G H : Hp) (σ : L2.St) (ρ : Rho) (ds : List Dt) : Prop where
  env : EnvD K b β G H σ ρ
  slot : ρ[i]? = some none
  at_ : σ[i]? = some (some (.ref p))
  free : G p = none
  nb : β.isSome = true → p ≠ b
  val : ∃ ws, H p = some (.lst ws) ∧ DenL K G ws ds
structure StO [TabW] (K : PySem.W.Frag) (i : Nat) (ts : TS) (ρ : Rho) (β : Bag) (ds : List Dt) (o : Out) (β' : Bag) : Prop where
  som : β'.isSome = β.isSome
  run : ∀ (b : Addr) (G0 H0 G H : Hp) (σ : L2.St) (p : Addr) (D : Ends), Gone H0 p → Step b β.isSome G0 H0 G H → OwnL K b β i p G H σ ρ ds → OutOk K b β.isSome β' G0 H0 D o → ts D σ H
section
variable [TabW] {K : PySem.W.Frag} {b : Addr} {ρ : Rho} {β β1 β2 : Bag} {ta : TA} {te : TE} {tw : TS} {d : Dt} {ds : List Dt} {o : Out} {i j : Nat} {G H G0 H0 : Hp} {σ : L2.St} {p : Addr}
/-- nothing but the slot is told anew -/
theorem EnvD.forget {i : Nat} {v : V} (E : EnvD K b β G H σ ρ) : EnvD K b β G H (σ.set i (some v)) (ρ.set i none) := by
  have E' := (E.set (i := i) (v := .non) (d := .none) .non).unset (i := i)
  rw [List.set_set, List.set_set] at E'
  by_cases h : i < ρ.length
  · have q : (ρ.set i none)[i]? = some none := List.getElem?_set_self h
    have E2 := E'.put (v := some v) q
    rw [List.set_set] at E2
    exact E2
  · have hr : ρ.set i none = ρ := List.set_eq_of_length_le (by omega)
    have hs : σ.set i (some v) = σ := List.set_eq_of_length_le (by rw [E.len]; omega)
    rw [hr, hs]
    exact E
theorem so_end (h : StB K tw (ρ.set i (some (.imm (.list ds)))) β o β1) : StO K i tw ρ β ds o β1 := by
  refine ⟨h.som, fun b G0 H0 G H σ p D gn s w k => ?_⟩
  obtain ⟨ws, hp, dw⟩ := w.val
  have ex : Ex G (upd G p (.lst ws)) := Ex.new w.free
  have s2 : Step b β.isSome G0 H0 (upd G p (.lst ws)) H := by
    refine ⟨s.g.trans ex, fun a u z => ?_, fun a u h1 t h2 => ?_, s.keep, s.stay, fun t => ⟨(s.tabs t).tab, fun x ps z => ?_⟩⟩
    · by_cases q : a = p
      · subst q; rw [upd_same] at z; cases z; exact hp
      · rw [upd_ne q] at z; exact s.s a u z
    · rw [upd_ne (gn.ne t h2)]
      exact s.fresh a u h1 t h2
    · by_cases q : x = p
      · rw [q, upd_same] at z; cases z
      · rw [upd_ne q] at z; exact (s.tabs t).free x ps z
  have E := w.env
  have E2 : EnvD K b β (upd G p (.lst ws)) H σ ρ := by
    refine ⟨s2.s, fun ns e => ⟨(E.bagk ns e).1, ?_⟩, E.len, fun i d q => ?_, E.bagv, ⟨E.tabs.tab, fun x ps z => ?_⟩, E.fnv⟩
    · rw [upd_ne (Ne.symm (w.nb (by rw [e]; rfl)))]
      exact (E.bagk ns e).2
    · obtain ⟨v, h1, h2⟩ := E.imm i d q
      exact ⟨v, h1, h2.mono ex⟩
    · by_cases q : x = p
      · rw [q, upd_same] at z; cases z
      · rw [upd_ne q] at z; exact E.tabs.free x ps z
  have E3 := E2.set (i := i) (v := .ref p) (d := .list ds) (.lst upd_same (dw.mono ex))
  have e : σ.set i (some (.ref p)) = σ := by
    apply List.ext_getElem?
    intro n
    by_cases q : i = n
    · subst q
      rw [List.getElem?_set_self (List.getElem?_eq_some_iff.mp w.at_).1, w.at_]
    · rw [List.getElem?_set_ne q]
  rw [e] at E3
  exact h.run b _ H σ D E3 (k.of (D' := D) s2)
theorem so_app (h : EvB K te ρ β d β1) (hz : ds.length ≤ 1000) (h' : StO K i tw ρ β1 (ds ++ [d]) o β2) : StO K i (tSeq (tDrop (tBM K "list" rAppend (tVar i) (tCons te tNil))) tw) ρ β ds o β2 := by
  refine ⟨h'.som.trans h.som, fun b G0 H0 G H σ p D gn s w k => ?_⟩
  obtain ⟨ws, hp, dw⟩ := w.val
  refine ⟨_, w.at_, .inl ⟨rfl, ws, sq_of hp⟩, ?_⟩
  refine h.run b G H σ _ w.env fun y G1 H1 s1 k1 d1 => ?_
  have hp1 : H1 p = some (.lst ws) := s1.keep p _ w.nb NoT.lst hp
  have gp1 : G1 p = none := s1.fresh p _ w.free NoT.lst hp
  have hl := dw.length
  refine ⟨p, ws, y, rfl, rfl, hp1, sz_lt (by omega), ?_⟩
  have nb1 : β1.isSome = true → p ≠ b := fun z => w.nb (h.som ▸ z)
  have s2 := (s.trans s1).mut (ob := .lst (ws ++ [y])) gn gp1 (LstAt.of hp1)
  refine h'.run b G0 H0 G1 _ σ p D gn (by rw [h.som]; exact s2) ⟨(w.env.step s1 k1).mutl gp1 nb1 (LstAt.of hp1), w.slot, w.at_, gp1, nb1, ws ++ [y], upd_same, (dw.mono s1.g).append (.cons d1 .nil)⟩ (by rw [h.som]; exact k)
theorem so_asg (hij : i ≠ j) (h : EvB K te ρ β d β1) (h' : StO K i tw (ρ.set j (some (.imm d))) β1 ds o β2) : StO K i (tSeq (tAsg te (gName j)) tw) ρ β ds o β2 := by
  refine ⟨h'.som.trans h.som, fun b G0 H0 G H σ p D gn s w k => ?_⟩
  obtain ⟨ws, hp, dw⟩ := w.val
  refine h.run b G H σ _ w.env fun y G1 H1 s1 k1 d1 => ?_
  have hp1 : H1 p = some (.lst ws) := s1.keep p _ w.nb NoT.lst hp
  have gp1 : G1 p = none := s1.fresh p _ w.free NoT.lst hp
  refine h'.run b G0 H0 G1 H1 _ p D gn (by rw [h.som]; exact s.trans s1) ⟨(w.env.step s1 k1).set d1, ?_, ?_, gp1, fun z => w.nb (h.som ▸ z), ws, hp1, dw.mono s1.g⟩ (by rw [h.som]; exact k)
  · rw [List.getElem?_set_ne (Ne.symm hij)]
    exact w.slot
  · rw [List.getElem?_set_ne (Ne.symm hij)]
    exact w.at_
theorem st_ownL (hi : i < ρ.length) (h : EvA K ta ρ β (imms ds) β1) (hz : ds.length ≤ 1000) (h' : StO K i tw (ρ.set i none) β1 ds o β2) : StB K (tSeq (tAsg (tLst ta) (gName i)) tw) ρ β o β2 := by
  refine ⟨h'.som.trans h.som, fun b G H σ D E k => ?_⟩
  refine h.run b G H σ _ E fun vs G1 H1 s1 k1 d1 => ?_
  have dl := d1.imm
  have hl := dl.length
  refine ⟨sz_of (by omega), fun p hp => ?_⟩
  have gp : G1 p = none := fresh_back s1.s hp
  have nb : β1.isSome = true → p ≠ b := bag_ne k1 rfl hp
  have E1 := E.step s1 k1
  have s2 : Step b β1.isSome G1 H1 G1 (upd H1 p (.lst vs)) := (Step.refl s1.s).mut (Gone.none hp) gp (LstAt.none hp)
  have hil : i < σ.length := by rw [E.len]; exact hi
  have E2 := (E1.mutl (o := .lst vs) gp nb (LstAt.none hp)).forget (i := i) (v := .ref p)
  have gn : Gone H1 p := Gone.none hp
  refine h'.run b G1 H1 G1 _ _ p D gn s2 ⟨E2, List.getElem?_set_self hi, List.getElem?_set_self hil, gp, nb, vs, upd_same, dl⟩ ?_
  rw [h.som]
  exact k.of (D' := D) s1
end
end TD
/-! ## TdR -/
set_option Elab.async false
set_option linter.all false
set_option maxRecDepth 100000
set_option maxHeartbeats 4100000
/-! More rules over data: lists of ranges, sorted ints, repeated lists and tuples, zip of lists, an empty dict, joined texts. -/
namespace TD
open PySem L2 PySem.Spec PyProof.Rows
open RZ
open Evl (Ex ex_l ex_t fresh_back sq_of st_of sz_of sz_lt)
section
variable [TabW] {K : PySem.W.Frag} {b : Addr} {ρ ρx : Rho} {β β1 β2 β3 : Bag} {ta tb te : TE} {tt : TT} {x y d : Dt} {G H G1 H1 : Hp} {σ : L2.St}
/-- the pairs of two lists -/
theorem d_lcZL {i j : Nat} {vs : List Nat} {xs ys rs : List Dt} (hx : EvB K ta ρ β (.list xs) β1) (hy : EvB K tb ρ β1 (.list ys) β2) (hxy : xs.length = ys.length) (h : LcZ K i j tt te (xs.zip ys) (wipeR ρ vs) β2 rs β3) (hz : rs.length ≤ 100000)
    (hi : i ∈ vs) (hj : j ∈ vs) : EvB K (tLc (iZipA K (tCons ta (tCons tb tNil))) (gTup K 2 (gCons (gName i) (gCons (gName j) gNil))) tt te vs) ρ β (.list rs) β3 := by
  refine ⟨h.som.trans (hy.som.trans hx.som), fun b G H σ Q E k => ?_⟩
  refine hx.run b G H σ _ E fun v G0 H0 s0 k0 d0 => ?_
  have E0 := E.step s0 k0
  refine hy.run b G0 H0 σ _ E0 fun w G1 H1 s1 k1 d1 => ?_
  have E1 := E0.step s1 k1
  rw [hx.som] at s1
  have d0' := d0.mono s1.g
  have s01 := s0.trans s1
  cases d0' with
  | @lst a vsx _ hs hd =>
    cases d1 with
    | @lst c vsy _ hs' hd' =>
      refine ⟨a, c, vsx, vsy, rfl, .inl ⟨sq_of (s1.s _ _ hs), sq_of (s1.s _ _ hs'), fun Dl hD => ?_⟩⟩
      have nb := bag_ne k1 (hy.som.trans hx.som) hD
      have hl : (xs.zip ys).length = xs.length := by rw [List.length_zip]; omega
      have lx := hd.length
      have ly := hd'.length
      refine ⟨fun n q H' => q = xs.length - n ∧ n ≤ xs.length ∧ LcW K b β.isSome G1 H1 Dl rs β3 (fun rest β' => LcZ K i j tt te ((xs.zip ys).drop n) (wipeR ρ vs) β' rest β3) H', ⟨xs.length, by simp, Nat.zero_le _, lc_start s1.s hD k1 (hy.som.trans hx.som) nb h⟩, ?_⟩
      rintro n q H' ⟨rfl, hn, w'⟩
      have hG : Ex G1 H' := by
        obtain ⟨G', β', done, rest, acc, s', _⟩ := w'
        exact s'.g.trans s'.s
      by_cases hlt : n < xs.length
      · have h1 : vsx[n]? = some (vsx[n]'(by omega)) := List.getElem?_eq_getElem (by omega)
        have h2 : vsy[n]? = some (vsy[n]'(by omega)) := List.getElem?_eq_getElem (by omega)
        obtain ⟨dx, e1, e2⟩ := hd.get h1
        obtain ⟨dy, e3, e4⟩ := hd'.get h2
        refine .inr ⟨⟨vsx, vsy, _, _, sq_of (hG _ _ hs), sq_of (hG _ _ hs'), h1, h2⟩, fun H2 => LcW K b β.isSome G1 H1 Dl rs β3 (fun rest β' => LcZ K i j tt te ((xs.zip ys).drop (n + 1)) (wipeR ρ vs) β' rest β3) H2, fun H2 w2 => ⟨xs.length - (n + 1), by omega, rfl, hlt, w2⟩, ?_⟩
        rintro x H2 ⟨T, vx, vy, rfl, hT, rfl, f1, f2⟩
        have g1 := f1 vsx (sq_of (hG _ _ hs))
        have g2 := f2 vsy (sq_of (hG _ _ hs'))
        rw [h1] at g1
        rw [h2] at g2
        cases g1
        cases g2
        refine ⟨T, _, rfl, st_of upd_same, rfl, _, _, rfl, _, _, rfl, rfl, ?_⟩
        refine ⟨by rw [wipe_set hj, wipe_set hi, wipe_wipe], ?_⟩
        have e5 : (xs.zip ys).drop n = (dx, dy) :: (xs.zip ys).drop (n + 1) := by
          have hlt' : n < (xs.zip ys).length := by omega
          rw [List.drop_eq_getElem_cons (hlt')]
          congr 1
          rw [List.getElem_zip]
          have q1 := (List.getElem?_eq_some_iff.mp e1).2
          have q2 := (List.getElem?_eq_some_iff.mp e3).2
          rw [q1, q2]
        rw [e5] at w'
        refine lc_turnG (ρx := ((wipeR ρ vs).set i (some (Slot.imm dx))).set j (some (Slot.imm dy))) hD nb hz (fun G' β' s' kb' => ?_) ?_ (w'.new hT)
        · exact (((E1.wipe vs).step s' kb').set (e2.mono s'.g)).set (e4.mono s'.g)
        · rintro rest β' hr
          cases hr with
          | yes a1 a2 a3 => exact ⟨_, _, _, _, rfl, a1, a2, a3⟩
      · have e6 : n = xs.length := by omega
        subst e6
        refine .inl ⟨⟨vsx, vsy, sq_of (hG _ _ hs), sq_of (hG _ _ hs'), .inl (by omega)⟩, ?_⟩
        have e7 : (xs.zip ys).drop xs.length = [] := by rw [List.drop_eq_nil_iff]; omega
        rw [e7] at w'
        obtain ⟨G', β', done, rest, acc, s', kb', hm', gD', hH', ha', hr', hp'⟩ := w'
        cases hp'
        refine lc_end (j := 0) (ρ := ρ) (tt := tt) (te := te) s1.s hD nb ⟨G', β3, done, [], acc, s', kb', hm', gD', hH', ha', hr', .nil _ _⟩ fun v G'' H'' s'' kb'' dv => k v G'' H'' (s01.trans s'') kb'' dv

theorem rgV_ints (a b : Int) : rgV a b = ((List.range (b - a).toNat).map fun (i : Nat) => a + (i : Int)).map V.int := by
  unfold rgV
  rw [List.map_map]
  rfl
theorem d_listRg {i j : Int} (ha : EvB K ta ρ β (.int i) β1) (hb : EvB K tb ρ β1 (.int j) β2) (ok : RgOk i j) : EvB K (tLstRg (tRg2 ta tb)) ρ β (.list (((List.range (j - i).toNat).map fun (n : Nat) => i + (n : Int)).map PyData.int)) β2 := by
  refine ⟨hb.som.trans ha.som, fun b G H σ Q E k => ?_⟩
  refine ha.run b G H σ _ E fun v G1 H1 s1 k1 d1 => ?_
  refine hb.run b G1 H1 σ _ (E.step s1 k1) fun w G2 H2 s2 k2 d2 => ?_
  rw [ha.som] at s2
  cases d1
  cases d2
  refine ⟨i, j, rfl, rfl, ok, fun q hq => ?_⟩
  have n := Step.new (b := b) (m := false) (o := .lst (rgV i j)) s2.s hq
  refine k (.ref q) _ _ ((s1.trans s2).trans n.up) (k2.same n) (.lst upd_same ?_)
  rw [rgV_ints]
  exact DenL.of_ints _
/-- the sorted ints are told -/
theorem d_sortI {ns ms : List Int} (h : EvB K te ρ β (.list (ns.map .int)) β1) (hl : ns.length < 64) (hp : ms.Perm ns) (hs : ms.Pairwise (· ≤ ·)) : EvB K (tCB (rSorted K) (tCons te tNil)) ρ β (.list (ms.map .int)) β1 := d_c1 h fun b G H v Q e dv k => by
  cases dv with
  | @lst a xs _ h1 h2 =>
    have := h2.ints
    subst this
    refine ⟨a, ns, rfl, sq_of (e _ _ h1), hl, fun ns' p q1 q2 hq => ?_⟩
    have e1 : ns' = ms := PySem.W.ksm_same (q1.trans hp.symm) q2 hs
    subst e1
    have n := Step.new (b := b) (m := false) (o := .lst (ns'.map V.int)) e hq
    exact k _ _ _ n (.lst upd_same (DenL.of_ints _))
theorem DenL.rep {vs : List V} {ds : List Dt} (h : DenL K G vs ds) : ∀ n : Nat, DenL K G (List.replicate n vs).flatten (List.replicate n ds).flatten
  | 0 => .nil
  | n + 1 => by
    rw [List.replicate_succ, List.flatten_cons, List.replicate_succ, List.flatten_cons]
    exact h.append (DenL.rep h n)
/-- a list, so many times -/
theorem d_repL {ds : List Dt} {k : Int} (ha : EvB K ta ρ β (.list ds) β1) (hb : EvB K tb ρ β1 (.int k) β2) (h1 : -(2 ^ 63) ≤ k) (h2 : k < 2 ^ 63) (hz : ds.length * k.toNat ≤ 100000) : EvB K (tOp L2.rRep ta tb) ρ β (.list (List.replicate k.toNat ds).flatten) β2 :=
  d_op ha hb fun b G H v w Q e dv dw kk => by
    cases dw
    cases dv with
    | @lst a xs _ hs hd =>
      refine ⟨a, k, xs, rfl, rfl, e _ _ hs, h1, h2, by rw [hd.length]; exact sz_of hz, fun p hp => ?_⟩
      have n := Step.new (b := b) (m := false) (o := .lst (List.replicate k.toNat xs).flatten) e hp
      exact kk _ _ _ n (.lst upd_same ((hd.mono n.g).rep _))
theorem d_repT {ds : List Dt} {k : Int} (ha : EvB K ta ρ β (.tuple ds) β1) (hb : EvB K tb ρ β1 (.int k) β2) (hn : ds ≠ []) (h1 : 2 ≤ k) (h2 : k ≤ 1000) (hz : ds.length ≤ 1000) : EvB K (tOp (rRepT K) ta tb) ρ β (.tuple (List.replicate k.toNat ds).flatten) β2 :=
  d_op ha hb fun b G H v w Q e dv dw kk => by
    cases dw
    cases dv with
    | @tup a xs _ hs hd =>
      refine ⟨a, k, xs, rfl, rfl, ex_t e hs, (fun z => by rw [z] at hd; cases hd; exact hn rfl), h1, h2, by rw [hd.length]; exact hz, fun p hp => ?_⟩
      have n := Step.new (b := b) (m := false) (o := .tup (List.replicate k.toNat xs).flatten) e hp
      exact kk _ _ _ n (.tup (st_of upd_same) ((hd.mono n.g).rep _))
/-- {} -/
theorem d_dict0 : EvB K tDNewK ρ β (.dict []) β := by
  refine ⟨rfl, fun b G H σ Q E k => fun p hp => ?_⟩
  have n := Step.new (b := b) (m := false) (o := .dK []) E.sub hp
  exact k (.ref p) _ _ n.up (E.bagk.same n) (.dct upd_same)
theorem d_addS {i j : Str} (ha : EvB K ta ρ β (.str i) β1) (hb : EvB K tb ρ β1 (.str j) β2) (hz : i.length + j.length ≤ sizeLine) : EvB K (tOp rAddS ta tb) ρ β (.str (i ++ j)) β2 := d_op ha hb fun b G H v w Q e dv dw kk => by
  cases dv
  cases dw
  exact ⟨i, j, rfl, rfl, hz, kk _ G H (Step.refl e) (.str _)⟩
/-- a test that is known from elsewhere -/
theorem d_ofI {i j : Int} (h : EvB K te ρ β (.int i) β1) (e : i = j) : EvB K te ρ β (.int j) β1 := e ▸ h
end

/-! ### a list made by a comprehension, changed by place -/
section
variable [TabW] {K : PySem.W.Frag} {b : Addr} {ρ : Rho} {β β1 β2 β3 : Bag} {ta te tk : TE} {tt : TT} {tw : TS} {d : Dt} {ds rs : List Dt} {o : Out} {i j : Nat} {G H G1 H1 : Hp} {σ : L2.St}
theorem st_ownLcR1 {l : Nat} {vs : List Nat} {n : Int} (hi : i < ρ.length) (hl : EvB K ta ρ β (.int n) β1) (hb : -(2 ^ 62) ≤ n ∧ n < 2 ^ 62) (h : LcR K l tt te (rng 0 n.toNat) (wipeR ρ vs) β1 rs β2) (hz : rs.length ≤ 1000)
    (hw : ∀ (σ : L2.St) x, wipe ((wipe σ vs).set l (some x)) vs = wipe σ vs) (h' : StO K i tw (ρ.set i none) β2 rs o β3) : StB K (tSeq (tAsg (tLc (iRng1 (tCons ta tNil)) (gName l) tt te vs) (gName i)) tw) ρ β o β3 := by
  refine ⟨h'.som.trans (h.som.trans hl.som), fun b G H σ D E k => ?_⟩
  unfold tSeq tAsg tLc
  refine a_int1 (te := ta) (i := n) hl _ rfl E fun G1 H1 s1 k1 => ?_
  refine ⟨hb.1, hb.2, fun Dl hD => ?_⟩
  have E1 := E.step s1 k1
  have nb := bag_ne k1 hl.som hD
  refine lc_range (lo := 0) (n := n.toNat) (fun i' H' => LcW K b β.isSome G1 H1 Dl rs β2 (fun rest β' => LcR K l tt te ((rng 0 n.toNat).drop i') (wipeR ρ vs) β' rest β2) H') ?_ ?_ ?_
  · exact lc_start s1.s hD k1 hl.som nb h
  · rintro i' H' hlt w'
    rw [rng_drop hlt] at w'
    exact ⟨hw σ _, lc_turn hD nb (by omega) (fun G' H' β' s' kb' => (E1.wipe vs).step s' kb') (.int _) w'⟩
  · rintro H' w'
    have e : (rng 0 n.toNat).drop n.toNat = [] := by rw [List.drop_eq_nil_iff, rng_length]; exact Nat.le_refl _
    rw [e] at w'
    obtain ⟨G', β', done, rest, acc, s', kb', hm', gD', hH', ha', hr', r'⟩ := w'
    cases r'
    rw [List.append_nil] at hr'
    subst hr'
    have nb' : β2.isSome = true → Dl ≠ b := fun z => nb (by rw [← hm']; exact z)
    have hil : i < σ.length := by rw [E.len]; exact hi
    refine h'.run b G1 H1 G' H' _ Dl D (Gone.none hD) (by rw [hm']; exact s') ⟨(E1.step s' kb').forget, List.getElem?_set_self hi, List.getElem?_set_self hil, gD', nb', acc, hH', ha'⟩ ?_
    rw [hm']
    exact k.of (D' := D) s1
theorem DenL.put : ∀ {vs : List V} {ds : List Dt} {v : V} {d : Dt} (n : Nat), DenL K G vs ds → Den K G v d → DenL K G (vs.set n v) (ds.set n d)
  | [], [], _, _, _, h, _ => h
  | [], _ :: _, _, _, _, h, _ => nomatch h
  | _ :: _, [], _, _, _, h, _ => nomatch h
  | _ :: _, _ :: _, _, _, 0, .cons _ h2, h => .cons h h2
  | _ :: _, _ :: _, _, _, n + 1, .cons h1 h2, h => .cons h1 (DenL.put n h2 h)
/-- xs[k] = e, xs one's own -/
theorem so_set {k : Int} {n : Nat} (h : EvB K te ρ β d β1) (hk : EvB K tk ρ β1 (.int k) β2) (hn : ixN ds.length k = some n) (h' : StO K i tw ρ β2 (ds.set n d) o β3) : StO K i (tSeq (tAsg te (gSub (tVar i) tk rSetL)) tw) ρ β ds o β3 := by
  refine ⟨h'.som.trans (hk.som.trans h.som), fun b G0 H0 G H σ p D gn s w q => ?_⟩
  obtain ⟨ws, hp, dw⟩ := w.val
  refine h.run b G H σ _ w.env fun y G1 H1 s1 k1 d1 => ?_
  have hp1 : H1 p = some (.lst ws) := s1.keep p _ w.nb NoT.lst hp
  have gp1 : G1 p = none := s1.fresh p _ w.free NoT.lst hp
  have nb1 : β1.isSome = true → p ≠ b := fun z => w.nb (h.som ▸ z)
  refine ⟨_, w.at_, ?_⟩
  have E1 := w.env.step s1 k1
  refine hk.run b G1 H1 σ _ E1 fun z G2 H2 s2 k2 d2 => ?_
  have hp2 : H2 p = some (.lst ws) := s2.keep p _ nb1 NoT.lst hp1
  have gp2 : G2 p = none := s2.fresh p _ gp1 NoT.lst hp1
  have nb2 : β2.isSome = true → p ≠ b := fun z => nb1 (hk.som ▸ z)
  cases d2
  refine ⟨p, ws, k, n, rfl, rfl, hp2, by rw [dw.length]; exact hn, ?_⟩
  rw [h.som] at s2
  have s3 := ((s.trans s1).trans s2).mut (ob := .lst (ws.set n y)) gn gp2 (LstAt.of hp2)
  have e : β2.isSome = β.isSome := hk.som.trans h.som
  refine h'.run b G0 H0 G2 _ σ p D gn (by rw [e]; exact s3) ⟨(E1.step s2 k2).mutl gp2 nb2 (LstAt.of hp2), w.slot, w.at_, gp2, nb2, ws.set n y, upd_same, (dw.mono (s1.g.trans s2.g)).put n (d1.mono s2.g)⟩ (by rw [e]; exact q)
end
end TD
/-! ## K34a -/
set_option Elab.async false
set_option linter.all false
set_option maxRecDepth 100000
set_option maxHeartbeats 1100000
namespace K34
open PySem L2 TD PySem.Spec PyProof.Rows
def top (i : Nat) : Stmt := PySem.Challenge.pw_tangentrows_k34_cross_ratios_of_four_spo.main.body.getD i (.Pass ⟨0, 0, 0, 0⟩)
variable [TabW]
structure Cn where
  tg : Tok
  tm : Tok
  aP : Addr
  cN : Addr
  cO : Addr
  cT : Addr
  cM : Addr
  cQ : Addr
  c : Addr
  P : Addr
def Cn.T (Y : Cn) : List (Addr × Str) := [(Y.P, ("_law_refused_right.<locals>.<lambda>" : Str))]
structure Txt (K : PySem.W.Frag) (mg : Str → Option Value) (Y : Cn) : Prop where
  z_abs : mg "abs" = none
  z_all : mg "all" = none
  z_any : mg "any" = none
  z_bool : mg "bool" = none
  z_int : mg "int" = none
  z_isinstance : mg "isinstance" = none
  z_len : mg "len" = none
  z_list : mg "list" = none
  z_max : mg "max" = none
  z_min : mg "min" = none
  z_range : mg "range" = none
  z_repr : mg "repr" = none
  z_set : mg "set" = none
  z_sum : mg "sum" = none
  z_tuple : mg "tuple" = none
  m_gcd : mg "gcd" = some (.builtin "math.gcd")
  o_InvalidNumber : OwnC K mg "InvalidNumber" "given" Y.cN
  b_InvalidOperation : BareC K mg "InvalidOperation" Y.cO
  eNN : PySem.W.exmOne K (.ref Y.cN) (.ref Y.cN) = some true
  eON : PySem.W.exmOne K (.ref Y.cO) (.ref Y.cN) = some false
  eOO : PySem.W.exmOne K (.ref Y.cO) (.ref Y.cO) = some true
  o_TooMany : OwnC K mg "TooMany" "most" Y.cT
  b_InvalidMarks : BareC K mg "InvalidMarks" Y.cM
  b_InvalidPair : BareC K mg "InvalidPair" Y.cQ
  tabw : ∀ P q, TabW.w P q ↔ (P, q) ∈ Y.T
  c_TOO_GREAT : mg "TOO_GREAT" = some (.int Num.big Y.tg)
  c_MAX_ENTRY : mg "MAX_ENTRY" = some (.int 10000000 Y.tm)
  c_PRIMES : mg "PRIMES" = some (.ref Y.aP)
  q_PRIMES : ∀ G, Den K G (.ref Y.aP) (.tuple (Num.primes.map PyData.int))
/-- functions of one datum, of two, of three: how the data look, when, what comes back -/
def f1 {α : Type} (a : α → Dt) (P : α → Prop) (g : α → Dt) : FR := fun as β r β' => ∃ x, as = [.imm (a x)] ∧ P x ∧ r = g x ∧ β = none ∧ β' = none
def f2 {α α' : Type} (a : α → Dt) (a' : α' → Dt) (P : α → α' → Prop) (g : α → α' → Dt) : FR := fun as β r β' => ∃ x y, as = [.imm (a x), .imm (a' y)] ∧ P x y ∧ r = g x y ∧ β = none ∧ β' = none
def f3 {α α' α'' : Type} (a : α → Dt) (a' : α' → Dt) (a'' : α'' → Dt) (P : α → α' → α'' → Prop) (g : α → α' → α'' → Dt) : FR := fun as β r β' => ∃ x y z, as = [.imm (a x), .imm (a' y), .imm (a'' z)] ∧ P x y z ∧ r = g x y z ∧ β = none ∧ β' = none
theorem st_sq {K : PySem.W.Frag} {tu tw : TS} {ρ ρ1 : Rho} {β β2 : Bag} {o : Out} (h : StB K tu ρ β (.nx ρ1) β) (h' : StB K tw ρ1 β o β2) : StB K (tSeq tu tw) ρ β o β2 := st_seq h h'
theorem at0 {α : Type} (x : α) (xs : List α) : atI (x :: xs) 0 = some x := by
  have h := atI_nat (xs := x :: xs) (j := 0) (v := x) rfl
  exact h
theorem rng_upto (lo : Int) (n : Nat) : rng lo n = (Num.upto lo n).map PyData.int := by
  unfold rng Num.upto
  rw [List.map_map]
  rfl
abbrev anyD : Dt → Dt := fun d => d
abbrev tupI : List Int → Dt := fun ns => .tuple (ns.map PyData.int)
abbrev lstI : List Int → Dt := fun ns => .list (ns.map PyData.int)
theorem tupI_inj {ms ns : List Int} (h : tupI ms = tupI ns) : ms = ns := by
  have e : ms.map PyData.int = ns.map PyData.int := PyData.tuple.inj h
  have := congrArg (List.map Num.toI) e
  rw [Num.map_toI, Num.map_toI] at this
  exact this
section
variable {K : PySem.W.Frag} {ρ : Rho} {β β1 β2 β3 : Bag} {ta tb tc : TE} {E : XK} {α α' α'' : Type} {a : α → Dt} {a' : α' → Dt} {a'' : α'' → Dt} {x : α} {y : α'} {z : α''}
theorem c_f1 {P : α → Prop} {g : α → Dt} (h : EvB K ta ρ β (a x) β1) (hp : P x) : EvB K (tCall (spR K (f1 a P g)) [] E (tCons ta tNil)) ρ β (g x) β1 := d_call0 (a_con h a_nil) ⟨x, rfl, hp, rfl, rfl, rfl⟩
theorem c_f2 {P : α → α' → Prop} {g : α → α' → Dt} (h : EvB K ta ρ β (a x) β1) (h' : EvB K tb ρ β1 (a' y) β2) (hp : P x y) : EvB K (tCall (spR K (f2 a a' P g)) [] E (tCons ta (tCons tb tNil))) ρ β (g x y) β2 := d_call0 (a_con h (a_con h' a_nil)) ⟨x, y, rfl, hp, rfl, rfl, rfl⟩
theorem c_f3 {P : α → α' → α'' → Prop} {g : α → α' → α'' → Dt} (h : EvB K ta ρ β (a x) β1) (h' : EvB K tb ρ β1 (a' y) β2) (h'' : EvB K tc ρ β2 (a'' z) β3) (hp : P x y z) : EvB K (tCall (spR K (f3 a a' a'' P g)) [] E (tCons ta (tCons tb (tCons tc tNil)))) ρ β (g x y z) β3 := d_call0 (a_con h (a_con h' (a_con h'' a_nil))) ⟨x, y, z, rfl, hp, rfl, rfl, rfl⟩
end
local macro_rules | `(tactic| walk_at "side") => `(tactic| first | trivial | assumption | omega | rfl | decide | (refine .inl ?_; walk_at "side") | (refine .inr ?_; walk_at "side") | (refine And.intro ?_ ?_ <;> walk_at "side"))
local macro_rules | `(tactic| walk_at "ev") => `(tactic| first
  | ((with_reducible refine' d_var ?h1); (case h1 => exact rfl))
  | with_reducible exact d_int | with_reducible exact d_bl | with_reducible exact d_non | with_reducible exact d_str
  | ((with_reducible refine' d_ref ?h1); (case h1 => assumption))
  | ((with_reducible refine' d_add ?e1 ?e2); (case e1 => walk_at "ev"); (case e2 => walk_at "ev"))
  | ((with_reducible refine' d_sub ?e1 ?e2); (case e1 => walk_at "ev"); (case e2 => walk_at "ev"))
  | ((with_reducible refine' d_lt ?e1 ?e2); (case e1 => walk_at "ev"); (case e2 => walk_at "ev"))
  | ((with_reducible refine' d_le ?e1 ?e2); (case e1 => walk_at "ev"); (case e2 => walk_at "ev"))
  | ((with_reducible refine' d_gt ?e1 ?e2); (case e1 => walk_at "ev"); (case e2 => walk_at "ev"))
  | ((with_reducible refine' d_ge ?e1 ?e2); (case e1 => walk_at "ev"); (case e2 => walk_at "ev"))
  | ((with_reducible refine' d_eqI ?e1 ?e2); (case e1 => walk_at "ev"); (case e2 => walk_at "ev"))
  | ((with_reducible refine' d_neI ?e1 ?e2); (case e1 => walk_at "ev"); (case e2 => walk_at "ev"))
  | ((with_reducible refine' d_eqS ?e1 ?e2); (case e1 => walk_at "ev"); (case e2 => walk_at "ev"))
  | ((with_reducible refine' d_neS ?e1 ?e2); (case e1 => walk_at "ev"); (case e2 => walk_at "ev"))
  | ((with_reducible refine' d_neg ?e1); (case e1 => walk_at "ev"))
  | ((with_reducible refine' d_mul ?e1 ?e2 ?c1); (case e1 => walk_at "ev"); (case e2 => walk_at "ev"); (case c1 => walk_at "side"))
  | ((with_reducible refine' d_mod ?e1 ?e2 ?c1); (case e1 => walk_at "ev"); (case e2 => walk_at "ev"); (case c1 => walk_at "side"))
  | ((with_reducible refine' d_div ?e1 ?e2 ?c1); (case e1 => walk_at "ev"); (case e2 => walk_at "ev"); (case c1 => walk_at "side"))
  | ((with_reducible refine' d_pow ?e1 ?e2 ?c1); (case e1 => walk_at "ev"); (case e2 => walk_at "ev"); (case c1 => walk_at "side"))
  | ((with_reducible refine' d_fdiv ?e1 ?e2 ?c1); (case e1 => walk_at "ev"); (case e2 => walk_at "ev"); (case c1 => walk_at "side"))
  | ((with_reducible refine' d_eqTT ?e1 ?e2); (case e1 => walk_at "ev"); (case e2 => walk_at "ev"))
  | ((with_reducible refine' d_neTT ?e1 ?e2); (case e1 => walk_at "ev"); (case e2 => walk_at "ev"))
  | ((with_reducible refine' d_eqLL ?e1 ?e2); (case e1 => walk_at "ev"); (case e2 => walk_at "ev"))
  | ((with_reducible refine' d_neLL ?e1 ?e2); (case e1 => walk_at "ev"); (case e2 => walk_at "ev"))
  | ((with_reducible refine' d_anyT ?e1); (case e1 => walk_at "ev"))
  | ((with_reducible refine' d_chLtLt ?e1 ?e2 ?e3); (case e1 => walk_at "ev"); (case e2 => walk_at "ev"); (case e3 => walk_at "ev"))
  | ((with_reducible refine' d_chLeLt ?e1 ?e2 ?e3); (case e1 => walk_at "ev"); (case e2 => walk_at "ev"); (case e3 => walk_at "ev"))
  | ((with_reducible refine' d_chLeLe ?e1 ?e2 ?e3); (case e1 => walk_at "ev"); (case e2 => walk_at "ev"); (case e3 => walk_at "ev"))
  | ((with_reducible refine' d_abs ?e1); (case e1 => walk_at "ev"))
  | ((with_reducible refine' d_intI ?e1); (case e1 => walk_at "ev"))
  | ((with_reducible refine' d_intB ?e1); (case e1 => walk_at "ev"))
  | ((with_reducible refine' d_max2 ?e1 ?e2); (case e1 => walk_at "ev"); (case e2 => walk_at "ev"))
  | ((with_reducible refine' d_min2 ?e1 ?e2); (case e1 => walk_at "ev"); (case e2 => walk_at "ev"))
  | ((with_reducible refine' d_gcd ?e1 ?e2); (case e1 => walk_at "ev"); (case e2 => walk_at "ev"))
  | ((with_reducible refine' d_isInt ?e1); (case e1 => walk_at "ev"))
  | ((with_reducible refine' d_isBool ?e1); (case e1 => walk_at "ev"))
  | ((with_reducible refine' d_isTup ?e1); (case e1 => walk_at "ev"))
  | ((with_reducible refine' d_isStr ?e1); (case e1 => walk_at "ev"))
  | ((with_reducible refine' d_reprB ?e1); (case e1 => walk_at "ev"))
  | ((with_reducible refine' d_len ?e1 ?c1); (case e1 => walk_at "ev"); (case c1 => first | exact .inl rfl | exact .inr rfl))
  | ((with_reducible refine' d_listOf ?e1 ?c1); (case e1 => walk_at "ev"); (case c1 => first | exact .inl rfl | exact .inr rfl))
  | ((with_reducible refine' d_tupleOf ?e1); (case e1 => walk_at "ev"))
  | ((with_reducible refine' d_sum ?e1); (case e1 => walk_at "ev"))
  | ((with_reducible refine' d_not ?e1); (case e1 => walk_at "ev"))
  | ((with_reducible refine' d_andF (EvB.to ?e1 ?q1)); (case e1 => walk_at "ev"); (case q1 => exact rfl))
  | ((with_reducible refine' d_andT (EvB.to ?e1 ?q1) ?e2); (case e1 => walk_at "ev"); (case q1 => exact rfl); (case e2 => walk_at "ev"))
  | ((with_reducible refine' d_and ?e1 ?e2); (case e1 => walk_at "ev"); (case e2 => intro hp; walk_at "ev"))
  | ((with_reducible refine' d_orT (EvB.to ?e1 ?q1)); (case e1 => walk_at "ev"); (case q1 => exact rfl))
  | ((with_reducible refine' d_orF (EvB.to ?e1 ?q1) ?e2); (case e1 => walk_at "ev"); (case q1 => exact rfl); (case e2 => walk_at "ev"))
  | ((with_reducible refine' d_or ?e1 ?e2); (case e1 => walk_at "ev"); (case e2 => intro hp; walk_at "ev"))
  | ((with_reducible refine' d_inI ?e1 ?e2 ?c1); (case e1 => walk_at "ev"); (case e2 => walk_at "ev"); (case c1 => first | exact .inl rfl | exact .inr rfl))
  | ((with_reducible refine' d_tup ?e1 ?c1 ?c2); (case e1 => walk_at "ea"); (case c1 => exact rfl); (case c2 => walk_at "side"))
  | ((with_reducible refine' d_lst ?e1 ?c1 ?c2); (case e1 => walk_at "ea"); (case c1 => exact rfl); (case c2 => walk_at "side"))
  | ((with_reducible refine' c_f1 ?e1 ?c1); (case e1 => walk_at "ev"); (case c1 => walk_at "side"))
  | ((with_reducible refine' c_f2 ?e1 ?e2 ?c1); (case e1 => walk_at "ev"); (case e2 => walk_at "ev"); (case c1 => walk_at "side"))
  | ((with_reducible refine' c_f3 ?e1 ?e2 ?e3 ?c1); (case e1 => walk_at "ev"); (case e2 => walk_at "ev"); (case e3 => walk_at "ev"); (case c1 => walk_at "side")))
local macro_rules | `(tactic| walk_at "ea") => `(tactic| first
  | with_reducible exact a_nil
  | ((with_reducible refine' a_con ?e1 ?e2); (case e1 => walk_at "ev"); (case e2 => walk_at "ea")))
local macro_rules | `(tactic| walk_at "tt") => `(tactic| first
  | ((with_reducible refine' t_test ?e1); (case e1 => walk_at "ev"))
  | ((with_reducible refine' t_B ?e1); (case e1 => walk_at "ev"))
  | ((with_reducible refine' t_not ?e1); (case e1 => walk_at "tt"))
  | ((with_reducible refine' t_andF (TtB.to ?e1 ?q1)); (case e1 => walk_at "tt"); (case q1 => exact rfl))
  | ((with_reducible refine' t_andT (TtB.to ?e1 ?q1) ?e2); (case e1 => walk_at "tt"); (case q1 => exact rfl); (case e2 => walk_at "tt"))
  | ((with_reducible refine' t_and ?e1 ?e2); (case e1 => walk_at "tt"); (case e2 => intro hp; walk_at "tt"))
  | ((with_reducible refine' t_orT (TtB.to ?e1 ?q1)); (case e1 => walk_at "tt"); (case q1 => exact rfl))
  | ((with_reducible refine' t_orF (TtB.to ?e1 ?q1) ?e2); (case e1 => walk_at "tt"); (case q1 => exact rfl); (case e2 => walk_at "tt"))
  | ((with_reducible refine' t_or ?e1 ?e2); (case e1 => walk_at "tt"); (case e2 => intro hp; walk_at "tt"))
  | ((with_reducible refine' t_truthI ?e1); (case e1 => walk_at "ev")))
local macro_rules | `(tactic| walk_at "to") => `(tactic| (refine' EvB.to ?e ?q; (case e => walk_at "ev")))
local macro_rules | `(tactic| walk_at "ret") => `(tactic| (refine' .ret (st_ret (EvB.to ?e ?q)); (case e => walk_at "ev")))


abbrev s_is_integer : Stmt := top 11
theorem sc_is_integer : FnScope ["value"] ["value"] (defScope s_is_integer) := ⟨rfl, rfl, rfl, by decide +kernel, rfl, by decide +kernel, by decide +kernel⟩
abbrev R_is_integer : FR := f1 anyD (fun _ => True) fun d => .bool (Num.isInteger d)
theorem ok_is_integer {P : Program} {w : World} {K : PySem.W.Frag} {mg : Str → Option Value} {base : Heap} {Y : Cn} (F : DefAt K "is_integer" s_is_integer) (hX : K.In base) (hG : base.Ns mainGlobals mg) (T : Txt K mg Y)  : FnG P w K mg base 1 "is_integer" ["value"] R_is_integer := by
  have nd := sc_is_integer.nd
  refine fn_mk F hX hG sc_is_integer (fun as β r β' h => by first | exact FR.len h | (obtain ⟨_, rfl, _⟩ := h; rfl) | (obtain ⟨_, _, rfl, _⟩ := h; rfl) | (obtain ⟨_, _, _, rfl, _⟩ := h; rfl) | (obtain ⟨_, _, _, _, rfl, _⟩ := h; rfl) | (obtain ⟨_, _, _, _, _, rfl, _⟩ := h; rfl)) (fun _ _ _ _ _ _ _ us hl => match us, hl with | [_], _ => rfl) (fun f cdv A outer s H E hr => ⟨_, (pss_one (ps_ret (pe_and (pe_callB (call_isiK (K := K)) (by rfl) T.z_isinstance bo_isinstance (pa_cons (pv 0) (pa_cons (pe_bltn (v := .ty "int") (by rfl) T.z_int bo_int rfl) pa_nil))) (pe_and (pe_not (pe_callB (call_isiK (K := K)) (by rfl) T.z_isinstance bo_isinstance (pa_cons (pv 0) (pa_cons (pe_bltn (v := .ty "bool") (by rfl) T.z_bool bo_bool rfl) pa_nil)))) (pe_one (pe_chain op_lt op_lt (pe_un un_neg (pe_glob (v := .int _) (by rfl) T.c_TOO_GREAT ⟨_, rfl⟩)) (pv 0) (pe_glob (v := .int _) (by rfl) T.c_TOO_GREAT ⟨_, rfl⟩))))))), fun as β r β' hR => ?_⟩)
  obtain ⟨d, rfl, _, rfl, rfl, rfl⟩ := hR
  dsimp only [cxOf, Cx.nox, Cx.wish]
  cases d with
  | none => walk_at "ret"; rfl
  | int i => walk_at "ret"; rfl
  | _ => walk_at "ret"; rfl


abbrev s_is_prime : Stmt := top 12
theorem sc_is_prime : FnScope ["value"] ["value"] (defScope s_is_prime) := ⟨rfl, rfl, rfl, by decide +kernel, rfl, by decide +kernel, by decide +kernel⟩
abbrev R_is_prime : FR := f1 anyD (fun _ => True) fun d => .bool (Num.isPrime d)
theorem ok_is_prime {P : Program} {w : World} {K : PySem.W.Frag} {mg : Str → Option Value} {base : Heap} {Y : Cn} (F : DefAt K "is_prime" s_is_prime) (hX : K.In base) (hG : base.Ns mainGlobals mg) (T : Txt K mg Y) (G_is_integer : FnG P w K mg base 1 "is_integer" ["value"] R_is_integer) : FnG P w K mg base 2 "is_prime" ["value"] R_is_prime := by
  have nd := sc_is_prime.nd
  refine fn_mk F hX hG sc_is_prime (fun as β r β' h => by first | exact FR.len h | (obtain ⟨_, rfl, _⟩ := h; rfl) | (obtain ⟨_, _, rfl, _⟩ := h; rfl) | (obtain ⟨_, _, _, rfl, _⟩ := h; rfl) | (obtain ⟨_, _, _, _, rfl, _⟩ := h; rfl) | (obtain ⟨_, _, _, _, _, rfl, _⟩ := h; rfl)) (fun _ _ _ _ _ _ _ us hl => match us, hl with | [_], _ => rfl) (fun f cdv A outer s H E hr => ⟨_, (pss_one (ps_ret (pe_and (pe_fn G_is_integer (hr.mono (by decide)) (pa_cons (pv 0) pa_nil)) (pe_one (pe_or (pe_cmpR op_eq (pv 0) pe_int (nomark _)) (pe_one (pe_cmpR op_in_seq (pv 0) (pe_glob (v := .ref _) (by rfl) T.c_PRIMES rfl) (by rfl)))))))), fun as β r β' hR => ?_⟩)
  obtain ⟨d, rfl, _, rfl, rfl, rfl⟩ := hR
  dsimp only [cxOf, Cx.nox, Cx.wish]
  have qP := T.q_PRIMES
  cases d with
  | int p => walk_at "ret"; rw [Num.isPrime_int]
  | none => walk_at "ret"; rfl
  | _ => walk_at "ret"; rfl


abbrev s_need_prime : Stmt := top 13
theorem sc_need_prime : FnScope ["prime"] ["prime"] (defScope s_need_prime) := ⟨rfl, rfl, rfl, by decide +kernel, rfl, by decide +kernel, by decide +kernel⟩
abbrev R_need_prime (Y : Cn) : FX := fun as β r β' => ∃ d, as = [.imm d] ∧ (Num.isPrime d = true ∧ r = .ok .none ∨ Num.isPrime d = false ∧ r = .ex Y.cN (some ("given", d))) ∧ β = none ∧ β' = none
theorem ok_need_prime {P : Program} {w : World} {K : PySem.W.Frag} {mg : Str → Option Value} {base : Heap} {Y : Cn} (F : DefAt K "need_prime" s_need_prime) (hX : K.In base) (hG : base.Ns mainGlobals mg) (T : Txt K mg Y) (G_is_prime : FnG P w K mg base 2 "is_prime" ["value"] R_is_prime) : FnX P w K mg base 3 "need_prime" ["prime"] (R_need_prime Y) := by
  have nd := sc_need_prime.nd
  refine fnX_mk F hX hG sc_need_prime (fun as β r β' h => by first | exact FR.len h | (obtain ⟨_, rfl, _⟩ := h; rfl) | (obtain ⟨_, _, rfl, _⟩ := h; rfl) | (obtain ⟨_, _, _, rfl, _⟩ := h; rfl) | (obtain ⟨_, _, _, _, rfl, _⟩ := h; rfl) | (obtain ⟨_, _, _, _, _, rfl, _⟩ := h; rfl)) (fun _ _ _ _ _ _ _ us hl => match us, hl with | [_], _ => rfl) (fun f cdv A outer s H E hr => ⟨_, (pss_one (ps_if (pt_not (pt_val (pe_fn G_is_prime (hr.mono (by decide)) (pa_cons (pv 0) pa_nil)))) (pss_one (ps_raiseOwn T.o_InvalidNumber hr (takes_of rfl rfl rfl rfl) (pa_cons (pv 0) pa_nil))) pss_nil)), fun as β r β' hR => ?_⟩)
  obtain ⟨d, rfl, hd, rfl, rfl⟩ := hR
  have hc : EvB K (tCall (spR K R_is_prime) [] E0 (tCons (tVar 0) tNil)) (startR ["prime"] [.imm d]) none (.bool (Num.isPrime d)) none := c_f1 (d_var rfl) trivial
  rcases hd with ⟨h, rfl⟩ | ⟨h, rfl⟩
  · exact .ok (.fall _ (st_ifF ((t_not (t_test hc)).to (by rw [h] <;> rfl)) st_next) rfl)
  · exact .ex (stR_ifT ((t_not (t_test hc)).to (by rw [h] <;> rfl)) (st_raiseK (d_var rfl)))


abbrev s_fits : Stmt := top 14
theorem sc_fits : FnScope ["prime", "value"] ["prime", "value"] (defScope s_fits) := ⟨rfl, rfl, rfl, by decide +kernel, rfl, by decide +kernel, by decide +kernel⟩
abbrev R_fits : FR := f2 PyData.int anyD (fun _ _ => True) fun p d => .bool (Num.fits p d)
theorem ok_fits {P : Program} {w : World} {K : PySem.W.Frag} {mg : Str → Option Value} {base : Heap} {Y : Cn} (F : DefAt K "fits" s_fits) (hX : K.In base) (hG : base.Ns mainGlobals mg) (T : Txt K mg Y) (G_is_integer : FnG P w K mg base 1 "is_integer" ["value"] R_is_integer) : FnG P w K mg base 2 "fits" ["prime", "value"] R_fits := by
  have nd := sc_fits.nd
  refine fn_mk F hX hG sc_fits (fun as β r β' h => by first | exact FR.len h | (obtain ⟨_, rfl, _⟩ := h; rfl) | (obtain ⟨_, _, rfl, _⟩ := h; rfl) | (obtain ⟨_, _, _, rfl, _⟩ := h; rfl) | (obtain ⟨_, _, _, _, rfl, _⟩ := h; rfl) | (obtain ⟨_, _, _, _, _, rfl, _⟩ := h; rfl)) (fun _ _ _ _ _ _ _ us hl => match us, hl with | [_, _], _ => rfl) (fun f cdv A outer s H E hr => ⟨_, (pss_one (ps_ret (pe_and (pe_fn G_is_integer (hr.mono (by decide)) (pa_cons (pv 1) pa_nil)) (pe_one (pe_or (pe_cmpR op_eq (pv 0) pe_int (nomark _)) (pe_one (pe_chain op_le op_lt pe_int (pv 1) (pv 0)))))))), fun as β r β' hR => ?_⟩)
  obtain ⟨p, d, rfl, _, rfl, rfl, rfl⟩ := hR
  dsimp only [cxOf, Cx.nox, Cx.wish]
  cases d with
  | int p => walk_at "ret"; rfl
  | none => walk_at "ret"; rfl
  | _ => walk_at "ret"; rfl


abbrev s_all_fit : Stmt := top 15
theorem sc_all_fit : FnScope ["prime", "value", "many", "one"] ["prime", "value", "many"] (defScope s_all_fit) := ⟨rfl, rfl, rfl, by decide +kernel, rfl, by decide +kernel, by decide +kernel⟩
abbrev R_all_fit : FR := f3 PyData.int anyD PyData.int (fun _ _ n => n ≤ 1000) fun p d n => .bool (Num.allFit p n d)
theorem ok_all_fit {P : Program} {w : World} {K : PySem.W.Frag} {mg : Str → Option Value} {base : Heap} {Y : Cn} (F : DefAt K "all_fit" s_all_fit) (hX : K.In base) (hG : base.Ns mainGlobals mg) (T : Txt K mg Y) (G_fits : FnG P w K mg base 2 "fits" ["prime", "value"] R_fits) : FnG P w K mg base 3 "all_fit" ["prime", "value", "many"] R_all_fit := by
  have nd := sc_all_fit.nd
  refine fn_mk F hX hG sc_all_fit (fun as β r β' h => by first | exact FR.len h | (obtain ⟨_, rfl, _⟩ := h; rfl) | (obtain ⟨_, _, rfl, _⟩ := h; rfl) | (obtain ⟨_, _, _, rfl, _⟩ := h; rfl) | (obtain ⟨_, _, _, _, rfl, _⟩ := h; rfl) | (obtain ⟨_, _, _, _, _, rfl, _⟩ := h; rfl)) (fun _ _ _ _ _ _ _ us hl => match us, hl with | [_, _, _], _ => rfl) (fun f cdv A outer s H E hr => ⟨_, (pss_one (ps_ret (pe_and (pe_callB (call_isiK (K := K)) (by rfl) T.z_isinstance bo_isinstance (pa_cons (pv 1) (pa_cons (pe_bltn (v := .ty "tuple") (by rfl) T.z_tuple bo_tuple rfl) pa_nil))) (pe_and (pe_cmpR op_eq (pe_callB (c_lenK (K := K)) (by rfl) T.z_len bo_len (pa_cons (pv 1) pa_nil)) (pv 2) (nomark _)) (pe_one (pe_callB (cr_all rfl) (by rfl) T.z_all bo_all (pa_cons (pe_lc (own := [("one", 3)]) rfl nd (pi_tup (pv 1)) (blkOk_by (N := ["prime", "value", "many", "one"]) (sc := defScope s_all_fit) (by decide +kernel)) (fun _ _ _ _ _ => by exact (pg_name (i := 3) nd rfl (Or.inl rfl))) (fun _ _ _ _ _ => by exact pts_nil) (fun _ _ _ _ _ => by exact (pe_fn G_fits (hr.mono (by decide)) (pa_cons (pv 0) (pa_cons (pv 3) pa_nil))))) pa_nil))))))), fun as β r β' hR => ?_⟩)
  obtain ⟨p, d, n, rfl, hn, rfl, rfl, rfl⟩ := hR
  dsimp only [cxOf, Cx.nox, Cx.wish]
  cases d with
  | tuple ds =>
    refine' .ret (st_ret (EvB.to (d_andT (EvB.to ?e1 ?q1) (d_and ?e2 fun hp => d_all (bs := ds.map (Num.fits p)) ?e3)) ?q))
    case e1 => walk_at "ev"
    case q1 => rfl
    case e2 => walk_at "ev"
    case e3 =>
      have hl : ds.length ≤ 1000 := by
        have := of_decide_eq_true hp
        omega
      refine d_lcT (rs := ds.map fun d => .bool (Num.fits p d)) (d_var rfl) ?_ (by rw [List.length_map]; omega) (wipe_ok (by decide)) |>.to (by rw [List.map_map]; rfl)
      refine LcR.map (fun d => .bool (Num.fits p d)) fun d _ => ?_
      walk_at "ev"
    case q =>
      show PyData.bool _ = PyData.bool _
      rw [List.all_map]
      rfl
  | none => walk_at "ret"; rfl
  | _ => walk_at "ret"; rfl


abbrev s_settled : Stmt := top 16
theorem sc_settled : FnScope ["prime", "number"] ["prime", "number"] (defScope s_settled) := ⟨rfl, rfl, rfl, by decide +kernel, rfl, by decide +kernel, by decide +kernel⟩
abbrev R_settled : FR := f2 PyData.int PyData.int (fun p _ => 0 ≤ p) fun p n => .int (Num.settled p n)
theorem ok_settled {P : Program} {w : World} {K : PySem.W.Frag} {mg : Str → Option Value} {base : Heap} {Y : Cn} (F : DefAt K "settled" s_settled) (hX : K.In base) (hG : base.Ns mainGlobals mg) (T : Txt K mg Y)  : FnG P w K mg base 1 "settled" ["prime", "number"] R_settled := by
  have nd := sc_settled.nd
  refine fn_mk F hX hG sc_settled (fun as β r β' h => by first | exact FR.len h | (obtain ⟨_, rfl, _⟩ := h; rfl) | (obtain ⟨_, _, rfl, _⟩ := h; rfl) | (obtain ⟨_, _, _, rfl, _⟩ := h; rfl) | (obtain ⟨_, _, _, _, rfl, _⟩ := h; rfl) | (obtain ⟨_, _, _, _, _, rfl, _⟩ := h; rfl)) (fun _ _ _ _ _ _ _ us hl => match us, hl with | [_, _], _ => rfl) (fun f cdv A outer s H E hr => ⟨_, (pss_one (ps_ret (pe_ifExp (pt_tru (pv 0)) (pe_op op_mod (pv 1) (pv 0)) (pv 1)))), fun as β r β' hR => ?_⟩)
  obtain ⟨p, n, rfl, hp, rfl, rfl, rfl⟩ := hR
  dsimp only [cxOf, Cx.nox, Cx.wish]
  refine .ret (st_ret ?_)
  by_cases h : p = 0
  · subst h
    refine' d_ifF (TtB.to ?t ?q) (EvB.to ?e ?q2)
    case t => walk_at "tt"
    case q => rfl
    case e => walk_at "ev"
    case q2 => rfl
  · have h0 : 0 < p := by omega
    refine' d_ifT (TtB.to ?t ?q) (EvB.to ?e ?q2)
    case t => walk_at "tt"
    case q => simpa using h
    case e => walk_at "ev"
    case q2 => unfold Num.settled; rw [if_pos h]


abbrev s_inverse_of : Stmt := top 17
theorem sc_inverse_of : FnScope ["prime", "number", "other"] ["prime", "number"] (defScope s_inverse_of) := ⟨rfl, rfl, rfl, by decide +kernel, rfl, by decide +kernel, by decide +kernel⟩
abbrev R_inverse_of : FR := f2 PyData.int PyData.int (fun p a => Num.PrimeI p ∧ p ≠ 0 ∧ 0 < a ∧ a < p) fun p a => .int (Num.inv p a)
theorem ok_inverse_of {P : Program} {w : World} {K : PySem.W.Frag} {mg : Str → Option Value} {base : Heap} {Y : Cn} (F : DefAt K "inverse_of" s_inverse_of) (hX : K.In base) (hG : base.Ns mainGlobals mg) (T : Txt K mg Y)  : FnG P w K mg base 1 "inverse_of" ["prime", "number"] R_inverse_of := by
  have nd := sc_inverse_of.nd
  refine fn_mk F hX hG sc_inverse_of (fun as β r β' h => by first | exact FR.len h | (obtain ⟨_, rfl, _⟩ := h; rfl) | (obtain ⟨_, _, rfl, _⟩ := h; rfl) | (obtain ⟨_, _, _, rfl, _⟩ := h; rfl) | (obtain ⟨_, _, _, _, rfl, _⟩ := h; rfl) | (obtain ⟨_, _, _, _, _, rfl, _⟩ := h; rfl)) (fun _ _ _ _ _ _ _ us hl => match us, hl with | [_, _], _ => rfl) (fun f cdv A outer s H E hr => ⟨_, (pss_one (ps_ret (pe_ix ix_list (pe_lc (own := [("other", 2)]) rfl nd (pi_range2 (by rfl) T.z_range (pa_cons pe_int (pa_cons (pv 0) pa_nil))) (blkOk_by (N := ["prime", "number", "other"]) (sc := defScope s_inverse_of) (by decide +kernel)) (fun _ _ _ _ _ => by exact (pg_name (i := 2) nd rfl (Or.inl rfl))) (fun _ _ _ _ _ => by exact (pts_one (pt_cmpR op_eq (pe_op op_mod (pe_op op_mulW (pv 1) (pv 2)) (pv 0)) pe_int (nomark _)))) (fun _ _ _ _ _ => by exact (pv 2))) pe_int (fun _ _ => rfl)))), fun as β r β' hR => ?_⟩)
  obtain ⟨p, a, rfl, ⟨hp, h0, h1, h2⟩, rfl, rfl, rfl⟩ := hR
  dsimp only [cxOf, Cx.nox, Cx.wish]
  have hs := hp.small
  obtain ⟨rest, hi⟩ := Num.inv_cons hp h0 h1 h2
  refine .ret (st_ret (d_ixL (ds := (Num.invs p a).map PyData.int) (i := 0) ?e1 d_int (by rw [hi]; exact at0 _ _)))
  refine d_lcR2 (lo := 1) (i := p) d_int (d_var rfl) (by omega) ?_ (by rw [List.length_map]; exact Nat.le_trans (List.length_filter_le _ _) (by unfold Num.upto; rw [List.length_map, List.length_range]; omega)) (wipe_ok (by decide))
  rw [rng_upto]
  refine lc_ints (fun o => decide (a * o % p = 1)) PyData.int (ns := Num.upto 1 (p - 1).toNat) (fun o ho => ?_) fun o ho hf => ?_
  · have ho' : 1 ≤ o ∧ o < p := by
      obtain ⟨i, hi, hj⟩ := List.mem_map.mp ho
      have := List.mem_range.mp hi
      omega
    have hw : CMulW a o := wide_mul (a := 10) (b := 10) (by omega) (by omega) (by decide) (by decide) (by decide)
    walk_at "tt"
  · walk_at "ev"


abbrev s_divisor_of : Stmt := top 18
theorem sc_divisor_of : FnScope ["numbers", "shared", "number"] ["numbers"] (defScope s_divisor_of) := ⟨rfl, rfl, rfl, by decide +kernel, rfl, by decide +kernel, by decide +kernel⟩
abbrev R_divisor_of : FR := fun as β r β' => ∃ d ns, as = [.imm d] ∧ SeqD d (ns.map PyData.int) ∧ r = .int (Num.gcdL 0 ns) ∧ β = none ∧ β' = none
theorem ok_divisor_of {P : Program} {w : World} {K : PySem.W.Frag} {mg : Str → Option Value} {base : Heap} {Y : Cn} (F : DefAt K "divisor_of" s_divisor_of) (hX : K.In base) (hG : base.Ns mainGlobals mg) (T : Txt K mg Y)  : FnG P w K mg base 1 "divisor_of" ["numbers"] R_divisor_of := by
  have nd := sc_divisor_of.nd
  refine fn_mk F hX hG sc_divisor_of (fun as β r β' h => by first | exact FR.len h | (obtain ⟨_, rfl, _⟩ := h; rfl) | (obtain ⟨_, _, rfl, _⟩ := h; rfl) | (obtain ⟨_, _, _, rfl, _⟩ := h; rfl) | (obtain ⟨_, _, _, _, rfl, _⟩ := h; rfl) | (obtain ⟨_, _, _, _, _, rfl, _⟩ := h; rfl)) (fun _ _ _ _ _ _ _ us hl => match us, hl with | [_], _ => rfl) (fun f cdv A outer s H E hr => ⟨_, (pss_cons (ps_set (i := 1) nd rfl (Or.inl rfl) pe_int) (pss_cons (ps_for PassesOwn.never rfl (pi_seq (pv 0)) (pg_name (i := 2) nd rfl (Or.inl rfl)) (pss_cons (ps_set (i := 1) nd rfl (Or.inl rfl) (pe_callBfun cr_gcd (by rfl) T.m_gcd (pa_cons (pv 1) (pa_cons (pv 2) pa_nil)))) (pss_one (ps_if (pt_cmpR op_eq (pv 1) pe_int (nomark _)) (pss_one (ps_ret pe_int)) pss_nil)))) (pss_one (ps_ret (pv 1))))), fun as β r β' hR => ?_⟩)
  obtain ⟨d, ns, rfl, hd, rfl, rfl, rfl⟩ := hR
  dsimp only [cxOf, Cx.nox, Cx.wish]
  have loop : ∀ (ns : List Int) (s : Int) (v : Option Slot), (Num.gcdL s ns = 1 ∧ ForR K 2 (tSeq (tAsg (tCB rGcd (tCons (tVar 1) (tCons (tVar 2) tNil))) (gName 1)) (tIfS (tTest (tOp rEq (tVar 1) (tC (.int 1)))) (tRet (tC (.int 1))) tNext)) (ns.map PyData.int) [some (.imm d), some (.imm (.int s)), v] none (.ret (.int 1)) none) ∨
      ∃ w, ForR K 2 (tSeq (tAsg (tCB rGcd (tCons (tVar 1) (tCons (tVar 2) tNil))) (gName 1)) (tIfS (tTest (tOp rEq (tVar 1) (tC (.int 1)))) (tRet (tC (.int 1))) tNext)) (ns.map PyData.int) [some (.imm d), some (.imm (.int s)), v] none (.nx [some (.imm d), some (.imm (.int (Num.gcdL s ns))), w]) none := by
    intro ns
    induction ns with
    | nil => exact fun s v => .inr ⟨v, .nil _ _⟩
    | cons n ns ih =>
      intro s v
      have h1 : StB K (tAsg (tCB rGcd (tCons (tVar 1) (tCons (tVar 2) tNil))) (gName 1)) [some (.imm d), some (.imm (.int s)), some (.imm (.int n))] none (.nx [some (.imm d), some (.imm (.int (Num.gcdI s n))), some (.imm (.int n))]) none := st_asg (d_gcd (d_var rfl) (d_var rfl))
      by_cases hg : Num.gcdI s n = 1
      · refine .inl ⟨by show Num.gcdL (Num.gcdI s n) ns = 1; rw [hg, Num.gcdL_one], .ret (st_sq h1 (st_ifT ((t_test (d_eqI (d_var rfl) d_int)).to (decide_eq_true hg)) (st_ret d_int)))⟩
      · have h2 : StB K (tSeq (tAsg (tCB rGcd (tCons (tVar 1) (tCons (tVar 2) tNil))) (gName 1)) (tIfS (tTest (tOp rEq (tVar 1) (tC (.int 1)))) (tRet (tC (.int 1))) tNext)) [some (.imm d), some (.imm (.int s)), some (.imm (.int n))] none (.nx [some (.imm d), some (.imm (.int (Num.gcdI s n))), some (.imm (.int n))]) none :=
          st_sq h1 (st_ifF ((t_test (d_eqI (d_var rfl) d_int)).to (decide_eq_false hg)) st_next)
        rcases ih (Num.gcdI s n) (some (.imm (.int n))) with ⟨h3, h4⟩ | ⟨w, h4⟩
        · exact .inl ⟨h3, .nx h2 h4⟩
        · exact .inr ⟨w, .nx h2 h4⟩
  refine .ret (st_sq (st_asg d_int) ?_)
  rcases loop ns 0 none with ⟨h1, h2⟩ | ⟨w, h2⟩
  · rw [h1]
    exact st_seqR (st_forQ (d_var rfl) hd h2)
  · exact st_sq (st_forQ (d_var rfl) hd h2) (st_ret (d_var rfl))


abbrev s_made_normal : Stmt := top 19
theorem sc_made_normal : FnScope ["prime", "numbers", "first", "number", "times", "shared"] ["prime", "numbers"] (defScope s_made_normal) := ⟨rfl, rfl, rfl, by decide +kernel, rfl, by decide +kernel, by decide +kernel⟩
abbrev R_made_normal : FR := fun as β r β' => ∃ p d ns, as = [.imm (.int p), .imm d] ∧ (SeqD d (ns.map PyData.int) ∧ Num.MadeOk p ns) ∧ r = tupI (Num.made p ns) ∧ β = none ∧ β' = none
theorem ok_made_normal {P : Program} {w : World} {K : PySem.W.Frag} {mg : Str → Option Value} {base : Heap} {Y : Cn} (F : DefAt K "made_normal" s_made_normal) (hX : K.In base) (hG : base.Ns mainGlobals mg) (T : Txt K mg Y) (G_divisor_of : FnG P w K mg base 1 "divisor_of" ["numbers"] R_divisor_of) (G_inverse_of : FnG P w K mg base 1 "inverse_of" ["prime", "number"] R_inverse_of) : FnG P w K mg base 2 "made_normal" ["prime", "numbers"] R_made_normal := by
  have nd := sc_made_normal.nd
  refine fn_mk F hX hG sc_made_normal (fun as β r β' h => by first | exact FR.len h | (obtain ⟨_, rfl, _⟩ := h; rfl) | (obtain ⟨_, _, rfl, _⟩ := h; rfl) | (obtain ⟨_, _, _, rfl, _⟩ := h; rfl) | (obtain ⟨_, _, _, _, rfl, _⟩ := h; rfl) | (obtain ⟨_, _, _, _, _, rfl, _⟩ := h; rfl)) (fun _ _ _ _ _ _ _ us hl => match us, hl with | [_, _], _ => rfl) (fun f cdv A outer s H E hr => ⟨_, (pss_cons (ps_set (i := 2) nd rfl (Or.inl rfl) (pe_ix ix_list (pe_lc (own := [("number", 3)]) rfl nd (pi_seq (pv 1)) (blkOk_by (N := ["prime", "numbers", "first", "number", "times", "shared"]) (sc := defScope s_made_normal) (by decide +kernel)) (fun _ _ _ _ _ => by exact (pg_name (i := 3) nd rfl (Or.inl rfl))) (fun _ _ _ _ _ => by exact (pts_one (pt_cmpR op_ne (pv 3) pe_int (nomark _)))) (fun _ _ _ _ _ => by exact (pv 3))) pe_int (fun _ _ => rfl))) (pss_cons (ps_if (pt_tru (pv 0)) (pss_cons (ps_set (i := 4) nd rfl (Or.inr rfl) (pe_fn G_inverse_of (hr.mono (by decide)) (pa_cons (pv 0) (pa_cons (pv 2) pa_nil)))) (pss_one (ps_ret (pe_callTy c_tuple (by rfl) T.z_tuple bo_tuple (pa_cons (pe_lc (own := [("number", 3)]) rfl nd (pi_seq (pv 1)) (blkOk_by (N := ["prime", "numbers", "first", "number", "times", "shared"]) (sc := defScope s_made_normal) (by decide +kernel)) (fun _ _ _ _ _ => by exact (pg_name (i := 3) nd rfl (Or.inl rfl))) (fun _ _ _ _ _ => by exact pts_nil) (fun _ _ _ _ _ => by exact (pe_op op_mod (pe_op op_mulW (pv 3) (pv 4)) (pv 0)))) pa_nil))))) pss_nil) (pss_cons (ps_set (i := 5) nd rfl (Or.inr rfl) (pe_fn G_divisor_of (hr.mono (by decide)) (pa_cons (pv 1) pa_nil))) (pss_cons (ps_if (pt_cmpR op_lt (pv 2) pe_int (nomark _)) (pss_one (ps_set (i := 5) nd rfl (Or.inr rfl) (pe_un un_neg (pv 5)))) pss_nil) (pss_one (ps_ret (pe_callTy c_tuple (by rfl) T.z_tuple bo_tuple (pa_cons (pe_lc (own := [("number", 3)]) rfl nd (pi_seq (pv 1)) (blkOk_by (N := ["prime", "numbers", "first", "number", "times", "shared"]) (sc := defScope s_made_normal) (by decide +kernel)) (fun _ _ _ _ _ => by exact (pg_name (i := 3) nd rfl (Or.inl rfl))) (fun _ _ _ _ _ => by exact pts_nil) (fun _ _ _ _ _ => by exact (pe_op op_fdivV (pv 3) (pv 5)))) pa_nil)))))))), fun as β r β' hR => ?_⟩)
  obtain ⟨p, d, ns, rfl, ⟨hd, hM⟩, rfl, rfl, rfl⟩ := hR
  dsimp only [cxOf, Cx.nox, Cx.wish]
  obtain ⟨rest, hf, hm, hn0⟩ := Num.first_cons hM.ex
  have hl := hM.len
  refine .ret (st_sq (st_asg (d := .int (Num.firstI ns)) (d_ixL (ds := (ns.filter fun n => !decide (n = 0)).map PyData.int) (i := 0) ?e1 d_int (by rw [hf]; exact at0 _ _))) ?_)
  case e1 =>
    refine d_lcQ (d_var rfl) hd ?_ (by rw [List.length_map]; exact Nat.le_trans (List.length_filter_le _ _) (by omega)) (wipe_ok (by decide))
    exact lc_ints (fun n => !decide (n = 0)) PyData.int (fun n _ => t_test (d_neI (d_var rfl) d_int)) fun n _ _ => d_var rfl
  by_cases h0 : p = 0
  · subst h0
    refine st_sq (st_ifF ((t_truthI (d_var rfl)).to rfl) st_next) ?_
    have hc : EvB K (tCall (spR K R_divisor_of) [] E0 (tCons (tVar 1) tNil)) ((startR ["prime", "numbers", "first", "number", "times", "shared"] [.imm (.int 0), .imm d]).set 2 (some (.imm (.int (Num.firstI ns))))) none (.int (Num.gcdL 0 ns)) none := d_call0 (a_con (d_var rfl) a_nil) ⟨d, ns, rfl, hd, rfl, rfl, rfl⟩
    refine st_sq (st_asg hc) ?_
    have hg := Num.gcdL_pos hM.ex
    have hz := Num.log_lt (Nat.lt_of_le_of_lt (Num.gcdL_le hm hn0) (hM.sz _ hm))
    have fin : ∀ (g : Int) (ρ : Rho), ρ[1]? = some (some (.imm d)) → ρ[5]? = some (some (.imm (.int g))) → ρ.length = 6 → CDivV 0 g → EvB K (tCB (rTupleOf K) (tCons (tLc (iSeq K (tVar 1)) (gName 3) tYes (tOp (rI CDivV fun i j => V.int (i.fdiv j)) (tVar 3) (tVar 5)) [3]) tNil)) ρ none (tupI (ns.map fun n => n.fdiv g)) none := by
      intro g ρ e1 e5 e6 hgd
      refine d_tupleOf ?_
      refine d_lcQ (d_var e1) hd ?_ (by rw [List.length_map, List.length_map]; omega) (wipe_ok (by decide))
      rw [List.map_map]
      refine lc_ints' (fun n => .int (n.fdiv g)) fun n _ => ?_
      have e5' : ((wipeR ρ [3]).set 3 (some (Slot.imm (PyData.int n))))[5]? = some (some (.imm (.int g))) := by
        show ((ρ.set 3 none).set 3 _)[5]? = _
        rw [List.set_set, List.getElem?_set_ne (by decide)]
        exact e5
      have e3' : ((wipeR ρ [3]).set 3 (some (Slot.imm (PyData.int n))))[3]? = some (some (.imm (.int n))) := by
        show ((ρ.set 3 none).set 3 _)[3]? = _
        rw [List.set_set, List.getElem?_set_self (by rw [e6]; decide)]
      exact d_fdiv (d_var e3') (d_var e5') hgd
    by_cases h1 : Num.firstI ns < 0
    · refine st_sq (st_ifT ((t_test (d_lt (d_var rfl) d_int)).to (decide_eq_true h1)) (st_asg (d_neg (d_var rfl)))) (st_ret ((fin (-(Num.gcdL 0 ns)) _ rfl rfl rfl ⟨by omega, by rw [Int.natAbs_neg]; exact hz⟩).to ?_))
      unfold Num.made
      rw [if_neg (by simp), if_pos h1]
    · refine st_sq (st_ifF ((t_test (d_lt (d_var rfl) d_int)).to (decide_eq_false h1)) st_next) (st_ret ((fin (Num.gcdL 0 ns) _ rfl rfl rfl ⟨by omega, hz⟩).to ?_))
      unfold Num.made
      rw [if_neg (by simp), if_neg h1]
  · obtain ⟨f1, f2⟩ := hM.first h0
    obtain ⟨i1, i2, i3⟩ := Num.inv_lt hM.pr h0 f1 f2
    have hs := hM.pr.small
    refine st_seqR (st_ifT ((t_truthI (d_var rfl)).to (by simpa using h0)) ?_)
    refine st_sq (st_asg (c_f2 (d_var rfl) (d_var rfl) ⟨hM.pr, h0, f1, f2⟩)) (st_ret ((d_tupleOf (ds := (ns.map fun n => n * Num.inv p (Num.firstI ns) % p).map PyData.int) ?_).to ?_))
    · refine d_lcQ (d_var rfl) hd ?_ (by rw [List.length_map, List.length_map]; omega) (wipe_ok (by decide))
      rw [List.map_map]
      refine lc_ints' (fun n => .int (n * Num.inv p (Num.firstI ns) % p)) fun n hn => ?_
      have hb := hM.lt h0 n hn
      have hw : CMulW n (Num.inv p (Num.firstI ns)) := wide_mul (a := 10) (b := 10) (by omega) (by omega) (by decide) (by decide) (by decide)
      have hp0 : 0 < p := by omega
      exact d_mod (d_mul (d_var rfl) (d_var rfl) hw) (d_var rfl) hp0
    · unfold Num.made
      rw [if_pos h0]

end K34
/-! ## K34b -/
set_option Elab.async false
set_option linter.all false
set_option maxRecDepth 100000
set_option maxHeartbeats 1100000
namespace K34
open PySem L2 TD PySem.Spec PyProof.Rows
variable [TabW]
def fD {α : Type} (a : α → List Slot) (P : α → Prop) (g : α → List Int → Dt × List Int) : FR := fun as β r β' => ∃ x n ns, as = .bag :: a x ∧ P x ∧ Num.BagI n ns ∧ r = (g x ns).1 ∧ β = some ns ∧ β' = some (g x ns).2
section
variable {K : PySem.W.Frag} {ρ : Rho} {β β1 β2 β3 : Bag} {ta tb tc : TE} {t : TA} {E : XK} {α : Type}
theorem c_fD {a : α → List Slot} {P : α → Prop} {g : α → List Int → Dt × List Int} {x : α} {n : Int} {ns : List Int} (h : EvA K t ρ (some ns) (.bag :: a x) (some ns)) (hp : P x) (hb : Num.BagI n ns) : EvB K (tCall (spR K (fD a P g)) [] E t) ρ (some ns) (g x ns).1 (some (g x ns).2) := d_call h ⟨x, n, ns, rfl, hp, hb, rfl, rfl, rfl⟩ rfl
end
theorem grab_pos {t a m c : Int} (h : 0 < a) : Num.grabF t [a, m, c] = (a % t, [a.fdiv t, m, c]) := if_pos h
theorem grab_neg {t a m c : Int} (h : ¬ 0 < a) : Num.grabF t [a, m, c] = ((((((m + 1048627 * (c + 1)) % 2305843009213693951 * ((m + 1048627 * (c + 1)) % 2305843009213693951) % 2305843009213693723 * ((m + 1048627 * (c + 1)) % 2305843009213693951) + 8147 * (c + 1)) % 2305843009213693921).fdiv 16384) % t), [a, m, c + 1]) := if_neg h
theorem getD_int {ns : List Int} {i : Nat} (h : i < ns.length) : (ns.map PyData.int).getD i .none = .int (ns.getD i 0) := by
  rw [List.getD_eq_getElem?_getD, List.getD_eq_getElem?_getD, List.getElem?_map, List.getElem?_eq_getElem h]
  rfl
theorem LcR.draws {K : PySem.W.Frag} {ρ : Rho} {te : TE} {j : Nat} (f : List Int → Int × List Int) (hf : ∀ (d : Dt) {n : Int} {ns : List Int}, Num.BagI n ns → EvB K te (ρ.set j (some (Slot.imm d))) (some ns) (.int (f ns).1) (some (f ns).2)) (hb : ∀ {n : Int} {ns : List Int}, Num.BagI n ns → Num.BagI (n + 1) (f ns).2) :
    ∀ (ds : List Dt) {n : Int} {ns : List Int}, Num.BagI n ns → LcR K j tYes te ds ρ (some ns) ((Num.drawsF f ds.length ns).1.map PyData.int) (some (Num.drawsF f ds.length ns).2)
  | [], _, _, _ => .nil _ _
  | d :: ds, n, ns, h => .yes t_yes0 (hf d h) (LcR.draws f hf hb ds (hb h))


abbrev s_law_grab : Stmt := top 30
theorem sc_law_grab : FnScope ["_law_bag_here", "_law_total", "_law_found", "_law_one", "_law_two"] ["_law_bag_here", "_law_total"] (defScope s_law_grab) := ⟨rfl, rfl, rfl, by decide +kernel, rfl, by decide +kernel, by decide +kernel⟩
abbrev R_law_grab : FR := fD (fun t : Int => [.imm (.int t)]) (fun t => 0 < t ∧ t.natAbs < 2 ^ 3000) fun t ns => (.int (Num.grabF t ns).1, (Num.grabF t ns).2)
theorem ok_law_grab {P : Program} {w : World} {K : PySem.W.Frag} {mg : Str → Option Value} {base : Heap} {Y : Cn} (F : DefAt K "_law_grab" s_law_grab) (hX : K.In base) (hG : base.Ns mainGlobals mg) (T : Txt K mg Y)  : FnG P w K mg base 1 "_law_grab" ["_law_bag_here", "_law_total"] R_law_grab := by
  have nd := sc_law_grab.nd
  refine fn_mk F hX hG sc_law_grab (fun as β r β' h => by first | exact FR.len h | (obtain ⟨_, rfl, _⟩ := h; rfl) | (obtain ⟨_, _, rfl, _⟩ := h; rfl) | (obtain ⟨_, _, _, rfl, _⟩ := h; rfl) | (obtain ⟨_, _, _, _, rfl, _⟩ := h; rfl) | (obtain ⟨_, _, _, _, _, rfl, _⟩ := h; rfl)) (fun _ _ _ _ _ _ _ us hl => match us, hl with | [_, _], _ => rfl) (fun f cdv A outer s H E hr => ⟨_, (pss_cons (ps_if (pt_cmpR op_gt (pe_ix ix_list (pv 0) pe_int (fun _ _ => rfl)) pe_int (nomark _)) (pss_cons (ps_set (i := 2) nd rfl (Or.inl rfl) (pe_op op_mod (pe_callTy c_int (by rfl) T.z_int bo_int (pa_cons (pe_ix ix_list (pv 0) pe_int (fun _ _ => rfl)) pa_nil)) (pv 1))) (pss_cons (ps_asg (pe_op op_fdivV (pe_ix ix_list (pv 0) pe_int (fun _ _ => rfl)) (pv 1)) (pg_sub (pv 0) pe_int set_list)) (pss_one (ps_ret (pv 2))))) pss_nil) (pss_cons (ps_asg (pe_op op_add (pe_ix ix_list (pv 0) pe_int (fun _ _ => rfl)) pe_int) (pg_sub (pv 0) pe_int set_list)) (pss_cons (ps_set (i := 3) nd rfl (Or.inl rfl) (pe_op op_mod (pe_callTy c_int (by rfl) T.z_int bo_int (pa_cons (pe_op op_add (pe_ix ix_list (pv 0) pe_int (fun _ _ => rfl)) (pe_op op_mul pe_int (pe_ix ix_list (pv 0) pe_int (fun _ _ => rfl)))) pa_nil)) pe_int)) (pss_cons (ps_set (i := 4) nd rfl (Or.inl rfl) (pe_op op_add (pe_op op_mulW (pe_op op_mod (pe_callTy c_int (by rfl) T.z_int bo_int (pa_cons (pe_op op_mulW (pv 3) (pv 3)) pa_nil)) pe_int) (pv 3)) (pe_op op_mul pe_int (pe_ix ix_list (pv 0) pe_int (fun _ _ => rfl))))) (pss_one (ps_ret (pe_op op_mod (pe_callTy c_int (by rfl) T.z_int bo_int (pa_cons (pe_op op_fdivV (pe_op op_mod (pe_callTy c_int (by rfl) T.z_int bo_int (pa_cons (pv 4) pa_nil)) pe_int) pe_int) pa_nil)) (pv 1)))))))), fun as β r β' hR => ?_⟩)
  obtain ⟨t, n, ns, rfl, ⟨ht, hz⟩, hb, rfl, rfl, rfl⟩ := hR
  dsimp only [cxOf, Cx.nox, Cx.wish]
  obtain ⟨a, m, c, rfl, h1, h2, h3, h4, h5, h6⟩ := hb.ex
  have hdv : CDivV a t := ⟨by omega, Num.log_lt3 hz⟩
  by_cases h : 0 < a
  · rw [grab_pos h]
    refine .ret (st_seqR (st_ifT ((t_test (d_gt (d_ixB rfl d_int rfl) d_int)).to (decide_eq_true h)) (st_seq (st_asg (d_mod (d_intI (d_ixB rfl d_int rfl)) (d_var rfl) ht)) (st_seq (st_setB (j := 0) (d_fdiv (d_ixB rfl d_int rfl) (d_var rfl) hdv) rfl rfl) (st_ret (d_var rfl))))))
  · rw [grab_neg h]
    have e1 : (0 : Int) ≤ (m + 1048627 * (c + 1)) % 2305843009213693951 := Int.emod_nonneg _ (by decide)
    have e2 : (m + 1048627 * (c + 1)) % 2305843009213693951 < 2305843009213693951 := Int.emod_lt_of_pos _ (by decide)
    have w1 : CMulW ((m + 1048627 * (c + 1)) % 2305843009213693951) ((m + 1048627 * (c + 1)) % 2305843009213693951) := wide_mul (a := 62) (b := 62) (by omega) (by omega) (by decide) (by decide) (by decide)
    have w2 : ∀ z : Int, CMulW (z % 2305843009213693723) ((m + 1048627 * (c + 1)) % 2305843009213693951) := fun z => wide_mul (a := 62) (b := 62) (by have := Int.emod_nonneg z (show (2305843009213693723 : Int) ≠ 0 by decide); have := Int.emod_lt_of_pos z (show (0 : Int) < 2305843009213693723 by decide); omega) (by omega) (by decide) (by decide) (by decide)
    refine .ret (st_sq (st_ifF ((t_test (d_gt (d_ixB rfl d_int rfl) d_int)).to (decide_eq_false h)) st_next) (st_seq (st_setB (j := 2) (d_add (d_ixB rfl d_int rfl) d_int) rfl rfl) (st_sq (st_asg (d_mod (d_intI (d_add (d_ixB rfl d_int rfl) (d_mul d_int (d_ixB rfl d_int rfl) (.inl (by decide))))) d_int (by decide))) (st_sq (st_asg (d_add (d_mul (d_mod (d_intI (d_mul (d_var rfl) (d_var rfl) w1)) d_int (by decide)) (d_var rfl) (w2 _)) (d_mul d_int (d_ixB rfl d_int rfl) (.inl (by decide))))) (st_ret (d_mod (d_intI (d_fdiv (d_mod (d_intI (d_var rfl)) d_int (by decide)) d_int ⟨by decide, by decide⟩)) (d_var rfl) ht))))))


abbrev s_law_one_of : Stmt := top 31
theorem sc_law_one_of : FnScope ["_law_bag_here", "_law_items"] ["_law_bag_here", "_law_items"] (defScope s_law_one_of) := ⟨rfl, rfl, rfl, by decide +kernel, rfl, by decide +kernel, by decide +kernel⟩
abbrev R_law_one_of : FR := fD (fun ds : List Dt => [.imm (.list ds)]) (fun ds => ds ≠ [] ∧ ds.length ≤ 1000) fun ds ns => (ds.getD (Num.grabF (ds.length : Int) ns).1.toNat .none, (Num.grabF (ds.length : Int) ns).2)
theorem ok_law_one_of {P : Program} {w : World} {K : PySem.W.Frag} {mg : Str → Option Value} {base : Heap} {Y : Cn} (F : DefAt K "_law_one_of" s_law_one_of) (hX : K.In base) (hG : base.Ns mainGlobals mg) (T : Txt K mg Y) (G_law_grab : FnG P w K mg base 1 "_law_grab" ["_law_bag_here", "_law_total"] R_law_grab) : FnG P w K mg base 2 "_law_one_of" ["_law_bag_here", "_law_items"] R_law_one_of := by
  have nd := sc_law_one_of.nd
  refine fn_mk F hX hG sc_law_one_of (fun as β r β' h => by first | exact FR.len h | (obtain ⟨_, rfl, _⟩ := h; rfl) | (obtain ⟨_, _, rfl, _⟩ := h; rfl) | (obtain ⟨_, _, _, rfl, _⟩ := h; rfl) | (obtain ⟨_, _, _, _, rfl, _⟩ := h; rfl) | (obtain ⟨_, _, _, _, _, rfl, _⟩ := h; rfl)) (fun _ _ _ _ _ _ _ us hl => match us, hl with | [_, _], _ => rfl) (fun f cdv A outer s H E hr => ⟨_, (pss_one (ps_ret (pe_ix ix_list (pv 1) (pe_fn G_law_grab (hr.mono (by decide)) (pa_cons (pv 0) (pa_cons (pe_callB (c_lenK (K := K)) (by rfl) T.z_len bo_len (pa_cons (pv 1) pa_nil)) pa_nil))) (fun _ _ => rfl)))), fun as β r β' hR => ?_⟩)
  obtain ⟨ds, n, ns, rfl, ⟨h0, hl⟩, hb, rfl, rfl, rfl⟩ := hR
  dsimp only [cxOf, Cx.nox, Cx.wish]
  have hp : 0 < ds.length := List.length_pos_iff.mpr h0
  have hg := Num.grab_rng (t := (ds.length : Int)) (by omega) ns
  refine .ret (st_ret (d_ixL (d_var rfl) (c_fD (x := (ds.length : Int)) (a_bg rfl (a_con (d_len (d_var rfl) (.inl rfl)) a_nil)) ⟨by omega, Nat.lt_of_le_of_lt (m := 1000) (by omega) (by decide)⟩ hb) ?_))
  show atI ds (Num.grabF (ds.length : Int) ns).1 = some _
  have e : (Num.grabF (ds.length : Int) ns).1 = (((Num.grabF (ds.length : Int) ns).1.toNat : Nat) : Int) := by omega
  have hlt : (Num.grabF (ds.length : Int) ns).1.toNat < ds.length := by omega
  rw [e]
  refine atI_nat ?_
  rw [List.getElem?_eq_getElem hlt, List.getD_eq_getElem?_getD, Int.toNat_natCast, List.getElem?_eq_getElem hlt]
  rfl


abbrev s_law_mixed : Stmt := top 32
theorem sc_law_mixed : FnScope ["_law_bag_here", "_law_items", "_law_waits", "_law_turn"] ["_law_bag_here", "_law_items"] (defScope s_law_mixed) := ⟨rfl, rfl, rfl, by decide +kernel, rfl, by decide +kernel, by decide +kernel⟩
abbrev R_law_mixed : FR := fun as β r β' => ∃ d ds n ns, as = [.bag, .imm d] ∧ (SeqD d ds ∧ ds.length ≤ 1000) ∧ Num.BagI n ns ∧ r = .list (mixF Num.grabF ds.length ds ns).1 ∧ β = some ns ∧ β' = some (mixF Num.grabF ds.length ds ns).2
theorem ok_law_mixed {P : Program} {w : World} {K : PySem.W.Frag} {mg : Str → Option Value} {base : Heap} {Y : Cn} (F : DefAt K "_law_mixed" s_law_mixed) (hX : K.In base) (hG : base.Ns mainGlobals mg) (T : Txt K mg Y) (G_law_grab : FnG P w K mg base 1 "_law_grab" ["_law_bag_here", "_law_total"] R_law_grab) : FnG P w K mg base 2 "_law_mixed" ["_law_bag_here", "_law_items"] R_law_mixed := by
  have nd := sc_law_mixed.nd
  refine fn_mk F hX hG sc_law_mixed (fun as β r β' h => by first | exact FR.len h | (obtain ⟨_, rfl, _⟩ := h; rfl) | (obtain ⟨_, _, rfl, _⟩ := h; rfl) | (obtain ⟨_, _, _, rfl, _⟩ := h; rfl) | (obtain ⟨_, _, _, _, rfl, _⟩ := h; rfl) | (obtain ⟨_, _, _, _, _, rfl, _⟩ := h; rfl)) (fun _ _ _ _ _ _ _ us hl => match us, hl with | [_, _], _ => rfl) (fun f cdv A outer s H E hr => ⟨_, (pss_cons (ps_set (i := 2) nd rfl (Or.inr rfl) (pe_callTy c_list (by rfl) T.z_list bo_list (pa_cons (pv 1) pa_nil))) (pss_one (ps_ret (pe_lc (own := [("_law_turn", 3)]) rfl nd (pi_range1 (by rfl) T.z_range (pa_cons (pe_callB (c_lenK (K := K)) (by rfl) T.z_len bo_len (pa_cons (pv 1) pa_nil)) pa_nil)) (blkOk_by (N := ["_law_bag_here", "_law_items", "_law_waits", "_law_turn"]) (sc := defScope s_law_mixed) (by decide +kernel)) (fun _ _ _ _ _ => by exact (pg_name (i := 3) nd rfl (Or.inl rfl))) (fun _ _ _ _ _ => by exact pts_nil) (fun _ _ _ _ _ => by exact (pe_castBM (K := K) (pe_bm PySem.F.plainAttrs_list PySem.F.slot_list_pop PySem.F.type_list_pop mt_popAt (pv 2) (pa_cons (pe_fn G_law_grab (hr.mono (by decide)) (pa_cons (pv 0) (pa_cons (pe_callB (c_lenK (K := K)) (by rfl) T.z_len bo_len (pa_cons (pv 2) pa_nil)) pa_nil))) pa_nil)))))))), fun as β r β' hR => ?_⟩)
  obtain ⟨d, ds, n, ns, rfl, ⟨hd, hl⟩, hb, rfl, rfl, rfl⟩ := hR
  dsimp only [cxOf, Cx.nox, Cx.wish]
  refine .ret (st_mixed (P := fun ns => ∃ n, Num.BagI n ns) Num.grabF hd hl ⟨n, hb⟩ (fun ⟨n, h⟩ hp => ⟨n + 1, Num.grab_bag hp h⟩) (fun hp => Num.grab_rng hp _) fun ⟨n, h⟩ hp hle => ⟨_, n, _, rfl, ⟨hp, Nat.lt_of_le_of_lt (m := 1000) (by omega) (by decide)⟩, h, rfl, rfl, rfl⟩)


abbrev s_law_low : Stmt := top 33
theorem sc_law_low : FnScope ["_law_prime", "_law_number"] ["_law_prime", "_law_number"] (defScope s_law_low) := ⟨rfl, rfl, rfl, by decide +kernel, rfl, by decide +kernel, by decide +kernel⟩
abbrev R_law_low : FR := f2 PyData.int PyData.int (fun p _ => 0 ≤ p) fun p n => .int (Num.settled p n)
theorem ok_law_low {P : Program} {w : World} {K : PySem.W.Frag} {mg : Str → Option Value} {base : Heap} {Y : Cn} (F : DefAt K "_law_low" s_law_low) (hX : K.In base) (hG : base.Ns mainGlobals mg) (T : Txt K mg Y)  : FnG P w K mg base 1 "_law_low" ["_law_prime", "_law_number"] R_law_low := by
  have nd := sc_law_low.nd
  refine fn_mk F hX hG sc_law_low (fun as β r β' h => by first | exact FR.len h | (obtain ⟨_, rfl, _⟩ := h; rfl) | (obtain ⟨_, _, rfl, _⟩ := h; rfl) | (obtain ⟨_, _, _, rfl, _⟩ := h; rfl) | (obtain ⟨_, _, _, _, rfl, _⟩ := h; rfl) | (obtain ⟨_, _, _, _, _, rfl, _⟩ := h; rfl)) (fun _ _ _ _ _ _ _ us hl => match us, hl with | [_, _], _ => rfl) (fun f cdv A outer s H E hr => ⟨_, (pss_one (ps_ret (pe_ifExp (pt_cmpR op_eq (pv 0) pe_int (nomark _)) (pe_callTy c_int (by rfl) T.z_int bo_int (pa_cons (pv 1) pa_nil)) (pe_op op_mod (pe_callTy c_int (by rfl) T.z_int bo_int (pa_cons (pv 1) pa_nil)) (pv 0))))), fun as β r β' hR => ?_⟩)
  obtain ⟨p, n, rfl, hp, rfl, rfl, rfl⟩ := hR
  dsimp only [cxOf, Cx.nox, Cx.wish]
  by_cases h : p = 0
  · subst h
    exact .ret (st_ret (d_ifT ((t_test (d_eqI (d_var rfl) d_int)).to rfl) (d_intI (d_var rfl))))
  · refine .ret (st_ret (d_ifF ((t_test (d_eqI (d_var rfl) d_int)).to (decide_eq_false h)) ((d_mod (d_intI (d_var rfl)) (d_var rfl) (by show 0 < p; omega)).to ?_)))
    unfold Num.settled
    rw [if_pos h]


abbrev s_law_common : Stmt := top 34
theorem sc_law_common : FnScope ["_law_numbers", "_law_found", "_law_number", "_law_other"] ["_law_numbers"] (defScope s_law_common) := ⟨rfl, rfl, rfl, by decide +kernel, rfl, by decide +kernel, by decide +kernel⟩
abbrev R_law_common : FR := f1 lstI (fun _ => True) fun ns => .int (Num.gcdL 0 ns)
theorem ok_law_common {P : Program} {w : World} {K : PySem.W.Frag} {mg : Str → Option Value} {base : Heap} {Y : Cn} (F : DefAt K "_law_common" s_law_common) (hX : K.In base) (hG : base.Ns mainGlobals mg) (T : Txt K mg Y)  : FnG P w K mg base 1 "_law_common" ["_law_numbers"] R_law_common := by
  have nd := sc_law_common.nd
  refine fn_mk F hX hG sc_law_common (fun as β r β' h => by first | exact FR.len h | (obtain ⟨_, rfl, _⟩ := h; rfl) | (obtain ⟨_, _, rfl, _⟩ := h; rfl) | (obtain ⟨_, _, _, rfl, _⟩ := h; rfl) | (obtain ⟨_, _, _, _, rfl, _⟩ := h; rfl) | (obtain ⟨_, _, _, _, _, rfl, _⟩ := h; rfl)) (fun _ _ _ _ _ _ _ us hl => match us, hl with | [_], _ => rfl) (fun f cdv A outer s H E hr => ⟨_, (pss_cons (ps_set (i := 1) nd rfl (Or.inl rfl) pe_int) (pss_cons (ps_for PassesOwn.never rfl (pi_list (pv 0)) (pg_name (i := 2) nd rfl (Or.inl rfl)) (pss_cons (ps_set (i := 3) nd rfl (Or.inl rfl) (pe_callB c_abs (by rfl) T.z_abs bo_abs (pa_cons (pv 2) pa_nil))) (pss_one (ps_while PassesOwn.never (pt_cmpR op_gt (pv 3) pe_int (nomark _)) (pss_one (ps_par (i := 1) (j := 3) rfl nd rfl rfl (by decide) rfl rfl (pa_cons (pv 3) (pa_cons (pe_op op_mod (pv 1) (pv 3)) pa_nil)) (by rfl))))))) (pss_one (ps_ret (pv 1))))), fun as β r β' hR => ?_⟩)
  obtain ⟨ns, rfl, _, rfl, rfl, rfl⟩ := hR
  dsimp only [cxOf, Cx.nox, Cx.wish]
  have wh : ∀ (o : Nat) (f : Nat) (x n : Option Slot), ∃ k, WhR K (tTest (tOp (rI0 fun i j => .bl (decide (j < i))) (tVar 3) (tC (.int 0)))) (tPar 1 3 (tCons (tVar 3) (tCons (tOp (rI (fun _ j => 0 < j) fun i j => .int (i % j)) (tVar 1) (tVar 3)) tNil))) k [x, some (.imm (.int (f : Int))), n, some (.imm (.int (o : Int)))] none (.nx [x, some (.imm (.int ((Nat.gcd f o : Nat) : Int))), n, some (.imm (.int 0))]) none := by
    intro o
    induction o using Nat.strongRecOn with
    | ind o ih =>
      intro f x n
      by_cases h : o = 0
      · subst h
        rw [Nat.gcd_zero_right]
        exact ⟨0, .done ((t_test (d_gt (d_var rfl) d_int)).to rfl)⟩
      · obtain ⟨k, hk⟩ := ih (f % o) (Nat.mod_lt _ (by omega)) o x n
        have e : Nat.gcd o (f % o) = Nat.gcd f o := by rw [Nat.gcd_comm, ← Nat.gcd_rec, Nat.gcd_comm]
        rw [e] at hk
        refine ⟨k + 1, .nx ((t_test (d_gt (d_var rfl) d_int)).to (decide_eq_true (by omega))) (st_par (d_var rfl) (d_mod (d_var rfl) (d_var rfl) (by show (0 : Int) < (o : Int); omega))) ?_⟩
        have e2 : ((f : Int) % (o : Int)) = ((f % o : Nat) : Int) := rfl
        show WhR K _ _ k [x, some (.imm (.int (o : Int))), n, some (.imm (.int ((f : Int) % (o : Int))))] none _ none
        rw [e2]
        exact hk
  have loop : ∀ (ms : List Int) (s : Nat) (x v w : Option Slot), ∃ v' w', ForR K 2 (tSeq (tAsg (tCB rAbs (tCons (tVar 2) tNil)) (gName 3)) (tWhile (tTest (tOp (rI0 fun i j => .bl (decide (j < i))) (tVar 3) (tC (.int 0)))) (tPar 1 3 (tCons (tVar 3) (tCons (tOp (rI (fun _ j => 0 < j) fun i j => .int (i % j)) (tVar 1) (tVar 3)) tNil))))) (ms.map PyData.int) [x, some (.imm (.int (s : Int))), v, w] none (.nx [x, some (.imm (.int (Num.gcdL (s : Int) ms))), v', w']) none := by
    intro ms
    induction ms with
    | nil => exact fun s x v w => ⟨v, w, .nil _ _⟩
    | cons m ms ih =>
      intro s x v w
      obtain ⟨k, hk⟩ := wh m.natAbs s x (some (.imm (.int m)))
      obtain ⟨v', w', h⟩ := ih (Nat.gcd s m.natAbs) x (some (.imm (.int m))) (some (.imm (.int 0)))
      exact ⟨v', w', .nx (st_sq (st_asg ((d_abs (d_var rfl)).to (congrArg PyData.int (absI_num m)))) (st_while hk)) h⟩
  obtain ⟨v', w', h⟩ := loop ns 0 _ none none
  exact .ret (st_sq (st_asg d_int) (st_sq (st_forL (d_var rfl) h) (st_ret (d_var rfl))))


abbrev s_law_back : Stmt := top 35
theorem sc_law_back : FnScope ["_law_prime", "_law_number", "_law_one"] ["_law_prime", "_law_number"] (defScope s_law_back) := ⟨rfl, rfl, rfl, by decide +kernel, rfl, by decide +kernel, by decide +kernel⟩
abbrev R_law_back : FR := f2 PyData.int PyData.int (fun p a => Num.PrimeI p ∧ p ≠ 0 ∧ 0 < a ∧ a < p) fun p a => .int (Num.inv p a)
theorem ok_law_back {P : Program} {w : World} {K : PySem.W.Frag} {mg : Str → Option Value} {base : Heap} {Y : Cn} (F : DefAt K "_law_back" s_law_back) (hX : K.In base) (hG : base.Ns mainGlobals mg) (T : Txt K mg Y)  : FnG P w K mg base 1 "_law_back" ["_law_prime", "_law_number"] R_law_back := by
  have nd := sc_law_back.nd
  refine fn_mk F hX hG sc_law_back (fun as β r β' h => by first | exact FR.len h | (obtain ⟨_, rfl, _⟩ := h; rfl) | (obtain ⟨_, _, rfl, _⟩ := h; rfl) | (obtain ⟨_, _, _, rfl, _⟩ := h; rfl) | (obtain ⟨_, _, _, _, rfl, _⟩ := h; rfl) | (obtain ⟨_, _, _, _, _, rfl, _⟩ := h; rfl)) (fun _ _ _ _ _ _ _ us hl => match us, hl with | [_, _], _ => rfl) (fun f cdv A outer s H E hr => ⟨_, (pss_one (ps_ret (pe_ix ix_list (pe_lc (own := [("_law_one", 2)]) rfl nd (pi_range2 (by rfl) T.z_range (pa_cons pe_int (pa_cons (pv 0) pa_nil))) (blkOk_by (N := ["_law_prime", "_law_number", "_law_one"]) (sc := defScope s_law_back) (by decide +kernel)) (fun _ _ _ _ _ => by exact (pg_name (i := 2) nd rfl (Or.inl rfl))) (fun _ _ _ _ _ => by exact (pts_one (pt_cmpR op_eq (pe_op op_mod (pe_callTy c_int (by rfl) T.z_int bo_int (pa_cons (pe_op op_mulW (pv 2) (pv 1)) pa_nil)) (pv 0)) pe_int (nomark _)))) (fun _ _ _ _ _ => by exact (pv 2))) pe_int (fun _ _ => rfl)))), fun as β r β' hR => ?_⟩)
  obtain ⟨p, a, rfl, ⟨hp, h0, h1, h2⟩, rfl, rfl, rfl⟩ := hR
  dsimp only [cxOf, Cx.nox, Cx.wish]
  have hs := hp.small
  obtain ⟨rest, hi⟩ := Num.inv_cons hp h0 h1 h2
  refine .ret (st_ret (d_ixL (ds := (Num.invs p a).map PyData.int) (i := 0) ?e1 d_int (by rw [hi]; exact at0 _ _)))
  refine d_lcR2 (lo := 1) (i := p) d_int (d_var rfl) (by omega) ?_ (by rw [List.length_map]; exact Nat.le_trans (List.length_filter_le _ _) (by unfold Num.upto; rw [List.length_map, List.length_range]; omega)) (wipe_ok (by decide))
  rw [rng_upto]
  refine lc_ints (fun o => decide (a * o % p = 1)) PyData.int (ns := Num.upto 1 (p - 1).toNat) (fun o ho => ?_) fun o ho hf => ?_
  · have ho' : 1 ≤ o ∧ o < p := by
      obtain ⟨i, hi, hj⟩ := List.mem_map.mp ho
      have := List.mem_range.mp hi
      omega
    have hw : CMulW o a := wide_mul (a := 10) (b := 10) (by omega) (by omega) (by decide) (by decide) (by decide)
    have hp0 : 0 < p := by omega
    rw [Int.mul_comm a o]
    exact t_test (d_eqI (d_mod (d_intI (d_mul (d_var rfl) (d_var rfl) hw)) (d_var rfl) hp0) d_int)
  · exact d_var rfl


abbrev s_law_normal : Stmt := top 36
theorem sc_law_normal : FnScope ["_law_prime", "_law_row", "_law_told", "_law_number", "_law_first", "_law_factor", "_law_common_here"] ["_law_prime", "_law_row"] (defScope s_law_normal) := ⟨rfl, rfl, rfl, by decide +kernel, rfl, by decide +kernel, by decide +kernel⟩
abbrev R_law_normal : FR := fun as β r β' => ∃ p d ns, as = [.imm (.int p), .imm d] ∧ (SeqD d (ns.map PyData.int) ∧ Num.PrimeI p ∧ ns.length ≤ 140 ∧ ∀ n ∈ ns, n.natAbs < 2 ^ 1000) ∧ r = tupI (Num.normalF p ns) ∧ β = none ∧ β' = none
theorem ok_law_normal {P : Program} {w : World} {K : PySem.W.Frag} {mg : Str → Option Value} {base : Heap} {Y : Cn} (F : DefAt K "_law_normal" s_law_normal) (hX : K.In base) (hG : base.Ns mainGlobals mg) (T : Txt K mg Y) (G_law_common : FnG P w K mg base 1 "_law_common" ["_law_numbers"] R_law_common) (G_law_low : FnG P w K mg base 1 "_law_low" ["_law_prime", "_law_number"] R_law_low) (G_law_back : FnG P w K mg base 1 "_law_back" ["_law_prime", "_law_number"] R_law_back) : FnG P w K mg base 2 "_law_normal" ["_law_prime", "_law_row"] R_law_normal := by
  have nd := sc_law_normal.nd
  refine fn_mk F hX hG sc_law_normal (fun as β r β' h => by first | exact FR.len h | (obtain ⟨_, rfl, _⟩ := h; rfl) | (obtain ⟨_, _, rfl, _⟩ := h; rfl) | (obtain ⟨_, _, _, rfl, _⟩ := h; rfl) | (obtain ⟨_, _, _, _, rfl, _⟩ := h; rfl) | (obtain ⟨_, _, _, _, _, rfl, _⟩ := h; rfl)) (fun _ _ _ _ _ _ _ us hl => match us, hl with | [_, _], _ => rfl) (fun f cdv A outer s H E hr => ⟨_, (pss_cons (ps_setLc (i := 2) (own := [("_law_number", 3)]) rfl nd rfl rfl (sw_true rfl rfl rfl (by decide +kernel)) (pi_seq (pv 1)) (blkOk_by (N := ["_law_prime", "_law_row", "_law_told", "_law_number", "_law_first", "_law_factor", "_law_common_here"]) (sc := defScope s_law_normal) (by decide +kernel)) (fun _ _ _ _ _ => by exact (pg_name (i := 3) nd rfl (Or.inl rfl))) (fun _ _ _ _ _ => by exact pts_nil) (fun _ _ _ _ _ => by exact (pe_fn G_law_low (hr.mono (by decide)) (pa_cons (pv 0) (pa_cons (pv 3) pa_nil))))) (pss_cons (ps_setLc (i := 4) (own := [("_law_number", 3)]) rfl nd rfl rfl (sw_true rfl rfl rfl (by decide +kernel)) (pi_list (pv 2)) (blkOk_by (N := ["_law_prime", "_law_row", "_law_told", "_law_number", "_law_first", "_law_factor", "_law_common_here"]) (sc := defScope s_law_normal) (by decide +kernel)) (fun _ _ _ _ _ => by exact (pg_name (i := 3) nd rfl (Or.inl rfl))) (fun _ _ _ _ _ => by exact (pts_one (pt_cmpR op_ne (pv 3) pe_int (nomark _)))) (fun _ _ _ _ _ => by exact (pv 3))) (pss_cons (ps_if (pt_cmpR (op_eqD hr.units) (pv 4) (pe_lst pa_nil) (nomark _)) (pss_one (ps_ret (pe_callTy c_tuple (by rfl) T.z_tuple bo_tuple (pa_cons (pv 2) pa_nil)))) pss_nil) (pss_cons (ps_if (pt_cmpR op_ne (pv 0) pe_int (nomark _)) (pss_cons (ps_set (i := 5) nd rfl (Or.inr rfl) (pe_fn G_law_back (hr.mono (by decide)) (pa_cons (pv 0) (pa_cons (pe_ix ix_list (pv 4) pe_int (fun _ _ => rfl)) pa_nil)))) (pss_one (ps_ret (pe_callTy c_tuple (by rfl) T.z_tuple bo_tuple (pa_cons (pe_lc (own := [("_law_number", 3)]) rfl nd (pi_list (pv 2)) (blkOk_by (N := ["_law_prime", "_law_row", "_law_told", "_law_number", "_law_first", "_law_factor", "_law_common_here"]) (sc := defScope s_law_normal) (by decide +kernel)) (fun _ _ _ _ _ => by exact (pg_name (i := 3) nd rfl (Or.inl rfl))) (fun _ _ _ _ _ => by exact pts_nil) (fun _ _ _ _ _ => by exact (pe_op op_mod (pe_callTy c_int (by rfl) T.z_int bo_int (pa_cons (pe_op op_mulW (pv 3) (pv 5)) pa_nil)) (pv 0)))) pa_nil))))) pss_nil) (pss_cons (ps_set (i := 6) nd rfl (Or.inr rfl) (pe_fn G_law_common (hr.mono (by decide)) (pa_cons (pv 2) pa_nil))) (pss_cons (ps_set (i := 6) nd rfl (Or.inr rfl) (pe_ifExp (pt_cmpR op_gt (pe_ix ix_list (pv 4) pe_int (fun _ _ => rfl)) pe_int (nomark _)) (pv 6) (pe_un un_neg (pv 6)))) (pss_one (ps_ret (pe_callTy c_tuple (by rfl) T.z_tuple bo_tuple (pa_cons (pe_lc (own := [("_law_number", 3)]) rfl nd (pi_list (pv 2)) (blkOk_by (N := ["_law_prime", "_law_row", "_law_told", "_law_number", "_law_first", "_law_factor", "_law_common_here"]) (sc := defScope s_law_normal) (by decide +kernel)) (fun _ _ _ _ _ => by exact (pg_name (i := 3) nd rfl (Or.inl rfl))) (fun _ _ _ _ _ => by exact pts_nil) (fun _ _ _ _ _ => by exact (pe_op op_fdivV (pv 3) (pv 6)))) pa_nil)))))))))), fun as β r β' hR => ?_⟩)
  obtain ⟨p, d, ns, rfl, ⟨hd, hp, hl, hz⟩, rfl, rfl, rfl⟩ := hR
  dsimp only [cxOf, Cx.nox, Cx.wish]
  have e1 : ∀ (ρ : Rho), ρ = startR ["_law_prime", "_law_row_here", "_law_told", "_law_number_here", "_law_first", "_law_factor", "_law_common_here"] [Slot.imm (PyData.int p), Slot.imm d] → EvB K (tLc (iSeq K (tVar 1)) (gName 3) tYes (tCall (spR K R_law_low) [] E0 (tCons (tVar 0) (tCons (tVar 3) tNil))) [3]) ρ none (lstI (ns.map (Num.settled p))) none := by
    rintro ρ rfl
    refine d_lcQ (d_var rfl) hd ?_ (by rw [List.length_map, List.length_map]; omega) (wipe_ok (by decide))
    rw [List.map_map]
    exact lc_ints' (fun n => .int (Num.settled p n)) fun n _ => c_f2 (d_var rfl) (d_var rfl) hp.small.1
  refine .ret (st_sq (st_asg (e1 _ rfl)) ?_)
  refine st_sq (st_asg (d := lstI ((ns.map (Num.settled p)).filter fun n => !decide (n = 0))) ?_) ?_
  · refine d_lcL (d_var rfl) ?_ (by rw [List.length_map]; exact Nat.le_trans (List.length_filter_le _ _) (by rw [List.length_map]; omega)) (wipe_ok (by decide))
    exact lc_ints (fun n => !decide (n = 0)) PyData.int (fun n _ => t_test (d_neI (d_var rfl) d_int)) fun n _ _ => d_var rfl
  by_cases h : Num.allZero (ns.map (Num.settled p)) = true
  · refine st_seqR (st_ifT ((t_test (d_eqLL (ns := []) (d_var rfl) (d_lst a_nil rfl (by decide)))).to (decide_eq_true (Num.allZero_filter.mpr h))) (st_ret ((d_tupleOf (d_var rfl)).to ?_)))
    unfold Num.normalF
    rw [if_pos h]
  · have hM := Num.told_ok hp hl hz (Bool.eq_false_iff.mpr h)
    have eN : Num.normalF p ns = Num.made p (ns.map (Num.settled p)) := if_neg h
    rw [eN]
    obtain ⟨rest, hf, hm, hn0⟩ := Num.first_cons hM.ex
    refine st_sq (st_ifF ((t_test (d_eqLL (ns := []) (d_var rfl) (d_lst a_nil rfl (by decide)))).to (decide_eq_false fun z => h (Num.allZero_filter.mp z))) st_next) ?_
    rw [hf]
    have hml := hM.len
    generalize ns.map (Num.settled p) = ts at *
    by_cases h0 : p = 0
    · subst h0
      have hg := Num.gcdL_pos hM.ex
      have hzz := Num.log_lt (Nat.lt_of_le_of_lt (Num.gcdL_le hm hn0) (hM.sz _ hm))
      refine st_sq (st_ifF ((t_test (d_neI (d_var rfl) d_int)).to rfl) st_next) (st_sq (st_asg (c_f1 (x := ts) (d_var rfl) trivial)) ?_)
      have sgn : ∃ g, (if Num.firstI ts < 0 then -(Num.gcdL 0 ts) else Num.gcdL 0 ts) = g ∧ CDivV 0 g ∧ ∀ (ρ : Rho), ρ[4]? = some (some (.imm (lstI (Num.firstI ts :: rest)))) → ρ[6]? = some (some (.imm (.int (Num.gcdL 0 ts)))) → EvB K (tIf (tTest (tOp (rI0 fun i j => .bl (decide (j < i))) (tOp (rIxL K) (tVar 4) (tC (.int 0))) (tC (.int 0)))) (tVar 6) (tUn (rU fun i => .int (-i)) (tVar 6))) ρ none (.int g) none := by
        by_cases h1 : Num.firstI ts < 0
        · refine ⟨_, if_pos h1, ⟨by omega, by rw [Int.natAbs_neg]; exact hzz⟩, fun ρ q4 q6 => ?_⟩
          exact d_ifF ((t_test (d_gt (d_ixL (d_var q4) d_int (at0 _ _)) d_int)).to (decide_eq_false (by omega))) (d_neg (d_var q6))
        · refine ⟨_, if_neg h1, ⟨by omega, hzz⟩, fun ρ q4 q6 => ?_⟩
          exact d_ifT ((t_test (d_gt (d_ixL (d_var q4) d_int (at0 _ _)) d_int)).to (decide_eq_true (by omega))) (d_var q6)
      obtain ⟨g, e2, hgd, e3⟩ := sgn
      rw [Num.made_zero, e2]
      refine st_sq (st_asg (e3 _ rfl rfl)) (st_ret (d_tupleOf (d_lcL (ds := ts.map PyData.int) (rs := (ts.map fun n => n.fdiv g).map PyData.int) (d_var rfl) ?_ (by rw [List.length_map, List.length_map]; omega) (wipe_ok (by decide)))))
      rw [List.map_map]
      exact lc_ints' (fun n => .int (n.fdiv g)) fun n _ => d_fdiv (d_var rfl) (d_var rfl) hgd
    · obtain ⟨f1, f2⟩ := hM.first h0
      obtain ⟨i1, i2, i3⟩ := Num.inv_lt hp h0 f1 f2
      have hs := hp.small
      refine st_seqR (st_ifT ((t_test (d_neI (d_var rfl) d_int)).to (by rw [decide_eq_false h0]; rfl)) ?_)
      refine st_sq (st_asg (c_f2 (d_var rfl) (d_ixL (d_var rfl) d_int (at0 _ _)) ⟨hp, h0, f1, f2⟩)) (st_ret ((d_tupleOf (d_lcL (ds := ts.map PyData.int) (rs := (ts.map fun n => n * Num.inv p (Num.firstI ts) % p).map PyData.int) (d_var rfl) ?_ (by rw [List.length_map, List.length_map]; omega) (wipe_ok (by decide)))).to ?_))
      · rw [List.map_map]
        refine lc_ints' (fun n => .int (n * Num.inv p (Num.firstI ts) % p)) fun n hn => ?_
        have hb := hM.lt h0 n hn
        have hw : CMulW n (Num.inv p (Num.firstI ts)) := wide_mul (a := 10) (b := 10) (by omega) (by omega) (by decide) (by decide) (by decide)
        have hp0 : 0 < p := by omega
        exact d_mod (d_intI (d_mul (d_var rfl) (d_var rfl) hw)) (d_var rfl) hp0
      · unfold Num.made
        rw [if_pos h0]

end K34
/-! ## NumY -/
set_option Elab.async false
set_option linter.all false
set_option maxRecDepth 100000
/-! Spots, as they are judged. Plain Lean. -/
namespace Num
open PySem
def smallK (k : Nat) (ns : List Int) : Bool := ns.all fun n => decide (n.natAbs ≤ k)
theorem max_smallK (k : Nat) {ns : List Int} {M : Int} (hM : M ∈ ns.map absI) (hg : ∀ n ∈ ns.map absI, n ≤ M) : decide (M ≤ (k : Int)) = smallK k ns := by
  unfold smallK
  by_cases h : M ≤ (k : Int)
  · rw [decide_eq_true h]
    refine (List.all_eq_true.mpr fun n hn => ?_).symm
    have := hg _ (List.mem_map_of_mem hn)
    unfold absI at this
    (exact decide_eq_true (by omega))
  · rw [decide_eq_false h]
    obtain ⟨n, hn, rfl⟩ := List.mem_map.mp hM
    refine (List.all_eq_false.mpr ⟨n, hn, ?_⟩).symm
    unfold absI at h
    simpa using h
def spotI (p : Int) (ns : List Int) : Bool := allFit p 2 (.tuple (ns.map PyData.int)) && (ns.any (· != 0) && (decide (made p ns = ns) && smallK 10000000 ns))
def isSpot (p : Int) : Dt → Bool
  | .tuple ds => allFit p 2 (.tuple ds) && ((ds.map toI).any (· != 0) && (decide (made p (ds.map toI) = ds.map toI) && smallK 10000000 (ds.map toI)))
  | _ => false
theorem isSpot_ints (p : Int) (ns : List Int) : isSpot p (.tuple (ns.map PyData.int)) = spotI p ns := by
  unfold isSpot spotI
  dsimp only
  rw [map_toI]
theorem isSpot_no {p : Int} {ds : List Dt} (h : allFit p 2 (.tuple ds) = false) : isSpot p (.tuple ds) = false := by
  unfold isSpot
  dsimp only
  rw [h, Bool.false_and]
def smallSpots (p : Int) : List (Int × Int) :=
  if p > 0 then (0, 1) :: (upto 0 p.toNat).map fun n => (1, n)
  else [(0, 1), (1, -4), (1, -3), (1, -2), (1, -1), (1, 0), (1, 1), (1, 2), (1, 3), (1, 4), (2, -3), (2, -1), (2, 1), (2, 3), (3, -2), (3, -1), (3, 1), (3, 2)]
end Num
/-! ## K34c -/
set_option Elab.async false
set_option linter.all false
set_option maxRecDepth 100000
set_option maxHeartbeats 1100000
namespace K34
open PySem L2 TD PySem.Spec PyProof.Rows
variable [TabW]
abbrev spD (s : Int × Int) : Dt := tupI [s.1, s.2]
theorem at1 {α : Type} (x y : α) (xs : List α) : atI (x :: y :: xs) 1 = some y := atI_nat (xs := x :: y :: xs) (j := 1) (v := y) rfl


abbrev s_is_small : Stmt := top 22
theorem sc_is_small : FnScope ["pair", "number"] ["pair"] (defScope s_is_small) := ⟨rfl, rfl, rfl, by decide +kernel, rfl, by decide +kernel, by decide +kernel⟩
abbrev R_is_small : FR := f1 tupI (fun ns => ns ≠ [] ∧ ns.length ≤ 1000) fun ns => .bool (Num.smallK 10000000 ns)
theorem ok_is_small {P : Program} {w : World} {K : PySem.W.Frag} {mg : Str → Option Value} {base : Heap} {Y : Cn} (F : DefAt K "is_small" s_is_small) (hX : K.In base) (hG : base.Ns mainGlobals mg) (T : Txt K mg Y)  : FnG P w K mg base 1 "is_small" ["pair"] R_is_small := by
  have nd := sc_is_small.nd
  refine fn_mk F hX hG sc_is_small (fun as β r β' h => by first | exact FR.len h | (obtain ⟨_, rfl, _⟩ := h; rfl) | (obtain ⟨_, _, rfl, _⟩ := h; rfl) | (obtain ⟨_, _, _, rfl, _⟩ := h; rfl) | (obtain ⟨_, _, _, _, rfl, _⟩ := h; rfl) | (obtain ⟨_, _, _, _, _, rfl, _⟩ := h; rfl)) (fun _ _ _ _ _ _ _ us hl => match us, hl with | [_], _ => rfl) (fun f cdv A outer s H E hr => ⟨_, (pss_one (ps_ret (pe_cmpR op_le (pe_callB (cr_max rfl) (by rfl) T.z_max bo_max (pa_cons (pe_lc (own := [("number", 1)]) rfl nd (pi_seq (pv 0)) (blkOk_by (N := ["pair", "number"]) (sc := defScope s_is_small) (by decide +kernel)) (fun _ _ _ _ _ => by exact (pg_name (i := 1) nd rfl (Or.inl rfl))) (fun _ _ _ _ _ => by exact pts_nil) (fun _ _ _ _ _ => by exact (pe_callB c_abs (by rfl) T.z_abs bo_abs (pa_cons (pv 1) pa_nil)))) pa_nil)) (pe_glob (v := .int _) (by rfl) T.c_MAX_ENTRY ⟨_, rfl⟩) (nomark _)))), fun as β r β' hR => ?_⟩)
  obtain ⟨ns, rfl, ⟨h0, hl⟩, rfl, rfl, rfl⟩ := hR
  dsimp only [cxOf, Cx.nox, Cx.wish]
  obtain ⟨M, hM, hg⟩ := Num.max_ex (ns := ns.map Num.absI) (by simpa using h0)
  refine' .ret (st_ret (EvB.to (d_le (β1 := none) (β2 := none) (d_max (ns := ns.map Num.absI) ?e1 hM hg) d_int) ?q))
  case e1 =>
    refine d_lcQ (rs := (ns.map Num.absI).map PyData.int) (d_var rfl) (.inr rfl) ?_ (by rw [List.length_map, List.length_map]; omega) (wipe_ok (by decide))
    rw [List.map_map]
    refine lc_ints' (fun n => .int (Num.absI n)) fun n _ => ?_
    exact (d_abs (d_var rfl)).to (by rw [absI_num]; rfl)
  case q => exact congrArg PyData.bool (Num.max_smallK 10000000 hM hg)


abbrev s_is_spot : Stmt := top 23
theorem sc_is_spot : FnScope ["prime", "value"] ["prime", "value"] (defScope s_is_spot) := ⟨rfl, rfl, rfl, by decide +kernel, rfl, by decide +kernel, by decide +kernel⟩
abbrev R_is_spot : FR := f2 PyData.int anyD (fun p _ => Num.PrimeI p) fun p d => .bool (Num.isSpot p d)
theorem ok_is_spot {P : Program} {w : World} {K : PySem.W.Frag} {mg : Str → Option Value} {base : Heap} {Y : Cn} (F : DefAt K "is_spot" s_is_spot) (hX : K.In base) (hG : base.Ns mainGlobals mg) (T : Txt K mg Y) (G_all_fit : FnG P w K mg base 3 "all_fit" ["prime", "value", "many"] R_all_fit) (G_is_small : FnG P w K mg base 1 "is_small" ["pair"] R_is_small) (G_made_normal : FnG P w K mg base 2 "made_normal" ["prime", "numbers"] R_made_normal) : FnG P w K mg base 4 "is_spot" ["prime", "value"] R_is_spot := by
  have nd := sc_is_spot.nd
  refine fn_mk F hX hG sc_is_spot (fun as β r β' h => by first | exact FR.len h | (obtain ⟨_, rfl, _⟩ := h; rfl) | (obtain ⟨_, _, rfl, _⟩ := h; rfl) | (obtain ⟨_, _, _, rfl, _⟩ := h; rfl) | (obtain ⟨_, _, _, _, rfl, _⟩ := h; rfl) | (obtain ⟨_, _, _, _, _, rfl, _⟩ := h; rfl)) (fun _ _ _ _ _ _ _ us hl => match us, hl with | [_, _], _ => rfl) (fun f cdv A outer s H E hr => ⟨_, (pss_one (ps_ret (pe_and (pe_fn G_all_fit (hr.mono (by decide)) (pa_cons (pv 0) (pa_cons (pv 1) (pa_cons pe_int pa_nil)))) (pe_and (pe_callB (cr_anyT rfl) (by rfl) T.z_any bo_any (pa_cons (pv 1) pa_nil)) (pe_and (pe_cmpR (op_eqD hr.units) (pe_fn G_made_normal (hr.mono (by decide)) (pa_cons (pv 0) (pa_cons (pv 1) pa_nil))) (pv 1) (nomark _)) (pe_one (pe_fn G_is_small (hr.mono (by decide)) (pa_cons (pv 1) pa_nil)))))))), fun as β r β' hR => ?_⟩)
  obtain ⟨p, d, rfl, hp, rfl, rfl, rfl⟩ := hR
  dsimp only [cxOf, Cx.nox, Cx.wish]
  have al : ∀ {ρ : Rho} (_ : ρ = [some (.imm (.int p)), some (.imm d)]), EvB K (tCall (spR K R_all_fit) [] E0 (tCons (tVar 0) (tCons (tVar 1) (tCons (tC (.int 2)) tNil)))) ρ none (.bool (Num.allFit p 2 d)) none := fun {ρ} e => by
    subst e
    exact c_f3 (a := PyData.int) (a' := anyD) (a'' := PyData.int) (x := p) (y := d) (z := 2) (d_var rfl) (d_var rfl) d_int (by decide)
  by_cases hf : Num.allFit p 2 d = true
  · cases d with
    | tuple ds =>
      obtain ⟨ns, rfl, hl, hm⟩ := Num.allFit_ints hf
      refine' .ret (st_ret (EvB.to (d_andT (EvB.to (al rfl) (congrArg PyData.bool hf)) (d_and (d_anyT (d_var rfl)) fun ha => d_and (d_eqTT (d_call0 (a_con (d_var rfl) (a_con (d_var rfl) a_nil)) ⟨p, _, ns, rfl, ⟨.inr rfl, Num.madeOk_tup hp (by omega) hm (Num.any_ex.mp ha)⟩, rfl, rfl, rfl⟩) (d_var rfl)) fun _ => c_f1 (x := ns) (d_var rfl) ⟨by intro z; rw [z] at hl; exact absurd hl (by decide), by omega⟩)) ?q))
      case q =>
        rw [Num.isSpot_ints]
        unfold Num.spotI
        rw [hf, Bool.true_and]
    | _ => cases hf
  · have hf' : Num.allFit p 2 d = false := Bool.eq_false_iff.mpr hf
    refine .ret (st_ret (EvB.to (d_andF (EvB.to (al rfl) (congrArg PyData.bool hf'))) ?_))
    cases d with
    | tuple ds => rw [Num.isSpot_no hf']
    | _ => rfl


abbrev s_bracket : Stmt := top 25
theorem sc_bracket : FnScope ["one", "other"] ["one", "other"] (defScope s_bracket) := ⟨rfl, rfl, rfl, by decide +kernel, rfl, by decide +kernel, by decide +kernel⟩
abbrev R_bracket : FR := f2 spD spD (fun x y => (x.1.natAbs < 2 ^ 200 ∧ x.2.natAbs < 2 ^ 200) ∧ y.1.natAbs < 2 ^ 200 ∧ y.2.natAbs < 2 ^ 200) fun x y => .int (Num.br x y)
theorem ok_bracket {P : Program} {w : World} {K : PySem.W.Frag} {mg : Str → Option Value} {base : Heap} {Y : Cn} (F : DefAt K "bracket" s_bracket) (hX : K.In base) (hG : base.Ns mainGlobals mg) (T : Txt K mg Y)  : FnG P w K mg base 1 "bracket" ["one", "other"] R_bracket := by
  have nd := sc_bracket.nd
  refine fn_mk F hX hG sc_bracket (fun as β r β' h => by first | exact FR.len h | (obtain ⟨_, rfl, _⟩ := h; rfl) | (obtain ⟨_, _, rfl, _⟩ := h; rfl) | (obtain ⟨_, _, _, rfl, _⟩ := h; rfl) | (obtain ⟨_, _, _, _, rfl, _⟩ := h; rfl) | (obtain ⟨_, _, _, _, _, rfl, _⟩ := h; rfl)) (fun _ _ _ _ _ _ _ us hl => match us, hl with | [_, _], _ => rfl) (fun f cdv A outer s H E hr => ⟨_, (pss_one (ps_ret (pe_op op_sub (pe_op op_mulW (pe_ix ix_tup (pv 0) pe_int (fun _ _ => rfl)) (pe_ix ix_tup (pv 1) pe_int (fun _ _ => rfl))) (pe_op op_mulW (pe_ix ix_tup (pv 0) pe_int (fun _ _ => rfl)) (pe_ix ix_tup (pv 1) pe_int (fun _ _ => rfl)))))), fun as β r β' hR => ?_⟩)
  obtain ⟨x, y, rfl, ⟨⟨h1, h2⟩, h3, h4⟩, rfl, rfl, rfl⟩ := hR
  dsimp only [cxOf, Cx.nox, Cx.wish]
  exact .ret (st_ret (d_sub (d_mul (d_ixT (d_var rfl) d_int (at0 _ _)) (d_ixT (d_var rfl) d_int (at1 _ _ _)) (wide_mul h1 h4 (by decide) (by decide) (by decide))) (d_mul (d_ixT (d_var rfl) d_int (at1 _ _ _)) (d_ixT (d_var rfl) d_int (at0 _ _)) (wide_mul h2 h3 (by decide) (by decide) (by decide)))))


abbrev s_law_bracket : Stmt := top 42
theorem sc_law_bracket : FnScope ["_law_one", "_law_other"] ["_law_one", "_law_other"] (defScope s_law_bracket) := ⟨rfl, rfl, rfl, by decide +kernel, rfl, by decide +kernel, by decide +kernel⟩
abbrev R_law_bracket : FR := f2 spD spD (fun x y => (x.1.natAbs < 2 ^ 200 ∧ x.2.natAbs < 2 ^ 200) ∧ y.1.natAbs < 2 ^ 200 ∧ y.2.natAbs < 2 ^ 200) fun x y => .int (Num.br x y)
theorem ok_law_bracket {P : Program} {w : World} {K : PySem.W.Frag} {mg : Str → Option Value} {base : Heap} {Y : Cn} (F : DefAt K "_law_bracket" s_law_bracket) (hX : K.In base) (hG : base.Ns mainGlobals mg) (T : Txt K mg Y)  : FnG P w K mg base 1 "_law_bracket" ["_law_one", "_law_other"] R_law_bracket := by
  have nd := sc_law_bracket.nd
  refine fn_mk F hX hG sc_law_bracket (fun as β r β' h => by first | exact FR.len h | (obtain ⟨_, rfl, _⟩ := h; rfl) | (obtain ⟨_, _, rfl, _⟩ := h; rfl) | (obtain ⟨_, _, _, rfl, _⟩ := h; rfl) | (obtain ⟨_, _, _, _, rfl, _⟩ := h; rfl) | (obtain ⟨_, _, _, _, _, rfl, _⟩ := h; rfl)) (fun _ _ _ _ _ _ _ us hl => match us, hl with | [_, _], _ => rfl) (fun f cdv A outer s H E hr => ⟨_, (pss_one (ps_ret (pe_op op_sub (pe_op op_mulW (pe_ix ix_tup (pv 0) pe_int (fun _ _ => rfl)) (pe_ix ix_tup (pv 1) pe_int (fun _ _ => rfl))) (pe_op op_mulW (pe_ix ix_tup (pv 0) pe_int (fun _ _ => rfl)) (pe_ix ix_tup (pv 1) pe_int (fun _ _ => rfl)))))), fun as β r β' hR => ?_⟩)
  obtain ⟨x, y, rfl, ⟨⟨h1, h2⟩, h3, h4⟩, rfl, rfl, rfl⟩ := hR
  dsimp only [cxOf, Cx.nox, Cx.wish]
  exact .ret (st_ret (d_sub (d_mul (d_ixT (d_var rfl) d_int (at0 _ _)) (d_ixT (d_var rfl) d_int (at1 _ _ _)) (wide_mul h1 h4 (by decide) (by decide) (by decide))) (d_mul (d_ixT (d_var rfl) d_int (at1 _ _ _)) (d_ixT (d_var rfl) d_int (at0 _ _)) (wide_mul h2 h3 (by decide) (by decide) (by decide)))))


abbrev s_law_is_zero : Stmt := top 44
theorem sc_law_is_zero : FnScope ["_law_prime", "_law_number"] ["_law_prime", "_law_number"] (defScope s_law_is_zero) := ⟨rfl, rfl, rfl, by decide +kernel, rfl, by decide +kernel, by decide +kernel⟩
abbrev R_law_is_zero : FR := f2 PyData.int PyData.int (fun p _ => 0 ≤ p ∧ p ≤ 19) fun p n => .bool (decide (Num.settled p n = 0))
theorem ok_law_is_zero {P : Program} {w : World} {K : PySem.W.Frag} {mg : Str → Option Value} {base : Heap} {Y : Cn} (F : DefAt K "_law_is_zero" s_law_is_zero) (hX : K.In base) (hG : base.Ns mainGlobals mg) (T : Txt K mg Y)  : FnG P w K mg base 1 "_law_is_zero" ["_law_prime", "_law_number"] R_law_is_zero := by
  have nd := sc_law_is_zero.nd
  refine fn_mk F hX hG sc_law_is_zero (fun as β r β' h => by first | exact FR.len h | (obtain ⟨_, rfl, _⟩ := h; rfl) | (obtain ⟨_, _, rfl, _⟩ := h; rfl) | (obtain ⟨_, _, _, rfl, _⟩ := h; rfl) | (obtain ⟨_, _, _, _, rfl, _⟩ := h; rfl) | (obtain ⟨_, _, _, _, _, rfl, _⟩ := h; rfl)) (fun _ _ _ _ _ _ _ us hl => match us, hl with | [_, _], _ => rfl) (fun f cdv A outer s H E hr => ⟨_, (pss_one (ps_ret (pe_ifExp (pt_cmpR op_eq (pv 0) pe_int (nomark _)) (pe_cmpR op_eq (pv 1) pe_int (nomark _)) (pe_cmpR op_eq (pe_op op_mod (pe_callTy c_int (by rfl) T.z_int bo_int (pa_cons (pv 1) pa_nil)) (pv 0)) pe_int (nomark _))))), fun as β r β' hR => ?_⟩)
  obtain ⟨p, n, rfl, ⟨h0, h19⟩, rfl, rfl, rfl⟩ := hR
  dsimp only [cxOf, Cx.nox, Cx.wish]
  by_cases hp : p = 0
  · refine .ret (st_ret ((d_ifT ((t_test (d_eqI (d_var rfl) d_int)).to (decide_eq_true hp)) (d_eqI (d_var rfl) d_int)).to ?_))
    unfold Num.settled
    rw [if_neg (by simpa using hp)]
  · have hq : 0 < p := by omega
    refine .ret (st_ret (EvB.to (d_ifF (TtB.to (t_test (d_eqI (d_var rfl) d_int)) (decide_eq_false hp)) (d_eqI (d_mod (d_intI (d_var rfl)) (d_var rfl) hq) d_int)) ?_))
    unfold Num.settled
    rw [if_pos hp]

end K34
/-! ## K34d -/
set_option Elab.async false
set_option linter.all false
set_option maxRecDepth 100000
set_option maxHeartbeats 1100000
namespace K34
open PySem L2 TD PySem.Spec PyProof.Rows
variable [TabW]
theorem ix_ofK {X : Cx} {K : PySem.W.Frag} {r : PySem.W.Frag → R2} (h : IxR X (r X.K)) (hK : X.K = K := by rfl) : IxR X (r K) := hK ▸ h
abbrev Sz (k : Nat) (s : Int × Int) : Prop := s.1.natAbs < 2 ^ k ∧ s.2.natAbs < 2 ^ k
abbrev four (a b c d : Int × Int) : Dt := .tuple [spD a, spD b, spD c, spD d]
theorem prod_sz {a b : Nat} {u v : Int} (hu : u.natAbs < 2 ^ a) (hv : v.natAbs < 2 ^ b) : (u * v).natAbs < 2 ^ (a + b) := by
  (rw [Int.natAbs_mul, Nat.pow_add])
  exact Nat.mul_lt_mul'' hu hv
theorem sum_sz {a : Nat} {u v : Int} (hu : u.natAbs < 2 ^ a) (hv : v.natAbs < 2 ^ a) : (u + v).natAbs < 2 ^ (a + 1) ∧ (u - v).natAbs < 2 ^ (a + 1) := by
  have e : (2 : Nat) ^ (a + 1) = 2 * 2 ^ a := by rw [Nat.pow_succ, Nat.mul_comm]
  generalize (2 : Nat) ^ a = m at *
  rw [e]
  omega
theorem up_sz {a b : Nat} {u : Int} (h : u.natAbs < 2 ^ a) (hb : a ≤ b) : u.natAbs < 2 ^ b := Nat.lt_of_lt_of_le h (Nat.pow_le_pow_right (by decide) hb)
theorem br_sz {x y : Int × Int} (hx : Sz 100 x) (hy : Sz 100 y) : (Num.br x y).natAbs < 2 ^ 201 := (sum_sz (prod_sz hx.1 hy.2) (prod_sz hx.2 hy.1)).2
theorem neg_sz {a : Nat} {u : Int} (h : u.natAbs < 2 ^ a) : (0 - u).natAbs < 2 ^ a := by omega
theorem led_sz {t : (Int × Int) × (Int × Int)} {s : Int × Int} (hs : Sz 100 s) (h1 : Sz 10 t.1) (h2 : Sz 10 t.2) : Sz 111 (Num.ledI t s) := by
  have r : ∀ {u : Int × Int}, Sz 10 u → (u.1 * s.2 + u.2 * (0 - s.1)).natAbs < 2 ^ 111 := fun hu => (sum_sz (prod_sz hu.1 hs.2) (prod_sz hu.2 (neg_sz hs.1))).1
  exact ⟨r h2, neg_sz (r h1)⟩


abbrev s_law_spot_led : Stmt := top 40
theorem sc_law_spot_led : FnScope ["_law_prime", "_law_spot", "_law_table", "_law_x", "_law_y", "_law_first", "_law_second", "_law_line"] ["_law_prime", "_law_spot", "_law_table"] (defScope s_law_spot_led) := ⟨rfl, rfl, rfl, by decide +kernel, rfl, by decide +kernel, by decide +kernel⟩
abbrev R_law_spot_led : FR := fun as β r β' => ∃ (p : Int) (s : Int × Int) (t : (Int × Int) × (Int × Int)), as = [.imm (.int p), .imm (spD s), .imm (.tuple [spD t.1, spD t.2])] ∧ (Num.PrimeI p ∧ Sz 100 s ∧ Sz 10 t.1 ∧ Sz 10 t.2) ∧ r = tupI (Num.normalF p [(Num.ledI t s).1, (Num.ledI t s).2]) ∧ β = none ∧ β' = none
theorem ok_law_spot_led {P : Program} {w : World} {K : PySem.W.Frag} {mg : Str → Option Value} {base : Heap} {Y : Cn} (F : DefAt K "_law_spot_led" s_law_spot_led) (hX : K.In base) (hG : base.Ns mainGlobals mg) (T : Txt K mg Y) (G_law_normal : FnG P w K mg base 2 "_law_normal" ["_law_prime", "_law_row"] R_law_normal) : FnG P w K mg base 3 "_law_spot_led" ["_law_prime", "_law_spot", "_law_table"] R_law_spot_led := by
  have nd := sc_law_spot_led.nd
  refine fn_mk F hX hG sc_law_spot_led (fun as β r β' h => by first | exact FR.len h | (obtain ⟨_, rfl, _⟩ := h; rfl) | (obtain ⟨_, _, rfl, _⟩ := h; rfl) | (obtain ⟨_, _, _, rfl, _⟩ := h; rfl) | (obtain ⟨_, _, _, _, rfl, _⟩ := h; rfl) | (obtain ⟨_, _, _, _, _, rfl, _⟩ := h; rfl)) (fun _ _ _ _ _ _ _ us hl => match us, hl with | [_, _, _], _ => rfl) (fun f cdv A outer s H E hr => ⟨_, (pss_cons (ps_asg (pe_tup (pa_cons (pe_ix (ix_ofK (K := K) (r := rIxT) ix_tup) (pv 1) pe_int (fun _ _ => rfl)) (pa_cons (pe_op op_sub pe_int (pe_ix (ix_ofK (K := K) (r := rIxT) ix_tup) (pv 1) pe_int (fun _ _ => rfl))) pa_nil))) (pg_tup rfl (pgs_cons (pg_name (i := 3) nd rfl (Or.inr rfl)) (pgs_cons (pg_name (i := 4) nd rfl (Or.inr rfl)) pgs_nil)))) (pss_cons (ps_asg (pe_lc (own := [("_law_line", 7)]) rfl nd (pi_tup (pv 2)) (blkOk_by (N := ["_law_prime", "_law_spot", "_law_table", "_law_x", "_law_y", "_law_first", "_law_second", "_law_line"]) (sc := defScope s_law_spot_led) (by decide +kernel)) (fun _ _ _ _ _ => by exact (pg_name (i := 7) nd rfl (Or.inl rfl))) (fun _ _ _ _ _ => by exact pts_nil) (fun _ _ _ _ _ => by exact (pe_op op_add (pe_op op_mulW (pe_ix (ix_ofK (K := K) (r := rIxT) ix_tup) (pv 7) pe_int (fun _ _ => rfl)) (pv 3)) (pe_op op_mulW (pe_ix (ix_ofK (K := K) (r := rIxT) ix_tup) (pv 7) pe_int (fun _ _ => rfl)) (pv 4))))) (pg_unl rfl (pgs_cons (pg_name (i := 5) nd rfl (Or.inl rfl)) (pgs_cons (pg_name (i := 6) nd rfl (Or.inl rfl)) pgs_nil)))) (pss_one (ps_ret (pe_fn G_law_normal (hr.mono (by decide)) (pa_cons (pv 0) (pa_cons (pe_tup (pa_cons (pv 6) (pa_cons (pe_op op_sub pe_int (pv 5)) pa_nil))) pa_nil))))))), fun as β r β' hR => ?_⟩)
  obtain ⟨p, s, t, rfl, ⟨hp, hs, h1, h2⟩, rfl, rfl, rfl⟩ := hR
  dsimp only [cxOf, Cx.nox, Cx.wish]
  refine .ret (st_sq (st_unpack (is := [3, 4]) (n := 2) (ds := [.int s.2, .int (0 - s.1)]) (d_tup (a_con (β1 := none) (d_ixT (d_var rfl) d_int (at1 _ _ _)) (a_con (β1 := none) (d_sub d_int (d_ixT (d_var rfl) d_int (at0 _ _))) a_nil)) rfl (by show 2 ≤ 100000; decide)) rfl rfl) ?_)
  show StB K _ [some (.imm (.int p)), some (.imm (spD s)), some (.imm (.tuple [spD t.1, spD t.2])), some (.imm (.int s.2)), some (.imm (.int (0 - s.1))), none, none, none] none _ _
  have row : ∀ (u : Int × Int), Sz 10 u → EvB K (tOp (rI0 fun i j => .int (i + j)) (tOp (rI CMulW fun i j => .int (i * j)) (tOp (rIxT K) (tVar 7) (tC (.int 0))) (tVar 3)) (tOp (rI CMulW fun i j => .int (i * j)) (tOp (rIxT K) (tVar 7) (tC (.int 1))) (tVar 4))) [some (.imm (.int p)), some (.imm (spD s)), some (.imm (.tuple [spD t.1, spD t.2])), some (.imm (.int s.2)), some (.imm (.int (0 - s.1))), none, none, some (.imm (spD u))] none (.int (u.1 * s.2 + u.2 * (0 - s.1))) none := fun u hu => by
    have w1 : CMulW u.1 s.2 := wide_mul (a := 10) (b := 100) hu.1 hs.2 (by decide) (by decide) (by decide)
    have w2 : CMulW u.2 (0 - s.1) := wide_mul (a := 10) (b := 100) hu.2 (by have := hs.1; omega) (by decide) (by decide) (by decide)
    exact d_add (d_mul (d_ixT (d_var rfl) d_int (at0 _ _)) (d_var rfl) w1) (d_mul (d_ixT (d_var rfl) d_int (at1 _ _ _)) (d_var rfl) w2)
  refine st_sq (st_unpackL (is := [5, 6]) (n := 2) (ds := [.int (t.1.1 * s.2 + t.1.2 * (0 - s.1)), .int (t.2.1 * s.2 + t.2.2 * (0 - s.1))]) (d_lcT (d_var rfl) (.yes t_yes0 (row t.1 h1) (.yes t_yes0 (row t.2 h2) (.nil _ _))) (by show 2 ≤ 100000; decide) (wipe_ok (by decide))) rfl rfl) ?_
  have hz := led_sz hs h1 h2
  refine st_ret (d_call0 (a_con (d_var rfl) (a_con (d_tup (ds := [.int (Num.ledI t s).1, .int (Num.ledI t s).2]) (a_con (β1 := none) (d_var rfl) (a_con (β1 := none) (d_sub d_int (d_var rfl)) a_nil)) rfl (by show 2 ≤ 100000; decide)) a_nil)) ⟨p, _, [(Num.ledI t s).1, (Num.ledI t s).2], rfl, ⟨.inr rfl, hp, by show 2 ≤ 140; decide, fun n hn => ?_⟩, rfl, rfl, rfl⟩)
  simp only [List.mem_cons, or_false, List.not_mem_nil] at hn
  rcases hn with h | h <;> rw [h]
  · exact up_sz hz.1 (by decide)
  · exact up_sz hz.2 (by decide)


abbrev s_law_cross_ratio : Stmt := top 43
theorem sc_law_cross_ratio : FnScope ["_law_prime", "_law_spots_here", "_law_first", "_law_second", "_law_third", "_law_last", "_law_one"] ["_law_prime", "_law_spots_here"] (defScope s_law_cross_ratio) := ⟨rfl, rfl, rfl, by decide +kernel, rfl, by decide +kernel, by decide +kernel⟩
abbrev R_law_cross_ratio : FR := fun as β r β' => ∃ (p : Int) (a b c d : Int × Int), as = [.imm (.int p), .imm (four a b c d)] ∧ (Num.PrimeI p ∧ Sz 100 a ∧ Sz 100 b ∧ Sz 100 c ∧ Sz 100 d) ∧ r = tupI (Num.crF p a b c d) ∧ β = none ∧ β' = none
theorem ok_law_cross_ratio {P : Program} {w : World} {K : PySem.W.Frag} {mg : Str → Option Value} {base : Heap} {Y : Cn} (F : DefAt K "_law_cross_ratio" s_law_cross_ratio) (hX : K.In base) (hG : base.Ns mainGlobals mg) (T : Txt K mg Y) (G_law_normal : FnG P w K mg base 2 "_law_normal" ["_law_prime", "_law_row"] R_law_normal) (G_law_bracket : FnG P w K mg base 1 "_law_bracket" ["_law_one", "_law_other"] R_law_bracket) : FnG P w K mg base 3 "_law_cross_ratio" ["_law_prime", "_law_spots_here"] R_law_cross_ratio := by
  have nd := sc_law_cross_ratio.nd
  refine fn_mk F hX hG sc_law_cross_ratio (fun as β r β' h => by first | exact FR.len h | (obtain ⟨_, rfl, _⟩ := h; rfl) | (obtain ⟨_, _, rfl, _⟩ := h; rfl) | (obtain ⟨_, _, _, rfl, _⟩ := h; rfl) | (obtain ⟨_, _, _, _, rfl, _⟩ := h; rfl) | (obtain ⟨_, _, _, _, _, rfl, _⟩ := h; rfl)) (fun _ _ _ _ _ _ _ us hl => match us, hl with | [_, _], _ => rfl) (fun f cdv A outer s H E hr => ⟨_, (pss_cons (ps_asg (pv 1) (pg_tup rfl (pgs_cons (pg_name (i := 2) nd rfl (Or.inl rfl)) (pgs_cons (pg_name (i := 3) nd rfl (Or.inl rfl)) (pgs_cons (pg_name (i := 4) nd rfl (Or.inl rfl)) (pgs_cons (pg_name (i := 5) nd rfl (Or.inl rfl)) pgs_nil)))))) (pss_cons (ps_set (i := 6) nd rfl (Or.inl rfl) (pe_op op_mulW (pe_fn G_law_bracket (hr.mono (by decide)) (pa_cons (pv 2) (pa_cons (pv 4) pa_nil))) (pe_fn G_law_bracket (hr.mono (by decide)) (pa_cons (pv 3) (pa_cons (pv 5) pa_nil))))) (pss_one (ps_ret (pe_fn G_law_normal (hr.mono (by decide)) (pa_cons (pv 0) (pa_cons (pe_tup (pa_cons (pv 6) (pa_cons (pe_op op_mulW (pe_fn G_law_bracket (hr.mono (by decide)) (pa_cons (pv 2) (pa_cons (pv 5) pa_nil))) (pe_fn G_law_bracket (hr.mono (by decide)) (pa_cons (pv 3) (pa_cons (pv 4) pa_nil)))) pa_nil))) pa_nil))))))), fun as β r β' hR => ?_⟩)
  obtain ⟨p, a, b, c, d, rfl, ⟨hp, ha, hb, hc, hd⟩, rfl, rfl, rfl⟩ := hR
  dsimp only [cxOf, Cx.nox, Cx.wish]
  have up : ∀ {s : Int × Int}, Sz 100 s → s.1.natAbs < 2 ^ 200 ∧ s.2.natAbs < 2 ^ 200 := fun h => ⟨up_sz h.1 (by decide), up_sz h.2 (by decide)⟩
  refine .ret (st_sq (st_unpack (is := [2, 3, 4, 5]) (n := 4) (ds := [spD a, spD b, spD c, spD d]) (d_var rfl) rfl rfl) ?_)
  show StB K _ [some (.imm (.int p)), some (.imm (four a b c d)), some (.imm (spD a)), some (.imm (spD b)), some (.imm (spD c)), some (.imm (spD d)), none] none _ _
  refine st_sq (st_asg (d := .int (Num.crI a b c d).1) (d_mul (c_f2 (a := spD) (a' := spD) (x := a) (y := c) (g := fun x y => .int (Num.br x y)) (d_var rfl) (d_var rfl) ⟨up ha, up hc⟩) (c_f2 (a := spD) (a' := spD) (x := b) (y := d) (g := fun x y => .int (Num.br x y)) (d_var rfl) (d_var rfl) ⟨up hb, up hd⟩) (wide_mul (br_sz ha hc) (br_sz hb hd) (by decide) (by decide) (by decide)))) ?_
  show StB K _ [some (.imm (.int p)), some (.imm (four a b c d)), some (.imm (spD a)), some (.imm (spD b)), some (.imm (spD c)), some (.imm (spD d)), some (.imm (.int (Num.crI a b c d).1))] none _ _
  refine st_ret (d_call0 (a_con (d_var rfl) (a_con (d_tup (ds := [.int (Num.crI a b c d).1, .int (Num.crI a b c d).2]) (a_con (β1 := none) (d_var rfl) (a_con (β1 := none) (d_mul (c_f2 (a := spD) (a' := spD) (x := a) (y := d) (g := fun x y => .int (Num.br x y)) (d_var rfl) (d_var rfl) ⟨up ha, up hd⟩) (c_f2 (a := spD) (a' := spD) (x := b) (y := c) (g := fun x y => .int (Num.br x y)) (d_var rfl) (d_var rfl) ⟨up hb, up hc⟩) (wide_mul (br_sz ha hd) (br_sz hb hc) (by decide) (by decide) (by decide))) a_nil)) rfl (by show 2 ≤ 100000; decide)) a_nil)) ⟨p, _, [(Num.crI a b c d).1, (Num.crI a b c d).2], rfl, ⟨.inr rfl, hp, by show 2 ≤ 140; decide, fun n hn => ?_⟩, rfl, rfl, rfl⟩)
  simp only [List.mem_cons, or_false, List.not_mem_nil] at hn
  rcases hn with h | h <;> rw [h]
  · exact up_sz (prod_sz (br_sz ha hc) (br_sz hb hd)) (by decide)
  · exact up_sz (prod_sz (br_sz ha hd) (br_sz hb hc)) (by decide)

end K34
/-! ## NumZ -/
set_option Elab.async false
set_option linter.all false
set_option maxRecDepth 100000
/-! Draws that are repeated until one fits. Plain Lean. -/
namespace Num
open PySem
def loopF {α : Type} (step : List Int → Option α × List Int) (z : α) : Nat → List Int → α × List Int
  | 0, ns => (z, ns)
  | k + 1, ns => match (step ns).1 with
    | some r => (r, (step ns).2)
    | none => loopF step z k (step ns).2
theorem loop_bag {α : Type} {step : List Int → Option α × List Int} {z : α} (hs : ∀ {ns : List Int}, (∃ n, BagI n ns) → ∃ n, BagI n (step ns).2) : ∀ (k : Nat) {ns : List Int}, (∃ n, BagI n ns) → ∃ n, BagI n (loopF step z k ns).2
  | 0, _, h => h
  | k + 1, ns, h => by
    unfold loopF
    cases (step ns).1 with
    | some r => exact hs h
    | none => exact loop_bag hs k (hs h)
theorem loop_all {α : Type} {step : List Int → Option α × List Int} {z : α} {P : α → Prop} (hz : P z) (hs : ∀ ns r, (step ns).1 = some r → P r) : ∀ (k : Nat) (ns : List Int), P (loopF step z k ns).1
  | 0, _ => hz
  | k + 1, ns => by
    unfold loopF
    cases h : (step ns).1 with
    | some r => exact hs ns r h
    | none => exact loop_all hz hs k _
/-- an entry of a drawn table -/
def loP (p : Int) : Int := if p = 0 then -2 else 0
def hiP (p : Int) : Int := if p = 0 then 2 else p - 1
def cellF (p : Int) (ns : List Int) : Int × List Int := (loP p + (grabF (hiP p - loP p + 1) ns).1, (grabF (hiP p - loP p + 1) ns).2)
abbrev TabI := (Int × Int) × (Int × Int)
def tabOf : List Int → TabI
  | [a, b, c, d] => ((a, b), (c, d))
  | _ => ((0, 1), (1, 0))
def tabStep (p : Int) (ns : List Int) : Option TabI × List Int :=
  (if settled p (detI (tabOf (drawsF (cellF p) 4 ns).1)) = 0 then none else some (tabOf (drawsF (cellF p) 4 ns).1), (drawsF (cellF p) 4 ns).2)
def tableF (p : Int) (ns : List Int) : TabI × List Int := loopF (tabStep p) ((0, 1), (1, 0)) 8 ns
theorem span_pos {p : Int} (hp : PrimeI p) : 1 ≤ hiP p - loP p + 1 ∧ hiP p - loP p + 1 ≤ 19 ∧ -2 ≤ loP p ∧ loP p ≤ 0 ∧ hiP p ≤ 18 := by
  unfold hiP loP
  by_cases h0 : p = 0
  · rw [if_pos h0, if_pos h0]; omega
  · have := prime_pos hp h0
    rw [if_neg h0, if_neg h0]; omega
theorem cell_bag {p n : Int} (hp : PrimeI p) {ns : List Int} (h : BagI n ns) : BagI (n + 1) (cellF p ns).2 := grab_bag (by have := span_pos hp; omega) h
theorem cell_rng {p : Int} (hp : PrimeI p) (ns : List Int) : -2 ≤ (cellF p ns).1 ∧ (cellF p ns).1 ≤ 18 := by
  have h := span_pos hp
  have g := grab_rng (t := hiP p - loP p + 1) (by omega) ns
  unfold cellF
  dsimp only
  omega
theorem four_of {l : List Int} (h : l.length = 4) : ∃ a b c d, l = [a, b, c, d] := by
  match l, h with
  | [a, b, c, d], _ => exact ⟨a, b, c, d, rfl⟩
theorem four_is {f : List Int → Int × List Int} (ns : List Int) : ∃ a b c d, (drawsF f 4 ns).1 = [a, b, c, d] := four_of (draws_len f 4 ns)
theorem tab_bag {p : Int} (hp : PrimeI p) {ns : List Int} (h : ∃ n, BagI n ns) : ∃ n, BagI n (tabStep p ns).2 := by
  obtain ⟨n, hn⟩ := h
  show ∃ m, BagI m (drawsF (cellF p) 4 ns).2
  exact ⟨n + (4 : Nat), draws_bag (f := cellF p) (fun h => cell_bag hp h) 4 hn⟩
theorem loop_map {α γ : Type} (f : α → γ) (step : List Int → Option α × List Int) (z : α) : ∀ (k : Nat) (ns : List Int), loopF (fun ms => ((step ms).1.map f, (step ms).2)) (f z) k ns = (f (loopF step z k ns).1, (loopF step z k ns).2)
  | 0, _ => rfl
  | k + 1, ns => by
    unfold loopF
    dsimp only
    cases h : (step ns).1 with
    | some r => rfl
    | none => exact loop_map f step z k (step ns).2
theorem table_bag {p : Int} (hp : PrimeI p) {ns : List Int} (h : ∃ n, BagI n ns) : ∃ n, BagI n (tableF p ns).2 := loop_bag (fun h => tab_bag hp h) 8 h
/-- what is drawn has small entries, and can be undone -/
theorem table_ok {p : Int} (hp : PrimeI p) (ns : List Int) : UnitI p (detI (tableF p ns).1) ∧ (tableF p ns).1.1.1.natAbs ≤ 18 ∧ (tableF p ns).1.1.2.natAbs ≤ 18 ∧ (tableF p ns).1.2.1.natAbs ≤ 18 ∧ (tableF p ns).1.2.2.natAbs ≤ 18 := by
  refine loop_all (P := fun t => UnitI p (detI t) ∧ t.1.1.natAbs ≤ 18 ∧ t.1.2.natAbs ≤ 18 ∧ t.2.1.natAbs ≤ 18 ∧ t.2.2.natAbs ≤ 18) ⟨?_, by decide, by decide, by decide, by decide⟩ (fun ms r h => ?_) 8 ns
  · show settled p (0 * 0 - 1 * 1) ≠ 0
    unfold settled
    by_cases h0 : p = 0
    · rw [if_neg (by simpa using h0)]; decide
    · have := prime_pos hp h0
      rw [if_pos h0]
      intro z
      have := Int.emod_add_mul_ediv (0 * 0 - 1 * 1) p
      rw [z] at this
      have h1 : p * ((0 * 0 - 1 * 1) / p) = -1 := by omega
      have h2 : p ∣ -1 := ⟨_, h1.symm⟩
      have h3 := Int.le_of_dvd (by decide) (Int.dvd_neg.mp h2 : p ∣ 1)
      omega
  · unfold tabStep at h
    dsimp only at h
    split at h
    · cases h
    · rename_i hne
      cases h
      refine ⟨hne, ?_⟩
      obtain ⟨a, b, c, d, e⟩ := four_is (f := cellF p) ms
      have all := draws_all (P := fun n => -2 ≤ n ∧ n ≤ 18) (fun ks => cell_rng hp ks) 4 ms
      rw [e] at all ⊢
      have ha := all a (by simp)
      have hb := all b (by simp)
      have hc := all c (by simp)
      have hd := all d (by simp)
      show a.natAbs ≤ 18 ∧ b.natAbs ≤ 18 ∧ c.natAbs ≤ 18 ∧ d.natAbs ≤ 18
      omega
end Num
/-! ## K34e -/
set_option Elab.async false
set_option linter.all false
set_option maxRecDepth 100000
set_option maxHeartbeats 1100000
namespace K34
open PySem L2 TD PySem.Spec PyProof.Rows
variable [TabW]
abbrev tbD (t : Num.TabI) : Dt := .tuple [spD t.1, spD t.2]
section
variable {K : PySem.W.Frag}
/-- a for over a range whose turns draw until one returns -/
theorem st_forDraw {j : Nat} {ta : TE} {tu tw : TS} {ρ : Rho} {k : Nat} {ns : List Int} {z : Dt} {step : List Int → Option Dt × List Int} (F : Rho → Prop)
    (hl : EvB K ta ρ (some ns) (.int (k : Int)) (some ns)) (hk : (k : Int) < 2 ^ 62) (h0 : F ρ) (hb : ∃ n, Num.BagI n ns)
    (hs : ∀ (d : Dt) (ρ : Rho) (ms : List Int), F ρ → (∃ n, Num.BagI n ms) → (∃ n, Num.BagI n (step ms).2) ∧ (∀ r, (step ms).1 = some r → StB K tu (ρ.set j (some (Slot.imm d))) (some ms) (.ret r) (some (step ms).2)) ∧ ((step ms).1 = none → ∃ ρ1, StB K tu (ρ.set j (some (Slot.imm d))) (some ms) (.nx ρ1) (some (step ms).2) ∧ F ρ1))
    (ht : ∀ ρ' ms, F ρ' → StB K tw ρ' (some ms) (.ret z) (some ms)) :
    StB K (tSeq (tFor (iRng1 (tCons ta tNil)) (gName j) tu) tw) ρ (some ns) (.ret (Num.loopF step z k ns).1) (some (Num.loopF step z k ns).2) := by
  have go : ∀ (es : List Dt) (ρ : Rho) (ms : List Int), F ρ → (∃ n, Num.BagI n ms) → ForR K j tu es ρ (some ms) (.ret (Num.loopF step z es.length ms).1) (some (Num.loopF step z es.length ms).2) ∨ (∃ ρ', ForR K j tu es ρ (some ms) (.nx ρ') (some (Num.loopF step z es.length ms).2) ∧ F ρ' ∧ (Num.loopF step z es.length ms).1 = z) := by
    intro es
    induction es with
    | nil => exact fun ρ ms h _ => .inr ⟨ρ, .nil _ _, h, rfl⟩
    | cons d es ih =>
      intro ρ ms h hb
      obtain ⟨b1, b2, b3⟩ := hs d ρ ms h hb
      show ForR K j tu (d :: es) ρ (some ms) (.ret (Num.loopF step z (es.length + 1) ms).1) (some (Num.loopF step z (es.length + 1) ms).2) ∨ (∃ ρ', ForR K j tu (d :: es) ρ (some ms) (.nx ρ') (some (Num.loopF step z (es.length + 1) ms).2) ∧ F ρ' ∧ (Num.loopF step z (es.length + 1) ms).1 = z)
      unfold Num.loopF
      cases e : (step ms).1 with
      | some r => exact .inl (.ret (b2 r e))
      | none =>
        obtain ⟨ρ1, c1, c2⟩ := b3 e
        rcases ih ρ1 (step ms).2 c2 b1 with h1 | ⟨ρ', h1, h2, h3⟩
        · exact .inl (.nx c1 h1)
        · exact .inr ⟨ρ', .nx c1 h1, h2, h3⟩
  have g := go (rng 0 k) ρ ns h0 hb
  rw [rng_length] at g
  have hb2 : -(2 ^ 62) ≤ (k : Int) ∧ (k : Int) < 2 ^ 62 := ⟨by omega, hk⟩
  rcases g with h1 | ⟨ρ', h1, h2, h3⟩
  · exact st_seqR (st_forR1 hl hb2 (by rw [Int.toNat_natCast]; exact h1))
  · rw [h3]
    exact st_seq (st_forR1 hl hb2 (by rw [Int.toNat_natCast]; exact h1)) (ht _ _ h2)
end


abbrev s_law_small_spots : Stmt := top 37
theorem sc_law_small_spots : FnScope ["_law_prime", "_law_other", "_law_found"] ["_law_prime"] (defScope s_law_small_spots) := ⟨rfl, rfl, rfl, by decide +kernel, rfl, by decide +kernel, by decide +kernel⟩
abbrev R_law_small_spots : FR := f1 PyData.int (fun p => 0 ≤ p ∧ p ≤ 19) fun p => .list ((Num.smallSpots p).map spD)
theorem ok_law_small_spots {P : Program} {w : World} {K : PySem.W.Frag} {mg : Str → Option Value} {base : Heap} {Y : Cn} (F : DefAt K "_law_small_spots" s_law_small_spots) (hX : K.In base) (hG : base.Ns mainGlobals mg) (T : Txt K mg Y)  : FnG P w K mg base 1 "_law_small_spots" ["_law_prime"] R_law_small_spots := by
  have nd := sc_law_small_spots.nd
  refine fn_mk F hX hG sc_law_small_spots (fun as β r β' h => by first | exact FR.len h | (obtain ⟨_, rfl, _⟩ := h; rfl) | (obtain ⟨_, _, rfl, _⟩ := h; rfl) | (obtain ⟨_, _, _, rfl, _⟩ := h; rfl) | (obtain ⟨_, _, _, _, rfl, _⟩ := h; rfl) | (obtain ⟨_, _, _, _, _, rfl, _⟩ := h; rfl)) (fun _ _ _ _ _ _ _ us hl => match us, hl with | [_], _ => rfl) (fun f cdv A outer s H E hr => ⟨_, (pss_cons (ps_if (pt_cmpR op_gt (pv 0) pe_int (nomark _)) (pss_one (ps_ret (pe_op op_cat (pe_lst (pa_cons (pe_tup (pa_cons pe_int (pa_cons pe_int pa_nil))) pa_nil)) (pe_lc (own := [("_law_other", 1)]) rfl nd (pi_range1 (by rfl) T.z_range (pa_cons (pv 0) pa_nil)) (blkOk_by (N := ["_law_prime", "_law_other", "_law_found"]) (sc := defScope s_law_small_spots) (by decide +kernel)) (fun _ _ _ _ _ => by exact (pg_name (i := 1) nd rfl (Or.inl rfl))) (fun _ _ _ _ _ => by exact pts_nil) (fun _ _ _ _ _ => by exact (pe_tup (pa_cons pe_int (pa_cons (pv 1) pa_nil)))))))) pss_nil) (pss_cons (ps_set (i := 2) nd rfl (Or.inl rfl) (pe_op op_cat (pe_op op_cat (pe_lst (pa_cons (pe_tup (pa_cons pe_int (pa_cons pe_int pa_nil))) pa_nil)) (pe_lc (own := [("_law_other", 1)]) rfl nd (pi_range2 (by rfl) T.z_range (pa_cons (pe_un un_neg pe_int) (pa_cons pe_int pa_nil))) (blkOk_by (N := ["_law_prime", "_law_other", "_law_found"]) (sc := defScope s_law_small_spots) (by decide +kernel)) (fun _ _ _ _ _ => by exact (pg_name (i := 1) nd rfl (Or.inl rfl))) (fun _ _ _ _ _ => by exact pts_nil) (fun _ _ _ _ _ => by exact (pe_tup (pa_cons pe_int (pa_cons (pv 1) pa_nil)))))) (pe_lc (own := [("_law_other", 1)]) rfl nd (pi_tup (pe_tup (pa_cons (pe_un un_neg pe_int) (pa_cons (pe_un un_neg pe_int) (pa_cons pe_int (pa_cons pe_int pa_nil)))))) (blkOk_by (N := ["_law_prime", "_law_other", "_law_found"]) (sc := defScope s_law_small_spots) (by decide +kernel)) (fun _ _ _ _ _ => by exact (pg_name (i := 1) nd rfl (Or.inl rfl))) (fun _ _ _ _ _ => by exact pts_nil) (fun _ _ _ _ _ => by exact (pe_tup (pa_cons pe_int (pa_cons (pv 1) pa_nil))))))) (pss_one (ps_ret (pe_op op_cat (pv 2) (pe_lc (own := [("_law_other", 1)]) rfl nd (pi_tup (pe_tup (pa_cons (pe_un un_neg pe_int) (pa_cons (pe_un un_neg pe_int) (pa_cons pe_int (pa_cons pe_int pa_nil)))))) (blkOk_by (N := ["_law_prime", "_law_other", "_law_found"]) (sc := defScope s_law_small_spots) (by decide +kernel)) (fun _ _ _ _ _ => by exact (pg_name (i := 1) nd rfl (Or.inl rfl))) (fun _ _ _ _ _ => by exact pts_nil) (fun _ _ _ _ _ => by exact (pe_tup (pa_cons pe_int (pa_cons (pv 1) pa_nil)))))))))), fun as β r β' hR => ?_⟩)
  obtain ⟨p, rfl, ⟨h0, h19⟩, rfl, rfl, rfl⟩ := hR
  dsimp only [cxOf, Cx.nox, Cx.wish]
  by_cases hp : p > 0
  · refine .ret (st_seqR (st_ifT ((t_test (d_gt (d_var rfl) d_int)).to (decide_eq_true hp)) (st_ret (EvB.to (d_cat (ds := [spD (0, 1)]) (es := (Num.upto 0 p.toNat).map fun n => spD (1, n)) (d_lst (a_con (d_tup (ds := [.int 0, .int 1]) (a_con (β1 := none) d_int (a_con (β1 := none) d_int a_nil)) rfl (by decide)) a_nil) rfl (by show 1 ≤ 100000; decide)) (d_lcR1 (d_var rfl) (by omega) ?_ (by rw [List.length_map, Num.upto_len]; omega) (wipe_ok (by decide))) (by rw [List.length_map, Num.upto_len]; show 1 + p.toNat ≤ 100000; omega)) ?_))))
    · rw [rng_upto]
      exact lc_ints' (fun n => spD (1, n)) fun n _ => d_tup (ds := [.int 1, .int n]) (a_con (β1 := none) d_int (a_con (β1 := none) (d_var rfl) a_nil)) rfl (by show 2 ≤ 100000; decide)
    · unfold Num.smallSpots
      rw [if_pos hp, List.map_cons, List.map_map]
      rfl
  · have pr : ∀ {ρ : Rho} {te : TE} {n : Int}, EvB K te ρ none (.int n) none → ∀ m : Int, EvB K (tTup (tCons (tC (.int m)) (tCons te tNil))) ρ none (spD (m, n)) none := fun h m => d_tup (ds := [.int m, .int _]) (a_con (β1 := none) d_int (a_con (β1 := none) h a_nil)) rfl (by show 2 ≤ 100000; decide)
    refine .ret (st_sq (st_ifF ((t_test (d_gt (d_var rfl) d_int)).to (decide_eq_false hp)) st_next) (st_sq (st_asg (d := .list (([spD (0, 1)] ++ (Num.upto (-4) 9).map fun n => spD (1, n)) ++ ([-3, -1, 1, 3] : List Int).map fun n => spD (2, n))) (d_cat (d_cat (d_lst (ds := [spD (0, 1)]) (a_con (pr d_int 0) a_nil) rfl (by show 1 ≤ 100000; decide)) (d_lcR2 (lo := -4) (i := 5) (rs := (Num.upto (-4) 9).map fun n => spD (1, n)) (d_neg d_int) d_int (by decide) ?_ (by rw [List.length_map, Num.upto_len]; decide) (wipe_ok (by decide))) (by rw [List.length_map, Num.upto_len]; show 1 + 9 ≤ 100000; decide)) (d_lcT (ds := ([-3, -1, 1, 3] : List Int).map PyData.int) (rs := ([-3, -1, 1, 3] : List Int).map fun n => spD (2, n)) (d_tup (a_con (β1 := none) (d_neg d_int) (a_con (β1 := none) (d_neg d_int) (a_con (β1 := none) d_int (a_con (β1 := none) d_int a_nil)))) rfl (by show 4 ≤ 100000; decide)) (lc_ints' (fun n => spD (2, n)) fun n _ => pr (d_var rfl) 2) (by show 4 ≤ 100000; decide) (wipe_ok (by decide))) (by rw [List.length_append, List.length_map, Num.upto_len, List.length_map]; show 1 + 9 + 4 ≤ 100000; decide))) ?_))
    · rw [rng_upto]
      exact lc_ints' (fun n => spD (1, n)) fun n _ => pr (d_var rfl) 1
    · refine st_ret (EvB.to (d_cat (d_var rfl) (d_lcT (ds := ([-2, -1, 1, 2] : List Int).map PyData.int) (rs := ([-2, -1, 1, 2] : List Int).map fun n => spD (3, n)) (d_tup (a_con (β1 := none) (d_neg d_int) (a_con (β1 := none) (d_neg d_int) (a_con (β1 := none) d_int (a_con (β1 := none) d_int a_nil)))) rfl (by show 4 ≤ 100000; decide)) (lc_ints' (fun n => spD (3, n)) fun n _ => pr (d_var rfl) 3) (by show 4 ≤ 100000; decide) (wipe_ok (by decide))) (by rw [List.length_append, List.length_append, List.length_map, Num.upto_len, List.length_map, List.length_map]; show 1 + 9 + 4 + 4 ≤ 100000; decide)) ?_)
      unfold Num.smallSpots
      rw [if_neg hp]
      rfl


abbrev s_law_table_two : Stmt := top 39
theorem sc_law_table_two : FnScope ["_law_bag_here", "_law_prime", "_law_low_here", "_law_high", "_law_turn", "_law_numbers", "_law_entry", "_law_number"] ["_law_bag_here", "_law_prime"] (defScope s_law_table_two) := ⟨rfl, rfl, rfl, by decide +kernel, rfl, by decide +kernel, by decide +kernel⟩
abbrev R_law_table_two : FR := fD (fun p : Int => [.imm (.int p)]) Num.PrimeI fun p ns => (tbD (Num.tableF p ns).1, (Num.tableF p ns).2)
theorem ok_law_table_two {P : Program} {w : World} {K : PySem.W.Frag} {mg : Str → Option Value} {base : Heap} {Y : Cn} (F : DefAt K "_law_table_two" s_law_table_two) (hX : K.In base) (hG : base.Ns mainGlobals mg) (T : Txt K mg Y) (G_law_grab : FnG P w K mg base 1 "_law_grab" ["_law_bag_here", "_law_total"] R_law_grab) : FnG P w K mg base 2 "_law_table_two" ["_law_bag_here", "_law_prime"] R_law_table_two := by
  have nd := sc_law_table_two.nd
  refine fn_mk F hX hG sc_law_table_two (fun as β r β' h => by first | exact FR.len h | (obtain ⟨_, rfl, _⟩ := h; rfl) | (obtain ⟨_, _, rfl, _⟩ := h; rfl) | (obtain ⟨_, _, _, rfl, _⟩ := h; rfl) | (obtain ⟨_, _, _, _, rfl, _⟩ := h; rfl) | (obtain ⟨_, _, _, _, _, rfl, _⟩ := h; rfl)) (fun _ _ _ _ _ _ _ us hl => match us, hl with | [_, _], _ => rfl) (fun f cdv A outer s H E hr => ⟨_, (pss_cons (ps_asg (pe_ifExp (pt_cmpR op_eq (pv 1) pe_int (nomark _)) (pe_tup (pa_cons (pe_un un_neg pe_int) (pa_cons pe_int pa_nil))) (pe_tup (pa_cons pe_int (pa_cons (pe_op op_sub (pv 1) pe_int) pa_nil)))) (pg_tup rfl (pgs_cons (pg_name (i := 2) nd rfl (Or.inr rfl)) (pgs_cons (pg_name (i := 3) nd rfl (Or.inr rfl)) pgs_nil)))) (pss_cons (ps_for PassesOwn.never rfl (pi_range1 (by rfl) T.z_range (pa_cons pe_int pa_nil)) (pg_name (i := 4) nd rfl (Or.inl rfl)) (pss_cons (ps_setLc (i := 5) (own := [("_law_entry", 6)]) rfl nd rfl rfl (sw_true rfl rfl rfl (by decide +kernel)) (pi_range1 (by rfl) T.z_range (pa_cons pe_int pa_nil)) (blkOk_by (N := ["_law_bag_here", "_law_prime", "_law_low_here", "_law_high", "_law_turn", "_law_numbers", "_law_entry", "_law_number"]) (sc := defScope s_law_table_two) (by decide +kernel)) (fun _ _ _ _ _ => by exact (pg_name (i := 6) nd rfl (Or.inl rfl))) (fun _ _ _ _ _ => by exact pts_nil) (fun _ _ _ _ _ => by exact (pe_op op_add (pv 2) (pe_fn G_law_grab (hr.mono (by decide)) (pa_cons (pv 0) (pa_cons (pe_op op_add (pe_op op_sub (pv 3) (pv 2)) pe_int) pa_nil)))))) (pss_cons (ps_set (i := 7) nd rfl (Or.inl rfl) (pe_callTy c_int (by rfl) T.z_int bo_int (pa_cons (pe_op op_sub (pe_op op_mulW (pe_ix (ix_ofK (K := K) (r := rIxL) ix_list) (pv 5) pe_int (fun _ _ => rfl)) (pe_ix (ix_ofK (K := K) (r := rIxL) ix_list) (pv 5) pe_int (fun _ _ => rfl))) (pe_op op_mulW (pe_ix (ix_ofK (K := K) (r := rIxL) ix_list) (pv 5) pe_int (fun _ _ => rfl)) (pe_ix (ix_ofK (K := K) (r := rIxL) ix_list) (pv 5) pe_int (fun _ _ => rfl)))) pa_nil))) (pss_one (ps_if (pt_cmpR op_ne (pe_ifExp (pt_cmpR op_eq (pv 1) pe_int (nomark _)) (pv 7) (pe_op op_mod (pv 7) (pv 1))) pe_int (nomark _)) (pss_one (ps_ret (pe_tup (pa_cons (pe_tup (pa_cons (pe_ix (ix_ofK (K := K) (r := rIxL) ix_list) (pv 5) pe_int (fun _ _ => rfl)) (pa_cons (pe_ix (ix_ofK (K := K) (r := rIxL) ix_list) (pv 5) pe_int (fun _ _ => rfl)) pa_nil))) (pa_cons (pe_tup (pa_cons (pe_ix (ix_ofK (K := K) (r := rIxL) ix_list) (pv 5) pe_int (fun _ _ => rfl)) (pa_cons (pe_ix (ix_ofK (K := K) (r := rIxL) ix_list) (pv 5) pe_int (fun _ _ => rfl)) pa_nil))) pa_nil))))) pss_nil))))) (pss_one (ps_ret (pe_tup (pa_cons (pe_tup (pa_cons pe_int (pa_cons pe_int pa_nil))) (pa_cons (pe_tup (pa_cons pe_int (pa_cons pe_int pa_nil))) pa_nil))))))), fun as β r β' hR => ?_⟩)
  obtain ⟨p, n, ns, rfl, hp, hb, rfl, rfl, rfl⟩ := hR
  dsimp only [cxOf, Cx.nox, Cx.wish] at *
  have hs := hp.small
  have sp := Num.span_pos hp
  have hlh : EvB K (tIf (tTest (tOp rEq (tVar 1) (tC (.int 0)))) (tTup (tCons (tUn (rU fun i => .int (-i)) (tC (.int 2))) (tCons (tC (.int 2)) tNil))) (tTup (tCons (tC (.int 0)) (tCons (tOp (rI0 fun i j => .int (i - j)) (tVar 1) (tC (.int 1))) tNil)))) [some .bag, some (.imm (.int p)), none, none, none, none, none, none] (some ns) (.tuple [.int (Num.loP p), .int (Num.hiP p)]) (some ns) := by
    unfold Num.loP Num.hiP
    by_cases h0 : p = 0
    · rw [if_pos h0, if_pos h0]
      exact d_ifT ((t_test (d_eqI (d_var rfl) d_int)).to (decide_eq_true h0)) (d_tup (ds := [.int (-2), .int 2]) (a_con (d_neg d_int) (a_con d_int a_nil)) rfl (by decide))
    · rw [if_neg h0, if_neg h0]
      exact d_ifF ((t_test (d_eqI (d_var rfl) d_int)).to (decide_eq_false h0)) (d_tup (ds := [.int 0, .int (p - 1)]) (a_con d_int (a_con (d_sub (d_var rfl) d_int) a_nil)) rfl (by show 2 ≤ 100000; decide))
  refine .ret (st_seq (st_unpack (is := [2, 3]) (n := 2) (ds := [.int (Num.loP p), .int (Num.hiP p)]) hlh rfl rfl) ?_)
  show StB K _ [some .bag, some (.imm (.int p)), some (.imm (.int (Num.loP p))), some (.imm (.int (Num.hiP p))), none, none, none, none] (some ns) _ _
  have e : ((tbD (Num.tableF p ns).1, (Num.tableF p ns).2) : Dt × List Int) = Num.loopF (fun ms => ((Num.tabStep p ms).1.map tbD, (Num.tabStep p ms).2)) (tbD ((0, 1), (1, 0))) 8 ns := (Num.loop_map tbD (Num.tabStep p) ((0, 1), (1, 0)) 8 ns).symm
  have e1 : tbD (Num.tableF p ns).1 = (Num.loopF (fun ms => ((Num.tabStep p ms).1.map tbD, (Num.tabStep p ms).2)) (tbD ((0, 1), (1, 0))) 8 ns).1 := congrArg Prod.fst e
  have e2 : (Num.tableF p ns).2 = (Num.loopF (fun ms => ((Num.tabStep p ms).1.map tbD, (Num.tabStep p ms).2)) (tbD ((0, 1), (1, 0))) 8 ns).2 := congrArg Prod.snd e
  show StB K _ _ _ (.ret (tbD (Num.tableF p ns).1)) (some (Num.tableF p ns).2)
  rw [e1, e2]
  have pr : ∀ {ρ : Rho} {β : Bag} {ta tb : TE} {m n : Int}, EvB K ta ρ β (.int m) β → EvB K tb ρ β (.int n) β → EvB K (tTup (tCons ta (tCons tb tNil))) ρ β (spD (m, n)) β := fun h h' => d_tup (ds := [.int _, .int _]) (a_con h (a_con h' a_nil)) rfl (by show 2 ≤ 100000; decide)
  have prt : ∀ {ρ : Rho} {β : Bag} {ta tb : TE} {m n : Int × Int}, EvB K ta ρ β (spD m) β → EvB K tb ρ β (spD n) β → EvB K (tTup (tCons ta (tCons tb tNil))) ρ β (tbD (m, n)) β := fun h h' => d_tup (ds := [spD _, spD _]) (a_con h (a_con h' a_nil)) rfl (by show 2 ≤ 100000; decide)
  refine st_forDraw (k := 8) (fun ρ => ∃ a4 a5 a6 a7, ρ = [some .bag, some (.imm (.int p)), some (.imm (.int (Num.loP p))), some (.imm (.int (Num.hiP p))), a4, a5, a6, a7]) d_int (by decide) ⟨_, _, _, _, rfl⟩ ⟨n, hb⟩ ?_ fun ρ' ms ⟨_, _, _, _, e⟩ => st_ret (prt (pr d_int d_int) (pr d_int d_int))
  rintro d ρ ms ⟨a4, a5, a6, a7, rfl⟩ ⟨m, hm⟩
  refine ⟨Num.tab_bag hp ⟨m, hm⟩, ?_⟩
  show (∀ r, ((Num.tabStep p ms).1.map tbD) = some r → StB K _ [some .bag, some (.imm (.int p)), some (.imm (.int (Num.loP p))), some (.imm (.int (Num.hiP p))), some (.imm d), a5, a6, a7] (some ms) (.ret r) (some (Num.tabStep p ms).2)) ∧ (((Num.tabStep p ms).1.map tbD) = none → ∃ ρ1, StB K _ [some .bag, some (.imm (.int p)), some (.imm (.int (Num.loP p))), some (.imm (.int (Num.hiP p))), some (.imm d), a5, a6, a7] (some ms) (.nx ρ1) (some (Num.tabStep p ms).2) ∧ _)
  have dr := LcR.draws (K := K) (ρ := wipeR [some .bag, some (.imm (.int p)), some (.imm (.int (Num.loP p))), some (.imm (.int (Num.hiP p))), some (.imm d), a5, a6, a7] [6]) (j := 6) (te := tOp (rI0 fun i j => .int (i + j)) (tVar 2) (tCall (spR K R_law_grab) [] E0 (tCons (tVar 0) (tCons (tOp (rI0 fun i j => .int (i + j)) (tOp (rI0 fun i j => .int (i - j)) (tVar 3) (tVar 2)) (tC (.int 1))) tNil)))) (Num.cellF p)
    (fun d {n ns} hb => d_add (d_var rfl) (c_fD (x := Num.hiP p - Num.loP p + 1) (a_bg rfl (a_con (d_add (d_sub (d_var rfl) (d_var rfl)) d_int) a_nil)) ⟨by omega, Nat.lt_of_le_of_lt (m := 1000) (by omega) (by decide)⟩ hb)) (fun hb => Num.cell_bag hp hb) (rng 0 4) hm
  rw [rng_length] at dr
  obtain ⟨a, b, c, e', hl⟩ := Num.four_is (f := Num.cellF p) ms
  have all := Num.draws_all (P := fun n => -2 ≤ n ∧ n ≤ 18) (fun ks => Num.cell_rng hp ks) 4 ms
  have hst : Num.tabStep p ms = (if Num.settled p (Num.detI ((a, b), (c, e'))) = 0 then none else some ((a, b), (c, e')), (Num.drawsF (Num.cellF p) 4 ms).2) := by
    unfold Num.tabStep
    rw [hl]
    rfl
  rw [hl] at dr all
  rw [hst]
  have wa : ∀ {x y : Int}, x ∈ [a, b, c, e'] → y ∈ [a, b, c, e'] → CMulW x y := fun {x y} hx hy => by
    have h1 := all x hx
    have h2 := all y hy
    exact wide_mul (a := 10) (b := 10) (by omega) (by omega) (by decide) (by decide) (by decide)
  have at2 : atI ([a, b, c, e'].map PyData.int) 2 = some (.int c) := atI_nat (j := 2) rfl
  have at3 : atI ([a, b, c, e'].map PyData.int) 3 = some (.int e') := atI_nat (j := 3) rfl
  have num : ∀ {ρ : Rho} {β : Bag}, ρ[5]? = some (some (Slot.imm (lstI [a, b, c, e']))) → EvB K (tCB rInt1 (tCons (tOp (rI0 fun i j => .int (i - j)) (tOp (rI CMulW fun i j => .int (i * j)) (tOp (rIxL K) (tVar 5) (tC (.int 0))) (tOp (rIxL K) (tVar 5) (tC (.int 3)))) (tOp (rI CMulW fun i j => .int (i * j)) (tOp (rIxL K) (tVar 5) (tC (.int 1))) (tOp (rIxL K) (tVar 5) (tC (.int 2))))) tNil)) ρ β (.int (Num.detI ((a, b), (c, e')))) β := fun h =>
    d_intI (d_sub (d_mul (d_ixL (d_var h) d_int (at0 _ _)) (d_ixL (d_var h) d_int at3) (wa (by simp) (by simp))) (d_mul (d_ixL (d_var h) d_int (at1 _ _ _)) (d_ixL (d_var h) d_int at2) (wa (by simp) (by simp))))
  have test : ∀ {ρ : Rho} {β : Bag} {D : Int}, ρ[1]? = some (some (Slot.imm (.int p))) → ρ[7]? = some (some (Slot.imm (.int D))) → TtB K (tTest (tOp rNe (tIf (tTest (tOp rEq (tVar 1) (tC (.int 0)))) (tVar 7) (tOp (rI (fun _ j => 0 < j) fun i j => .int (i % j)) (tVar 7) (tVar 1))) (tC (.int 0)))) ρ β (!decide (Num.settled p D = 0)) β := fun {ρ β D} h1 h7 => by
    refine t_test (d_neI ?_ d_int)
    unfold Num.settled
    by_cases h0 : p = 0
    · rw [if_neg (by simpa using h0)]
      exact d_ifT ((t_test (d_eqI (d_var h1) d_int)).to (decide_eq_true h0)) (d_var h7)
    · have hp0 : 0 < p := by omega
      rw [if_pos h0]
      exact d_ifF ((t_test (d_eqI (d_var h1) d_int)).to (decide_eq_false h0)) (d_mod (d_var h7) (d_var h1) hp0)
  refine ⟨fun r hr => st_seq (st_asg (d := lstI [a, b, c, e']) (d_lcR1 d_int (by decide) dr (by show 4 ≤ 100000; decide) (wipe_ok (by decide)))) (st_sq (st_asg (num rfl)) ?_), fun hn => ⟨_, st_seq (st_asg (d := lstI [a, b, c, e']) (d_lcR1 d_int (by decide) dr (by show 4 ≤ 100000; decide) (wipe_ok (by decide)))) (st_sq (st_asg (num rfl)) (st_ifF ?h2 st_next)), ⟨_, _, _, _, rfl⟩⟩⟩
  · dsimp only at hr
    by_cases hz : Num.settled p (Num.detI ((a, b), (c, e'))) = 0
    · rw [if_pos hz] at hr
      cases hr
    · rw [if_neg hz] at hr
      cases hr
      exact st_ifT ((test rfl rfl).to (by rw [decide_eq_false hz]; rfl)) (st_ret (prt (pr (d_ixL (d_var rfl) d_int (at0 _ _)) (d_ixL (d_var rfl) d_int (at1 _ _ _))) (pr (d_ixL (d_var rfl) d_int at2) (d_ixL (d_var rfl) d_int at3))))
  · dsimp only at hn
    have hz : Num.settled p (Num.detI ((a, b), (c, e'))) = 0 := Classical.byContradiction fun z => by
      rw [if_neg z] at hn
      cases hn
    exact (test rfl rfl).to (by rw [decide_eq_true hz]; rfl)

end K34
/-! ## NumW -/
set_option Elab.async false
set_option linter.all false
set_option maxRecDepth 100000
/-! Things in a drawn order, over any kind of thing. -/
namespace Num
open PySem
def mixP {α : Type} (z : α) : Nat → List α → List Int → List α × List Int
  | 0, _, ns => ([], ns)
  | k + 1, xs, ns => (xs.getD (grabF xs.length ns).1.toNat z :: (mixP z k (xs.eraseIdx (grabF xs.length ns).1.toNat) (grabF xs.length ns).2).1, (mixP z k (xs.eraseIdx (grabF xs.length ns).1.toNat) (grabF xs.length ns).2).2)
theorem grab_in {α : Type} {xs : List α} (h : 0 < xs.length) (ns : List Int) : (grabF (xs.length : Int) ns).1.toNat < xs.length := by
  have := grab_rng (t := (xs.length : Int)) (by omega) ns
  omega
theorem erase_map {α γ : Type} (g : α → γ) : ∀ (xs : List α) (i : Nat), (xs.map g).eraseIdx i = (xs.eraseIdx i).map g
  | [], _ => rfl
  | _ :: _, 0 => rfl
  | x :: xs, i + 1 => congrArg (g x :: ·) (erase_map g xs i)
theorem mixF_map {α : Type} (z : α) (g : α → Dt) : ∀ (k : Nat) (xs : List α) (ns : List Int), k ≤ xs.length → TD.mixF grabF k (xs.map g) ns = ((mixP z k xs ns).1.map g, (mixP z k xs ns).2)
  | 0, _, _, _ => rfl
  | k + 1, xs, ns, hk => by
    have hi := grab_in (xs := xs) (by omega) ns
    unfold TD.mixF mixP
    rw [List.length_map, erase_map]
    have ih := mixF_map z g k (xs.eraseIdx (grabF (xs.length : Int) ns).1.toNat) (grabF (xs.length : Int) ns).2 (by rw [List.length_eraseIdx_of_lt hi]; omega)
    rw [ih]
    dsimp only
    rw [List.map_cons, List.getD_eq_getElem?_getD, List.getElem?_map, List.getElem?_eq_getElem hi, List.getD_eq_getElem?_getD, List.getElem?_eq_getElem hi]
    rfl
theorem back_perm {α : Type} : ∀ {xs : List α} {i : Nat} (h : i < xs.length), (xs[i] :: xs.eraseIdx i).Perm xs
  | [], _, h => (absurd h (Nat.not_lt_zero _))
  | _ :: _, 0, _ => List.Perm.refl _
  | x :: xs, i + 1, h => (List.Perm.swap x (xs[i]'(Nat.lt_of_succ_lt_succ h)) (xs.eraseIdx i)).trans ((back_perm (xs := xs) (i := i) (Nat.lt_of_succ_lt_succ h)).cons x)
theorem mixP_perm {α : Type} (z : α) : ∀ (k : Nat) (xs : List α) (ns : List Int), k = xs.length → (mixP z k xs ns).1.Perm xs
  | 0, xs, _, h => by
    have : xs = [] := List.length_eq_zero_iff.mp h.symm
    subst this
    exact .nil
  | k + 1, xs, ns, h => by
    have hi := grab_in (xs := xs) (by omega) ns
    have ih := mixP_perm z k (xs.eraseIdx (grabF (xs.length : Int) ns).1.toNat) (grabF (xs.length : Int) ns).2 (by rw [List.length_eraseIdx_of_lt hi]; omega)
    unfold mixP
    dsimp only
    (rw [List.getD_eq_getElem?_getD, List.getElem?_eq_getElem hi])
    exact (ih.cons _).trans (back_perm hi)
end Num
/-! ## K34f -/
set_option Elab.async false
set_option linter.all false
set_option maxRecDepth 100000
set_option maxHeartbeats 1100000
namespace K34
open PySem L2 TD PySem.Spec PyProof.Rows
variable [TabW]

abbrev s_law_met : Stmt := top 41
theorem sc_law_met : FnScope ["_law_call", "e"] ["_law_call"] (defScope s_law_met) := ⟨rfl, rfl, rfl, by decide +kernel, rfl, by decide +kernel, by decide +kernel⟩
abbrev Cn.cls (Y : Cn) : Clauses := [(Y.cN, .fld "number " "given"), (Y.cO, .lit "operation"), (Y.cM, .lit "marks"), (Y.cQ, .lit "pair"), (Y.cT, .fld "many " "most")]
theorem gives {X : Cx} {K : PySem.W.Frag} {mg : Str → Option Value} {Y : Cn} {k : Nat} (hK : X.K = K) (hM : X.mg = mg) (hr : RoomG k X.A) (T : Txt K mg Y) (g : Addr) (cdg : Value) (q : Str) :
    LamX.GivesTo X ["_law_call", "e"] "_law_met" (defScope s_law_met) g cdg (defBody s_law_met) "_law_call" q (TTell K Y.cls "fine") := by
  subst hK hM
  have un : ∀ (s : Shared), (X.A.deeper (envOfC "_law_met" (defScope s_law_met) s.heap.objs.size g cdg)).units + 64 < cLine := fun s => by
    have := hr.un
    show X.A.units + 3 + 64 < cLine
    omega
  exact tells rfl (fun s H => cls_fld (newId := "") sc_law_met.nd rfl rfl ⟨rfl, by decide, .inl T.o_InvalidNumber.gC⟩ T.o_InvalidNumber.xf T.o_InvalidNumber.noN hr.gd (un s) rfl T.z_repr rfl (by decide) (by decide) rfl (cls_lit ⟨rfl, by decide, .inl T.b_InvalidOperation.gC⟩ (cls_lit ⟨rfl, by decide, .inl T.b_InvalidMarks.gC⟩ (cls_lit ⟨rfl, by decide, .inl T.b_InvalidPair.gC⟩ (cls_fld (newId := "") sc_law_met.nd rfl rfl ⟨rfl, by decide, .inl T.o_TooMany.gC⟩ T.o_TooMany.xf T.o_TooMany.noN hr.gd (un s) rfl T.z_repr rfl (by decide) (by decide) rfl cls_nil)))))

end K34
/-! ## NumV -/
set_option Elab.async false
set_option linter.all false
set_option maxRecDepth 100000
set_option maxHeartbeats 1000100
/-! Four good spots, drawn or led. Plain Lean. -/
namespace Num
open PySem
def goodP (p : Int) (s : Int × Int) : Bool := spotI p [s.1, s.2]
/-- a spot, but for its greatness -/
structure GoodN (p : Int) (s : Int × Int) : Prop where
  rng : ∀ m ∈ [s.1, s.2], (-big < m ∧ m < big) ∧ (p = 0 ∨ (0 ≤ m ∧ m < p))
  ex : ∃ n ∈ [s.1, s.2], n ≠ 0
  norm : made p [s.1, s.2] = [s.1, s.2]
def SmallP (s : Int × Int) : Prop := s.1.natAbs ≤ 10000000 ∧ s.2.natAbs ≤ 10000000
theorem good_iff {p : Int} {s : Int × Int} : goodP p s = true ↔ GoodN p s ∧ SmallP s := by
  unfold goodP spotI allFit smallK
  simp only [List.map_cons, List.map_nil, List.length_cons, List.length_nil, List.all_cons, List.all_nil, List.any_cons, List.any_nil, Bool.and_true, Bool.or_false, Bool.and_eq_true, decide_eq_true_eq, fits, Bool.or_eq_true]
  constructor
  · rintro ⟨⟨_, ⟨⟨h1, h2⟩, h3⟩, ⟨h4, h5⟩, h6⟩, h7, h8, h9⟩
    refine ⟨⟨fun m hm => ?_, ?_, h8⟩, h9⟩
    · simp only [List.mem_cons, List.not_mem_nil, or_false] at hm
      rcases hm with h | h <;> rw [h]
      · exact ⟨⟨h1, h2⟩, h3⟩
      · exact ⟨⟨h4, h5⟩, h6⟩
    · rcases h7 with h | h
      · exact ⟨_, List.mem_cons_self .., by simpa using h⟩
      · exact ⟨_, List.mem_cons_of_mem _ (List.mem_cons_self ..), by simpa using h⟩
  · rintro ⟨⟨h1, ⟨n, hn, h2⟩, h3⟩, h4⟩
    have a := h1 s.1 (by simp)
    have b := h1 s.2 (by simp)
    refine ⟨⟨rfl, ⟨⟨a.1.1, a.1.2⟩, a.2⟩, ⟨b.1.1, b.1.2⟩, b.2⟩, ?_, h3, h4⟩
    simp only [List.mem_cons, List.not_mem_nil, or_false] at hn
    rcases hn with h | h
    · left; rw [h] at h2; simpa using h2
    · right; rw [h] at h2; simpa using h2
section
variable {p : Int} {s : Int × Int}
theorem GoodN.made (hp : PrimeI p) (h : GoodN p s) : MadeOk p [s.1, s.2] := madeOk_tup hp (by show 2 ≤ 140; decide) h.rng h.ex
theorem GoodN.normal (hp : PrimeI p) (h : GoodN p s) : normalF p [s.1, s.2] = [s.1, s.2] := (normal_same (h.made hp)).trans h.norm
theorem GoodN.unit (hp : PrimeI p) (h : GoodN p s) : UnitI p s.1 ∨ UnitI p s.2 := by
  have one : ∀ n ∈ [s.1, s.2], n ≠ 0 → UnitI p n := fun n hn h0 => by
    unfold UnitI settled
    by_cases q : p = 0
    · rw [if_neg (by simpa using q)]; exact h0
    · have := (h.rng n hn).2.resolve_left q
      rw [if_pos q, Int.emod_eq_of_lt this.1 this.2]
      exact h0
  obtain ⟨n, hn, h0⟩ := h.ex
  simp only [List.mem_cons, List.not_mem_nil, or_false] at hn
  rcases hn with e | e
  · exact .inl (one _ (by simp) (e ▸ h0))
  · exact .inr (one _ (by simp) (e ▸ h0))
theorem SmallP.sz (h : SmallP s) {k : Nat} (hk : 24 ≤ k) : s.1.natAbs < 2 ^ k ∧ s.2.natAbs < 2 ^ k := by
  have e : (2 : Nat) ^ 24 ≤ 2 ^ k := Nat.pow_le_pow_right (by decide) hk
  have e2 : (2 : Nat) ^ 24 = 16777216 := by decide
  unfold SmallP at h
  omega
end
theorem isSpot_is {p : Int} {d : Dt} (h : isSpot p d = true) : ∃ s : Int × Int, d = .tuple ([s.1, s.2].map PyData.int) ∧ goodP p s = true := by
  cases d with
  | tuple ds =>
    have h0 := h
    unfold isSpot at h
    dsimp only at h
    obtain ⟨hf, _⟩ := Bool.and_eq_true_iff.mp h
    obtain ⟨ns, rfl, hl, _⟩ := allFit_ints hf
    match ns, hl with
    | [a, b], _ => exact ⟨(a, b), rfl, by rw [isSpot_ints] at h0; exact h0⟩
  | _ => cases h
theorem isSpot_good {p : Int} {s : Int × Int} : isSpot p (.tuple ([s.1, s.2].map PyData.int)) = goodP p s := isSpot_ints p _
/-! ### four of them -/
structure FourI (p : Int) (a b c d : Int × Int) : Prop where
  pr : PrimeI p
  ga : GoodN p a
  gb : GoodN p b
  gc : GoodN p c
  gd : GoodN p d
  nd : [a, b, c, d].Nodup
theorem FourI.un {p : Int} {a b c d : Int × Int} (h : FourI p a b c d) : UnitI p (br a b) ∧ UnitI p (br a c) ∧ UnitI p (br a d) ∧ UnitI p (br b c) ∧ UnitI p (br b d) ∧ UnitI p (br c d) := by
  have nd := h.nd
  simp only [List.nodup_cons, List.mem_cons, List.not_mem_nil, or_false, not_or, not_false_eq_true, List.nodup_nil, and_true] at nd
  obtain ⟨⟨h1, h2, h3⟩, ⟨h4, h5⟩, h6⟩ := nd
  have u : ∀ {x y : Int × Int}, GoodN p x → GoodN p y → x ≠ y → UnitI p (br x y) := fun gx gy n => br_unit h.pr (gx.normal h.pr) (gy.normal h.pr) (gx.unit h.pr) (gy.unit h.pr) n
  exact ⟨u h.ga h.gb h1, u h.ga h.gc h2, u h.ga h.gd h3, u h.gb h.gc h4, u h.gb h.gd h5, u h.gc h.gd h6⟩
theorem FourI.cr {p : Int} {a b c d : Int × Int} (h : FourI p a b c d) : UnitI p (crI a b c d).1 ∧ UnitI p (crI a b c d).2 := by
  obtain ⟨_, h2, h3, h4, h5, _⟩ := h.un
  exact ⟨UnitI.mul h.pr h2 h5, UnitI.mul h.pr h3 h4⟩
theorem not_zero2 {p x y : Int} (h : UnitI p x) : allZero ([x, y].map (settled p)) = false := by
  unfold allZero
  rw [List.all_eq_false]
  exact ⟨settled p x, by simp, fun z => h (of_decide_eq_true z)⟩
theorem FourI.made {p : Int} {a b c d : Int × Int} (h : FourI p a b c d) : crF p a b c d = Num.made p ([(crI a b c d).1, (crI a b c d).2].map (settled p)) := by
  unfold crF normalF
  rw [not_zero2 h.cr.1]
  rfl
theorem four_crF (p : Int) (a b c d : Int × Int) : ∃ u v, crF p a b c d = [u, v] := by
  have h := normalF_len p [(crI a b c d).1, (crI a b c d).2]
  unfold crF
  generalize normalF p _ = t at *
  match t, h with
  | [u, v], _ => exact ⟨u, v, rfl⟩
theorem FourI.swap {p : Int} {a b c d : Int × Int} (h : FourI p a b c d) : FourI p a b d c ∧ FourI p c d a b ∧ FourI p a c b d := by
  have nd := h.nd
  simp only [List.nodup_cons, List.mem_cons, List.not_mem_nil, or_false, not_or, not_false_eq_true, List.nodup_nil, and_true] at nd
  obtain ⟨⟨h1, h2, h3⟩, ⟨h4, h5⟩, h6⟩ := nd
  refine ⟨⟨h.pr, h.ga, h.gb, h.gd, h.gc, ?_⟩, ⟨h.pr, h.gc, h.gd, h.ga, h.gb, ?_⟩, ⟨h.pr, h.ga, h.gc, h.gb, h.gd, ?_⟩⟩ <;>
    simp only [List.nodup_cons, List.mem_cons, List.not_mem_nil, or_false, not_or, not_false_eq_true, List.nodup_nil, and_true]
  · exact ⟨⟨h1, h3, h2⟩, ⟨h5, h4⟩, Ne.symm h6⟩
  · exact ⟨⟨h6, Ne.symm h2, Ne.symm h4⟩, ⟨Ne.symm h3, Ne.symm h5⟩, h1⟩
  · exact ⟨⟨h2, h1, h3⟩, ⟨Ne.symm h4, h6⟩, h5⟩
/-- brackets of small spots -/
theorem br_abs {x y : Int × Int} {k : Nat} (hx : x.1.natAbs ≤ k ∧ x.2.natAbs ≤ k) (hy : y.1.natAbs ≤ k ∧ y.2.natAbs ≤ k) : (br x y).natAbs ≤ 2 * (k * k) := by
  have h1 : (x.1 * y.2).natAbs ≤ k * k := by rw [Int.natAbs_mul]; exact Nat.mul_le_mul hx.1 hy.2
  have h2 : (x.2 * y.1).natAbs ≤ k * k := by rw [Int.natAbs_mul]; exact Nat.mul_le_mul hx.2 hy.1
  unfold br
  omega
theorem crI_abs {a b c d : Int × Int} (ha : SmallP a) (hb : SmallP b) (hc : SmallP c) (hd : SmallP d) : (crI a b c d).1.natAbs ≤ 10 ^ 30 ∧ (crI a b c d).2.natAbs ≤ 10 ^ 30 := by
  have m : ∀ {u v : Int}, u.natAbs ≤ 200000000000000 → v.natAbs ≤ 200000000000000 → (u * v).natAbs ≤ 10 ^ 30 := fun {u v} hu hv => by
    rw [Int.natAbs_mul]
    exact Nat.le_trans (Nat.mul_le_mul hu hv) (by decide)
  exact ⟨m (br_abs ha hc) (br_abs hb hd), m (br_abs ha hd) (br_abs hb hc)⟩
theorem crF_abs {p : Int} {a b c d : Int × Int} (hp : PrimeI p) (ha : SmallP a) (hb : SmallP b) (hc : SmallP c) (hd : SmallP d) : ∀ n ∈ crF p a b c d, n.natAbs ≤ 10 ^ 30 := by
  have h := crI_abs ha hb hc hd
  refine normalF_sz hp (by show 2 ≤ 140; decide) (by decide) (by decide) fun n hn => ?_
  simp only [List.mem_cons, List.not_mem_nil, or_false] at hn
  rcases hn with e | e <;> rw [e]
  · exact h.1
  · exact h.2
theorem small1000 {n : Int} (h : n.natAbs ≤ 10 ^ 30) : n.natAbs < 2 ^ 1000 := Nat.lt_of_le_of_lt h (by decide +kernel)
/-- the three other cross ratios -/
theorem cr_due {p : Int} {a b c d : Int × Int} (hp : PrimeI p) (ha : SmallP a) (hb : SmallP b) (hc : SmallP c) (hd : SmallP d) {u v : Int} (e : crF p a b c d = [u, v]) :
    crF p a b d c = normalF p [v, u] ∧ crF p c d a b = [u, v] ∧ crF p a c b d = normalF p [u - v, 0 - v] := by
  have h := crI_abs ha hb hc hd
  have l := fun A B C D => normal_lin hp (small1000 h.1) (small1000 h.2) e A B C D
  refine ⟨?_, ?_, ?_⟩
  · have q := l 0 1 1 0
    simp only [Int.zero_mul, Int.one_mul, Int.zero_add, Int.add_zero] at q
    unfold crF
    rw [crI_last]
    exact q
  · unfold crF at e ⊢
    rw [crI_pairs]
    exact e
  · have q := l 1 (-1) 0 (-1)
    simp only [Int.zero_mul, Int.one_mul, Int.zero_add, Int.neg_mul, ← Int.sub_eq_add_neg] at q
    unfold crF
    rw [crI_mid]
    exact q
/-! ### led by a table -/
def ledF (p : Int) (t : TabI) (s : Int × Int) : Int × Int := ((normalF p [(ledI t s).1, (ledI t s).2]).getD 0 0, (normalF p [(ledI t s).1, (ledI t s).2]).getD 1 0)
theorem led_is (p : Int) (t : TabI) (s : Int × Int) : normalF p [(ledI t s).1, (ledI t s).2] = [(ledF p t s).1, (ledF p t s).2] := by
  have h := normalF_len p [(ledI t s).1, (ledI t s).2]
  unfold ledF
  generalize normalF p _ = r at *
  match r, h with
  | [u, v], _ => rfl
def TabOk (p : Int) (t : TabI) : Prop := UnitI p (detI t) ∧ t.1.1.natAbs ≤ 18 ∧ t.1.2.natAbs ≤ 18 ∧ t.2.1.natAbs ≤ 18 ∧ t.2.2.natAbs ≤ 18
theorem led_abs {p : Int} {t : TabI} (ht : TabOk p t) {s : Int × Int} {k : Nat} (hs : s.1.natAbs ≤ k ∧ s.2.natAbs ≤ k) : (ledI t s).1.natAbs ≤ 36 * k ∧ (ledI t s).2.natAbs ≤ 36 * k := by
  obtain ⟨_, h1, h2, h3, h4⟩ := ht
  have m : ∀ {a b : Int}, a.natAbs ≤ 18 → b.natAbs ≤ 18 → (a * s.2 + b * (0 - s.1)).natAbs ≤ 36 * k := fun {a b} ha hb => by
    have q1 : (a * s.2).natAbs ≤ 18 * k := by rw [Int.natAbs_mul]; exact Nat.mul_le_mul ha hs.2
    have q2 : (b * (0 - s.1)).natAbs ≤ 18 * k := by rw [Int.natAbs_mul]; exact Nat.mul_le_mul hb (by omega)
    omega
  have a1 := m h3 h4
  have a2 := m h1 h2
  unfold ledI
  dsimp only
  omega
theorem led_unit {p : Int} (hp : PrimeI p) {t : TabI} (ht : UnitI p (detI t)) {s : Int × Int} (hs : UnitI p s.1 ∨ UnitI p s.2) : UnitI p (ledI t s).1 ∨ UnitI p (ledI t s).2 := by
  by_cases h1 : UnitI p (ledI t s).1
  · exact .inl h1
  · by_cases h2 : UnitI p (ledI t s).2
    · exact .inr h2
    · exfalso
      have z1 : Cong p (ledI t s).1 0 := cong_zero.mp (Classical.byContradiction fun h => h1 h)
      have z2 : Cong p (ledI t s).2 0 := cong_zero.mp (Classical.byContradiction fun h => h2 h)
      have zb : ∀ y : Int × Int, settled p (detI t * br s y) = 0 := fun y => by
        refine cong_zero.mpr ?_
        rw [← br_led]
        have := (z1.mul (Cong.refl p (ledI t y).2)).sub (z2.mul (Cong.refl p (ledI t y).1))
        rw [Int.zero_mul, Int.zero_mul] at this
        exact this
      rcases hs with h | h
      · have := settled_mul hp ht (zb (0, 1))
        unfold br at this
        simp only [Int.mul_one, Int.mul_zero, Int.sub_zero] at this
        exact h this
      · have := settled_mul hp ht (zb (-1, 0))
        unfold br at this
        rw [show s.1 * (0 : Int) - s.2 * (-1 : Int) = s.2 by omega] at this
        exact h this
theorem led_good {p : Int} (hp : PrimeI p) {t : TabI} (ht : TabOk p t) {s : Int × Int} (hs : UnitI p s.1 ∨ UnitI p s.2) {k : Nat} (hk : s.1.natAbs ≤ k ∧ s.2.natAbs ≤ k) (hk1 : 1 ≤ k) (hk2 : k ≤ 10 ^ 30) : GoodN p (ledF p t s) ∧ ((ledF p t s).1.natAbs ≤ 36 * k ∧ (ledF p t s).2.natAbs ≤ 36 * k) := by
  have ha := led_abs ht hk
  have hz : allZero ([(ledI t s).1, (ledI t s).2].map (settled p)) = false := by
    rcases led_unit hp ht.1 hs with h | h
    · exact not_zero2 h
    · unfold allZero
      rw [List.all_eq_false]
      exact ⟨settled p (ledI t s).2, by simp, fun z => h (of_decide_eq_true z)⟩
  have big1 : (36 : Nat) * k < 2 ^ 1000 := Nat.lt_of_le_of_lt (Nat.mul_le_mul_left 36 hk2) (by decide +kernel)
  have hM := told_ok (ns := [(ledI t s).1, (ledI t s).2]) hp (by show 2 ≤ 140; decide) (fun n hn => by
    simp only [List.mem_cons, List.not_mem_nil, or_false] at hn
    rcases hn with h | h <;> rw [h]
    · exact Nat.lt_of_le_of_lt ha.1 big1
    · exact Nat.lt_of_le_of_lt ha.2 big1) hz
  have e : [(ledF p t s).1, (ledF p t s).2] = Num.made p ([(ledI t s).1, (ledI t s).2].map (settled p)) := by
    rw [← led_is]
    unfold normalF
    rw [hz]
    rfl
  have sz : ∀ n ∈ [(ledF p t s).1, (ledF p t s).2], n.natAbs ≤ 36 * k := by
    rw [← led_is]
    refine normalF_sz hp (by show 2 ≤ 140; decide) (by omega) big1 fun n hn => ?_
    simp only [List.mem_cons, List.not_mem_nil, or_false] at hn
    rcases hn with h | h <;> rw [h]
    · exact ha.1
    · exact ha.2
  refine ⟨⟨fun m hm => ⟨?_, ?_⟩, ?_, ?_⟩, sz _ (by simp), sz _ (by simp)⟩
  · have h1 := sz m hm
    have h2 : 36 * k ≤ 36 * 10 ^ 30 := Nat.mul_le_mul_left 36 hk2
    unfold big
    omega
  · by_cases h0 : p = 0
    · exact .inl h0
    · rw [e] at hm
      exact .inr (made_lt hp h0 m hm)
  · rw [e]
    exact made_ex hM
  · rw [e]
    exact made_made hM
theorem unit_self {p : Int} (x : Int × Int) : br x x = 0 := by unfold br; rw [Int.mul_comm]; omega
/-- unlike spots are led to unlike ones -/
theorem led_ne {p : Int} (hp : PrimeI p) {t : TabI} (ht : TabOk p t) {x y : Int × Int} (hx : SmallP x) (hy : SmallP y) (hu : UnitI p (br x y)) : ledF p t x ≠ ledF p t y := by
  intro z
  have sz : ∀ {s : Int × Int}, SmallP s → (ledI t s).1.natAbs < 2 ^ 1000 ∧ (ledI t s).2.natAbs < 2 ^ 1000 := fun {s} hs => by
    have := led_abs ht (k := 10000000) hs
    have e : (36 * 10000000 : Nat) < 2 ^ 1000 := by decide +kernel
    exact ⟨Nat.lt_of_le_of_lt this.1 e, Nat.lt_of_le_of_lt this.2 e⟩
  obtain ⟨u, v, k, e1, k1, c1, c2⟩ := pair_unit hp (sz hx).1 (sz hx).2
  obtain ⟨u', v', l, e2, l1, d1, d2⟩ := pair_unit hp (sz hy).1 (sz hy).2
  rw [led_is] at e1 e2
  rw [z] at e1
  rw [e1] at e2
  obtain ⟨eu, ev⟩ := List.cons.inj e2
  have ev := (List.cons.inj ev).1
  subst eu ev
  have b := br_cong (x := ledI t x) (y := ledI t y) (u := (u, v)) (v := (u, v)) c1 c2 d1 d2
  rw [br_led, unit_self (p := p) (u, v), Int.mul_zero] at b
  exact UnitI.mul hp ht.1 hu (cong_zero.mpr b)
/-- four led spots -/
theorem led_four {p : Int} {t : TabI} (ht : TabOk p t) {a b c d : Int × Int} (h : FourI p a b c d) (ha : SmallP a) (hb : SmallP b) (hc : SmallP c) (hd : SmallP d) : FourI p (ledF p t a) (ledF p t b) (ledF p t c) (ledF p t d) ∧ crF p (ledF p t a) (ledF p t b) (ledF p t c) (ledF p t d) = crF p a b c d := by
  have hp := h.pr
  obtain ⟨u1, u2, u3, u4, u5, u6⟩ := h.un
  have g : ∀ {s : Int × Int}, GoodN p s → SmallP s → GoodN p (ledF p t s) := fun hs hk => (led_good hp ht (hs.unit hp) (k := 10000000) hk (by decide) (by decide)).1
  have sz : ∀ {s : Int × Int}, SmallP s → (ledI t s).1.natAbs < 2 ^ 1000 ∧ (ledI t s).2.natAbs < 2 ^ 1000 := fun {s} hs => by
    have := led_abs ht (k := 10000000) hs
    have e : (36 * 10000000 : Nat) < 2 ^ 1000 := by decide +kernel
    exact ⟨Nat.lt_of_le_of_lt this.1 e, Nat.lt_of_le_of_lt this.2 e⟩
  have pu : ∀ {s : Int × Int}, SmallP s → ∃ k, UnitI p k ∧ Cong p (ledI t s).1 (k * (ledF p t s).1) ∧ Cong p (ledI t s).2 (k * (ledF p t s).2) := fun {s} hs => by
    obtain ⟨u, v, k, e1, k1, c1, c2⟩ := pair_unit hp (sz hs).1 (sz hs).2
    rw [led_is] at e1
    obtain ⟨eu, ev⟩ := List.cons.inj e1
    have ev := (List.cons.inj ev).1
    exact ⟨k, k1, by rw [eu]; exact c1, by rw [ev]; exact c2⟩
  refine ⟨⟨hp, g h.ga ha, g h.gb hb, g h.gc hc, g h.gd hd, ?_⟩, ?_⟩
  · simp only [List.nodup_cons, List.mem_cons, List.not_mem_nil, or_false, not_or, not_false_eq_true, List.nodup_nil, and_true]
    exact ⟨⟨led_ne hp ht ha hb u1, led_ne hp ht ha hc u2, led_ne hp ht ha hd u3⟩, ⟨led_ne hp ht hb hc u4, led_ne hp ht hb hd u5⟩, led_ne hp ht hc hd u6⟩
  · obtain ⟨ka, qa, ra⟩ := pu ha
    obtain ⟨kb, qb, rb⟩ := pu hb
    obtain ⟨kc, qc, rc⟩ := pu hc
    obtain ⟨kd, qd, rd⟩ := pu hd
    exact crF_led hp ht.1 qa qb qc qd ra rb rc rd
end Num
/-! ## TdC -/
set_option Elab.async false
set_option linter.all false
set_option maxRecDepth 100000
set_option maxHeartbeats 3200000
/-! len(set(t)) of a tuple of tuples of ints. -/
namespace TDC
open PySem L2 PySem.Spec PyProof.Rows
abbrev newO (w : World) : Obj := { cls := .type "set", dict := none, data := .set #[] 0 (.fresh 0 0 (!w.params.followText "set-order")) }
section
variable {P : Program}
variable {w : World} {A : Around} {E : Value → Shared → Prop} {s : Shared}
theorem fresh_at {h : Heap} {b : Addr} (hb : h.objs.size ≤ b) : h.get? b = none := by
  cases q : h.get? b with
  | none => rfl
  | some o => (exact absurd (Nat.lt_of_lt_of_le (Heap.lt_size q) hb) (Nat.lt_irrefl _))
/-- set(v), given what __new__ leaves and what __init__ does with it -/
theorem set_of {v : Value} {Q : Value → Shared → Prop} {Z : Shared → Prop}
    (init : codeAny (model P w) A.in1 (.builtin "set.__init__" ⟨[.ref s.heap.objs.size, v], []⟩) (wants (fun r t => r = .none ∧ Z t) E) { s with heap := s.heap.push (newO w) })
    (q : ∀ t, Z t → Q (.ref s.heap.objs.size) t) : wpAny (model P w) A (call (.type "set") [v]) Q E s := by
  have T := F.called_set
  obtain ⟨_, _, mro⟩ := T.mro
  refine wpAny_call (codeAny_of_tree (wpAny_pure ⟨Code.quiet_builtin _ (by decide +kernel), codeAny_builtin F.entry_type_call ?_⟩))
  rw [Around.under_plain (weight_type_call_type "set" [v] []) rfl]
  have t1 := T.made; have t2 := T.sub; have t3 := T.notType; have t4 := T.canCreate; have t5 := F.typeCall_set_1 v
  wp_walk
  refine codeAny_mono (code_set_led1 v (E := E) (Q₁ := fun o t => o = .ref s.heap.objs.size ∧ t = { s with heap := s.heap.push (newO w) }) ⟨rfl, rfl⟩) fun r t h => ?_
  match r, h with
  | .error _, h => exact h
  | .ok (.ret _), ⟨eo, et⟩ =>
    cases eo
    cases et
    have ty : Shared.TypeIs { s with heap := s.heap.push (newO w) } (.ref s.heap.objs.size) "set" := ⟨_, Heap.get?_push_size _ rfl, rfl⟩
    have i1 := T.init.lookup; have i2 := T.init.bind (.ref s.heap.objs.size)
    wp_walk
    refine codeAny_mono (codeAny_call_builtin_code (id := "set.__init__") (plainId_quiet F.called_set.init.plain _) (check_set_init_1 ty init)) fun r t h => ?_
    match r, h with
    | .error _, h => exact h
    | .ok (.ret _), ⟨ez, z⟩ =>
      cases ez
      exact wpAny_pure (wpAny_pure (q t z))
/-- set(t), t a tuple of tuples of ints -/
theorem set_of_tup {tu : Addr} {xs : Array Value} (ks : List (Addr × List Int)) {Q : Value → Shared → Prop} (nh : A.handled = none) (ht : s.heap.IsTuple tu xs) (hx : xs.toList = ks.map fun p => Value.ref p.1)
    (hk : ∀ p ∈ ks, IsT P w s.heap p.2 p.1) (few : ks.length < 64) (un : A.units + 3 < cLine)
    (go : ∀ (h' : Heap) (tk : Nat) L es ep t, SetTR P w h' s.heap.objs.size L es ep t → Got ks ks.length L → (∀ b o, s.heap.get? b = some o → h'.get? b = some o) → Q (.ref s.heap.objs.size) { s with heap := h', toks := tk }) :
    wpAny (model P w) A (call (.type "set") [.ref tu]) Q E s := by
  have zx : xs.size = ks.length := by rw [← Array.length_toList, hx, List.length_map]
  refine set_of (Z := fun t => ∃ h' tk L es ep tb, t = { s with heap := h', toks := tk } ∧ SetTR P w h' s.heap.objs.size L es ep tb ∧ Got ks ks.length L ∧ ∀ b o, s.heap.get? b = some o → h'.get? b = some o) (codeAny_builtin F.entry_set_init ?_)
    fun t ⟨h', tk, L, es, ep, tb, et, R, g, kp⟩ => et ▸ go h' tk L es ep tb R g kp
  rw [Around.under_plainId F.called_set.init.plain _]
  have tu1 : (s.heap.push (newO w)).IsTuple tu xs := ht.push _
  obtain ⟨⟨_, _, _, _⟩, at1, c, nl, d⟩ := tu1
  cases c
  cases d
  have lt0 : tu < s.heap.objs.size := let ⟨_, g, _⟩ := ht; Heap.lt_size g
  have n1 := F.sub_tuple_set; have n2 := F.sub_tuple_frozenset; have n3 : (Value.type "tuple" == Value.type "dict") = false := by decide
  (unfold Builtin.«set.__init__» noKeywords Builtin.Frozenset.updateFrom)
  generalize e : pyIter = it
  wp_walk
  subst e
  refine wpAny_pyIter_tuple (ht.push _) (wpAny_bind (wpAny_runValue ?_))
  have z1 : (s.heap.push (newO w)).objs.size = s.heap.objs.size + 1 := Heap.size_push ..
  have off : s.heap.objs.size ∉ [(s.heap.push (newO w)).objs.size, tu] := fun m => by
    rw [z1] at m
    rcases (by simpa using m : s.heap.objs.size = s.heap.objs.size + 1 ∨ s.heap.objs.size = tu) with z | z
    · exact Nat.ne_of_lt (Nat.lt_succ_self _) z
    · exact Nat.ne_of_gt lt0 z
  have val : ∀ (i : Nat) (v : Value), xs[i]? = some v → ∃ p, ks[i]? = some p ∧ v = .ref p.1 := fun i v hv => by
    rw [← Array.getElem?_toList, hx, List.getElem?_map] at hv
    obtain ⟨p, hp, ev⟩ := Option.map_eq_some_iff.mp hv
    exact ⟨p, hp, ev.symm⟩
  refine set_update_tups ((Walks.tuple (A := A.in1.in1.in1) nh _ tu (by rw [z1]; exact Nat.ne_of_lt (Nat.lt_succ_of_lt lt0)) xs).toS) s.heap.objs.size off ks zx few val s.heap hk (fresh_at (Nat.le_refl _)) (fun b hb => fresh_at (by rw [List.mem_singleton.mp hb, z1]; exact Nat.le_succ _)) un (xs.size - 0) 0 _ (by omega) (Nat.zero_le _)
    ⟨⟨_, Heap.get?_push_size _ rfl, rfl, rfl⟩, (ht.push _).push _⟩ (fun b o g => Heap.get?_push_of_some _ (Heap.get?_push_of_some _ g)) ⟨[], #[], 0, _, setTR_fresh (Heap.get?_push_of_some _ (Heap.get?_push_size _ rfl)), Got.zero ks⟩ fun t L es ep tb mv R g kp => ?_
  rw [zx] at g
  exact wpAny_pure (show wpAny _ _ (ret Value.none) _ _ _ from wpAny_pure ⟨rfl, t.heap, t.toks, L, es, ep, tb, by obtain ⟨_, _, _, _, _⟩ := t; cases mv.gens; cases mv.drawn; cases mv.os; rfl, R, g, kp⟩)
end
section
variable {X : Cx}
/-- len(set(x)), x a tuple of tuples of ints -/
def tLenSetT (K : PySem.W.Frag) (ta : TE) : TE := fun σ H Q => ta σ H fun x H1 => ∃ (l : Addr) (ks : List (Addr × List Int)), x = V.ref l ∧ SqT K H1 l (ks.map fun p => V.ref p.1) ∧ (∀ p ∈ ks, SqT K H1 p.1 (p.2.map V.int)) ∧ ks.length < 64 ∧
  ∀ L : List (Addr × List Int), (∀ p ∈ L, p ∈ ks) → (∀ p ∈ ks, p.2 ∈ L.map (·.2)) → (L.map (·.2)).Nodup → L.length ≤ ks.length → Q (.int L.length) H1
/-- the new set of tuples is asked for its length -/
theorem len_made {pins : List (Addr × Obj)} {σ : L2.St} {H : Hp} {s : Shared} {Q : VK} {h1 : Heap} {tk : Nat} {L ks : List (Addr × List Int)} {es : Array (Int × Value)} {ep : Nat} {t : SetTable} {a : Addr} (I : Inv X pins σ H s) (kp : ∀ b o, s.heap.get? b = some o → h1.get? b = some o)
    (R : SetTR X.prog X.w h1 a L es ep t) (g : Got ks ks.length L)
    (q : (∀ p ∈ L, p ∈ ks) → (∀ p ∈ ks, p.2 ∈ L.map (·.2)) → (L.map (·.2)).Nodup → L.length ≤ ks.length → Q (.int L.length) H) : wpAny (model X.prog X.w) X.A (call (.builtin "len") [.ref a]) (EP X pins σ Q) X.xe { s with heap := h1, toks := tk } := by
  have R1 : SetTR X.prog X.w ({ s with heap := h1, toks := tk } : Shared).heap a L es ep t := R
  have sz := R1.size
  have few := R.few
  match R1.ob with
  | ⟨o, at_, exact_, data⟩ =>
    have in_ : ∀ p ∈ L, p ∈ ks := fun p hp => List.mem_of_mem_take (g.sub p hp)
    have all_ : ∀ p ∈ ks, p.2 ∈ L.map (·.2) := fun p hp => g.all p (by rwa [List.take_length])
    exact call_len_set at_ exact_ data R1.fits (by omega) ⟨.int L.length, H, (I.kept kp).tok _, ⟨_, by rw [sz]⟩, q in_ all_ R.nd g.len⟩
/-- what set(v), asked for its length, comes to -/
def SetLen (X : Cx) (R : V → Hp → VK → Prop) : Prop := ∀ (pins : List (Addr × Obj)) (σ : L2.St) (s : Shared) (H : Hp) (x : V) (v : Value) (Q : VK), Inv X pins σ H s → RelV x v → R x H Q →
  wpAny (model X.prog X.w) X.A (call (.type "set") [v]) (fun u t => wpAny (model X.prog X.w) X.A (call (.builtin "len") [u]) (EP X pins σ Q) X.xe t) X.xe s
/-- len(set(a)) as written -/
theorem pe_lenSet {R : V → Hp → VK → Prop} {a : Expr} {ta : TE} {p p2 q pos : Pos} (k : SetLen X R) (ha : PE X a ta) (hm : X.mg "len" = none) (hm2 : X.mg "set" = none) (hg : Gl X "len") (hg2 : Gl X "set")
    (na : starEach [a] X.env = (false, eval a X.env) :: starEach [] X.env) : PE X (.Call (.Name "len" p) [.Call (.Name "set" p2) [a] [] q] [] pos) (fun σ H Q => ta σ H fun x H1 => R x H1 Q) := by
  constructor
  intro pins s σ H Q I h
  have set_ : ∀ v s1, EP X pins σ (fun x H1 => R x H1 Q) v s1 → wpAny (model X.prog X.w) X.A (call (.type "set") [v]) (fun u t => wpAny (model X.prog X.w) X.A (call (.builtin "len") [u]) (EP X pins σ Q) X.xe t) X.xe s1 := by
    rintro v s1 ⟨x, H1, I1, rx, told⟩
    exact k pins σ s1 H1 x v Q I1 rx told
  refine Call_ (ld_blt I hg hm PySem.boot_len (PyProof.Rows.callWith_builtin1 (PyProof.Rows.args_cons (Call_ (ld_blt I hg2 hm2 PyProof.Rows.boot_set ?_)) rfl) rfl rfl))
  refine PyProof.Rows.callWith_type1 (PyProof.Rows.args_cons (thn (ha.run pins s σ H _ I h) fun v s1 told => ?_) na) na rfl
  exact PyProof.Rows.args_nil (thn (set_ v s1 told) fun u t done => PyProof.Rows.args_nil done)
theorem pe_lenSetT {a : Expr} {ta : TE} {p p2 q pos : Pos} {K : PySem.W.Frag} (hu : X.A.units + 64 < cLine) (ha : PE X a ta) (hm : X.mg "len" = none) (hm2 : X.mg "set" = none) (hc : X.calm = true := by rfl) (hg : Gl X "len" := by rfl) (hg2 : Gl X "set" := by rfl) (hK : X.K = K := by rfl)
    (na : starEach [a] X.env = (false, eval a X.env) :: starEach [] X.env := by rfl) : PE X (.Call (.Name "len" p) [.Call (.Name "set" p2) [a] [] q] [] pos) (tLenSetT K ta) := by
  delta tLenSetT
  refine pe_lenSet (ta := ta) ?_ ha hm hm2 hg hg2 na
  rintro pins σ s H _ _ Q I rx ⟨l, ks, rfl, lies, each, few, k⟩
  cases rx
  rw [← hK] at lies each
  have ⟨its, r, there, _⟩ := I.tuple lies
  exact set_of_tup ks (I.ok.hd hc) (xs := its.toArray) there (by simpa using refs_of_vals r) (fun p hp => I.isT (each p hp)) few (by omega) fun h' tk L es ep t R g same => len_made I same R g (k L)
end
end TDC
namespace TD
open PySem L2 PySem.Spec PyProof.Rows
open Evl (Ex ex_l ex_t fresh_back sq_of st_of sz_of sz_lt)
theorem once_uniq : ∀ {xs ys : List (List Int)}, ys.Nodup → (∀ x, x ∈ ys ↔ x ∈ xs) → ys.length = (once xs).length := fun {xs ys} nd h =>
  ((List.perm_ext_iff_of_nodup nd (once_nodup xs)).mpr fun x => by rw [h x, once_mem]).length_eq
section
variable [TabW] {K : PySem.W.Frag} {ρ : Rho} {β β1 : Bag} {te : TE}
theorem d_lenSetT {ns : List (List Int)} (h : EvB K te ρ β (.tuple (ns.map tupJ)) β1) (hl : ns.length < 64) : EvB K (TDC.tLenSetT K te) ρ β (.int ((once ns).length : Int)) β1 :=
  ⟨h.som, fun b G H σ Q E k => h.run b G H σ _ E fun v G1 H1 s1 k1 d1 => by
    cases d1 with
    | @tup a xs _ hs hd =>
      obtain ⟨ks, rfl, rfl, hk⟩ := DenL.refs hd
      rw [List.length_map] at hl
      refine ⟨a, ks, rfl, ex_t s1.s hs, fun p hp => ex_t s1.s (hk p hp), hl, fun L h1 h2 h3 _ => ?_⟩
      have e : (L.map (·.2)).length = (once (ks.map (·.2))).length := once_uniq h3 fun x => ⟨fun hx => by
        obtain ⟨p, hp, rfl⟩ := List.mem_map.mp hx
        exact List.mem_map.mpr ⟨p, h1 p hp, rfl⟩, fun hx => by
        obtain ⟨p, hp, rfl⟩ := List.mem_map.mp hx
        exact h2 p hp⟩
      rw [List.length_map] at e
      rw [e]
      exact k _ G1 H1 s1 k1 (.int _)⟩
end
end TD
/-! ## TdW -/
set_option Elab.async false
set_option linter.all false
set_option maxRecDepth 100000
set_option maxHeartbeats 4100000
/-! Defs told at the level of the heap: the bag's maker, and the whole law. -/
namespace TD
open PySem L2 PySem.Spec PyProof.Rows
open Evl (Ex ex_l ex_t fresh_back sq_of st_of sz_of sz_lt)
structure FnS (P : Program) (w : World) (K : PySem.W.Frag) (mg : Str → Option Value) (base : Heap) (k : Nat) (x : Str) (ps : List Str) (sp : Sp) : Prop where
  ex : ∃ (f : Addr) (fd : FuncData), mg x = some (.ref f) ∧ FnOk P w K mg base CX0 k f fd ps sp ∧ Binds K fd ps [] ∧ PySem.W.keepIn K (.ref f) = true
/-- .. where nothing is being shown; with the function's data -/
structure FnSG (P : Program) (w : World) (K : PySem.W.Frag) (mg : Str → Option Value) (base : Heap) (k : Nat) (x : Str) (ps : List Str) (sp : Sp) : Prop where
  ex : ∃ (f : Addr) (fd : FuncData), mg x = some (.ref f) ∧ FnOkG P w K mg base CX0 k f fd ps sp ∧ ∃ oc od osl, K.lookup f = some ⟨oc, od, .func fd, osl⟩
section
variable {X : Cx} {k : Nat} {x : Str} {ps : List Str} {sp : Sp} {q pos : Pos} {e : Expr} {es : List Expr} {t : TA}
theorem pe_fnS {P : Program} {w : World} {K : PySem.W.Frag} {mg : Str → Option Value} {base : Heap} (F : FnS P w K mg base k x ps sp) (hr : Room k X.A) (ha : PA X (e :: es) t) (h1 : X.prog = P := by rfl) (h2 : X.w = w := by rfl) (h3 : X.K = K := by rfl) (h4 : X.mg = mg := by rfl) (h5 : X.base = base := by rfl)
    (hg : Gl X x := by rfl) (hdb : (x == ("__debug__" : Str)) = false := by decide) (hs : starEach (e :: es) X.env = (false, eval e X.env) :: starEach es X.env := by rfl)
    (hp : (backTo pos (starEach es X.env)).any (·.1) = false := by rfl) : PE X (.Call (.Name x q) (e :: es) [] pos) (tCall sp [] E0 t) := by
  obtain ⟨f, fd, hm, hf, hb, hk⟩ := F.ex
  subst h1 h2 h3 h4 h5
  exact pe_call hf hr hg hm hk hb .nil pass0 ha hdb hs hp
end
section
variable {P : Program} {w : World} {K : PySem.W.Frag} {mg : Str → Option Value} {base : Heap} {k : Nat} {x : Str} {st : Stmt} {N ps : List Str} {sp : Sp}
theorem fnS_mk (F : DefAt K x st) (hX : K.In base) (hG : base.Ns mainGlobals mg) (S : FnScope N ps (defScope st)) (hlen : ∀ vs H Q E, sp vs H Q E → vs.length = ps.length)
    (hb : ∀ (f : Addr) (kV doc pm : Value) (an : Option Addr) (cdv ct : Value) (us : List Value), us.length = ps.length → bindArgs (PySem.W.fnOf x x (defArgs st) (defBody st) (defScope st) .none kV doc pm an cdv ct) ⟨us, []⟩ = pure (ps.zip us))
    (hbody : ∀ (f : Addr) (cdv : Value) (A : Around) (outer : List PySem.Env) (s : Shared) (H : Hp) (E : XK), Room k (A.deeper (envOfC x (defScope st) s.heap.objs.size f cdv)) →
      ∃ t, PSs (cxOf CX0 P w K mg base N x (defScope st) f cdv A outer s H E).nox (defBody st) t ∧ ∀ vs H Q E, sp vs H Q E → t { nx := fun _ H' => Q .non H', rt := Q } (L2.start N vs) H) : FnS P w K mg base (k + 1) x ps sp := by
  obtain ⟨f, fd, ha, hF⟩ := F.ex
  refine ⟨f, fd, PySem.W.mg_of hX hG ha, ?_, hF.binds (hb f), hF.kp⟩
  refine hF.ok S hlen fun cdv A outer s H vs Q E hr hsp => ?_
  obtain ⟨t, h1, h2⟩ := hbody f cdv A outer s H E hr
  exact ⟨t, h1, h2 vs H Q E hsp⟩
theorem fnSG_mk [TabW] (F : DefAt K x st) (hX : K.In base) (hG : base.Ns mainGlobals mg) (S : FnScope N ps (defScope st)) (hlen : ∀ vs H Q E, sp vs H Q E → vs.length = ps.length)
    (hb : ∀ (f : Addr) (kV doc pm : Value) (an : Option Addr) (cdv ct : Value) (us : List Value), us.length = ps.length → bindArgs (PySem.W.fnOf x x (defArgs st) (defBody st) (defScope st) .none kV doc pm an cdv ct) ⟨us, []⟩ = pure (ps.zip us))
    (hbody : ∀ (f : Addr) (cdv : Value) (A : Around) (outer : List PySem.Env) (s : Shared) (H : Hp) (E : XK), RoomG k (A.deeper (envOfC x (defScope st) s.heap.objs.size f cdv)) →
      ∃ t, PSs (cxOf CX0 P w K mg base N x (defScope st) f cdv A outer s H E).nox (defBody st) t ∧ ∀ vs H Q E, sp vs H Q E → t { nx := fun _ H' => Q .non H', rt := Q } (L2.start N vs) H) : FnSG P w K mg base (k + 1) x ps sp := by
  obtain ⟨f, fd, ha, hF⟩ := F.ex
  have lk : ∃ oc od osl, K.lookup f = some ⟨oc, od, .func fd, osl⟩ := by
    obtain ⟨oc, od, _, _, _, _, _, _, osl, _, h2, _⟩ := hF.ex
    exact ⟨oc, od, osl, h2⟩
  refine ⟨f, fd, PySem.W.mg_of hX hG ha, ?_, lk⟩
  refine fnG_ok hF S hlen fun cdv A outer s H vs Q E hr hsp => ?_
  obtain ⟨t, h1, h2⟩ := hbody f cdv A outer s H E hr
  exact ⟨t, h1, h2 vs H Q E hsp⟩
end
/-- a new bag, drawn from a script -/
def spBag [TabW] (K : PySem.W.Frag) : Sp := fun vs H Q _ => ∃ (a : Addr) (ns : List Int) (spot : Int) (G : Hp), vs = [.ref a, .int spot] ∧ Ex G H ∧ TabsOk G H ∧ SqL K G a (ns.map V.int) ∧ 0 ≤ spot ∧ spot ≤ 10 ∧
  ∀ (p : Addr) (G' H' : Hp) (bag : List Int), Step p false G H G' H' → G' p = none → H' p = some (.lst (bag.map V.int)) → Num.BagI 0 bag → Q (.ref p) H'
def spLaw [TabW] (K : PySem.W.Frag) : Sp := fun vs H Q _ => ∃ (a : Addr) (ns : List Int) (G : Hp), vs = [.ref a] ∧ Ex G H ∧ TabsOk G H ∧ SqL K G a (ns.map V.int) ∧ ns.length ≤ 63 ∧ ∀ H', Q (.bl true) H'
theorem bag_ok {c s : Int} (hs : 0 ≤ s) : Num.BagI 0 [if (TD.absI c % (10 ^ 45) ^ 13 - 10 ^ 18) > 0 then TD.absI c % (10 ^ 45) ^ 13 - 10 ^ 18 else 0, (((TD.absI c % (10 ^ 45) ^ 13) % 2305843009213693723 * 1000403 + 9041 * s) + 47 * (if decide (c < 0) = true then 1 else 0) + 31) % 2305843009213693951, 0] := by
  have hP : (0 : Int) < (10 ^ 45) ^ 13 := by decide
  have h1 := Int.emod_nonneg (TD.absI c) (show ((10 ^ 45) ^ 13 : Int) ≠ 0 by decide)
  have h2 := Int.emod_lt_of_pos (TD.absI c) hP
  have h3 : ((10 ^ 45) ^ 13 : Int) < ((2 ^ 3000 : Nat) : Int) := by decide +kernel
  refine ⟨_, _, _, rfl, ?_, ?_, Int.emod_nonneg _ (by decide), Int.emod_lt_of_pos _ (by decide), Int.le_refl 0, Int.le_refl 0⟩
  · split <;> omega
  · generalize TD.absI c % (10 ^ 45) ^ 13 = g at *
    generalize ((10 : Int) ^ 45) ^ 13 = z at *
    have h4 : (0 : Nat) < 2 ^ 3000 := by decide +kernel
    generalize (2 : Nat) ^ 3000 = y at *
    split <;> omega
end TD
/-! ## TdQ -/
set_option Elab.async false
set_option linter.all false
set_option maxRecDepth 100000
set_option maxHeartbeats 4100000
/-! More of lists of one's own: made by a slice, changed in a branch, changed at a place that is reckoned by the list itself. -/
namespace TD
open PySem L2 PySem.Spec PyProof.Rows
open Evl (Ex ex_l ex_t fresh_back sq_of st_of sz_of sz_lt)
section
variable [TabW] {K : PySem.W.Frag} {b : Addr} {ρ : Rho} {β β1 β2 β3 β4 : Bag} {te tk : TE} {tt : TT} {tu tv tw : TS} {d : Dt} {ds : List Dt} {o : Out} {i j : Nat} {G H : Hp} {σ : L2.St} {p : Addr}
theorem st_ownSl {tl th : TO} {lo hi : Option Int} (hi' : i < ρ.length) (ha : EvB K te ρ β (.list ds) β1) (h1 : EvO K tl ρ β1 lo β2) (h2 : EvO K th ρ β2 hi β3) (h' : StO K i tw (ρ.set i none) β3 (cutD ds lo hi) o β4) : StB K (tSeq (tAsg (tSl (rSlL K) te tl th) (gName i)) tw) ρ β o β4 := by
  refine ⟨h'.som.trans (h2.1.trans (h1.1.trans ha.som)), fun b G H σ D E k => ?_⟩
  refine ha.run b G H σ _ E fun v G1 H1 s1 k1 d1 => ?_
  have E1 := E.step s1 k1
  refine h1.2 b G1 H1 σ _ E1 fun G2 H2 s2 k2 => ?_
  have E2 := E1.step s2 k2
  refine h2.2 b G2 H2 σ _ E2 fun G3 H3 s3 k3 => ?_
  have E3 := E2.step s3 k3
  rw [h1.1, ha.som] at s3
  rw [ha.som] at s2
  have hs := (s1.trans s2).trans s3
  have d3 := (d1.mono s2.g).mono s3.g
  have m3 : β3.isSome = β.isSome := h2.1.trans (h1.1.trans ha.som)
  cases d3 with
  | @lst a xs _ hx hd =>
    refine ⟨_, _, rfl, sq_of (s3.s _ _ hx), fun q hq => ?_⟩
    have gq : G3 q = none := fresh_back s3.s hq
    have nb : β3.isSome = true → q ≠ b := bag_ne k3 rfl hq
    have t2 : Step b β3.isSome G3 H3 G3 (upd H3 q (.lst (cutV xs lo hi))) := (Step.refl s3.s).mut (Gone.none hq) gq (LstAt.none hq)
    have hil : i < σ.length := by rw [E.len]; exact hi'
    have E4 := (E3.mutl (o := .lst (cutV xs lo hi)) gq nb (LstAt.none hq)).forget (i := i) (v := .ref q)
    refine h'.run b G3 H3 G3 _ _ q D (Gone.none hq) t2 ⟨E4, List.getElem?_set_self hi', List.getElem?_set_self hil, gq, nb, _, upd_same, den_cut hd⟩ ?_
    rw [m3]
    exact k.of (D' := D) hs
/-- a branch, in which one's own list may be changed -/
theorem so_if {c : Bool} (h : TtB K tt ρ β c β1) (h1 : c = true → StO K i (tSeq tu tw) ρ β1 ds o β2) (h2 : c = false → StO K i (tSeq tv tw) ρ β1 ds o β2) : StO K i (tSeq (tIfS tt tu tv) tw) ρ β ds o β2 := by
  have m : β2.isSome = β1.isSome := by
    cases c with
    | true => exact (h1 rfl).som
    | false => exact (h2 rfl).som
  refine ⟨m.trans h.som, fun b G0 H0 G H σ p D gn s w k => ?_⟩
  obtain ⟨ws, hp, dw⟩ := w.val
  refine h.run b G H σ _ w.env fun G1 H1 s1 k1 => ?_
  have hp1 : H1 p = some (.lst ws) := s1.keep p _ w.nb NoT.lst hp
  have gp1 : G1 p = none := s1.fresh p _ w.free NoT.lst hp
  have w1 : OwnL K b β1 i p G1 H1 σ ρ ds := ⟨w.env.step s1 k1, w.slot, w.at_, gp1, fun z => w.nb (h.som ▸ z), ws, hp1, dw.mono s1.g⟩
  cases c with
  | true =>
    rw [if_pos rfl]
    exact (h1 rfl).run b G0 H0 G1 H1 σ p D gn (by rw [h.som]; exact s.trans s1) w1 (by rw [h.som]; exact k)
  | false =>
    rw [if_neg (by decide)]
    exact (h2 rfl).run b G0 H0 G1 H1 σ p D gn (by rw [h.som]; exact s.trans s1) w1 (by rw [h.som]; exact k)
/-- one's own list, seen as data for a while -/
theorem OwnL.frozen (w : OwnL K b β i p G H σ ρ ds) : ∃ ws, H p = some (.lst ws) ∧ DenL K G ws ds ∧ EnvD K b β (upd G p (.lst ws)) H σ (ρ.set i (some (.imm (.list ds)))) := by
  obtain ⟨ws, hp, dw⟩ := w.val
  have ex : Ex G (upd G p (.lst ws)) := Ex.new w.free
  have E := w.env
  have E2 : EnvD K b β (upd G p (.lst ws)) H σ ρ := by
    refine ⟨fun a u z => ?_, fun ns e => ⟨(E.bagk ns e).1, ?_⟩, E.len, fun i d q => ?_, E.bagv, ⟨E.tabs.tab, fun x ps z => ?_⟩, E.fnv⟩
    · by_cases q : a = p
      · rw [q, upd_same] at z
        cases z
        rw [q]
        exact hp
      · rw [upd_ne q] at z
        exact E.sub a u z
    · rw [upd_ne (Ne.symm (w.nb (by rw [e]; rfl)))]
      exact (E.bagk ns e).2
    · obtain ⟨v, h1, h2⟩ := E.imm i d q
      exact ⟨v, h1, h2.mono ex⟩
    · by_cases q : x = p
      · rw [q, upd_same] at z; cases z
      · rw [upd_ne q] at z; exact E.tabs.free x ps z
  have E3 := E2.set (i := i) (v := .ref p) (d := .list ds) (.lst upd_same (dw.mono ex))
  have e : σ.set i (some (.ref p)) = σ := by
    apply List.ext_getElem?
    intro n
    by_cases q : i = n
    · subst q
      rw [List.getElem?_set_self (List.getElem?_eq_some_iff.mp w.at_).1, w.at_]
    · rw [List.getElem?_set_ne q]
  rw [e] at E3
  exact ⟨ws, hp, dw, E3⟩
/-- xs[k] = e, xs one's own, where k is told by xs itself -/
theorem so_setK {k : Int} {n : Nat} (h : EvB K te ρ β d β1) (hk : EvB K tk (ρ.set i (some (.imm (.list ds)))) β1 (.int k) β2) (hn : ixN ds.length k = some n) (h' : StO K i tw ρ β2 (ds.set n d) o β3) : StO K i (tSeq (tAsg te (gSub (tVar i) tk rSetL)) tw) ρ β ds o β3 := by
  refine ⟨h'.som.trans (hk.som.trans h.som), fun b G0 H0 G H σ p D gn s w q => ?_⟩
  obtain ⟨vs, hp, dv⟩ := w.val
  refine h.run b G H σ _ w.env fun y G1 H1 s1 k1 d1 => ?_
  have hp1 : H1 p = some (.lst vs) := s1.keep p _ w.nb NoT.lst hp
  have gp1 : G1 p = none := s1.fresh p _ w.free NoT.lst hp
  have nb1 : β1.isSome = true → p ≠ b := fun z => w.nb (h.som ▸ z)
  have w1 : OwnL K b β1 i p G1 H1 σ ρ ds := ⟨w.env.step s1 k1, w.slot, w.at_, gp1, nb1, vs, hp1, dv.mono s1.g⟩
  refine ⟨_, w.at_, ?_⟩
  obtain ⟨ws, hw, dw, Ef⟩ := w1.frozen
  have E1 := w1.env
  refine hk.run b _ H1 σ _ Ef fun z G2 H2 s2 k2 d2 => ?_
  obtain ⟨Gd, hGd⟩ : ∃ Gd : Hp, Gd = fun x => if x = p then none else G2 x := ⟨_, rfl⟩
  have gd_p : Gd p = none := by rw [hGd]; exact if_pos rfl
  have gd_ne : ∀ {x}, x ≠ p → Gd x = G2 x := fun hx => by rw [hGd]; exact if_neg hx
  have sd : Step b β1.isSome G1 H1 Gd H2 := by
    refine ⟨fun x u hx => ?_, fun x u hx => ?_, fun x u hx t hu => ?_, s2.keep, s2.stay, fun t => ?_⟩
    · have hne : x ≠ p := fun z => by rw [z, gp1] at hx; cases hx
      rw [gd_ne hne]
      exact s2.g x u (by rw [upd_ne hne]; exact hx)
    · by_cases hne : x = p
      · rw [hne, gd_p] at hx; cases hx
      · rw [gd_ne hne] at hx; exact s2.s x u hx
    · by_cases hne : x = p
      · rw [hne]; exact gd_p
      · rw [gd_ne hne]
        exact s2.fresh x u (by rw [upd_ne hne]; exact hx) t hu
    · have t2 := s2.tabs Ef.tabs
      refine ⟨t2.tab, fun x ps hx => ?_⟩
      by_cases hne : x = p
      · rw [hne, gd_p] at hx; cases hx
      · rw [gd_ne hne] at hx; exact t2.free x ps hx
  have kd : BagOk b β2 Gd H2 := fun ns e => ⟨(k2 ns e).1, by
    by_cases hne : b = p
    · rw [hne]; exact gd_p
    · rw [gd_ne hne]; exact (k2 ns e).2⟩
  have hp2 : H2 p = some (.lst ws) := sd.keep p _ nb1 NoT.lst hw
  have nb2 : β2.isSome = true → p ≠ b := fun z => nb1 (hk.som ▸ z)
  cases d2
  refine ⟨p, ws, k, n, rfl, rfl, hp2, by rw [dw.length]; exact hn, ?_⟩
  have sd2 := sd
  rw [h.som] at sd
  have s3 := ((s.trans s1).trans sd).mut (ob := .lst (ws.set n y)) gn gd_p (LstAt.of hp2)
  have e : β2.isSome = β.isSome := hk.som.trans h.som
  exact h'.run b G0 H0 Gd _ σ p D gn (by rw [e]; exact s3) ⟨(E1.step sd2 kd).mutl gd_p nb2 (LstAt.of hp2), w.slot, w.at_, gd_p, nb2, ws.set n y, upd_same, (dw.mono sd.g).put n (d1.mono sd.g)⟩ (by rw [e]; exact q)
end
end TD
/-! ## TdD -/
set_option Elab.async false
set_option linter.all false
set_option maxRecDepth 100000
set_option maxHeartbeats 4100000
/-! sum of a tuple; functions in a for, and calls of a name that holds one. -/
namespace TD
open PySem L2 PySem.Spec PyProof.Rows LamX
open Evl (Ex ex_l ex_t fresh_back sq_of st_of sz_of sz_lt)
/-! ### sum of a tuple of ints -/
def rSumT (K : PySem.W.Frag) : List V → Hp → VK → Prop := fun vs H Q => ∃ (a : Addr) (ns : List Int), vs = [V.ref a] ∧ SqT K H a (ns.map V.int) ∧ Q (.int ns.sum) H
theorem sum_rawT {prog : Program} {w : World} {A : Around} {E : Value → Shared → Prop} {s : Shared} {l : Addr} {its : List Value} {ns : List Int} {Q : Value → Shared → Prop} (hh : A.handled = none) (hl : s.heap.IsTuple l its.toArray) (hi : IntsAre its ns)
    (h : ∀ (h' : Heap) (tk : Nat) (t' : Tok), (∀ b o, s.heap.get? b = some o → h'.get? b = some o) → Q (.int ns.sum t') { s with heap := h', toks := tk }) : wpAny (model prog w) A (call (.builtin "sum") [.ref l]) Q E s := by
  (obtain ⟨xs, e⟩ := hi.allInts.items)
  have nums : numsOf (intItems xs).toList = ns := e ▸ hi.numsOf
  rw [e] at hl
  have total : preSum (numAt xs) (intItems xs).size = ns.sum := by
    rw [← nums, nums_intItems, show (intItems xs).size = xs.size by simp [intItems], preSum_eq, List.take_of_length_le (by simp)]
  have old : l < s.heap.objs.size := let ⟨_, g, _⟩ := hl; Heap.lt_size g
  have W := Walks.tuple (prog := prog) (w := w) (A := A.in1) hh s.heap.objs.size l (Nat.ne_of_lt old) (intItems xs)
  refine call_sum_walkG (wpAny_pyIter_tuple hl ⟨_, _, _, _, _, _, numAt xs, rfl, W, ⟨⟨_, Heap.get?_push_size _ rfl, rfl, rfl⟩, hl.push _⟩, fun b hb => ?_, fun _ _ => intItems_at, fun h1 tk t1 keep => ?_⟩)
  · have two : b = s.heap.objs.size ∨ b = l := by simpa using hb
    show b < (Heap.push ..).objs.size
    rw [Heap.size_push]
    exact two.elim (fun z => z ▸ Nat.lt_succ_self _) fun z => z ▸ Nat.lt_succ_of_lt old
  · refine total ▸ h h1 tk t1 fun b o g => keep b o (fun m => Nat.ne_of_lt (Heap.lt_size g) (by simpa using m)) (Heap.get?_push_of_some _ g)
theorem cr_sumT {X : Cx} (hc : X.calm = true) : CallR X (.builtin "sum") (rSumT X.K) := by
  (intro pins s σ H vs us Q I r h)
  (obtain ⟨a, ns, rfl, hs, q⟩ := h)
  obtain ⟨its, rv, hl, _⟩ := I.tuple hs
  rw [Vals.ref1 r]
  exact sum_rawT (I.ok.hd hc) hl rv.ints fun h' tk t' hk => ⟨.int _, H, I.kept hk, ⟨_, rfl⟩, q⟩
section
variable [TabW] {K : PySem.W.Frag} {b : Addr} {ρ ρ1 ρ2 : Rho} {β β1 β2 β3 : Bag} {te : TE} {ta : TA} {tu tw : TS} {o : Out} {G H G1 H1 G2 H2 : Hp} {σ : L2.St} {d : Dt}
theorem d_sumT {ns : List Int} (h : EvB K te ρ β (.tuple (ns.map .int)) β1) : EvB K (tCB (rSumT K) (tCons te tNil)) ρ β (.int ns.sum) β1 := d_c1 h fun b G H v Q e dv k => by
  cases dv with
  | @tup a xs _ hs hd =>
    have := hd.ints
    subst this
    exact ⟨a, ns, rfl, ex_t e hs, k _ G H (Step.refl e) (.int _)⟩
/-! ### a for over slots -/
theorem EnvD.setS {i : Nat} {v : V} {a : Slot} (E : EnvD K b β G H σ ρ) (h : DenS K b G v a) : EnvD K b β G H (σ.set i (some v)) (ρ.set i (some a)) := by
  cases a with
  | imm d => exact E.set h
  | bag =>
    have e : v = .ref b := h
    subst e
    exact E.setBag
  | fn f =>
    have e : v = .ref f := h
    subst e
    exact E.setFn
theorem DenSs.get {vs : List V} {as : List Slot} {i : Nat} {v : V} (h : DenSs K b G vs as) (hi : vs[i]? = some v) : ∃ a, as[i]? = some a ∧ DenS K b G v a := by
  revert i
  induction h with
  | nil => (intro i hi; simp at hi)
  | cons h1 _ ih =>
    intro i hi
    cases i with
    | zero => simp at hi; subst hi; exact ⟨_, rfl, h1⟩
    | succ i =>
      obtain ⟨a, z1, z2⟩ := ih (i := i) (by simpa using hi)
      exact ⟨a, by simpa using z1, z2⟩
inductive ForS (K : PySem.W.Frag) (j : Nat) (tu : TS) : List Slot → Rho → Bag → Out → Bag → Prop
  | nil (ρ : Rho) (β : Bag) : ForS K j tu [] ρ β (.nx ρ) β
  | nx {a : Slot} {as : List Slot} {ρ ρ1 : Rho} {β β1 β2 : Bag} {o : Out} : StB K tu (ρ.set j (some a)) β (.nx ρ1) β1 → ForS K j tu as ρ1 β1 o β2 → ForS K j tu (a :: as) ρ β o β2
  | ret {a : Slot} {as : List Slot} {ρ : Rho} {β β1 : Bag} {r : Dt} : StB K tu (ρ.set j (some a)) β (.ret r) β1 → ForS K j tu (a :: as) ρ β (.ret r) β1
theorem ForS.som {j : Nat} {as : List Slot} (h : ForS K j tu as ρ β o β2) : β2.isSome = β.isSome := by
  induction h with
  | nil => rfl
  | nx h _ ih => exact ih.trans h.som
  | ret h => exact h.som
theorem st_forS {j : Nat} {as : List Slot} (hl : EvA K ta ρ β as β1) (h : ForS K j tu as ρ β1 o β2) (hz : as.length ≤ 100000) : StB K (tFor (iTup K (tTup ta)) (gName j) tu) ρ β o β2 := by
  refine ⟨h.som.trans hl.som, fun b G H σ D E k => ?_⟩
  refine hl.run b G H σ _ E fun vs G1 H1 s1 k1 d1 => ?_
  refine ⟨sz_of (by rw [d1.length]; exact hz), fun p hp => ?_⟩
  have n := Step.new (b := b) (m := β.isSome) (o := .tup vs) s1.s hp
  have n0 := Step.new (b := b) (m := false) (o := .tup vs) s1.s hp
  have hs : SqT K (upd G1 p (.tup vs)) p vs := st_of upd_same
  refine ⟨p, rfl, ⟨vs, st_of upd_same⟩, for_tup (K := K) (a := p) (xs := vs) (fun i σ' H' => ∃ G' ρ' β', Step b β.isSome (upd G1 p (.tup vs)) (upd H1 p (.tup vs)) G' H' ∧ β'.isSome = β.isSome ∧ EnvD K b β' G' H' σ' ρ' ∧ ForS K j tu (as.drop i) ρ' β' o β2) ?_ ?_ ?_ ?_⟩
  · exact ⟨_, ρ, β1, Step.refl n.s, hl.som, (E.step s1 k1).step n (k1.same n0), h⟩
  · rintro i σ' H' _ ⟨G', ρ', β', s', _⟩
    exact ex_t s'.s (ex_t s'.g hs)
  · rintro i v σ' H' hi ⟨G', ρ', β', s', m', E', r'⟩
    obtain ⟨a, ha1, ha2⟩ := d1.get hi
    have e : as.drop i = a :: as.drop (i + 1) := by
      obtain ⟨hlt, he⟩ := List.getElem?_eq_some_iff.mp ha1
      rw [← he]
      exact List.drop_eq_getElem_cons hlt
    rw [e] at r'
    have E2 := E'.setS (i := j) ((ha2.mono n.g).mono s'.g)
    have kk := (k.of (D' := D) s1).of (D' := D) n
    cases r' with
    | nx h hr => exact h.run b G' H' _ _ E2 fun σ2 G2 H2 s2 e2 => ⟨G2, _, _, s'.trans (by rw [← m']; exact s2), h.som.trans m', e2, hr⟩
    | ret h => exact h.run b G' H' _ _ E2 fun w G2 H2 s2 k2 dw => kk w G2 H2 (s'.trans (by rw [← m']; exact s2)) k2 dw
  · rintro σ' H' ⟨G', ρ', β', s', m', E', r'⟩
    rw [d1.length, List.drop_length] at r'
    cases r'
    exact k σ' G' H' ((s1.trans n).trans s') E'
/-- a def of the text, named -/
theorem s_fnC {f : Addr} : EvS K (tC (.ref f)) ρ β (.fn f) β := ⟨rfl, fun b G H σ Q E k => k _ G H (Step.refl E.sub) E.bagk rfl⟩
end
/-! ### a call of a name that holds a def -/
structure HeldX (P : Program) (w : World) (K : PySem.W.Frag) (mg : Str → Option Value) (base : Heap) (k : Nat) (f : Addr) (sp : Sp) : Prop where
  ex : ∃ (j : Nat) (fd : FuncData) (ps : List Str), j ≤ k ∧ FnOk P w K mg base (L2.CX P w) j f fd ps sp ∧ Binds K fd ps [] ∧ PySem.W.keepIn K (.ref f) = true
def tCallX (i : Nat) (S : Addr → Sp → Prop) (E : XK) (t : TA) : TE := fun σ H Q => ∃ (f : Addr) (sp : Sp), σ[i]? = some (some (.ref f)) ∧ S f sp ∧ t σ H fun vs H1 => sp (vs ++ []) H1 Q E
section
variable {X : Cx} {k i : Nat} {E : XK} {x : Str} {p pos : Pos} {e : Expr} {es : List Expr} {t : TA} {S : Addr → Sp → Prop}
theorem pe_callX (A : ∀ f sp, S f sp → HeldX X.prog X.w X.K X.mg X.base k f sp) (hr : Room k X.A) (hN : X.N[i]? = some x) (hv : Vis X.env.scope x) (hx : Passes (L2.CX X.prog X.w) X E) (ha : PA X (e :: es) t)
    (hdb : (x == ("__debug__" : Str)) = false := by decide)
    (hcd : (x == ("__classdict__" : Str)) = false := by decide)
    (he : starEach (e :: es) X.env = (false, eval e X.env) :: starEach es X.env := by rfl) (hpl : (backTo pos (starEach es X.env)).any (·.1) = false := by rfl) : PE X (.Call (.Name x p) (e :: es) [] pos) (tCallX i S E t) := by
  constructor
  rintro pins s σ H Q I ⟨f, sp, slot, told, args⟩
  rcases (A f sp told).ex with ⟨j, fd, ps, small, F, binds, kind⟩
  have call := pe_callL (p := p) F (hr.mono small) hN hv kind binds .nil hx ha hdb hcd he hpl
  exact call.run pins s σ H Q I ⟨slot, args⟩
end
section
variable [TabW] {P : Program} {w : World} {K : PySem.W.Frag} {mg : Str → Option Value} {base : Heap} {k : Nat} {x : Str} {ps : List Str} {R : FX}
theorem FnX.held (F : FnX P w K mg base k x ps R) : ∃ f, mg x = some (.ref f) ∧ ∀ j, k ≤ j → HeldX P w K mg base j f (spX K R) := by
  obtain ⟨f, fd, hm, hF, hb, hk⟩ := F.ex
  exact ⟨f, hm, fun j hj => ⟨k, fd, ps, hj, hF, hb, hk⟩⟩
end
section
variable [TabW] {K : PySem.W.Frag} {b : Addr} {ρ : Rho} {β β1 : Bag} {ta : TA} {as : List Slot} {R : FX} {r : Dt} {C : Addr} {k : Kept} {l : Clauses} {s fine : Str} {T : List (Addr × Str)} {i : Nat} {S : Addr → Sp → Prop} {f : Addr}
theorem d_lamOkX (hw : ∀ P q, TabW.w P q ↔ (P, q) ∈ T) (hi : ρ[i]? = some (some (Slot.fn f))) (hS : S f (spX K R)) (ha : EvA K ta ρ β as β1) (hR : R as none (.ok r) none) : EvB K (tLam T (TTell K l fine) (fun E => tCallX i S E ta)) ρ β (.str fine) β1 := by
  refine ⟨ha.som, fun b G H σ Q E kk => ⟨tabs_of hw E.tabs, fun H1 e t1 => ?_⟩⟩
  have s0 : Step b β.isSome G H G H1 := step_ext hw E.sub E.tabs e t1
  have k0 : BagOk b β G H1 := fun ns z => ⟨e _ _ (E.bagk ns z).1 NoT.lst, (E.bagk ns z).2⟩
  have E1 := E.step s0 k0
  exact ⟨f, _, E1.fnv i f hi, hS, (x_call0 (E := tellX K Q l) ha hR).run b G H1 σ _ E1 fun v G2 H2 s2 k2 _ => kk _ G2 H2 (s0.trans s2) k2 (.str _)⟩
theorem d_lamExX (hw : ∀ P q, TabW.w P q ↔ (P, q) ∈ T) (hi : ρ[i]? = some (some (Slot.fn f))) (hS : S f (spX K R)) (ha : EvA K ta ρ β as β1) (hR : R as none (.ex C k) none) (ht : ToldAs K C l k s) : EvB K (tLam T (TTell K l fine) (fun E => tCallX i S E ta)) ρ β (.str s) β1 := by
  refine ⟨ha.som, fun b G H σ Q E kk => ⟨tabs_of hw E.tabs, fun H1 e t1 => ?_⟩⟩
  have s0 : Step b β.isSome G H G H1 := step_ext hw E.sub E.tabs e t1
  have k0 : BagOk b β G H1 := fun ns z => ⟨e _ _ (E.bagk ns z).1 NoT.lst, (E.bagk ns z).2⟩
  have E1 := E.step s0 k0
  exact ⟨f, _, E1.fnv i f hi, hS, (x_raise0 (E := tellX K Q l) ha hR).run b G H1 σ _ E1 fun dx G2 H2 s2 k2 ka => toldAs_run ht s2.s ka (kk _ G2 H2 (s0.trans s2) k2 (.str _))⟩
end
end TD
/-! ## K34g -/
set_option Elab.async false
set_option linter.all false
set_option maxRecDepth 100000
set_option maxHeartbeats 1100000
namespace K34
open PySem L2 TD PySem.Spec PyProof.Rows
variable [TabW]
/-- what is no four unlike spots -/
abbrev BadS (p : Int) (v : Dt) : Prop := (∀ es, v ≠ .tuple es) ∨ ∃ es, v = .tuple es ∧ es.length ≤ 1000 ∧ (es.all (Num.isSpot p) = false ∨ (es.all (Num.isSpot p) = true ∧ es.length ≠ 4) ∨ ∃ a b c : Int × Int, es = [spD a, spD b, spD c, spD a] ∧ Num.goodP p a = true ∧ Num.goodP p b = true ∧ Num.goodP p c = true)
structure FineS (p : Int) (a b c d : Int × Int) : Prop where
  four : Num.FourI p a b c d
  sa : Num.SmallP a
  sb : Num.SmallP b
  sc : Num.SmallP c
  sd : Num.SmallP d
theorem spot_good {p : Int} {s : Int × Int} (h : Num.goodP p s = true) : Num.isSpot p (spD s) = true := by rw [Num.isSpot_good]; exact h
theorem four_all {p : Int} {a b c d : Int × Int} (ha : Num.goodP p a = true) (hb : Num.goodP p b = true) (hc : Num.goodP p c = true) (hd : Num.goodP p d = true) : [spD a, spD b, spD c, spD d].all (Num.isSpot p) = true := by
  show (Num.isSpot p (spD a) && (Num.isSpot p (spD b) && (Num.isSpot p (spD c) && (Num.isSpot p (spD d) && true)))) = true
  rw [spot_good ha, spot_good hb, spot_good hc, spot_good hd]
  rfl
theorem once_four {a b c d : Int × Int} (h : [a, b, c, d].Nodup) : (once [[a.1, a.2], [b.1, b.2], [c.1, c.2], [d.1, d.2]]).length = 4 := by
  have inj : ∀ x y : Int × Int, ([x.1, x.2] : List Int) = [y.1, y.2] → x = y := fun x y e => Prod.ext (List.cons.inj e).1 (List.cons.inj (List.cons.inj e).2).1
  have nd : ([a, b, c, d].map fun s => ([s.1, s.2] : List Int)).Nodup := by
    unfold List.Nodup at h ⊢
    rw [List.pairwise_map]
    exact h.imp fun hne e => hne (inj _ _ e)
  exact (once_uniq nd fun x => Iff.rfl).symm
theorem once_back {a b c : Int × Int} : (once [[a.1, a.2], [b.1, b.2], [c.1, c.2], [a.1, a.2]]).length ≠ 4 := by
  have le : ∀ xs : List (List Int), (once xs).length ≤ xs.length := fun xs => by
    induction xs with
    | nil => exact Nat.le_refl _
    | cons x xs ih =>
      unfold once
      split
      · exact Nat.le_succ_of_le ih
      · exact Nat.succ_le_succ ih
  have h : (once [[b.1, b.2], [c.1, c.2], [a.1, a.2]]).length ≤ 3 := le _
  have m : [a.1, a.2] ∈ once [[b.1, b.2], [c.1, c.2], [a.1, a.2]] := once_mem.mpr (by simp)
  rw [once, if_pos m]
  intro z
  rw [z] at h
  exact absurd h (by decide)


abbrev s_cross_ratio : Stmt := top 26
theorem sc_cross_ratio : FnScope ["prime", "spots", "spot", "a", "b", "c", "d", "numbers", "number"] ["prime", "spots"] (defScope s_cross_ratio) := ⟨rfl, rfl, rfl, by decide +kernel, rfl, by decide +kernel, by decide +kernel⟩
abbrev R_cross_ratio (Y : Cn) : FX := fun as β r β' => ∃ d v, as = [.imm d, .imm v] ∧ ((∃ p, d = .int p ∧ Num.PrimeI p ∧ ((∃ x y z u, v = four x y z u ∧ FineS p x y z u ∧ r = .ok (tupI (Num.crF p x y z u))) ∨ BadS p v ∧ r = .ex Y.cO none)) ∨ Num.isPrime d = false ∧ r = .ex Y.cN (some ("given", d))) ∧ β = none ∧ β' = none
theorem ok_cross_ratio {P : Program} {w : World} {K : PySem.W.Frag} {mg : Str → Option Value} {base : Heap} {Y : Cn} (F : DefAt K "cross_ratio" s_cross_ratio) (hX : K.In base) (hG : base.Ns mainGlobals mg) (T : Txt K mg Y) (G_need_prime : FnX P w K mg base 3 "need_prime" ["prime"] (R_need_prime Y)) (G_made_normal : FnG P w K mg base 2 "made_normal" ["prime", "numbers"] R_made_normal) (G_bracket : FnG P w K mg base 1 "bracket" ["one", "other"] R_bracket) (G_settled : FnG P w K mg base 1 "settled" ["prime", "number"] R_settled) (G_is_spot : FnG P w K mg base 4 "is_spot" ["prime", "value"] R_is_spot) : FnX P w K mg base 5 "cross_ratio" ["prime", "spots"] (R_cross_ratio Y) := by
  have nd := sc_cross_ratio.nd
  refine fnX_mk F hX hG sc_cross_ratio (fun as β r β' h => by first | exact FR.len h | (obtain ⟨_, rfl, _⟩ := h; rfl) | (obtain ⟨_, _, rfl, _⟩ := h; rfl) | (obtain ⟨_, _, _, rfl, _⟩ := h; rfl) | (obtain ⟨_, _, _, _, rfl, _⟩ := h; rfl) | (obtain ⟨_, _, _, _, _, rfl, _⟩ := h; rfl)) (fun _ _ _ _ _ _ _ us hl => match us, hl with | [_, _], _ => rfl) (fun f cdv A outer s H E hr => ⟨_, (pss_cons (ps_expr (pe_fnX G_need_prime (hr.mono (by decide)) (pass_x (takes_of rfl rfl rfl rfl)) (pa_cons (pv 0) pa_nil))) (pss_cons (ps_if (PW.pt (pw_or (pt_not (pt_val (pe_callB (call_isiK (K := K)) (by rfl) T.z_isinstance bo_isinstance (pa_cons (pv 1) (pa_cons (pe_bltn (v := .ty "tuple") (by rfl) T.z_tuple bo_tuple rfl) pa_nil))))) (pw_or1 (pt_not (pt_val (pe_callB (cr_all rfl) (by rfl) T.z_all bo_all (pa_cons (pe_lc (own := [("spot", 2)]) rfl nd (pi_tup (pv 1)) (blkOk_by (N := ["prime", "spots", "spot", "a", "b", "c", "d", "numbers", "number"]) (sc := defScope s_cross_ratio) (by decide +kernel)) (fun _ _ _ _ _ => by exact (pg_name (i := 2) nd rfl (Or.inl rfl))) (fun _ _ _ _ _ => by exact pts_nil) (fun _ _ _ _ _ => by exact (pe_fn G_is_spot (hr.mono (by decide)) (pa_cons (pv 0) (pa_cons (pv 2) pa_nil))))) pa_nil))))))) (pss_one (ps_raiseBare T.b_InvalidOperation (takes_of rfl rfl rfl rfl))) pss_nil) (pss_cons (ps_if (PW.pt (pw_or (pt_cmpR op_ne (pe_callB (c_lenK (K := K)) (by rfl) T.z_len bo_len (pa_cons (pv 1) pa_nil)) pe_int (nomark _)) (pw_or1 (pt_cmpR op_ne (TDC.pe_lenSetT hr.units (pv 1) T.z_len T.z_set (K := K)) pe_int (nomark _))))) (pss_one (ps_raiseBare T.b_InvalidOperation (takes_of rfl rfl rfl rfl))) pss_nil) (pss_cons (ps_asg (pv 1) (pg_tup rfl (pgs_cons (pg_name (i := 3) nd rfl (Or.inl rfl)) (pgs_cons (pg_name (i := 4) nd rfl (Or.inl rfl)) (pgs_cons (pg_name (i := 5) nd rfl (Or.inl rfl)) (pgs_cons (pg_name (i := 6) nd rfl (Or.inl rfl)) pgs_nil)))))) (pss_cons (ps_set (i := 7) nd rfl (Or.inl rfl) (pe_tup (pa_cons (pe_op op_mulW (pe_fn G_bracket (hr.mono (by decide)) (pa_cons (pv 3) (pa_cons (pv 5) pa_nil))) (pe_fn G_bracket (hr.mono (by decide)) (pa_cons (pv 4) (pa_cons (pv 6) pa_nil)))) (pa_cons (pe_op op_mulW (pe_fn G_bracket (hr.mono (by decide)) (pa_cons (pv 3) (pa_cons (pv 6) pa_nil))) (pe_fn G_bracket (hr.mono (by decide)) (pa_cons (pv 4) (pa_cons (pv 5) pa_nil)))) pa_nil)))) (pss_one (ps_ret (pe_fn G_made_normal (hr.mono (by decide)) (pa_cons (pv 0) (pa_cons (pe_lc (own := [("number", 8)]) rfl nd (pi_tup (pv 7)) (blkOk_by (N := ["prime", "spots", "spot", "a", "b", "c", "d", "numbers", "number"]) (sc := defScope s_cross_ratio) (by decide +kernel)) (fun _ _ _ _ _ => by exact (pg_name (i := 8) nd rfl (Or.inl rfl))) (fun _ _ _ _ _ => by exact pts_nil) (fun _ _ _ _ _ => by exact (pe_fn G_settled (hr.mono (by decide)) (pa_cons (pv 0) (pa_cons (pv 8) pa_nil))))) pa_nil)))))))))), fun as β r β' hR => ?_⟩)
  obtain ⟨d, v, rfl, hd, rfl, rfl⟩ := hR
  rcases hd with ⟨p, rfl, hp, hv⟩ | ⟨h, rfl⟩
  · have h1 : EvB K (tCall (spX K (R_need_prime Y)) [] E (tCons (tVar 0) tNil)) (startR ["prime", "spots", "spot", "a", "b", "c", "d", "numbers", "number"] [.imm (.int p), .imm v]) none .none none := x_call0 (a_con (d_var rfl) a_nil) ⟨_, rfl, .inl ⟨Num.isPrime_of hp, rfl⟩, rfl, rfl⟩
    have isT : ∀ {c : Bool}, kitB (tyD v) "tuple" = some c → EvB K (tCB (rIsi K) (tCons (tVar 1) (tCons (tC (.ty "tuple")) tNil))) (startR ["prime", "spots", "spot", "a", "b", "c", "d", "numbers", "number"] [.imm (.int p), .imm v]) none (.bool c) none := fun h => d_isi (d_var rfl) h
    have hall : ∀ es, v = .tuple es → es.length ≤ 1000 → EvB K (tCB (rAll K) (tCons (tLc (iTup K (tVar 1)) (gName 2) tYes (tCall (spR K R_is_spot) [] E0 (tCons (tVar 0) (tCons (tVar 2) tNil))) [2]) tNil)) (startR ["prime", "spots", "spot", "a", "b", "c", "d", "numbers", "number"] [.imm (.int p), .imm v]) none (.bool (es.all (Num.isSpot p))) none := fun es e hl => by
      subst e
      refine EvB.to (d_all (bs := es.map (Num.isSpot p)) ?_) (by rw [List.all_map]; rfl)
      refine EvB.to (d_lcT (rs := es.map fun d => .bool (Num.isSpot p d)) (d_var rfl) (LcR.map (fun d => .bool (Num.isSpot p d)) fun d _ => c_f2 (d_var rfl) (d_var rfl) hp) (by rw [List.length_map]; omega) (wipe_ok (by decide))) (by rw [List.map_map]; rfl)
    have first : ∀ es, v = .tuple es → es.length ≤ 1000 → TtB K (tOr (tNot (tTest (tCB (rIsi K) (tCons (tVar 1) (tCons (tC (.ty "tuple")) tNil))))) (tNot (tTest (tCB (rAll K) (tCons (tLc (iTup K (tVar 1)) (gName 2) tYes (tCall (spR K R_is_spot) [] E0 (tCons (tVar 0) (tCons (tVar 2) tNil))) [2]) tNil))))) (startR ["prime", "spots", "spot", "a", "b", "c", "d", "numbers", "number"] [.imm (.int p), .imm v]) none (!es.all (Num.isSpot p)) none := fun es e hl => t_orF ((t_not (t_test (isT (c := true) (by rw [e] <;> rfl)))).to rfl) (t_not (t_test (hall es e hl)))
    rcases hv with ⟨x, y, z, u, rfl, hf, rfl⟩ | ⟨hb, rfl⟩
    · have gd : ∀ {s : Int × Int}, Num.GoodN p s → Num.SmallP s → Num.goodP p s = true := fun h1 h2 => Num.good_iff.mpr ⟨h1, h2⟩
      have s2 : ∀ {s : Int × Int}, Num.SmallP s → s.1.natAbs < 2 ^ 200 ∧ s.2.natAbs < 2 ^ 200 := fun h => h.sz (by decide)
      have s1 : ∀ {s : Int × Int}, Num.SmallP s → Sz 100 s := fun h => h.sz (by decide)
      have t1 := (first _ rfl (by show 4 ≤ 1000; decide)).to (c' := false) (by rw [four_all (gd hf.four.ga hf.sa) (gd hf.four.gb hf.sb) (gd hf.four.gc hf.sc) (gd hf.four.gd hf.sd)] <;> rfl)
      refine .ok (.ret (st_sq (st_drop h1) (st_sq (st_ifF t1 st_next) (st_sq (st_ifF (t_orF ((t_test (d_neI (d_len (d_var rfl) (.inr rfl)) d_int)).to rfl) ((t_test (d_neI (d_lenSetT (ns := [[x.1, x.2], [y.1, y.2], [z.1, z.2], [u.1, u.2]]) (d_var rfl) (by show 4 < 64; decide)) d_int)).to (by rw [once_four hf.four.nd] <;> rfl))) st_next) (st_sq (st_unpack (is := [3, 4, 5, 6]) (n := 4) (ds := [spD x, spD y, spD z, spD u]) (d_var rfl) rfl rfl) ?_)))))
      show StB K _ [some (.imm (.int p)), some (.imm (four x y z u)), none, some (.imm (spD x)), some (.imm (spD y)), some (.imm (spD z)), some (.imm (spD u)), none, none] none _ _
      refine st_sq (st_asg (d := tupI [(Num.crI x y z u).1, (Num.crI x y z u).2]) (d_tup (ds := [.int (Num.crI x y z u).1, .int (Num.crI x y z u).2]) (a_con (β1 := none) (d_mul (c_f2 (a := spD) (a' := spD) (x := x) (y := z) (g := fun x y => .int (Num.br x y)) (d_var rfl) (d_var rfl) ⟨s2 hf.sa, s2 hf.sc⟩) (c_f2 (a := spD) (a' := spD) (x := y) (y := u) (g := fun x y => .int (Num.br x y)) (d_var rfl) (d_var rfl) ⟨s2 hf.sb, s2 hf.sd⟩) (wide_mul (br_sz (s1 hf.sa) (s1 hf.sc)) (br_sz (s1 hf.sb) (s1 hf.sd)) (by decide) (by decide) (by decide))) (a_con (β1 := none) (d_mul (c_f2 (a := spD) (a' := spD) (x := x) (y := u) (g := fun x y => .int (Num.br x y)) (d_var rfl) (d_var rfl) ⟨s2 hf.sa, s2 hf.sd⟩) (c_f2 (a := spD) (a' := spD) (x := y) (y := z) (g := fun x y => .int (Num.br x y)) (d_var rfl) (d_var rfl) ⟨s2 hf.sb, s2 hf.sc⟩) (wide_mul (br_sz (s1 hf.sa) (s1 hf.sd)) (br_sz (s1 hf.sb) (s1 hf.sc)) (by decide) (by decide) (by decide))) a_nil)) rfl (by show 2 ≤ 100000; decide))) ?_
      show StB K _ [some (.imm (.int p)), some (.imm (four x y z u)), none, some (.imm (spD x)), some (.imm (spD y)), some (.imm (spD z)), some (.imm (spD u)), some (.imm (tupI [(Num.crI x y z u).1, (Num.crI x y z u).2])), none] none _ _
      rw [hf.four.made]
      have hab := Num.crI_abs hf.sa hf.sb hf.sc hf.sd
      refine st_ret (d_call0 (a_con (β1 := none) (d_var rfl) (a_con (β1 := none) (d := lstI ([(Num.crI x y z u).1, (Num.crI x y z u).2].map (Num.settled p))) (d_lcT (d_var rfl) ?_ (by show 2 ≤ 100000; decide) (wipe_ok (by decide))) a_nil)) ⟨p, _, [(Num.crI x y z u).1, (Num.crI x y z u).2].map (Num.settled p), rfl, ⟨.inl rfl, Num.told_ok hp (by show 2 ≤ 140; decide) (fun n hn => ?_) (Num.not_zero2 hf.four.cr.1)⟩, rfl, rfl, rfl⟩)
      · exact lc_ints' (ns := [(Num.crI x y z u).1, (Num.crI x y z u).2]) (fun n => .int (Num.settled p n)) fun n _ => c_f2 (d_var rfl) (d_var rfl) hp.small.1
      · simp only [List.mem_cons, List.not_mem_nil, or_false] at hn
        rcases hn with h | h <;> rw [h]
        · exact Num.small1000 hab.1
        · exact Num.small1000 hab.2
    · rcases hb with hnt | ⟨es, rfl, hl, hb⟩
      · exact .ex (stR_then (st_drop h1) (stR_seq (stR_ifT (t_orT ((t_not (t_test (isT (c := false) (by cases v <;> first | rfl | exact absurd rfl (hnt _))))).to rfl)) st_raise0)))
      · rcases hb with hb | ⟨ha, hn⟩ | ⟨x, y, z, rfl, gx, gy, gz⟩
        · exact .ex (stR_then (st_drop h1) (stR_seq (stR_ifT ((first _ rfl hl).to (by rw [hb] <;> rfl)) st_raise0)))
        · exact .ex (stR_then (st_drop h1) (stR_then (st_ifF ((first _ rfl hl).to (by rw [ha] <;> rfl)) st_next) (stR_seq (stR_ifT (t_orT ((t_test (d_neI (d_len (d_var rfl) (.inr rfl)) d_int)).to (by rw [decide_eq_false (by omega)] <;> rfl))) st_raise0))))
        · exact .ex (stR_then (st_drop h1) (stR_then (st_ifF ((first _ rfl hl).to (by rw [four_all gx gy gz gx] <;> rfl)) st_next) (stR_seq (stR_ifT (t_orF ((t_test (d_neI (d_len (d_var rfl) (.inr rfl)) d_int)).to rfl) ((t_test (d_neI (d_lenSetT (ns := [[x.1, x.2], [y.1, y.2], [z.1, z.2], [x.1, x.2]]) (d_var rfl) (by show 4 < 64; decide)) d_int)).to (by rw [decide_eq_false (fun e => once_back (a := x) (b := y) (c := z) (by omega))] <;> rfl))) st_raise0))))
  · exact .ex (stR_seq (stR_drop (x_raise0 (a_con (d_var rfl) a_nil) ⟨_, rfl, .inr ⟨h, rfl⟩, rfl, rfl⟩)))


abbrev s_is_harmonic : Stmt := top 27
theorem sc_is_harmonic : FnScope ["prime", "spots"] ["prime", "spots"] (defScope s_is_harmonic) := ⟨rfl, rfl, rfl, by decide +kernel, rfl, by decide +kernel, by decide +kernel⟩
abbrev R_is_harmonic (Y : Cn) : FX := fun as β r β' => ∃ d v, as = [.imm d, .imm v] ∧ ((∃ p, d = .int p ∧ Num.PrimeI p ∧ ((∃ x y z u, v = four x y z u ∧ FineS p x y z u ∧ r = .ok (.bool (decide (Num.settled p (Num.crF p x y z u).sum = 0)))) ∨ BadS p v ∧ r = .ex Y.cO none)) ∨ Num.isPrime d = false ∧ r = .ex Y.cN (some ("given", d))) ∧ β = none ∧ β' = none
theorem ok_is_harmonic {P : Program} {w : World} {K : PySem.W.Frag} {mg : Str → Option Value} {base : Heap} {Y : Cn} (F : DefAt K "is_harmonic" s_is_harmonic) (hX : K.In base) (hG : base.Ns mainGlobals mg) (T : Txt K mg Y) (G_settled : FnG P w K mg base 1 "settled" ["prime", "number"] R_settled) (G_cross_ratio : FnX P w K mg base 5 "cross_ratio" ["prime", "spots"] (R_cross_ratio Y)) : FnX P w K mg base 6 "is_harmonic" ["prime", "spots"] (R_is_harmonic Y) := by
  have nd := sc_is_harmonic.nd
  refine fnX_mk F hX hG sc_is_harmonic (fun as β r β' h => by first | exact FR.len h | (obtain ⟨_, rfl, _⟩ := h; rfl) | (obtain ⟨_, _, rfl, _⟩ := h; rfl) | (obtain ⟨_, _, _, rfl, _⟩ := h; rfl) | (obtain ⟨_, _, _, _, rfl, _⟩ := h; rfl) | (obtain ⟨_, _, _, _, _, rfl, _⟩ := h; rfl)) (fun _ _ _ _ _ _ _ us hl => match us, hl with | [_, _], _ => rfl) (fun f cdv A outer s H E hr => ⟨_, (pss_one (ps_ret (pe_cmpR op_eq (pe_fn G_settled (hr.mono (by decide)) (pa_cons (pv 0) (pa_cons (pe_callB (cr_sumT rfl) (by rfl) T.z_sum bo_sum (pa_cons (pe_fnX G_cross_ratio (hr.mono (by decide)) (pass_x (takes_of rfl rfl rfl rfl)) (pa_cons (pv 0) (pa_cons (pv 1) pa_nil))) pa_nil)) pa_nil))) pe_int (nomark _)))), fun as β r β' hR => ?_⟩)
  obtain ⟨d, v, rfl, hd, rfl, rfl⟩ := hR
  rcases hd with ⟨p, rfl, hp, hv⟩ | ⟨h, rfl⟩
  · rcases hv with ⟨x, y, z, u, rfl, hf, rfl⟩ | ⟨hb, rfl⟩
    · refine .ok (.ret (st_ret (d_eqI (c_f2 (a := PyData.int) (a' := PyData.int) (x := p) (y := (Num.crF p x y z u).sum) (g := fun p n => .int (Num.settled p n)) (d_var rfl) (d_sumT (x_call0 (a_con (d_var rfl) (a_con (d_var rfl) a_nil)) ⟨_, _, rfl, .inl ⟨p, rfl, hp, .inl ⟨x, y, z, u, rfl, hf, rfl⟩⟩, rfl, rfl⟩)) hp.small.1) d_int)))
    · exact .ex (stR_ret (evR_l (evR_call (arR_tl (d_var rfl) (arR_hd (evR_cb (arR_hd (x_raise0 (a_con (d_var rfl) (a_con (d_var rfl) a_nil)) ⟨_, _, rfl, .inl ⟨p, rfl, hp, .inr ⟨hb, rfl⟩⟩, rfl, rfl⟩))))))))
  · exact .ex (stR_ret (evR_l (evR_call (arR_tl (d_var rfl) (arR_hd (evR_cb (arR_hd (x_raise0 (a_con (d_var rfl) (a_con (d_var rfl) a_nil)) ⟨_, _, rfl, .inr ⟨h, rfl⟩, rfl, rfl⟩))))))))

end K34
/-! ## NumS -/
set_option Elab.async false
set_option linter.all false
set_option maxRecDepth 100000
set_option maxHeartbeats 1000100
/-! Four drawn spots. Plain Lean, but for the drawn order. -/
namespace Num
open PySem
def lawP : List Int := [0, 3, 5, 7, 11, 13]
theorem lawP_prime {p : Int} (h : p ∈ lawP) : PrimeI p := by
  unfold lawP at h
  simp only [List.mem_cons, List.not_mem_nil, or_false] at h
  unfold PrimeI primes
  simp only [List.mem_cons, List.not_mem_nil, or_false]
  omega
theorem small_good : ∀ p ∈ lawP, ∀ s ∈ smallSpots p, goodP p s = true := by decide +kernel
theorem small_nodup : ∀ p ∈ lawP, (smallSpots p).Nodup := by decide +kernel
theorem small_len : ∀ p ∈ lawP, 4 ≤ (smallSpots p).length ∧ (smallSpots p).length ≤ 1000 := by decide +kernel
def great : List (Int × Int) := [(1, 9999999), (1, -9999991), (997, 1000), (9999999, -2), (1000, -999)]
theorem great_good : ∀ s ∈ great, goodP 0 s = true := by decide +kernel
theorem great_new : ∀ s ∈ great, s ∉ smallSpots 0 := by decide +kernel
def mxF (p : Int) (ns : List Int) : List (Int × Int) × List Int := mixP (0, 0) (smallSpots p).length (smallSpots p) ns
def greatF (ns : List Int) : (Int × Int) × List Int := (great.getD (grabF 5 ns).1.toNat (0, 0), (grabF 5 ns).2)
def spotsF (p : Int) (ns : List Int) : List (Int × Int) × List Int :=
  if p = 0 then
    if (grabF 5 (mxF p ns).2).1 = 0 then (((mxF p ns).1.take 4).set (grabF 4 (greatF (grabF 5 (mxF p ns).2).2).2).1.toNat (greatF (grabF 5 (mxF p ns).2).2).1, (grabF 4 (greatF (grabF 5 (mxF p ns).2).2).2).2)
    else ((mxF p ns).1.take 4, (grabF 5 (mxF p ns).2).2)
  else ((mxF p ns).1.take 4, (mxF p ns).2)
structure Good4 (p : Int) (xs : List (Int × Int)) : Prop where
  len : xs.length = 4
  nd : xs.Nodup
  good : ∀ s ∈ xs, goodP p s = true
theorem nodup_set {α : Type} {g : α} : ∀ {xs : List α} {i : Nat}, xs.Nodup → g ∉ xs → (xs.set i g).Nodup
  | [], _, _, _ => List.nodup_nil
  | x :: xs, 0, h, n => by
    rw [List.set_cons_zero]
    exact List.nodup_cons.mpr ⟨fun m => n (List.mem_cons_of_mem _ m), (List.nodup_cons.mp h).2⟩
  | x :: xs, i + 1, h, n => by
    rw [List.set_cons_succ]
    (obtain ⟨h1, h2⟩ := List.nodup_cons.mp h)
    refine List.nodup_cons.mpr ⟨fun m => ?_, nodup_set h2 fun m => n (List.mem_cons_of_mem _ m)⟩
    rcases List.mem_or_eq_of_mem_set m with m | e
    · exact h1 m
    · exact n (by rw [← e]; exact List.mem_cons_self ..)
theorem mixP_bag {α : Type} (z : α) : ∀ (k : Nat) (xs : List α) {ns : List Int}, k ≤ xs.length → (∃ n, BagI n ns) → ∃ n, BagI n (mixP z k xs ns).2
  | 0, _, _, _, h => h
  | k + 1, xs, ns, hk, ⟨n, h⟩ => by
    have hi := grab_in (xs := xs) (by omega) ns
    unfold mixP
    exact mixP_bag z k _ (by rw [List.length_eraseIdx_of_lt hi]; omega) ⟨_, grab_bag (by omega) h⟩
theorem base_ok {p : Int} (hp : p ∈ lawP) (ns : List Int) : Good4 p ((mxF p ns).1.take 4) ∧ ∀ s ∈ (mxF p ns).1.take 4, s ∈ smallSpots p := by
  have pm := mixP_perm (0, 0) (smallSpots p).length (smallSpots p) ns rfl
  have hl := small_len p hp
  have sub : ∀ s ∈ (mxF p ns).1.take 4, s ∈ smallSpots p := fun s hs => pm.mem_iff.mp (List.mem_of_mem_take hs)
  refine ⟨⟨?_, ?_, fun s hs => small_good p hp s (sub s hs)⟩, sub⟩
  · rw [List.length_take]
    have : (mxF p ns).1.length = (smallSpots p).length := pm.length_eq
    omega
  · exact List.Nodup.sublist (List.take_sublist _ _) (pm.nodup_iff.mpr (small_nodup p hp))
theorem great_mem (ns : List Int) : (greatF ns).1 ∈ great := by
  have h := grab_rng (t := 5) (by decide) ns
  unfold greatF
  have hlt : (grabF 5 ns).1.toNat < great.length := by show _ < 5; omega
  rw [List.getD_eq_getElem?_getD, List.getElem?_eq_getElem hlt]
  exact List.getElem_mem hlt
theorem spots_ok {p : Int} (hp : p ∈ lawP) (ns : List Int) : Good4 p (spotsF p ns).1 := by
  obtain ⟨h, sub⟩ := base_ok hp ns
  unfold spotsF
  by_cases h0 : p = 0
  · rw [if_pos h0]
    split
    · subst h0
      have gm := great_mem (grabF 5 (mxF 0 ns).2).2
      refine ⟨by rw [List.length_set]; exact h.len, nodup_set h.nd fun m => great_new _ gm (sub _ m), fun s hs => ?_⟩
      rcases List.mem_or_eq_of_mem_set hs with m | e
      · exact h.good s m
      · rw [e]; exact great_good _ gm
    · exact h
  · rw [if_neg h0]
    exact h
theorem mx_bag {p : Int} {ns : List Int} (hb : ∃ n, BagI n ns) : ∃ n, BagI n (mxF p ns).2 := mixP_bag _ _ _ (Nat.le_refl _) hb
theorem grab_bag' {t : Int} (ht : 0 < t) {ns : List Int} (hb : ∃ n, BagI n ns) : ∃ n, BagI n (grabF t ns).2 := let ⟨n, h⟩ := hb; ⟨n + 1, grab_bag ht h⟩
theorem spots_bag {p : Int} {ns : List Int} (hb : ∃ n, BagI n ns) : ∃ n, BagI n (spotsF p ns).2 := by
  have h1 := mx_bag (p := p) hb
  have h2 := grab_bag' (t := 5) (by decide) h1
  unfold spotsF
  split
  · split
    · exact grab_bag' (by decide) (grab_bag' (t := 5) (by decide) h2)
    · exact h2
  · exact h1
/-! ### four, drawn or led -/
def lastP (p : Int) : Int := if p = 0 then -1 else p - 1
def ledL (p : Int) (t : TabI) : List (Int × Int) := [ledF p t (1, 0), ledF p t (0, 1), ledF p t (1, 1), ledF p t (1, lastP p)]
def fourF (p : Int) (ns : List Int) : List (Int × Int) × List Int :=
  if (grabF 3 ns).1 > 0 then spotsF p (grabF 3 ns).2
  else if (grabF 3 (tableF p (grabF 3 ns).2).2).1 = 0 then mixP (0, 0) 4 (ledL p (tableF p (grabF 3 ns).2).1) (grabF 3 (tableF p (grabF 3 ns).2).2).2
  else (ledL p (tableF p (grabF 3 ns).2).1, (grabF 3 (tableF p (grabF 3 ns).2).2).2)
theorem own_good : ∀ p ∈ lawP, (goodP p (1, 0) && goodP p (0, 1) && goodP p (1, 1) && goodP p (1, lastP p) && decide ([(1, 0), (0, 1), (1, 1), (1, lastP p)] : List (Int × Int)).Nodup && decide ((lastP p).natAbs ≤ 18)) = true := by decide +kernel
theorem ledL_ok {p : Int} (hp : p ∈ lawP) {t : TabI} (ht : TabOk p t) : Good4 p (ledL p t) := by
  have h := own_good p hp
  (simp only [Bool.and_eq_true, decide_eq_true_eq] at h)
  obtain ⟨⟨⟨⟨⟨h1, h2⟩, h3⟩, h4⟩, h5⟩, h6⟩ := h
  obtain ⟨g1, s1⟩ := good_iff.mp h1
  obtain ⟨g2, s2⟩ := good_iff.mp h2
  obtain ⟨g3, s3⟩ := good_iff.mp h3
  obtain ⟨g4, s4⟩ := good_iff.mp h4
  have pr := lawP_prime hp
  obtain ⟨hf, _⟩ := led_four ht ⟨pr, g1, g2, g3, g4, h5⟩ s1 s2 s3 s4
  have sm : ∀ {s : Int × Int}, GoodN p s → s.1.natAbs ≤ 18 ∧ s.2.natAbs ≤ 18 → goodP p (ledF p t s) = true := fun {s} hg hs => by
    obtain ⟨a, b, c⟩ := led_good pr ht (hg.unit pr) (k := 18) hs (by decide) (by decide)
    exact good_iff.mpr ⟨a, Nat.le_trans b (by decide), Nat.le_trans c (by decide)⟩
  refine ⟨rfl, hf.nd, fun s hs => ?_⟩
  unfold ledL at hs
  simp only [List.mem_cons, List.not_mem_nil, or_false] at hs
  rcases hs with e | e | e | e <;> rw [e]
  · exact sm g1 (by decide)
  · exact sm g2 (by decide)
  · exact sm g3 (by decide)
  · exact sm g4 ⟨by show (1 : Int).natAbs ≤ 18; decide, h6⟩
theorem four_ok {p : Int} (hp : p ∈ lawP) (ns : List Int) : Good4 p (fourF p ns).1 := by
  unfold fourF
  split
  · exact spots_ok hp _
  · have ht : TabOk p (tableF p (grabF 3 ns).2).1 := table_ok (lawP_prime hp) _
    have h := ledL_ok hp ht
    split
    · have pm := mixP_perm (0, 0) 4 (ledL p (tableF p (grabF 3 ns).2).1) (grabF 3 (tableF p (grabF 3 ns).2).2).2 rfl
      exact ⟨pm.length_eq.trans h.len, pm.nodup_iff.mpr h.nd, fun s hs => h.good s (pm.mem_iff.mp hs)⟩
    · exact h
theorem four_bag {p : Int} (hp : p ∈ lawP) {ns : List Int} (hb : ∃ n, BagI n ns) : ∃ n, BagI n (fourF p ns).2 := by
  have h1 := grab_bag' (t := 3) (by decide) hb
  have h2 := grab_bag' (t := 3) (by decide) (table_bag (lawP_prime hp) h1)
  unfold fourF
  split
  · exact spots_bag h1
  · split
    · exact mixP_bag _ _ _ (by show 4 ≤ 4; decide) h2
    · exact h2
theorem Good4.ex {p : Int} {xs : List (Int × Int)} (h : Good4 p xs) (hp : PrimeI p) : ∃ a b c d, xs = [a, b, c, d] ∧ FourI p a b c d ∧ SmallP a ∧ SmallP b ∧ SmallP c ∧ SmallP d := by
  match xs, h with
  | [a, b, c, d], h =>
    obtain ⟨a1, a2⟩ := good_iff.mp (h.good a (by simp))
    obtain ⟨b1, b2⟩ := good_iff.mp (h.good b (by simp))
    obtain ⟨c1, c2⟩ := good_iff.mp (h.good c (by simp))
    obtain ⟨d1, d2⟩ := good_iff.mp (h.good d (by simp))
    exact ⟨a, b, c, d, rfl, ⟨hp, a1, b1, c1, d1, h.nd⟩, a2, b2, c2, d2⟩
  | [], h => exact absurd h.len (by simp)
  | [_], h => exact absurd h.len (by simp)
  | [_, _], h => exact absurd h.len (by simp)
  | [_, _, _], h => exact absurd h.len (by simp)
  | _ :: _ :: _ :: _ :: _ :: _, h => exact absurd h.len (by simp)
end Num
/-! ## K34h -/
set_option Elab.async false
set_option linter.all false
set_option maxRecDepth 100000
set_option maxHeartbeats 1100000
namespace K34
open PySem L2 TD PySem.Spec PyProof.Rows
variable [TabW]
section
variable {K : PySem.W.Frag} {ρ : Rho} {ns : List Int} {tl tb tc : TE} {i : Nat} {E : XK}
/-- one of some ints, of any data -/
theorem c_oneI {xs : List Int} (hi : ρ[i]? = some (some Slot.bag)) (h : EvB K tl ρ (some ns) (lstI xs) (some ns)) (hx : xs ≠ []) (hl : xs.length ≤ 1000) (hb : ∃ n, Num.BagI n ns) : EvB K (tCall (spR K R_law_one_of) [] E (tCons (tVar i) (tCons tl tNil))) ρ (some ns) (.int (Num.oneF xs ns).1) (some (Num.oneF xs ns).2) := by
  obtain ⟨n, hb⟩ := hb
  have hp : 0 < xs.length := List.length_pos_iff.mpr hx
  have hg := Num.grab_rng (t := (xs.length : Int)) (by omega) ns
  have e : ((xs.map PyData.int).length : Int) = (xs.length : Int) := by rw [List.length_map]
  have q := c_fD (K := K) (E := E) (a := fun ds : List Dt => [.imm (.list ds)]) (x := xs.map PyData.int) (ρ := ρ) (t := tCons (tVar i) (tCons tl tNil)) (a_bg hi (a_con h a_nil)) (P := fun ds => ds ≠ [] ∧ ds.length ≤ 1000) (g := fun ds ns => (ds.getD (Num.grabF (ds.length : Int) ns).1.toNat .none, (Num.grabF (ds.length : Int) ns).2)) ⟨by simpa using hx, by rw [List.length_map]; exact hl⟩ hb
  dsimp only at q
  rw [e] at q
  exact q.to (getD_int (by omega))
theorem c_oneD {xs : List Dt} (hi : ρ[i]? = some (some Slot.bag)) (h : EvB K tl ρ (some ns) (.list xs) (some ns)) (hx : xs ≠ []) (hl : xs.length ≤ 1000) (hb : ∃ n, Num.BagI n ns) : EvB K (tCall (spR K R_law_one_of) [] E (tCons (tVar i) (tCons tl tNil))) ρ (some ns) (xs.getD (Num.grabF (xs.length : Int) ns).1.toNat .none) (some (Num.grabF (xs.length : Int) ns).2) := by
  obtain ⟨n, hb⟩ := hb
  exact c_fD (a := fun ds : List Dt => [.imm (.list ds)]) (x := xs) (a_bg hi (a_con h a_nil)) (P := fun ds => ds ≠ [] ∧ ds.length ≤ 1000) (g := fun ds ns => (ds.getD (Num.grabF (ds.length : Int) ns).1.toNat .none, (Num.grabF (ds.length : Int) ns).2)) ⟨hx, hl⟩ hb
theorem c_grab {t : Int} (hi : ρ[i]? = some (some Slot.bag)) (h : EvB K tl ρ (some ns) (.int t) (some ns)) (ht : 0 < t) (hz : t ≤ 1000) (hb : ∃ n, Num.BagI n ns) : EvB K (tCall (spR K R_law_grab) [] E (tCons (tVar i) (tCons tl tNil))) ρ (some ns) (.int (Num.grabF t ns).1) (some (Num.grabF t ns).2) := by
  obtain ⟨n, hb⟩ := hb
  exact c_fD (a := fun t : Int => [.imm (.int t)]) (x := t) (P := fun t => 0 < t ∧ t.natAbs < 2 ^ 3000) (g := fun t ns => (.int (Num.grabF t ns).1, (Num.grabF t ns).2)) (a_bg hi (a_con h a_nil)) ⟨ht, Nat.lt_of_le_of_lt (m := 1000) (by omega) (by decide)⟩ hb
theorem getD_mem {xs : List Dt} (hx : xs ≠ []) (ns : List Int) : xs.getD (Num.grabF (xs.length : Int) ns).1.toNat .none ∈ xs := by
  have hp : 0 < xs.length := List.length_pos_iff.mpr hx
  have hg := Num.grab_rng (t := (xs.length : Int)) (by omega) ns
  have hlt : (Num.grabF (xs.length : Int) ns).1.toNat < xs.length := by omega
  rw [List.getD_eq_getElem?_getD, List.getElem?_eq_getElem hlt]
  exact List.getElem_mem hlt
end
abbrev nxD (xs : List Dt) (ns : List Int) : List Int := (Num.grabF (xs.length : Int) ns).2
abbrev pkD (xs : List Dt) (ns : List Int) : Dt := xs.getD (Num.grabF (xs.length : Int) ns).1.toNat .none
theorem cut_take {ds : List Dt} {k : Nat} : TD.cutD ds none (some (k : Int)) = ds.take k := by
  unfold TD.cutD
  rw [HT.sIx_none, HT.sIx_nat, Nat.sub_zero, List.drop_zero]
  by_cases h : k ≤ ds.length
  · rw [Nat.min_eq_left h]
  · (rw [Nat.min_eq_right (by omega), List.take_of_length_le (Nat.le_refl _), List.take_of_length_le (by omega)])
theorem ixN_pos {n : Nat} {k : Int} (h0 : 0 ≤ k) (h1 : k < n) : ixN n k = some k.toNat := by
  unfold ixN
  rw [if_pos h0, if_pos h1]
theorem tup2_show {u v : Int} (hu : u.natAbs ≤ 10 ^ 30) (hv : v.natAbs ≤ 10 ^ 30) : ShowOk (tupI [u, v]) := by
  have lg : ∀ {n : Int}, n.natAbs ≤ 10 ^ 30 → n.natAbs.log2 < 1920 := fun {n} h => by
    by_cases z : n.natAbs = 0
    · rw [z]; decide
    · refine (Nat.log2_lt z).mpr (Nat.lt_of_le_of_lt h (by decide +kernel))
  have sh : ∀ {n : Int}, n.natAbs ≤ 10 ^ 30 → (PyData.shown (.int n)).length ≤ 40 := fun {n} h => by
    have e := int_text_length_le10 (k := 31) (by decide) (Nat.lt_of_le_of_lt h (by decide +kernel))
    show (Str.ofString (toString n)).length ≤ 40
    rw [PySem.ofString_length]
    exact Nat.le_trans e (by decide)
  refine ⟨rfl, ?_, rfl, (by show PyData.depthAll ([u, v].map PyData.int) + 1 ≤ 20; rw [depth_ints]; decide), ?_⟩
  · show (decide (u.natAbs.log2 < 1920) && (decide (v.natAbs.log2 < 1920) && true)) = true
    rw [decide_eq_true (lg hu), decide_eq_true (lg hv)]
    rfl
  · have h := PyData.shown_le 40 (by decide) (tupI [u, v]) (by
      show (decide ((PyData.shown (.int u)).length ≤ 40) && (decide ((PyData.shown (.int v)).length ≤ 40) && true)) = true
      rw [decide_eq_true (sh hu), decide_eq_true (sh hv)]
      rfl)
    have hw : (tupI [u, v]).weight ≤ 4000 := by
      have h1 := lg hu
      have h2 := lg hv
      show PyData.weightAll [.int u, .int v] ≤ 4000
      simp only [PyData.weightAll, PyData.weight]
      split <;> split <;> omega
    have h2 : (40 + 2) * (tupI [u, v]).weight ≤ 42 * 4000 := Nat.mul_le_mul_left 42 hw
    rw [sizeLine_eq]
    omega
theorem seq_assoc (a b c : TS) : tSeq (tSeq a b) c = tSeq a (tSeq b c) := rfl
theorem bool_show (b : Bool) : ShowOk (.bool b) := by cases b <;> exact ⟨rfl, rfl, rfl, by decide, by decide⟩
theorem eqv_tups : ∀ ns : List (List Int), PyData.eqvAll (ns.map tupI) (ns.map tupI) = true
  | [] => rfl
  | n :: ns => by
    show (PyData.eqv (tupI n) (tupI n) && PyData.eqvAll (ns.map tupI) (ns.map tupI)) = true
    have e : PyData.eqv (tupI n) (tupI n) = decide (n = n) := eqv_ints n n
    rw [eqv_tups ns, e, decide_eq_true rfl]
    rfl
theorem flat_tups : ∀ ns : List (List Int), flatL (ns.map tupI) = true
  | [] => rfl
  | n :: ns => by
    show (flatL (n.map .int) && flatL (ns.map tupI)) = true
    rw [flat_ints, flat_tups ns]
    rfl
theorem lay_tups : ∀ ns : List (List Int), PyData.canLayAll0 (ns.map tupI) = true ∧ PyData.depthAll (ns.map tupI) ≤ 1
  | [] => ⟨rfl, by decide⟩
  | n :: ns => by
    obtain ⟨h1, h2⟩ := lay_tups ns
    refine ⟨?_, ?_⟩
    · show (PyData.canLayAll0 (n.map .int) && PyData.canLayAll0 (ns.map tupI)) = true
      rw [lay_ints, h1]
      rfl
    · show max (PyData.depthAll (n.map .int) + 1) (PyData.depthAll (ns.map tupI)) ≤ 1
      rw [depth_ints]
      omega
theorem shaped_tups (ns : List (List Int)) : SeqAt.shaped (.list (ns.map tupI)) = true := by
  obtain ⟨h1, h2⟩ := lay_tups ns
  show (PyData.canLayAll0 (ns.map tupI) && decide (PyData.depthAll (ns.map tupI) + 1 ≤ 64)) = true
  rw [h1, decide_eq_true (by omega)]
  rfl
theorem d_eqTups {K : PySem.W.Frag} {ρ : Rho} {β β1 β2 : Bag} {ta tb : TE} {ss : List (List Int)} (ha : EvB K ta ρ β (.list (ss.map tupI)) β1) (hb : EvB K tb ρ β1 (.list (ss.map tupI)) β2) : EvB K (tOp (rNeD K) ta tb) ρ β (.bool false) β2 :=
  (d_neD ha hb (flat_tups ss) (flat_tups ss) (shaped_tups ss) (shaped_tups ss)).to (congrArg (fun b => PyData.bool (!b)) (eqv_tups ss))
theorem great_getD {i : Nat} (h : i < 5) : (Num.great.map spD).getD i .none = spD (Num.great.getD i (0, 0)) := by
  have h' : i < Num.great.length := h
  rw [List.getD_eq_getElem?_getD, List.getElem?_map, List.getElem?_eq_getElem h', List.getD_eq_getElem?_getD, List.getElem?_eq_getElem h']
  rfl
theorem five_to {ns : List Int} : (Num.grabF 5 ns).1.toNat < 5 := by
  have := Num.grab_rng (t := 5) (by decide) ns
  omega
section
variable {K : PySem.W.Frag} {ρ : Rho} {β : Bag}
theorem d_pr {ta tb : TE} {m n : Int} (h : EvB K ta ρ β (.int m) β) (h' : EvB K tb ρ β (.int n) β) : EvB K (tTup (tCons ta (tCons tb tNil))) ρ β (spD (m, n)) β := d_tup (ds := [.int m, .int n]) (a_con h (a_con h' a_nil)) rfl (by show 2 ≤ 100000; decide)
theorem d_four {ta tb tc td : TE} {x y z u : Int × Int} (h1 : EvB K ta ρ β (spD x) β) (h2 : EvB K tb ρ β (spD y) β) (h3 : EvB K tc ρ β (spD z) β) (h4 : EvB K td ρ β (spD u) β) : EvB K (tTup (tCons ta (tCons tb (tCons tc (tCons td tNil))))) ρ β (four x y z u) β := d_tup (ds := [spD x, spD y, spD z, spD u]) (a_con h1 (a_con h2 (a_con h3 (a_con h4 a_nil)))) rfl (by show 4 ≤ 100000; decide)
end
abbrev oneLast (p : Int) : List (Int × Int) := [(1, 0), (0, 1), (1, 1), (1, Num.lastP p)]
abbrev strangeA (p : Int) : List Dt := [.none, .int 1, .str "a", .list [.int 1, .int 0], .tuple [.int 1], .tuple [.int 1, .int 0, .int 0], .tuple [.int 0, .int 0], (if p = 0 then spD (2, 4) else spD (2, 1)), spD (-1, 2), .tuple [.bool true, .int 0], .tuple [.int 1, .none]]
abbrev strangeB (p : Int) : List Dt := [(if p = 0 then spD (1, 10000001) else spD (1, p)), spD (1, Num.big), .dict []]
abbrev strangeL (p : Int) (s : Int × Int) : List Dt := strangeA p ++ (strangeB p ++ [spD s])
theorem strange_no : ∀ p ∈ Num.lawP, ∀ d ∈ strangeA p ++ strangeB p, Num.isSpot p d = false := by decide +kernel
theorem strange_mem {p : Int} {s : Int × Int} (hp : p ∈ Num.lawP) {d : Dt} (h : d ∈ strangeL p s) : Num.isSpot p d = false ∨ d = spD s := by
  unfold strangeL at h
  rw [← List.append_assoc] at h
  (rcases List.mem_append.mp h with h | h)
  · exact .inl (strange_no p hp d h)
  · (exact .inr (List.mem_singleton.mp h))


abbrev s_law_spots : Stmt := top 38
theorem sc_law_spots : FnScope ["_law_bag_here", "_law_prime", "_law_many", "_law_found", "_law_great"] ["_law_bag_here", "_law_prime", "_law_many"] (defScope s_law_spots) := ⟨rfl, rfl, rfl, by decide +kernel, rfl, by decide +kernel, by decide +kernel⟩
abbrev R_law_spots : FR := fun as β r β' => ∃ p n ns, as = [.bag, .imm (.int p), .imm (.int 4)] ∧ p ∈ Num.lawP ∧ Num.BagI n ns ∧ r = .list ((Num.spotsF p ns).1.map spD) ∧ β = some ns ∧ β' = some (Num.spotsF p ns).2
theorem ok_law_spots {P : Program} {w : World} {K : PySem.W.Frag} {mg : Str → Option Value} {base : Heap} {Y : Cn} (F : DefAt K "_law_spots" s_law_spots) (hX : K.In base) (hG : base.Ns mainGlobals mg) (T : Txt K mg Y) (G_law_mixed : FnG P w K mg base 2 "_law_mixed" ["_law_bag_here", "_law_items"] R_law_mixed) (G_law_one_of : FnG P w K mg base 2 "_law_one_of" ["_law_bag_here", "_law_items"] R_law_one_of) (G_law_small_spots : FnG P w K mg base 1 "_law_small_spots" ["_law_prime"] R_law_small_spots) (G_law_grab : FnG P w K mg base 1 "_law_grab" ["_law_bag_here", "_law_total"] R_law_grab) : FnG P w K mg base 3 "_law_spots" ["_law_bag_here", "_law_prime", "_law_many"] R_law_spots := by
  have nd := sc_law_spots.nd
  refine fn_mk F hX hG sc_law_spots (fun as β r β' h => by first | exact FR.len h | (obtain ⟨_, rfl, _⟩ := h; rfl) | (obtain ⟨_, _, rfl, _⟩ := h; rfl) | (obtain ⟨_, _, _, rfl, _⟩ := h; rfl) | (obtain ⟨_, _, _, _, rfl, _⟩ := h; rfl) | (obtain ⟨_, _, _, _, _, rfl, _⟩ := h; rfl)) (fun _ _ _ _ _ _ _ us hl => match us, hl with | [_, _, _], _ => rfl) (fun f cdv A outer s H E hr => ⟨_, (pss_cons (ps_set (i := 3) nd rfl (Or.inl rfl) (pe_slice sl_list (pe_fn G_law_mixed (hr.mono (by decide)) (pa_cons (pv 0) (pa_cons (pe_fn G_law_small_spots (hr.mono (by decide)) (pa_cons (pv 1) pa_nil)) pa_nil))) po_none (po_some (pv 2)))) (pss_cons (ps_if (PW.pt (pw_and (pt_cmpR op_eq (pv 1) pe_int (nomark _)) (pw_and1 (pt_cmpR op_eq (pe_fn G_law_grab (hr.mono (by decide)) (pa_cons (pv 0) (pa_cons pe_int pa_nil))) pe_int (nomark _))))) (pss_cons (ps_set (i := 4) nd rfl (Or.inl rfl) (pe_fn G_law_one_of (hr.mono (by decide)) (pa_cons (pv 0) (pa_cons (pe_lst (pa_cons (pe_tup (pa_cons pe_int (pa_cons pe_int pa_nil))) (pa_cons (pe_tup (pa_cons pe_int (pa_cons (pe_un un_neg pe_int) pa_nil))) (pa_cons (pe_tup (pa_cons pe_int (pa_cons pe_int pa_nil))) (pa_cons (pe_tup (pa_cons pe_int (pa_cons (pe_un un_neg pe_int) pa_nil))) (pa_cons (pe_tup (pa_cons pe_int (pa_cons (pe_un un_neg pe_int) pa_nil))) pa_nil)))))) pa_nil)))) (pss_one (ps_asg (pv 4) (pg_sub (pv 3) (pe_fn G_law_grab (hr.mono (by decide)) (pa_cons (pv 0) (pa_cons (pe_callB (c_lenK (K := K)) (by rfl) T.z_len bo_len (pa_cons (pv 3) pa_nil)) pa_nil))) set_list)))) pss_nil) (pss_one (ps_ret (pv 3))))), fun as β r β' hR => ?_⟩)
  obtain ⟨p, n, ns, rfl, hp, hb, rfl, rfl, rfl⟩ := hR
  dsimp only [cxOf, Cx.nox, Cx.wish] at *
  have pr := Num.lawP_prime hp
  have hl := Num.small_len p hp
  have hm := Num.mx_bag (p := p) ⟨n, hb⟩
  have mixed : EvB K (tCall (spR K R_law_mixed) [] E0 (tCons (tVar 0) (tCons (tCall (spR K R_law_small_spots) [] E0 (tCons (tVar 1) tNil)) tNil))) (startR ["_law_bag_here", "_law_prime", "_law_many", "_law_found", "_law_great"] [.bag, .imm (.int p), .imm (.int 4)]) (some ns) (.list ((Num.mxF p ns).1.map spD)) (some (Num.mxF p ns).2) := by
    have e := Num.mixF_map (0, 0) spD (Num.smallSpots p).length (Num.smallSpots p) ns (Nat.le_refl _)
    have h := d_call (K := K) (E := E0) (R := R_law_mixed) (ρ := startR ["_law_bag_here", "_law_prime", "_law_many", "_law_found", "_law_great"] [.bag, .imm (.int p), .imm (.int 4)]) (t := tCons (tVar 0) (tCons (tCall (spR K R_law_small_spots) [] E0 (tCons (tVar 1) tNil)) tNil)) (a_bg rfl (a_con (c_f1 (a := PyData.int) (x := p) (P := fun p => 0 ≤ p ∧ p ≤ 19) (g := fun p => .list ((Num.smallSpots p).map spD)) (d_var rfl) pr.small) a_nil)) ⟨.list ((Num.smallSpots p).map spD), (Num.smallSpots p).map spD, n, ns, rfl, ⟨.inl rfl, by rw [List.length_map]; exact hl.2⟩, hb, rfl, rfl, rfl⟩ rfl
    rw [List.length_map, e] at h
    exact h
  have hc : TD.cutD ((Num.mxF p ns).1.map spD) none (some 4) = ((Num.mxF p ns).1.take 4).map spD := by
    have := cut_take (ds := (Num.mxF p ns).1.map spD) (k := 4)
    rw [List.map_take]
    exact this
  refine .ret (st_ownSl (i := 3) (by show 3 < 5; decide) mixed o_none (o_some (i := 4) (d_var rfl)) ?_)
  rw [hc]
  have hbase := Num.base_ok hp ns
  show StO K 3 _ [some .bag, some (.imm (.int p)), some (.imm (.int 4)), none, none] (some (Num.mxF p ns).2) _ _ _
  have tp : ∀ c : Bool, decide (p = 0) = c → TtB K (tTest (tOp rEq (tVar 1) (tC (.int 0)))) [some .bag, some (.imm (.int p)), some (.imm (.int 4)), none, none] (some (Num.mxF p ns).2) c (some (Num.mxF p ns).2) := fun c h => (t_test (d_eqI (d_var rfl) d_int)).to h
  have tg : ∀ c : Bool, decide ((Num.grabF 5 (Num.mxF p ns).2).1 = 0) = c → TtB K (tTest (tOp rEq (tCall (spR K R_law_grab) [] E0 (tCons (tVar 0) (tCons (tC (.int 5)) tNil))) (tC (.int 0)))) [some .bag, some (.imm (.int p)), some (.imm (.int 4)), none, none] (some (Num.mxF p ns).2) c (some (Num.grabF 5 (Num.mxF p ns).2).2) := fun c h => (t_test (d_eqI (c_grab rfl d_int (by decide) (by decide) hm) d_int)).to h
  unfold Num.spotsF
  by_cases h0 : p = 0
  · rw [if_pos h0]
    by_cases h1 : (Num.grabF 5 (Num.mxF p ns).2).1 = 0
    · rw [if_pos h1]
      have hb2 := Num.grab_bag' (t := 5) (by decide) hm
      have hb3 := Num.grab_bag' (t := 5) (by decide) hb2
      have g4 := Num.grab_rng (t := 4) (by decide) (Num.greatF (Num.grabF 5 (Num.mxF p ns).2).2).2
      refine so_if (t_andT (tp true (decide_eq_true h0)) (tg true (decide_eq_true h1))) (fun _ => ?_) fun z => by cases z
      rw [seq_assoc]
      refine so_asg (j := 4) (d := spD (Num.greatF (Num.grabF 5 (Num.mxF p ns).2).2).1) (β1 := some (Num.greatF (Num.grabF 5 (Num.mxF p ns).2).2).2) (by decide) (EvB.to (c_oneD (xs := Num.great.map spD) rfl (d_lst (ds := Num.great.map spD) (a_con (d_pr d_int d_int) (a_con (d_pr d_int (d_neg d_int)) (a_con (d_pr d_int d_int) (a_con (d_pr d_int (d_neg d_int)) (a_con (d_pr d_int (d_neg d_int)) a_nil))))) rfl (by decide)) (by decide) (by decide) hb2) (great_getD five_to)) ?_
      refine so_setK (k := (Num.grabF 4 (Num.greatF (Num.grabF 5 (Num.mxF p ns).2).2).2).1) (n := (Num.grabF 4 (Num.greatF (Num.grabF 5 (Num.mxF p ns).2).2).2).1.toNat) (β2 := some (Num.grabF 4 (Num.greatF (Num.grabF 5 (Num.mxF p ns).2).2).2).2) (d_var rfl) (c_grab rfl (EvB.to (d_len (d_var rfl) (.inl rfl)) (by rw [List.length_map, hbase.1.len]; rfl)) (by decide) (by decide) hb3) (ixN_pos g4.1 (by rw [List.length_map, hbase.1.len]; exact g4.2)) ?_
      rw [← List.map_set]
      exact so_end (st_ret (d_var rfl))
    · rw [if_neg h1]
      exact so_if (t_andT (tp true (decide_eq_true h0)) (tg false (decide_eq_false h1))) (fun z => by cases z) fun _ => so_end (st_sq st_next (st_ret (d_var rfl)))
  · rw [if_neg h0]
    exact so_if (t_andF (tp false (decide_eq_false h0))) (fun z => by cases z) fun _ => so_end (st_sq st_next (st_ret (d_var rfl)))


abbrev s_law_four : Stmt := top 45
theorem sc_law_four : FnScope ["_law_bag_here", "_law_prime", "_law_table", "_law_last", "_law_found", "_law_spot"] ["_law_bag_here", "_law_prime"] (defScope s_law_four) := ⟨rfl, rfl, rfl, by decide +kernel, rfl, by decide +kernel, by decide +kernel⟩
abbrev R_law_four : FR := fD (fun p : Int => [.imm (.int p)]) (fun p => p ∈ Num.lawP) fun p ns => (.list ((Num.fourF p ns).1.map spD), (Num.fourF p ns).2)
theorem ok_law_four {P : Program} {w : World} {K : PySem.W.Frag} {mg : Str → Option Value} {base : Heap} {Y : Cn} (F : DefAt K "_law_four" s_law_four) (hX : K.In base) (hG : base.Ns mainGlobals mg) (T : Txt K mg Y) (G_law_grab : FnG P w K mg base 1 "_law_grab" ["_law_bag_here", "_law_total"] R_law_grab) (G_law_spots : FnG P w K mg base 3 "_law_spots" ["_law_bag_here", "_law_prime", "_law_many"] R_law_spots) (G_law_table_two : FnG P w K mg base 2 "_law_table_two" ["_law_bag_here", "_law_prime"] R_law_table_two) (G_law_spot_led : FnG P w K mg base 3 "_law_spot_led" ["_law_prime", "_law_spot", "_law_table"] R_law_spot_led) (G_law_mixed : FnG P w K mg base 2 "_law_mixed" ["_law_bag_here", "_law_items"] R_law_mixed) : FnG P w K mg base 4 "_law_four" ["_law_bag_here", "_law_prime"] R_law_four := by
  have nd := sc_law_four.nd
  refine fn_mk F hX hG sc_law_four (fun as β r β' h => by first | exact FR.len h | (obtain ⟨_, rfl, _⟩ := h; rfl) | (obtain ⟨_, _, rfl, _⟩ := h; rfl) | (obtain ⟨_, _, _, rfl, _⟩ := h; rfl) | (obtain ⟨_, _, _, _, rfl, _⟩ := h; rfl) | (obtain ⟨_, _, _, _, _, rfl, _⟩ := h; rfl)) (fun _ _ _ _ _ _ _ us hl => match us, hl with | [_, _], _ => rfl) (fun f cdv A outer s H E hr => ⟨_, (pss_cons (ps_if (pt_cmpR op_gt (pe_fn G_law_grab (hr.mono (by decide)) (pa_cons (pv 0) (pa_cons pe_int pa_nil))) pe_int (nomark _)) (pss_one (ps_ret (pe_fn G_law_spots (hr.mono (by decide)) (pa_cons (pv 0) (pa_cons (pv 1) (pa_cons pe_int pa_nil)))))) pss_nil) (pss_cons (ps_asg (pe_tup (pa_cons (pe_fn G_law_table_two (hr.mono (by decide)) (pa_cons (pv 0) (pa_cons (pv 1) pa_nil))) (pa_cons (pe_ifExp (pt_cmpR op_eq (pv 1) pe_int (nomark _)) (pe_un un_neg pe_int) (pe_op op_sub (pv 1) pe_int)) pa_nil))) (pg_tup rfl (pgs_cons (pg_name (i := 2) nd rfl (Or.inr rfl)) (pgs_cons (pg_name (i := 3) nd rfl (Or.inl rfl)) pgs_nil)))) (pss_cons (ps_setLc (i := 4) (own := [("_law_spot", 5)]) rfl nd rfl rfl (sw_true rfl rfl rfl (by decide +kernel)) (pi_list (pe_lst (pa_cons (pe_tup (pa_cons pe_int (pa_cons pe_int pa_nil))) (pa_cons (pe_tup (pa_cons pe_int (pa_cons pe_int pa_nil))) (pa_cons (pe_tup (pa_cons pe_int (pa_cons pe_int pa_nil))) (pa_cons (pe_tup (pa_cons pe_int (pa_cons (pv 3) pa_nil))) pa_nil)))))) (blkOk_by (N := ["_law_bag_here", "_law_prime", "_law_table", "_law_last", "_law_found", "_law_spot"]) (sc := defScope s_law_four) (by decide +kernel)) (fun _ _ _ _ _ => by exact (pg_name (i := 5) nd rfl (Or.inl rfl))) (fun _ _ _ _ _ => by exact pts_nil) (fun _ _ _ _ _ => by exact (pe_fn G_law_spot_led (hr.mono (by decide)) (pa_cons (pv 1) (pa_cons (pv 5) (pa_cons (pv 2) pa_nil)))))) (pss_one (ps_ret (pe_ifExp (pt_cmpR op_eq (pe_fn G_law_grab (hr.mono (by decide)) (pa_cons (pv 0) (pa_cons pe_int pa_nil))) pe_int (nomark _)) (pe_fn G_law_mixed (hr.mono (by decide)) (pa_cons (pv 0) (pa_cons (pv 4) pa_nil))) (pv 4))))))), fun as β r β' hR => ?_⟩)
  obtain ⟨p, n, ns, rfl, hp, hb, rfl, rfl, rfl⟩ := hR
  dsimp only [cxOf, Cx.nox, Cx.wish] at *
  have pr := Num.lawP_prime hp
  have hb1 := Num.grab_bag' (t := 3) (by decide) ⟨n, hb⟩
  have tg : ∀ c : Bool, decide ((Num.grabF 3 ns).1 > 0) = c → TtB K (tTest (tOp (rI0 fun i j => .bl (decide (j < i))) (tCall (spR K R_law_grab) [] E0 (tCons (tVar 0) (tCons (tC (.int 3)) tNil))) (tC (.int 0)))) [some .bag, some (.imm (.int p)), none, none, none, none] (some ns) c (some (Num.grabF 3 ns).2) := fun c h => (t_test (d_gt (c_grab rfl d_int (by decide) (by decide) ⟨n, hb⟩) d_int)).to h
  unfold Num.fourF
  by_cases h1 : (Num.grabF 3 ns).1 > 0
  · rw [if_pos h1]
    obtain ⟨m, hm⟩ := hb1
    exact .ret (st_seqR (st_ifT (tg true (decide_eq_true h1)) (st_ret (d_call (a_bg rfl (a_con (d_var rfl) (a_con d_int a_nil))) ⟨p, m, _, rfl, hp, hm, rfl, rfl, rfl⟩ rfl))))
  · rw [if_neg h1]
    have hT := Num.table_bag pr hb1
    have ht := Num.table_ok pr (Num.grabF 3 ns).2
    have hb2 := Num.grab_bag' (t := 3) (by decide) hT
    obtain ⟨m, hm⟩ := hb1
    have hlast : EvB K (tIf (tTest (tOp rEq (tVar 1) (tC (.int 0)))) (tUn (rU fun i => .int (-i)) (tC (.int 1))) (tOp (rI0 fun i j => .int (i - j)) (tVar 1) (tC (.int 1)))) [some .bag, some (.imm (.int p)), none, none, none, none] (some (Num.tableF p (Num.grabF 3 ns).2).2) (.int (Num.lastP p)) (some (Num.tableF p (Num.grabF 3 ns).2).2) := by
      unfold Num.lastP
      by_cases h0 : p = 0
      · rw [if_pos h0]
        exact d_ifT ((t_test (d_eqI (d_var rfl) d_int)).to (decide_eq_true h0)) (d_neg d_int)
      · rw [if_neg h0]
        exact d_ifF ((t_test (d_eqI (d_var rfl) d_int)).to (decide_eq_false h0)) (d_sub (d_var rfl) d_int)
    refine .ret (st_seq (st_ifF (tg false (decide_eq_false h1)) st_next) (st_seq (β1 := some (Num.tableF p (Num.grabF 3 ns).2).2) (st_unpack (is := [2, 3]) (n := 2) (ds := [tbD (Num.tableF p (Num.grabF 3 ns).2).1, .int (Num.lastP p)]) (d_tup (ds := [tbD (Num.tableF p (Num.grabF 3 ns).2).1, .int (Num.lastP p)]) (a_con (c_fD (a := fun p : Int => [.imm (.int p)]) (P := Num.PrimeI) (g := fun p ns => (tbD (Num.tableF p ns).1, (Num.tableF p ns).2)) (x := p) (a_bg rfl (a_con (d_var rfl) a_nil)) pr hm) (a_con hlast a_nil)) rfl (by show 2 ≤ 100000; decide)) rfl rfl) ?_))
    generalize (Num.tableF p (Num.grabF 3 ns).2).1 = t at *
    generalize (Num.tableF p (Num.grabF 3 ns).2).2 = ms at *
    show StB K _ [some .bag, some (.imm (.int p)), some (.imm (tbD t)), some (.imm (.int (Num.lastP p))), none, none] (some ms) _ _
    have hlp := Num.own_good p hp
    simp only [Bool.and_eq_true, decide_eq_true_eq] at hlp
    have hlz := hlp.2
    have led : ∀ s ∈ oneLast p, EvB K (tCall (spR K R_law_spot_led) [] E0 (tCons (tVar 1) (tCons (tVar 5) (tCons (tVar 2) tNil)))) [some .bag, some (.imm (.int p)), some (.imm (tbD t)), some (.imm (.int (Num.lastP p))), none, some (.imm (spD s))] (some ms) (spD (Num.ledF p t s)) (some ms) := fun s hs => by
      have hz : s.1.natAbs ≤ 18 ∧ s.2.natAbs ≤ 18 := by
        simp only [List.mem_cons, List.not_mem_nil, or_false] at hs
        rcases hs with e | e | e | e <;> rw [e]
        · decide
        · decide
        · decide
        · exact ⟨by show (1 : Int).natAbs ≤ 18; decide, hlz⟩
      have up : ∀ {n : Int} {k : Nat}, n.natAbs ≤ 18 → 5 ≤ k → n.natAbs < 2 ^ k := fun {n k} h hk => Nat.lt_of_lt_of_le (m := 2 ^ 5) (by omega) (Nat.pow_le_pow_right (by decide) hk)
      refine EvB.to (d_call0 (R := R_law_spot_led) (a_con (d_var rfl) (a_con (d_var rfl) (a_con (d_var rfl) a_nil))) ⟨p, s, t, rfl, ⟨pr, ⟨up hz.1 (by decide), up hz.2 (by decide)⟩, ⟨up ht.2.1 (by decide), up ht.2.2.1 (by decide)⟩, ⟨up ht.2.2.2.1 (by decide), up ht.2.2.2.2 (by decide)⟩⟩, rfl, rfl, rfl⟩) ?_
      rw [Num.led_is]
    refine st_sq (st_asg (d := .list ((Num.ledL p t).map spD)) (d_lcL (ds := (oneLast p).map spD) (d_lst (ds := (oneLast p).map spD) (a_con (d_pr d_int d_int) (a_con (d_pr d_int d_int) (a_con (d_pr d_int d_int) (a_con (d_pr d_int (d_var rfl)) a_nil)))) rfl (by show 4 ≤ 100000; decide)) (.yes t_yes0 (led (1, 0) (by simp)) (.yes t_yes0 (led (0, 1) (by simp)) (.yes t_yes0 (led (1, 1) (by simp)) (.yes t_yes0 (led (1, Num.lastP p) (by simp)) (.nil _ _))))) (by show 4 ≤ 100000; decide) (wipe_ok (by decide)))) ?_
    show StB K _ [some .bag, some (.imm (.int p)), some (.imm (tbD t)), some (.imm (.int (Num.lastP p))), some (.imm (.list ((Num.ledL p t).map spD))), none] (some ms) _ _
    have tz : ∀ c : Bool, decide ((Num.grabF 3 ms).1 = 0) = c → TtB K (tTest (tOp rEq (tCall (spR K R_law_grab) [] E0 (tCons (tVar 0) (tCons (tC (.int 3)) tNil))) (tC (.int 0)))) [some .bag, some (.imm (.int p)), some (.imm (tbD t)), some (.imm (.int (Num.lastP p))), some (.imm (.list ((Num.ledL p t).map spD))), none] (some ms) c (some (Num.grabF 3 ms).2) := fun c h => (t_test (d_eqI (c_grab rfl d_int (by decide) (by decide) hT) d_int)).to h
    by_cases h2 : (Num.grabF 3 ms).1 = 0
    · rw [if_pos h2]
      obtain ⟨k, hk⟩ := hb2
      have e := Num.mixF_map (0, 0) spD 4 (Num.ledL p t) (Num.grabF 3 ms).2 (by show 4 ≤ 4; decide)
      have h := d_call (K := K) (E := E0) (R := R_law_mixed) (ρ := [some .bag, some (.imm (.int p)), some (.imm (tbD t)), some (.imm (.int (Num.lastP p))), some (.imm (.list ((Num.ledL p t).map spD))), none]) (t := tCons (tVar 0) (tCons (tVar 4) tNil)) (a_bg rfl (a_con (d_var rfl) a_nil)) ⟨.list ((Num.ledL p t).map spD), (Num.ledL p t).map spD, k, (Num.grabF 3 ms).2, rfl, ⟨.inl rfl, by show 4 ≤ 1000; decide⟩, hk, rfl, rfl, rfl⟩ rfl
      rw [show ((Num.ledL p t).map spD).length = 4 from rfl, e] at h
      exact st_ret (d_ifT (tz true (decide_eq_true h2)) h)
    · rw [if_neg h2]
      exact st_ret (d_ifF (tz false (decide_eq_false h2)) (d_var rfl))


abbrev s_law_strange_spot : Stmt := top 47
theorem sc_law_strange_spot : FnScope ["_law_bag_here", "_law_prime", "_law_spots_here", "_law_odd"] ["_law_bag_here", "_law_prime", "_law_spots_here"] (defScope s_law_strange_spot) := ⟨rfl, rfl, rfl, by decide +kernel, rfl, by decide +kernel, by decide +kernel⟩
abbrev R_law_strange_spot : FR := fun as β r β' => ∃ p s xs n ns, as = [.bag, .imm (.int p), .imm (.list (spD s :: xs))] ∧ Num.PrimeI p ∧ Num.BagI n ns ∧ r = pkD (strangeL p s) ns ∧ β = some ns ∧ β' = some (nxD (strangeL p s) ns)
theorem ok_law_strange_spot {P : Program} {w : World} {K : PySem.W.Frag} {mg : Str → Option Value} {base : Heap} {Y : Cn} (F : DefAt K "_law_strange_spot" s_law_strange_spot) (hX : K.In base) (hG : base.Ns mainGlobals mg) (T : Txt K mg Y) (G_law_one_of : FnG P w K mg base 2 "_law_one_of" ["_law_bag_here", "_law_items"] R_law_one_of) : FnG P w K mg base 3 "_law_strange_spot" ["_law_bag_here", "_law_prime", "_law_spots_here"] R_law_strange_spot := by
  have nd := sc_law_strange_spot.nd
  refine fn_mk F hX hG sc_law_strange_spot (fun as β r β' h => by first | exact FR.len h | (obtain ⟨_, rfl, _⟩ := h; rfl) | (obtain ⟨_, _, rfl, _⟩ := h; rfl) | (obtain ⟨_, _, _, rfl, _⟩ := h; rfl) | (obtain ⟨_, _, _, _, rfl, _⟩ := h; rfl) | (obtain ⟨_, _, _, _, _, rfl, _⟩ := h; rfl)) (fun _ _ _ _ _ _ _ us hl => match us, hl with | [_, _, _], _ => rfl) (fun f cdv A outer s H E hr => ⟨_, (pss_cons (ps_set (i := 3) nd rfl (Or.inl rfl) (pe_lst (pa_cons pe_non (pa_cons pe_int (pa_cons pe_str (pa_cons (pe_lst (pa_cons pe_int (pa_cons pe_int pa_nil))) (pa_cons (pe_tup (pa_cons pe_int pa_nil)) (pa_cons (pe_tup (pa_cons pe_int (pa_cons pe_int (pa_cons pe_int pa_nil)))) (pa_cons (pe_tup (pa_cons pe_int (pa_cons pe_int pa_nil))) (pa_cons (pe_ifExp (pt_cmpR op_eq (pv 1) pe_int (nomark _)) (pe_tup (pa_cons pe_int (pa_cons pe_int pa_nil))) (pe_tup (pa_cons pe_int (pa_cons pe_int pa_nil)))) (pa_cons (pe_tup (pa_cons (pe_un un_neg pe_int) (pa_cons pe_int pa_nil))) (pa_cons (pe_tup (pa_cons pe_bl (pa_cons pe_int pa_nil))) (pa_cons (pe_tup (pa_cons pe_int (pa_cons pe_non pa_nil))) pa_nil))))))))))))) (pss_one (ps_ret (pe_fn G_law_one_of (hr.mono (by decide)) (pa_cons (pv 0) (pa_cons (pe_op op_cat (pv 3) (pe_lst (pa_cons (pe_ifExp (pt_cmpR op_eq (pv 1) pe_int (nomark _)) (pe_tup (pa_cons pe_int (pa_cons (pe_op op_add (pe_op op_powW pe_int pe_int) pe_int) pa_nil))) (pe_tup (pa_cons pe_int (pa_cons (pv 1) pa_nil)))) (pa_cons (pe_tup (pa_cons pe_int (pa_cons (pe_op op_powW pe_int pe_int) pa_nil))) (pa_cons pe_dnewK (pa_cons (pe_ix ix_list (pv 2) pe_int (fun _ _ => rfl)) pa_nil)))))) pa_nil)))))), fun as β r β' hR => ?_⟩)
  obtain ⟨p, s, xs, n, ns, rfl, pr, hb, rfl, rfl, rfl⟩ := hR
  dsimp only [cxOf, Cx.nox, Cx.wish] at *
  have pick : ∀ {ρ : Rho} {ta tb : TE} {x y : Dt}, ρ[1]? = some (some (.imm (.int p))) → EvB K ta ρ (some ns) x (some ns) → EvB K tb ρ (some ns) y (some ns) → EvB K (tIf (tTest (tOp rEq (tVar 1) (tC (.int 0)))) ta tb) ρ (some ns) (if p = 0 then x else y) (some ns) := fun h1 hx hy => by
    by_cases h0 : p = 0
    · rw [if_pos h0]
      exact d_ifT ((t_test (d_eqI (d_var h1) d_int)).to (decide_eq_true h0)) hx
    · rw [if_neg h0]
      exact d_ifF ((t_test (d_eqI (d_var h1) d_int)).to (decide_eq_false h0)) hy
  refine .ret (st_sq (st_asg (d := .list (strangeA p)) (d_lst (ds := strangeA p) (a_con d_non (a_con d_int (a_con d_str (a_con (d_lst (ds := [.int 1, .int 0]) (a_con d_int (a_con d_int a_nil)) rfl (by decide)) (a_con (d_tup (ds := [.int 1]) (a_con d_int a_nil) rfl (by decide)) (a_con (d_tup (ds := [.int 1, .int 0, .int 0]) (a_con d_int (a_con d_int (a_con d_int a_nil))) rfl (by decide)) (a_con (d_pr d_int d_int) (a_con (pick rfl (d_pr d_int d_int) (d_pr d_int d_int)) (a_con (d_pr (d_neg d_int) d_int) (a_con (d_tup (ds := [.bool true, .int 0]) (a_con d_bl (a_con d_int a_nil)) rfl (by decide)) (a_con (d_tup (ds := [.int 1, .none]) (a_con d_int (a_con d_non a_nil)) rfl (by decide)) a_nil))))))))))) rfl (by show 11 ≤ 100000; decide))) ?_)
  show StB K _ [some .bag, some (.imm (.int p)), some (.imm (.list (spD s :: xs))), some (.imm (.list (strangeA p)))] (some ns) _ _
  refine st_ret (c_oneD (xs := strangeL p s) rfl (d_cat (ds := strangeA p) (es := strangeB p ++ [spD s]) (d_var rfl) (d_lst (ds := strangeB p ++ [spD s]) (a_con (pick rfl (d_pr d_int (d_add (d_pow d_int d_int ⟨by decide, by decide⟩) d_int)) (d_pr d_int (d_var rfl))) (a_con (d_pr d_int (d_pow d_int d_int ⟨by decide, by decide⟩)) (a_con d_dict0 (a_con (d_ixL (d_var rfl) d_int (at0 _ _)) a_nil)))) rfl (by show 4 ≤ 100000; decide)) (by show 11 + 4 ≤ 100000; decide)) (by simp) (by show 15 ≤ 1000; decide) ⟨n, hb⟩)

end K34
/-! ## K34i -/
set_option Elab.async false
set_option linter.all false
set_option maxRecDepth 100000
set_option maxHeartbeats 1100000
namespace K34
open PySem L2 TD PySem.Spec PyProof.Rows
open Evl (Ex ex_l ex_t fresh_back sq_of st_of sz_of sz_lt rMax2)
variable [TabW]
theorem FineS.good {p : Int} {x y z u : Int × Int} (h : FineS p x y z u) : Num.goodP p x = true ∧ Num.goodP p y = true ∧ Num.goodP p z = true ∧ Num.goodP p u = true :=
  ⟨Num.good_iff.mpr ⟨h.four.ga, h.sa⟩, Num.good_iff.mpr ⟨h.four.gb, h.sb⟩, Num.good_iff.mpr ⟨h.four.gc, h.sc⟩, Num.good_iff.mpr ⟨h.four.gd, h.sd⟩⟩
section
variable {K : PySem.W.Frag} {Y : Cn} {ρ : Rho} {β : Bag} {p : Int} {x y z u : Int × Int} {tp tv ta tb tc td : TE}
theorem c_cr (pr : Num.PrimeI p) (hp : EvB K tp ρ β (.int p) β) (hv : EvB K tv ρ β (four x y z u) β) (hf : FineS p x y z u) : EvB K (tCall (spX K (R_cross_ratio Y)) [] E0 (tCons tp (tCons tv tNil))) ρ β (tupI (Num.crF p x y z u)) β :=
  x_call0 (a_con hp (a_con hv a_nil)) ⟨_, _, rfl, .inl ⟨p, rfl, pr, .inl ⟨x, y, z, u, rfl, hf, rfl⟩⟩, rfl, rfl⟩
theorem c_ih (pr : Num.PrimeI p) (hp : EvB K tp ρ β (.int p) β) (hv : EvB K tv ρ β (four x y z u) β) (hf : FineS p x y z u) : EvB K (tCall (spX K (R_is_harmonic Y)) [] E0 (tCons tp (tCons tv tNil))) ρ β (.bool (decide (Num.settled p (Num.crF p x y z u).sum = 0))) β :=
  x_call0 (a_con hp (a_con hv a_nil)) ⟨_, _, rfl, .inl ⟨p, rfl, pr, .inl ⟨x, y, z, u, rfl, hf, rfl⟩⟩, rfl, rfl⟩
theorem c_nrm {m n : Int} (pr : Num.PrimeI p) (hm : m.natAbs < 2 ^ 1000) (hn : n.natAbs < 2 ^ 1000) (hp : EvB K tp ρ β (.int p) β) (h1 : EvB K ta ρ β (.int m) β) (h2 : EvB K tb ρ β (.int n) β) : EvB K (tCall (spR K R_law_normal) [] E0 (tCons tp (tCons (tTup (tCons ta (tCons tb tNil))) tNil))) ρ β (tupI (Num.normalF p [m, n])) β :=
  d_call0 (a_con hp (a_con (d_pr h1 h2) a_nil)) ⟨p, _, [m, n], rfl, ⟨.inr rfl, pr, by show 2 ≤ 140; decide, fun k hk => by
    simp only [List.mem_cons, List.not_mem_nil, or_false] at hk
    rcases hk with e | e <;> rw [e]
    · exact hm
    · exact hn⟩, rfl, rfl, rfl⟩
end


abbrev s_law_told_right : Stmt := top 46
theorem sc_law_told_right : FnScope ["_law_bag_here", "_law_prime", "_law_one", "_law_two", "_law_three", "_law_four_here", "_law_told", "_law_table", "_law_some", "_law_due", "_law_led", "_law_spot"] ["_law_bag_here", "_law_prime"] (defScope s_law_told_right) := ⟨rfl, rfl, rfl, by decide +kernel, rfl, by decide +kernel, by decide +kernel⟩
abbrev R_law_told_right : FR := fD (fun p : Int => [.imm (.int p)]) (fun p => p ∈ Num.lawP) fun p ns => (.bool true, (Num.tableF p (Num.fourF p ns).2).2)
theorem ok_law_told_right {P : Program} {w : World} {K : PySem.W.Frag} {mg : Str → Option Value} {base : Heap} {Y : Cn} (F : DefAt K "_law_told_right" s_law_told_right) (hX : K.In base) (hG : base.Ns mainGlobals mg) (T : Txt K mg Y) (G_law_four : FnG P w K mg base 4 "_law_four" ["_law_bag_here", "_law_prime"] R_law_four) (G_cross_ratio : FnX P w K mg base 5 "cross_ratio" ["prime", "spots"] (R_cross_ratio Y)) (G_law_table_two : FnG P w K mg base 2 "_law_table_two" ["_law_bag_here", "_law_prime"] R_law_table_two) (G_law_normal : FnG P w K mg base 2 "_law_normal" ["_law_prime", "_law_row"] R_law_normal) (G_law_cross_ratio : FnG P w K mg base 3 "_law_cross_ratio" ["_law_prime", "_law_spots_here"] R_law_cross_ratio) (G_is_harmonic : FnX P w K mg base 6 "is_harmonic" ["prime", "spots"] (R_is_harmonic Y)) (G_law_is_zero : FnG P w K mg base 1 "_law_is_zero" ["_law_prime", "_law_number"] R_law_is_zero) (G_law_spot_led : FnG P w K mg base 3 "_law_spot_led" ["_law_prime", "_law_spot", "_law_table"] R_law_spot_led) : FnH P w K mg base 7 "_law_told_right" ["_law_bag_here", "_law_prime"] R_law_told_right := by
  have nd := sc_law_told_right.nd
  refine fnH_mk F hX hG sc_law_told_right (fun as β r β' h => by first | exact FR.len h | (obtain ⟨_, rfl, _⟩ := h; rfl) | (obtain ⟨_, _, rfl, _⟩ := h; rfl) | (obtain ⟨_, _, _, rfl, _⟩ := h; rfl) | (obtain ⟨_, _, _, _, rfl, _⟩ := h; rfl) | (obtain ⟨_, _, _, _, _, rfl, _⟩ := h; rfl)) (fun _ _ _ _ _ _ _ us hl => match us, hl with | [_, _], _ => rfl) (fun f cdv A outer s H E hr => ⟨_, (pss_cons (ps_asg (pe_fn G_law_four (hr.toRoom.mono (by decide)) (pa_cons (pv 0) (pa_cons (pv 1) pa_nil))) (pg_unl rfl (pgs_cons (pg_name (i := 2) nd rfl (Or.inl rfl)) (pgs_cons (pg_name (i := 3) nd rfl (Or.inl rfl)) (pgs_cons (pg_name (i := 4) nd rfl (Or.inl rfl)) (pgs_cons (pg_name (i := 5) nd rfl (Or.inl rfl)) pgs_nil)))))) (pss_cons (ps_asg (pe_tup (pa_cons (pe_fnX (E := E0) G_cross_ratio (hr.toRoom.mono (by decide)) passL (pa_cons (pv 1) (pa_cons (pe_tup (pa_cons (pv 2) (pa_cons (pv 3) (pa_cons (pv 4) (pa_cons (pv 5) pa_nil))))) pa_nil))) (pa_cons (pe_fn G_law_table_two (hr.toRoom.mono (by decide)) (pa_cons (pv 0) (pa_cons (pv 1) pa_nil))) pa_nil))) (pg_tup rfl (pgs_cons (pg_name (i := 6) nd rfl (Or.inl rfl)) (pgs_cons (pg_name (i := 7) nd rfl (Or.inr rfl)) pgs_nil)))) (pss_cons (ps_if (pt_cmpR op_ne (pe_callB (call_rep (K := K) hr.gd hr.units) (by rfl) T.z_repr bo_repr (pa_cons (pv 6) pa_nil)) (pe_callB (call_rep (K := K) hr.gd hr.units) (by rfl) T.z_repr bo_repr (pa_cons (pe_fn G_law_cross_ratio (hr.toRoom.mono (by decide)) (pa_cons (pv 1) (pa_cons (pe_tup (pa_cons (pv 2) (pa_cons (pv 3) (pa_cons (pv 4) (pa_cons (pv 5) pa_nil))))) pa_nil))) pa_nil)) (nomark _)) (pss_one (ps_ret pe_bl)) pss_nil) (pss_cons (ps_if (pt_cmpR op_ne (pe_callB (call_rep (K := K) hr.gd hr.units) (by rfl) T.z_repr bo_repr (pa_cons (pe_fnX (E := E0) G_is_harmonic (hr.toRoom.mono (by decide)) passL (pa_cons (pv 1) (pa_cons (pe_tup (pa_cons (pv 2) (pa_cons (pv 3) (pa_cons (pv 4) (pa_cons (pv 5) pa_nil))))) pa_nil))) pa_nil)) (pe_callB (call_rep (K := K) hr.gd hr.units) (by rfl) T.z_repr bo_repr (pa_cons (pe_fn G_law_is_zero (hr.toRoom.mono (by decide)) (pa_cons (pv 1) (pa_cons (pe_op op_add (pe_ix (ix_ofK (K := K) (r := rIxT) ix_tup) (pv 6) pe_int (fun _ _ => rfl)) (pe_ix (ix_ofK (K := K) (r := rIxT) ix_tup) (pv 6) pe_int (fun _ _ => rfl))) pa_nil))) pa_nil)) (nomark _)) (pss_one (ps_ret pe_bl)) pss_nil) (pss_cons (ps_set (i := 8) nd rfl (Or.inl rfl) (pe_lst (pa_cons (pe_fnX (E := E0) G_cross_ratio (hr.toRoom.mono (by decide)) passL (pa_cons (pv 1) (pa_cons (pe_tup (pa_cons (pv 2) (pa_cons (pv 3) (pa_cons (pv 5) (pa_cons (pv 4) pa_nil))))) pa_nil))) (pa_cons (pe_fnX (E := E0) G_cross_ratio (hr.toRoom.mono (by decide)) passL (pa_cons (pv 1) (pa_cons (pe_tup (pa_cons (pv 4) (pa_cons (pv 5) (pa_cons (pv 2) (pa_cons (pv 3) pa_nil))))) pa_nil))) pa_nil)))) (pss_cons (ps_expr (pe_castBM (K := K) (pe_bm PySem.F.plainAttrs_list PySem.F.slot_list_append PySem.F.type_list_append mt_append (pv 8) (pa_cons (pe_fnX (E := E0) G_cross_ratio (hr.toRoom.mono (by decide)) passL (pa_cons (pv 1) (pa_cons (pe_tup (pa_cons (pv 2) (pa_cons (pv 4) (pa_cons (pv 3) (pa_cons (pv 5) pa_nil))))) pa_nil))) pa_nil)))) (pss_cons (ps_set (i := 9) nd rfl (Or.inl rfl) (pe_lst (pa_cons (pe_fn G_law_normal (hr.toRoom.mono (by decide)) (pa_cons (pv 1) (pa_cons (pe_tup (pa_cons (pe_ix (ix_ofK (K := K) (r := rIxT) ix_tup) (pv 6) pe_int (fun _ _ => rfl)) (pa_cons (pe_ix (ix_ofK (K := K) (r := rIxT) ix_tup) (pv 6) pe_int (fun _ _ => rfl)) pa_nil))) pa_nil))) (pa_cons (pv 6) (pa_cons (pe_fn G_law_normal (hr.toRoom.mono (by decide)) (pa_cons (pv 1) (pa_cons (pe_tup (pa_cons (pe_op op_sub (pe_ix (ix_ofK (K := K) (r := rIxT) ix_tup) (pv 6) pe_int (fun _ _ => rfl)) (pe_ix (ix_ofK (K := K) (r := rIxT) ix_tup) (pv 6) pe_int (fun _ _ => rfl))) (pa_cons (pe_op op_sub pe_int (pe_ix (ix_ofK (K := K) (r := rIxT) ix_tup) (pv 6) pe_int (fun _ _ => rfl))) pa_nil))) pa_nil))) pa_nil))))) (pss_cons (ps_if (pt_cmpR (op_neD hr.units) (pv 8) (pv 9) (nomark _)) (pss_one (ps_ret pe_bl)) pss_nil) (pss_cons (ps_set (i := 10) nd rfl (Or.inl rfl) (pe_callTy c_tuple (by rfl) T.z_tuple bo_tuple (pa_cons (pe_lc (own := [("_law_spot", 11)]) rfl nd (pi_tup (pe_tup (pa_cons (pv 2) (pa_cons (pv 3) (pa_cons (pv 4) (pa_cons (pv 5) pa_nil)))))) (blkOk_by (N := ["_law_bag_here", "_law_prime", "_law_one", "_law_two", "_law_three", "_law_four_here", "_law_told", "_law_table", "_law_some", "_law_due", "_law_led", "_law_spot"]) (sc := defScope s_law_told_right) (by decide +kernel)) (fun _ _ _ _ _ => by exact (pg_name (i := 11) nd rfl (Or.inl rfl))) (fun _ _ _ _ _ => by exact pts_nil) (fun _ _ _ _ _ => by exact (pe_fn G_law_spot_led (hr.toRoom.mono (by decide)) (pa_cons (pv 1) (pa_cons (pv 11) (pa_cons (pv 7) pa_nil)))))) pa_nil))) (pss_one (ps_ret (pe_or (pe_cmpR op_gt (pe_callB (cr_max rfl) (by rfl) T.z_max bo_max (pa_cons (pe_lc (own := [("_law_spot", 11)]) rfl nd (pi_tup (pv 10)) (blkOk_by (N := ["_law_bag_here", "_law_prime", "_law_one", "_law_two", "_law_three", "_law_four_here", "_law_told", "_law_table", "_law_some", "_law_due", "_law_led", "_law_spot"]) (sc := defScope s_law_told_right) (by decide +kernel)) (fun _ _ _ _ _ => by exact (pg_name (i := 11) nd rfl (Or.inl rfl))) (fun _ _ _ _ _ => by exact pts_nil) (fun _ _ _ _ _ => by exact (pe_callB (c_max2 rfl) (by rfl) T.z_max bo_max (pa_cons (pe_callB c_abs (by rfl) T.z_abs bo_abs (pa_cons (pe_ix (ix_ofK (K := K) (r := rIxT) ix_tup) (pv 11) pe_int (fun _ _ => rfl)) pa_nil)) (pa_cons (pe_callB c_abs (by rfl) T.z_abs bo_abs (pa_cons (pe_ix (ix_ofK (K := K) (r := rIxT) ix_tup) (pv 11) pe_int (fun _ _ => rfl)) pa_nil)) pa_nil))))) pa_nil)) (pe_op op_powW pe_int pe_int) (nomark _)) (pe_one (pe_cmpR (op_eqD hr.units) (pe_fnX (E := E0) G_cross_ratio (hr.toRoom.mono (by decide)) passL (pa_cons (pv 1) (pa_cons (pv 10) pa_nil))) (pv 6) (nomark _))))))))))))))), fun as β r β' hR => ?_⟩)
  obtain ⟨p, n, ns, rfl, hp, hb, rfl, rfl, rfl⟩ := hR
  dsimp only [cxOf, Cx.nox, Cx.wish] at *
  have pr := Num.lawP_prime hp
  obtain ⟨a, b, c, d, ef, hf, sa, sb, sc, sd⟩ := (Num.four_ok hp ns).ex pr
  have fine : FineS p a b c d := ⟨hf, sa, sb, sc, sd⟩
  obtain ⟨w1, w2, w3⟩ := hf.swap
  have f1 : FineS p a b d c := ⟨w1, sa, sb, sd, sc⟩
  have f2 : FineS p c d a b := ⟨w2, sc, sd, sa, sb⟩
  have f3 : FineS p a c b d := ⟨w3, sa, sc, sb, sd⟩
  obtain ⟨m, hm⟩ := Num.four_bag hp ⟨n, hb⟩
  have ht : Num.TabOk p (Num.tableF p (Num.fourF p ns).2).1 := Num.table_ok pr _
  obtain ⟨u, v, ecr⟩ := Num.four_crF p a b c d
  obtain ⟨q1, q2, q3⟩ := Num.cr_due pr sa sb sc sd ecr
  have hab := Num.crF_abs pr sa sb sc sd
  rw [ecr] at hab
  have hu := hab u (by simp)
  have hv := hab v (by simp)
  have c4 : EvB K (tCall (spR K R_law_four) [] E0 (tCons (tVar 0) (tCons (tVar 1) tNil))) (startR ["_law_bag_here", "_law_prime", "_law_one", "_law_two", "_law_three", "_law_four_here", "_law_told", "_law_table", "_law_some", "_law_due", "_law_led", "_law_spot"] [.bag, .imm (.int p)]) (some ns) (.list [spD a, spD b, spD c, spD d]) (some (Num.fourF p ns).2) :=
    (c_fD (a := fun p : Int => [.imm (.int p)]) (P := fun p => p ∈ Num.lawP) (g := fun p ns => (.list ((Num.fourF p ns).1.map spD), (Num.fourF p ns).2)) (x := p) (a_bg rfl (a_con (d_var rfl) a_nil)) hp hb).to (by rw [ef]; rfl)
  refine .ret (st_seq (st_unpackL (is := [2, 3, 4, 5]) (n := 4) (ds := [spD a, spD b, spD c, spD d]) c4 rfl rfl) ?_)
  generalize (Num.fourF p ns).2 = ms at *
  show StB K _ [some .bag, some (.imm (.int p)), some (.imm (spD a)), some (.imm (spD b)), some (.imm (spD c)), some (.imm (spD d)), none, none, none, none, none, none] (some ms) _ _
  refine st_seq (β1 := some (Num.tableF p ms).2) (st_unpack (is := [6, 7]) (n := 2) (ds := [tupI [u, v], tbD (Num.tableF p ms).1]) (d_tup (ds := [tupI [u, v], tbD (Num.tableF p ms).1]) (a_con ((c_cr pr (d_var rfl) (d_four (d_var rfl) (d_var rfl) (d_var rfl) (d_var rfl)) fine).to (by rw [ecr])) (a_con (c_fD (a := fun p : Int => [.imm (.int p)]) (P := Num.PrimeI) (g := fun p ns => (tbD (Num.tableF p ns).1, (Num.tableF p ns).2)) (x := p) (a_bg rfl (a_con (d_var rfl) a_nil)) pr hm) a_nil)) rfl (by show 2 ≤ 100000; decide)) rfl rfl) ?_
  generalize (Num.tableF p ms).1 = t at *
  generalize (Num.tableF p ms).2 = ls at *
  show StB K _ [some .bag, some (.imm (.int p)), some (.imm (spD a)), some (.imm (spD b)), some (.imm (spD c)), some (.imm (spD d)), some (.imm (tupI [u, v])), some (.imm (tbD t)), none, none, none, none] (some ls) _ _
  have s1 : ∀ {s : Int × Int}, Num.SmallP s → Sz 100 s := fun h => h.sz (by decide)
  have sh := tup2_show hu hv
  refine st_sq (st_ifF ((t_test (d_neS (d_repr (d_var rfl) sh) (d_repr ((d_call0 (R := R_law_cross_ratio) (a_con (d_var rfl) (a_con (d_four (d_var rfl) (d_var rfl) (d_var rfl) (d_var rfl)) a_nil)) ⟨p, a, b, c, d, rfl, ⟨pr, s1 sa, s1 sb, s1 sc, s1 sd⟩, rfl, rfl, rfl⟩).to (d' := tupI [u, v]) (by rw [ecr])) sh))).to (by rw [decide_eq_true rfl] <;> rfl)) st_next) ?_
  refine st_sq (st_ifF ((t_test (d_neS (d_repr (c_ih pr (d_var rfl) (d_four (d_var rfl) (d_var rfl) (d_var rfl) (d_var rfl)) fine) (bool_show _)) (d_repr (c_f2 (a := PyData.int) (a' := PyData.int) (x := p) (y := u + v) (P := fun p _ => 0 ≤ p ∧ p ≤ 19) (g := fun p n => .bool (decide (Num.settled p n = 0))) (d_var rfl) (d_add (d_ixT (d_var rfl) d_int (at0 _ _)) (d_ixT (d_var rfl) d_int (at1 _ _ _))) pr.small) (bool_show _)))).to ?_) st_next) ?_
  · have e : (Num.crF p a b c d).sum = u + v := by rw [ecr]; simp
    rw [e, decide_eq_true rfl] <;> rfl
  refine st_ownL (β1 := some ls) (ds := [tupI (Num.crF p a b d c), tupI (Num.crF p c d a b)]) (by show 8 < 12; decide) (a_con (c_cr pr (d_var rfl) (d_four (d_var rfl) (d_var rfl) (d_var rfl) (d_var rfl)) f1) (a_con (c_cr pr (d_var rfl) (d_four (d_var rfl) (d_var rfl) (d_var rfl) (d_var rfl)) f2) a_nil)) (by show 2 ≤ 1000; decide) ?_
  refine so_app (β1 := some ls) (d := tupI (Num.crF p a c b d)) (c_cr pr (d_var rfl) (d_four (d_var rfl) (d_var rfl) (d_var rfl) (d_var rfl)) f3) (by show 2 ≤ 1000; decide) ?_
  rw [q1, q2, q3]
  refine so_end ?_
  show StB K _ [some .bag, some (.imm (.int p)), some (.imm (spD a)), some (.imm (spD b)), some (.imm (spD c)), some (.imm (spD d)), some (.imm (tupI [u, v])), some (.imm (tbD t)), some (.imm (.list ([Num.normalF p [v, u], [u, v], Num.normalF p [u - v, 0 - v]].map tupI))), none, none, none] (some ls) _ _
  have big : ∀ {n : Int}, n.natAbs ≤ 2 * 10 ^ 30 → n.natAbs < 2 ^ 1000 := fun {n} h => Nat.lt_of_le_of_lt h (by decide +kernel)
  refine st_sq (st_asg (d := .list ([Num.normalF p [v, u], [u, v], Num.normalF p [u - v, 0 - v]].map tupI)) (d_lst (ds := [tupI (Num.normalF p [v, u]), tupI [u, v], tupI (Num.normalF p [u - v, 0 - v])]) (a_con (c_nrm pr (big (by omega)) (big (by omega)) (d_var rfl) (d_ixT (d_var rfl) d_int (at1 _ _ _)) (d_ixT (d_var rfl) d_int (at0 _ _))) (a_con (d_var rfl) (a_con (c_nrm pr (big (by omega)) (big (by omega)) (d_var rfl) (d_sub (d_ixT (d_var rfl) d_int (at0 _ _)) (d_ixT (d_var rfl) d_int (at1 _ _ _))) (d_sub d_int (d_ixT (d_var rfl) d_int (at1 _ _ _)))) a_nil))) rfl (by show 3 ≤ 100000; decide))) ?_
  refine st_sq (st_ifF (t_test (d_eqTups (ss := [Num.normalF p [v, u], [u, v], Num.normalF p [u - v, 0 - v]]) (d_var rfl) (d_var rfl))) st_next) ?_
  have led : ∀ {s : Int × Int} {a8 a9 a10 : Option Slot}, Num.SmallP s → EvB K (tCall (spR K R_law_spot_led) [] E0 (tCons (tVar 1) (tCons (tVar 11) (tCons (tVar 7) tNil)))) [some .bag, some (.imm (.int p)), some (.imm (spD a)), some (.imm (spD b)), some (.imm (spD c)), some (.imm (spD d)), some (.imm (tupI [u, v])), some (.imm (tbD t)), a8, a9, a10, some (.imm (spD s))] (some ls) (spD (Num.ledF p t s)) (some ls) := fun {s _ _ _} hs => by
    have up : ∀ {n : Int}, n.natAbs ≤ 18 → n.natAbs < 2 ^ 10 := fun {n} h => Nat.lt_of_le_of_lt h (by decide)
    refine EvB.to (d_call0 (R := R_law_spot_led) (a_con (d_var rfl) (a_con (d_var rfl) (a_con (d_var rfl) a_nil))) ⟨p, s, t, rfl, ⟨pr, s1 hs, ⟨up ht.2.1, up ht.2.2.1⟩, ⟨up ht.2.2.2.1, up ht.2.2.2.2⟩⟩, rfl, rfl, rfl⟩) ?_
    rw [Num.led_is]
  refine st_sq (st_asg (d := four (Num.ledF p t a) (Num.ledF p t b) (Num.ledF p t c) (Num.ledF p t d)) (d_tupleOf (d_lcT (ds := [spD a, spD b, spD c, spD d]) (d_four (d_var rfl) (d_var rfl) (d_var rfl) (d_var rfl)) (.yes t_yes0 (led sa) (.yes t_yes0 (led sb) (.yes t_yes0 (led sc) (.yes t_yes0 (led sd) (.nil _ _))))) (by show 4 ≤ 100000; decide) (wipe_ok (by decide))))) ?_
  show StB K _ [some .bag, some (.imm (.int p)), some (.imm (spD a)), some (.imm (spD b)), some (.imm (spD c)), some (.imm (spD d)), some (.imm (tupI [u, v])), some (.imm (tbD t)), some (.imm (.list ([Num.normalF p [v, u], [u, v], Num.normalF p [u - v, 0 - v]].map tupI))), some (.imm (.list ([Num.normalF p [v, u], [u, v], Num.normalF p [u - v, 0 - v]].map tupI))), some (.imm (four (Num.ledF p t a) (Num.ledF p t b) (Num.ledF p t c) (Num.ledF p t d))), none] (some ls) _ _
  obtain ⟨lf, lcr⟩ := Num.led_four ht hf sa sb sc sd
  generalize Num.ledF p t a = a' at *
  generalize Num.ledF p t b = b' at *
  generalize Num.ledF p t c = c' at *
  generalize Num.ledF p t d = d' at *
  obtain ⟨M, hM, hg⟩ := Num.max_ex (ns := [if TD.absI a'.2 > TD.absI a'.1 then TD.absI a'.2 else TD.absI a'.1, if TD.absI b'.2 > TD.absI b'.1 then TD.absI b'.2 else TD.absI b'.1, if TD.absI c'.2 > TD.absI c'.1 then TD.absI c'.2 else TD.absI c'.1, if TD.absI d'.2 > TD.absI d'.1 then TD.absI d'.2 else TD.absI d'.1]) (by simp)
  have gm : ∀ {s : Int × Int} {a8 a9 a10 : Option Slot}, EvB K (tCB rMax2 (tCons (tCB rAbs (tCons (tOp (rIxT K) (tVar 11) (tC (.int 0))) tNil)) (tCons (tCB rAbs (tCons (tOp (rIxT K) (tVar 11) (tC (.int 1))) tNil)) tNil))) [some .bag, some (.imm (.int p)), some (.imm (spD a)), some (.imm (spD b)), some (.imm (spD c)), some (.imm (spD d)), some (.imm (tupI [u, v])), some (.imm (tbD t)), a8, a9, a10, some (.imm (spD s))] (some ls) (.int (if TD.absI s.2 > TD.absI s.1 then TD.absI s.2 else TD.absI s.1)) (some ls) := fun {s _ _ _} => d_max2 (d_abs (d_ixT (d_var rfl) d_int (at0 _ _))) (d_abs (d_ixT (d_var rfl) d_int (at1 _ _ _)))
  have hmx := d_max (K := K) (ρ := [some .bag, some (.imm (.int p)), some (.imm (spD a)), some (.imm (spD b)), some (.imm (spD c)), some (.imm (spD d)), some (.imm (tupI [u, v])), some (.imm (tbD t)), some (.imm (.list ([Num.normalF p [v, u], [u, v], Num.normalF p [u - v, 0 - v]].map tupI))), some (.imm (.list ([Num.normalF p [v, u], [u, v], Num.normalF p [u - v, 0 - v]].map tupI))), some (.imm (four a' b' c' d')), none]) (β := some ls) (β1 := some ls) (te := tLc (iTup K (tVar 10)) (gName 11) tYes (tCB rMax2 (tCons (tCB rAbs (tCons (tOp (rIxT K) (tVar 11) (tC (.int 0))) tNil)) (tCons (tCB rAbs (tCons (tOp (rIxT K) (tVar 11) (tC (.int 1))) tNil)) tNil))) [11]) (d_lcT (ds := [spD a', spD b', spD c', spD d']) (d_var rfl) (.yes t_yes0 gm (.yes t_yes0 gm (.yes t_yes0 gm (.yes t_yes0 gm (.nil _ _))))) (by show 4 ≤ 100000; decide) (wipe_ok (by decide))) hM hg
  have h10 : EvB K (tOp (rI CPowW fun i j => .int (i ^ j.toNat)) (tC (.int 10)) (tC (.int 7))) [some .bag, some (.imm (.int p)), some (.imm (spD a)), some (.imm (spD b)), some (.imm (spD c)), some (.imm (spD d)), some (.imm (tupI [u, v])), some (.imm (tbD t)), some (.imm (.list ([Num.normalF p [v, u], [u, v], Num.normalF p [u - v, 0 - v]].map tupI))), some (.imm (.list ([Num.normalF p [v, u], [u, v], Num.normalF p [u - v, 0 - v]].map tupI))), some (.imm (four a' b' c' d')), none] (some ls) (.int 10000000) (some ls) := d_pow d_int d_int ⟨by decide, by decide⟩
  by_cases h7 : 10000000 < M
  · exact st_ret (d_orT ((d_gt hmx h10).to (congrArg PyData.bool (decide_eq_true h7))))
  · have sm : ∀ {s : Int × Int}, (if TD.absI s.2 > TD.absI s.1 then TD.absI s.2 else TD.absI s.1) ≤ M → Num.SmallP s := fun {s} h => by
      unfold TD.absI at h
      unfold Num.SmallP
      split at h <;> omega
    have fl : FineS p a' b' c' d' := ⟨lf, sm (hg _ (by simp)), sm (hg _ (by simp)), sm (hg _ (by simp)), sm (hg _ (by simp))⟩
    exact st_ret (d_orF ((d_gt hmx h10).to (congrArg PyData.bool (decide_eq_false h7))) ((d_eqTT (ms := [u, v]) (ns := [u, v]) ((c_cr pr (d_var rfl) (d_var rfl) fl).to (by rw [lcr, ecr])) (d_var rfl)).to (congrArg PyData.bool (decide_eq_true rfl))))

end K34
/-! ## K34j -/
set_option Elab.async false
set_option linter.all false
set_option maxRecDepth 100000
set_option maxHeartbeats 1100000
namespace K34
open PySem L2 TD PySem.Spec PyProof.Rows
open Evl (Ex ex_l ex_t fresh_back sq_of st_of sz_of sz_lt rMax2)
variable [TabW]
theorem qE : (("_law_refused_right" : Str) ++ (".<locals>." : Str)) ++ ("<lambda>" : Str) = "_law_refused_right.<locals>.<lambda>" := by decide +kernel
theorem pe_tell {X : Cx} {K : PySem.W.Frag} {mg : Str → Option Value} {base : Heap} {Y : Cn} {k : Nat} {sc scope : Scope} {params : Arguments} {body : Expr} {t : XK → TE} {p lpos pos : Pos}
    (hr : RoomG (k + 2) X.A) (WA : WordAt K mg "_law_met" s_law_met) (TB : LamX.TabB base mg Y.c Y.P) (T : Txt K mg Y)
    (LB : LamX.lamSB sc scope = true) (hbind : ∀ (q : Str) (cl : List (Str × Addr)) (pm cv ctv : Value), bindArgs (PySem.W.kla_fn "<lambda>" q params body scope cl pm cv ctv) ⟨[], []⟩ = pure [])
    (hbody : ∀ (A : Around) (outer : List PySem.Env) (s : Shared) (H : Hp) (E : XK) (f c' : Addr), Room k (A.deeper (LamX.lamEnv X scope s.heap.objs.size f c')) → PE (LamX.lamCx X A outer s H E scope f c') body (t E))
    (hsc : X.env.scope = sc := by rfl) (hq : X.env.qual = ("_law_refused_right" : Str) ++ (".<locals>." : Str) := by rfl) (hcode : X.env.code = .ref Y.c := by rfl) (hdef : defaultsOf params X.env = ([], []) := by rfl)
    (hK : X.K = K := by rfl) (hM : X.mg = mg := by rfl) (hB : X.base = base := by rfl) (hg : Gl X "_law_met" := by rfl) :
    PE X (.Call (.Name "_law_met" p) [.Lambda params body scope lpos] [] pos) (LamX.tLam Y.T (TTell K Y.cls "fine") t) := by
  subst hsc hB
  exact pe_word WA sc_law_met rfl (Or.inl rfl) (fun _ _ _ _ _ _ us hl => match us, hl with | [_], _ => rfl) (fun g cdg => gives hK hM hr T g cdg _) (hM ▸ TB) hcode (by rw [hq, qE]; exact List.mem_singleton.mpr rfl) (fun p hp _ => by rw [hq, qE, List.mem_singleton.mp hp]) hr.toRoom (LamX.lamS_by LB) hdef hbind hbody hK hM hg
theorem c_ofK {X : Cx} {K : PySem.W.Frag} {v : Value} {r : PySem.W.Frag → List V → Hp → VK → Prop} (h : CallR X v (r X.K)) (hK : X.K = K := by rfl) : CallR X v (r K) := hK ▸ h
theorem op_ofK {X : Cx} {K : PySem.W.Frag} {o : Value → Value → Sem Value} {r : PySem.W.Frag → R2} (h : OpR X o (r X.K)) (hK : X.K = K := by rfl) : OpR X o (r K) := hK ▸ h
theorem pe_fnL {P : Program} {w : World} {K : PySem.W.Frag} {mg : Str → Option Value} {base : Heap} {k : Nat} {x : Str} {ps : List Str} {R : FX} {X : Cx} {A : Around} {outer : List PySem.Env} {s : Shared} {H : Hp} {E : XK} {scope : Scope} {f c' : Addr} {q pos : Pos} {e : Expr} {es : List Expr} {t : TA}
    (F : FnX P w K mg base k x ps R) (hr : Room k (A.deeper (LamX.lamEnv X scope s.heap.objs.size f c'))) (ha : PA (LamX.lamCx X A outer s H E scope f c') (e :: es) t) (hk : scope.kind = .function := by rfl) (h1 : X.prog = P := by rfl) (h2 : X.w = w := by rfl) (h3 : X.K = K := by rfl) (h4 : X.mg = mg := by rfl) (h5 : X.base = base := by rfl)
    (hg : scope.names.lookup x = some .globalImplicit := by rfl) (hdb : (x == ("__debug__" : Str)) = false := by decide) (hs : ∀ v : Env, starEach (e :: es) v = (false, eval e v) :: starEach es v := by intro _; rfl)
    (hp : ∀ v : Env, (backTo pos (starEach es v)).any (·.1) = false := by intro _; rfl) : PE (LamX.lamCx X A outer s H E scope f c') (.Call (.Name x q) (e :: es) [] pos) (tCall (spX K R) [] E t) :=
  pe_fnX F hr (show Passes (L2.CX (LamX.lamCx X A outer s H E scope f c').prog (LamX.lamCx X A outer s H E scope f c').w) (LamX.lamCx X A outer s H E scope f c') E from pass_lam (X := X) hk) ha h1 h2 h3 h4 h5 hg hdb (hs _) (hp _)
theorem pe_fnLX {P : Program} {w : World} {K : PySem.W.Frag} {mg : Str → Option Value} {base : Heap} {k i : Nat} {x : Str} {S : Addr → Sp → Prop} {X : Cx} {A : Around} {outer : List PySem.Env} {s : Shared} {H : Hp} {E : XK} {scope : Scope} {f c' : Addr} {q pos : Pos} {e : Expr} {es : List Expr} {t : TA}
    (Ah : ∀ f sp, S f sp → HeldX P w K mg base k f sp) (hr : Room k (A.deeper (LamX.lamEnv X scope s.heap.objs.size f c'))) (ha : PA (LamX.lamCx X A outer s H E scope f c') (e :: es) t) (hN : X.N[i]? = some x := by rfl) (hv : scope.names.lookup x = some .free := by rfl) (hk : scope.kind = .function := by rfl) (h1 : X.prog = P := by rfl) (h2 : X.w = w := by rfl) (h3 : X.K = K := by rfl) (h4 : X.mg = mg := by rfl) (h5 : X.base = base := by rfl)
    (hdb : (x == ("__debug__" : Str)) = false := by decide) (hcd : (x == ("__classdict__" : Str)) = false := by decide) (hs : ∀ v : Env, starEach (e :: es) v = (false, eval e v) :: starEach es v := by intro _; rfl)
    (hp : ∀ v : Env, (backTo pos (starEach es v)).any (·.1) = false := by intro _; rfl) : PE (LamX.lamCx X A outer s H E scope f c') (.Call (.Name x q) (e :: es) [] pos) (tCallX i S E t) := by
  subst h1 h2 h3 h4 h5
  exact pe_callX (X := LamX.lamCx X A outer s H E scope f c') Ah hr hN (.inr (.inr hv)) (show Passes (L2.CX (LamX.lamCx X A outer s H E scope f c').prog (LamX.lamCx X A outer s H E scope f c').w) (LamX.lamCx X A outer s H E scope f c') E from pass_lam (X := X) hk) ha hdb hcd (hs _) (hp _)
abbrev badL : List Dt := [.none, .int 1, .int 4, .int 23, .int (-3), .bool true, .str "3", .tuple [.int 3], .int 10000000000000000000000000000000000000000000000000000000000000]
abbrev wN (d : Dt) : Str := ("number " : Str) ++ d.shown
def tellB (d : Dt) : Bool := flatD d && d.showable && !d.hasDict && decide (d.depth ≤ 20) && decide (d.shown.length ≤ 1000) && PyData.canLay0 (.str (wN d))
theorem op_lay : PyData.canLay0 (.str "operation") = true := by decide +kernel
theorem fine_lay : PyData.canLay0 (.str "fine") = true := by decide +kernel
theorem bad_ok : ∀ d ∈ badL, (!Num.isPrime d && tellB d) = true := by decide +kernel
theorem tell_show {d : Dt} (h : tellB d = true) : ShowOk d ∧ d.shown.length ≤ 1000 ∧ PyData.canLay0 (.str (wN d)) = true := by
  unfold tellB at h
  simp only [Bool.and_eq_true, decide_eq_true_eq, Bool.not_eq_true'] at h
  obtain ⟨⟨⟨⟨⟨h1, h2⟩, h3⟩, h4⟩, h5⟩, h6⟩ := h
  exact ⟨⟨h1, h2, h3, h4, Nat.le_trans h5 (by decide)⟩, h5, h6⟩
theorem num_len {d : Dt} (h : tellB d = true) : ("number " : Str).length + d.shown.length ≤ sizeLine := by
  have h1 := (tell_show h).2.1
  have h2 : ("number " : Str).length = 7 := by decide +kernel
  have h3 : sizeLine = 16777216 := rfl
  omega
theorem flat_strs : ∀ ss : List Str, flatL (ss.map .str) = true
  | [] => rfl
  | s :: ss => by
    show (flatD (.str s) && flatL (ss.map .str)) = true
    rw [flat_strs ss]
    rfl
theorem lay_strs : ∀ ss : List Str, (∀ s ∈ ss, PyData.canLay0 (.str s) = true) → PyData.canLayAll0 (ss.map .str) = true
  | [], _ => rfl
  | s :: ss, h => by
    show (PyData.canLay0 (.str s) && PyData.canLayAll0 (ss.map .str)) = true
    rw [lay_strs ss fun t ht => h t (List.mem_cons_of_mem _ ht), h s (List.mem_cons_self ..)]
    rfl
theorem depth_strs : ∀ ss : List Str, PyData.depthAll (ss.map .str) = 0
  | [] => rfl
  | s :: ss => by
    show max (PyData.depth (.str s)) (PyData.depthAll (ss.map .str)) = 0
    rw [depth_strs ss]
    rfl
theorem shaped_strs {ss : List Str} (h : ∀ s ∈ ss, PyData.canLay0 (.str s) = true) : SeqAt.shaped (.list (ss.map .str)) = true := by
  show (PyData.canLayAll0 (ss.map .str) && decide (PyData.depthAll (ss.map .str) + 1 ≤ 64)) = true
  rw [lay_strs ss h, depth_strs]
  rfl
theorem eqv_strs : ∀ ss : List Str, PyData.eqvAll (ss.map .str) (ss.map .str) = true
  | [] => rfl
  | s :: ss => by
    show (PyData.eqv (.str s) (.str s) && PyData.eqvAll (ss.map .str) (ss.map .str)) = true
    rw [eqv_strs ss]
    have e : PyData.eqv (.str s) (.str s) = decide (s = s) := rfl
    rw [e, decide_eq_true rfl]
    rfl
theorem d_eqStrs {K : PySem.W.Frag} {ρ : Rho} {β β1 β2 : Bag} {ta tb : TE} {ss : List Str} (h : ∀ s ∈ ss, PyData.canLay0 (.str s) = true) (ha : EvB K ta ρ β (.list (ss.map .str)) β1) (hb : EvB K tb ρ β1 (.list (ss.map .str)) β2) : EvB K (tOp (rEqD K) ta tb) ρ β (.bool true) β2 :=
  (d_eqD ha hb (flat_strs ss) (flat_strs ss) (shaped_strs h) (shaped_strs h)).to (congrArg PyData.bool (eqv_strs ss))
theorem d_neStrs {K : PySem.W.Frag} {ρ : Rho} {β β1 β2 : Bag} {ta tb : TE} {ss : List Str} (h : ∀ s ∈ ss, PyData.canLay0 (.str s) = true) (ha : EvB K ta ρ β (.list (ss.map .str)) β1) (hb : EvB K tb ρ β1 (.list (ss.map .str)) β2) : EvB K (tOp (rNeD K) ta tb) ρ β (.bool false) β2 :=
  (d_neD ha hb (flat_strs ss) (flat_strs ss) (shaped_strs h) (shaped_strs h)).to (congrArg (fun b => PyData.bool (!b)) (eqv_strs ss))
theorem told_num {K : PySem.W.Frag} {mg : Str → Option Value} {Y : Cn} {d : Dt} (T : Txt K mg Y) (h : tellB d = true) : ToldAs K Y.cN Y.cls (some ("given", d)) (wN d) := .fld T.eNN (tell_show h).1 (num_len h)
theorem told_op {K : PySem.W.Frag} {mg : Str → Option Value} {Y : Cn} (T : Txt K mg Y) : ToldAs K Y.cO Y.cls none "operation" := .next T.eON (.lit T.eOO)
abbrev oddL (a b c d : Int × Int) (x : Dt) : List Dt := [.none, .list [spD a, spD b, spD c, spD d], .tuple [spD a, spD b, spD c], .tuple [spD a, spD b, spD c, spD d, spD (1, 0)], .tuple [], .dict [], .str "abcd", .tuple [spD a, spD b, spD c, x], .tuple [x, spD c, spD b, spD a]]
theorem odd_bad {p : Int} {a b c d : Int × Int} {x : Dt} (hp : p ∈ Num.lawP) (hf : FineS p a b c d) (hx : Num.isSpot p x = false ∨ x = spD a) : ∀ v ∈ oddL a b c d x, BadS p v := by
  obtain ⟨ga, gb, gc, gd⟩ := hf.good
  have g1 : Num.goodP p (1, 0) = true := by
    have h := Num.own_good p hp
    (simp only [Bool.and_eq_true] at h)
    exact h.1.1.1.1.1
  have sa := spot_good ga
  have sb := spot_good gb
  have sc := spot_good gc
  have sd := spot_good gd
  have s1 := spot_good g1
  intro v hv
  simp only [List.mem_cons, List.not_mem_nil, or_false] at hv
  rcases hv with e | e | e | e | e | e | e | e | e <;> subst e
  · exact .inl fun es h => by cases h
  · exact .inl fun es h => by cases h
  · refine .inr ⟨_, rfl, by show 3 ≤ 1000; decide, .inr (.inl ⟨?_, by show 3 ≠ 4; decide⟩)⟩
    show (Num.isSpot p (spD a) && (Num.isSpot p (spD b) && (Num.isSpot p (spD c) && true))) = true
    rw [sa, sb, sc]
    rfl
  · refine .inr ⟨_, rfl, by show 5 ≤ 1000; decide, .inr (.inl ⟨?_, by show 5 ≠ 4; decide⟩)⟩
    show (Num.isSpot p (spD a) && (Num.isSpot p (spD b) && (Num.isSpot p (spD c) && (Num.isSpot p (spD d) && (Num.isSpot p (spD (1, 0)) && true))))) = true
    rw [sa, sb, sc, sd, s1]
    rfl
  · exact .inr ⟨_, rfl, by decide, .inr (.inl ⟨rfl, by decide⟩)⟩
  · exact .inl fun es h => by cases h
  · exact .inl fun es h => by cases h
  · rcases hx with hx | rfl
    · refine .inr ⟨_, rfl, by show 4 ≤ 1000; decide, .inl ?_⟩
      show (Num.isSpot p (spD a) && (Num.isSpot p (spD b) && (Num.isSpot p (spD c) && (Num.isSpot p x && true)))) = false
      rw [sa, sb, sc, hx]
      rfl
    · exact .inr ⟨_, rfl, by show 4 ≤ 1000; decide, .inr (.inr ⟨a, b, c, rfl, ga, gb, gc⟩)⟩
  · rcases hx with hx | rfl
    · refine .inr ⟨_, rfl, by show 4 ≤ 1000; decide, .inl ?_⟩
      show (Num.isSpot p x && (Num.isSpot p (spD c) && (Num.isSpot p (spD b) && (Num.isSpot p (spD a) && true)))) = false
      rw [hx]
      rfl
    · exact .inr ⟨_, rfl, by show 4 ≤ 1000; decide, .inr (.inr ⟨a, c, b, rfl, ga, gc, gb⟩)⟩
abbrev refB (p : Int) (ns : List Int) : List Int := (Num.grabF 9 (Num.grabF 15 (Num.grabF 9 (Num.spotsF p ns).2).2).2).2
theorem two_bad : BadS 2 (four (1, 0) (0, 1) (1, 1) (1, 0)) := .inr ⟨_, rfl, by show 4 ≤ 1000; decide, .inr (.inr ⟨(1, 0), (0, 1), (1, 1), rfl, by decide +kernel, by decide +kernel, by decide +kernel⟩)⟩


abbrev s_law_refused_right : Stmt := top 48
theorem sc_law_refused_right : FnScope ["_law_bag_here", "_law_prime", "_law_spots_here", "_law_bad", "_law_wrong", "_law_odd", "_law_call", "_law_told"] ["_law_bag_here", "_law_prime"] (defScope s_law_refused_right) := ⟨rfl, rfl, rfl, by decide +kernel, rfl, by decide +kernel, by decide +kernel⟩
abbrev R_law_refused_right : FR := fD (fun p : Int => [.imm (.int p)]) (fun p => p ∈ Num.lawP) fun p ns => (.bool true, refB p ns)
theorem ok_law_refused_right {P : Program} {w : World} {K : PySem.W.Frag} {mg : Str → Option Value} {base : Heap} {Y : Cn} (F : DefAtC K "_law_refused_right" s_law_refused_right Y.c) (hX : K.In base) (hG : base.Ns mainGlobals mg) (T : Txt K mg Y) (WA : WordAt K mg "_law_met" s_law_met) (TB : LamX.TabB base mg Y.c Y.P) (G_law_one_of : FnG P w K mg base 2 "_law_one_of" ["_law_bag_here", "_law_items"] R_law_one_of) (G_law_spots : FnG P w K mg base 3 "_law_spots" ["_law_bag_here", "_law_prime", "_law_many"] R_law_spots) (G_law_strange_spot : FnG P w K mg base 3 "_law_strange_spot" ["_law_bag_here", "_law_prime", "_law_spots_here"] R_law_strange_spot) (G_cross_ratio : FnX P w K mg base 5 "cross_ratio" ["prime", "spots"] (R_cross_ratio Y)) (G_is_harmonic : FnX P w K mg base 6 "is_harmonic" ["prime", "spots"] (R_is_harmonic Y)) : FnH P w K mg base 9 "_law_refused_right" ["_law_bag_here", "_law_prime"] R_law_refused_right := by
  have nd := sc_law_refused_right.nd
  obtain ⟨fc, hm_cross_ratio, hec⟩ := G_cross_ratio.held
  obtain ⟨fi, hm_is_harmonic, hei⟩ := G_is_harmonic.held
  have hheld : ∀ f sp, ((f = fc ∧ sp = spX K (R_cross_ratio Y)) ∨ (f = fi ∧ sp = spX K (R_is_harmonic Y))) → HeldX P w K mg base 6 f sp := by
    rintro f sp (⟨rfl, rfl⟩ | ⟨rfl, rfl⟩)
    · exact hec 6 (by decide)
    · exact hei 6 (by decide)
  refine fnC_mk F hX hG sc_law_refused_right (fun as β r β' h => by first | exact FR.len h | (obtain ⟨_, rfl, _⟩ := h; rfl) | (obtain ⟨_, _, rfl, _⟩ := h; rfl) | (obtain ⟨_, _, _, rfl, _⟩ := h; rfl) | (obtain ⟨_, _, _, _, rfl, _⟩ := h; rfl) | (obtain ⟨_, _, _, _, _, rfl, _⟩ := h; rfl)) (fun _ _ _ _ _ _ _ us hl => match us, hl with | [_, _], _ => rfl) (fun f A outer s H E hr => ⟨_, (pss_cons (ps_asg (pe_tup (pa_cons (pe_fn G_law_spots (hr.toRoom.mono (by decide)) (pa_cons (pv 0) (pa_cons (pv 1) (pa_cons pe_int pa_nil)))) (pa_cons (pe_fn G_law_one_of (hr.toRoom.mono (by decide)) (pa_cons (pv 0) (pa_cons (pe_lst (pa_cons pe_non (pa_cons pe_int (pa_cons pe_int (pa_cons pe_int (pa_cons (pe_un un_neg pe_int) (pa_cons pe_bl (pa_cons pe_str (pa_cons (pe_tup (pa_cons pe_int pa_nil)) (pa_cons (pe_op op_powW pe_int pe_int) pa_nil)))))))))) pa_nil))) pa_nil))) (pg_tup rfl (pgs_cons (pg_name (i := 2) nd rfl (Or.inr rfl)) (pgs_cons (pg_name (i := 3) nd rfl (Or.inr rfl)) pgs_nil)))) (pss_cons (ps_set (i := 4) nd rfl (Or.inl rfl) (pe_op op_catA (pe_callTy c_tuple (by rfl) T.z_tuple bo_tuple (pa_cons (pe_slice sl_list (pv 2) po_none (po_some pe_int)) pa_nil)) (pe_tup (pa_cons (pe_fn G_law_strange_spot (hr.toRoom.mono (by decide)) (pa_cons (pv 0) (pa_cons (pv 1) (pa_cons (pv 2) pa_nil)))) pa_nil)))) (pss_cons (ps_set (i := 5) nd rfl (Or.inr rfl) (pe_fn G_law_one_of (hr.toRoom.mono (by decide)) (pa_cons (pv 0) (pa_cons (pe_lst (pa_cons pe_non (pa_cons (pe_callTy c_list (by rfl) T.z_list bo_list (pa_cons (pv 2) pa_nil)) (pa_cons (pe_callTy c_tuple (by rfl) T.z_tuple bo_tuple (pa_cons (pe_slice sl_list (pv 2) po_none (po_some pe_int)) pa_nil)) (pa_cons (pe_op op_catA (pe_callTy c_tuple (by rfl) T.z_tuple bo_tuple (pa_cons (pv 2) pa_nil)) (pe_tup (pa_cons (pe_tup (pa_cons pe_int (pa_cons pe_int pa_nil))) pa_nil))) (pa_cons (pe_tup pa_nil) (pa_cons pe_dnewK (pa_cons pe_str (pa_cons (pv 4) (pa_cons (pe_revT (pv 4)) pa_nil)))))))))) pa_nil)))) (pss_cons (ps_for PassesOwn.never rfl (pi_tup (pe_tup (pa_cons (pe_glob (v := .ref _) (by rfl) hm_cross_ratio rfl) (pa_cons (pe_glob (v := .ref _) (by rfl) hm_is_harmonic rfl) pa_nil)))) (pg_name (i := 6) nd rfl (Or.inr rfl)) (pss_cons (ps_set (i := 7) nd rfl (Or.inl rfl) (pe_lst (pa_cons (pe_tell (k := 6) (sc := defScope s_law_refused_right) (hr.mono (by decide)) WA TB T (by decide +kernel) (fun _ _ _ _ _ => rfl) (fun A outer s H E f c' hr2 => by exact (pe_fnLX hheld (hr2.mono (by decide)) (pa_cons (pv 3) (pa_cons (pv 5) pa_nil)) (i := 6)))) pa_nil))) (pss_cons (ps_expr (pe_castBM (K := K) (pe_bm PySem.F.plainAttrs_list PySem.F.slot_list_append PySem.F.type_list_append mt_append (pv 7) (pa_cons (pe_tell (k := 6) (sc := defScope s_law_refused_right) (hr.mono (by decide)) WA TB T (by decide +kernel) (fun _ _ _ _ _ => rfl) (fun A outer s H E f c' hr2 => by exact (pe_fnLX hheld (hr2.mono (by decide)) (pa_cons (pv 1) (pa_cons (pv 5) pa_nil)) (i := 6)))) pa_nil)))) (pss_cons (ps_expr (pe_castBM (K := K) (pe_bm PySem.F.plainAttrs_list PySem.F.slot_list_append PySem.F.type_list_append mt_append (pv 7) (pa_cons (pe_tell (k := 6) (sc := defScope s_law_refused_right) (hr.mono (by decide)) WA TB T (by decide +kernel) (fun _ _ _ _ _ => rfl) (fun A outer s H E f c' hr2 => by exact (pe_fnLX hheld (hr2.mono (by decide)) (pa_cons (pv 1) (pa_cons (pe_callTy (c_ofK (K := K) (r := rTupleOf) c_tuple) (by rfl) T.z_tuple bo_tuple (pa_cons (pv 2) pa_nil)) pa_nil)) (i := 6)))) pa_nil)))) (pss_one (ps_if (pt_cmpR (op_neD hr.units) (pv 7) (pe_lst (pa_cons (pe_op op_add_str pe_str (pe_callB (call_rep (K := K) hr.gd hr.units) (by rfl) T.z_repr bo_repr (pa_cons (pv 3) pa_nil))) (pa_cons pe_str (pa_cons pe_str pa_nil)))) (nomark _)) (pss_one (ps_ret pe_bl)) pss_nil)))))) (pss_one (ps_ret (pe_cmpR op_eq (pe_tell (k := 6) (sc := defScope s_law_refused_right) (hr.mono (by decide)) WA TB T (by decide +kernel) (fun _ _ _ _ _ => rfl) (fun A outer s H E f c' hr2 => by exact (pe_fnL G_cross_ratio (hr2.mono (by decide)) (pa_cons pe_int (pa_cons (pe_tup (pa_cons (pe_tup (pa_cons pe_int (pa_cons pe_int pa_nil))) (pa_cons (pe_tup (pa_cons pe_int (pa_cons pe_int pa_nil))) (pa_cons (pe_tup (pa_cons pe_int (pa_cons pe_int pa_nil))) (pa_cons (pe_tup (pa_cons pe_int (pa_cons pe_int pa_nil))) pa_nil))))) pa_nil))))) pe_str (nomark _)))))))), fun as β r β' hR => ?_⟩)
  obtain ⟨p, n, ns, rfl, hp, hb, rfl, rfl, rfl⟩ := hR
  dsimp only [cxOf, Cx.nox, Cx.wish] at *
  have pr := Num.lawP_prime hp
  obtain ⟨a, b, c, d, es, hf, sa, sb, sc, sd⟩ := (Num.spots_ok hp ns).ex pr
  have fine : FineS p a b c d := ⟨hf, sa, sb, sc, sd⟩
  have hm := Num.spots_bag (p := p) ⟨n, hb⟩
  have cs : EvB K (tCall (spR K R_law_spots) [] E0 (tCons (tVar 0) (tCons (tVar 1) (tCons (tC (.int 4)) tNil)))) (startR ["_law_bag_here", "_law_prime", "_law_spots_here", "_law_bad", "_law_wrong", "_law_odd", "_law_call", "_law_told"] [.bag, .imm (.int p)]) (some ns) (.list [spD a, spD b, spD c, spD d]) (some (Num.spotsF p ns).2) :=
    (d_call (R := R_law_spots) (r := .list ((Num.spotsF p ns).1.map spD)) (β2 := some (Num.spotsF p ns).2) (a_bg rfl (a_con (d_var rfl) (a_con d_int a_nil))) ⟨p, n, ns, rfl, hp, hb, rfl, rfl, rfl⟩ rfl).to (by rw [es]; rfl)
  have hm2 := Num.grab_bag' (t := 9) (by decide) hm
  have hm3 := Num.grab_bag' (t := 15) (by decide) hm2
  have m1 : pkD badL (Num.spotsF p ns).2 ∈ badL := getD_mem (by decide) _
  refine .ret (st_seq (β1 := some (Num.grabF 9 (Num.spotsF p ns).2).2) (st_unpack (is := [2, 3]) (n := 2) (ds := [.list [spD a, spD b, spD c, spD d], pkD badL (Num.spotsF p ns).2]) (d_tup (ds := [.list [spD a, spD b, spD c, spD d], pkD badL (Num.spotsF p ns).2]) (a_con cs (a_con (c_oneD (xs := badL) rfl (d_lst (ds := badL) (a_con d_non (a_con d_int (a_con d_int (a_con d_int (a_con (d_neg d_int) (a_con d_bl (a_con d_str (a_con (d_tup (ds := [.int 3]) (a_con d_int a_nil) rfl (by decide)) (a_con (d_pow d_int d_int ⟨by decide, by decide⟩) a_nil))))))))) rfl (by decide)) (by decide) (by decide) hm) a_nil)) rfl (by show 2 ≤ 100000; decide)) rfl rfl) ?_)
  obtain ⟨k1p, k1t⟩ := Bool.and_eq_true_iff.mp (bad_ok _ m1)
  have hnp : Num.isPrime (pkD badL (Num.spotsF p ns).2) = false := by simpa using k1p
  show StB K _ [some .bag, some (.imm (.int p)), some (.imm (.list [spD a, spD b, spD c, spD d])), some (.imm (pkD badL (Num.spotsF p ns).2)), none, none, none, none] (some (Num.grabF 9 (Num.spotsF p ns).2).2) _ (some (refB p ns))
  generalize pkD badL (Num.spotsF p ns).2 = bad at *
  unfold refB
  generalize (Num.grabF 9 (Num.spotsF p ns).2).2 = ms at *
  obtain ⟨k, hk⟩ := hm2
  have m2 : pkD (strangeL p a) ms ∈ strangeL p a := getD_mem (by simp) _
  have hx := strange_mem hp m2
  refine st_seq (β1 := some (Num.grabF 15 ms).2) (st_asg (d := .tuple [spD a, spD b, spD c, pkD (strangeL p a) ms]) (d_catA (ds := [spD a, spD b, spD c]) (es := [pkD (strangeL p a) ms]) (d_tupleOf ((d_slL (ds := [spD a, spD b, spD c, spD d]) (lo := none) (hi := some 3) (d_var rfl) o_none (o_some d_int)).to (d' := .list [spD a, spD b, spD c]) rfl)) (d_tup (ds := [pkD (strangeL p a) ms]) (a_con (d_call (R := R_law_strange_spot) (a_bg rfl (a_con (d_var rfl) (a_con (d_var rfl) a_nil))) ⟨p, a, [spD b, spD c, spD d], k, ms, rfl, pr, hk, rfl, rfl, rfl⟩ rfl) a_nil) rfl (by show 1 ≤ 100000; decide)) (by show 3 + 1 ≤ 100000; decide))) ?_
  show StB K _ [some .bag, some (.imm (.int p)), some (.imm (.list [spD a, spD b, spD c, spD d])), some (.imm bad), some (.imm (.tuple [spD a, spD b, spD c, pkD (strangeL p a) ms])), none, none, none] (some (Num.grabF 15 ms).2) _ _
  generalize pkD (strangeL p a) ms = x at *
  generalize (Num.grabF 15 ms).2 = ls at *
  have m3 : pkD (oddL a b c d x) ls ∈ oddL a b c d x := getD_mem (by simp) _
  have hbad := odd_bad hp fine hx _ m3
  refine st_seq (β1 := some (Num.grabF 9 ls).2) (st_asg (d := pkD (oddL a b c d x) ls) (c_oneD (xs := oddL a b c d x) rfl (d_lst (ds := oddL a b c d x) (a_con d_non (a_con (d_listOf (d_var rfl) (.inl rfl)) (a_con (d_tupleOf ((d_slL (ds := [spD a, spD b, spD c, spD d]) (lo := none) (hi := some 3) (d_var rfl) o_none (o_some d_int)).to (d' := .list [spD a, spD b, spD c]) rfl)) (a_con (d_catA (ds := [spD a, spD b, spD c, spD d]) (es := [spD (1, 0)]) (d_tupleOf (d_var rfl)) (d_tup (ds := [spD (1, 0)]) (a_con (d_pr d_int d_int) a_nil) rfl (by decide)) (by show 4 + 1 ≤ 100000; decide)) (a_con (d_tup (ds := []) a_nil rfl (by decide)) (a_con d_dict0 (a_con d_str (a_con (d_var rfl) (a_con ((d_revT (d_var rfl)).to (d' := .tuple [x, spD c, spD b, spD a]) rfl) a_nil))))))))) rfl (by show 9 ≤ 100000; decide)) (by simp) (by show 9 ≤ 1000; decide) hm3)) ?_
  show StB K _ [some .bag, some (.imm (.int p)), some (.imm (.list [spD a, spD b, spD c, spD d])), some (.imm bad), some (.imm (.tuple [spD a, spD b, spD c, x])), some (.imm (pkD (oddL a b c d x) ls)), none, none] (some (Num.grabF 9 ls).2) _ _
  generalize pkD (oddL a b c d x) ls = odd at *
  generalize (Num.grabF 9 ls).2 = ks at *
  have tb := told_num T k1t
  have tx := told_op T
  have turn : ∀ (f : Addr) (Rf : FX) (a7 : Option Slot), ((f = fc ∧ spX K Rf = spX K (R_cross_ratio Y)) ∨ (f = fi ∧ spX K Rf = spX K (R_is_harmonic Y))) → Rf [.imm bad, .imm odd] none (.ex Y.cN (some ("given", bad))) none → Rf [.imm (.int p), .imm odd] none (.ex Y.cO none) none → (∃ r, Rf [.imm (.int p), .imm (four a b c d)] none (.ok r) none) →
      StB K (tSeq (tAsg (tLst (tCons (LamX.tLam Y.T (TTell K Y.cls "fine") (fun E => tCallX 6 (fun f sp => (f = fc ∧ sp = spX K (R_cross_ratio Y)) ∨ (f = fi ∧ sp = spX K (R_is_harmonic Y))) E (tCons (tVar 3) (tCons (tVar 5) tNil)))) tNil)) (gName 7)) (tSeq (tDrop (tBM K "list" rAppend (tVar 7) (tCons (LamX.tLam Y.T (TTell K Y.cls "fine") (fun E => tCallX 6 (fun f sp => (f = fc ∧ sp = spX K (R_cross_ratio Y)) ∨ (f = fi ∧ sp = spX K (R_is_harmonic Y))) E (tCons (tVar 1) (tCons (tVar 5) tNil)))) tNil))) (tSeq (tDrop (tBM K "list" rAppend (tVar 7) (tCons (LamX.tLam Y.T (TTell K Y.cls "fine") (fun E => tCallX 6 (fun f sp => (f = fc ∧ sp = spX K (R_cross_ratio Y)) ∨ (f = fi ∧ sp = spX K (R_is_harmonic Y))) E (tCons (tVar 1) (tCons (tCB (rTupleOf K) (tCons (tVar 2) tNil)) tNil)))) tNil)))
        (tIfS (tTest (tOp (rNeD K) (tVar 7) (tLst (tCons (tOp rAddS (tC (.str "number ")) (tCB (rRep K) (tCons (tVar 3) tNil))) (tCons (tC (.str "operation")) (tCons (tC (.str "fine")) tNil)))))) (tRet (tC (.bl false))) tNext))))
      ([some .bag, some (.imm (.int p)), some (.imm (.list [spD a, spD b, spD c, spD d])), some (.imm bad), some (.imm (.tuple [spD a, spD b, spD c, x])), some (.imm odd), some (.fn f), a7]) (some ks) (.nx [some .bag, some (.imm (.int p)), some (.imm (.list [spD a, spD b, spD c, spD d])), some (.imm bad), some (.imm (.tuple [spD a, spD b, spD c, x])), some (.imm odd), some (.fn f), some (.imm (.list ([wN bad, "operation", "fine"].map PyData.str)))]) (some ks) := by
    intro f Rf a7 hS r1 r2 ⟨r, r3⟩
    refine st_ownL (β1 := some ks) (ds := [.str (wN bad)]) (by show 7 < 8; decide) (a_con (d_lamExX (i := 6) (f := f) (R := Rf) T.tabw rfl hS (a_con (d_var rfl) (a_con (d_var rfl) a_nil)) r1 tb) a_nil) (by show 1 ≤ 1000; decide) ?_
    refine so_app (β1 := some ks) (d := .str "operation") (d_lamExX (i := 6) (f := f) (R := Rf) T.tabw rfl hS (a_con (d_var rfl) (a_con (d_var rfl) a_nil)) r2 tx) (by show 1 ≤ 1000; decide) ?_
    refine so_app (β1 := some ks) (d := .str "fine") (d_lamOkX (i := 6) (f := f) (R := Rf) (r := r) T.tabw rfl hS (a_con (d_var rfl) (a_con (d_tupleOf (d_var rfl)) a_nil)) r3) (by show 2 ≤ 1000; decide) ?_
    refine so_end ?_
    show StB K _ [some .bag, some (.imm (.int p)), some (.imm (.list [spD a, spD b, spD c, spD d])), some (.imm bad), some (.imm (.tuple [spD a, spD b, spD c, x])), some (.imm odd), some (.fn f), some (.imm (.list ([wN bad, "operation", "fine"].map PyData.str)))] (some ks) _ _
    refine st_ifF (t_test (d_neStrs (ss := [wN bad, "operation", "fine"]) ?_ (d_var rfl) (d_lst (ds := [wN bad, "operation", "fine"].map PyData.str) (a_con (d_addS d_str (d_repr (d_var rfl) (tell_show k1t).1) (num_len k1t)) (a_con d_str (a_con d_str a_nil))) rfl (by show 3 ≤ 100000; decide)))) st_next
    intro s hs
    have lb := (tell_show k1t).2.2
    simp only [List.mem_cons, List.not_mem_nil, or_false] at hs
    rcases hs with h | h | h <;> rw [h] <;> first | exact lb | exact op_lay | exact fine_lay
  refine st_sq (st_forS (as := [.fn fc, .fn fi]) (a_cons s_fnC (a_cons s_fnC a_nil)) (.nx (turn fc (R_cross_ratio Y) none (.inl ⟨rfl, rfl⟩) ⟨_, _, rfl, .inr ⟨hnp, rfl⟩, rfl, rfl⟩ ⟨_, _, rfl, .inl ⟨p, rfl, pr, .inr ⟨hbad, rfl⟩⟩, rfl, rfl⟩ ⟨_, _, _, rfl, .inl ⟨p, rfl, pr, .inl ⟨a, b, c, d, rfl, fine, rfl⟩⟩, rfl, rfl⟩) (.nx (turn fi (R_is_harmonic Y) _ (.inr ⟨rfl, rfl⟩) ⟨_, _, rfl, .inr ⟨hnp, rfl⟩, rfl, rfl⟩ ⟨_, _, rfl, .inl ⟨p, rfl, pr, .inr ⟨hbad, rfl⟩⟩, rfl, rfl⟩ ⟨_, _, _, rfl, .inl ⟨p, rfl, pr, .inl ⟨a, b, c, d, rfl, fine, rfl⟩⟩, rfl, rfl⟩) (.nil _ _))) (by show 2 ≤ 100000; decide)) ?_
  exact st_ret ((d_eqS (d_lamEx T.tabw (a_con d_int (a_con (d_four (x := (1, 0)) (y := (0, 1)) (z := (1, 1)) (u := (1, 0)) (d_pr d_int d_int) (d_pr d_int d_int) (d_pr d_int d_int) (d_pr d_int d_int)) a_nil)) ⟨_, _, rfl, .inl ⟨2, rfl, .inr (by decide), .inr ⟨two_bad, rfl⟩⟩, rfl, rfl⟩ tx) d_str).to (congrArg PyData.bool (decide_eq_true rfl)))

end K34
/-! ## K34k -/
set_option Elab.async false
set_option linter.all false
set_option maxRecDepth 100000
set_option maxHeartbeats 1100000
namespace K34
open PySem L2 TD PySem.Spec PyProof.Rows
open Evl (Ex ex_l ex_t fresh_back sq_of st_of sz_of sz_lt rMax2)
variable [TabW]


abbrev s_law_bag : Stmt := top 29
theorem sc_law_bag : FnScope ["_law_script", "_law_spot", "_law_cell", "_law_great", "_law_mixed_here"] ["_law_script", "_law_spot"] (defScope s_law_bag) := ⟨rfl, rfl, rfl, by decide +kernel, rfl, by decide +kernel, by decide +kernel⟩
abbrev R_law_bag : PySem.W.Frag → Sp := spBag
theorem ok_law_bag {P : Program} {w : World} {K : PySem.W.Frag} {mg : Str → Option Value} {base : Heap} (F : DefAt K "_law_bag" s_law_bag) (hX : K.In base) (hG : base.Ns mainGlobals mg) {Y : Cn} (T : Txt K mg Y)  : FnS P w K mg base 1 "_law_bag" ["_law_script", "_law_spot"] (R_law_bag K) := by
  have nd := sc_law_bag.nd
  refine fnS_mk F hX hG sc_law_bag ?len (fun _ _ _ _ _ _ _ us hl => match us, hl with | [_, _], _ => rfl) (fun f cdv A outer s H E hr => ⟨_, (pss_cons (ps_set (i := 2) nd rfl (Or.inl rfl) (pe_ifExp (pt_cmpR op_lt (pv 1) (pe_callB (c_lenK (K := K)) (by rfl) T.z_len bo_len (pa_cons (pv 0) pa_nil)) (nomark _)) (pe_ix ix_list (pv 0) (pv 1) (fun _ _ => rfl)) (pe_op op_add (pe_op op_add (pe_callB (cr_sum rfl) (by rfl) T.z_sum bo_sum (pa_cons (pe_slice sl_list (pv 0) po_none (po_some pe_int)) pa_nil)) (pe_op op_mul pe_int (pv 1))) pe_int))) (pss_cons (ps_set (i := 3) nd rfl (Or.inl rfl) (pe_op op_mod (pe_callTy c_int (by rfl) T.z_int bo_int (pa_cons (pe_callB c_abs (by rfl) T.z_abs bo_abs (pa_cons (pv 2) pa_nil)) pa_nil)) (pe_op op_powW (pe_op op_powW pe_int pe_int) pe_int))) (pss_cons (ps_set (i := 4) nd rfl (Or.inl rfl) (pe_op op_add (pe_op op_add (pe_op op_add (pe_op op_mul (pe_op op_mod (pe_callTy c_int (by rfl) T.z_int bo_int (pa_cons (pv 3) pa_nil)) pe_int) pe_int) (pe_op op_mul pe_int (pv 1))) (pe_op op_mul pe_int (pe_callTy c_int (by rfl) T.z_int bo_int (pa_cons (pe_cmpR op_lt (pv 2) pe_int (nomark _)) pa_nil)))) pe_int)) (pss_one (ps_ret (pe_lst (pa_cons (pe_callB (c_max2 rfl) (by rfl) T.z_max bo_max (pa_cons pe_int (pa_cons (pe_op op_sub (pv 3) (pe_op op_powW pe_int pe_int)) pa_nil))) (pa_cons (pe_op op_mod (pe_callTy c_int (by rfl) T.z_int bo_int (pa_cons (pv 4) pa_nil)) pe_int) (pa_cons pe_int pa_nil))))))))), fun vs H Q E hsp => ?run⟩)
  case len =>
    rintro vs H Q E ⟨a, ns, spot, G, rfl, _⟩
    rfl
  case run =>
    dsimp only [cxOf, Cx.nox, Cx.wish]
    obtain ⟨a, ns, spot, G, rfl, e, tb, hS, h0, h10, k⟩ := hsp
    have hb : ∀ (b : Addr) (c : Int) (G' H' : Hp), Step b false G H G' H' → EnvD K b none G' H' [some (.ref a), some (.int spot), some (.int c), none, none] [none, some (.imm (.int spot)), some (.imm (.int c)), none, none] := fun b c G' H' s' => by
      refine ⟨s'.s, (fun _ z => nomatch z), rfl, fun i d hi => ?_, fun i hi => ?_, s'.tabs tb, fun i a hi => ?_⟩
      · match i, hi with
        | 0, hi => cases hi
        | 1, hi => cases hi; exact ⟨_, rfl, .int _⟩
        | 2, hi => cases hi; exact ⟨_, rfl, .int _⟩
        | 3, hi => cases hi
        | 4, hi => cases hi
        | n + 5, hi => cases hi
      · match i, hi with
        | 0, hi => cases hi
        | 1, hi => cases hi
        | 2, hi => cases hi
        | 3, hi => cases hi
        | 4, hi => cases hi
        | n + 5, hi => cases hi
      · match i, hi with
        | 0, hi => cases hi
        | 1, hi => cases hi
        | 2, hi => cases hi
        | 3, hi => cases hi
        | 4, hi => cases hi
        | n + 5, hi => cases hi
    have tail : ∀ (b : Addr) (c : Int) (G' H' : Hp) (D : Ends), D.rt = Q → Step b false G H G' H' → (tSeq (tAsg (tOp (rI (fun _ j => 0 < j) fun i j => .int (i % j)) (tCB rInt1 (tCons (tCB rAbs (tCons (tVar 2) tNil)) tNil)) (tOp (rI CPowW fun i j => .int (i ^ j.toNat)) (tOp (rI CPowW fun i j => .int (i ^ j.toNat)) (tC (.int 10)) (tC (.int 45))) (tC (.int 13)))) (gName 3)) (tSeq (tAsg (tOp (rI0 fun i j => .int (i + j)) (tOp (rI0 fun i j => .int (i + j)) (tOp (rI0 fun i j => .int (i + j)) (tOp (rI CMul fun i j => .int (i * j)) (tOp (rI (fun _ j => 0 < j) fun i j => .int (i % j)) (tCB rInt1 (tCons (tVar 3) tNil)) (tC (.int 2305843009213693723))) (tC (.int 1000403))) (tOp (rI CMul fun i j => .int (i * j)) (tC (.int 9041)) (tVar 1))) (tOp (rI CMul fun i j => .int (i * j)) (tC (.int 47)) (tCB rInt1 (tCons (tOp (rI0 fun i j => .bl (decide (i < j))) (tVar 2) (tC (.int 0))) tNil)))) (tC (.int 31))) (gName 4))
        (tRet (tLst (tCons (tCB rMax2 (tCons (tC (.int 0)) (tCons (tOp (rI0 fun i j => .int (i - j)) (tVar 3) (tOp (rI CPowW fun i j => .int (i ^ j.toNat)) (tC (.int 10)) (tC (.int 18)))) tNil))) (tCons (tOp (rI (fun _ j => 0 < j) fun i j => .int (i % j)) (tCB rInt1 (tCons (tVar 4) tNil)) (tC (.int 2305843009213693951))) (tCons (tC (.int 0)) tNil))))))) D [some (.ref a), some (.int spot), some (.int c), none, none] H' := by
      intro b c G' H' D hD s'
      have hpp : (0 : Int) < (10 ^ (45 : Int).toNat) ^ (13 : Int).toNat := by decide
      have cp : CPowW (10 ^ (45 : Int).toNat) 13 := ⟨by decide, by decide⟩
      refine (st_asg (d_mod (d_intI (d_abs (d_var rfl))) (d_pow (d_pow d_int d_int ⟨by decide, by decide⟩) d_int cp) hpp)).run b G' H' _ _ (hb b c G' H' s') fun σ2 G2 H2 s2 E2 => ?_
      refine (st_asg (d_add (d_add (d_add (d_mul (d_mod (d_intI (d_var rfl)) d_int (by decide)) d_int (.inr (by decide))) (d_mul d_int (d_var rfl) (.inl (by decide)))) (d_mul d_int (d_intB (d_lt (d_var rfl) d_int)) (.inl (by decide)))) d_int)).run b G2 H2 _ _ E2 fun σ3 G3 H3 s3 E3 => ?_
      dsimp only [tRet]
      unfold tLst
      refine' EvA.run (as := imms (List.map PyData.int [if (TD.absI c % (10 ^ 45) ^ 13 - 10 ^ 18) > 0 then TD.absI c % (10 ^ 45) ^ 13 - 10 ^ 18 else 0, (((TD.absI c % (10 ^ 45) ^ 13) % 2305843009213693723 * 1000403 + 9041 * spot) + 47 * (if decide (c < 0) = true then 1 else 0) + 31) % 2305843009213693951, 0])) (β' := none) ?ea b G3 H3 σ3 _ E3 fun vs G4 H4 s4 k4 d4 => ?_
      case ea => exact a_con (β1 := none) (d_max2 (β1 := none) d_int (d_sub (β1 := none) (d_var rfl) (d_pow (β1 := none) d_int d_int ⟨by decide, by decide⟩))) (a_con (β1 := none) (d_mod (β1 := none) (d_intI (d_var rfl)) d_int (by show (0 : Int) < 2305843009213693951; decide)) (a_con (β1 := none) d_int a_nil))
      have s := ((s'.trans s2).trans s3).trans s4
      have dl := DenSs.imm (ds := List.map PyData.int [if (TD.absI c % (10 ^ 45) ^ 13 - 10 ^ 18) > 0 then TD.absI c % (10 ^ 45) ^ 13 - 10 ^ 18 else 0, (((TD.absI c % (10 ^ 45) ^ 13) % 2305843009213693723 * 1000403 + 9041 * spot) + 47 * (if decide (c < 0) = true then 1 else 0) + 31) % 2305843009213693951, 0]) d4
      have ev := dl.ints
      subst ev
      refine ⟨by show 3 ≤ sizeLine; decide, fun p hp => ?_⟩
      have gp : G4 p = none := fresh_back s.s hp
      have hp0 : Gone H p := fun o t z => by
        obtain ⟨o', _, z2⟩ := s.stay p o t z
        rw [hp] at z2
        cases z2
      have sm : ∀ xs : List V, Step p false G H G4 (upd H4 p (.lst xs)) := fun xs => by
        have sm : Step b false G H G4 (upd H4 p (.lst xs)) := s.mut hp0 gp (LstAt.none hp)
        exact ⟨sm.g, sm.s, sm.fresh, fun x o _ t h => sm.keep x o (fun z => nomatch z) t h, sm.stay, sm.tabs⟩
      rw [hD]
      exact k p G4 _ _ (sm _) gp upd_same (bag_ok h0)
    have hSH := ex_l e hS
    refine ⟨_, rfl, _, rfl, a, ns.map V.int, rfl, .inl hSH, spot, _, rfl, rfl, _, rfl, ?_⟩
    by_cases hlt : spot < ((ns.map V.int).length : Int)
    · dsimp only []
      rw [if_pos (decide_eq_true hlt)]
      obtain ⟨m, hm⟩ : ∃ m : Nat, spot = (m : Int) := ⟨spot.toNat, by omega⟩
      subst hm
      have hlt' : m < ns.length := by rw [List.length_map] at hlt; omega
      exact ⟨_, rfl, _, rfl, a, ns.map V.int, (m : Int), V.int ns[m], rfl, rfl, hSH, atI_nat (by rw [List.getElem?_map, List.getElem?_eq_getElem hlt']; rfl), tail 0 _ G H _ rfl (Step.refl e)⟩
    · dsimp only []
      rw [if_neg (by rw [decide_eq_false hlt]; decide)]
      refine ⟨_, rfl, 1, rfl, a, ns.map V.int, rfl, hSH, fun p hp => ?_⟩
      have n := Step.new (b := 0) (m := false) (o := .lst (cutV (ns.map V.int) none (some 1))) e hp
      have ec : cutV (ns.map V.int) none (some 1) = ((ns.drop (HT.sIx ns.length 0 none)).take (HT.sIx ns.length ns.length (some 1) - HT.sIx ns.length 0 none)).map V.int := by
        unfold cutV
        rw [List.map_take, List.map_drop, List.length_map]
      exact ⟨p, _, rfl, sq_of (by rw [upd_same, ec]), _, rfl, 127, spot, rfl, rfl, .inl (by decide), _, _, rfl, rfl, _, _, rfl, rfl, tail 0 _ _ _ _ rfl n⟩

abbrev lawPrimes : List Int := [0, 0, 3, 5, 7, 11, 13]
theorem law_prime {p : Int} (h : p ∈ lawPrimes) : p ∈ Num.lawP := by
  unfold lawPrimes at h
  simp only [List.mem_cons, List.not_mem_nil, or_false] at h
  unfold Num.lawP
  simp only [List.mem_cons, List.not_mem_nil, or_false]
  omega
theorem refB_bag {p : Int} {ns : List Int} (hb : ∃ n, Num.BagI n ns) : ∃ n, Num.BagI n (refB p ns) := Num.grab_bag' (by decide) (Num.grab_bag' (t := 15) (by decide) (Num.grab_bag' (t := 9) (by decide) (Num.spots_bag (p := p) hb)))
theorem fine_of {p : Int} {a b c d : Int × Int} (pr : Num.PrimeI p) (ga : Num.goodP p a = true) (gb : Num.goodP p b = true) (gc : Num.goodP p c = true) (gd : Num.goodP p d = true) (nd : [a, b, c, d].Nodup) : FineS p a b c d := by
  obtain ⟨a1, a2⟩ := Num.good_iff.mp ga
  obtain ⟨b1, b2⟩ := Num.good_iff.mp gb
  obtain ⟨c1, c2⟩ := Num.good_iff.mp gc
  obtain ⟨d1, d2⟩ := Num.good_iff.mp gd
  exact ⟨⟨pr, a1, b1, c1, d1, nd⟩, a2, b2, c2, d2⟩
theorem fine1 : FineS 0 (1, 0) (0, 1) (1, 1) (1, -1) := fine_of (.inl rfl) (by decide +kernel) (by decide +kernel) (by decide +kernel) (by decide +kernel) (by decide)
theorem fine2 : FineS 5 (1, 0) (0, 1) (1, 1) (1, 2) := fine_of (.inr (by decide)) (by decide +kernel) (by decide +kernel) (by decide +kernel) (by decide +kernel) (by decide)
theorem fine3 : FineS 3 (1, 0) (0, 1) (1, 1) (1, 2) := fine_of (.inr (by decide)) (by decide +kernel) (by decide +kernel) (by decide +kernel) (by decide +kernel) (by decide)
theorem fine4 : FineS 0 (1, 0) (1, 1) (0, 1) (1, -1) := fine_of (.inl rfl) (by decide +kernel) (by decide +kernel) (by decide +kernel) (by decide +kernel) (by decide)
theorem cr1 : Num.crF 0 (1, 0) (0, 1) (1, 1) (1, -1) = [1, -1] := by decide +kernel
theorem cr2 : Num.crF 5 (1, 0) (0, 1) (1, 1) (1, 2) = [1, 2] := by decide +kernel
theorem cr3 : decide (Num.settled 3 (Num.crF 3 (1, 0) (0, 1) (1, 1) (1, 2)).sum = 0) = true := by decide +kernel
theorem cr4 : decide (Num.settled 0 (Num.crF 0 (1, 0) (1, 1) (0, 1) (1, -1)).sum = 0) = false := by decide +kernel


abbrev s_law : Stmt := top 49
theorem sc_law : FnScope ["_law_script", "_law_at", "_law_bag_here", "_law_prime", "_law_told"] ["_law_script"] (defScope s_law) := ⟨rfl, rfl, rfl, by decide +kernel, rfl, by decide +kernel, by decide +kernel⟩
abbrev R_law : PySem.W.Frag → Sp := spLaw
theorem ok_law {P : Program} {w : World} {K : PySem.W.Frag} {mg : Str → Option Value} {base : Heap} (F : DefAt K "law" s_law) (hX : K.In base) (hG : base.Ns mainGlobals mg) {Y : Cn} (T : Txt K mg Y) (G_law_bag : FnS P w K mg base 1 "_law_bag" ["_law_script", "_law_spot"] (R_law_bag K)) (G_law_one_of : FnG P w K mg base 2 "_law_one_of" ["_law_bag_here", "_law_items"] R_law_one_of) (G_cross_ratio : FnX P w K mg base 5 "cross_ratio" ["prime", "spots"] (R_cross_ratio Y)) (G_is_harmonic : FnX P w K mg base 6 "is_harmonic" ["prime", "spots"] (R_is_harmonic Y)) (G_law_told_right : FnH P w K mg base 7 "_law_told_right" ["_law_bag_here", "_law_prime"] R_law_told_right) (G_law_refused_right : FnH P w K mg base 9 "_law_refused_right" ["_law_bag_here", "_law_prime"] R_law_refused_right) : FnSG P w K mg base 10 "law" ["_law_script"] (R_law K) := by
  have nd := sc_law.nd
  refine fnSG_mk F hX hG sc_law ?len (fun _ _ _ _ _ _ _ us hl => match us, hl with | [_], _ => rfl) (fun f cdv A outer s H E hr => ⟨_, (pss_cons (ps_for PassesOwn.never rfl (pi_range1 (by rfl) T.z_range (pa_cons (pe_callB (c_max2 rfl) (by rfl) T.z_max bo_max (pa_cons pe_int (pa_cons (pe_callB (c_min2 rfl) (by rfl) T.z_min bo_min (pa_cons pe_int (pa_cons (pe_callB (c_lenK (K := K)) (by rfl) T.z_len bo_len (pa_cons (pv 0) pa_nil)) pa_nil))) pa_nil))) pa_nil)) (pg_name (i := 1) nd rfl (Or.inl rfl)) (pss_cons (ps_set (i := 2) nd rfl (Or.inl rfl) (pe_fnS G_law_bag (hr.toRoom.mono (by decide)) (pa_cons (pv 0) (pa_cons (pv 1) pa_nil)))) (pss_cons (ps_set (i := 3) nd rfl (Or.inl rfl) (pe_fn G_law_one_of (hr.toRoom.mono (by decide)) (pa_cons (pv 2) (pa_cons (pe_lst (pa_cons pe_int (pa_cons pe_int (pa_cons pe_int (pa_cons pe_int (pa_cons pe_int (pa_cons pe_int (pa_cons pe_int pa_nil)))))))) pa_nil)))) (pss_one (ps_if (PW.pt (pw_or (pt_not (pt_val (pe_fnH G_law_told_right (hr.mono (by decide)) (pa_cons (pv 2) (pa_cons (pv 3) pa_nil))))) (pw_or1 (pt_not (pt_val (pe_fnH G_law_refused_right (hr.mono (by decide)) (pa_cons (pv 2) (pa_cons (pv 3) pa_nil)))))))) (pss_one (ps_ret pe_bl)) pss_nil))))) (pss_cons (ps_set (i := 4) nd rfl (Or.inl rfl) (pe_lst (pa_cons (pe_fnX (E := E0) G_cross_ratio (hr.toRoom.mono (by decide)) passL (pa_cons pe_int (pa_cons (pe_tup (pa_cons (pe_tup (pa_cons pe_int (pa_cons pe_int pa_nil))) (pa_cons (pe_tup (pa_cons pe_int (pa_cons pe_int pa_nil))) (pa_cons (pe_tup (pa_cons pe_int (pa_cons pe_int pa_nil))) (pa_cons (pe_tup (pa_cons pe_int (pa_cons (pe_un un_neg pe_int) pa_nil))) pa_nil))))) pa_nil))) (pa_cons (pe_fnX (E := E0) G_cross_ratio (hr.toRoom.mono (by decide)) passL (pa_cons pe_int (pa_cons (pe_tup (pa_cons (pe_tup (pa_cons pe_int (pa_cons pe_int pa_nil))) (pa_cons (pe_tup (pa_cons pe_int (pa_cons pe_int pa_nil))) (pa_cons (pe_tup (pa_cons pe_int (pa_cons pe_int pa_nil))) (pa_cons (pe_tup (pa_cons pe_int (pa_cons pe_int pa_nil))) pa_nil))))) pa_nil))) pa_nil)))) (pss_cons (ps_if (pt_cmpR (op_neD hr.units) (pv 4) (pe_lst (pa_cons (pe_tup (pa_cons pe_int (pa_cons (pe_un un_neg pe_int) pa_nil))) (pa_cons (pe_tup (pa_cons pe_int (pa_cons pe_int pa_nil))) pa_nil))) (nomark _)) (pss_one (ps_ret pe_bl)) pss_nil) (pss_one (ps_ret (pe_and (pe_fnX (E := E0) G_is_harmonic (hr.toRoom.mono (by decide)) passL (pa_cons pe_int (pa_cons (pe_tup (pa_cons (pe_tup (pa_cons pe_int (pa_cons pe_int pa_nil))) (pa_cons (pe_tup (pa_cons pe_int (pa_cons pe_int pa_nil))) (pa_cons (pe_tup (pa_cons pe_int (pa_cons pe_int pa_nil))) (pa_cons (pe_tup (pa_cons pe_int (pa_cons pe_int pa_nil))) pa_nil))))) pa_nil))) (pe_one (pe_not (pe_fnX (E := E0) G_is_harmonic (hr.toRoom.mono (by decide)) passL (pa_cons pe_int (pa_cons (pe_tup (pa_cons (pe_tup (pa_cons pe_int (pa_cons pe_int pa_nil))) (pa_cons (pe_tup (pa_cons pe_int (pa_cons pe_int pa_nil))) (pa_cons (pe_tup (pa_cons pe_int (pa_cons pe_int pa_nil))) (pa_cons (pe_tup (pa_cons pe_int (pa_cons (pe_un un_neg pe_int) pa_nil))) pa_nil))))) pa_nil))))))))))), fun vs H Q E hsp => ?run⟩)
  case len =>
    rintro vs H Q E ⟨a, ns, G, rfl, _⟩
    rfl
  case run =>
    dsimp only [cxOf, Cx.nox, Cx.wish]
    obtain ⟨a, ns, G, rfl, eG, tbG, hS, hl, k⟩ := hsp
    refine ⟨_, rfl, a, ns.map V.int, rfl, .inl (ex_l eG hS), ?_⟩
    refine ⟨6, _, rfl, ?_⟩
    refine ⟨1, _, rfl, ?_⟩
    refine ⟨_, rfl, ?_, ?_, ?_⟩
    · split <;> split <;> omega
    · rw [List.length_map]; split <;> split <;> omega
    refine for_range (lo := 0) (n := _) (fun i σ' H' => ∃ G', Ex G' H' ∧ TabsOk G' H' ∧ σ'.length = 5 ∧ σ'[0]? = some (some (.ref a)) ∧ SqL K G' a (ns.map V.int)) ⟨G, eG, tbG, rfl, rfl, hS⟩ ?_ ?_
    · rintro i σ' H' hi ⟨G', e, tb, hl6, h0, hS'⟩
      have hi3 : i < 6 := by
        have : (if (if ((ns.map V.int).length : Int) < 6 then ((ns.map V.int).length : Int) else 6) > 1 then (if ((ns.map V.int).length : Int) < 6 then ((ns.map V.int).length : Int) else 6) else 1) ≤ (6 : Int) := by split <;> split <;> omega
        omega
      have q0 : (σ'.set 1 (some (V.int (0 + (i : Int)))))[0]? = some (some (.ref a)) := by rw [List.getElem?_set_ne (by decide)]; exact h0
      have q1 : (σ'.set 1 (some (V.int (0 + (i : Int)))))[1]? = some (some (.int (0 + (i : Int)))) := List.getElem?_set_self (by omega)
      refine ⟨_, q0, _, q1, a, ns, 0 + (i : Int), G', rfl, e, tb, hS', by omega, by omega, fun p G2 H2 bag s2 gp hp hbag => ?_⟩
      have hlen : ((σ'.set 1 (some (V.int (0 + (i : Int))))).set 2 (some (V.ref p))).length = 5 := by rw [List.length_set, List.length_set]; exact hl6
      have q2 : ((σ'.set 1 (some (V.int (0 + (i : Int))))).set 2 (some (V.ref p)))[2]? = some (some (.ref p)) := List.getElem?_set_self (by rw [List.length_set]; omega)
      have q20 : ((σ'.set 1 (some (V.int (0 + (i : Int))))).set 2 (some (V.ref p)))[0]? = some (some (.ref a)) := by rw [List.getElem?_set_ne (by decide)]; exact q0
      have E5 : EnvD K p (some bag) G2 H2 ((σ'.set 1 (some (V.int (0 + (i : Int))))).set 2 (some (V.ref p))) [none, none, some .bag, none, none] := by
        refine ⟨s2.s, fun ms em => (by cases em; exact ⟨hp, gp⟩), hlen, fun j d hj => ?_, fun j hj => ?_, s2.tabs tb, fun j a hj => ?_⟩
        · match j, hj with
          | 0, hj => cases hj
          | 1, hj => cases hj
          | 2, hj => cases hj
          | 3, hj => cases hj
          | 4, hj => cases hj
          | n + 5, hj => cases hj
        · match j, hj with
          | 0, hj => cases hj
          | 1, hj => cases hj
          | 2, hj => exact q2
          | 3, hj => cases hj
          | 4, hj => cases hj
          | n + 5, hj => cases hj
        · match j, hj with
          | 0, hj => cases hj
          | 1, hj => cases hj
          | 2, hj => cases hj
          | 3, hj => cases hj
          | 4, hj => cases hj
          | n + 5, hj => cases hj
      have hq := law_prime (Num.one_mem (xs := lawPrimes) (by decide) bag)
      have hb0 := Num.one_bag (xs := lawPrimes) (by decide) hbag
      refine (c_oneI (K := K) (ρ := [none, none, some .bag, none, none]) (i := 2) (E := E0) (xs := lawPrimes) rfl (d_lst (a_con d_int (a_con d_int (a_con d_int (a_con d_int (a_con d_int (a_con d_int (a_con d_int a_nil))))))) rfl (by decide)) (by decide) (by decide) ⟨_, hbag⟩).run p G2 H2 _ _ E5 fun v G3 H3 s3 k3 d3 => ?_
      generalize (Num.oneF lawPrimes bag).1 = q at *
      generalize (Num.oneF lawPrimes bag).2 = bag1 at *
      have E6 : EnvD K p (some bag1) G3 H3 (((σ'.set 1 (some (V.int (0 + (i : Int))))).set 2 (some (V.ref p))).set 3 (some v)) [none, none, some .bag, some (.imm (.int q)), none] := (E5.step s3 k3).set (i := 3) d3
      have h30 : (((σ'.set 1 (some (V.int (0 + (i : Int))))).set 2 (some (V.ref p))).set 3 (some v))[0]? = some (some (.ref a)) := by rw [List.getElem?_set_ne (by decide)]; exact q20
      obtain ⟨n1, hb1⟩ := Num.table_bag (Num.lawP_prime hq) (Num.four_bag hq ⟨_, hb0⟩)
      have ht := t_orF (K := K) (ρ := [none, none, some .bag, some (.imm (.int q)), none]) (β := some bag1) (t_not (t_B (c_fD (K := K) (E := E0) (a := fun p : Int => [.imm (.int p)]) (P := fun p => p ∈ Num.lawP) (g := fun p ns => (.bool true, (Num.tableF p (Num.fourF p ns).2).2)) (x := q) (t := tCons (tVar 2) (tCons (tVar 3) tNil)) (a_bg rfl (a_con (d_var rfl) a_nil)) hq hb0)))
        (t_not (t_B (c_fD (K := K) (E := E0) (a := fun p : Int => [.imm (.int p)]) (P := fun p => p ∈ Num.lawP) (g := fun p ns => (.bool true, refB p ns)) (x := q) (t := tCons (tVar 2) (tCons (tVar 3) tNil)) (a_bg rfl (a_con (d_var rfl) a_nil)) hq hb1)))
      refine ht.run p G3 H3 _ _ E6 fun G4 H4 s4 k4 => ?_
      rw [if_neg (by decide)]
      have E7 := E6.step s4 k4
      exact ⟨G4, E7.sub, E7.tabs, E7.len, h30, ex_l ((s2.g.trans s3.g).trans s4.g) hS'⟩
    · rintro σ' H' ⟨G', e, tb, hl6, h0, hS'⟩
      have E5 : EnvD K 0 none G' H' σ' [none, none, none, none, none] := by
        refine ⟨e, (fun _ z => nomatch z), hl6, fun j d hj => ?_, fun j hj => ?_, tb, fun j a hj => ?_⟩
        · match j, hj with
          | 0, hj => cases hj
          | 1, hj => cases hj
          | 2, hj => cases hj
          | 3, hj => cases hj
          | 4, hj => cases hj
          | n + 5, hj => cases hj
        · match j, hj with
          | 0, hj => cases hj
          | 1, hj => cases hj
          | 2, hj => cases hj
          | 3, hj => cases hj
          | 4, hj => cases hj
          | n + 5, hj => cases hj
        · match j, hj with
          | 0, hj => cases hj
          | 1, hj => cases hj
          | 2, hj => cases hj
          | 3, hj => cases hj
          | 4, hj => cases hj
          | n + 5, hj => cases hj
      dsimp only []
      refine StB.run (o := .ret (.bool true)) (β' := none) ?st 0 G' H' σ' _ E5 fun v G2 H2 s2 k2 d2 => ?_
      case st =>
        refine st_sq (st_asg (d := .list ([[1, -1], [1, 2]].map tupI)) (d_lst (ds := [tupI [1, -1], tupI [1, 2]]) (a_con (β1 := none) ((c_cr (p := 0) (.inl rfl) d_int (d_four (d_pr d_int d_int) (d_pr d_int d_int) (d_pr d_int d_int) (d_pr d_int (d_neg d_int))) fine1).to (by rw [cr1])) (a_con (β1 := none) ((c_cr (p := 5) (.inr (by decide)) d_int (d_four (d_pr d_int d_int) (d_pr d_int d_int) (d_pr d_int d_int) (d_pr d_int d_int)) fine2).to (by rw [cr2])) a_nil)) rfl (by show 2 ≤ 100000; decide))) ?_
        show StB K _ [none, none, none, none, some (.imm (.list ([[1, -1], [1, 2]].map tupI)))] none _ _
        refine st_sq (st_ifF (t_test (d_eqTups (ss := [[1, -1], [1, 2]]) (d_var rfl) (d_lst (ds := [tupI [1, -1], tupI [1, 2]]) (a_con (β1 := none) (d_pr d_int (d_neg d_int)) (a_con (β1 := none) (d_pr d_int d_int) a_nil)) rfl (by show 2 ≤ 100000; decide)))) st_next) ?_
        exact st_ret (d_andT ((c_ih (p := 3) (.inr (by decide)) d_int (d_four (d_pr d_int d_int) (d_pr d_int d_int) (d_pr d_int d_int) (d_pr d_int d_int)) fine3).to (congrArg PyData.bool cr3)) ((d_not ((c_ih (p := 0) (.inl rfl) d_int (d_four (d_pr d_int d_int) (d_pr d_int d_int) (d_pr d_int d_int) (d_pr d_int (d_neg d_int))) fine4).to (congrArg PyData.bool cr4)))))
      · cases d2
        exact k H2

end K34
/-! ## TdV -/
set_option Elab.async false
set_option linter.all false
set_option maxRecDepth 100000
set_option maxHeartbeats 4100000
/-! The law's call where nothing is being shown: its script and the tables of code objects are followed. -/
namespace TD
open PySem L2 LamX PySem.Spec PyProof.Rows
section
variable {K : PySem.W.Frag} {T : List Addr} {a b : Addr} {vs : List Value} {ns : List Int}
abbrev scriptObj (vs : List Value) : Obj := { cls := .type "list", data := .seq vs.toArray }
abbrev emptyTab : Obj := { cls := .none, data := .fields #[] }
/-- what is followed from the start: the tables; and the script, unless the heap's known part has it -/
def seenAt (K : PySem.W.Frag) (T : List Addr) (a : Addr) (vs : List Value) (ns : List Int) : Hp := fun b =>
  if b ∈ T then some (.tbl #[])
  else if b = a ∧ K.lookup a = none then some (.frz (scriptObj vs) (.lst (ns.map V.int)))
  else none
inductive Seen (K : PySem.W.Frag) (T : List Addr) (a : Addr) (vs : List Value) (ns : List Int) (b : Addr) : Option HO → Prop
  | tab : b ∈ T → Seen K T a vs ns b (some (.tbl #[]))
  | script : b ∉ T → b = a → K.lookup a = none → Seen K T a vs ns b (some (.frz (scriptObj vs) (.lst (ns.map V.int))))
  | off : b ∉ T → (b = a → K.lookup a ≠ none) → Seen K T a vs ns b none
theorem seen_is (K : PySem.W.Frag) (T : List Addr) (a : Addr) (vs : List Value) (ns : List Int) (b : Addr) : Seen K T a vs ns b (seenAt K T a vs ns b) := by
  unfold seenAt
  by_cases h1 : b ∈ T
  · rw [if_pos h1]
    exact .tab h1
  · rw [if_neg h1]
    by_cases h2 : b = a ∧ K.lookup a = none
    · rw [if_pos h2]
      exact .script h1 h2.1 h2.2
    · rw [if_neg h2]
      exact .off h1 fun e z => h2 ⟨e, z⟩
end
section
variable [TabW] {P : Program} {w : World} {K : PySem.W.Frag} {mg mb : Str → Option Value} {k : Nat} {fa a : Addr} {cs : List (Addr × Addr)} {fd : FuncData} {x : Str} {s : Shared} {vs : List Value} {ns : List Int}
theorem call_lawG (KX : K.In s.heap) (gm : s.heap.Ns mainGlobals mg) (gb : s.heap.Ns builtinsNs mb) (bb : ∀ y : Str, y ≠ "__name__" → mb y = bootBuiltins y) (nl : s.heap.NoLimit) (ge : s.gens = #[])
    (tabs : ∀ p ∈ cs, s.heap.get? p.2 = some emptyTab) (free : ∀ p ∈ cs, K.lookup p.2 = none) (code : ∀ p ∈ cs, PySem.W.CodeHd s.heap p.1 p.2) (hw : ∀ Q q, TabW.w Q q → Q ∈ cs.map (·.2))
    (bm : ∃ (m : Addr) (o : Obj), mg "__builtins__" = some (.ref m) ∧ m ≠ builtinsNs ∧ s.heap.get? m = some o ∧ o.cls = .type "module" ∧ o.dict = some builtinsNs ∧ o.data = .plain)
    (ha : s.heap.get? a = some (scriptObj vs)) (hi : IntsAre vs ns) (hl : ns.length ≤ 63) (hr : Room k callerA)
    (F : ∀ base : Heap, K.In base → base.Ns mainGlobals mg → (∀ p ∈ cs, TabB base mg p.1 p.2) → FnOkG P w K mg base CX0 k fa fd [x] (spLaw K)) (hb : ∀ (t : Shared) (u : Value), BindsTo t fd ⟨[u], []⟩ [(x, u)]) :
    codeAny (model P w) callerA (.call (.ref fa) ⟨[.ref a], []⟩) (fun r s' => r = .ok (.ret (.bool true)) ∧ OldK s.heap s'.heap ∧ s'.os = s.os ∧ AllBare s'.gens) s := by
  have tabT : ∀ {b : Addr}, b ∈ cs.map (·.2) → s.heap.get? b = some emptyTab := fun {b} hm => by
    obtain ⟨p, hp, rfl⟩ := List.mem_map.mp hm
    exact tabs p hp
  have inT : ∀ {p : Addr × Addr}, p ∈ cs → p.2 ∈ cs.map (·.2) := fun hp => List.mem_map_of_mem hp
  have aOff : a ∉ cs.map (·.2) := fun z => by
    have q := (tabT z).symm.trans ha
    exact nomatch congrArg Obj.data (Option.some.inj q)
  obtain ⟨H, hH⟩ : ∃ H, H = seenAt K (cs.map (·.2)) a vs ns := ⟨_, rfl⟩
  have seen : ∀ b, Seen K (cs.map (·.2)) a vs ns b (H b) := fun b => hH ▸ seen_is K (cs.map (·.2)) a vs ns b
  have lenV := hi.length
  have hz : (ns.map V.int).length ≤ sizeLine := by
    rw [List.length_map]
    exact Nat.le_trans hl (by decide)
  have rv := vals_ints hi
  -- objects of other kinds are not followed
  have off : ∀ {b : Addr} {o : Obj}, s.heap.get? b = some o → (∀ xs n, o.data ≠ .seq xs n) → o.data ≠ .fields #[] → H b = none := fun {b o} e d1 d2 => by
    have z := seen b
    generalize H b = u at z
    cases z with
    | tab hm =>
      have q := e.symm.trans (tabT hm)
      exact absurd (congrArg Obj.data (Option.some.inj q)) d2
    | script _ hba _ =>
      rw [hba] at e
      have q := e.symm.trans ha
      exact absurd (congrArg Obj.data (Option.some.inj q)) (d1 _ _)
    | off _ _ => rfl
  have still : ∀ {b : Addr} {o : Obj}, s.heap.get? b = some o → (∀ xs n, o.data ≠ .seq xs n) → o.data ≠ .fields #[] → (hidT s.heap H).get? b = some o := fun e d1 d2 => hidT_get e (off e d1 d2)
  have nsB : ∀ {b : Addr} {m : Str → Option Value}, s.heap.Ns b m → (hidT s.heap H).Ns b m := fun ⟨o, es, ep, e, d, r⟩ => ⟨o, es, ep, still e (fun _ _ z => by rw [d] at z; cases z) (fun z => by rw [d] at z; cases z), d, r⟩
  have kinB : K.In (hidT s.heap H) := fun b o e => hidT_get (KX b o e) (by
    have z := seen b
    generalize H b = u at z
    cases z with
    | tab hm =>
      obtain ⟨p, hp, rfl⟩ := List.mem_map.mp hm
      exact nomatch (free p hp).symm.trans e
    | script _ hba hk =>
      rw [hba] at e
      exact nomatch hk.symm.trans e
    | off _ _ => rfl)
  have modB : L2.Mod K mg (hidT s.heap H) := ⟨kinB, nsB gm, ⟨mb, nsB gb, bb⟩, let ⟨m, e1, e2⟩ := nl; ⟨m, nsB e1, e2⟩⟩
  have tabB : ∀ p ∈ cs, TabB (hidT s.heap H) mg p.1 p.2 := fun p hp => by
    have htp := tabs p hp
    refine ⟨?_, ?_, fun z => ?_⟩
    · obtain ⟨o, fs, fl, t1, gs, t2, bf, tx, t3, e, c1, c2, c3, r⟩ := code p hp
      refine ⟨o, fs, fl, t1, gs, t2, bf, tx, t3, still e (fun _ _ z => by rw [c2] at z; cases z) (fun z => ?_), c1, c2, c3, r⟩
      rw [c2] at z
      rw [Data.fields.inj z] at c3
      cases c3
    · obtain ⟨m, o, m1, m2, m3, m4, m5, m6⟩ := bm
      have nG : m ≠ mainGlobals := fun z => by
        obtain ⟨o', _, _, e', d', _⟩ := gm
        rw [z] at m3
        have q := m3.symm.trans e'
        cases q
        rw [m6] at d'
        cases d'
      have nP : m ≠ p.2 := fun z => by
        rw [z] at m3
        have q := m3.symm.trans htp
        cases q
        cases m6
      exact ⟨m, o, m1, m2, nG, nP, still m3 (fun _ _ z => by rw [m6] at z; cases z) (fun z => by rw [m6] at z; cases z), m4, m5, m6⟩
    · obtain ⟨o', _, _, e', d', _⟩ := gm
      rw [z] at e'
      have q := e'.symm.trans htp
      cases q
      cases d'
  have held : HOk P w H s.heap := fun b u hu => by
    have z := seen b
    rw [hu] at z
    cases z with
    | tab hm => exact tabT hm
    | script _ hba _ =>
      subst hba
      exact ⟨ha, hz, vs, _, rv, ha⟩
  have env : Env0 P w K mg (hidT s.heap H) callerA [] s H := ⟨rfl, modB, fun _ _ e => of_hidT e, Nat.le_of_eq (hidT_size _ _), trivial, (fun _ hm => nomatch (List.not_mem_nil hm)), held, .of_eq ge⟩
  -- the script as the def reads it, apart from the tables
  obtain ⟨G, hG⟩ : ∃ G : Hp, G = fun b => if b ∈ cs.map (·.2) then none else H b := ⟨_, rfl⟩
  have gOff : ∀ {b : Addr}, b ∉ cs.map (·.2) → G b = H b := fun hn => by rw [hG]; exact if_neg hn
  have gIn : ∀ {b : Addr}, b ∈ cs.map (·.2) → G b = none := fun hn => by rw [hG]; exact if_pos hn
  have exG : Evl.Ex G H := fun b o e => by
    by_cases hm : b ∈ cs.map (·.2)
    · exact nomatch (gIn hm).symm.trans e
    · exact (gOff hm).symm.trans e
  have scr : SqL K G a (ns.map V.int) := by
    cases hk : K.lookup a with
    | some o =>
      have q := (KX a o hk).symm.trans ha
      cases q
      exact .inr ⟨_, vs.toArray, _, hk, rfl, rfl, rfl, by rw [List.size_toArray, lenV]; exact Nat.le_trans hl (by decide), by simpa using rv⟩
    | none =>
      refine .inl (.inr ⟨scriptObj vs, ?_⟩)
      rw [gOff aOff]
      have z := seen a
      generalize H a = u at z
      cases z with
      | tab hm => exact absurd hm aOff
      | script _ _ _ => rfl
      | off _ hn => exact absurd hk (hn rfl)
  have tok : TabsOk G H := ⟨fun Q q hq => TabS.nil (by
    have hm := hw Q q hq
    have z := seen Q
    generalize H Q = u at z
    cases z with
    | tab _ => rfl
    | script hn _ _ => exact absurd hm hn
    | off hn _ => exact absurd hm hn), fun b ps e => by
    by_cases hm : b ∈ cs.map (·.2)
    · exact nomatch (gIn hm).symm.trans e
    · rw [gOff hm] at e
      have z := seen b
      rw [e] at z
      cases z with
      | tab h2 => exact hm h2⟩
  refine codeAny_mono ((F _ kinB (nsB gm) tabB).run callerA [] s H ⟨[.ref a], []⟩ [.ref a] [.ref a] (fun v _ => v = .bl true) (fun _ _ _ => False) ⟨hr, rfl⟩ env (hb s (.ref a)) (.cons rfl .nil) ⟨a, ns, G, rfl, exG, tok, scr, hl, fun _ => rfl⟩) fun r s' hq => ?_
  match r, hq with
  | .error _, hq => exact False.elim hq
  | .ok .next, hq => exact False.elim hq
  | .ok .brk, hq => exact False.elim hq
  | .ok .cont, hq => exact False.elim hq
  | .ok (.ret u), ⟨v, H', os', bare', un, held', rel, (hv : v = .bl true)⟩ =>
    subst hv
    obtain rfl : u = Value.bool true := rel
    have more_ : ∀ p ∈ cs, ∃ more : Array Value, s'.heap.get? p.2 = some { cls := .none, data := .fields more } := fun p hp => by
      have e : H p.2 = some (.tbl #[]) := by
        have z := seen p.2
        generalize H p.2 = u at z
        cases z with
        | tab _ => rfl
        | script hn _ _ => exact absurd (inT hp) hn
        | off hn _ => exact absurd (inT hp) hn
      obtain ⟨more, e'⟩ := un.tbls _ _ e
      exact ⟨_, held' _ _ e'⟩
    have old : ∀ b o, b ∉ cs.map (·.2) → s.heap.get? b = some o → s'.heap.get? b = some o := fun b o hn e => by
      cases hu : H b with
      | none => exact un.keep b o e hu (fun hm => nomatch (List.not_mem_nil hm)) (fun hm => nomatch (List.not_mem_nil hm))
      | some u =>
        have z := seen b
        rw [hu] at z
        cases z with
        | tab hm => exact absurd hm hn
        | script _ hba _ =>
          subst hba
          have q := e.symm.trans ha
          cases q
          exact (held' _ _ (un.frzs _ _ _ hu)).1
    refine ⟨rfl, ⟨fun b o e => ?_, fun b o e => ?_⟩, os', bare'⟩
    · by_cases hm : b ∈ cs.map (·.2)
      · obtain ⟨p, hp, rfl⟩ := (List.mem_map.mp hm)
        obtain ⟨more, e'⟩ := more_ p hp
        have q := e.symm.trans (tabs p hp)
        cases q
        exact .inr (.inl ⟨((code p hp).tab (tabs p hp)).isCodeTable, rfl, #[], more, rfl, by rw [Array.empty_append]; exact e'⟩)
      · exact .inl (old b o hm e)
    · by_cases hm : b ∈ cs.map (·.2)
      · obtain ⟨p, hp, rfl⟩ := (List.mem_map.mp hm)
        obtain ⟨more, e'⟩ := more_ p hp
        exact ⟨_, e'⟩
      · exact ⟨o, old b o hm e⟩
end
/-- the walk of a law, where tables are empty at the head -/
theorem walkG [TabW] {l : PySem.W.OpenLaw} {k : Nat} {q : Program} {loose : List Str} {XP : (Str → Option Value) → Heap → Prop} {YP : World → Heap → Prop} {d : DefRec} {K : Params → PySem.W.Frag} {x : Str} (cs : List (Addr × Addr)) (hw : ∀ Q y, TabW.w Q y → Q ∈ cs.map (·.2))
    (hn : l.most = some 63) (hdf : d.params.defaults = []) (hr : Room k callerA) (hY : ∀ (w : World) (h : Heap), YP w h → (K w.params).In h ∧ ∀ p ∈ cs, h.get? p.2 = some emptyTab)
    (F : ∀ (w : World) (mg : Str → Option Value) (g : Addr) (h : Heap), (K w.params).In h → h.Ns mainGlobals mg → mg d.name = some (.ref g) →
      (∀ p ∈ cs, (K w.params).lookup p.2 = none ∧ PySem.W.codeHdIn (K w.params) p.1 p.2 = true) ∧ ∃ fd : FuncData, (∀ (s : Shared) (u : Value), BindsTo s fd ⟨[u], []⟩ [(x, u)]) ∧
      ∀ base : Heap, (K w.params).In base → base.Ns mainGlobals mg → (∀ p ∈ cs, TabB base mg p.1 p.2) → FnOkG l.prog w (K w.params) mg base CX0 k g fd [x] (spLaw (K w.params))) :
    PySem.W.WalkO q loose XP YP l.row.toRowW d [] (fun f us => PySem.call f us) :=
  Att.attach_callB hn hdf fun w _ _ mg _ fa _ _ _ _ _ _ _ G Y _ _ _ hmg hobj hints hlen _ hg => by
    obtain ⟨KX, ht⟩ := hY w _ Y
    obtain ⟨hc, fd, hb, hF⟩ := F w mg fa _ KX G.T.g hmg
    exact call_lawG KX G.T.g G.T.b G.T.builtins G.T.nolimit hg ht (fun p hp => (hc p hp).1) (fun p hp => PySem.W.codeHd_of_K KX (hc p hp).2) hw G.T.bmain hobj hints hlen hr hF hb
end TD
/-! ## TdP -/
set_option Elab.async false
set_option linter.all false
set_option maxRecDepth 100000
set_option maxHeartbeats 4100000
/-! What the written part tells of classes of errors, of makers of lambdas, of their code objects. -/
namespace TD
open PySem L2 PySem.Spec PyProof.Rows
section
variable {K : PySem.W.Frag} {h : Heap} {mg : Str → Option Value} {x f : Str} {C D fI c P : Addr} {B newId initId : String} {bt : List Value}
theorem ownC_mk {nm q : Str} {N : Addr} {bs sub : List Value} {sn : List Str} {ab : Bool} {col : Option Bool} {dd od an : Option Addr} {k0 k1 k2 k3 k5 : Option Value} {rs : List Addr} {oc doc pm cdv ct : Value} {osl : Array (Option Value)} {qI : Str} {p p' q1 q2 q3 q4 : Pos}
    (F : PySem.ExcBaseFacts B newId initId bt) (hf : TO.Fld f) (hob : bt.contains (.type "object") = true) (hps : ∀ o : Value, refuseLoop o "__setattr__" bt = pure ()) (X : K.In h) (G : h.Ns mainGlobals mg)
    (gC : PySem.W.nsIn K mainGlobals x = some (some (.ref C))) (cl : K.lookup C = some (excClassObj nm q C N bs (TO.mroOver rs bt) true sn sub ab col dd k0 k1 k2 k3 k5 newId))
    (sa : PySem.W.findIn K (.ref C) "__setattr__" = some (some (.builtin "object.__setattr__"))) (ga : PySem.W.findIn K (.ref C) "__getattribute__" = some (some (.builtin "BaseException.__getattribute__"))) (gg : PySem.W.findIn K (.ref C) "__getattr__" = some none)
    (ex : PySem.W.subIn K (.ref C) (.type "BaseException") = some true) (hd : PySem.W.hasDictIn K C = true) (no : PySem.W.findIn K (.ref C) f = some none) (iC : PySem.W.findIn K (.ref C) "__init__" = some (some (.ref fI))) (tC : PySem.W.typeIn K (.ref fI) = some (.type "function"))
    (kC : PySem.W.keepIn K (.ref C) = true) (ty : PySem.W.typeIn K (.ref C) = some (.type "type"))
    (fn : K.lookup fI = some ⟨oc, od, .func (PySem.W.fnOf "__init__" qI (TO.inArgs f p p') (TO.inBody f q1 q2 q3 q4) (TO.inScope f) .none .none doc pm an cdv ct), osl⟩) (cd : PySem.W.codeIn K cdv qI = true) : OwnC K mg x f C :=
  ⟨fI, B, newId, initId, bt, F, ⟨PySem.W.mg_of X G gC, ⟨nm, q, N, bs, sn, sub, ab, col, dd, k0, k1, k2, k3, k5, rs, cl⟩, sa, ⟨ga, gg, ex, hd⟩, no, iC, tC, kC, ex, ty, oc, od, qI, doc, pm, an, cdv, ct, osl, p, p', q1, q2, q3, q4, fn, cd⟩, hf, hob, hps⟩
theorem bareC_mk (F : PySem.ExcBaseFacts B newId initId bt) (X : K.In h) (G : h.Ns mainGlobals mg) (gC : PySem.W.nsIn K mainGlobals x = some (some (.ref C))) (e : PySem.W.excIn K C bt newId = true) (kC : PySem.W.keepIn K (.ref C) = true)
    (ex : PySem.W.subIn K (.ref C) (.type "BaseException") = some true) (ty : PySem.W.typeIn K (.ref C) = some (.type "type")) : BareC K mg x C := ⟨B, newId, initId, bt, F, e, PySem.W.mg_of X G gC, kC, ex, ty⟩
/-- whether an error of the class C is caught by the name of D -/
theorem exm_mk {cd : ClassData} {b : Bool} (ex : PySem.W.subIn K (.ref D) (.type "BaseException") = some true) (cl : PySem.W.clsIn K D = some cd) (ty : PySem.W.typeIn K (.ref D) = some (.type "type")) (sb : PySem.W.subIn K (.ref C) (.ref D) = some b) : PySem.W.exmOne K (.ref C) (.ref D) = some b := by
  unfold PySem.W.exmOne PySem.W.kitCls
  rw [ex, if_pos (by decide)]
  dsimp only
  rw [cl, ty, if_pos (by rfl), sb]
theorem defAtC_mk {st : Stmt} {oc kV doc pm ct : Value} {od an : Option Addr} {osl : Array (Option Value)} {g : Addr} (a : PySem.W.nsIn K mainGlobals x = some (some (.ref g)))
    (l : K.lookup g = some ⟨oc, od, .func (PySem.W.fnOf x x (defArgs st) (defBody st) (defScope st) .none kV doc pm an (.ref c) ct), osl⟩) (e : PySem.W.codeIn K (.ref c) x = true) (k : PySem.W.keepIn K (.ref g) = true) : DefAtC K x st c := ⟨g, oc, od, kV, doc, pm, an, ct, osl, a, l, e, k⟩
theorem codeHd_mk {od : Option Addr} {vs : Array Value} {sl : Array (Option Value)} (l : K.lookup c = some ⟨.type "code", od, .fields vs, sl⟩) (e : PySem.W.codeHdIn [(c, ⟨.type "code", od, .fields vs, sl⟩)] c P = true) : PySem.W.codeHdIn K c P = true := by
  unfold PySem.W.codeHdIn at e ⊢
  rw [l]
  rwa [show List.lookup c [(c, (⟨.type "code", od, .fields vs, sl⟩ : Obj))] = some ⟨.type "code", od, .fields vs, sl⟩ from by simp [List.lookup]] at e
end
theorem den_ints {K : PySem.W.Frag} {a : Addr} {o : Obj} {its : Array Value} {n : Nat} {ns : List Int} (h : K.lookup a = some o) (h1 : o.cls = .type "tuple") (h2 : o.data = .seq its n) (h3 : its.size ≤ sizeLine) (h4 : Vals (ns.map V.int) its.toList) (G : Hp) : Den K G (.ref a) (.tuple (ns.map PyData.int)) := .tup (.inr ⟨o, its, n, h, h1, h2, h3, h4⟩) (DenL.of_ints ns)
theorem ve_IndexError : ∀ o : Value, refuseLoop o "__setattr__" [.type "IndexError", .type "LookupError", .type "Exception", .type "BaseException", .type "object"] = pure () := fun o => by rfl
theorem ve_OverflowError : ∀ o : Value, refuseLoop o "__setattr__" [.type "OverflowError", .type "ArithmeticError", .type "Exception", .type "BaseException", .type "object"] = pure () := fun o => by rfl
end TD
/-! ## K34m -/
set_option Elab.async false
set_option linter.all false
set_option maxRecDepth 100000
set_option maxHeartbeats 5000000
namespace K34
open PySem L2 TD PySem.Spec PyProof.Rows
structure DefsAt (K : PySem.W.Frag) (c : Addr) : Prop where
  d_is_integer : DefAt K "is_integer" s_is_integer
  d_is_prime : DefAt K "is_prime" s_is_prime
  d_need_prime : DefAt K "need_prime" s_need_prime
  d_fits : DefAt K "fits" s_fits
  d_all_fit : DefAt K "all_fit" s_all_fit
  d_settled : DefAt K "settled" s_settled
  d_inverse_of : DefAt K "inverse_of" s_inverse_of
  d_divisor_of : DefAt K "divisor_of" s_divisor_of
  d_made_normal : DefAt K "made_normal" s_made_normal
  d_is_small : DefAt K "is_small" s_is_small
  d_is_spot : DefAt K "is_spot" s_is_spot
  d_bracket : DefAt K "bracket" s_bracket
  d_cross_ratio : DefAt K "cross_ratio" s_cross_ratio
  d_is_harmonic : DefAt K "is_harmonic" s_is_harmonic
  d_law_bag : DefAt K "_law_bag" s_law_bag
  d_law_grab : DefAt K "_law_grab" s_law_grab
  d_law_one_of : DefAt K "_law_one_of" s_law_one_of
  d_law_mixed : DefAt K "_law_mixed" s_law_mixed
  d_law_low : DefAt K "_law_low" s_law_low
  d_law_common : DefAt K "_law_common" s_law_common
  d_law_back : DefAt K "_law_back" s_law_back
  d_law_normal : DefAt K "_law_normal" s_law_normal
  d_law_small_spots : DefAt K "_law_small_spots" s_law_small_spots
  d_law_spots : DefAt K "_law_spots" s_law_spots
  d_law_table_two : DefAt K "_law_table_two" s_law_table_two
  d_law_spot_led : DefAt K "_law_spot_led" s_law_spot_led
  d_law_met : DefAt K "_law_met" s_law_met
  d_law_bracket : DefAt K "_law_bracket" s_law_bracket
  d_law_cross_ratio : DefAt K "_law_cross_ratio" s_law_cross_ratio
  d_law_is_zero : DefAt K "_law_is_zero" s_law_is_zero
  d_law_four : DefAt K "_law_four" s_law_four
  d_law_told_right : DefAt K "_law_told_right" s_law_told_right
  d_law_strange_spot : DefAt K "_law_strange_spot" s_law_strange_spot
  d_law_refused_right : DefAtC K "_law_refused_right" s_law_refused_right c
  d_law : DefAt K "law" s_law
theorem all_mk [iT : TabW] {l : PySem.W.OpenLaw} {w : World} {K : PySem.W.Frag} {h : Heap} {mg : Str → Option Value} {fa aP cN cO cT cM cQ c P : Addr} {tg tm : Tok} {t1 t2 t3 t4 t5 t6 t7 t8 : Tok} {odP : Option Addr} {nP : Nat} {slP : Array (Option Value)} (X : K.In h) (G : h.Ns mainGlobals mg) (hfa : mg "law" = some (.ref fa)) (D : DefsAt K c)
    (z_abs : PySem.W.nsIn K mainGlobals "abs" = some none)
    (z_all : PySem.W.nsIn K mainGlobals "all" = some none)
    (z_any : PySem.W.nsIn K mainGlobals "any" = some none)
    (z_bool : PySem.W.nsIn K mainGlobals "bool" = some none)
    (z_int : PySem.W.nsIn K mainGlobals "int" = some none)
    (z_isinstance : PySem.W.nsIn K mainGlobals "isinstance" = some none)
    (z_len : PySem.W.nsIn K mainGlobals "len" = some none)
    (z_list : PySem.W.nsIn K mainGlobals "list" = some none)
    (z_max : PySem.W.nsIn K mainGlobals "max" = some none)
    (z_min : PySem.W.nsIn K mainGlobals "min" = some none)
    (z_range : PySem.W.nsIn K mainGlobals "range" = some none)
    (z_repr : PySem.W.nsIn K mainGlobals "repr" = some none)
    (z_set : PySem.W.nsIn K mainGlobals "set" = some none)
    (z_sum : PySem.W.nsIn K mainGlobals "sum" = some none)
    (z_tuple : PySem.W.nsIn K mainGlobals "tuple" = some none)
    (m_gcd : PySem.W.nsIn K mainGlobals "gcd" = some (some (.builtin "math.gcd")))
    (cTG : PySem.W.nsIn K mainGlobals "TOO_GREAT" = some (some (.int 1000000000000000000000000000000000000000000000000000000000000 tg))) (cME : PySem.W.nsIn K mainGlobals "MAX_ENTRY" = some (some (.int 10000000 tm))) (cP : PySem.W.nsIn K mainGlobals "PRIMES" = some (some (.ref aP)))
    (lP : K.lookup aP = some ⟨.type "tuple", odP, .seq #[.int 2 t1, .int 3 t2, .int 5 t3, .int 7 t4, .int 11 t5, .int 13 t6, .int 17 t7, .int 19 t8] nP, slP⟩)
    (oN : OwnC K mg "InvalidNumber" "given" cN) (oT : OwnC K mg "TooMany" "most" cT) (bO : BareC K mg "InvalidOperation" cO) (bM : BareC K mg "InvalidMarks" cM) (bQ : BareC K mg "InvalidPair" cQ) (eNN : PySem.W.exmOne K (.ref cN) (.ref cN) = some true) (eON : PySem.W.exmOne K (.ref cO) (.ref cN) = some false) (eOO : PySem.W.exmOne K (.ref cO) (.ref cO) = some true) (hw : ∀ Q q, TabW.w Q q ↔ (Q, q) ∈ (⟨tg, tm, aP, cN, cO, cT, cM, cQ, c, P⟩ : Cn).T) :
    ∃ fd : FuncData, (∀ (s : Shared) (v : Value), BindsTo s fd ⟨[v], []⟩ [("_law_script", v)]) ∧ ∀ base : Heap, K.In base → base.Ns mainGlobals mg → (∀ p ∈ [(c, P)], LamX.TabB base mg p.1 p.2) → FnOkG l.prog w K mg base CX0 10 fa fd ["_law_script"] (spLaw K) := by
  have T : Txt K mg ⟨tg, tm, aP, cN, cO, cT, cM, cQ, c, P⟩ := {
    z_abs := PySem.W.mg_none_of X G z_abs
    z_all := PySem.W.mg_none_of X G z_all
    z_any := PySem.W.mg_none_of X G z_any
    z_bool := PySem.W.mg_none_of X G z_bool
    z_int := PySem.W.mg_none_of X G z_int
    z_isinstance := PySem.W.mg_none_of X G z_isinstance
    z_len := PySem.W.mg_none_of X G z_len
    z_list := PySem.W.mg_none_of X G z_list
    z_max := PySem.W.mg_none_of X G z_max
    z_min := PySem.W.mg_none_of X G z_min
    z_range := PySem.W.mg_none_of X G z_range
    z_repr := PySem.W.mg_none_of X G z_repr
    z_set := PySem.W.mg_none_of X G z_set
    z_sum := PySem.W.mg_none_of X G z_sum
    z_tuple := PySem.W.mg_none_of X G z_tuple
    m_gcd := PySem.W.mg_of X G m_gcd
    o_InvalidNumber := oN
    b_InvalidOperation := bO
    o_TooMany := oT
    b_InvalidMarks := bM
    b_InvalidPair := bQ
    eNN := eNN
    eON := eON
    eOO := eOO
    tabw := hw
    c_TOO_GREAT := PySem.W.mg_of X G cTG
    c_MAX_ENTRY := PySem.W.mg_of X G cME
    c_PRIMES := PySem.W.mg_of X G cP
    q_PRIMES := fun H => den_ints (ns := Num.primes) lP rfl rfl (by show 8 ≤ sizeLine; decide) (.cons ⟨_, rfl⟩ (.cons ⟨_, rfl⟩ (.cons ⟨_, rfl⟩ (.cons ⟨_, rfl⟩ (.cons ⟨_, rfl⟩ (.cons ⟨_, rfl⟩ (.cons ⟨_, rfl⟩ (.cons ⟨_, rfl⟩ .nil)))))))) H }
  have all : ∀ base : Heap, K.In base → base.Ns mainGlobals mg → (∀ p ∈ [(c, P)], LamX.TabB base mg p.1 p.2) → FnSG l.prog w K mg base 10 "law" ["_law_script"] (spLaw K) := by
    intro base hX hG hTB
    have TB : LamX.TabB base mg c P := hTB (c, P) (List.mem_singleton.mpr rfl)
    have WA : WordAt K mg "_law_met" s_law_met := wordAt_of D.d_law_met hX hG
    have G_is_integer : FnG l.prog w K mg base 1 "is_integer" ["value"] R_is_integer := ok_is_integer D.d_is_integer hX hG T 
    have G_is_prime : FnG l.prog w K mg base 2 "is_prime" ["value"] R_is_prime := ok_is_prime D.d_is_prime hX hG T (G_is_integer := G_is_integer)
    have G_need_prime : FnX l.prog w K mg base 3 "need_prime" ["prime"] (R_need_prime ⟨tg, tm, aP, cN, cO, cT, cM, cQ, c, P⟩) := ok_need_prime D.d_need_prime hX hG T (G_is_prime := G_is_prime)
    have G_fits : FnG l.prog w K mg base 2 "fits" ["prime", "value"] R_fits := ok_fits D.d_fits hX hG T (G_is_integer := G_is_integer)
    have G_all_fit : FnG l.prog w K mg base 3 "all_fit" ["prime", "value", "many"] R_all_fit := ok_all_fit D.d_all_fit hX hG T (G_fits := G_fits)
    have G_settled : FnG l.prog w K mg base 1 "settled" ["prime", "number"] R_settled := ok_settled D.d_settled hX hG T 
    have G_inverse_of : FnG l.prog w K mg base 1 "inverse_of" ["prime", "number"] R_inverse_of := ok_inverse_of D.d_inverse_of hX hG T 
    have G_divisor_of : FnG l.prog w K mg base 1 "divisor_of" ["numbers"] R_divisor_of := ok_divisor_of D.d_divisor_of hX hG T 
    have G_made_normal : FnG l.prog w K mg base 2 "made_normal" ["prime", "numbers"] R_made_normal := ok_made_normal D.d_made_normal hX hG T (G_divisor_of := G_divisor_of) (G_inverse_of := G_inverse_of)
    have G_is_small : FnG l.prog w K mg base 1 "is_small" ["pair"] R_is_small := ok_is_small D.d_is_small hX hG T 
    have G_is_spot : FnG l.prog w K mg base 4 "is_spot" ["prime", "value"] R_is_spot := ok_is_spot D.d_is_spot hX hG T (G_all_fit := G_all_fit) (G_is_small := G_is_small) (G_made_normal := G_made_normal)
    have G_bracket : FnG l.prog w K mg base 1 "bracket" ["one", "other"] R_bracket := ok_bracket D.d_bracket hX hG T 
    have G_cross_ratio : FnX l.prog w K mg base 5 "cross_ratio" ["prime", "spots"] (R_cross_ratio ⟨tg, tm, aP, cN, cO, cT, cM, cQ, c, P⟩) := ok_cross_ratio D.d_cross_ratio hX hG T (G_need_prime := G_need_prime) (G_made_normal := G_made_normal) (G_bracket := G_bracket) (G_settled := G_settled) (G_is_spot := G_is_spot)
    have G_is_harmonic : FnX l.prog w K mg base 6 "is_harmonic" ["prime", "spots"] (R_is_harmonic ⟨tg, tm, aP, cN, cO, cT, cM, cQ, c, P⟩) := ok_is_harmonic D.d_is_harmonic hX hG T (G_settled := G_settled) (G_cross_ratio := G_cross_ratio)
    have G_law_bag : FnS l.prog w K mg base 1 "_law_bag" ["_law_script", "_law_spot"] (R_law_bag K) := ok_law_bag D.d_law_bag hX hG T 
    have G_law_grab : FnG l.prog w K mg base 1 "_law_grab" ["_law_bag_here", "_law_total"] R_law_grab := ok_law_grab D.d_law_grab hX hG T 
    have G_law_one_of : FnG l.prog w K mg base 2 "_law_one_of" ["_law_bag_here", "_law_items"] R_law_one_of := ok_law_one_of D.d_law_one_of hX hG T (G_law_grab := G_law_grab)
    have G_law_mixed : FnG l.prog w K mg base 2 "_law_mixed" ["_law_bag_here", "_law_items"] R_law_mixed := ok_law_mixed D.d_law_mixed hX hG T (G_law_grab := G_law_grab)
    have G_law_low : FnG l.prog w K mg base 1 "_law_low" ["_law_prime", "_law_number"] R_law_low := ok_law_low D.d_law_low hX hG T 
    have G_law_common : FnG l.prog w K mg base 1 "_law_common" ["_law_numbers"] R_law_common := ok_law_common D.d_law_common hX hG T 
    have G_law_back : FnG l.prog w K mg base 1 "_law_back" ["_law_prime", "_law_number"] R_law_back := ok_law_back D.d_law_back hX hG T 
    have G_law_normal : FnG l.prog w K mg base 2 "_law_normal" ["_law_prime", "_law_row"] R_law_normal := ok_law_normal D.d_law_normal hX hG T (G_law_common := G_law_common) (G_law_low := G_law_low) (G_law_back := G_law_back)
    have G_law_small_spots : FnG l.prog w K mg base 1 "_law_small_spots" ["_law_prime"] R_law_small_spots := ok_law_small_spots D.d_law_small_spots hX hG T 
    have G_law_spots : FnG l.prog w K mg base 3 "_law_spots" ["_law_bag_here", "_law_prime", "_law_many"] R_law_spots := ok_law_spots D.d_law_spots hX hG T (G_law_mixed := G_law_mixed) (G_law_one_of := G_law_one_of) (G_law_small_spots := G_law_small_spots) (G_law_grab := G_law_grab)
    have G_law_table_two : FnG l.prog w K mg base 2 "_law_table_two" ["_law_bag_here", "_law_prime"] R_law_table_two := ok_law_table_two D.d_law_table_two hX hG T (G_law_grab := G_law_grab)
    have G_law_spot_led : FnG l.prog w K mg base 3 "_law_spot_led" ["_law_prime", "_law_spot", "_law_table"] R_law_spot_led := ok_law_spot_led D.d_law_spot_led hX hG T (G_law_normal := G_law_normal)
    have G_law_bracket : FnG l.prog w K mg base 1 "_law_bracket" ["_law_one", "_law_other"] R_law_bracket := ok_law_bracket D.d_law_bracket hX hG T 
    have G_law_cross_ratio : FnG l.prog w K mg base 3 "_law_cross_ratio" ["_law_prime", "_law_spots_here"] R_law_cross_ratio := ok_law_cross_ratio D.d_law_cross_ratio hX hG T (G_law_normal := G_law_normal) (G_law_bracket := G_law_bracket)
    have G_law_is_zero : FnG l.prog w K mg base 1 "_law_is_zero" ["_law_prime", "_law_number"] R_law_is_zero := ok_law_is_zero D.d_law_is_zero hX hG T 
    have G_law_four : FnG l.prog w K mg base 4 "_law_four" ["_law_bag_here", "_law_prime"] R_law_four := ok_law_four D.d_law_four hX hG T (G_law_grab := G_law_grab) (G_law_spots := G_law_spots) (G_law_table_two := G_law_table_two) (G_law_spot_led := G_law_spot_led) (G_law_mixed := G_law_mixed)
    have G_law_told_right : FnH l.prog w K mg base 7 "_law_told_right" ["_law_bag_here", "_law_prime"] R_law_told_right := ok_law_told_right D.d_law_told_right hX hG T (G_law_four := G_law_four) (G_cross_ratio := G_cross_ratio) (G_law_table_two := G_law_table_two) (G_law_normal := G_law_normal) (G_law_cross_ratio := G_law_cross_ratio) (G_is_harmonic := G_is_harmonic) (G_law_is_zero := G_law_is_zero) (G_law_spot_led := G_law_spot_led)
    have G_law_strange_spot : FnG l.prog w K mg base 3 "_law_strange_spot" ["_law_bag_here", "_law_prime", "_law_spots_here"] R_law_strange_spot := ok_law_strange_spot D.d_law_strange_spot hX hG T (G_law_one_of := G_law_one_of)
    have G_law_refused_right : FnH l.prog w K mg base 9 "_law_refused_right" ["_law_bag_here", "_law_prime"] R_law_refused_right := ok_law_refused_right D.d_law_refused_right hX hG T WA TB (G_law_one_of := G_law_one_of) (G_law_spots := G_law_spots) (G_law_strange_spot := G_law_strange_spot) (G_cross_ratio := G_cross_ratio) (G_is_harmonic := G_is_harmonic)
    have G_law : FnSG l.prog w K mg base 10 "law" ["_law_script"] (R_law K) := ok_law D.d_law hX hG T (G_law_bag := G_law_bag) (G_law_one_of := G_law_one_of) (G_cross_ratio := G_cross_ratio) (G_is_harmonic := G_is_harmonic) (G_law_told_right := G_law_told_right) (G_law_refused_right := G_law_refused_right)
    exact G_law
  obtain ⟨f, fd, ha, hF⟩ := D.d_law.ex
  have e := hfa.symm.trans (PySem.W.mg_of X G ha)
  cases e
  obtain ⟨oc, od, kV, doc, pm, an, cdv, ct, osl, efd, hlk, _⟩ := hF.ex
  refine ⟨fd, fun s v => ?_, fun base hX hG hTB => ?_⟩
  · subst efd
    exact .of_eq rfl
  · obtain ⟨f', fd', hm', hok, oc', od', osl', hlk'⟩ := (all base hX hG hTB).ex
    have e := hfa.symm.trans hm'
    cases e
    rw [hlk] at hlk'
    cases hlk'
    exact hok
end K34
/-! ## K34z -/
set_option Elab.async false
set_option linter.all false
set_option maxRecDepth 100000
open PySem PySem.W PyProof.Rows in
set_option maxRecDepth 100000 in
set_option maxHeartbeats 0 in
theorem PySem.Challenge.cw_tangentrows_k34_cross_ratios_of_four_spo_holds : PySem.Challenge.rw_tangentrows_k34_cross_ratios_of_four_spo.Holds := by
  w_on; o_law; k_head; (case hw => w_witness2)
  k_fill
  refine @TD.walkG ⟨fun Q q => (Q, q) ∈ [((339 : Addr), ("_law_refused_right.<locals>.<lambda>" : Str))]⟩ PySem.Challenge.rw_tangentrows_k34_cross_ratios_of_four_spo 10 _ _ _ _ _ _ "_law_script" [(343, 339)] (fun Q q h => by rw [(Prod.mk.inj (List.mem_singleton.mp h)).1]; exact List.mem_singleton.mpr rfl) rfl rfl ⟨rfl, by decide, by decide⟩ (fun w h Y => ⟨PySem.W.km_in_of Y, fun p hp => by rw [List.mem_singleton.mp hp]; exact PySem.W.km_tabs_of Y 339 (List.mem_singleton.mpr rfl)⟩) ?F
  case F =>
    intro w mg fa h KX G hmg
    refine ⟨fun p hp => ?_, ?_⟩
    · rw [(List.mem_singleton.mp hp)]
      refine' ⟨?n1, TD.codeHd_mk ?n2 ?n3⟩
      (case n1 => rfl)
      (case n2 => k_is)
      (case n3 => rfl)
    refine' K34.all_mk (iT := ⟨fun Q q => (Q, q) ∈ [((339 : Addr), ("_law_refused_right.<locals>.<lambda>" : Str))]⟩) (c := 343) (P := 339) KX G hmg ⟨TD.defAt_mk ?a11 ?l11 ?c11 ?k11, TD.defAt_mk ?a12 ?l12 ?c12 ?k12, TD.defAt_mk ?a13 ?l13 ?c13 ?k13, TD.defAt_mk ?a14 ?l14 ?c14 ?k14, TD.defAt_mk ?a15 ?l15 ?c15 ?k15, TD.defAt_mk ?a16 ?l16 ?c16 ?k16, TD.defAt_mk ?a17 ?l17 ?c17 ?k17, TD.defAt_mk ?a18 ?l18 ?c18 ?k18, TD.defAt_mk ?a19 ?l19 ?c19 ?k19, TD.defAt_mk ?a22 ?l22 ?c22 ?k22, TD.defAt_mk ?a23 ?l23 ?c23 ?k23, TD.defAt_mk ?a25 ?l25 ?c25 ?k25, TD.defAt_mk ?a26 ?l26 ?c26 ?k26, TD.defAt_mk ?a27 ?l27 ?c27 ?k27, TD.defAt_mk ?a29 ?l29 ?c29 ?k29, TD.defAt_mk ?a30 ?l30 ?c30 ?k30, TD.defAt_mk ?a31 ?l31 ?c31 ?k31, TD.defAt_mk ?a32 ?l32 ?c32 ?k32, TD.defAt_mk ?a33 ?l33 ?c33 ?k33, TD.defAt_mk ?a34 ?l34 ?c34 ?k34, TD.defAt_mk ?a35 ?l35 ?c35 ?k35, TD.defAt_mk ?a36 ?l36 ?c36 ?k36, TD.defAt_mk ?a37 ?l37 ?c37 ?k37, TD.defAt_mk ?a38 ?l38 ?c38 ?k38, TD.defAt_mk ?a39 ?l39 ?c39 ?k39, TD.defAt_mk ?a40 ?l40 ?c40 ?k40, TD.defAt_mk ?a41 ?l41 ?c41 ?k41, TD.defAt_mk ?a42 ?l42 ?c42 ?k42, TD.defAt_mk ?a43 ?l43 ?c43 ?k43, TD.defAt_mk ?a44 ?l44 ?c44 ?k44, TD.defAt_mk ?a45 ?l45 ?c45 ?k45, TD.defAt_mk ?a46 ?l46 ?c46 ?k46, TD.defAt_mk ?a47 ?l47 ?c47 ?k47, TD.defAtC_mk ?a48 ?l48 ?c48 ?k48, TD.defAt_mk ?a49 ?l49 ?c49 ?k49⟩ ?z_abs ?z_all ?z_any ?z_bool ?z_int ?z_isinstance ?z_len ?z_list ?z_max ?z_min ?z_range ?z_repr ?z_set ?z_sum ?z_tuple ?m_gcd ?cTG ?cME ?cP ?lP (TD.ownC_mk (rs := []) PySem.F.excBase_IndexError TD.fld_given (by rfl) TD.ve_IndexError KX G ?o0_1 ?o0_2 ?o0_3 ?o0_4 ?o0_5 ?o0_6 ?o0_7 ?o0_8 ?o0_9 ?o0_10 ?o0_11 ?o0_12 ?o0_13 ?o0_14) (TD.ownC_mk (rs := []) PySem.F.excBase_OverflowError TD.fld_most (by rfl) TD.ve_OverflowError KX G ?o1_1 ?o1_2 ?o1_3 ?o1_4 ?o1_5 ?o1_6 ?o1_7 ?o1_8 ?o1_9 ?o1_10 ?o1_11 ?o1_12 ?o1_13 ?o1_14) (TD.bareC_mk PySem.F.excBase_ValueError KX G ?b2_1 ?b2_2 ?b2_3 ?b2_4 ?b2_5) (TD.bareC_mk PySem.F.excBase_ValueError KX G ?b3_1 ?b3_2 ?b3_3 ?b3_4 ?b3_5) (TD.bareC_mk PySem.F.excBase_ValueError KX G ?b4_1 ?b4_2 ?b4_3 ?b4_4 ?b4_5) (TD.exm_mk ?e0_1 ?e0_2 ?e0_3 ?e0_4) (TD.exm_mk ?e1_1 ?e1_2 ?e1_3 ?e1_4) (TD.exm_mk ?e2_1 ?e2_2 ?e2_3 ?e2_4) (fun _ _ => Iff.rfl)
    (case a11 => k_is)
    (case l11 => k_is)
    (case c11 => k_is)
    (case k11 => k_is)
    (case a12 => k_is)
    (case l12 => k_is)
    (case c12 => k_is)
    (case k12 => k_is)
    (case a13 => k_is)
    (case l13 => k_is)
    (case c13 => k_is)
    (case k13 => k_is)
    (case a14 => k_is)
    (case l14 => k_is)
    (case c14 => k_is)
    (case k14 => k_is)
    (case a15 => k_is)
    (case l15 => k_is)
    (case c15 => k_is)
    (case k15 => k_is)
    (case a16 => k_is)
    (case l16 => k_is)
    (case c16 => k_is)
    (case k16 => k_is)
    (case a17 => k_is)
    (case l17 => k_is)
    (case c17 => k_is)
    (case k17 => k_is)
    (case a18 => k_is)
    (case l18 => k_is)
    (case c18 => k_is)
    (case k18 => k_is)
    (case a19 => k_is)
    (case l19 => k_is)
    (case c19 => k_is)
    (case k19 => k_is)
    (case a22 => k_is)
    (case l22 => k_is)
    (case c22 => k_is)
    (case k22 => k_is)
    (case a23 => k_is)
    (case l23 => k_is)
    (case c23 => k_is)
    (case k23 => k_is)
    (case a25 => k_is)
    (case l25 => k_is)
    (case c25 => k_is)
    (case k25 => k_is)
    (case a26 => k_is)
    (case l26 => k_is)
    (case c26 => k_is)
    (case k26 => k_is)
    (case a27 => k_is)
    (case l27 => k_is)
    (case c27 => k_is)
    (case k27 => k_is)
    (case a29 => k_is)
    (case l29 => k_is)
    (case c29 => k_is)
    (case k29 => k_is)
    (case a30 => k_is)
    (case l30 => k_is)
    (case c30 => k_is)
    (case k30 => k_is)
    (case a31 => k_is)
    (case l31 => k_is)
    (case c31 => k_is)
    (case k31 => k_is)
    (case a32 => k_is)
    (case l32 => k_is)
    (case c32 => k_is)
    (case k32 => k_is)
    (case a33 => k_is)
    (case l33 => k_is)
    (case c33 => k_is)
    (case k33 => k_is)
    (case a34 => k_is)
    (case l34 => k_is)
    (case c34 => k_is)
    (case k34 => k_is)
    (case a35 => k_is)
    (case l35 => k_is)
    (case c35 => k_is)
    (case k35 => k_is)
    (case a36 => k_is)
    (case l36 => k_is)
    (case c36 => k_is)
    (case k36 => k_is)
    (case a37 => k_is)
    (case l37 => k_is)
    (case c37 => k_is)
    (case k37 => k_is)
    (case a38 => k_is)
    (case l38 => k_is)
    (case c38 => k_is)
    (case k38 => k_is)
    (case a39 => k_is)
    (case l39 => k_is)
    (case c39 => k_is)
    (case k39 => k_is)
    (case a40 => k_is)
    (case l40 => k_is)
    (case c40 => k_is)
    (case k40 => k_is)
    (case a41 => k_is)
    (case l41 => k_is)
    (case c41 => k_is)
    (case k41 => k_is)
    (case a42 => k_is)
    (case l42 => k_is)
    (case c42 => k_is)
    (case k42 => k_is)
    (case a43 => k_is)
    (case l43 => k_is)
    (case c43 => k_is)
    (case k43 => k_is)
    (case a44 => k_is)
    (case l44 => k_is)
    (case c44 => k_is)
    (case k44 => k_is)
    (case a45 => k_is)
    (case l45 => k_is)
    (case c45 => k_is)
    (case k45 => k_is)
    (case a46 => k_is)
    (case l46 => k_is)
    (case c46 => k_is)
    (case k46 => k_is)
    (case a47 => k_is)
    (case l47 => k_is)
    (case c47 => k_is)
    (case k47 => k_is)
    (case a48 => k_is)
    (case l48 => k_is)
    (case c48 => k_is)
    (case k48 => k_is)
    (case a49 => k_is)
    (case l49 => k_is)
    (case c49 => k_is)
    (case k49 => k_is)
    (case z_abs => k_is)
    (case z_all => k_is)
    (case z_any => k_is)
    (case z_bool => k_is)
    (case z_int => k_is)
    (case z_isinstance => k_is)
    (case z_len => k_is)
    (case z_list => k_is)
    (case z_max => k_is)
    (case z_min => k_is)
    (case z_range => k_is)
    (case z_repr => k_is)
    (case z_set => k_is)
    (case z_sum => k_is)
    (case z_tuple => k_is)
    (case m_gcd => k_is)
    (case cTG => k_is)
    (case cME => k_is)
    (case cP => k_is)
    (case lP => k_is)
    (case o0_1 => k_is)
    (case o0_2 => k_is)
    (case o0_3 => k_is)
    (case o0_4 => k_is)
    (case o0_5 => k_is)
    (case o0_6 => k_is)
    (case o0_7 => k_is)
    (case o0_8 => k_is)
    (case o0_9 => k_is)
    (case o0_10 => k_is)
    (case o0_11 => k_is)
    (case o0_12 => k_is)
    (case o0_13 => k_is)
    (case o0_14 => k_is)
    (case o1_1 => k_is)
    (case o1_2 => k_is)
    (case o1_3 => k_is)
    (case o1_4 => k_is)
    (case o1_5 => k_is)
    (case o1_6 => k_is)
    (case o1_7 => k_is)
    (case o1_8 => k_is)
    (case o1_9 => k_is)
    (case o1_10 => k_is)
    (case o1_11 => k_is)
    (case o1_12 => k_is)
    (case o1_13 => k_is)
    (case o1_14 => k_is)
    (case b2_1 => k_is)
    (case b2_2 => k_exc)
    (case b2_3 => k_is)
    (case b2_4 => k_is)
    (case b2_5 => k_is)
    (case b3_1 => k_is)
    (case b3_2 => k_exc)
    (case b3_3 => k_is)
    (case b3_4 => k_is)
    (case b3_5 => k_is)
    (case b4_1 => k_is)
    (case b4_2 => k_exc)
    (case b4_3 => k_is)
    (case b4_4 => k_is)
    (case b4_5 => k_is)
    (case e0_1 => k_is)
    (case e0_2 => k_is)
    (case e0_3 => k_is)
    (case e0_4 => k_is)
    (case e1_1 => k_is)
    (case e1_2 => k_is)
    (case e1_3 => k_is)
    (case e1_4 => k_is)
    (case e2_1 => k_is)
    (case e2_2 => k_is)
    (case e2_3 => k_is)
    (case e2_4 => k_is)
