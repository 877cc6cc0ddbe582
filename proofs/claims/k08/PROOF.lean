import PyProof.Rows.All
import Wide.All
import OpenK.AllK
import Wide.FinOn
import HandS.ForMost
import HandS.TupAny
import HandS.TupMul
import HandS.IsInst
import HandS.Walk
import HandS.Wide
import PyProof.ReprRoads
import KE.GoesMore
import HandS.Zip
import HandS.Conv
import HandS.Set
import HandS.SetFor
import PyProof.TupleOfSeq
import KE.KDictCopyH
import KE.LtData
import HandS.SortInts
import HandS.Rev
import HandS.Style
import KE.KTupSum
import KE.GoesZip
import PySem.Challenge.RW_passingsums_k08_whole_totals_that_are_me
set_option Elab.async false
set_option linter.all false
set_option maxRecDepth 100000
set_option maxHeartbeats 4000000
/-! D1: values as data over the abstract heap, frames, states by slot -/
namespace Dl
open PySem PySem.Spec PyProof.Rows L2

/-! ### data at a heap, away from the addresses that may be written -/
mutual
inductive Dt (H : Hp) (A : List Addr) : V → PyData → Prop
  | non : Dt H A .non .none
  | bl (b : Bool) : Dt H A (.bl b) (.bool b)
  | int (i : Int) : Dt H A (.int i) (.int i)
  | str (x : Str) : Dt H A (.str x) (.str x)
  | lst {a : Addr} {xs : List V} {ds : List PyData} (h : H a = some (.lst xs)) (n : a ∉ A) (t : DtA H A xs ds) : Dt H A (.ref a) (.list ds)
  | tup {a : Addr} {xs : List V} {ds : List PyData} (h : H a = some (.tup xs)) (n : a ∉ A) (t : DtA H A xs ds) : Dt H A (.ref a) (.tuple ds)
  | dct {a : Addr} (h : H a = some (.dK [])) (n : a ∉ A) : Dt H A (.ref a) (.dict [])
inductive DtA (H : Hp) (A : List Addr) : List V → List PyData → Prop
  | nil : DtA H A [] []
  | cons {v : V} {vs : List V} {d : PyData} {ds : List PyData} (h : Dt H A v d) (t : DtA H A vs ds) : DtA H A (v :: vs) (d :: ds)
end

/-- what stays: all tracked but m; what is tracked stays tracked -/
structure Fr (m : List Addr) (H H' : Hp) : Prop where
  keep : ∀ a o, H a = some o → a ∉ m → H' a = some o
  trk : ∀ a, H a ≠ none → H' a ≠ none

theorem Fr.refl {m : List Addr} (H : Hp) : Fr m H H := ⟨fun _ _ h _ => h, fun _ h => h⟩
theorem Fr.trans {m : List Addr} {H H1 H2 : Hp} (a : Fr m H H1) (b : Fr m H1 H2) : Fr m H H2 :=
  ⟨fun x o h n => b.keep x o (a.keep x o h n) n, fun x h => b.trk x (a.trk x h)⟩
theorem Fr.more {m m' : List Addr} {H H' : Hp} (a : Fr m H H') (s : ∀ x ∈ m, x ∈ m') : Fr m' H H' :=
  ⟨fun x o h n => a.keep x o h fun z => n (s x z), a.trk⟩
theorem Fr.new {m : List Addr} {H : Hp} {p : Addr} {o : HO} (h : H p = none) : Fr m H (upd H p o) :=
  ⟨fun a u e _ => by rw [upd_ne (ne_of_none e h)]; exact e, fun a u => by
    by_cases e : a = p
    · subst e; rw [upd_same]; exact fun z => nomatch z
    · rw [upd_ne e]; exact u⟩
theorem Fr.same {H H' : Hp} (a : Fr [] H H') : Same H H' := fun b o h => a.keep b o h (fun z => nomatch z)
theorem Fr.ofSame {H H' : Hp} (a : Same H H') : Fr [] H H' := ⟨fun b o h _ => a b o h, fun b h => by
  cases e : H b with
  | none => exact absurd e h
  | some o => rw [a b o e]; exact fun z => nomatch z⟩
/-- the object at t, written -/
theorem Fr.put {m : List Addr} {H : Hp} {t : Addr} {o : HO} (h : t ∈ m) : Fr m H (upd H t o) :=
  ⟨fun a u e n => by
    rw [upd_ne (fun z => n (by rw [z]; exact h))]
    exact e, fun a u => by
    by_cases e : a = t
    · subst e; rw [upd_same]; exact fun z => nomatch z
    · rw [upd_ne e]; exact u⟩

mutual
theorem Dt.mono {H H' : Hp} {A m : List Addr} (f : Fr m H H') (s : ∀ x ∈ m, x ∈ A) : ∀ {d : PyData} {v : V}, Dt H A v d → Dt H' A v d
  | _, _, .non => .non
  | _, _, .bl b => .bl b
  | _, _, .int i => .int i
  | _, _, .str x => .str x
  | _, _, .lst h n t => .lst (f.keep _ _ h fun z => n (s _ z)) n (DtA.mono f s t)
  | _, _, .tup h n t => .tup (f.keep _ _ h fun z => n (s _ z)) n (DtA.mono f s t)
  | _, _, .dct h n => .dct (f.keep _ _ h fun z => n (s _ z)) n
theorem DtA.mono {H H' : Hp} {A m : List Addr} (f : Fr m H H') (s : ∀ x ∈ m, x ∈ A) : ∀ {ds : List PyData} {vs : List V}, DtA H A vs ds → DtA H' A vs ds
  | _, _, .nil => .nil
  | _, _, .cons h t => .cons (Dt.mono f s h) (DtA.mono f s t)
end
mutual
theorem Dt.less {H : Hp} {A B : List Addr} (s : ∀ x ∈ B, x ∈ A) : ∀ {d : PyData} {v : V}, Dt H A v d → Dt H B v d
  | _, _, .non => .non
  | _, _, .bl b => .bl b
  | _, _, .int i => .int i
  | _, _, .str x => .str x
  | _, _, .lst h n t => .lst h (fun z => n (s _ z)) (DtA.less s t)
  | _, _, .tup h n t => .tup h (fun z => n (s _ z)) (DtA.less s t)
  | _, _, .dct h n => .dct h (fun z => n (s _ z))
theorem DtA.less {H : Hp} {A B : List Addr} (s : ∀ x ∈ B, x ∈ A) : ∀ {ds : List PyData} {vs : List V}, DtA H A vs ds → DtA H B vs ds
  | _, _, .nil => .nil
  | _, _, .cons h t => .cons (Dt.less s h) (DtA.less s t)
end
mutual
/-- an address that is not tracked is in no data -/
theorem Dt.add {H : Hp} {A : List Addr} {p : Addr} (hp : H p = none) : ∀ {d : PyData} {v : V}, Dt H A v d → Dt H (p :: A) v d
  | _, _, .non => .non
  | _, _, .bl b => .bl b
  | _, _, .int i => .int i
  | _, _, .str x => .str x
  | _, _, .lst h n t => .lst h (fun z => by
      rcases List.mem_cons.mp z with z | z
      · exact ne_of_none h hp z
      · exact n z) (DtA.add hp t)
  | _, _, .tup h n t => .tup h (fun z => by
      rcases List.mem_cons.mp z with z | z
      · exact ne_of_none h hp z
      · exact n z) (DtA.add hp t)
  | _, _, .dct h n => .dct h (fun z => by
      rcases List.mem_cons.mp z with z | z
      · exact ne_of_none h hp z
      · exact n z)
theorem DtA.add {H : Hp} {A : List Addr} {p : Addr} (hp : H p = none) : ∀ {ds : List PyData} {vs : List V}, DtA H A vs ds → DtA H (p :: A) vs ds
  | _, _, .nil => .nil
  | _, _, .cons h t => .cons (Dt.add hp h) (DtA.add hp t)
end
theorem Dt.grow {H : Hp} {A B : List Addr} {v : V} {d : PyData} (n : ∀ a ∈ B, a ∈ A ∨ H a = none) (h : Dt H A v d) : Dt H B v d := by
  have aux : ∀ C : List Addr, (∀ a ∈ C, a ∈ A ∨ H a = none) → Dt H (C ++ A) v d := by
    intro C
    induction C with
    | nil => exact fun _ => h
    | cons c C ih =>
      intro n
      have ih' := ih fun a z => n a (List.mem_cons_of_mem _ z)
      rcases n c List.mem_cons_self with z | z
      · refine ih'.less fun x hx => ?_
        rcases List.mem_cons.mp hx with rfl | hx
        · exact List.mem_append_right _ z
        · exact hx
      · exact ih'.add z
  exact (aux B n).less fun a z => List.mem_append_left _ z
theorem DtA.grow {H : Hp} {A B : List Addr} (n : ∀ a ∈ B, a ∈ A ∨ H a = none) : ∀ {ds : List PyData} {vs : List V}, DtA H A vs ds → DtA H B vs ds
  | _, _, .nil => .nil
  | _, _, .cons h t => .cons (h.grow n) (DtA.grow n t)
theorem DtA.length {H : Hp} {A : List Addr} : ∀ {ds : List PyData} {vs : List V}, DtA H A vs ds → vs.length = ds.length
  | _, _, .nil => rfl
  | _, _, .cons _ t => by rw [List.length_cons, List.length_cons, DtA.length t]
theorem DtA.get {H : Hp} {A : List Addr} : ∀ {ds : List PyData} {vs : List V} {i : Nat} {v : V}, DtA H A vs ds → vs[i]? = some v → ∃ d, ds[i]? = some d ∧ Dt H A v d
  | _, _, _, _, .nil, e => by simp at e
  | _, _, 0, _, .cons h _, e => by
    simp only [List.getElem?_cons_zero, Option.some.injEq] at e
    subst e
    exact ⟨_, rfl, h⟩
  | _, _, i + 1, _, .cons _ t, e => by
    rw [List.getElem?_cons_succ] at e
    rw [List.getElem?_cons_succ]
    exact DtA.get t e
theorem DtA.getD {H : Hp} {A : List Addr} : ∀ {ds : List PyData} {vs : List V} {i : Nat} {d : PyData}, DtA H A vs ds → ds[i]? = some d → ∃ v, vs[i]? = some v ∧ Dt H A v d
  | _, _, _, _, .nil, e => by simp at e
  | _, _, 0, _, .cons h _, e => by
    simp only [List.getElem?_cons_zero, Option.some.injEq] at e
    subst e
    exact ⟨_, rfl, h⟩
  | _, _, i + 1, _, .cons _ t, e => by
    rw [List.getElem?_cons_succ] at e
    rw [List.getElem?_cons_succ]
    exact DtA.getD t e
theorem DtA.append {H : Hp} {A : List Addr} : ∀ {ds es : List PyData} {vs ws : List V}, DtA H A vs ds → DtA H A ws es → DtA H A (vs ++ ws) (ds ++ es)
  | _, _, _, _, .nil, s => s
  | _, _, _, _, .cons h t, s => .cons h (DtA.append t s)
theorem DtA.take {H : Hp} {A : List Addr} : ∀ {ds : List PyData} {vs : List V} (n : Nat), DtA H A vs ds → DtA H A (vs.take n) (ds.take n)
  | _, _, 0, _ => .nil
  | _, _, _ + 1, .nil => .nil
  | _, _, n + 1, .cons h t => .cons h (DtA.take n t)
theorem DtA.drop {H : Hp} {A : List Addr} : ∀ {ds : List PyData} {vs : List V} (n : Nat), DtA H A vs ds → DtA H A (vs.drop n) (ds.drop n)
  | _, _, 0, r => r
  | _, _, _ + 1, .nil => .nil
  | _, _, n + 1, .cons _ t => DtA.drop n t
theorem DtA.ints {H : Hp} {A : List Addr} : ∀ ns : List Int, DtA H A (ns.map V.int) (ns.map PyData.int)
  | [] => .nil
  | n :: r => .cons (.int n) (DtA.ints r)
theorem DtA.int_inv {H : Hp} {A : List Addr} : ∀ {ns : List Int} {vs : List V}, DtA H A vs (ns.map PyData.int) → vs = ns.map V.int
  | [], _, h => by cases h; rfl
  | n :: r, _, h => by
    cases h with
    | cons h t =>
      cases h
      rw [DtA.int_inv t]
      rfl
theorem DtA.bool_inv {H : Hp} {A : List Addr} : ∀ {ns : List Bool} {vs : List V}, DtA H A vs (ns.map PyData.bool) → vs = ns.map V.bl
  | [], _, h => by cases h; rfl
  | n :: r, _, h => by
    cases h with
    | cons h t =>
      cases h
      rw [DtA.bool_inv t]
      rfl
/-- a new list | tuple | dict -/
theorem Dt.newL {H : Hp} {A : List Addr} {p : Addr} {vs : List V} {ds : List PyData} (hp : H p = none) (hA : ∀ a ∈ A, H a ≠ none) (h : DtA H A vs ds) : Dt (upd H p (.lst vs)) A (.ref p) (.list ds) :=
  .lst upd_same (fun z => hA p z hp) (h.mono (m := []) (.new hp) fun _ z => nomatch z)
theorem Dt.newT {H : Hp} {A : List Addr} {p : Addr} {vs : List V} {ds : List PyData} (hp : H p = none) (hA : ∀ a ∈ A, H a ≠ none) (h : DtA H A vs ds) : Dt (upd H p (.tup vs)) A (.ref p) (.tuple ds) :=
  .tup upd_same (fun z => hA p z hp) (h.mono (m := []) (.new hp) fun _ z => nomatch z)
theorem Dt.newD {H : Hp} {A : List Addr} {p : Addr} (hp : H p = none) (hA : ∀ a ∈ A, H a ≠ none) : Dt (upd H p (.dK [])) A (.ref p) (.dict []) :=
  .dct upd_same (fun z => hA p z hp)

/-! ### frames of a def; states -/
/-- what a def may write beside its own new objects (m), what holds of it (I) -/
structure Fm where
  m : List Addr
  I : Hp → Prop
  keep : ∀ H H', Same H H' → I H → I H'
  loc : ∀ H H', (∀ a ∈ m, H' a = H a) → I H → I H'
def F0 : Fm := ⟨[], fun _ => True, fun _ _ _ _ => trivial, fun _ _ _ _ => trivial⟩

/-- a slot: nothing known | data | a value that is known | an own list that may be written -/
inductive Sl where
  | no
  | d (d : PyData)
  | v (v : V)
  | m (t : Addr) (ds : List PyData)

def SlOk (F : Fm) (H0 H : Hp) (A : List Addr) (o : Option V) : Sl → Prop
  | .no => True
  | .d d => ∃ v, o = some v ∧ Dt H A v d
  | .v v => o = some v
  | .m t ds => o = some (.ref t) ∧ t ∈ A ∧ t ∉ F.m ∧ H0 t = none ∧ ∃ vs, H t = some (.lst vs) ∧ DtA H A vs ds

/-- the state between two steps of a def: from its entry H0 on -/
structure S (F : Fm) (H0 : Hp) (A : List Addr) (Δ : List Sl) (σ : L2.St) (H : Hp) : Prop where
  fr : Fr F.m H0 H
  inv : F.I H
  sub : ∀ a ∈ F.m, a ∈ A
  trk : ∀ a ∈ A, H a ≠ none
  len : σ.length = Δ.length
  env : ∀ i : Nat, ∀ s : Sl, Δ[i]? = some s → ∃ o, σ[i]? = some o ∧ SlOk F H0 H A o s
  apart : ∀ (i j : Nat) (t : Addr) (ds es : List PyData), Δ[i]? = some (.m t ds) → Δ[j]? = some (.m t es) → i = j

section
variable {F : Fm} {H0 H H' : Hp} {A : List Addr} {Δ : List Sl} {σ : L2.St}
theorem SlOk.mono {o : Option V} (f : Fr F.m H H') (sub : ∀ a ∈ F.m, a ∈ A) : ∀ {s : Sl}, SlOk F H0 H A o s → SlOk F H0 H' A o s
  | .no, _ => trivial
  | .d _, ⟨v, e, h⟩ => ⟨v, e, h.mono f sub⟩
  | .v _, h => h
  | .m t ds, ⟨e, a, n, z, vs, h, q⟩ => ⟨e, a, n, z, vs, f.keep _ _ h n, q.mono f sub⟩
theorem SlOk.same {o : Option V} (f : Fr [] H H') : ∀ {s : Sl}, SlOk F H0 H A o s → SlOk F H0 H' A o s
  | .no, _ => trivial
  | .d _, ⟨v, e, h⟩ => ⟨v, e, h.mono f fun _ z => nomatch z⟩
  | .v _, h => h
  | .m t ds, ⟨e, a, n, z, vs, h, q⟩ => ⟨e, a, n, z, vs, f.keep _ _ h (fun z => nomatch z), q.mono f fun _ z => nomatch z⟩
/-- behind a step that writes what F lets -/
theorem S.step (s : S F H0 A Δ σ H) (f : Fr F.m H H') (i : F.I H') : S F H0 A Δ σ H' :=
  ⟨s.fr.trans f, i, s.sub, fun a h => f.trk a (s.trk a h), s.len, fun k x e => let ⟨o, h1, h2⟩ := s.env k x e; ⟨o, h1, h2.mono f s.sub⟩, s.apart⟩
/-- behind a step that writes nothing -/
theorem S.more (s : S F H0 A Δ σ H) (f : Fr [] H H') : S F H0 A Δ σ H' :=
  s.step (f.more fun _ z => nomatch z) (F.keep _ _ f.same s.inv)
theorem S.laid (s : S F H0 A Δ σ H) {p : Addr} {o : HO} (hp : H p = none) : S F H0 A Δ σ (upd H p o) := s.more (.new hp)
/-- a new object, one that may be written -/
theorem S.laidP (s : S F H0 A Δ σ H) {p : Addr} {o : HO} (hp : H p = none) : S F H0 (p :: A) Δ σ (upd H p o) := by
  have f : Fr [] H (upd H p o) := .new hp
  refine ⟨s.fr.trans (f.more fun _ z => nomatch z), F.keep _ _ f.same s.inv, fun a h => List.mem_cons_of_mem _ (s.sub a h), fun a h => ?_, s.len, fun k x e => ?_, s.apart⟩
  · rcases List.mem_cons.mp h with rfl | h
    · rw [upd_same]; exact fun z => nomatch z
    · exact f.trk a (s.trk a h)
  · obtain ⟨y, h1, h2⟩ := s.env k x e
    refine ⟨y, h1, ?_⟩
    cases x with
    | no => trivial
    | d d => obtain ⟨v, e, h⟩ := h2; exact ⟨v, e, (h.add hp).mono f fun _ z => nomatch z⟩
    | v v => exact h2
    | m t ds => obtain ⟨e1, a, n, z, vs, h, q⟩ := h2; exact ⟨e1, List.mem_cons_of_mem _ a, n, z, vs, f.keep _ _ h (fun z => nomatch z), (q.add hp).mono f fun _ z => nomatch z⟩
theorem S.mem (s : S F H0 A Δ σ H) {k : Nat} {t : Addr} {ds : List PyData} (e : Δ[k]? = some (.m t ds)) : t ∈ A := by
  obtain ⟨_, _, h2⟩ := s.env k _ e
  exact h2.2.1
/-- the list of what may be written, cut back -/
theorem S.cut {B : List Addr} (s : S F H0 A Δ σ H) (sub : ∀ a ∈ B, a ∈ A) (hm : ∀ a ∈ F.m, a ∈ B) (hd : ∀ (i : Nat) t ds, Δ[i]? = some (Sl.m t ds) → t ∈ B) : S F H0 B Δ σ H :=
  ⟨s.fr, s.inv, hm, fun a h => s.trk a (sub a h), s.len, fun k x e => by
    obtain ⟨o, h1, h2⟩ := s.env k x e
    refine ⟨o, h1, ?_⟩
    cases x with
    | no => trivial
    | d d => obtain ⟨v, e, h⟩ := h2; exact ⟨v, e, h.less sub⟩
    | v v => exact h2
    | m t ds => obtain ⟨e1, _, n, z, vs, h, q⟩ := h2; exact ⟨e1, hd k t ds e, n, z, vs, h, q.less sub⟩, s.apart⟩
/-- a slot is stored -/
theorem S.set (s : S F H0 A Δ σ H) {i : Nat} {v : V} {x : Sl} (hx : SlOk F H0 H A (some v) x) (hap : ∀ t ds, x = .m t ds → ∀ (j : Nat) (es : List PyData), j ≠ i → Δ[j]? ≠ some (.m t es)) : S F H0 A (Δ.set i x) (σ.set i (some v)) H := by
  refine ⟨s.fr, s.inv, s.sub, s.trk, by rw [List.length_set, List.length_set, s.len], fun k y e => ?_, fun k j t ds es h1 h2 => ?_⟩
  · rw [List.getElem?_set] at e
    rw [List.getElem?_set]
    by_cases hk : i = k
    · subst hk
      rw [if_pos rfl] at e ⊢
      by_cases hl : i < Δ.length
      · rw [if_pos hl] at e
        rw [if_pos (by rw [s.len]; exact hl)]
        cases e
        exact ⟨_, rfl, hx⟩
      · rw [if_neg hl] at e
        cases e
    · rw [if_neg hk] at e ⊢
      exact s.env k y e
  · rw [List.getElem?_set] at h1 h2
    by_cases hk : i = k
    · by_cases hj : i = j
      · rw [← hk, ← hj]
      · rw [if_pos hk] at h1
        rw [if_neg hj] at h2
        split at h1
        · cases h1
          exact absurd h2 (hap _ _ rfl j _ (fun z => hj z.symm))
        · cases h1
    · by_cases hj : i = j
      · rw [if_pos hj] at h2
        rw [if_neg hk] at h1
        split at h2
        · cases h2
          exact absurd h1 (hap _ _ rfl k _ (fun z => hk z.symm))
        · cases h2
      · rw [if_neg hk] at h1
        rw [if_neg hj] at h2
        exact s.apart k j t ds es h1 h2
/-- an own list is written -/
theorem S.put (s : S F H0 A Δ σ H) {i : Nat} {t : Addr} {ds ds' : List PyData} {vs' : List V} (h : Δ[i]? = some (.m t ds)) (q : DtA H A vs' ds') : S F H0 A (Δ.set i (.m t ds')) σ (upd H t (.lst vs')) := by
  obtain ⟨o, ho, e0, tA, tm, t0, vs, ht, hv⟩ := s.env i _ h
  have f : Fr [t] H (upd H t (.lst vs')) := .put List.mem_cons_self
  have sub1 : ∀ a ∈ [t], a ∈ A := fun a z => by
    rw [List.mem_singleton.mp z]
    exact tA
  refine ⟨⟨fun a u e n => ?_, fun a z => f.trk a (s.fr.trk a z)⟩, F.loc H _ (fun a z => upd_ne fun e => tm (by rw [← e]; exact z)) s.inv, s.sub, fun a z => f.trk a (s.trk a z), by rw [List.length_set, s.len], fun k x e => ?_, fun k j t1 es1 es2 h1 h2 => ?_⟩
  · rw [upd_ne (ne_of_none e t0)]
    exact s.fr.keep a u e n
  · rw [List.getElem?_set] at e
    by_cases hk : i = k
    · subst hk
      rw [if_pos rfl] at e
      split at e
      · cases e
        exact ⟨o, ho, e0, tA, tm, t0, vs', upd_same, q.mono f sub1⟩
      · cases e
    · rw [if_neg hk] at e
      obtain ⟨y, h1, h2⟩ := s.env k x e
      refine ⟨y, h1, ?_⟩
      cases x with
      | no => trivial
      | d d => obtain ⟨v, e1, hd⟩ := h2; exact ⟨v, e1, hd.mono f sub1⟩
      | v v => exact h2
      | m t2 es =>
        obtain ⟨e1, a1, n1, z1, vs2, h3, q3⟩ := h2
        have ne : t2 ≠ t := fun z => by
          subst z
          exact hk (s.apart i k _ _ _ h e)
        exact ⟨e1, a1, n1, z1, vs2, by rw [upd_ne ne]; exact h3, q3.mono f sub1⟩
  · rw [List.getElem?_set] at h1 h2
    have nm : ∀ (k : Nat) es, i ≠ k → Δ[k]? ≠ some (.m t es) := fun k es hk z => hk (s.apart i k _ _ _ h z)
    by_cases hk : i = k
    · by_cases hj : i = j
      · rw [← hk, ← hj]
      · rw [if_pos hk] at h1
        rw [if_neg hj] at h2
        split at h1
        · cases h1
          exact absurd h2 (nm j _ hj)
        · cases h1
    · by_cases hj : i = j
      · rw [if_pos hj] at h2
        rw [if_neg hk] at h1
        split at h2
        · cases h2
          exact absurd h1 (nm k _ hk)
        · cases h2
      · rw [if_neg hk] at h1
        rw [if_neg hj] at h2
        exact s.apart k j _ _ _ h1 h2
/-- a slot of data -/
theorem S.setD (s : S F H0 A Δ σ H) {i : Nat} {v : V} {d : PyData} (h : Dt H A v d) : S F H0 A (Δ.set i (.d d)) (σ.set i (some v)) H :=
  s.set ⟨v, rfl, h⟩ fun _ _ e => nomatch e
/-- slots forgotten -/
def wipeD (Δ : List Sl) : List Nat → List Sl
  | [] => Δ
  | v :: vs => (wipeD Δ vs).set v .no
theorem S.wipe (s : S F H0 A Δ σ H) : ∀ vs : List Nat, S F H0 A (wipeD Δ vs) (L2.wipe σ vs) H
  | [] => s
  | v :: vs => by
    have w := S.wipe s vs
    show S F H0 A ((wipeD Δ vs).set v .no) ((L2.wipe σ vs).set v none) H
    refine ⟨w.fr, w.inv, w.sub, w.trk, by rw [List.length_set, List.length_set, w.len], fun k y e => ?_, fun k j t ds es h1 h2 => ?_⟩
    · rw [List.getElem?_set] at e
      rw [List.getElem?_set]
      by_cases hk : v = k
      · subst hk
        rw [if_pos rfl] at e ⊢
        by_cases hl : v < (wipeD Δ vs).length
        · rw [if_pos hl] at e
          rw [if_pos (by rw [w.len]; exact hl)]
          cases e
          exact ⟨_, rfl, trivial⟩
        · rw [if_neg hl] at e
          cases e
      · rw [if_neg hk] at e ⊢
        exact w.env k y e
    · rw [List.getElem?_set] at h1 h2
      by_cases hk : v = k
      · rw [if_pos hk] at h1
        split at h1 <;> cases h1
      · by_cases hj : v = j
        · rw [if_pos hj] at h2
          split at h2 <;> cases h2
        · rw [if_neg hk] at h1
          rw [if_neg hj] at h2
          exact w.apart k j t ds es h1 h2
end
end Dl

/-! D2: what an expression, a test, arguments, statements do, told by data alone -/
namespace Dl
open PySem PySem.Spec PyProof.Rows L2

section
variable (F : Fm) (A : List Addr) (Δ : List Sl)
/-- the data of an expression satisfies q -/
def Ev (te : TE) (q : PyData → Prop) : Prop :=
  ∀ (H0 : Hp) (σ : L2.St) (H : Hp), S F H0 A Δ σ H → ∀ Q : VK, (∀ v d H', S F H0 A Δ σ H' → Fr F.m H H' → Dt H' A v d → q d → Q v H') → te σ H Q
/-- a new list, not yet data -/
def EvN (te : TE) (q : List PyData → Prop) : Prop :=
  ∀ (H0 : Hp) (σ : L2.St) (H : Hp), S F H0 A Δ σ H → ∀ Q : VK, (∀ p vs ds H', S F H0 (p :: A) Δ σ H' → Fr F.m H H' → H p = none → H' p = some (.lst vs) → DtA H' (p :: A) vs ds → q ds → Q (.ref p) H') → te σ H Q
def EvT (tt : TT) (q : Bool → Prop) : Prop :=
  ∀ (H0 : Hp) (σ : L2.St) (H : Hp), S F H0 A Δ σ H → ∀ Q : Bool → Hp → Prop, (∀ b H', S F H0 A Δ σ H' → Fr F.m H H' → q b → Q b H') → tt σ H Q
def EvA (ta : TA) (q : List PyData → Prop) : Prop :=
  ∀ (H0 : Hp) (σ : L2.St) (H : Hp), S F H0 A Δ σ H → ∀ Q : List V → Hp → Prop, (∀ vs ds H', S F H0 A Δ σ H' → Fr F.m H H' → DtA H' A vs ds → q ds → Q vs H') → ta σ H Q
def EvO (to : TO) (q : Option Int → Prop) : Prop :=
  ∀ (H0 : Hp) (σ : L2.St) (H : Hp), S F H0 A Δ σ H → ∀ Q : Option Int → Hp → Prop, (∀ o H', S F H0 A Δ σ H' → Fr F.m H H' → q o → Q o H') → to σ H Q
end

/-- the ends of a statement, by data -/
structure En where
  nx : List Addr → List Sl → Prop
  rt : PyData → Prop
  bk : List Addr → List Sl → Prop := fun _ _ => False
  ct : List Addr → List Sl → Prop := fun _ _ => False
/-- from (A, H) to a later state -/
structure Go (F : Fm) (H0 : Hp) (A : List Addr) (H : Hp) (A' : List Addr) (Δ' : List Sl) (σ' : L2.St) (H' : Hp) : Prop where
  sub : ∀ a ∈ A, a ∈ A'
  new : ∀ a ∈ A', a ∈ A ∨ H a = none
  fr : Fr A H H'
  st : S F H0 A' Δ' σ' H'
/-- a statement, by data -/
def Sq (F : Fm) (A : List Addr) (Δ : List Sl) (ts : TS) (E : En) : Prop :=
  ∀ (H0 : Hp) (σ : L2.St) (H : Hp), S F H0 A Δ σ H → ∀ D : Ends,
    (∀ A' Δ' σ' H', Go F H0 A H A' Δ' σ' H' → E.nx A' Δ' → D.nx σ' H') →
    (∀ A' v d H', (∀ a ∈ A, H0 a ≠ none → a ∈ A') → Fr F.m H0 H' → F.I H' → Dt H' A' v d → E.rt d → D.rt v H') →
    (∀ A' Δ' σ' H', Go F H0 A H A' Δ' σ' H' → E.bk A' Δ' → D.bk σ' H') →
    (∀ A' Δ' σ' H', Go F H0 A H A' Δ' σ' H' → E.ct A' Δ' → D.ct σ' H') → ts D σ H

section
variable {F : Fm} {A : List Addr} {Δ : List Sl} {K : PySem.W.Frag} {ta tb te tc : TE} {tt tu : TT} {t t1 : TA} {q : PyData → Prop} {i : Nat} {r : R2}

/-! ### the simple ones -/
theorem Ev.imp {q' : PyData → Prop} (h : Ev F A Δ te q) (k : ∀ d, q d → q' d) : Ev F A Δ te q' := fun H0 σ H s Q z => h H0 σ H s Q fun v d H' s' f dt hq => z v d H' s' f dt (k d hq)
theorem EvN.imp {q q' : List PyData → Prop} (h : EvN F A Δ te q) (k : ∀ d, q d → q' d) : EvN F A Δ te q' := fun H0 σ H s Q z => h H0 σ H s Q fun p vs ds H' s' f n e dt hq => z p vs ds H' s' f n e dt (k ds hq)
theorem ev_var {d : PyData} (h : Δ[i]? = some (.d d)) (hq : q d) : Ev F A Δ (tVar i) q := fun H0 σ H s Q z => by
  obtain ⟨o, e, v, rfl, dt⟩ := s.env i _ h
  exact ⟨v, e, z v d H s (.refl _) dt hq⟩
theorem ev_int {n : Int} (hq : q (.int n)) : Ev F A Δ (tC (.int n)) q := fun H0 σ H s Q z => z _ _ H s (.refl _) (.int n) hq
theorem ev_bl {b : Bool} (hq : q (.bool b)) : Ev F A Δ (tC (.bl b)) q := fun H0 σ H s Q z => z _ _ H s (.refl _) (.bl b) hq
theorem ev_non (hq : q .none) : Ev F A Δ (tC .non) q := fun H0 σ H s Q z => z _ _ H s (.refl _) .non hq
theorem ev_str {x : Str} (hq : q (.str x)) : Ev F A Δ (tC (.str x)) q := fun H0 σ H s Q z => z _ _ H s (.refl _) (.str x) hq
/-- two operands, a rule by values -/
theorem ev_op {R : PyData → PyData → Prop} (ha : Ev F A Δ ta fun d1 => Ev F A Δ tb fun d2 => R d1 d2)
    (hr : ∀ (H0 : Hp) (σ : L2.St) (H : Hp) x y d1 d2, S F H0 A Δ σ H → Dt H A x d1 → Dt H A y d2 → R d1 d2 → ∀ Q : VK, (∀ v d H', S F H0 A Δ σ H' → Fr F.m H H' → Dt H' A v d → q d → Q v H') → r x y H Q) : Ev F A Δ (tOp r ta tb) q := fun H0 σ H s Q z =>
  ha H0 σ H s _ fun x d1 H1 s1 f1 h1 k1 => k1 H0 σ H1 s1 _ fun y d2 H2 s2 f2 h2 k2 =>
    hr H0 σ H2 x y d1 d2 s2 (h1.mono f2 s1.sub) h2 k2 _ fun v d H3 s3 f3 h3 k3 => z v d H3 s3 ((f1.trans f2).trans f3) h3 k3
/-- ints to an int -/
theorem ev_ii {g : Int → Int → Int} (ha : Ev F A Δ ta fun d1 => Ev F A Δ tb fun d2 => ∃ i j, d1 = .int i ∧ d2 = .int j ∧ q (.int (g i j))) : Ev F A Δ (tOp (rI0 fun i j => .int (g i j)) ta tb) q :=
  ev_op ha fun H0 σ H x y d1 d2 s h1 h2 ⟨i, j, e1, e2, hq⟩ Q z => by
    subst e1 e2
    cases h1
    cases h2
    exact ⟨i, j, rfl, rfl, z _ _ H s (.refl _) (.int _) hq⟩
theorem ev_iic {C : Int → Int → Prop} {g : Int → Int → Int} (ha : Ev F A Δ ta fun d1 => Ev F A Δ tb fun d2 => ∃ i j, d1 = .int i ∧ d2 = .int j ∧ C i j ∧ q (.int (g i j))) : Ev F A Δ (tOp (rI C fun i j => .int (g i j)) ta tb) q :=
  ev_op ha fun H0 σ H x y d1 d2 s h1 h2 ⟨i, j, e1, e2, c, hq⟩ Q z => by
    subst e1 e2
    cases h1
    cases h2
    exact ⟨i, j, rfl, rfl, c, z _ _ H s (.refl _) (.int _) hq⟩
theorem ev_ib {g : Int → Int → Bool} (ha : Ev F A Δ ta fun d1 => Ev F A Δ tb fun d2 => ∃ i j, d1 = .int i ∧ d2 = .int j ∧ q (.bool (g i j))) : Ev F A Δ (tOp (rI0 fun i j => .bl (g i j)) ta tb) q :=
  ev_op ha fun H0 σ H x y d1 d2 s h1 h2 ⟨i, j, e1, e2, hq⟩ Q z => by
    subst e1 e2
    cases h1
    cases h2
    exact ⟨i, j, rfl, rfl, z _ _ H s (.refl _) (.bl _) hq⟩
theorem ev_neg (ha : Ev F A Δ ta fun d => ∃ i, d = .int i ∧ q (.int (-i))) : Ev F A Δ (tUn (rU fun i => .int (-i)) ta) q := fun H0 σ H s Q z =>
  ha H0 σ H s _ fun x d H1 s1 f1 h1 ⟨i, e, k⟩ => by
    subst e
    cases h1
    exact ⟨i, rfl, z _ _ H1 s1 f1 (.int _) k⟩
/-- == and != of two ints | texts | None beside such -/
def scalD : PyData → PyData → Option Bool
  | .int i, .int j => some (decide (i = j))
  | .str i, .str j => some (decide (i = j))
  | .bool i, .bool j => some (decide (i = j))
  | .none, .none => some true
  | .none, .str _ => some false
  | .str _, .none => some false
  | .none, .int _ => some false
  | .int _, .none => some false
  | .int _, .str _ => some false
  | .str _, .int _ => some false
  | _, _ => none
theorem scalD_v {H : Hp} {x y : V} {d e : PyData} {b : Bool} (h1 : Dt H A x d) (h2 : Dt H A y e) (h : scalD d e = some b) : scal x y = true ∧ decide (x = y) = b := by
  cases h1 <;> cases h2 <;> first
    | (simp only [scalD, reduceCtorEq] at h; done)
    | (unfold scalD at h
       cases h
       refine ⟨rfl, ?_⟩
       first
         | rfl
         | (simp only [V.int.injEq, V.str.injEq, V.bl.injEq])
         | (exact decide_eq_false fun z => nomatch z))
theorem ev_eq (ha : Ev F A Δ ta fun d1 => Ev F A Δ tb fun d2 => ∃ b, scalD d1 d2 = some b ∧ q (.bool b)) : Ev F A Δ (tOp rEq ta tb) q :=
  ev_op ha fun H0 σ H x y d1 d2 s h1 h2 ⟨b, e, hq⟩ Q z => by
    obtain ⟨e1, e2⟩ := scalD_v h1 h2 e
    refine ⟨e1, ?_⟩
    rw [e2]
    exact z _ _ H s (.refl _) (.bl _) hq
theorem ev_ne (ha : Ev F A Δ ta fun d1 => Ev F A Δ tb fun d2 => ∃ b, scalD d1 d2 = some b ∧ q (.bool (!b))) : Ev F A Δ (tOp rNe ta tb) q :=
  ev_op ha fun H0 σ H x y d1 d2 s h1 h2 ⟨b, e, hq⟩ Q z => by
    obtain ⟨e1, e2⟩ := scalD_v h1 h2 e
    refine ⟨e1, ?_⟩
    rw [e2]
    exact z _ _ H s (.refl _) (.bl _) hq
/-! == of data -/
mutual
theorem Dt.dp {H : Hp} : ∀ {d : PyData} {v : V}, Dt H A v d → d.canLay0 = true → Dp K H v d
  | _, _, .non, _ => .non
  | _, _, .bl b, _ => .bl b
  | _, _, .int i, _ => .int i
  | _, _, .str x, _ => .str x
  | _, _, .lst h n t, c => .lst (.of h) (DtA.dp t (by simpa [PyData.canLay0] using c))
  | _, _, .tup h n t, c => .tup (.of h) (DtA.dp t (by simpa [PyData.canLay0] using c))
  | _, _, .dct h n, c => absurd c (by simp [PyData.canLay0])
theorem DtA.dp {H : Hp} : ∀ {ds : List PyData} {vs : List V}, DtA H A vs ds → PyData.canLayAll0 ds = true → DpAll K H vs ds
  | _, _, .nil, _ => .nil
  | _, _, .cons h t, c => by
    have c' := c
    simp only [PyData.canLayAll0, Bool.and_eq_true] at c'
    exact .cons (Dt.dp h c'.1) (DtA.dp t c'.2)
end
theorem ev_eqD (ha : Ev F A Δ ta fun d1 => Ev F A Δ tb fun d2 => SeqAt.shaped d1 = true ∧ SeqAt.shaped d2 = true ∧ q (.bool (PyData.eqv d1 d2))) : Ev F A Δ (tOp (rEqD K) ta tb) q :=
  ev_op ha fun H0 σ H x y d1 d2 s h1 h2 ⟨e1, e2, hq⟩ Q z =>
    ⟨d1, d2, h1.dp (SeqAt.canLay_of_shaped e1), h2.dp (SeqAt.canLay_of_shaped e2), e1, e2, z _ _ H s (.refl _) (.bl _) hq⟩
theorem ev_neD (ha : Ev F A Δ ta fun d1 => Ev F A Δ tb fun d2 => SeqAt.shaped d1 = true ∧ SeqAt.shaped d2 = true ∧ q (.bool (!PyData.eqv d1 d2))) : Ev F A Δ (tOp (rNeD K) ta tb) q :=
  ev_op ha fun H0 σ H x y d1 d2 s h1 h2 ⟨e1, e2, hq⟩ Q z =>
    ⟨d1, d2, h1.dp (SeqAt.canLay_of_shaped e1), h2.dp (SeqAt.canLay_of_shaped e2), e1, e2, z _ _ H s (.refl _) (.bl _) hq⟩

/-! ### tests -/
theorem evt_val {q : Bool → Prop} (h : Ev F A Δ te fun d => ∃ b, d = .bool b ∧ q b) : EvT F A Δ (tTest te) q := fun H0 σ H s Q z =>
  h H0 σ H s _ fun v d H1 s1 f1 h1 ⟨b, e, k⟩ => by
    subst e
    cases h1
    exact ⟨b, rfl, z b H1 s1 f1 k⟩
theorem evt_B {q : Bool → Prop} (h : Ev F A Δ te fun d => ∃ b, d = .bool b ∧ q b) : EvT F A Δ (tB te) q := evt_val h
theorem evt_not {q : Bool → Prop} (h : EvT F A Δ tt fun b => q (!b)) : EvT F A Δ (tNot tt) q := fun H0 σ H s Q z => h H0 σ H s _ fun b H1 s1 f1 k => z _ H1 s1 f1 k
theorem evt_and {q : Bool → Prop} (h : EvT F A Δ tt fun b => (b = true → EvT F A Δ tu q) ∧ (b = false → q false)) : EvT F A Δ (tAnd tt tu) q := fun H0 σ H s Q z =>
  h H0 σ H s _ fun b H1 s1 f1 k => by
    cases b with
    | true => exact iteT (k.1 rfl H0 σ H1 s1 _ fun b H2 s2 f2 k2 => z b H2 s2 (f1.trans f2) k2)
    | false => exact iteF (z _ H1 s1 f1 (k.2 rfl))
theorem evt_or {q : Bool → Prop} (h : EvT F A Δ tt fun b => (b = true → q true) ∧ (b = false → EvT F A Δ tu q)) : EvT F A Δ (tOr tt tu) q := fun H0 σ H s Q z =>
  h H0 σ H s _ fun b H1 s1 f1 k => by
    cases b with
    | false => exact iteF (k.2 rfl H0 σ H1 s1 _ fun b H2 s2 f2 k2 => z b H2 s2 (f1.trans f2) k2)
    | true => exact iteT (z _ H1 s1 f1 (k.1 rfl))
theorem evt_yes {q : Bool → Prop} (h : q true) : EvT F A Δ tYes q := fun H0 σ H s Q z => z _ H s (.refl _) h
theorem ev_if (h : EvT F A Δ tt fun b => (b = true → Ev F A Δ ta q) ∧ (b = false → Ev F A Δ tb q)) : Ev F A Δ (tIf tt ta tb) q := fun H0 σ H s Q z =>
  h H0 σ H s _ fun b H1 s1 f1 k => by
    cases b with
    | true => exact iteT (k.1 rfl H0 σ H1 s1 _ fun v d H2 s2 f2 h2 k2 => z v d H2 s2 (f1.trans f2) h2 k2)
    | false => exact iteF (k.2 rfl H0 σ H1 s1 _ fun v d H2 s2 f2 h2 k2 => z v d H2 s2 (f1.trans f2) h2 k2)
theorem ev_andV (h : Ev F A Δ ta fun d => ∃ b, d = .bool b ∧ (b = true → Ev F A Δ tb q) ∧ (b = false → q (.bool false))) : Ev F A Δ (tAndV ta tb) q := fun H0 σ H s Q z =>
  h H0 σ H s _ fun v d H1 s1 f1 h1 ⟨b, e, k⟩ => by
    subst e
    cases h1
    refine ⟨b, rfl, ?_⟩
    cases b with
    | true => exact iteT (k.1 rfl H0 σ H1 s1 _ fun v d H2 s2 f2 h2 k2 => z v d H2 s2 (f1.trans f2) h2 k2)
    | false => exact iteF (z _ _ H1 s1 f1 (.bl _) (k.2 rfl))
theorem ev_orV (h : Ev F A Δ ta fun d => ∃ b, d = .bool b ∧ (b = true → q (.bool true)) ∧ (b = false → Ev F A Δ tb q)) : Ev F A Δ (tOrV ta tb) q := fun H0 σ H s Q z =>
  h H0 σ H s _ fun v d H1 s1 f1 h1 ⟨b, e, k⟩ => by
    subst e
    cases h1
    refine ⟨b, rfl, ?_⟩
    cases b with
    | false => exact iteF (k.2 rfl H0 σ H1 s1 _ fun v d H2 s2 f2 h2 k2 => z v d H2 s2 (f1.trans f2) h2 k2)
    | true => exact iteT (z _ _ H1 s1 f1 (.bl _) (k.1 rfl))
theorem ev_notV (h : Ev F A Δ ta fun d => ∃ b, d = .bool b ∧ q (.bool (!b))) : Ev F A Δ (tNotV ta) q := fun H0 σ H s Q z =>
  h H0 σ H s _ fun v d H1 s1 f1 h1 ⟨b, e, k⟩ => by
    subst e
    cases h1
    exact ⟨b, rfl, z _ _ H1 s1 f1 (.bl _) k⟩
/-- lo <= x <= hi of ints -/
theorem ev_between (h : Ev F A Δ ta fun d1 => Ev F A Δ tb fun d2 => ∃ i j, d1 = .int i ∧ d2 = .int j ∧ (i ≤ j → Ev F A Δ tc fun d3 => ∃ k, d3 = .int k ∧ q (.bool (decide (j ≤ k)))) ∧ (¬ i ≤ j → q (.bool false))) :
    Ev F A Δ (tChain (rI0 fun i j => .bl (decide (i ≤ j))) (rI0 fun i j => .bl (decide (i ≤ j))) ta tb tc) q := fun H0 σ H s Q z =>
  h H0 σ H s _ fun x d1 H1 s1 f1 h1 k1 => k1 H0 σ H1 s1 _ fun y d2 H2 s2 f2 h2 ⟨i, j, e1, e2, k2⟩ => by
    subst e1 e2
    cases h1
    cases h2
    refine ⟨i, j, rfl, rfl, decide (i ≤ j), rfl, ?_⟩
    by_cases hij : i ≤ j
    · rw [decide_eq_true hij]
      refine iteT (k2.1 hij H0 σ H2 s2 _ fun w d3 H3 s3 f3 h3 ⟨k, e3, k3⟩ => ?_)
      subst e3
      cases h3
      exact ⟨j, k, rfl, rfl, z _ _ H3 s3 ((f1.trans f2).trans f3) (.bl _) k3⟩
    · rw [decide_eq_false hij]
      exact iteF (z _ _ H2 s2 (f1.trans f2) (.bl _) (k2.2 hij))

/-! ### arguments, displays -/
theorem eva_nil {q : List PyData → Prop} (h : q []) : EvA F A Δ tNil q := fun H0 σ H s Q z => z _ _ H s (.refl _) .nil h
theorem eva_cons {q : List PyData → Prop} (h : Ev F A Δ te fun d => EvA F A Δ t fun ds => q (d :: ds)) : EvA F A Δ (tCons te t) q := fun H0 σ H s Q z =>
  h H0 σ H s _ fun v d H1 s1 f1 h1 k1 => k1 H0 σ H1 s1 _ fun vs ds H2 s2 f2 h2 k2 => z _ _ H2 s2 (f1.trans f2) (.cons (h1.mono f2 s1.sub) h2) k2
theorem eva_one {q : List PyData → Prop} (h : Ev F A Δ te fun d => q [d]) : EvA F A Δ (tCons te tNil) q := eva_cons (h.imp fun _ k => eva_nil k)
theorem ev_tup (h : EvA F A Δ t fun ds => ds.length ≤ 100000 ∧ q (.tuple ds)) : Ev F A Δ (tTup t) q := fun H0 σ H s Q z =>
  h H0 σ H s _ fun vs ds H1 s1 f1 h1 k1 => ⟨by rw [h1.length, sizeLine_eq]; omega, fun p hp => z _ _ _ (s1.laid hp) (f1.trans (.new hp)) (.newT hp s1.trk h1) k1.2⟩
theorem evn_lst {q : List PyData → Prop} (h : EvA F A Δ t fun ds => ds.length ≤ 100000 ∧ q ds) : EvN F A Δ (tLst t) q := fun H0 σ H s Q z =>
  h H0 σ H s _ fun vs ds H1 s1 f1 h1 k1 => ⟨by rw [h1.length, sizeLine_eq]; omega, fun p hp => z p vs ds _ (s1.laidP hp) (f1.trans (.new hp)) (by
    cases e : H p with
    | none => rfl
    | some o => exact absurd hp (f1.trk p (by rw [e]; exact fun z => nomatch z))) upd_same ((h1.add hp).mono (m := []) (.new hp) fun _ z => nomatch z) k1.2⟩
theorem Fr.free {m : List Addr} {H H' : Hp} (f : Fr m H H') {p : Addr} (hp : H' p = none) : H p = none := by
  cases e : H p with
  | none => rfl
  | some o => exact absurd hp (f.trk p (by rw [e]; exact fun z => nomatch z))
/-- a new list is data -/
theorem EvN.ev (h : EvN F A Δ te fun ds => q (.list ds)) : Ev F A Δ te q := fun H0 σ H s Q z =>
  h H0 σ H s _ fun p vs ds H1 s1 f1 n e dt k => z _ _ H1 (s1.cut (fun _ z => List.mem_cons_of_mem _ z) s.sub fun _ _ _ e => s.mem e) f1 (.lst e (fun hA => s.trk p hA n) (dt.less fun _ z => List.mem_cons_of_mem _ z)) k
theorem ev_lst (h : EvA F A Δ t fun ds => ds.length ≤ 100000 ∧ q (.list ds)) : Ev F A Δ (tLst t) q := (evn_lst (q := fun ds => q (.list ds)) h).ev
theorem ev_dict (hq : q (.dict [])) : Ev F A Δ tDNewK q := fun H0 σ H s Q z p hp => z _ _ _ (s.laid hp) (.new hp) (.newD hp s.trk) hq

/-! ### sequences -/
def seqD : PyData → Option (List PyData)
  | .list ds => some ds
  | .tuple ds => some ds
  | _ => none
theorem seq_v {H : Hp} {x : V} {d : PyData} {es : List PyData} (h : Dt H A x d) (e : seqD d = some es) : ∃ a xs, x = .ref a ∧ (H a = some (.lst xs) ∨ H a = some (.tup xs)) ∧ DtA H A xs es := by
  cases h <;> first
    | (simp only [seqD, reduceCtorEq] at e; done)
    | (rename_i h n t; cases e; exact ⟨_, _, rfl, .inl h, t⟩)
    | (rename_i h n t; cases e; exact ⟨_, _, rfl, .inr h, t⟩)
theorem ev_len (h : EvA F A Δ t fun ds => ∃ d es, ds = [d] ∧ seqD d = some es ∧ q (.int es.length)) : Ev F A Δ (tCB (fun xs H Q => ∃ p ys, xs = [.ref p] ∧ (SqL K H p ys ∨ SqT K H p ys) ∧ Q (.int ys.length) H) t) q := fun H0 σ H s Q z =>
  h H0 σ H s _ fun vs ds H1 s1 f1 h1 ⟨d, es, e1, e2, k⟩ => by
    subst e1
    cases h1 with
    | cons hd ht =>
      cases ht
      obtain ⟨a, xs, rfl, hh, hx⟩ := seq_v hd e2
      refine ⟨a, xs, rfl, hh.imp SqL.of SqT.of, ?_⟩
      rw [hx.length]
      exact z _ _ H1 s1 f1 (.int _) k
def atD (es : List PyData) (i : Int) : Option PyData := (ixN es.length i).bind fun j => es[j]?
theorem atD_nat {es : List PyData} {i : Nat} {d : PyData} (h : es[i]? = some d) : atD es (i : Int) = some d := by
  have hl : i < es.length := by
    refine Nat.lt_of_not_le fun z => ?_
    rw [List.getElem?_eq_none z] at h
    cases h
  unfold atD ixN
  rw [if_pos (by omega), if_pos (by omega)]
  exact h
theorem at_v {H : Hp} {xs : List V} {es : List PyData} {i : Int} {d : PyData} (hx : DtA H A xs es) (h : atD es i = some d) : ∃ v, atI xs i = some v ∧ Dt H A v d := by
  unfold atD at h
  unfold atI
  rw [hx.length]
  cases e : ixN es.length i with
  | none => rw [e] at h; cases h
  | some j =>
    rw [e] at h
    exact hx.getD h
/-- x[i] of a list or a tuple -/
theorem ev_ix (h : Ev F A Δ ta fun d1 => Ev F A Δ tb fun d2 => ∃ es i d, seqD d1 = some es ∧ d2 = .int i ∧ atD es i = some d ∧ q d) :
    Ev F A Δ (tOp (fun x y H Q => rIxL K x y H Q ∨ rIxT K x y H Q) ta tb) q :=
  ev_op h fun H0 σ H x y d1 d2 s h1 h2 ⟨es, i, d, e1, e2, e3, hq⟩ Q z => by
    subst e2
    cases h2
    obtain ⟨a, xs, rfl, hh, hx⟩ := seq_v h1 e1
    obtain ⟨v, ev, dv⟩ := at_v hx e3
    rcases hh with hh | hh
    · exact .inl ⟨a, xs, i, v, rfl, rfl, .of hh, ev, z v d H s (.refl _) dv hq⟩
    · exact .inr ⟨a, xs, i, v, rfl, rfl, .of hh, ev, z v d H s (.refl _) dv hq⟩
/-! slices -/
theorem evo_none {q : Option Int → Prop} (h : q none) : EvO F A Δ tNoPart q := fun H0 σ H s Q z => z _ H s (.refl _) h
theorem evo_some {q : Option Int → Prop} (h : Ev F A Δ te fun d => ∃ i, d = .int i ∧ q (some i)) : EvO F A Δ (tPart te) q := fun H0 σ H s Q z =>
  h H0 σ H s _ fun v d H1 s1 f1 h1 ⟨i, e, k⟩ => by
    subst e
    cases h1
    exact ⟨i, rfl, z _ H1 s1 f1 k⟩
def cutD (es : List PyData) (lo hi : Option Int) : List PyData := (es.drop (HT.sIx es.length 0 lo)).take (HT.sIx es.length es.length hi - HT.sIx es.length 0 lo)
theorem cut_v {H : Hp} {xs : List V} {es : List PyData} {lo hi : Option Int} (hx : DtA H A xs es) : DtA H A (cutV xs lo hi) (cutD es lo hi) := by
  unfold cutV cutD
  rw [hx.length]
  exact (hx.drop _).take _
theorem cutD_whole {es : List PyData} {lo hi : Option Int} (h : HT.sIx es.length 0 lo = 0 ∧ HT.sIx es.length es.length hi = es.length) : cutD es lo hi = es := by
  unfold cutD
  rw [h.1, h.2, List.drop_zero, Nat.sub_zero, List.take_length]
theorem ev_slT {tl th : TO} (h : Ev F A Δ te fun d => EvO F A Δ tl fun lo => EvO F A Δ th fun hi => ∃ es, d = .tuple es ∧ q (.tuple (cutD es lo hi))) : Ev F A Δ (tSl (rSlA K) te tl th) q := fun H0 σ H s Q z =>
  h H0 σ H s _ fun v d H1 s1 f1 h1 k1 => k1 H0 σ H1 s1 _ fun lo H2 s2 f2 k2 => k2 H0 σ H2 s2 _ fun hi H3 s3 f3 ⟨es, e, k⟩ => by
    subst e
    have h3 := h1.mono (f2.trans f3) s1.sub
    cases h3 with
    | tup hh n t =>
      refine ⟨_, _, rfl, .of hh, fun w => ?_, fun w p hp => ?_⟩
      · rw [t.length] at w
        refine z _ _ H3 s3 ((f1.trans f2).trans f3) (.tup hh n t) ?_
        rw [cutD_whole w] at k
        exact k
      · exact z _ _ _ (s3.laid hp) (((f1.trans f2).trans f3).trans (.new hp)) (.newT hp s3.trk (cut_v t)) k
/-- a list's slice: a new list -/
theorem evn_slL {q : List PyData → Prop} {r : V → Option Int → Option Int → Hp → VK → Prop} (hr : ∀ x lo hi H Q, (∃ a xs, x = .ref a ∧ SqL K H a xs ∧ ∀ p, H p = none → Q (.ref p) (upd H p (.lst (cutV xs lo hi)))) → r x lo hi H Q)
    {tl th : TO} (h : Ev F A Δ te fun d => EvO F A Δ tl fun lo => EvO F A Δ th fun hi => ∃ es, d = .list es ∧ q (cutD es lo hi)) : EvN F A Δ (tSl r te tl th) q := fun H0 σ H s Q z =>
  h H0 σ H s _ fun v d H1 s1 f1 h1 k1 => k1 H0 σ H1 s1 _ fun lo H2 s2 f2 k2 => k2 H0 σ H2 s2 _ fun hi H3 s3 f3 ⟨es, e, k⟩ => by
    subst e
    have h3 := h1.mono (f2.trans f3) s1.sub
    cases h3 with
    | lst hh n t =>
      refine hr _ _ _ _ _ ⟨_, _, rfl, .of hh, fun p hp => ?_⟩
      have f := (f1.trans f2).trans f3
      exact z p _ _ _ (s3.laidP hp) (f.trans (.new hp)) (f.free hp) upd_same (((cut_v t).add hp).mono (m := []) (.new hp) fun _ z => nomatch z) k
/-! + and * -/
theorem ev_catT (h : Ev F A Δ ta fun d1 => Ev F A Δ tb fun d2 => ∃ es fs, d1 = .tuple es ∧ d2 = .tuple fs ∧ es.length + fs.length ≤ 100000 ∧ q (.tuple (es ++ fs))) : Ev F A Δ (tOp (rCatA K) ta tb) q :=
  ev_op h fun H0 σ H x y d1 d2 s h1 h2 ⟨es, fs, e1, e2, hz, hq⟩ Q z => by
    subst e1 e2
    cases h1 with
    | tup a1 n1 t1 =>
      cases h2 with
      | tup a2 n2 t2 =>
        refine ⟨_, _, _, _, rfl, rfl, .of a1, .of a2, by rw [t1.length, t2.length, sizeLine_eq]; omega, fun e => ?_, fun _ e => ?_, fun _ _ p hp => ?_⟩
        · subst e
          cases t1
          exact z _ _ H s (.refl _) (.tup a2 n2 t2) hq
        · subst e
          cases t2
          rw [List.append_nil] at hq
          exact z _ _ H s (.refl _) (.tup a1 n1 t1) hq
        · exact z _ _ _ (s.laid hp) (.new hp) (.newT hp s.trk (t1.append t2)) hq
theorem evn_cat {q : List PyData → Prop} (h : Ev F A Δ ta fun d1 => Ev F A Δ tb fun d2 => ∃ es fs, d1 = .list es ∧ d2 = .list fs ∧ es.length + fs.length ≤ 100000 ∧ q (es ++ fs)) : EvN F A Δ (tOp rCat ta tb) q := fun H0 σ H s Q z =>
  h H0 σ H s _ fun v d H1 s1 f1 h1 k1 => k1 H0 σ H1 s1 _ fun w e H2 s2 f2 h2 ⟨es, fs, e1, e2, hz, k⟩ => by
    subst e1 e2
    have h3 := h1.mono f2 s1.sub
    cases h3 with
    | lst a1 n1 t1 =>
      cases h2 with
      | lst a2 n2 t2 =>
        refine ⟨_, _, _, _, rfl, rfl, a1, a2, by rw [t1.length, t2.length, sizeLine_eq]; omega, fun p hp => ?_⟩
        exact z p _ _ _ (s2.laidP hp) ((f1.trans f2).trans (.new hp)) ((f1.trans f2).free hp) upd_same (((t1.append t2).add hp).mono (m := []) (.new hp) fun _ z => nomatch z) k
theorem DtA.rep {H : Hp} {xs : List V} {es : List PyData} (h : DtA H A xs es) : ∀ n : Nat, DtA H A (List.replicate n xs).flatten (List.replicate n es).flatten
  | 0 => .nil
  | n + 1 => by
    rw [List.replicate_succ, List.replicate_succ, List.flatten_cons, List.flatten_cons]
    exact h.append (DtA.rep h n)
/-! calls of list, tuple, int, str, all, sum -/
theorem ev_tupleOf (h : EvA F A Δ t fun ds => ∃ d es, ds = [d] ∧ seqD d = some es ∧ q (.tuple es)) :
    Ev F A Δ (tCB (fun xs H Q => ∃ p ys, xs = [.ref p] ∧ ((SqL K H p ys ∧ ∀ l, H l = none → Q (.ref l) (upd H l (.tup ys))) ∨ (SqT K H p ys ∧ Q (.ref p) H))) t) q := fun H0 σ H s Q z =>
  h H0 σ H s _ fun vs ds H1 s1 f1 h1 ⟨d, es, e1, e2, k⟩ => by
    subst e1
    cases h1 with
    | cons hd ht =>
      cases ht
      obtain ⟨a, xs, ea, hh, hx⟩ := seq_v hd e2
      subst ea
      rcases hh with hh | hh
      · exact ⟨a, xs, rfl, .inl ⟨.of hh, fun p hp => z _ _ _ (s1.laid hp) (f1.trans (.new hp)) (.newT hp s1.trk hx) k⟩⟩
      · cases hd with
        | lst a1 n1 t1 => rw [a1] at hh; cases hh
        | tup a1 n1 t1 =>
          rw [a1] at hh
          cases hh
          cases e2
          exact ⟨a, xs, rfl, .inr ⟨.of a1, z _ _ H1 s1 f1 (.tup a1 n1 t1) k⟩⟩
        | dct a1 n1 => cases e2
theorem evn_listOf {q : List PyData → Prop} (h : EvA F A Δ t fun ds => ∃ d es, ds = [d] ∧ seqD d = some es ∧ q es) :
    EvN F A Δ (tCB (fun xs H Q => ∃ p ys, xs = [.ref p] ∧ (SqL K H p ys ∨ SqT K H p ys) ∧ ∀ l, H l = none → Q (.ref l) (upd H l (.lst ys))) t) q := fun H0 σ H s Q z =>
  h H0 σ H s _ fun vs ds H1 s1 f1 h1 ⟨d, es, e1, e2, k⟩ => by
    subst e1
    cases h1 with
    | cons hd ht =>
      cases ht
      obtain ⟨a, xs, ea, hh, hx⟩ := seq_v hd e2
      subst ea
      exact ⟨a, xs, rfl, hh.imp SqL.of SqT.of, fun p hp => z p _ _ _ (s1.laidP hp) (f1.trans (.new hp)) (f1.free hp) upd_same ((hx.add hp).mono (m := []) (.new hp) fun _ z => nomatch z) k⟩
theorem ev_intOf (h : EvA F A Δ t fun ds => ∃ i, ds = [.int i] ∧ q (.int i)) : Ev F A Δ (tCB (fun xs H Q => (∃ i, xs = [.int i] ∧ Q (.int i) H) ∨ ∃ k, xs = [.bl k] ∧ Q (.int (if k then 1 else 0)) H) t) q := fun H0 σ H s Q z =>
  h H0 σ H s _ fun vs ds H1 s1 f1 h1 ⟨i, e1, k⟩ => by
    subst e1
    cases h1 with
    | cons hd ht =>
      cases ht
      cases hd
      exact .inl ⟨i, rfl, z _ _ H1 s1 f1 (.int _) k⟩
theorem ev_strOf (h : EvA F A Δ t fun ds => ∃ i : Int, ds = [.int i] ∧ i.natAbs.log2 < 1920 ∧ q (.str (toString i))) : Ev F A Δ (tCB (fun xs H Q => ∃ i, xs = [.int i] ∧ i.natAbs.log2 < 1920 ∧ Q (.str (toString i)) H) t) q := fun H0 σ H s Q z =>
  h H0 σ H s _ fun vs ds H1 s1 f1 h1 ⟨i, e1, e2, k⟩ => by
    subst e1
    cases h1 with
    | cons hd ht =>
      cases ht
      cases hd
      exact ⟨i, rfl, e2, z _ _ H1 s1 f1 (.str _) k⟩
theorem ev_all (h : EvA F A Δ t fun ds => ∃ bs : List Bool, ds = [.list (bs.map .bool)] ∧ q (.bool (bs.all id))) : Ev F A Δ (tCB (rAll K) t) q := fun H0 σ H s Q z =>
  h H0 σ H s _ fun vs ds H1 s1 f1 h1 ⟨bs, e1, k⟩ => by
    subst e1
    cases h1 with
    | cons hd ht =>
      cases ht
      cases hd with
      | lst a1 n1 t1 =>
        have e := t1.bool_inv
        subst e
        exact ⟨_, bs, rfl, .of a1, z _ _ H1 s1 f1 (.bl _) k⟩
/-! isinstance -/
def tyD : PyData → String
  | .none => "NoneType"
  | .bool _ => "bool"
  | .int _ => "int"
  | .str _ => "str"
  | .list _ => "list"
  | .tuple _ => "tuple"
  | .dict _ => "dict"
theorem ty_v {H : Hp} {x : V} {d : PyData} (h : Dt H A x d) : TyX K H x (.type (tyD d)) := by
  cases h with
  | non => exact .base .non
  | bl b => exact .base (.bl b)
  | int i => exact .base (.int i)
  | str x => exact .base (.str x)
  | lst h n t => exact .base (.lst h)
  | tup h n t => exact .base (.tup h)
  | dct h n => exact .base (.dK h)
theorem ev_isi {n : String} (h : Ev F A Δ te fun d => ∃ b, kitB (tyD d) n = some b ∧ q (.bool b)) : Ev F A Δ (tCB (rIsi K) (tCons te (tCons (tC (.ty n)) tNil))) q := fun H0 σ H s Q z =>
  h H0 σ H s _ fun v d H1 s1 f1 h1 ⟨b, e, k⟩ => ⟨v, .ty n, _, _, b, rfl, .ty n, ty_v h1, kit_ty e, z _ _ H1 s1 f1 (.bl _) k⟩
end

section
def isIntD : PyData → Bool
  | .bool _ => true
  | .int _ => true
  | _ => false
theorem kit_int : ∀ d : PyData, kitB (tyD d) "int" = some (isIntD d)
  | .none => (by decide +kernel : kitB "NoneType" "int" = some false)
  | .bool _ => (by decide +kernel : kitB "bool" "int" = some true)
  | .int _ => (by decide +kernel : kitB "int" "int" = some true)
  | .str _ => (by decide +kernel : kitB "str" "int" = some false)
  | .list _ => (by decide +kernel : kitB "list" "int" = some false)
  | .tuple _ => (by decide +kernel : kitB "tuple" "int" = some false)
  | .dict _ => (by decide +kernel : kitB "dict" "int" = some false)
def isBoolD : PyData → Bool
  | .bool _ => true
  | _ => false
theorem kit_bool : ∀ d : PyData, kitB (tyD d) "bool" = some (isBoolD d)
  | .none => (by decide +kernel : kitB "NoneType" "bool" = some false)
  | .bool _ => (by decide +kernel : kitB "bool" "bool" = some true)
  | .int _ => (by decide +kernel : kitB "int" "bool" = some false)
  | .str _ => (by decide +kernel : kitB "str" "bool" = some false)
  | .list _ => (by decide +kernel : kitB "list" "bool" = some false)
  | .tuple _ => (by decide +kernel : kitB "tuple" "bool" = some false)
  | .dict _ => (by decide +kernel : kitB "dict" "bool" = some false)
def isTupD : PyData → Bool
  | .tuple _ => true
  | _ => false
theorem kit_tuple : ∀ d : PyData, kitB (tyD d) "tuple" = some (isTupD d)
  | .none => (by decide +kernel : kitB "NoneType" "tuple" = some false)
  | .bool _ => (by decide +kernel : kitB "bool" "tuple" = some false)
  | .int _ => (by decide +kernel : kitB "int" "tuple" = some false)
  | .str _ => (by decide +kernel : kitB "str" "tuple" = some false)
  | .list _ => (by decide +kernel : kitB "list" "tuple" = some false)
  | .tuple _ => (by decide +kernel : kitB "tuple" "tuple" = some true)
  | .dict _ => (by decide +kernel : kitB "dict" "tuple" = some false)
def isStrD : PyData → Bool
  | .str _ => true
  | _ => false
theorem kit_str : ∀ d : PyData, kitB (tyD d) "str" = some (isStrD d)
  | .none => (by decide +kernel : kitB "NoneType" "str" = some false)
  | .bool _ => (by decide +kernel : kitB "bool" "str" = some false)
  | .int _ => (by decide +kernel : kitB "int" "str" = some false)
  | .str _ => (by decide +kernel : kitB "str" "str" = some true)
  | .list _ => (by decide +kernel : kitB "list" "str" = some false)
  | .tuple _ => (by decide +kernel : kitB "tuple" "str" = some false)
  | .dict _ => (by decide +kernel : kitB "dict" "str" = some false)
def isListD : PyData → Bool
  | .list _ => true
  | _ => false
theorem kit_list : ∀ d : PyData, kitB (tyD d) "list" = some (isListD d)
  | .none => (by decide +kernel : kitB "NoneType" "list" = some false)
  | .bool _ => (by decide +kernel : kitB "bool" "list" = some false)
  | .int _ => (by decide +kernel : kitB "int" "list" = some false)
  | .str _ => (by decide +kernel : kitB "str" "list" = some false)
  | .list _ => (by decide +kernel : kitB "list" "list" = some true)
  | .tuple _ => (by decide +kernel : kitB "tuple" "list" = some false)
  | .dict _ => (by decide +kernel : kitB "dict" "list" = some false)
def isDictD : PyData → Bool
  | .dict _ => true
  | _ => false
theorem kit_dict : ∀ d : PyData, kitB (tyD d) "dict" = some (isDictD d)
  | .none => (by decide +kernel : kitB "NoneType" "dict" = some false)
  | .bool _ => (by decide +kernel : kitB "bool" "dict" = some false)
  | .int _ => (by decide +kernel : kitB "int" "dict" = some false)
  | .str _ => (by decide +kernel : kitB "str" "dict" = some false)
  | .list _ => (by decide +kernel : kitB "list" "dict" = some false)
  | .tuple _ => (by decide +kernel : kitB "tuple" "dict" = some false)
  | .dict _ => (by decide +kernel : kitB "dict" "dict" = some true)
end
end Dl

/-! D3: statements, loops, comprehensions, calls of one's own defs, told by data alone -/
namespace Dl
open PySem PySem.Spec PyProof.Rows L2

section
variable {F : Fm} {H0 H H1 : Hp} {A A1 A2 : List Addr} {Δ Δ1 Δ2 : List Sl} {σ σ1 σ2 : L2.St} {H2 : Hp}
theorem Go.refl (s : S F H0 A Δ σ H) : Go F H0 A H A Δ σ H := ⟨fun _ h => h, fun _ h => .inl h, .refl _, s⟩
theorem Go.of (s : S F H0 A Δ σ H1) (f : Fr A H H1) : Go F H0 A H A Δ σ H1 := ⟨fun _ h => h, fun _ h => .inl h, f, s⟩
theorem Go.trans (a : Go F H0 A H A1 Δ1 σ1 H1) (b : Go F H0 A1 H1 A2 Δ2 σ2 H2) : Go F H0 A H A2 Δ2 σ2 H2 where
  sub := fun x h => b.sub x (a.sub x h)
  new := fun x h => by
    rcases b.new x h with z | z
    · exact a.new x z
    · exact .inr (a.fr.free z)
  fr := ⟨fun x o h n => b.fr.keep x o (a.fr.keep x o h n) fun z => (a.new x z).elim n fun e => (by
      rw [e] at h
      cases h), fun x h => b.fr.trk x (a.fr.trk x h)⟩
  st := b.st
/-- what a slot holds is forgotten -/
def Weak (Δ Δ' : List Sl) : Prop := Δ'.length = Δ.length ∧ ∀ (i : Nat) s, Δ'[i]? = some s → s = .no ∨ Δ[i]? = some s
theorem Weak.refl (Δ : List Sl) : Weak Δ Δ := ⟨rfl, fun _ _ h => .inr h⟩
theorem S.weak {Δ' : List Sl} (s : S F H0 A Δ σ H) (w : Weak Δ Δ') : S F H0 A Δ' σ H :=
  ⟨s.fr, s.inv, s.sub, s.trk, by rw [s.len, w.1], fun k x e => by
    rcases w.2 k x e with rfl | h
    · have hl : k < σ.length := by
        rw [s.len, ← w.1]
        exact (List.getElem?_eq_some_iff.mp e).1
      exact ⟨σ[k], List.getElem?_eq_getElem hl, trivial⟩
    · exact s.env k x h, fun i j t ds es h1 h2 => by
    rcases w.2 i _ h1 with z | h1
    · cases z
    · rcases w.2 j _ h2 with z | h2
      · cases z
      · exact s.apart i j t ds es h1 h2⟩
/-- a new list in a slot, to be written -/
theorem S.own {p : Addr} {i : Nat} {vs : List V} {ds : List PyData} (s : S F H0 (p :: A) Δ σ H) (np : H0 p = none) (hA : p ∉ A) (hm : p ∉ F.m) (hd : ∀ (i : Nat) t ds, Δ[i]? = some (Sl.m t ds) → t ∈ A) (e : H p = some (.lst vs)) (q : DtA H (p :: A) vs ds) :
    S F H0 (p :: A) (Δ.set i (.m p ds)) (σ.set i (some (.ref p))) H := by
  refine s.set ⟨rfl, List.mem_cons_self, hm, np, vs, e, q⟩ fun t es et j fs _ hj => ?_
  cases et
  exact hA (hd j _ _ hj)
end

section
variable {F : Fm} {A : List Addr} {Δ : List Sl} {K : PySem.W.Frag} {te : TE} {tt : TT} {ts tu : TS} {ta : TA} {E : En} {i j : Nat}
theorem Sq.imp {E' : En} (h : Sq F A Δ ts E) (hn : ∀ A' Δ', (∀ a ∈ A, a ∈ A') → E.nx A' Δ' → E'.nx A' Δ') (hr : ∀ d, E.rt d → E'.rt d) (hb : ∀ A' Δ', (∀ a ∈ A, a ∈ A') → E.bk A' Δ' → E'.bk A' Δ') (hc : ∀ A' Δ', (∀ a ∈ A, a ∈ A') → E.ct A' Δ' → E'.ct A' Δ') : Sq F A Δ ts E' :=
  fun H0 σ H s D n r b c => h H0 σ H s D (fun A' Δ' σ' H' g k => n A' Δ' σ' H' g (hn A' Δ' g.sub k)) (fun A' v d H' a f i dt k => r A' v d H' a f i dt (hr d k)) (fun A' Δ' σ' H' g k => b A' Δ' σ' H' g (hb A' Δ' g.sub k)) (fun A' Δ' σ' H' g k => c A' Δ' σ' H' g (hc A' Δ' g.sub k))
theorem sq_next (h : E.nx A Δ) : Sq F A Δ tNext E := fun H0 σ H s D n r b c => n A Δ σ H (.refl s) h
theorem sq_cont (h : E.ct A Δ) : Sq F A Δ tCont E := fun H0 σ H s D n r b c => c A Δ σ H (.refl s) h
theorem sq_break (h : E.bk A Δ) : Sq F A Δ tBreak E := fun H0 σ H s D n r b c => b A Δ σ H (.refl s) h
theorem sq_seq (h : Sq F A Δ ts { E with nx := fun A' Δ' => Sq F A' Δ' tu E }) : Sq F A Δ (tSeq ts tu) E := fun H0 σ H s D n r b c =>
  h H0 σ H s { D with nx := tu D } (fun A' Δ' σ' H' g k => k H0 σ' H' g.st D (fun A2 Δ2 σ2 H2 g2 => n A2 Δ2 σ2 H2 (g.trans g2)) (fun A2 v d H2 a2 => r A2 v d H2 fun x h z => a2 x (g.sub x h) z)
    (fun A2 Δ2 σ2 H2 g2 => b A2 Δ2 σ2 H2 (g.trans g2)) (fun A2 Δ2 σ2 H2 g2 => c A2 Δ2 σ2 H2 (g.trans g2))) r b c
theorem sq_set (h : Ev F A Δ te fun d => E.nx A (Δ.set i (.d d))) : Sq F A Δ (tAsg te (gName i)) E := fun H0 σ H s D n r b c =>
  h H0 σ H s _ fun v d H1 s1 f1 h1 k => n A _ _ H1 (.of (s1.setD h1) (f1.more s.sub)) k
theorem sq_drop (h : Ev F A Δ te fun d => E.nx A Δ) : Sq F A Δ (tDrop te) E := fun H0 σ H s D n r b c =>
  h H0 σ H s _ fun v d H1 s1 f1 h1 k => n A _ _ H1 (.of s1 (f1.more s.sub)) k
theorem sq_ret (h : Ev F A Δ te E.rt) : Sq F A Δ (tRet te) E := fun H0 σ H s D n r b c =>
  h H0 σ H s _ fun v d H1 s1 f1 h1 k => r A v d H1 (fun _ h _ => h) s1.fr s1.inv h1 k
theorem sq_retN (h : E.rt .none) : Sq F A Δ tRetN E := fun H0 σ H s D n r b c => r A .non .none H (fun _ h _ => h) s.fr s.inv .non h
theorem sq_if (h : EvT F A Δ tt fun b => (b = true → Sq F A Δ ts E) ∧ (b = false → Sq F A Δ tu E)) : Sq F A Δ (tIfS tt ts tu) E := fun H0 σ H s D n r b c =>
  h H0 σ H s _ fun x H1 s1 f1 k => by
    have g : Go F H0 A H A Δ σ H1 := .of s1 (f1.more s.sub)
    cases x with
    | true => exact iteT (k.1 rfl H0 σ H1 s1 D (fun A2 Δ2 σ2 H2 g2 => n A2 Δ2 σ2 H2 (g.trans g2)) r (fun A2 Δ2 σ2 H2 g2 => b A2 Δ2 σ2 H2 (g.trans g2)) (fun A2 Δ2 σ2 H2 g2 => c A2 Δ2 σ2 H2 (g.trans g2)))
    | false => exact iteF (k.2 rfl H0 σ H1 s1 D (fun A2 Δ2 σ2 H2 g2 => n A2 Δ2 σ2 H2 (g.trans g2)) r (fun A2 Δ2 σ2 H2 g2 => b A2 Δ2 σ2 H2 (g.trans g2)) (fun A2 Δ2 σ2 H2 g2 => c A2 Δ2 σ2 H2 (g.trans g2)))
/-- a new list that will be written -/
theorem sq_setM (h : EvN F A Δ te fun ds => ∀ t, t ∉ A → E.nx (t :: A) (Δ.set i (.m t ds))) : Sq F A Δ (tAsg te (gName i)) E := fun H0 σ H s D n r b c =>
  h H0 σ H s _ fun p vs ds H1 s1 f1 np e dt k => by
    have nA : p ∉ A := fun z => s.trk p z np
    refine n (p :: A) _ _ H1 ⟨fun _ h => List.mem_cons_of_mem _ h, fun a h => ?_, f1.more s.sub, s1.own (s.fr.free np) nA (fun z => nA (s.sub p z)) (fun _ _ _ e => s.mem e) e dt⟩ (k p nA)
    rcases List.mem_cons.mp h with rfl | h
    · exact .inr np
    · exact .inl h
/-- a, b = e1, e2 -/
theorem sq_par (h : EvA F A Δ ta fun ds => ∃ d e, ds = [d, e] ∧ E.nx A ((Δ.set i (.d d)).set j (.d e))) : Sq F A Δ (tPar i j ta) E := fun H0 σ H s D n r b c =>
  h H0 σ H s _ fun vs ds H1 s1 f1 h1 ⟨d, e, ed, k⟩ => by
    subst ed
    cases h1 with
    | cons hd ht =>
      cases ht with
      | cons he ht =>
        cases ht
        exact ⟨_, _, rfl, n A _ _ H1 (.of ((s1.setD hd).setD he) (f1.more s.sub)) k⟩
/-- a, b = e: a tuple of two -/
theorem sq_two (h : Ev F A Δ te fun d => ∃ x y, d = .tuple [x, y] ∧ E.nx A ((Δ.set i (.d x)).set j (.d y))) : Sq F A Δ (tAsg te (gTup K 2 (gCons (gName i) (gCons (gName j) gNil)))) E := fun H0 σ H s D n r b c =>
  h H0 σ H s _ fun v d H1 s1 f1 h1 ⟨x, y, ed, k⟩ => by
    subst ed
    cases h1 with
    | tup hh nn t =>
      cases t with
      | cons hx t =>
        cases t with
        | cons hy t =>
          cases t
          exact ⟨_, _, rfl, .of hh, rfl, _, _, rfl, _, _, rfl, rfl, n A _ _ H1 (.of ((s1.setD hx).setD hy) (f1.more s.sub)) k⟩
end
end Dl

/-! D4: own lists, loops, comprehensions, calls -/
namespace Dl
open PySem PySem.Spec PyProof.Rows L2

section
variable {F : Fm} {A : List Addr} {Δ : List Sl} {K : PySem.W.Frag} {te : TE} {tt : TT} {ts tu tb : TS} {ta : TA} {E : En} {i j : Nat} {q : PyData → Prop}
/-! ### own lists -/
theorem sq_append {t : Addr} {ds : List PyData} (h : Δ[i]? = some (.m t ds)) (he : Ev F A Δ te fun d => ds.length < 100000 ∧ E.nx A (Δ.set i (.m t (ds ++ [d])))) : Sq F A Δ (tDrop (tBM K "list" rAppend (tVar i) (tCons te tNil))) E := fun H0 σ H s D n r b c => by
  obtain ⟨o, ho, e0, tA, tm, t0, vs, ht, hv⟩ := s.env i _ h
  subst e0
  refine ⟨_, ho, .inl ⟨rfl, vs, .of ht⟩, ?_⟩
  refine he H0 σ H s _ fun v d H1 s1 f1 h1 ⟨z, k⟩ => ?_
  obtain ⟨o, ho', e0, tA', tm, t0, vs1, ht1, hv1⟩ := s1.env i _ h
  refine ⟨t, vs1, v, rfl, rfl, ht1, by rw [hv1.length, sizeLine_eq]; omega, ?_⟩
  exact n A _ _ _ (.of (s1.put h (hv1.append (.cons h1 .nil))) ((f1.more s.sub).trans (.put tA))) k
theorem ev_tupleOfM {t : Addr} {ds : List PyData} (h : Δ[i]? = some (.m t ds)) (hq : q (.tuple ds)) :
    Ev F A Δ (tCB (fun xs H Q => ∃ p ys, xs = [.ref p] ∧ ((SqL K H p ys ∧ ∀ l, H l = none → Q (.ref l) (upd H l (.tup ys))) ∨ (SqT K H p ys ∧ Q (.ref p) H))) (tCons (tVar i) tNil)) q := fun H0 σ H s Q z => by
  obtain ⟨o, ho, e0, tA, tm, t0, vs, ht, hv⟩ := s.env i _ h
  subst e0
  exact ⟨_, ho, t, vs, rfl, .inl ⟨.of ht, fun p hp => z _ _ _ (s.laid hp) (.new hp) (.newT hp s.trk hv) hq⟩⟩
theorem ev_lenM {t : Addr} {ds : List PyData} (h : Δ[i]? = some (.m t ds)) (hq : q (.int ds.length)) :
    Ev F A Δ (tCB (fun xs H Q => ∃ p ys, xs = [.ref p] ∧ (SqL K H p ys ∨ SqT K H p ys) ∧ Q (.int ys.length) H) (tCons (tVar i) tNil)) q := fun H0 σ H s Q z => by
  obtain ⟨o, ho, e0, tA, tm, t0, vs, ht, hv⟩ := s.env i _ h
  subst e0
  refine ⟨_, ho, t, vs, rfl, .inl (.of ht), ?_⟩
  rw [hv.length]
  exact z _ _ H s (.refl _) (.int _) hq
theorem evn_slM {t : Addr} {ds : List PyData} {q : List PyData → Prop} {r : V → Option Int → Option Int → Hp → VK → Prop} (hr : ∀ x lo hi H Q, (∃ a xs, x = .ref a ∧ SqL K H a xs ∧ ∀ p, H p = none → Q (.ref p) (upd H p (.lst (cutV xs lo hi)))) → r x lo hi H Q)
    {tl th : TO} (hd : Δ[i]? = some (.m t ds)) (h : EvO F A Δ tl fun lo => EvO F A Δ th fun hi => q (cutD ds lo hi)) : EvN F A Δ (tSl r (tVar i) tl th) q := fun H0 σ H s Q z => by
  obtain ⟨o, ho, e0, tA, tm, t0, vs, ht, hv⟩ := s.env i _ hd
  subst e0
  refine ⟨_, ho, h H0 σ H s _ fun lo H1 s1 f1 k1 => k1 H0 σ H1 s1 _ fun hi H2 s2 f2 k2 => ?_⟩
  obtain ⟨o, ho', e0, tA', tm, t0, vs1, ht1, hv1⟩ := s2.env i _ hd
  refine hr _ _ _ _ _ ⟨t, vs1, rfl, .of ht1, fun p hp => ?_⟩
  exact z p _ _ _ (s2.laidP hp) ((f1.trans f2).trans (.new hp)) ((f1.trans f2).free hp) upd_same (((cut_v hv1).add hp).mono (m := []) (.new hp) fun _ z => nomatch z) k2

/-! ### targets -/
def TgD (g : TG) (u : PyData → List Sl → Option (List Sl)) (js : List Nat) : Prop :=
  ∀ (F : Fm) (H0 H : Hp) (A : List Addr) (Δ Δ' : List Sl) (σ : L2.St) (v : V) (d : PyData), S F H0 A Δ σ H → Dt H A v d → u d Δ = some Δ' → ∀ Q : L2.St → Hp → Prop,
    (∀ σ', S F H0 A Δ' σ' H → σ'.length = σ.length → (∀ i, i ∉ js → σ'[i]? = σ[i]?) → Q σ' H) → g v σ H Q
def uName (j : Nat) : PyData → List Sl → Option (List Sl) := fun d Δ => some (Δ.set j (.d d))
def uTwo (j k : Nat) : PyData → List Sl → Option (List Sl)
  | .tuple [x, y], Δ => some ((Δ.set j (.d x)).set k (.d y))
  | _, _ => none
theorem tg_name (j : Nat) : TgD (gName j) (uName j) [j] := fun F H0 H A Δ Δ' σ v d s h e Q q => by
  cases e
  refine q _ (s.setD h) (List.length_set ..) fun i hi => ?_
  rw [List.getElem?_set_ne (fun z => hi (by rw [z]; exact List.mem_cons_self))]
theorem tg_two (j k : Nat) : TgD (gTup K 2 (gCons (gName j) (gCons (gName k) gNil))) (uTwo j k) [j, k] := fun F H0 H A Δ Δ' σ v d s h e Q q => by
  unfold uTwo at e
  split at e
  · rename_i x y
    cases e
    cases h with
    | tup hh nn t =>
      cases t with
      | cons hx t =>
        cases t with
        | cons hy t =>
          cases t
          refine ⟨_, _, rfl, .of hh, rfl, _, _, rfl, _, _, rfl, rfl, q _ ((s.setD hx).setD hy) (by rw [List.length_set, List.length_set]) fun i hi => ?_⟩
          rw [List.getElem?_set_ne (fun z => hi (by rw [z]; exact List.mem_cons_of_mem _ List.mem_cons_self)), List.getElem?_set_ne (fun z => hi (by rw [z]; exact List.mem_cons_self))]
  · cases e
theorem sq_asg {g : TG} {u : PyData → List Sl → Option (List Sl)} {js : List Nat} (hg : TgD g u js) (h : Ev F A Δ te fun d => ∃ Δ', u d Δ = some Δ' ∧ E.nx A Δ') : Sq F A Δ (tAsg te g) E := fun H0 σ H s D n r b c =>
  h H0 σ H s _ fun v d H1 s1 f1 h1 ⟨Δ', e, k⟩ => hg F H0 H1 A Δ Δ' σ v d s1 h1 e _ fun σ' s' _ _ => n A _ _ H1 (.of s' (f1.more s.sub)) k
theorem wipe_get {σ : L2.St} {i : Nat} : ∀ vs : List Nat, (L2.wipe σ vs)[i]? = if i ∈ vs then (σ[i]?).map (fun _ => none) else σ[i]?
  | [] => by rw [if_neg (by simp)] <;> rfl
  | v :: vs => by
    show ((L2.wipe σ vs).set v none)[i]? = _
    rw [List.getElem?_set]
    have ih := wipe_get (σ := σ) (i := i) vs
    by_cases e : v = i
    · subst e
      rw [if_pos rfl, if_pos List.mem_cons_self, L2.wipe_length]
      by_cases hl : v < σ.length
      · rw [if_pos hl, List.getElem?_eq_getElem hl] <;> rfl
      · rw [if_neg hl, List.getElem?_eq_none (by omega)] <;> rfl
    · rw [if_neg e, ih]
      by_cases hm : i ∈ vs
      · rw [if_pos hm, if_pos (List.mem_cons_of_mem _ hm)]
      · rw [if_neg hm, if_neg (fun z => (List.mem_cons.mp z).elim (fun z => e z.symm) hm)]
theorem wipe_eq {σ σ2 : L2.St} {vs js : List Nat} (hj : ∀ j ∈ js, j ∈ vs) (hl : σ2.length = (L2.wipe σ vs).length) (h : ∀ i, i ∉ js → σ2[i]? = (L2.wipe σ vs)[i]?) : L2.wipe σ2 vs = L2.wipe σ vs := by
  refine List.ext_getElem? fun i => ?_
  rw [wipe_get]
  by_cases hm : i ∈ vs
  · rw [if_pos hm, wipe_get, if_pos hm]
    rw [L2.wipe_length] at hl
    by_cases hi : i < σ.length
    · rw [List.getElem?_eq_getElem hi, List.getElem?_eq_getElem (by omega)] <;> rfl
    · rw [List.getElem?_eq_none (by omega), List.getElem?_eq_none (by omega)] <;> rfl
  · rw [if_neg hm]
    exact h i fun z => hm (hj i z)

/-! ### what is walked -/
def Ext (A : List Addr) (H : Hp) (B : List Addr) : Prop := (∀ a ∈ A, a ∈ B) ∧ ∀ a ∈ B, a ∈ A ∨ H a = none
theorem Ext.refl (A : List Addr) (H : Hp) : Ext A H A := ⟨fun _ h => h, fun _ h => .inl h⟩
structure WalkD (A : List Addr) (J : It) (xs : List PyData) (H : Hp) : Prop where
  go : ∀ B i H', Ext A H B → Fr B H H' → i < xs.length → J.go i H'
  stop : ∀ B H', Ext A H B → Fr B H H' → J.stop xs.length H'
  yld : ∀ B i H' v H'', Ext A H B → Fr B H H' → (∀ a ∈ B, H' a ≠ none) → i < xs.length → J.yld i H' v H'' → Fr [] H' H'' ∧ ∃ d, xs[i]? = some d ∧ Dt H'' B v d
def EvI (F : Fm) (A : List Addr) (Δ : List Sl) (wi : TI) (q : List PyData → Prop) : Prop :=
  ∀ (H0 : Hp) (σ : L2.St) (H : Hp), S F H0 A Δ σ H → ∀ R : It → Hp → Prop, (∀ J xs H', S F H0 A Δ σ H' → Fr F.m H H' → WalkD A J xs H' → q xs → R J H') → wi σ H R
theorem frB {A B : List Addr} {H H' : Hp} {a : Addr} {o : HO} (x : Ext A H B) (f : Fr B H H') (n : a ∉ A) (h : H a = some o) : H' a = some o :=
  f.keep a o h fun z => (x.2 a z).elim n fun e => by rw [e] at h; cases h
theorem dtB {A B : List Addr} {H H' : Hp} {vs : List V} {ds : List PyData} (x : Ext A H B) (f : Fr B H H') (h : DtA H A vs ds) : DtA H' B vs ds := (h.grow x.2).mono f fun _ z => z
theorem walk_l {H : Hp} {a : Addr} {vs : List V} {ds : List PyData} (h : H a = some (.lst vs)) (n : a ∉ A) (t : DtA H A vs ds) : WalkD A (Itl K a) ds H where
  go := fun B i H' x f hi => by
    have hv : i < vs.length := by rw [t.length]; exact hi
    exact ⟨vs, vs[i], .of (frB x f n h), List.getElem?_eq_getElem hv⟩
  stop := fun B H' x f => ⟨vs, .of (frB x f n h), by rw [t.length]; exact Nat.le_refl _⟩
  yld := fun B i H' v H'' x f _ hi y => by
    obtain ⟨rfl, y⟩ := y
    obtain ⟨d, e, hd⟩ := (dtB x f t).get (y vs (.of (frB x f n h)))
    exact ⟨.refl _, d, e, hd⟩
theorem walk_t {H : Hp} {a : Addr} {vs : List V} {ds : List PyData} (h : H a = some (.tup vs)) (n : a ∉ A) (t : DtA H A vs ds) : WalkD A (Itt K a) ds H where
  go := fun B i H' x f hi => by
    have hv : i < vs.length := by rw [t.length]; exact hi
    exact ⟨vs, vs[i], .of (frB x f n h), List.getElem?_eq_getElem hv⟩
  stop := fun B H' x f => ⟨vs, .of (frB x f n h), by rw [t.length]; exact Nat.le_refl _⟩
  yld := fun B i H' v H'' x f _ hi y => by
    obtain ⟨rfl, y⟩ := y
    obtain ⟨d, e, hd⟩ := (dtB x f t).get (y vs (.of (frB x f n h)))
    exact ⟨.refl _, d, e, hd⟩
theorem evi_list {q : List PyData → Prop} (h : Ev F A Δ te fun d => ∃ xs, d = .list xs ∧ q xs) : EvI F A Δ (iList K te) q := fun H0 σ H s R z =>
  h H0 σ H s _ fun v d H1 s1 f1 h1 ⟨xs, e, k⟩ => by
    subst e
    cases h1 with
    | lst hh n t => exact ⟨_, rfl, ⟨_, .of hh⟩, z _ xs H1 s1 f1 (walk_l hh n t) k⟩
theorem evi_tup {q : List PyData → Prop} (h : Ev F A Δ te fun d => ∃ xs, d = .tuple xs ∧ q xs) : EvI F A Δ (iTup K te) q := fun H0 σ H s R z =>
  h H0 σ H s _ fun v d H1 s1 f1 h1 ⟨xs, e, k⟩ => by
    subst e
    cases h1 with
    | tup hh n t => exact ⟨_, rfl, ⟨_, .of hh⟩, z _ xs H1 s1 f1 (walk_t hh n t) k⟩
def rngD (n : Int) : List PyData := (List.range n.toNat).map fun k => .int (k : Nat)
theorem evi_rng1 {q : List PyData → Prop} (h : EvA F A Δ ta fun ds => ∃ n : Int, ds = [.int n] ∧ -100000 ≤ n ∧ n ≤ 100000 ∧ q (rngD n)) : EvI F A Δ (iRng1 ta) q := fun H0 σ H s R z =>
  h H0 σ H s _ fun vs ds H1 s1 f1 h1 ⟨n, e, n1, n2, k⟩ => by
    subst e
    cases h1 with
    | cons hd ht =>
      cases ht
      cases hd
      have el : (rngD n).length = n.toNat := by
        unfold rngD
        rw [List.length_map, List.length_range]
      refine ⟨n, rfl, by omega, by omega, z _ (rngD n) H1 s1 f1 ⟨fun B i H' x f hi => ?_, fun B H' x f => ?_, fun B i H' v H'' x f _ hi y => ?_⟩ k⟩
      · rw [el] at hi
        exact hi
      · rw [el]
        exact Nat.le_refl _
      · obtain ⟨rfl, rfl⟩ := y
        rw [el] at hi
        refine ⟨.refl _, .int i, ?_, ?_⟩
        · unfold rngD
          rw [List.getElem?_map, List.getElem?_range hi] <;> rfl
        · rw [show (0 : Int) + (i : Int) = (i : Int) by omega]
          exact .int _
def enumD (xs : List PyData) : List PyData := xs.mapIdx fun i d => .tuple [.int (i : Nat), d]
/-! ### for -/
def Back (A : List Addr) (P : List Sl → Prop) (_ : List Addr) (Δ' : List Sl) : Prop := ∃ Δ3, Weak Δ' Δ3 ∧ (∀ (k : Nat) t ds, Δ3[k]? = some (Sl.m t ds) → t ∈ A) ∧ P Δ3
theorem back_of {P : List Sl → Prop} {A' : List Addr} (hd : ∀ (k : Nat) t ds, Δ[k]? = some (Sl.m t ds) → t ∈ A) (h : P Δ) : Back A P A' Δ := ⟨Δ, .refl _, hd, h⟩
theorem sq_for {wi : TI} {g : TG} {u : PyData → List Sl → Option (List Sl)} {js : List Nat} (hg : TgD g u js)
    (h : EvI F A Δ wi fun xs => ∃ Inv : Nat → List Sl → Prop, Inv 0 Δ ∧ (∀ i d Δ', xs[i]? = some d → Inv i Δ' → (∀ (k : Nat) t ds, Δ'[k]? = some (Sl.m t ds) → t ∈ A) → ∃ Δ1, u d Δ' = some Δ1 ∧ Sq F A Δ1 tb { nx := Back A (Inv (i + 1)), rt := E.rt, bk := E.nx, ct := Back A (Inv (i + 1)) }) ∧ (∀ Δ', Inv xs.length Δ' → E.nx A Δ')) :
    Sq F A Δ (tFor wi g tb) E := fun H0 σ H s D n r b c =>
  h H0 σ H s _ fun J xs H1 s1 f1 w ⟨Wi, i0, step, fin⟩ => by
    refine ⟨fun i m σ' H' => m = xs.length - i ∧ i ≤ xs.length ∧ ∃ Δ', Wi i Δ' ∧ Fr A H1 H' ∧ S F H0 A Δ' σ' H', ⟨_, rfl, Nat.zero_le _, Δ, i0, .refl _, s1⟩, ?_⟩
    rintro i m σ' H' ⟨rfl, hi, Δ', iv, f2, s2⟩
    have g0 : ∀ {A2 : List Addr} {Δ2 : List Sl} {σ2 : L2.St} {H2 : Hp}, Go F H0 A H' A2 Δ2 σ2 H2 → Go F H0 A H A2 Δ2 σ2 H2 := fun g => (Go.of s2 ((f1.more s.sub).trans f2)).trans g
    by_cases hl : i < xs.length
    · refine .inr ⟨w.go A i H' (.refl _ _) f2 hl, fun σ3 H3 => ∃ Δ3, Wi (i + 1) Δ3 ∧ Fr A H1 H3 ∧ S F H0 A Δ3 σ3 H3, fun σ3 H3 z => ⟨xs.length - (i + 1), by omega, rfl, hl, z⟩, fun v H2 y => ?_⟩
      obtain ⟨f3, d, ed, hd⟩ := w.yld A i H' v H2 (.refl _ _) f2 s2.trk hl y
      have s3 := s2.more f3
      obtain ⟨Δ1, eu, k⟩ := step i d Δ' ed iv fun _ _ _ e => s2.mem e
      refine hg F H0 H2 A Δ' Δ1 σ' v d s3 hd eu _ fun σ2 s4 _ _ => ?_
      have nxt : ∀ A' Δ2 σ4 H4, Go F H0 A H2 A' Δ2 σ4 H4 → Back A (Wi (i + 1)) A' Δ2 → ∃ Δ3, Wi (i + 1) Δ3 ∧ Fr A H1 H4 ∧ S F H0 A Δ3 σ4 H4 := fun A' Δ2 σ4 H4 g ⟨Δ3, wk, hm, iv'⟩ =>
        ⟨Δ3, iv', (f2.trans (f3.more fun _ z => nomatch z)).trans g.fr, (g.st.weak wk).cut g.sub s.sub hm⟩
      have gs : Go F H0 A H' A Δ1 σ2 H2 := .of s4 (f3.more fun _ z => nomatch z)
      exact k H0 σ2 H2 s4 _ nxt r (fun A2 Δ2 σ4 H4 g2 q2 => n A2 Δ2 σ4 H4 (g0 (gs.trans g2)) q2) nxt
    · have e : i = xs.length := by omega
      subst e
      exact .inl ⟨w.stop A H' (.refl _ _) f2, n A Δ' σ' H' (g0 (.refl s2)) (fin Δ' iv)⟩
/-! ### comprehensions -/
theorem evn_lc {wi : TI} {g : TG} {u : PyData → List Sl → Option (List Sl)} {js : List Nat} {vs : List Nat} {q : List PyData → Prop} (hg : TgD g u js) (hj : ∀ j ∈ js, j ∈ vs)
    (h : EvI F A Δ wi fun xs => ∃ Inv : Nat → List PyData → Prop, Inv 0 [] ∧ (∀ i d acc p, xs[i]? = some d → Inv i acc → p ∉ A → ∃ Δ1, u d (wipeD Δ vs) = some Δ1 ∧ EvT F (p :: A) Δ1 tt fun b =>
      (b = true → Ev F (p :: A) Δ1 te fun y => acc.length < 100000 ∧ Inv (i + 1) (acc ++ [y])) ∧ (b = false → Inv (i + 1) acc)) ∧ ∀ acc, Inv xs.length acc → q acc) :
    EvN F A Δ (tLc wi g tt te vs) q := fun H0 σ H s Q z =>
  h H0 σ H s _ fun J xs H1 s1 f1 w ⟨Wi, i0, step, fin⟩ p np => by
    have nA : p ∉ A := fun y => s1.trk p y np
    have x1 : Ext A H1 (p :: A) := ⟨fun _ h => List.mem_cons_of_mem _ h, fun a h => (List.mem_cons.mp h).elim (fun e => .inr (by rw [e]; exact np)) .inl⟩
    have H0p : H0 p = none := s1.fr.free np
    have hdm : ∀ (k : Nat) t ds, Δ[k]? = some (Sl.m t ds) → t ∈ A := fun _ _ _ e => s1.mem e
    have s5 : S F H0 (p :: A) Δ σ (upd H1 p (.lst [])) := s1.laidP np
    refine ⟨fun i m H' => m = xs.length - i ∧ i ≤ xs.length ∧ ∃ acc avs, Wi i acc ∧ H' p = some (.lst avs) ∧ DtA H' (p :: A) avs acc ∧ Fr F.m H1 H' ∧ S F H0 (p :: A) Δ σ H', ⟨_, rfl, Nat.zero_le _, [], [], i0, upd_same, .nil, .new np, s5⟩, ?_⟩
    rintro i m H' ⟨rfl, hi, acc, avs, iv, hp, hav, f2, s2⟩
    have f2' : Fr (p :: A) H1 H' := f2.more fun a h => List.mem_cons_of_mem _ (s.sub a h)
    by_cases hl : i < xs.length
    · refine .inr ⟨w.go _ i H' x1 f2' hl, fun H3 => ∃ acc avs, Wi (i + 1) acc ∧ H3 p = some (.lst avs) ∧ DtA H3 (p :: A) avs acc ∧ Fr F.m H1 H3 ∧ S F H0 (p :: A) Δ σ H3, fun H3 y => ⟨xs.length - (i + 1), by omega, rfl, hl, y⟩, fun v H2 y => ?_⟩
      obtain ⟨f3, d, ed, hd⟩ := w.yld _ i H' v H2 x1 f2' s2.trk hl y
      have s3 : S F H0 (p :: A) (wipeD Δ vs) (L2.wipe σ vs) H2 := (s2.more f3).wipe vs
      obtain ⟨Δ1, eu, k⟩ := step i d acc p ed iv nA
      refine hg F H0 H2 (p :: A) _ Δ1 _ v d s3 hd eu _ fun σ2 s4 hlen hoth => ⟨wipe_eq hj hlen hoth, ?_⟩
      refine k H0 σ2 H2 s4 _ fun bb H4 s6 f6 kb => ?_
      -- what stands at p
      have keepP : ∀ {Ha Hb : Hp}, Fr F.m Ha Hb → ∀ o, Ha p = some o → Hb p = some o := fun f o e => f.keep p o e fun z => nA (s.sub p z)
      have subP : ∀ a ∈ F.m, a ∈ p :: A := fun a h => List.mem_cons_of_mem _ (s.sub a h)
      have f36 : Fr F.m H' H4 := (f3.more fun _ z => nomatch z).trans f6
      cases bb with
      | false =>
        exact iteF ⟨acc, avs, kb.2 rfl, keepP f36 _ hp, hav.mono f36 subP, f2.trans f36, s2.step f36 s6.inv⟩
      | true =>
        refine iteT (kb.1 rfl H0 σ2 H4 s6 _ fun y dy H5 s7 f7 hy ⟨hz, iv'⟩ => ?_)
        have f37 := f36.trans f7
        have hp5 := keepP f37 _ hp
        have hav5 := hav.mono f37 subP
        have s8 : S F H0 (p :: A) Δ σ H5 := s2.step f37 s7.inv
        refine ⟨avs, hp5, by rw [hav.length, sizeLine_eq]; omega, acc ++ [dy], avs ++ [y], iv', upd_same, ?_, ?_, ?_⟩
        · exact (hav5.append (.cons hy .nil)).mono (m := [p]) (.put List.mem_cons_self) fun a h => by rw [List.mem_singleton.mp h]; exact List.mem_cons_self
        · exact ⟨fun a o e nn => by
            rw [upd_ne (ne_of_none e np)]
            exact (f2.trans f37).keep a o e nn, fun a h => (Fr.put (m := [p]) List.mem_cons_self).trk a ((f2.trans f37).trk a h)⟩
        · -- the state with p written
          have fp : Fr [p] H5 (upd H5 p (.lst (avs ++ [y]))) := .put List.mem_cons_self
          have sp : ∀ a ∈ [p], a ∈ p :: A := fun a h => by rw [List.mem_singleton.mp h]; exact List.mem_cons_self
          refine ⟨⟨fun a o e nn => by
            rw [upd_ne (ne_of_none e H0p)]
            exact s8.fr.keep a o e nn, fun a h => fp.trk a (s8.fr.trk a h)⟩, F.loc H5 _ (fun a h => upd_ne fun e => nA (by rw [← e]; exact s.sub a h)) s8.inv, s8.sub, fun a h => fp.trk a (s8.trk a h), s8.len, fun k x e => ?_, s8.apart⟩
          obtain ⟨o, h1, h2⟩ := s8.env k x e
          refine ⟨o, h1, ?_⟩
          cases x with
          | no => trivial
          | d d => obtain ⟨v, e1, h⟩ := h2; exact ⟨v, e1, h.mono fp sp⟩
          | v v => exact h2
          | m t ds =>
            obtain ⟨e1, a1, n1, z1, vs2, h3, q3⟩ := h2
            have ne : t ≠ p := fun z => nA (by rw [← z]; exact hdm k t ds e)
            exact ⟨e1, a1, n1, z1, vs2, by rw [upd_ne ne]; exact h3, q3.mono fp sp⟩
    · have e : i = xs.length := by omega
      subst e
      exact .inl ⟨w.stop _ H' x1 f2', z p avs acc H' s2 (f1.trans f2) (f1.free np) hp hav (fin acc iv)⟩
end

/-! ### what a def promises -/
/-- a def that writes nothing: C of its arguments, R of what it hands back -/
def PF (C : List PyData → Prop) (R : List PyData → PyData → Prop) : Sp := fun vs H Q _ => ∃ A ds, (∀ a ∈ A, H a ≠ none) ∧ DtA H A vs ds ∧ C ds ∧ ∀ v d H', Fr [] H H' → Dt H' A v d → R ds d → Q v H'
section
variable {F : Fm} {A : List Addr} {Δ : List Sl} {K : PySem.W.Frag} {t tk : TA} {q : PyData → Prop} {C : List PyData → Prop} {R : List PyData → PyData → Prop} {E : XK}
theorem ev_callF (h : EvA F A Δ t fun ds => C ds ∧ ∀ d, R ds d → q d) : Ev F A Δ (tCall (PF C R) [] E t) q := fun H0 σ H s Q z =>
  h H0 σ H s _ fun vs ds H1 s1 f1 h1 ⟨c, k⟩ => by
    rw [List.append_nil]
    exact ⟨A, ds, s1.trk, h1, c, fun v d H2 f2 h2 hr => z v d H2 (s1.more f2) (f1.trans (f2.more fun _ z => nomatch z)) h2 (k d hr)⟩
def startD (N : List Str) (ds : List PyData) : List Sl := ds.map Sl.d ++ List.replicate (N.length - ds.length) .no
theorem S.start {N : List Str} {vs : List V} {ds : List PyData} {H : Hp} (i : F.I H) (sub : ∀ a ∈ F.m, a ∈ A) (trk : ∀ a ∈ A, H a ≠ none) (h : DtA H A vs ds) : S F H A (startD N ds) (start N vs) H := by
  have el := h.length
  refine ⟨.refl _, i, sub, trk, ?_, fun k x e => ?_, fun k j t es fs h1 h2 => ?_⟩
  · unfold L2.start startD
    rw [List.length_append, List.length_append, List.length_map, List.length_map, List.length_replicate, List.length_replicate, el]
  · unfold startD at e
    unfold L2.start
    by_cases hk : k < ds.length
    · rw [List.getElem?_append_left (by simpa using hk), List.getElem?_map, List.getElem?_eq_getElem hk] at e
      cases e
      obtain ⟨v, hv, hd⟩ := h.getD (List.getElem?_eq_getElem hk)
      refine ⟨some v, ?_, v, rfl, hd⟩
      rw [List.getElem?_append_left (by rw [List.length_map, el]; exact hk), List.getElem?_map, hv] <;> rfl
    · rw [List.getElem?_append_right (by simpa using hk), List.getElem?_replicate] at e
      split at e
      · cases e
        rename_i hh
        refine ⟨none, ?_, trivial⟩
        rw [List.getElem?_append_right (by rw [List.length_map, el]; omega), List.getElem?_replicate, List.length_map, el, if_pos]
        simpa using hh
      · cases e
  · unfold startD at h1
    by_cases hk : k < ds.length
    · rw [List.getElem?_append_left (by simpa using hk), List.getElem?_map, List.getElem?_eq_getElem hk] at h1
      cases h1
    · rw [List.getElem?_append_right (by simpa using hk), List.getElem?_replicate] at h1
      split at h1 <;> cases h1
/-- a def's body, from its promise -/
theorem enterF {N : List Str} {vs : List V} {H : Hp} {Q : VK} {ts : TS} (h : PF C R vs H Q E) (k : ∀ A ds, C ds → Sq F0 A (startD N ds) ts { nx := fun _ _ => R ds .none, rt := R ds }) : ts { nx := fun _ H' => Q .non H', rt := Q } (start N vs) H := by
  obtain ⟨A, ds, trk, hd, c, z⟩ := h
  have s : S F0 H A (startD N ds) (start N vs) H := .start (F := F0) trivial (fun _ z => nomatch z) trk hd
  refine k A ds c H _ H s _ (fun A' Δ' σ' H' g hr => z _ _ H' g.st.fr .non hr) (fun A' v d H' sub f i dt hr => z v d H' f (dt.less fun a ha => sub a ha (trk a ha)) hr) (fun _ _ _ _ _ h => h.elim) (fun _ _ _ _ _ h => h.elim)
theorem pf_len {C : List PyData → Prop} {R : List PyData → PyData → Prop} {n : Nat} (hc : ∀ ds, C ds → ds.length = n) : ∀ vs H Q E, PF C R vs H Q E → vs.length = n := fun vs H Q E h => by
  obtain ⟨A, ds, _, hd, c, _⟩ := h
  rw [hd.length]
  exact hc ds c
end
end Dl

/-! R1: repr of data -/
namespace Dl
open PySem PySem.Spec PyProof.Rows L2

section
variable {X : Cx} {pins : List (Addr × Obj)} {σ : L2.St} {H : Hp} {s : Shared} {A : List Addr}
mutual
theorem Dt.reads (I : Inv X pins σ H s) : ∀ {d : PyData} {v : V} {u : Value}, Dt H A v d → RelV v u → ∃ as, Reads s.heap u d as ∧ ∀ a ∈ as, H a ≠ none
  | _, _, _, .non, r => by cases r; exact ⟨_, .none, fun _ z => nomatch z⟩
  | _, _, _, .bl b, r => by cases r; exact ⟨_, .bool b, fun _ z => nomatch z⟩
  | _, _, _, .int i, r => by obtain ⟨t, rfl⟩ := r; exact ⟨_, .int i t, fun _ z => nomatch z⟩
  | _, _, _, .str x, r => by obtain ⟨t, rfl⟩ := r; exact ⟨_, .str x t, fun _ z => nomatch z⟩
  | _, _, _, .lst h n t, r => by
    cases r
    obtain ⟨_, its, k, rv, e⟩ := (show ObjOk X.prog X.w H s.heap _ (.lst _) from I.hok _ _ h)
    obtain ⟨as, hr, ha⟩ := DtA.reads I t rv
    refine ⟨_, .list e rfl rfl hr, fun b hb => ?_⟩
    rcases List.mem_cons.mp hb with rfl | hb
    · rw [h]; exact fun z => nomatch z
    · exact ha b hb
  | _, _, _, .tup h n t, r => by
    cases r
    obtain ⟨_, its, rv, o, e, hc, k, hd⟩ := (show ObjOk X.prog X.w H s.heap _ (.tup _) from I.hok _ _ h)
    obtain ⟨as, hr, ha⟩ := DtA.reads I t rv
    exact ⟨_, .tuple e hc hd hr, ha⟩
  | _, _, _, .dct h n, r => by
    cases r
    obtain ⟨_, _, vs, kv, o, es, ep, e, ex, hd, _, hl, _⟩ := (show ObjOk X.prog X.w H s.heap _ (.dK []) from I.hok _ _ h)
    cases kv
    have he : es.toList = [] := by
      cases q : es.toList with
      | nil => rfl
      | cons x r =>
        rw [q] at hl
        cases hl
    refine ⟨_, .dict e ex.1 hd (by rw [he]; exact .nil) (by rw [he]; exact .nil), fun b hb => ?_⟩
    rcases List.mem_cons.mp hb with rfl | hb
    · rw [h]; exact fun z => nomatch z
    · exact nomatch hb
theorem DtA.reads (I : Inv X pins σ H s) : ∀ {ds : List PyData} {vs : List V} {us : List Value}, DtA H A vs ds → Vals vs us → ∃ as, ReadsAll s.heap us ds as ∧ ∀ a ∈ as, H a ≠ none
  | _, _, _, .nil, r => by cases r; exact ⟨_, .nil, fun _ z => nomatch z⟩
  | _, _, _, .cons h t, r => by
    cases r with
    | cons r1 r2 =>
      obtain ⟨as, q1, k1⟩ := Dt.reads I h r1
      obtain ⟨bs, q2, k2⟩ := DtA.reads I t r2
      refine ⟨_, .cons q1 q2, fun b hb => ?_⟩
      rcases List.mem_append.mp hb with hb | hb
      · exact k1 b hb
      · exact k2 b hb
end
end

/-- what a value's repr writes, under whatever runs: the objects that are read are in bs -/
def Told (I : Heap) (P : Program) (w : World) (u : Value) (d : PyData) : Prop := ∃ bs, ReadAtMost I d.depth bs ∧ ReprK P w bs I d.depth u d.shown
def ToldA (I : Heap) (P : Program) (w : World) (us : List Value) (ds : List PyData) : Prop := ∃ bs, ReadAtMost I (PyData.depthAll ds) bs ∧ ReprAllK P w bs I (PyData.depthAll ds) us (PyData.shownAll ds)
theorem told_at {I : Heap} {P : Program} {w : World} {u : Value} {d : PyData} (e : d.depth = 0) (h : ReprIs P w u d.shown) : Told I P w u d := ⟨[], (fun _ z => nomatch z), .of_is h _ _ _⟩
section
variable {X : Cx} {pins : List (Addr × Obj)} {σ : L2.St} {H : Hp} {s : Shared} {A : List Addr}
theorem dict_no {a : Addr} (I : Inv X pins σ H s) (h : H a = some (.dK [])) : (a == sysModules) = false ∧ ∃ o n, s.heap.get? a = some o ∧ o.cls = .type "dict" ∧ o.data = .dict #[] n := by
  obtain ⟨_, ns, vs, kv, o, es, ep, e, ex, hd, _, hl, _⟩ := (show ObjOk X.prog X.w H s.heap _ (.dK []) from I.hok _ _ h)
  cases kv
  have he : es = #[] := by
    obtain ⟨l⟩ := es
    cases l with
    | nil => rfl
    | cons x r => cases hl
  subst he
  exact ⟨ns, o, ep, e, ex.1, hd⟩
mutual
theorem Dt.told (I : Inv X pins σ H s) : ∀ {d : PyData} {v : V} {u : Value}, Dt H A v d → RelV v u → d.showable = true → d.shown.length ≤ sizeLine → Told s.heap X.prog X.w u d
  | _, _, _, .non, r, _, _ => by cases r; exact told_at rfl (by simpa only [PyData.shown] using ReprIs.none)
  | _, _, _, .bl b, r, _, _ => by cases r; exact told_at rfl (by simpa only [PyData.shown] using ReprIs.bool b)
  | _, _, _, .int i, r, sh, _ => by
    obtain ⟨t, rfl⟩ := r
    exact told_at rfl (by simpa only [PyData.shown] using ReprIs.int t (by simpa [PyData.showable] using sh))
  | _, _, _, .str x, r, _, sz => by
    obtain ⟨t, rfl⟩ := r
    exact told_at rfl (by simpa only [PyData.shown] using ReprIs.str x t (by simpa only [PyData.shown] using sz))
  | .list ds, _, u, .lst (a := a) h n t, r, sh, sz => by
    have sz' : (listText (PyData.shownAll ds)).length ≤ sizeLine := by simpa only [PyData.shown] using sz
    obtain ⟨as, rd, _⟩ := Dt.reads I (.lst h n t) r
    cases r
    obtain ⟨_, its, k, rv, e⟩ := (show ObjOk X.prog X.w H s.heap _ (.lst _) from I.hok _ _ h)
    obtain ⟨bs, hb, hk⟩ := DtA.told I t rv (by simpa [PyData.showable] using sh) fun y hy => Nat.le_trans (listText_mem_le hy) sz'
    have out : a ∉ bs := not_mem_of_deeper rd (by simp only [PyData.depth]; omega) hb
    refine ⟨a :: bs, .cons rd (by simp only [PyData.depth]; omega) hb, ?_⟩
    simp only [PyData.depth, PyData.shown]
    cases its with
    | nil =>
      cases rv
      cases t
      simp only [PyData.shownAll, listText_nil]
      exact .listEmpty e rfl rfl
    | cons y l => exact .list e rfl rfl out (by simpa using hk.length_eq) fun i z ez => hk.item i z (by simpa using ez)
  | .tuple ds, _, u, .tup (a := a) h n t, r, sh, sz => by
    have sz' : (tupleText (PyData.shownAll ds)).length ≤ sizeLine := by simpa only [PyData.shown] using sz
    obtain ⟨as, rd, _⟩ := Dt.reads I (.tup h n t) r
    cases r
    obtain ⟨_, its, rv, o, e, hc, k, hd⟩ := (show ObjOk X.prog X.w H s.heap _ (.tup _) from I.hok _ _ h)
    obtain ⟨bs, hb, hk⟩ := DtA.told I t rv (by simpa [PyData.showable] using sh) fun y hy => Nat.le_trans (tupleText_mem_le hy) sz'
    have out : a ∉ bs := not_mem_of_deeper rd (by simp only [PyData.depth]; omega) hb
    refine ⟨a :: bs, .cons rd (by simp only [PyData.depth]; omega) hb, ?_⟩
    simp only [PyData.depth, PyData.shown]
    exact .tuple e hc hd out hk
  | _, _, _, .dct (a := a) h n, r, sh, sz => by
    obtain ⟨as, rd, _⟩ := Dt.reads I (.dct h n) r
    cases r
    obtain ⟨ns, o, k, e, hc, hd⟩ := dict_no I h
    refine ⟨[a], .cons (n := 0) rd (Nat.zero_le _) fun _ z => (nomatch z), ?_⟩
    simp only [PyData.depth, PyData.depthKv, PyData.shown, PyData.shownKv]
    exact .dict e hc hd ns (fun z => nomatch z) .nil
theorem DtA.told (I : Inv X pins σ H s) : ∀ {ds : List PyData} {vs : List V} {us : List Value}, DtA H A vs ds → Vals vs us → PyData.showableAll ds = true → (∀ y ∈ PyData.shownAll ds, y.length ≤ sizeLine) → ToldA s.heap X.prog X.w us ds
  | _, _, _, .nil, r, _, _ => by
    cases r
    exact ⟨[], (fun _ z => nomatch z), by simp only [PyData.shownAll]; exact .nil⟩
  | d :: ds, _, _, .cons h t, r, sh, sz => by
    cases r with
    | cons r1 r2 =>
      simp only [PyData.showableAll, Bool.and_eq_true] at sh
      simp only [PyData.shownAll, List.mem_cons] at sz
      obtain ⟨b1, m1, k1⟩ := Dt.told I h r1 sh.1 (sz _ (.inl rfl))
      obtain ⟨b2, m2, k2⟩ := DtA.told I t r2 sh.2 fun y hy => sz y (.inr hy)
      have le1 : d.depth ≤ PyData.depthAll (d :: ds) := by simp only [PyData.depthAll]; omega
      have le2 : PyData.depthAll ds ≤ PyData.depthAll (d :: ds) := by simp only [PyData.depthAll]; omega
      refine ⟨b1 ++ b2, (m1.mono le1).append (m2.mono le2), ?_⟩
      simp only [PyData.shownAll]
      exact .cons ((k1.more fun b hb => List.mem_append_left _ hb).level_le le1) (k2.more_le (fun b hb => List.mem_append_right _ hb) le2)
end
end

def rRep : List V → Hp → VK → Prop := fun xs H Q => ∃ v d A, xs = [v] ∧ Dt H A v d ∧ d.showable = true ∧ d.depth ≤ 60 ∧ d.shown.length ≤ sizeLine ∧ Q (.str d.shown) H
theorem call_repD {X : Cx} (hg : X.A.guards = some []) (hu : X.A.units + 64 < cLine) : CallR X (.builtin "repr") rRep := by
  intro pins s σ H xs us Q I r h
  obtain ⟨v, d, A, rfl, hd, sh, dp, sz, q⟩ := h
  obtain ⟨u, rfl, ru⟩ := vals1 r
  cases hd with
  | non => cases ru; exact PySem.P.repr_of_none ⟨.str _, H, I.tok _, ⟨_, rfl⟩, q⟩
  | bl b => cases ru; exact PySem.P.repr_of_bool ⟨.str _, H, I.tok _, ⟨_, rfl⟩, (by simpa only [PyData.shown] using q)⟩
  | int i =>
    obtain ⟨t, rfl⟩ := ru
    have hz : i.natAbs.log2 < 1920 := of_decide_eq_true (by simpa only [PyData.showable] using sh)
    exact PySem.P.repr_of_int hz ⟨.str _, H, I.tok _, ⟨_, rfl⟩, (by simpa only [PyData.shown] using q)⟩
  | str x =>
    obtain ⟨t, rfl⟩ := ru
    exact PySem.P.repr_of_str ⟨.str _, H, I.tok _, ⟨_, rfl⟩, (by simpa only [PyData.shown] using q)⟩ (by simpa only [PyData.shown] using sz)
  | @lst a xs ds hh n t =>
    obtain ⟨as, rd, _⟩ := Dt.reads I (.lst hh n t) ru
    cases ru
    obtain ⟨_, its, k, rv, e⟩ := (show ObjOk X.prog X.w H s.heap _ (.lst _) from I.hok _ _ hh)
    have sz' : (listText (PyData.shownAll ds)).length ≤ sizeLine := by simpa only [PyData.shown] using sz
    obtain ⟨bs, hb, hk⟩ := DtA.told I t rv (by simpa [PyData.showable] using sh) fun y hy => Nat.le_trans (listText_mem_le hy) sz'
    have out : a ∉ bs := not_mem_of_deeper rd (by simp only [PyData.depth]; omega) hb
    simp only [PyData.depth] at dp
    simp only [PyData.shown] at q
    refine call_repr_slot (by omega) ⟨_, e, rfl⟩ F.slot_list_repr.toG ?_
    cases its with
    | nil =>
      cases rv
      cases t
      simp only [PyData.shownAll, listText_nil] at q
      exact call_list_repr_empty ⟨_, e, rfl⟩ e rfl ⟨_, _, rfl, .str _, H, I.tok _, ⟨_, rfl⟩, q⟩
    | cons y l =>
      exact call_list_reprK e rfl rfl out (by simpa using hk.length_eq) (fun i z ez => hk.item i z (by simpa using ez)) hg (fun b _ => Clear.nil b) (by show X.A.units + 1 + _ < cLine; omega) (fun _ _ e => e)
        (fun h' u tk kk => ⟨_, _, rfl, .str _, H, I.kept (t' := tk) kk, ⟨_, rfl⟩, q⟩) sz'
  | @tup a xs ds hh n t =>
    obtain ⟨as, rd, _⟩ := Dt.reads I (.tup hh n t) ru
    cases ru
    obtain ⟨_, its, rv, o, e, hc, k, hdt⟩ := (show ObjOk X.prog X.w H s.heap _ (.tup _) from I.hok _ _ hh)
    have sz' : (tupleText (PyData.shownAll ds)).length ≤ sizeLine := by simpa only [PyData.shown] using sz
    obtain ⟨bs, hb, hk⟩ := DtA.told I t rv (by simpa [PyData.showable] using sh) fun y hy => Nat.le_trans (tupleText_mem_le hy) sz'
    have out : a ∉ bs := not_mem_of_deeper rd (by simp only [PyData.depth]; omega) hb
    simp only [PyData.depth] at dp
    simp only [PyData.shown] at q
    refine call_repr_slot (by omega) ⟨_, e, hc⟩ F.slot_tuple_repr ?_
    exact call_tuple_reprK e hc hdt out hk hg (fun b _ => Clear.nil b) (by show X.A.units + 1 + _ < cLine; omega) (fun _ _ e => e)
      (fun h' u tk kk => ⟨_, _, rfl, .str _, H, I.kept (t' := tk) kk, ⟨_, rfl⟩, q⟩) sz'
  | @dct a hh n =>
    cases ru
    obtain ⟨ns, o, k, e, hc, hdt⟩ := dict_no I hh
    simp only [PyData.shown, PyData.shownKv] at q sz
    refine call_repr_slot (by omega) ⟨_, e, hc⟩ F.slot_dict_repr ?_
    exact call_dict_reprK (d := 0) (as := []) e hc hdt ns (fun z => nomatch z) .nil hg (fun b _ => Clear.nil b) (by show X.A.units + 1 + (0 + 1) < cLine; omega) (fun _ _ e => e)
      (fun h' u tk kk => ⟨_, _, rfl, .str _, H, I.kept (t' := tk) kk, ⟨_, rfl⟩, q⟩) sz
section
variable {F : Fm} {A : List Addr} {Δ : List Sl} {t : TA} {q : PyData → Prop}
/-- a text of it can be had -/
def Shw (d : PyData) : Prop := d.showable = true ∧ d.depth ≤ 60 ∧ d.shown.length ≤ sizeLine
theorem ev_repr (h : EvA F A Δ t fun ds => ∃ d, ds = [d] ∧ Shw d ∧ q (.str d.shown)) : Ev F A Δ (tCB rRep t) q := fun H0 σ H s Q z =>
  h H0 σ H s _ fun vs ds H1 s1 f1 h1 ⟨d, e1, sh, k⟩ => by
    subst e1
    cases h1 with
    | cons hd ht =>
      cases ht
      exact ⟨_, d, A, rfl, hd, sh.1, sh.2.1, sh.2.2, z _ _ H1 s1 f1 (.str _) k⟩
end
end Dl

/-! R2: enumerate of a tuple, a tuple times one, calls by keywords alone -/
namespace Dl
open PySem PySem.Spec PyProof.Rows L2
open AutoSeq1 (wpAny_loadPart')

/-! ### enumerate(t) -/
theorem enum_new_tup (l : Addr) (items : Array Value) (n : Nat) (dct : Option Addr) (sl : Array (Option Value)) :
    Meets (Builtin.«enumerate.__new__» ⟨[.type "enumerate", .ref l], []⟩) (fun _ R s => s.heap.get? l = some { cls := .type "tuple", dict := dct, data := .seq items n, slots := sl } ∧
      R (.ok (.ret (.ref (s.heap.push { cls := .type "tuple_iterator", data := .fields #[.ref l, .int 0 0] }).objs.size)))
        { s with heap := (s.heap.push { cls := .type "tuple_iterator", data := .fields #[.ref l, .int 0 0] }).push { cls := .type "enumerate", data := .fields #[.none, .bool false, .ref s.heap.objs.size, rawInt 0, .none, .none] } }) :=
  .of_wp fun prog w A R s h => by
    obtain ⟨hp, g, d, tk, os⟩ := s
    obtain ⟨hl, h⟩ := h
    have sub := sub_enumerate
    have hT : Heap.IsTuple (Shared.heap ⟨hp, g, d, tk, os⟩) l items := ⟨_, hl, rfl, n, rfl⟩
    wp_walk using wpAny_loadPart' hl
    refine wpAny_stack_any fun _ => wpAny_pure ?_
    split
    · rename_i c _ _ _ _ _
      cases (c == Value.type "enumerate") <;> (wp_walk using wpAny_loadPart' hl, wpAny_pyIter_tuple hT; exact ⟨_, rfl, h⟩)
    · wp_walk using wpAny_loadPart' hl, wpAny_pyIter_tuple hT
      exact ⟨_, rfl, h⟩
section
variable {prog : Program} {w : World} {A : Around} {E : Value → Shared → Prop} {s : Shared}
theorem call_enum_tup {l : Addr} {items : Array Value} {Q : Value → Shared → Prop} (hT : s.heap.IsTuple l items)
    (h : ∀ h', IsEnum h' (s.heap.objs.size + 1) s.heap.objs.size 0 .none → h'.IsTupleIter s.heap.objs.size l 0 → h'.objs.size = s.heap.objs.size + 2 →
      (∀ b o, s.heap.get? b = some o → h'.get? b = some o) → Q (.ref (s.heap.objs.size + 1)) { s with heap := h' }) :
    wpAny (model prog w) A (call (.type "enumerate") [.ref l]) Q E s := by
  obtain ⟨⟨c, dct, dt, sl⟩, hl, rfl, n, rfl⟩ := hT
  refine callType_new F.called_enumerate (by decide) (F.typeCall_enumerate_1 _) (F.newCall_enumerate_1 _) (fun obj => F.args_object_init_2 obj _) F.entry_enumerate_new (enum_new_tup l items n dct sl) ⟨hl, ?_⟩
  show _ ∧ _
  have z : (s.heap.push { cls := .type "tuple_iterator", data := .fields #[.ref l, .int 0 0] }).objs.size = s.heap.objs.size + 1 := Heap.size_push ..
  rw [z]
  have at1 := Heap.get?_push_size (s.heap.push { cls := .type "tuple_iterator", data := .fields #[.ref l, .int 0 0] }) (o := { cls := .type "enumerate", data := .fields #[.none, .bool false, .ref s.heap.objs.size, rawInt 0, .none, .none] }) rfl
  rw [z] at at1
  exact ⟨⟨_, at1, rfl⟩, h _ at1 ⟨_, Heap.get?_push_of_some _ (Heap.get?_push_size _ rfl), rfl, rfl⟩ (by rw [Heap.size_push, z]) fun b o x => Heap.get?_push_of_some _ (Heap.get?_push_of_some _ x)⟩
end
/-- the tuple at a, each item in a new pair -/
def IteT (K : PySem.W.Frag) (a : Addr) : It :=
  ⟨fun i H => ∃ (xs : List V) (x : V), SqT K H a xs ∧ xs[i]? = some x, fun i H v H' => ∃ T x, v = .ref T ∧ H T = none ∧ H' = upd H T (.tup [.int (i : Nat), x]) ∧ ∀ xs, SqT K H a xs → xs[i]? = some x, fun i H => ∃ xs : List V, SqT K H a xs ∧ xs.length ≤ i⟩
theorem tup_apart {h : Heap} {a it : Addr} {items : Array Value} {i : Nat} (p : h.IsTuple a items) (q : h.IsTupleIter it a i) : a ≠ it := fun e => by
  obtain ⟨o, ho, hc, _⟩ := p
  obtain ⟨o', ho', hc', _⟩ := q
  rw [e, ho'] at ho
  cases ho
  rw [hc'] at hc
  exact absurd hc (by decide)
theorem turn_enumT {P : Program} {w : World} {K : PySem.W.Frag} {elts : List Expr} {kk : Nat} {tpos : Pos} (a e it : Addr) :
    Turn P w K (.Tuple elts kk tpos) (IteT K a) [e, it] e (fun i h => (∃ old, IsEnum h e it ((i : Nat) : Int) old) ∧ h.IsTupleIter it a i ∧ e ≠ it) where
  mem := List.mem_cons_self
  obj := fun i h ⟨⟨old, he⟩, ⟨o, ho, _, hd⟩, _⟩ b hb => by
    rcases List.mem_cons.mp hb with rfl | hb
    · exact ⟨_, he, fun v q => nomatch q⟩
    · obtain rfl := List.mem_singleton.mp hb
      exact ⟨o, ho, fun v q => by rw [hd] at q; cases q⟩
  keep := fun i h h' ⟨⟨old, he⟩, hi, hne⟩ k => ⟨⟨old, k e List.mem_cons_self _ he⟩, hi.at fun o q => k it (List.mem_cons_of_mem _ List.mem_cons_self) o q, hne⟩
  item := by
    intro X hP hw hK hc i pins s σ H E I hf st hg
    subst hP hw hK
    obtain ⟨⟨old, he⟩, hit, hne⟩ := st
    obtain ⟨xs, x, hq, hx⟩ := hg
    obtain ⟨its, rv, p, hz⟩ := I.tuple hq
    obtain ⟨u, hu, ru⟩ := rv.get hx
    have il : i < its.length := (List.getElem?_eq_some_iff.mp hu).1
    have le : e < s.heap.objs.size := Heap.lt_size he
    have lt : it < s.heap.objs.size := by
      obtain ⟨_, q, _⟩ := hit
      exact Heap.lt_size q
    have ea : e ∉ [it, a] := fun z => by
      rcases List.mem_cons.mp z with z | z
      · exact hne z
      · have z := List.mem_singleton.mp z
        obtain ⟨o, ho, hc', _⟩ := p
        rw [← z, he] at ho
        cases ho
        exact absurd hc' (show ¬ (Value.type "enumerate" = Value.type "tuple") by decide)
    refine wpAny_pyNext_enum_itemD (Draws.tuple (A := X.A.in1) (I.ok.hd hc) it a (tup_apart p hit) its.toArray) he ⟨hit, p⟩ (by simpa using il) hne ea fun y h' tk ey ho st' hT hsz hk => ?_
    have ey' : y = u := by
      have e1 : its[i]? = some y := by simpa using ey
      rw [hu] at e1
      exact (Option.some.inj e1).symm
    subst ey'
    refine ⟨_, rfl, wpAny_letOwnedTupleGo_enum (s := { s with heap := h', toks := tk + 1 }) ho fun h'' he' sb => ?_⟩
    have hT2 : h''.get? s.heap.objs.size = some { cls := .type "tuple", data := .seq #[.int i tk, y] } := (sb.2 _ (Nat.ne_of_gt le)).trans hT
    have new : ObjOk X.prog X.w (upd H s.heap.objs.size (.tup [.int (i : Nat), x])) h'' s.heap.objs.size (.tup [.int (i : Nat), x]) :=
      ⟨by show 2 ≤ sizeLine; decide, [.int i tk, y], .cons ⟨_, rfl⟩ (.cons ru .nil), ⟨_, hT2, rfl, _, rfl⟩⟩
    have nm : ∀ {b : Addr}, b ∉ [e, it] → b ≠ e ∧ b ≠ it := fun hb => ⟨fun z => hb (by rw [z]; exact List.mem_cons_self), fun z => hb (by rw [z]; exact List.mem_cons_of_mem _ List.mem_cons_self)⟩
    have I1 : Inv X pins σ (upd H s.heap.objs.size (.tup [.int (i : Nat), x])) { s with heap := h'', toks := tk + 1 } :=
      I.turnedNew (ch := [e, it]) (fun b ob hb q => (sb.2 b (nm hb).1).trans (hk b ob (nm hb).1 (nm hb).2 q)) hf (Nat.le_refl _) new
    refine ⟨.ref s.heap.objs.size, _, I1, rfl, ⟨_, x, rfl, I.hok.fresh (Nat.le_refl _), rfl, fun ys hy => ?_⟩, ⟨⟨y, ?_⟩, st'.1.at fun o q => (sb.2 it (Ne.symm hne)).trans q, hne⟩, fun b hb => ?_⟩
    · rw [show ys = xs from I.tuple_inj hy hq]
      exact hx
    · rw [show ((i + 1 : Nat) : Int) = (i : Int) + 1 by omega]
      exact he'
    · have hb' : b < s.heap.objs.size := by
        rcases List.mem_cons.mp hb with rfl | hb
        · exact le
        · obtain rfl := List.mem_singleton.mp hb
          exact lt
      rw [upd_ne (Nat.ne_of_lt hb')]
      exact (hf b hb).1
  done := by
    intro X hP hw hK hc i pins s σ H E I hf st hg
    subst hP hw hK
    obtain ⟨⟨old, he⟩, hit, hne⟩ := st
    obtain ⟨xs, hq, hx⟩ := hg
    obtain ⟨its, rv, p, hz⟩ := I.tuple hq
    obtain ⟨f0, f1, f2, f3, f4, f5⟩ := hf it (List.mem_cons_of_mem _ List.mem_cons_self)
    have hl := rv.length
    unfold pyNext
    have hT : s.TypeIs (.ref e) "enumerate" := ⟨_, he, rfl⟩
    refine wpAny_bind (wpAny_attempt (wpAny_callSpecial?_slot (name := Str.ofString "__next__") hT F.slot_enumerate_next (wpAny_call_entry F.slot_enumerate_next hT F.entry_enumerate_next ?_ (F.args_enumerate_next_1 _))))
    show wpAny _ _ (field (.ref e) 2 >>= _) _ _ _
    refine wpAny_bind (wpAny_field he rfl (x := .ref it) rfl (wpAny_bind (wpAny_nextOf_tuple_end (I.ok.hd hc) hit p (by simp; omega) fun h' x eb ⟨o, ho, hc'⟩ => ?_)))
    exact wpAny_bind (wpAny_isInstance (T := "StopIteration") (b := true) ⟨o, ho, hc'⟩ isSubtype_stop (wpAny_pure ⟨rfl, I.turned (t' := s.toks) (fun b o hb q => eb b o hb q) f0 f1 f3 f4 f5⟩))
  self := fun A i s Q E ⟨⟨_, he⟩, _⟩ h => wpAny_pyIter_enum he h
def iEnumT (K : PySem.W.Frag) (ta : TA) : TI := fun σ H R => ta σ H fun vs H1 => ∃ a xs, vs = [.ref a] ∧ SqT K H1 a xs ∧ R (IteT K a) H1
theorem pi_enumT {X : Cx} {e : Expr} {ta : TA} {p pos tpos : Pos} {elts : List Expr} {kk : Nat} (hg : Gl X "enumerate") (hm : X.mg "enumerate" = none) (ha : PA X [e] ta) (hs : starEach [e] X.env = [(false, eval e X.env)] := by rfl) :
    PI X (.Tuple elts kk tpos) (.Call (.Name "enumerate" p) [e] [] pos) (iEnumT X.K ta) := by
  refine ⟨fun pins s σ H R I h => Call_ (ld_blt I hg hm boot_enumerate (PyProof.Rows.callWith_type1 (thn (ha.run pos pins s σ H _ I h) fun us s1 ⟨vs, H1, I1, r1, a, xs, ex, hq, q⟩ => ?_) hs rfl))⟩
  subst ex
  cases r1 with
  | cons r rr =>
    cases rr
    cases r
    obtain ⟨its, rv, p', hz⟩ := I1.tuple hq
    refine call_enum_tup p' fun h' he hit hsz hk => wpAny_pyIter_enum he ?_
    refine ⟨s1.heap.objs.size + 1, [s1.heap.objs.size + 1, s1.heap.objs.size], _, _, H1, rfl, I1.kept (t' := s1.toks) hk, turn_enumT a _ _, ⟨⟨.none, he⟩, hit, Nat.succ_ne_self _⟩, fun b hb => ?_, q⟩
    have hle : s1.heap.objs.size ≤ b := by
      rcases List.mem_cons.mp hb with rfl | hb
      · exact Nat.le_succ _
      · rw [List.mem_singleton.mp hb]
        exact Nat.le_refl _
    exact I1.fpOk hle (I1.hok.fresh hle)
end Dl

/-! R3: a tuple times a number from 1 on, calls by keywords alone, a law's def that may say repr, the law's end -/
namespace Dl
open PySem PySem.Spec PyProof.Rows L2
open AutoSeq1 (wpAny_loadPart')

/-! ### t * 1 -/
theorem tup_once (l : Addr) (items : Array Value) (n : Nat) (dd : Option Addr) (sl : Array (Option Value)) (u : Tok) :
    Meets (Builtin.«tuple.__mul__» ⟨[.ref l, .int 1 u], []⟩) (fun _ R s => s.heap.get? l = some { cls := .type "tuple", dict := dd, data := .seq items n, slots := sl } ∧ R (.ok (.ret (Value.ref l))) s) :=
  .of_wp fun prog w A R s h => by
    obtain ⟨hp, g, d, tk, os⟩ := s
    obtain ⟨hl, h⟩ := h
    have f1 := AutoSeq1.idx_int
    wp_walk using wpAny_loadPart' hl
    repeat (first
      | (refine wpAny_ite_false (decide_eq_false (by decide)) ?_; wp_walk using wpAny_loadPart' hl)
      | (refine wpAny_ite_true (decide_eq_true (by rw [show ((1 : Int) == 1) = true from rfl, Bool.or_true])) ?_; wp_walk using wpAny_loadPart' hl))
    exact ⟨_, rfl, h⟩
def rRepA (K : PySem.W.Frag) : R2 := fun x y H Q => ∃ l k xs, x = .ref l ∧ y = .int k ∧ SqT K H l xs ∧ xs ≠ [] ∧ 1 ≤ k ∧ k ≤ 1000 ∧ xs.length ≤ 1000 ∧ (k = 1 → Q (.ref l) H) ∧ (2 ≤ k → ∀ p, H p = none → Q (.ref p) (upd H p (.tup (List.replicate k.toNat xs).flatten)))
theorem op_repA {X : Cx} : OpR X (binaryOp .Mult) (rRepA X.K) := by
  intro pins s σ H x y v u Q I rx ry h
  obtain ⟨l, k, xs, rfl, rfl, hT, hne, h1, h2, hz, q1, q2⟩ := h
  by_cases e : k = 1
  · subst e
    cases rx
    obtain ⟨t, rfl⟩ := ry
    obtain ⟨its, r, ⟨⟨cls, dd, data, sl⟩, ho, rfl, n, rfl⟩, hs⟩ := I.tuple hT
    refine wpAny_binaryOp_repeat_ref (T := "tuple") (U := "int") (by decide) ⟨_, ho, rfl⟩ (fun s' => typeIs_int s' 1 t) noFill_tuple_mul F.fills_int_mul F.slot_int_rmul repeat_tuple F.slot_int_index.lookup
      (call_meets F.slot_int_rmul (typeIs_int s 1 t) F.entry_int_rmul (F.args_int_rmul_2 _ _) (int_rmul_tuple 1 t l its.toArray n dd sl)
        ⟨ho, rfl, ⟨_, ho, rfl⟩, call_meets F.slot_tuple_mul ⟨_, ho, rfl⟩ F.entry_tuple_mul (F.args_tuple_mul_2 _ _) (tup_once l its.toArray n dd sl t) ⟨ho, .ref l, H, I, rfl, q1 rfl⟩⟩)
  · exact op_repT pins s σ H _ _ v u Q I rx ry ⟨l, k, xs, rfl, rfl, hT, hne, by omega, h2, hz, q2 (by omega)⟩
section
variable {F : Fm} {A : List Addr} {Δ : List Sl} {K : PySem.W.Frag} {ta tb : TE} {t : TA} {q : PyData → Prop}
theorem ev_repT (h : Ev F A Δ ta fun d1 => Ev F A Δ tb fun d2 => ∃ es k, d1 = .tuple es ∧ d2 = .int k ∧ es ≠ [] ∧ 1 ≤ k ∧ k ≤ 1000 ∧ es.length ≤ 1000 ∧ q (.tuple (List.replicate k.toNat es).flatten)) : Ev F A Δ (tOp (rRepA K) ta tb) q :=
  ev_op h fun H0 σ H x y d1 d2 s h1 h2 ⟨es, k, e1, e2, ne, k1, k2, l, hq⟩ Q z => by
    subst e1 e2
    cases h2
    cases h1 with
    | tup a1 n1 t1 =>
      refine ⟨_, k, _, rfl, rfl, .of a1, fun e => ?_, k1, k2, by rw [t1.length]; exact l, fun e => ?_, fun e p hp => ?_⟩
      · subst e
        cases t1
        exact ne rfl
      · subst e
        have e : (List.replicate (1 : Int).toNat es).flatten = es := List.append_nil es
        rw [e] at hq
        exact z _ _ H s (.refl _) (.tup a1 n1 t1) hq
      · exact z _ _ _ (s.laid hp) (.new hp) (.newT hp s.trk (t1.rep _)) hq
/-! ### enumerate -/
theorem enum_get {xs : List PyData} {i : Nat} {d : PyData} (h : xs[i]? = some d) : (enumD xs)[i]? = some (.tuple [.int (i : Nat), d]) := by
  unfold enumD
  rw [List.getElem?_mapIdx, h] <;> rfl
theorem enum_len (xs : List PyData) : (enumD xs).length = xs.length := List.length_mapIdx
theorem enum_inv {xs : List PyData} {i : Nat} {e : PyData} (h : (enumD xs)[i]? = some e) : ∃ d, xs[i]? = some d ∧ e = .tuple [.int (i : Nat), d] := by
  unfold enumD at h
  rw [List.getElem?_mapIdx] at h
  cases q : xs[i]? with
  | none => rw [q] at h; cases h
  | some d => rw [q] at h; cases h; exact ⟨d, rfl, rfl⟩
theorem evi_enumT {q : List PyData → Prop} (h : EvA F A Δ t fun ds => ∃ xs, ds = [.tuple xs] ∧ q (enumD xs)) : EvI F A Δ (iEnumT K t) q := fun H0 σ H s R z =>
  h H0 σ H s _ fun vs ds H1 s1 f1 h1 ⟨xs, e, k⟩ => by
    subst e
    cases h1 with
    | cons hd ht =>
      cases ht
      cases hd with
      | tup hh n t =>
        refine ⟨_, _, rfl, .of hh, z _ (enumD xs) H1 s1 f1 ⟨fun B i H' x f hi => ?_, fun B H' x f => ?_, fun B i H' v H'' x f tr hi y => ?_⟩ k⟩
        · rw [enum_len, ← t.length] at hi
          exact ⟨_, _, .of (frB x f n hh), List.getElem?_eq_getElem hi⟩
        · exact ⟨_, .of (frB x f n hh), by rw [enum_len, t.length]; exact Nat.le_refl _⟩
        · obtain ⟨T, w, rfl, nT, rfl, y⟩ := y
          obtain ⟨d, ed, hd⟩ := (dtB x f t).get (y _ (.of (frB x f n hh)))
          exact ⟨.new nT, _, enum_get ed, .newT nT tr (.cons (.int _) (.cons hd .nil))⟩
theorem evi_enumL {q : List PyData → Prop} (h : EvA F A Δ t fun ds => ∃ xs, ds = [.list xs] ∧ q (enumD xs)) : EvI F A Δ (iEnum K t) q := fun H0 σ H s R z =>
  h H0 σ H s _ fun vs ds H1 s1 f1 h1 ⟨xs, e, k⟩ => by
    subst e
    cases h1 with
    | cons hd ht =>
      cases ht
      cases hd with
      | lst hh n t =>
        refine ⟨_, _, rfl, .of hh, z _ (enumD xs) H1 s1 f1 ⟨fun B i H' x f hi => ?_, fun B H' x f => ?_, fun B i H' v H'' x f tr hi y => ?_⟩ k⟩
        · rw [enum_len, ← t.length] at hi
          exact ⟨_, _, .of (frB x f n hh), List.getElem?_eq_getElem hi⟩
        · exact ⟨_, .of (frB x f n hh), by rw [enum_len, t.length]; exact Nat.le_refl _⟩
        · obtain ⟨T, w, rfl, nT, rfl, y⟩ := y
          obtain ⟨d, ed, hd⟩ := (dtB x f t).get (y _ (.of (frB x f n hh)))
          exact ⟨.new nT, _, enum_get ed, .newT nT tr (.cons (.int _) (.cons hd .nil))⟩
end
/-- for i, x in enumerate(own list): it stands as it is through the loop -/
theorem sq_forEnumM {F : Fm} {A : List Addr} {Δ : List Sl} {K : PySem.W.Frag} {g : TG} {tb : TS} {E : En} {u : PyData → List Sl → Option (List Sl)} {js : List Nat} {k : Nat} {t : Addr} {ds : List PyData} (hg : TgD g u js) (hk : Δ[k]? = some (.m t ds)) (Inv : Nat → List Sl → Prop) (i0 : Inv 0 Δ)
    (hm : ∀ i Δ', Inv i Δ' → Δ'[k]? = some (.m t ds))
    (step : ∀ i d Δ', ds[i]? = some d → Inv i Δ' → (∀ (k : Nat) t es, Δ'[k]? = some (Sl.m t es) → t ∈ A) → ∃ Δ1, u (.tuple [.int (i : Nat), d]) Δ' = some Δ1 ∧ Sq F A Δ1 tb { nx := Back A (Inv (i + 1)), rt := E.rt, bk := E.nx, ct := Back A (Inv (i + 1)) })
    (fin : ∀ Δ', Inv ds.length Δ' → E.nx A Δ') : Sq F A Δ (tFor (iEnum K (tCons (tVar k) tNil)) g tb) E := fun H0 σ H s D n r b c => by
  obtain ⟨o, ho, e0, tA, tm, t0, vs, ht, hv⟩ := s.env k _ hk
  subst e0
  refine ⟨_, ho, t, vs, rfl, .of ht, fun i m σ' H' => m = ds.length - i ∧ i ≤ ds.length ∧ ∃ Δ', Inv i Δ' ∧ Go F H0 A H A Δ' σ' H', ⟨_, rfl, Nat.zero_le _, Δ, i0, .refl s⟩, ?_⟩
  rintro i m σ' H' ⟨rfl, hi, Δ', iv, g0⟩
  have s2 := g0.st
  obtain ⟨o2, _, _, _, _, _, vs2, ht2, hv2⟩ := s2.env k _ (hm i Δ' iv)
  by_cases hl : i < ds.length
  · have hl2 : i < vs2.length := by rw [hv2.length]; exact hl
    refine .inr ⟨⟨vs2, vs2[i], .of ht2, List.getElem?_eq_getElem hl2⟩, fun σ3 H3 => ∃ Δ3, Inv (i + 1) Δ3 ∧ Go F H0 A H A Δ3 σ3 H3, fun σ3 H3 z => ⟨ds.length - (i + 1), by omega, rfl, hl, z⟩, fun v H2 y => ?_⟩
    obtain ⟨T, w, rfl, nT, rfl, y⟩ := y
    obtain ⟨d, ed, hd⟩ := hv2.get (y _ (.of ht2))
    obtain ⟨Δ1, eu, kk⟩ := step i d Δ' ed iv fun _ _ _ e => s2.mem e
    have f3 : Fr [] H' (upd H' T (.tup [.int (i : Nat), w])) := .new nT
    refine hg F H0 _ A Δ' Δ1 σ' _ _ (s2.more f3) (.newT nT s2.trk (.cons (.int _) (.cons hd .nil))) eu _ fun σ2 s4 _ _ => ?_
    have gs : Go F H0 A H' A Δ1 σ2 _ := .of s4 (f3.more fun _ z => nomatch z)
    have nxt : ∀ A' Δ2 σ4 H4, Go F H0 A _ A' Δ2 σ4 H4 → Back A (Inv (i + 1)) A' Δ2 → ∃ Δ3, Inv (i + 1) Δ3 ∧ Go F H0 A H A Δ3 σ4 H4 := fun A' Δ2 σ4 H4 g2 ⟨Δ3, wk, hm', iv'⟩ =>
      ⟨Δ3, iv', .of ((g2.st.weak wk).cut g2.sub s.sub hm') ((g0.trans gs).trans g2).fr⟩
    exact kk H0 σ2 _ s4 _ nxt r (fun A2 Δ2 σ4 H4 g2 q2 => n A2 Δ2 σ4 H4 ((g0.trans gs).trans g2) q2) nxt
  · have e : i = ds.length := by omega
    subst e
    exact .inl ⟨⟨vs2, .of ht2, by rw [hv2.length]; exact Nat.le_refl _⟩, n A Δ' σ' H' g0 (fin Δ' iv)⟩

/-! ### f(k = v, ..) -/
section
variable {X : Cx} {CX : CXT} {k : Nat} {f : Addr} {fd : FuncData} {ps ks : List Str} {sp : Sp} {E : XK} {x : Str} {p pos : Pos} {kws : List Keyword} {tk : TA} {g : List Value → List Value → List Value} {gV : List V → List V → List V}
theorem pe_callK0 (G : FnOk X.prog X.w X.K X.mg X.base CX k f fd ps sp) (hr : Room k X.A) (hg : Gl X x) (hm : X.mg x = some (.ref f)) (hk : PySem.W.keepIn X.K (.ref f) = true) (hb : KBinds X.K fd ps ks g gV) (hx : Passes CX X E) (hkw : PK X kws tk)
    (hall : (backToKw pos (keywordEach kws X.env)).all (·.1.isSome) = true := by rfl) (hks : (backToKw pos (keywordEach kws X.env)).filterMap (·.1) = ks := by rfl) (hdb : (x == ("__debug__" : Str)) = false := by decide)
    (hpl : ((backTo pos (starEach [] X.env)).any (·.1) || (backToKw pos (keywordEach kws X.env)).any (·.1.isNone)) = false := by rfl) :
    PE X (.Call (.Name x p) [] kws pos) (tCallK sp gV E tNil tk) :=
  ⟨fun pins s σ H Q I h => wpAny_Call_Name_kw (ld_glob I hg hm (PySem.W.callWith_KW0 (h₀ := X.base) I.ok.mod.kin hk hall
    (thn (hkw.run pos pins s σ H _ I h) fun ws s2 ⟨zs, H2, I2, rz, q2⟩ => ⟨I2.kIn, by
      rw [hks]
      exact run_fnk (us := []) (vs := []) G hr hb hx I2 .nil rz q2⟩) hpl) hdb)⟩
end
section
variable {F : Fm} {A : List Addr} {Δ : List Sl} {t tk : TA} {q : PyData → Prop} {C : List PyData → Prop} {R : List PyData → PyData → Prop} {E : XK} {gV : List V → List V → List V} {gD : List PyData → List PyData → List PyData}
/-- a call with keywords: gD orders the data as gV the values -/
theorem ev_callKF (hg : ∀ {H : Hp} {A : List Addr} {vs zs : List V} {ds es : List PyData}, DtA H A vs ds → DtA H A zs es → DtA H A (gV vs zs) (gD ds es)) (h : EvA F A Δ t fun ds => EvA F A Δ tk fun es => C (gD ds es) ∧ ∀ d, R (gD ds es) d → q d) : Ev F A Δ (tCallK (PF C R) gV E t tk) q := fun H0 σ H s Q z =>
  h H0 σ H s _ fun vs ds H1 s1 f1 h1 k1 => k1 H0 σ H1 s1 _ fun zs es H2 s2 f2 h2 ⟨c, k⟩ =>
    ⟨A, gD ds es, s2.trk, hg (h1.mono f2 s1.sub) h2, c, fun v d H3 f3 h3 hr => z v d H3 (s2.more f3) ((f1.trans f2).trans (f3.more fun _ z => nomatch z)) h3 (k d hr)⟩
end
end Dl

/-! R4: defs that are called where no repr runs (so they may say repr); the law's end over such a def -/
namespace Dl
open PySem PySem.Spec PyProof.Rows L2

/-- as FnOk, where no repr is at work around the call -/
structure FnG (P : Program) (w : World) (K : PySem.W.Frag) (mg : Str → Option Value) (base : Heap) (k : Nat) (f : Addr) (fd : FuncData) (ps : List Str) (sp : Sp) : Prop where
  len : ∀ vs H Q E, sp vs H Q E → vs.length = ps.length
  run : ∀ (A : Around) (outer : List Env) (s : Shared) (H : Hp) (args : Args) (us : List Value) (vs : List V) (Q : VK), A.guards = some [] → Room k A → Env0 P w K mg base A outer s H →
    BindsTo s fd args (ps.zip us) → Vals vs us → sp vs H Q E0 → codeAny (model P w) A (.call (.ref f) args) (CR CX0 outer P w H s Q E0) s
section
variable {P : Program} {w : World} {K : PySem.W.Frag} {mg : Str → Option Value} {base : Heap}
theorem FnG.of {k : Nat} {f : Addr} {fd : FuncData} {ps : List Str} {sp : Sp} (G : FnOk P w K mg base CX0 k f fd ps sp) : FnG P w K mg base k f fd ps sp :=
  ⟨G.len, fun A outer s H args us vs Q _ hr e0 hb r h => G.run A outer s H args us vs Q E0 hr e0 hb r h⟩
/-- a def of the text by its body -/
theorem fng {x qual : Str} {st : Stmt} {f : Addr} {fd : FuncData} {N ps : List Str} {k : Nat} {sp : Sp} (F : Fun K x qual st f fd) (S : FnScope N ps (defScope st)) (len : ∀ vs H Q E, sp vs H Q E → vs.length = ps.length)
    (body : ∀ (cdv : Value) (A : Around) (outer : List Env) (s : Shared) (H : Hp) (vs : List V) (Q : VK), A.guards = some [] → Room k (A.deeper (envOfC qual (defScope st) s.heap.objs.size f cdv)) → sp vs H Q E0 →
      ∃ t, PSs (cxOf CX0 P w K mg base N qual (defScope st) f cdv A outer s H E0).nox (defBody st) t ∧ t { nx := fun _ H' => Q .non H', rt := Q } (start N vs) H) : FnG P w K mg base (k + 1) f fd ps sp := by
  obtain ⟨oc, od, kV, doc, pm, an, cdv, ct, osl, rfl, lk, hcd⟩ := F.ex
  refine ⟨len, fun A outer s H args us vs Q hg hr e0 hb r h => ?_⟩
  have kept : ∀ b o, base.get? b = some o → s.heap.get? b = some o := fun b o e => (e0.bs b o e).1
  have KX : K.In s.heap := e0.mod.kin.keeps kept
  have kinds : ∀ y ∈ ps.zip us, (defScope st).names.lookup y.1 = some .local ∨ ((defScope st).names.lookup y.1 = some .cell ∧ ((cellsFrom (s.heap.objs.size + 1) (defScope st).names []).lookup y.1).isSome = true) := fun ⟨n, v⟩ hy =>
    (S.par n (List.of_mem_zip hy).1).imp id fun q => ⟨q, PySem.W.cellsFrom_some _ _ _ (.inl q)⟩
  refine codeAny_call_function hr.depth (KX _ _ lk) rfl S.co S.gen rfl (PySem.W.codeRec_of KX hcd) (hb _ _ _ _ (wpAny_newFunctionEnv_cells S.kind kinds fun env he s1 y => ?_))
  subst he
  refine ⟨(e0.mod.nolimit.keeps kept).keeps y.toInCall.keep, codeAny_func ?_⟩
  obtain ⟨t, ht, hq⟩ := body cdv A outer s H vs Q hg (hr.deeper _) h
  refine wpAny_mono (ht.nox.run [] s1 (start N vs) H _ (inv_start S hr.hd e0 (len _ _ _ _ h) r y) hq) (fun fl s' hs => ?_) fun e s' hs => hs
  have fin : ∀ {σ' : L2.St} {H' : Hp} {v : V} {u : Value}, Inv (cxOf CX0 P w K mg base N qual (defScope st) f cdv A outer s H E0) [] σ' H' s' → RelV v u → Q v H' → CE outer P w H s Q u s' :=
    fun J rv q => ⟨_, _, J.os, J.bare, J.base, J.hok, rv, q⟩
  cases fl with
  | ret u => obtain ⟨v, σ', H', J, rv, q⟩ := hs; exact fin J rv q
  | next => obtain ⟨σ', H', J, q⟩ := hs; exact fin (v := V.non) (u := Value.none) J rfl q
  | brk => obtain ⟨_, _, _, q⟩ := hs; exact False.elim q
  | cont => obtain ⟨_, _, _, q⟩ := hs; exact False.elim q

/-- the law's promise: true for every script of at most n ints -/
def spLaw (K : PySem.W.Frag) (n : Nat) : Sp := fun vs H Q _ => ∃ (a : Addr) (ns : List Int), vs = [.ref a] ∧ SqL K H a (ns.map V.int) ∧ ns.length ≤ n ∧ ∀ H', Q (.bl true) H'

/-- the goal that k_head leaves, from the law's def -/
theorem walk_g {l : PySem.W.OpenLaw} {n k : Nat} {q : Program} {loose : List Str} {XP : (Str → Option Value) → Heap → Prop} {YP : World → Heap → Prop} {d : DefRec} {K : Params → PySem.W.Frag} {x : Str}
    (hn : l.most = some n) (hn2 : n ≤ sizeLine) (hdf : d.params.defaults = []) (hr : Room k callerA) (hY : ∀ (w : World) (h : Heap), YP w h → (K w.params).In h)
    (F : ∀ (w : World) (mg : Str → Option Value) (fa : Addr) (h : Heap), (K w.params).In h → h.Ns mainGlobals mg → mg d.name = some (.ref fa) →
      ∃ fd : FuncData, (∀ (s : Shared) (u : Value), BindsTo s fd ⟨[u], []⟩ [(x, u)]) ∧
        ∀ base : Heap, (K w.params).In base → base.Ns mainGlobals mg → FnG l.prog w (K w.params) mg base k fa fd [x] (spLaw (K w.params) n)) :
    PySem.W.WalkO q loose XP YP l.row.toRowW d [] (fun f vs => PySem.call f vs) := by
  refine Att.attach_call hn hdf fun w s₀ s₁ mg mb fa o pm cd doc a vs ns G Y ho hd hcd hmg hobj hints hlen hg => ?_
  have KX := hY w _ Y
  obtain ⟨fd, hb, hF⟩ := F w mg fa _ KX G.T.g hmg
  have rv := vals_ints hints
  have sz : ns.length ≤ sizeLine := Nat.le_trans hlen hn2
  -- with an abstract heap that tracks at most the script, and that one as it lies
  have core : ∀ H : Hp, (∀ b u, H b = some u → b = a ∧ u = .frz { cls := .type "list", data := .seq vs.toArray } (.lst (ns.map V.int))) → SqL (K w.params) H a (ns.map V.int) → (H a ≠ none → (K w.params).lookup a = none) →
      codeAny (model l.prog w) callerA (.call (.ref fa) ⟨[.ref a], []⟩) (fun r s' => r = .ok (.ret (.bool true)) ∧ OldK s₁.heap s'.heap ∧ s'.os = s₁.os ∧ AllBare s'.gens) s₁ := by
    intro H hH hS hK
    have free : ∀ {b : Addr} {u : Obj}, s₁.heap.get? b = some u → b ≠ a ∨ (∃ es ep, u.data = .dict es ep) → H b = none := fun {b u} e z => by
      cases q : H b with
      | none => rfl
      | some y =>
        obtain ⟨rfl, _⟩ := hH b y q
        rcases z with z | ⟨es, ep, z⟩
        · exact absurd rfl z
        · rw [hobj] at e
          cases e
          cases z
    have ok : HOk l.prog w H s₁.heap := fun b u e => by
      obtain ⟨rfl, rfl⟩ := hH b u e
      exact ⟨hobj, by rw [List.length_map]; exact sz, vs, _, rv, hobj⟩
    have nsB : ∀ {b : Addr} {m : Str → Option Value}, s₁.heap.Ns b m → (hidT s₁.heap H).Ns b m := fun ⟨o, es, ep, e, dd, r⟩ => ⟨o, es, ep, hidT_get e (free e (.inr ⟨es, ep, dd⟩)), dd, r⟩
    have kB : (K w.params).In (hidT s₁.heap H) := fun b u e => hidT_get (KX b u e) (by
      cases q : H b with
      | none => rfl
      | some y =>
        obtain ⟨rfl, _⟩ := hH b y q
        rw [hK (by rw [q]; exact fun z => nomatch z)] at e
        cases e)
    have M : Mod (K w.params) mg (hidT s₁.heap H) := ⟨kB, nsB G.T.g, ⟨mb, nsB G.T.b, G.T.builtins⟩, let ⟨mc, z1, z2⟩ := G.T.nolimit; ⟨mc, nsB z1, z2⟩⟩
    have e0 : Env0 l.prog w (K w.params) mg (hidT s₁.heap H) callerA [] s₁ H := ⟨rfl, M, fun b u e => of_hidT e, Nat.le_of_eq (hidT_size _ _), trivial, (fun b z => absurd (show b ∈ ([] : List Addr) from z) (by simp)), ok, .of_eq hg⟩
    refine codeAny_mono ((hF _ kB (nsB G.T.g)).run callerA [] s₁ H ⟨[.ref a], []⟩ [.ref a] [.ref a] (fun v _ => v = .bl true) rfl hr e0 (hb s₁ (.ref a)) (.cons rfl .nil) ⟨a, ns, rfl, hS, hlen, fun _ => rfl⟩) fun r s' z => ?_
    cases r with
    | error e => exact False.elim z
    | ok fl =>
      cases fl with
      | next => exact False.elim z
      | brk => exact False.elim z
      | cont => exact False.elim z
      | ret u =>
        obtain ⟨v, H', os, bare, un, hok', r', rfl⟩ := z
        obtain rfl : u = Value.bool true := r'
        refine ⟨rfl, OldK.of_keep fun b o e => ?_, os, bare⟩
        cases q : H b with
        | none => exact un.keep b o e q (fun z => absurd (show b ∈ ([] : List Addr) from z) (by simp)) (by simp)
        | some y =>
          obtain ⟨rfl, rfl⟩ := hH b y q
          obtain ⟨e2, _⟩ := hok' b _ (un.frzs b _ _ q)
          rw [hobj] at e
          cases e
          exact e2
  cases hk : (K w.params).lookup a with
  | some o =>
    have e := KX a o hk
    rw [hobj] at e
    cases e
    exact core (fun _ => none) (fun _ _ z => nomatch z) (.inr ⟨_, vs.toArray, _, hk, rfl, rfl, rfl, by rw [List.size_toArray, hints.length]; exact sz, by simpa using rv⟩) fun z => absurd rfl z
  | none =>
    refine core (fun b => if b = a then some (.frz { cls := .type "list", data := .seq vs.toArray } (.lst (ns.map V.int))) else none) (fun b u z => ?_) (.inl (.inr ⟨_, if_pos rfl⟩)) fun _ => hk
    by_cases hb : b = a
    · rw [if_pos hb] at z
      exact ⟨hb, (Option.some.inj z).symm⟩
    · rw [if_neg hb] at z
      cases z
end
end Dl

/-! R5: defs at hand by name; the stock of numbers that a law draws from; promises of defs that draw -/
namespace Dl
open PySem PySem.Spec PyProof.Rows L2

/-- a def of the text that can be called by its name -/
structure Has (P : Program) (w : World) (K : PySem.W.Frag) (mg : Str → Option Value) (base : Heap) (k : Nat) (x : Str) (ps : List Str) (sp : Sp) : Prop where
  ex : ∃ f fd, FnOk P w K mg base CX0 k f fd ps sp ∧ mg x = some (.ref f) ∧ PySem.W.keepIn K (.ref f) = true ∧ Binds K fd ps []
/-- .. and with keywords ks, that g (of values; gV of V) brings into the parameters' order -/
structure HasK (P : Program) (w : World) (K : PySem.W.Frag) (mg : Str → Option Value) (base : Heap) (k : Nat) (x : Str) (ps ks : List Str) (gV : List V → List V → List V) (sp : Sp) : Prop where
  ex : ∃ f fd g, FnOk P w K mg base CX0 k f fd ps sp ∧ mg x = some (.ref f) ∧ PySem.W.keepIn K (.ref f) = true ∧ KBinds K fd ps ks g gV
section
variable {X : Cx} {k : Nat} {x : Str} {ps ks : List Str} {sp : Sp} {p pos : Pos} {e : Expr} {es : List Expr} {kws : List Keyword} {t tk : TA} {gV : List V → List V → List V}
theorem pe_h (h : Has X.prog X.w X.K X.mg X.base k x ps sp) (hr : Room k X.A) (hg : Gl X x) (ha : PA X (e :: es) t) (hdb : (x == ("__debug__" : Str)) = false := by decide)
    (he : starEach (e :: es) X.env = (false, eval e X.env) :: starEach es X.env := by rfl) (hpl : (backTo pos (starEach es X.env)).any (·.1) = false := by rfl) : PE X (.Call (.Name x p) (e :: es) [] pos) (tCall sp [] E0 t) := by
  obtain ⟨f, fd, G, hm, kp, b⟩ := h.ex
  exact pe_call G hr hg hm kp b .nil pass0 ha hdb he hpl
theorem pe_hk (h : HasK X.prog X.w X.K X.mg X.base k x ps ks gV sp) (hr : Room k X.A) (hg : Gl X x) (hkw : PK X kws tk)
    (hall : (backToKw pos (keywordEach kws X.env)).all (·.1.isSome) = true := by rfl) (hks : (backToKw pos (keywordEach kws X.env)).filterMap (·.1) = ks := by rfl) (hdb : (x == ("__debug__" : Str)) = false := by decide)
    (hpl : ((backTo pos (starEach [] X.env)).any (·.1) || (backToKw pos (keywordEach kws X.env)).any (·.1.isNone)) = false := by rfl) : PE X (.Call (.Name x p) [] kws pos) (tCallK sp gV E0 tNil tk) := by
  obtain ⟨f, fd, g, G, hm, kp, b⟩ := h.ex
  exact pe_callK0 G hr hg hm kp b pass0 hkw hall hks hdb hpl
/-- a module's int constant -/
theorem pe_gi {n : Int} (h : ∃ t, X.mg x = some (.int n t)) (hg : Gl X x) (hd : (x == ("__debug__" : Str)) = false := by decide) : PE X (.Name x pos) (tC (.int n)) := by
  obtain ⟨t, e⟩ := h
  exact pe_glob hg e ⟨t, rfl⟩ (hd := hd)
end

/-! ### the stock -/
/-- s: [g, f, their sum, a count]; g: great numbers; f: numbers, one at least -/
def Stk (s g f : Addr) (H : Hp) : Prop := ∃ (big flat : List Int) (tot trn : Int), H s = some (.lst [.ref g, .ref f, .int tot, .int trn]) ∧ H g = some (.lst (big.map V.int)) ∧ H f = some (.lst (flat.map V.int)) ∧
  big.length ≤ 1000 ∧ flat ≠ [] ∧ s ≠ g ∧ s ≠ f ∧ g ≠ f
def FS (s g f : Addr) : Fm where
  m := [s, g, f]
  I := Stk s g f
  keep := fun H H' k ⟨big, flat, tot, trn, h1, h2, h3, r⟩ => ⟨big, flat, tot, trn, k _ _ h1, k _ _ h2, k _ _ h3, r⟩
  loc := fun H H' k ⟨big, flat, tot, trn, h1, h2, h3, r⟩ => ⟨big, flat, tot, trn, (k s (by simp)).trans h1, (k g (by simp)).trans h2, (k f (by simp)).trans h3, r⟩
/-- a def that draws: stock and arguments of which C holds; R of what it hands back -/
def PS (C : List PyData → Prop) (R : List PyData → PyData → Prop) : Sp := fun vs H Q _ => ∃ s g f A vs' ds, vs = .ref s :: vs' ∧ Stk s g f H ∧ (∀ a ∈ (FS s g f).m, a ∈ A) ∧ (∀ a ∈ A, H a ≠ none) ∧ DtA H A vs' ds ∧ C ds ∧
  ∀ v d H', Fr (FS s g f).m H H' → Stk s g f H' → Dt H' A v d → R ds d → Q v H'
section
variable {s g f : Addr} {A : List Addr} {Δ : List Sl} {K : PySem.W.Frag} {t tk : TA} {q : PyData → Prop} {C : List PyData → Prop} {R : List PyData → PyData → Prop} {E : XK} {i : Nat}
theorem ev_callS (hi : Δ[i]? = some (.v (.ref s))) (h : EvA (FS s g f) A Δ t fun ds => C ds ∧ ∀ d, R ds d → q d) : Ev (FS s g f) A Δ (tCall (PS C R) [] E (tCons (tVar i) t)) q := fun H0 σ H st Q z => by
  obtain ⟨o, ho, e⟩ := st.env i _ hi
  subst e
  refine ⟨.ref s, ho, h H0 σ H st _ fun vs ds H1 s1 f1 h1 ⟨c, k⟩ => ?_⟩
  show PS C R ((.ref s :: vs) ++ []) H1 Q E
  rw [List.append_nil]
  exact ⟨s, g, f, A, vs, ds, rfl, s1.inv, s1.sub, s1.trk, h1, c, fun v d H2 f2 i2 h2 hr => z v d H2 (s1.step f2 i2) (f1.trans f2) h2 (k d hr)⟩
def startS (N : List Str) (s : Addr) (ds : List PyData) : List Sl := .v (.ref s) :: (ds.map Sl.d ++ List.replicate (N.length - (ds.length + 1)) .no)
theorem S.startS {N : List Str} {vs : List V} {ds : List PyData} {H : Hp} (i : (FS s g f).I H) (sub : ∀ a ∈ (FS s g f).m, a ∈ A) (trk : ∀ a ∈ A, H a ≠ none) (h : DtA H A vs ds) : S (FS s g f) H A (Dl.startS N s ds) (L2.start N (.ref s :: vs)) H := by
  cases N with
  | nil =>
    have s0 : S (FS s g f) H A (startD [] ds) (L2.start [] vs) H := .start i sub trk h
    refine ⟨.refl _, i, sub, trk, ?_, fun k x e => ?_, fun k j t es fs h1 h2 => ?_⟩
    · have := s0.len
      unfold L2.start startD at this
      unfold L2.start Dl.startS
      simp at this ⊢
      exact this
    · cases k with
      | zero =>
        cases e
        exact ⟨_, rfl, rfl⟩
      | succ k =>
        have e' : (startD [] ds)[k]? = some x := by
          unfold startD
          unfold Dl.startS at e
          simpa using e
        obtain ⟨o, h1, h2⟩ := s0.env k x e'
        refine ⟨o, ?_, h2⟩
        unfold L2.start at h1 ⊢
        simpa using h1
    · cases k with
      | zero => cases h1
      | succ k =>
        unfold Dl.startS at h1
        simp at h1
  | cons n N =>
    have s0 : S (FS s g f) H A (startD N ds) (L2.start N vs) H := .start i sub trk h
    have e1 : Dl.startS (n :: N) s ds = .v (.ref s) :: startD N ds := by
      unfold Dl.startS startD
      rw [List.length_cons, Nat.add_sub_add_right]
    have e2 : L2.start (n :: N) (.ref s :: vs) = some (.ref s) :: L2.start N vs := by
      unfold L2.start
      rw [List.length_cons, List.length_cons, Nat.add_sub_add_right] <;> rfl
    rw [e1, e2]
    refine ⟨.refl _, i, sub, trk, by rw [List.length_cons, List.length_cons, s0.len], fun k x e => ?_, fun k j t es fs h1 h2 => ?_⟩
    · cases k with
      | zero =>
        cases e
        exact ⟨_, rfl, rfl⟩
      | succ k => exact s0.env k x e
    · cases k with
      | zero => cases h1
      | succ k =>
        cases j with
        | zero => cases h2
        | succ j => rw [s0.apart k j t es fs h1 h2]
theorem enterS {N : List Str} {vs : List V} {H : Hp} {Q : VK} {ts : TS} (h : PS C R vs H Q E) (k : ∀ s g f A ds, C ds → Sq (FS s g f) A (startS N s ds) ts { nx := fun _ _ => R ds .none, rt := R ds }) : ts { nx := fun _ H' => Q .non H', rt := Q } (start N vs) H := by
  obtain ⟨s, g, f, A, vs', ds, rfl, i, sub, trk, hd, c, z⟩ := h
  have st : S (FS s g f) H A (startS N s ds) (start N (.ref s :: vs')) H := .startS i sub trk hd
  refine k s g f A ds c H _ H st _ (fun A' Δ' σ' H' g hr => z _ _ H' g.st.fr g.st.inv .non hr) (fun A' v d H' sub' f i dt hr => z v d H' f i (dt.less fun a ha => sub' a ha (trk a ha)) hr) (fun _ _ _ _ _ h => h.elim) (fun _ _ _ _ _ h => h.elim)
theorem ps_len {n : Nat} (hc : ∀ ds, C ds → ds.length + 1 = n) : ∀ vs H Q E, PS C R vs H Q E → vs.length = n := fun vs H Q E h => by
  obtain ⟨s, g, f, A, vs', ds, rfl, _, _, _, hd, c, _⟩ := h
  rw [List.length_cons, hd.length]
  exact hc ds c
end
end Dl

/-! D5: small helps -/
namespace Dl
open PySem PySem.Spec PyProof.Rows L2
theorem Weak.set {Δ Δ0 : List Sl} {j : Nat} {x : Sl} (w : Weak Δ Δ0) (h : Δ0[j]? = some .no ∨ Δ0[j]? = some x ∨ Δ0[j]? = none) : Weak (Δ.set j x) Δ0 := by
  refine ⟨by rw [List.length_set]; exact w.1, fun i s e => ?_⟩
  by_cases hi : j = i
  · subst hi
    rcases h with h | h | h
    · rw [h] at e
      exact .inl (Option.some.inj e).symm
    · rw [h] at e
      cases e
      refine .inr ?_
      rw [List.getElem?_set, if_pos rfl, if_pos]
      have := (List.getElem?_eq_some_iff.mp h).1
      rw [w.1] at this
      exact this
    · rw [h] at e
      cases e
  · rw [List.getElem?_set_ne hi]
    exact w.2 i s e
def isM : Sl → Bool
  | .m _ _ => true
  | _ => false
theorem no_m {Δ : List Sl} {A : List Addr} (h : Δ.all (fun s => !isM s) = true) : ∀ (k : Nat) t ds, Δ[k]? = some (Sl.m t ds) → t ∈ A := fun k t ds e => by
  have := List.all_eq_true.mp h _ (List.mem_of_getElem? e)
  cases this
theorem back0 {A : List Addr} {P : List Sl → Prop} {A' : List Addr} {Δ Δ0 : List Sl} (w : Weak Δ Δ0) (hm : ∀ (k : Nat) t ds, Δ0[k]? = some (Sl.m t ds) → t ∈ A) (h : P Δ0) : Back A P A' Δ := ⟨Δ0, w, hm, h⟩

/-- a built-in type, as a value -/
theorem pe_ty {X : Cx} {x : Str} {pos : Pos} {n : String} (hg : Gl X x) (hm : X.mg x = none) (hv : bootBuiltins x = some (.type n)) (hn : x ≠ "__name__" := by decide) (hd : (x == ("__debug__" : Str)) = false := by decide) : PE X (.Name x pos) (tC (.ty n)) :=
  pe_bltn hg hm hv rfl hn hd
/-! ints as data -/
def isNum : PyData → Bool
  | .int _ => true
  | _ => false
def isWh (lo hi : Int) : PyData → Bool
  | .int i => decide (lo ≤ i) && decide (i ≤ hi)
  | _ => false
theorem isWh_int {lo hi : Int} {d : PyData} (h : isWh lo hi d = true) : ∃ i, d = .int i ∧ lo ≤ i ∧ i ≤ hi := by
  cases d with
  | int i =>
    unfold isWh at h
    rw [Bool.and_eq_true, decide_eq_true_eq, decide_eq_true_eq] at h
    exact ⟨i, rfl, h.1, h.2⟩
  | _ => cases h
end Dl

/-! D6: comprehensions by a function, by a property of the elements -/
namespace Dl
open PySem PySem.Spec PyProof.Rows L2
section
variable {F : Fm} {A : List Addr} {Δ : List Sl} {te : TE} {tt : TT} {wi : TI} {g : TG} {u : PyData → List Sl → Option (List Sl)} {js vs : List Nat} {q : List PyData → Prop}
theorem take_succ {xs : List PyData} {i : Nat} {d : PyData} (h : xs[i]? = some d) : xs.take (i + 1) = xs.take i ++ [d] := by
  rw [List.take_add_one, h] <;> rfl
theorem EvI.imp {q' : List PyData → Prop} (h : EvI F A Δ wi q) (k : ∀ xs, q xs → q' xs) : EvI F A Δ wi q' := fun H0 σ H s R z => h H0 σ H s R fun J xs H' s' f w hq => z J xs H' s' f w (k xs hq)
/-- [e for x in xs], e a function of x -/
theorem evn_map (hg : TgD g u js) (hj : ∀ j ∈ js, j ∈ vs) (f : PyData → PyData)
    (h : EvI F A Δ wi fun xs => xs.length ≤ 100000 ∧ (∀ d ∈ xs, ∀ p, p ∉ A → ∃ Δ1, u d (wipeD Δ vs) = some Δ1 ∧ Ev F (p :: A) Δ1 te fun y => y = f d) ∧ q (xs.map f)) : EvN F A Δ (tLc wi g tYes te vs) q :=
  evn_lc hg hj (h.imp fun xs ⟨hl, hs, hq⟩ => ⟨fun i acc => acc = (xs.take i).map f, rfl, fun i d acc p hd ha np => by
    obtain ⟨Δ1, e1, e2⟩ := hs d (List.mem_of_getElem? hd) p np
    have hi := (List.getElem?_eq_some_iff.mp hd).1
    refine ⟨Δ1, e1, evt_yes ⟨fun _ => e2.imp fun y hy => ⟨?_, ?_⟩, fun z => nomatch z⟩⟩
    · rw [ha, List.length_map, List.length_take]
      omega
    · rw [ha, hy]
      show (xs.take i).map f ++ [f d] = (xs.take (i + 1)).map f
      rw [take_succ hd, List.map_append] <;> rfl, fun acc ha => by
    rw [ha, List.take_length]
    exact hq⟩)
/-- [e for x in xs if t] -/
theorem evn_filt (hg : TgD g u js) (hj : ∀ j ∈ js, j ∈ vs) (t : PyData → Bool) (f : PyData → PyData)
    (h : EvI F A Δ wi fun xs => xs.length ≤ 100000 ∧ (∀ d ∈ xs, ∀ p, p ∉ A → ∃ Δ1, u d (wipeD Δ vs) = some Δ1 ∧ EvT F (p :: A) Δ1 tt fun b => b = t d ∧ (b = true → Ev F (p :: A) Δ1 te fun y => y = f d)) ∧ q ((xs.filter t).map f)) : EvN F A Δ (tLc wi g tt te vs) q :=
  evn_lc hg hj (h.imp fun xs ⟨hl, hs, hq⟩ => ⟨fun i acc => acc = ((xs.take i).filter t).map f, rfl, fun i d acc p hd ha np => by
    obtain ⟨Δ1, e1, e2⟩ := hs d (List.mem_of_getElem? hd) p np
    have hi := (List.getElem?_eq_some_iff.mp hd).1
    refine ⟨Δ1, e1, fun H0 σ H s Q z => e2 H0 σ H s Q fun b H' s' f' ⟨eb, ke⟩ => z b H' s' f' ⟨fun hb => (ke hb).imp fun y hy => ⟨?_, ?_⟩, fun hb => ?_⟩⟩
    · rw [ha, List.length_map]
      have := List.length_filter_le t (xs.take i)
      rw [List.length_take] at this
      omega
    · rw [ha, hy]
      show ((xs.take i).filter t).map f ++ [f d] = ((xs.take (i + 1)).filter t).map f
      rw [take_succ hd, List.filter_append, List.map_append, List.filter_cons_of_pos (by rw [← eb]; exact hb)] <;> rfl
    · rw [ha]
      show ((xs.take i).filter t).map f = ((xs.take (i + 1)).filter t).map f
      rw [take_succ hd, List.filter_append, List.filter_cons_of_neg (by rw [← eb, hb]; exact Bool.false_ne_true), List.filter_nil, List.append_nil], fun acc ha => by
    rw [ha, List.take_length]
    exact hq⟩)
/-- [e for x in xs], of each e what P tells -/
theorem evn_each (hg : TgD g u js) (hj : ∀ j ∈ js, j ∈ vs) (P : PyData → Prop)
    (h : EvI F A Δ wi fun xs => xs.length ≤ 100000 ∧ (∀ d ∈ xs, ∀ p, p ∉ A → ∃ Δ1, u d (wipeD Δ vs) = some Δ1 ∧ Ev F (p :: A) Δ1 te P) ∧ ∀ ys : List PyData, ys.length = xs.length → (∀ y ∈ ys, P y) → q ys) : EvN F A Δ (tLc wi g tYes te vs) q :=
  evn_lc hg hj (h.imp fun xs ⟨hl, hs, hq⟩ => ⟨fun i acc => acc.length = i ∧ ∀ y ∈ acc, P y, ⟨rfl, fun _ z => nomatch z⟩, fun i d acc p hd ha np => by
    obtain ⟨Δ1, e1, e2⟩ := hs d (List.mem_of_getElem? hd) p np
    have hi := (List.getElem?_eq_some_iff.mp hd).1
    refine ⟨Δ1, e1, evt_yes ⟨fun _ => e2.imp fun y hy => ⟨?_, ?_, fun y' hy' => ?_⟩, fun z => nomatch z⟩⟩
    · rw [ha.1]
      omega
    · rw [List.length_append, ha.1] <;> rfl
    · rcases List.mem_append.mp hy' with z | z
      · exact ha.2 y' z
      · rw [List.mem_singleton.mp z]
        exact hy, fun acc ha => hq acc ha.1 ha.2⟩)
end
end Dl

/-! D7: helps for the stock's own defs, at the heap -/
namespace Dl
open PySem PySem.Spec PyProof.Rows L2
theorem canLay_ints : ∀ ns : List Int, PyData.canLayAll0 (ns.map PyData.int) = true
  | [] => rfl
  | n :: r => by
    rw [List.map_cons]
    simp only [PyData.canLayAll0, PyData.canLay0, Bool.true_and]
    exact canLay_ints r
theorem depth_ints : ∀ ns : List Int, PyData.depthAll (ns.map PyData.int) = 0
  | [] => rfl
  | n :: r => by
    rw [List.map_cons]
    simp only [PyData.depthAll, PyData.depth, depth_ints r]
    rfl
theorem shaped_ints (ns : List Int) : SeqAt.shaped (.list (ns.map .int)) = true := by
  unfold SeqAt.shaped
  simp only [PyData.canLay0, canLay_ints, PyData.depth, depth_ints]
  decide
theorem dp_ints {K : PySem.W.Frag} {H : Hp} : ∀ ns : List Int, DpAll K H (ns.map V.int) (ns.map PyData.int)
  | [] => .nil
  | n :: r => .cons (.int n) (dp_ints r)
theorem eqv_nil_ints (ns : List Int) : PyData.eqv (.list (ns.map .int)) (.list []) = ns.isEmpty := by
  cases ns <;> simp [PyData.eqv, PyData.eqvAll]
/-- what a draw asks and gives -/
abbrev C_draw (ds : List PyData) : Prop := ∃ n : Int, ds = [.int n] ∧ 0 < n ∧ n < 1073741824
def R_draw : List PyData → PyData → Prop
  | [.int n], r => ∃ k, r = .int k ∧ 0 ≤ k ∧ k < n
  | _, _ => False
abbrev C_pick (ds : List PyData) : Prop := ∃ d es, ds = [d] ∧ seqD d = some es ∧ es ≠ [] ∧ es.length ≤ 1000000
def R_pick : List PyData → PyData → Prop
  | [d], r => ∃ es, seqD d = some es ∧ r ∈ es
  | _, _ => False
/-- the stock anew: behind a script of ints -/
def spStock (K : PySem.W.Frag) : Sp := fun vs H Q _ => ∃ (a : Addr) (ns : List Int), vs = [.ref a] ∧ SqL K H a (ns.map V.int) ∧ ns.length ≤ 1000 ∧
  ∀ s g f H', Same H H' → Stk s g f H' → Q (.ref s) H'
theorem frM {s g f : Addr} {H : Hp} {a : Addr} {o : HO} (h : a = s ∨ a = g ∨ a = f) : Fr (FS s g f).m H (upd H a o) :=
  .put (show a ∈ [s, g, f] from by rcases h with rfl | rfl | rfl <;> simp)
theorem upd_keep {H : Hp} {p a : Addr} {o u : HO} (h : H a = some o) (hp : H p = none) : upd H p u a = some o := by
  rw [upd_ne (ne_of_none h hp)]
  exact h
theorem ev_sum {F : Fm} {A : List Addr} {Δ : List Sl} {K : PySem.W.Frag} {t : TA} {q : PyData → Prop} (h : EvA F A Δ t fun ds => ∃ ns : List Int, ds = [.list (ns.map .int)] ∧ q (.int ns.sum)) : Ev F A Δ (tCB (rSum K) t) q := fun H0 σ H s Q z =>
  h H0 σ H s _ fun vs ds H1 s1 f1 h1 ⟨ns, e, k⟩ => by
    subst e
    cases h1 with
    | cons hd ht =>
      cases ht
      cases hd with
      | lst hh n t =>
        have e := t.int_inv
        subst e
        exact ⟨_, ns, rfl, .of hh, z _ _ H1 s1 f1 (.int _) k⟩
/-- a number of a script, from 0 on -/
def flat1 (x : Int) : Int := if 0 ≤ x then 2 * x else -2 * x - 1
def bigs (l : List Int) : List Int := l.filter fun x => decide (10 ^ 15 ≤ x)
/-- a stock, from what its def hands back -/
theorem stk_of {H : Hp} {s : Addr} {xs : List V} {l : List Int} {c tot : Int} (hs : H s = some (.lst xs)) (hl : l.length ≤ 1000) (c1 : c < 10 ^ 15)
    (t : DtA H [] xs [.list ((bigs l).map .int), .list ((l ++ [c]).map .int), .int tot, .int 0]) : ∃ g f, Stk s g f H := by
  cases t with
  | cons h1 t =>
    cases t with
    | cons h2 t =>
      cases t with
      | cons h3 t =>
        cases t with
        | cons h4 t =>
          cases t
          cases h3
          cases h4
          cases h1 with
          | @lst g _ _ hg _ tg =>
            cases h2 with
            | @lst f _ _ hf _ tf =>
              have eg := tg.int_inv
              have ef := tf.int_inv
              subst eg
              subst ef
              refine ⟨g, f, bigs l, l ++ [c], tot, 0, hs, hg, hf, ?_, by simp, ?_, ?_, ?_⟩
              · have := List.length_filter_le (fun x => decide ((10 : Int) ^ 15 ≤ x)) l
                unfold bigs
                omega
              · intro e
                rw [← e, hs] at hg
                cases hb : bigs l with
                | nil => rw [hb] at hg; cases hg
                | cons x r => rw [hb] at hg; cases hg
              · intro e
                rw [← e, hs] at hf
                cases hb : l with
                | nil => rw [hb] at hf; cases hf
                | cons x r => rw [hb] at hf; cases hf
              · intro e
                rw [← e, hg] at hf
                have e1 := HO.lst.inj (Option.some.inj hf)
                have e2 : bigs l = l ++ [c] := by
                  have inj : ∀ a b : List Int, a.map V.int = b.map V.int → a = b := by
                    intro a
                    induction a with
                    | nil => intro b h; cases b with
                      | nil => rfl
                      | cons y r => cases h
                    | cons x r ih => intro b h; cases b with
                      | nil => cases h
                      | cons y r' =>
                        rw [List.map_cons, List.map_cons] at h
                        injection h with h1 h2
                        rw [V.int.inj h1, ih r' h2]
                  exact inj _ _ e1
                have hc : c ∈ bigs l := by
                  rw [e2]
                  exact List.mem_append_right _ List.mem_cons_self
                have := of_decide_eq_true (List.mem_filter.mp hc).2
                omega
theorem use_ret {F : Fm} {H0 H : Hp} {A : List Addr} {Δ : List Sl} {σ : L2.St} {te : TE} {D : Ends} (q : PyData → Prop) (h : Ev F A Δ te q) (s : S F H0 A Δ σ H) (k : ∀ v d H', S F H0 A Δ σ H' → Fr F.m H H' → Dt H' A v d → q d → D.rt v H') : tRet te D σ H := h H0 σ H s _ k
theorem use_ret2 {F : Fm} {H0 H : Hp} {A : List Addr} {Δ : List Sl} {σ : L2.St} {te : TE} {D : Ends} {i : Nat} {x : V} (q : PyData → Prop) (h : Ev F A Δ te q) (s : S F H0 A Δ (σ.set i (some x)) H) (k : ∀ v d H', S F H0 A Δ (σ.set i (some x)) H' → Fr F.m H H' → Dt H' A v d → q d → D.rt v H') : gName i x σ H (tRet te D) := h H0 _ H s _ k
end Dl

/-! D8: own lists set in parallel, data whose text is short, rows -/
namespace Dl
open PySem PySem.Spec PyProof.Rows L2
theorem sq_parM {F : Fm} {A : List Addr} {Δ : List Sl} {t1 t2 : TE} {E : En} {i j : Nat} (hij : i ≠ j) (h : EvN F A Δ t1 fun ds => ∀ t, t ∉ A → Ev F (t :: A) Δ t2 fun d => E.nx (t :: A) ((Δ.set i (.m t ds)).set j (.d d))) :
    Sq F A Δ (tPar i j (tCons t1 (tCons t2 tNil))) E := fun H0 σ H s D n r b c =>
  h H0 σ H s _ fun p vs ds H1 s1 f1 np e dt k => by
    have nA : p ∉ A := fun z => s.trk p z np
    have nm : p ∉ F.m := fun z => nA (s.sub p z)
    refine k p nA H0 σ H1 s1 _ fun v d H2 s2 f2 h2 k2 => ⟨_, _, rfl, ?_⟩
    have e2 : H2 p = some (.lst vs) := f2.keep _ _ e nm
    have dt2 : DtA H2 (p :: A) vs ds := dt.mono f2 fun a h => List.mem_cons_of_mem _ (s.sub a h)
    have o2 := s2.own (i := i) (s.fr.free np) nA nm (fun _ _ _ e => s.mem e) e2 dt2
    refine n (p :: A) _ _ H2 ⟨fun _ h => List.mem_cons_of_mem _ h, fun a h => ?_, (f1.trans f2).more s.sub, o2.setD h2⟩ k2
    rcases List.mem_cons.mp h with rfl | h
    · exact .inr np
    · exact .inl h

/-! ### short texts -/
inductive Sm : Nat → PyData → Prop
  | leaf {k : Nat} {d : PyData} (h : d.depth = 0) (s : d.showable = true) (l : d.shown.length ≤ 70) : Sm k d
  | tup {k : Nat} {xs : List PyData} (l : xs.length ≤ 20) (h : ∀ x ∈ xs, Sm k x) : Sm (k + 1) (.tuple xs)
  | lst {k : Nat} {xs : List PyData} (l : xs.length ≤ 20) (h : ∀ x ∈ xs, Sm k x) : Sm (k + 1) (.list xs)
  | dct {k : Nat} : Sm k (.dict [])
theorem Sm.up {k j : Nat} {d : PyData} (h : Sm k d) : k ≤ j → Sm j d := by
  induction h generalizing j with
  | leaf a b c => exact fun _ => .leaf a b c
  | tup l h ih =>
    intro hj
    cases j with
    | zero => omega
    | succ j => exact .tup l fun x hx => ih x hx (by omega)
  | lst l h ih =>
    intro hj
    cases j with
    | zero => omega
    | succ j => exact .lst l fun x hx => ih x hx (by omega)
  | dct => exact fun _ => .dct
def smB : Nat → Nat
  | 0 => 70
  | k + 1 => 20 * (smB k + 2) + 10
theorem piled_le {B : Nat} : ∀ (ts : List Str), (∀ t ∈ ts, t.length ≤ B) → piled ts ≤ ts.length * (B + 2)
  | [], _ => by simp [piled]
  | t :: ts, h => by
    rw [piled_cons, List.length_cons, Nat.add_mul, Nat.one_mul]
    have h1 := h t List.mem_cons_self
    have h2 := piled_le ts fun x hx => h x (List.mem_cons_of_mem _ hx)
    omega
theorem textFrom_le : ∀ (ts : List Str) (k : Nat) (acc : Str), (textFrom k acc ts).length ≤ acc.length + piled ts
  | [], k, acc => Nat.le_add_right _ _
  | t :: ts, k, acc => by
    have ih := textFrom_le ts (k + 1) (acc ++ (if k > 0 then ", " else "" : String) ++ t)
    have e : (acc ++ (if k > 0 then ", " else "" : String) ++ t).length ≤ acc.length + 2 + t.length := by
      rw [strLen_append, strLen_append]
      have : ((if k > 0 then ", " else "" : String) : Str).length ≤ 2 := by split <;> decide
      omega
    rw [piled_cons]
    show (textFrom (k + 1) (acc ++ (if k > 0 then ", " else "" : String) ++ t) ts).length ≤ _
    omega
theorem shownAll_len : ∀ xs : List PyData, (PyData.shownAll xs).length = xs.length
  | [] => by simp only [PyData.shownAll] <;> rfl
  | x :: xs => by
    simp only [PyData.shownAll, List.length_cons, shownAll_len xs]
theorem shownAll_mem : ∀ {xs : List PyData} {t : Str}, t ∈ PyData.shownAll xs → ∃ x ∈ xs, t = x.shown
  | [], t, h => by
    simp only [PyData.shownAll] at h
    exact nomatch h
  | x :: xs, t, h => by
    simp only [PyData.shownAll, List.mem_cons] at h
    rcases h with rfl | h
    · exact ⟨x, List.mem_cons_self, rfl⟩
    · obtain ⟨y, hy, e⟩ := shownAll_mem h
      exact ⟨y, List.mem_cons_of_mem _ hy, e⟩
theorem showAll_of : ∀ {xs : List PyData}, (∀ x ∈ xs, x.showable = true) → PyData.showableAll xs = true
  | [], _ => by simp only [PyData.showableAll]
  | x :: xs, h => by
    simp only [PyData.showableAll, Bool.and_eq_true]
    exact ⟨h x List.mem_cons_self, showAll_of fun y hy => h y (List.mem_cons_of_mem _ hy)⟩
theorem depthAll_of {k : Nat} : ∀ {xs : List PyData}, (∀ x ∈ xs, x.depth ≤ k) → PyData.depthAll xs ≤ k
  | [], _ => by simp only [PyData.depthAll]; exact Nat.zero_le _
  | x :: xs, h => by
    simp only [PyData.depthAll]
    have h1 := h x List.mem_cons_self
    have h2 := depthAll_of (xs := xs) fun y hy => h y (List.mem_cons_of_mem _ hy)
    omega
theorem Sm.all {k : Nat} {d : PyData} (h : Sm k d) : d.showable = true ∧ d.depth ≤ k + 1 ∧ d.shown.length ≤ smB k := by
  induction h with
  | @leaf k d a b c =>
    refine ⟨b, by omega, ?_⟩
    have : 70 ≤ smB k := by
      cases k with
      | zero => exact Nat.le_refl _
      | succ k => show 70 ≤ 20 * (smB k + 2) + 10; have : 70 ≤ smB k := by
                    induction k with
                    | zero => exact Nat.le_refl _
                    | succ k ih => show 70 ≤ 20 * (smB k + 2) + 10; omega
                  omega
    omega
  | @tup k xs l h ih =>
    refine ⟨by simp only [PyData.showable]; exact showAll_of fun x hx => (ih x hx).1, by simp only [PyData.depth]; have := depthAll_of fun x hx => (ih x hx).2.1; omega, ?_⟩
    simp only [PyData.shown]
    have hp := piled_le (B := smB k) (PyData.shownAll xs) fun t ht => by
      obtain ⟨x, hx, rfl⟩ := shownAll_mem ht
      exact (ih x hx).2.2
    rw [shownAll_len] at hp
    have hm : xs.length * (smB k + 2) ≤ 20 * (smB k + 2) := Nat.mul_le_mul_right _ l
    unfold tupleText
    rw [strLen_append, strLen_append]
    have hj : (Str.join ", " (PyData.shownAll xs)).length ≤ piled (PyData.shownAll xs) := by
      by_cases e : PyData.shownAll xs = []
      · rw [e]
        exact Nat.le_refl _
      · have := join_length_add _ e
        omega
    have h1 : (("(" : String) : Str).length ≤ 2 := by decide
    have h2 : ((if (PyData.shownAll xs).length == 1 then ",)" else ")" : String) : Str).length ≤ 2 := by split <;> decide
    show _ ≤ 20 * (smB k + 2) + 10
    omega
  | @lst k xs l h ih =>
    refine ⟨by simp only [PyData.showable]; exact showAll_of fun x hx => (ih x hx).1, by simp only [PyData.depth]; have := depthAll_of fun x hx => (ih x hx).2.1; omega, ?_⟩
    simp only [PyData.shown]
    have hp := piled_le (B := smB k) (PyData.shownAll xs) fun t ht => by
      obtain ⟨x, hx, rfl⟩ := shownAll_mem ht
      exact (ih x hx).2.2
    rw [shownAll_len] at hp
    have hm : xs.length * (smB k + 2) ≤ 20 * (smB k + 2) := Nat.mul_le_mul_right _ l
    unfold listText
    rw [strLen_append]
    have ht := textFrom_le (PyData.shownAll xs) 0 "["
    have h1 : (("[" : String) : Str).length ≤ 2 := by decide
    have h2 : (("]" : String) : Str).length ≤ 2 := by decide
    show _ ≤ 20 * (smB k + 2) + 10
    omega
  | @dct k =>
    refine ⟨by decide, by simp only [PyData.depth, PyData.depthKv]; omega, ?_⟩
    have e : (PyData.dict []).shown.length ≤ 70 := by decide +kernel
    have : 70 ≤ smB k := by
      induction k with
      | zero => exact Nat.le_refl _
      | succ k ih => show 70 ≤ 20 * (smB k + 2) + 10; omega
    omega
theorem Sm.shw {d : PyData} (h : Sm 4 d) : Shw d := by
  obtain ⟨a, b, c⟩ := h.all
  refine ⟨a, by omega, ?_⟩
  have : smB 4 ≤ sizeLine := by rw [sizeLine_eq]; decide
  omega
/-- an int of few figures -/
theorem Sm.int {k : Nat} {i : Int} (h1 : -(10 ^ 60) ≤ i) (h2 : i ≤ 10 ^ 60) : Sm k (.int i) := by
  have hz : i.natAbs < 2 ^ 200 := by
    have : (10 : Int) ^ 60 < 2 ^ 200 := by decide +kernel
    omega
  refine .leaf (by simp only [PyData.depth]) ?_ ?_
  · simp only [PyData.showable, decide_eq_true_eq]
    by_cases e : i.natAbs = 0
    · rw [e]
      decide
    · have := (Nat.log2_lt e).mpr hz
      omega
  · have e := int_text_length_le10 (a := i) (k := 61) (by decide) (by
      have : (10 : Int) ^ 60 < 10 ^ 61 := by decide +kernel
      omega)
    simp only [PyData.shown]
    show (Str.ofString (toString i)).length ≤ 70
    rw [PySem.ofString_length]
    omega
theorem Sm.non {k : Nat} : Sm k .none := .leaf (by simp only [PyData.depth]) (by decide) (by decide +kernel)
theorem Sm.bl {k : Nat} (b : Bool) : Sm k (.bool b) := .leaf (by simp only [PyData.depth]) (by cases b <;> decide) (by cases b <;> decide +kernel)
end Dl

/-! D9: more of own lists; while; in, index; zip of tuples -/
namespace Dl
open PySem PySem.Spec PyProof.Rows L2
theorem cutD_mem {es : List PyData} {lo hi : Option Int} {x : PyData} (h : x ∈ Dl.cutD es lo hi) : x ∈ es := List.mem_of_mem_drop (List.mem_of_mem_take h)
theorem cutD_len {es : List PyData} {lo hi : Option Int} : (Dl.cutD es lo hi).length ≤ es.length := by
  unfold Dl.cutD
  rw [List.length_take, List.length_drop]
  omega
theorem own_set {A : List Addr} {Δ : List Sl} {i : Nat} {t : Addr} {ds ds' : List PyData} (h : Δ[i]? = some (.m t ds)) (hm : ∀ (k : Nat) t ds, Δ[k]? = some (Sl.m t ds) → t ∈ A) : ∀ (k : Nat) t' es, (Δ.set i (.m t ds'))[k]? = some (Sl.m t' es) → t' ∈ A := fun k t' es e => by
  rw [List.getElem?_set] at e
  by_cases hk : i = k
  · rw [if_pos hk] at e
    split at e
    · cases e
      exact hm i t ds h
    · cases e
  · rw [if_neg hk] at e
    exact hm k t' es e
theorem map_erase {α β : Type} (f : α → β) : ∀ (l : List α) (k : Nat), (l.map f).eraseIdx k = (l.eraseIdx k).map f
  | [], _ => rfl
  | _ :: _, 0 => rfl
  | x :: r, k + 1 => congrArg (f x :: ·) (map_erase f r k)
/-- len of a list or a tuple -/
abbrev rLenK (K : PySem.W.Frag) : List V → Hp → VK → Prop := fun xs H Q => ∃ p ys, xs = [.ref p] ∧ (SqL K H p ys ∨ SqT K H p ys) ∧ Q (.int ys.length) H
theorem DtA.set {H : Hp} {A : List Addr} {v : V} {d : PyData} (h : Dt H A v d) : ∀ {ds : List PyData} {vs : List V} (j : Nat), DtA H A vs ds → DtA H A (vs.set j v) (ds.set j d)
  | _, _, _, .nil => .nil
  | _, _, 0, .cons _ t => .cons h t
  | _, _, j + 1, .cons a t => .cons a (DtA.set h j t)
theorem DtA.eraseIdx {H : Hp} {A : List Addr} : ∀ {ds : List PyData} {vs : List V} (j : Nat), DtA H A vs ds → DtA H A (vs.eraseIdx j) (ds.eraseIdx j)
  | _, _, _, .nil => .nil
  | _, _, 0, .cons _ t => t
  | _, _, j + 1, .cons a t => .cons a (DtA.eraseIdx j t)
section
variable {F : Fm} {A : List Addr} {Δ : List Sl} {K : PySem.W.Frag} {te ti tb to : TE} {tt : TT} {ts : TS} {ta : TA} {t1 t2 : TE} {E : En} {i j : Nat} {q : PyData → Prop}
theorem sq_parMM (hij : i ≠ j) (h : EvN F A Δ t1 fun ds => ∀ t, t ∉ A → EvN F (t :: A) Δ t2 fun es => ∀ u, u ∉ t :: A → E.nx (u :: t :: A) ((Δ.set i (.m t ds)).set j (.m u es))) :
    Sq F A Δ (tPar i j (tCons t1 (tCons t2 tNil))) E := fun H0 σ H s D n r b c =>
  h H0 σ H s _ fun p vs ds H1 s1 f1 np e dt k => by
    have nA : p ∉ A := fun z => s.trk p z np
    have nm : p ∉ F.m := fun z => nA (s.sub p z)
    refine k p nA H0 σ H1 s1 _ fun u us es H2 s2 f2 nu eu du k2 => ⟨_, _, rfl, ?_⟩
    have e2 : H2 p = some (.lst vs) := f2.keep _ _ e nm
    have nuA : u ∉ p :: A := fun z => s1.trk u z nu
    have num : u ∉ F.m := fun z => nuA (List.mem_cons_of_mem _ (s.sub u z))
    have dt2 : DtA H2 (u :: p :: A) vs ds := (dt.add nu).mono f2 fun a h => List.mem_cons_of_mem _ (List.mem_cons_of_mem _ (s.sub a h))
    have a1 := s2.set (i := i) (v := .ref p) (x := .m p ds) ⟨rfl, List.mem_cons_of_mem _ List.mem_cons_self, nm, s.fr.free np, vs, e2, dt2⟩ (fun t es et jj fs _ hj => by
      cases et
      exact nA (s.mem hj))
    have a2 := a1.set (i := j) (v := .ref u) (x := .m u es) ⟨rfl, List.mem_cons_self, num, s1.fr.free nu, us, eu, du⟩ (fun t es et jj fs hne hj => by
      cases et
      rw [List.getElem?_set] at hj
      by_cases hi : i = jj
      · rw [if_pos hi] at hj
        split at hj
        · cases hj
          exact nuA List.mem_cons_self
        · cases hj
      · rw [if_neg hi] at hj
        exact nuA (List.mem_cons_of_mem _ (s.mem hj)))
    refine n (u :: p :: A) _ _ H2 ⟨fun _ h => List.mem_cons_of_mem _ (List.mem_cons_of_mem _ h), fun a h => ?_, (f1.trans f2).more s.sub, a2⟩ (k2 u nuA)
    rcases List.mem_cons.mp h with rfl | h
    · exact .inr (f1.free nu)
    · rcases List.mem_cons.mp h with rfl | h
      · exact .inr np
      · exact .inl h
/-- while, by a measure -/
theorem sq_while (Inv : Nat → List Sl → Prop) {m0 : Nat} (i0 : Inv m0 Δ)
    (step : ∀ m Δ', Inv m Δ' → (∀ (k : Nat) t ds, Δ'[k]? = some (Sl.m t ds) → t ∈ A) → EvT F A Δ' tt fun b => (b = true → Sq F A Δ' ts { nx := Back A fun Δ3 => ∃ m', m' < m ∧ Inv m' Δ3, rt := E.rt, bk := E.nx, ct := Back A fun Δ3 => ∃ m', m' < m ∧ Inv m' Δ3 }) ∧ (b = false → E.nx A Δ')) :
    Sq F A Δ (tWhile tt ts) E := fun H0 σ H s D n r b c => by
  refine ⟨fun m σ' H' => ∃ Δ', Inv m Δ' ∧ Go F H0 A H A Δ' σ' H', ⟨m0, Δ, i0, .refl s⟩, ?_⟩
  rintro m σ' H' ⟨Δ', iv, g0⟩
  have s2 := g0.st
  refine step m Δ' iv (fun _ _ _ e => s2.mem e) H0 σ' H' s2 _ fun bb H1 s3 f1 ⟨k1, k2⟩ => ?_
  have g1 : Go F H0 A H A Δ' σ' H1 := g0.trans (.of s3 (f1.more s.sub))
  cases bb with
  | true =>
    rw [if_pos rfl]
    refine ⟨fun σ3 H3 => ∃ m', m' < m ∧ ∃ Δ3, Inv m' Δ3 ∧ Go F H0 A H A Δ3 σ3 H3, fun σ3 H3 z => z, ?_⟩
    have nxt : ∀ A' Δ2 σ4 H4, Go F H0 A H1 A' Δ2 σ4 H4 → Back A (fun Δ3 => ∃ m', m' < m ∧ Inv m' Δ3) A' Δ2 → ∃ m', m' < m ∧ ∃ Δ3, Inv m' Δ3 ∧ Go F H0 A H A Δ3 σ4 H4 := fun A' Δ2 σ4 H4 g2 ⟨Δ3, wk, hm', m', l, iv'⟩ =>
      ⟨m', l, Δ3, iv', .of ((g2.st.weak wk).cut g2.sub s.sub hm') (g1.trans g2).fr⟩
    exact k1 rfl H0 σ' H1 s3 _ nxt r (fun A2 Δ2 σ4 H4 g2 q2 => n A2 Δ2 σ4 H4 (g1.trans g2) q2) nxt
  | false =>
    rw [if_neg Bool.false_ne_true]
    exact n A Δ' σ' H1 g1 (k2 rfl)
/-- an own list handed back -/
theorem sq_retM {t : Addr} {ds : List PyData} (h : Δ[i]? = some (.m t ds)) (hq : E.rt (.list ds)) : Sq F A Δ (tRet (tVar i)) E := fun H0 σ H s D n r b c => by
  obtain ⟨o, ho, e0, tA, tm, t0, vs, ht, hv⟩ := s.env i _ h
  subst e0
  refine ⟨_, ho, ?_⟩
  exact r (A.filter fun a => a != t) _ _ H (fun a ha hz => List.mem_filter.mpr ⟨ha, by simp; rintro rfl; exact hz t0⟩) s.fr s.inv (.lst ht (fun z => by simpa using (List.mem_filter.mp z).2) (hv.less fun a z => (List.mem_filter.mp z).1)) hq
/-- xs.append(ys.pop(k)), both own -/
theorem sq_appendPop {t u : Addr} {ds es : List PyData} (h1 : Δ[i]? = some (.m t ds)) (h2 : Δ[j]? = some (.m u es)) (hij : i ≠ j)
    (he : Ev F A Δ te fun d => ∃ k : Nat, d = .int k ∧ k < 1000000 ∧ ds.length < 100000 ∧ ∃ x, es[k]? = some x ∧ E.nx A ((Δ.set j (.m u (es.eraseIdx k))).set i (.m t (ds ++ [x])))) :
    Sq F A Δ (tDrop (tBM K "list" rAppend (tVar i) (tCons (tBM K "list" rPopAt (tVar j) (tCons te tNil)) tNil))) E := fun H0 σ H s D n r b c => by
  obtain ⟨o, ho, e0, tA, tm, t0, vs, ht, hv⟩ := s.env i _ h1
  obtain ⟨o2, ho2, e02, uA, um, u0, us, hu, hw⟩ := s.env j _ h2
  subst e0 e02
  refine ⟨_, ho, .inl ⟨rfl, vs, .of ht⟩, _, ho2, .inl ⟨rfl, us, .of hu⟩, ?_⟩
  refine he H0 σ H s _ fun v d H1 s1 f1 hd ⟨k, ed, k6, kl, x, hx, kk⟩ => ?_
  subst ed
  cases hd
  obtain ⟨_, _, _, _, _, _, us1, hu1, hw1⟩ := s1.env j _ h2
  obtain ⟨y, hy, dy⟩ := hw1.getD hx
  have hk : k < us1.length := (List.getElem?_eq_some_iff.mp hy).1
  refine ⟨u, us1, (k : Int), k, y, rfl, rfl, hu1, by omega, by omega, ?_, hy, ?_⟩
  · refine (ixN_seq (n := us1.length) (i := (k : Int)) ?_).1
    unfold ixN
    rw [if_pos (by omega), if_pos (by omega), Int.toNat_natCast]
  have s2 := s1.put h2 (hw1.eraseIdx k)
  have f2 : Fr [u] H1 (upd H1 u (.lst (us1.eraseIdx k))) := .put List.mem_cons_self
  have sub1 : ∀ a ∈ [u], a ∈ A := fun a z => by
    rw [List.mem_singleton.mp z]
    exact uA
  have h1' : (Δ.set j (.m u (es.eraseIdx k)))[i]? = some (.m t ds) := by
    rw [List.getElem?_set_ne (fun z => hij z.symm)]
    exact h1
  have dy2 := dy.mono f2 sub1
  generalize upd H1 u (.lst (us1.eraseIdx k)) = H2 at s2 f2 dy2
  obtain ⟨_, _, _, _, _, _, vs2, ht2, hv2⟩ := s2.env i _ h1'
  refine ⟨t, vs2, y, rfl, rfl, ht2, by rw [hv2.length, sizeLine_eq]; omega, ?_⟩
  exact n A _ _ _ (.of (s2.put h1' (hv2.append (.cons dy2 .nil))) (((f1.more s.sub).trans (f2.more sub1)).trans (.put tA))) kk
/-- xs[k] = e, own -/
theorem sq_storeM {t : Addr} {ds : List PyData} (h : Δ[i]? = some (.m t ds)) (he : Ev F A Δ te fun d => Ev F A Δ ti fun d2 => ∃ k jj, d2 = .int k ∧ ixN ds.length k = some jj ∧ E.nx A (Δ.set i (.m t (ds.set jj d)))) :
    Sq F A Δ (tAsg te (gSub (tVar i) ti rSetL)) E := fun H0 σ H s D n r b c =>
  he H0 σ H s _ fun v d H1 s1 f1 h1 k1 => by
    obtain ⟨o, ho, e0, tA, tm, t0, vs, ht, hv⟩ := s1.env i _ h
    subst e0
    refine ⟨_, ho, k1 H0 σ H1 s1 _ fun w d2 H2 s2 f2 h2 ⟨k, jj, e, hj, kk⟩ => ?_⟩
    subst e
    cases h2
    obtain ⟨_, _, _, _, _, _, vs2, ht2, hv2⟩ := s2.env i _ h
    refine ⟨t, vs2, k, jj, rfl, rfl, ht2, by rw [hv2.length]; exact hj, ?_⟩
    exact n A _ _ _ (.of (s2.put h (hv2.set (h1.mono f2 s1.sub) jj)) (((f1.trans f2).more s.sub).trans (.put tA))) kk
/-- xs != e, own -/
theorem ev_neDM {t : Addr} {ds : List PyData} (h : Δ[i]? = some (.m t ds)) (hb : Ev F A Δ tb fun d2 => SeqAt.shaped (.list ds) = true ∧ SeqAt.shaped d2 = true ∧ q (.bool (!PyData.eqv (.list ds) d2))) : Ev F A Δ (tOp (rNeD K) (tVar i) tb) q := fun H0 σ H s Q z => by
  obtain ⟨o, ho, e0, tA, tm, t0, vs, ht, hv⟩ := s.env i _ h
  subst e0
  refine ⟨_, ho, hb H0 σ H s _ fun v d H1 s1 f1 h1 ⟨e1, e2, hq⟩ => ?_⟩
  obtain ⟨_, _, _, _, _, _, vs1, ht1, hv1⟩ := s1.env i _ h
  have d1 : Dt H1 [] (.ref t) (.list ds) := .lst ht1 List.not_mem_nil (hv1.less fun _ z => absurd z List.not_mem_nil)
  exact ⟨.list ds, d, d1.dp (SeqAt.canLay_of_shaped e1), h1.dp (SeqAt.canLay_of_shaped e2), e1, e2, z _ _ H1 s1 f1 (.bl _) hq⟩
/-- xs[k], own -/
theorem ev_ixM {t : Addr} {ds : List PyData} (h : Δ[i]? = some (.m t ds)) (hb : Ev F A Δ tb fun d2 => ∃ k d, d2 = .int k ∧ atD ds k = some d ∧ q d) :
    Ev F A Δ (tOp (fun x y H Q => rIxL K x y H Q ∨ rIxT K x y H Q) (tVar i) tb) q := fun H0 σ H s Q z => by
  obtain ⟨o, ho, e0, tA, tm, t0, vs, ht, hv⟩ := s.env i _ h
  subst e0
  refine ⟨_, ho, hb H0 σ H s _ fun v d2 H1 s1 f1 h1 ⟨k, d, e, hd, hq⟩ => ?_⟩
  subst e
  cases h1
  obtain ⟨_, _, _, _, _, _, vs1, ht1, hv1⟩ := s1.env i _ h
  obtain ⟨y, ey, dy⟩ := at_v hv1 hd
  exact .inl ⟨t, vs1, k, y, rfl, rfl, .of ht1, ey, z y d H1 s1 f1 dy hq⟩
/-- list(range(n)) -/
theorem evn_lstRg {q : List PyData → Prop} (h : Ev F A Δ te fun d => ∃ n : Int, d = .int n ∧ -100000 ≤ n ∧ n ≤ 100000 ∧ q (rngD n)) : EvN F A Δ (tLstRg (tRg1 te)) q := fun H0 σ H s Q z =>
  h H0 σ H s _ fun v d H1 s1 f1 h1 ⟨n, e, n1, n2, k⟩ => by
    subst e
    cases h1
    refine ⟨n, rfl, ⟨by omega, by omega, by omega, by omega, by omega⟩, fun p hp => ?_⟩
    have e : rgV 0 n = ((List.range n.toNat).map fun k => ((k : Nat) : Int)).map V.int := by
      unfold rgV
      rw [List.map_map, Int.sub_zero]
      refine List.map_congr_left fun k _ => ?_
      show V.int (0 + (k : Int)) = V.int (k : Int)
      rw [Int.zero_add]
    have e2 : rngD n = ((List.range n.toNat).map fun k => ((k : Nat) : Int)).map PyData.int := by
      unfold rngD
      rw [List.map_map] <;> rfl
    rw [e]
    rw [e2] at k
    exact z p _ _ _ (s1.laidP hp) (f1.trans (.new hp)) (f1.free hp) upd_same (.ints _) k
/-- c in xs, ints -/
theorem ev_inI {neg : Bool} (h : Ev F A Δ te fun d1 => Ev F A Δ tb fun d2 => ∃ (c : Int) (ns : List Int), d1 = .int c ∧ seqD d2 = some (ns.map .int) ∧ q (.bool (if neg then !ns.any (fun y => y == c) else ns.any (fun y => y == c)))) :
    Ev F A Δ (tOp (rIn K neg) te tb) q :=
  ev_op h fun H0 σ H x y d1 d2 s h1 h2 ⟨c, ns, e1, e2, hq⟩ Q z => by
    subst e1
    cases h1
    obtain ⟨a, xs, rfl, hh, hx⟩ := seq_v h2 e2
    have ex := hx.int_inv
    subst ex
    have e : inV (.int c) (ns.map V.int) = ns.any fun y => y == c := by
      unfold inV
      rw [List.any_map] <;> rfl
    refine ⟨a, _, rfl, hh.imp SqL.of SqT.of, rfl, ?_, ?_⟩
    · rw [List.all_map]
      exact List.all_eq_true.mpr fun _ _ => rfl
    · rw [e]
      exact z _ _ H s (.refl _) (.bl _) hq
/-- xs.index(c), ints -/
theorem ev_indexI (h : Ev F A Δ to fun d1 => ∃ ns : List Int, d1 = .list (ns.map .int) ∧ Ev F A Δ te fun d2 => ∃ (c : Int) (k : Nat), d2 = .int c ∧ ns[k]? = some c ∧ (∀ (m : Nat) x, m < k → ns[m]? = some x → x ≠ c) ∧ q (.int (k : Nat))) :
    Ev F A Δ (tBM K "list" (rIndex K) to (tCons te tNil)) q := fun H0 σ H s Q z => by
  refine h H0 σ H s _ fun x d1 H1 s1 f1 h1 ⟨ns, e1, k1⟩ => ?_
  subst e1
  cases h1 with
  | @lst a vs _ hh n t =>
    have ev := t.int_inv
    subst ev
    refine ⟨.inl ⟨rfl, _, .of hh⟩, k1 H0 σ H1 s1 _ fun v d2 H2 s2 f2 h2 ⟨c, k, e2, hk, hno, hq⟩ => ?_⟩
    subst e2
    cases h2
    have hh2 : H2 a = some (.lst (ns.map V.int)) := f2.keep _ _ hh fun z => n (s1.sub a z)
    refine ⟨a, _, .int c, k, .int c, rfl, rfl, .of hh2, rfl, ?_, by rw [List.getElem?_map, hk] <;> rfl, by show (c == c) = true; exact beq_self_eq_true c, fun m z' hm hz => ?_, z _ _ H2 s2 (f1.trans f2) (.int _) hq⟩
    · rw [List.all_map]
      exact List.all_eq_true.mpr fun _ _ => rfl
    · rw [List.getElem?_map] at hz
      cases e : ns[m]? with
      | none => rw [e] at hz; cases hz
      | some y =>
        rw [e] at hz
        cases hz
        show (y == c) = false
        exact beq_eq_false_iff_ne.mpr (hno m y hm e)
/-- zip of two tuples -/
theorem evi_zipT {q : List PyData → Prop} (h : EvA F A Δ ta fun ds => ∃ xs ys, ds = [.tuple xs, .tuple ys] ∧ q (List.zipWith (fun x y => .tuple [x, y]) xs ys)) : EvI F A Δ (RZ.iZipA K ta) q := fun H0 σ H s R z =>
  h H0 σ H s _ fun vs ds H1 s1 f1 h1 ⟨xs, ys, e, k⟩ => by
    subst e
    cases h1 with
    | cons hx ht =>
      cases ht with
      | cons hy ht =>
        cases ht
        cases hx with
        | @tup a vx _ ha na ta =>
          cases hy with
          | @tup b vy _ hb nb tb =>
            have l1 := ta.length
            have l2 := tb.length
            refine ⟨a, b, vx, vy, rfl, .inr ⟨.of ha, .of hb, z _ (List.zipWith (fun x y => .tuple [x, y]) xs ys) H1 s1 f1 ⟨fun B i H' x f hi => ?_, fun B H' x f => ?_, fun B i H' v H'' x f tr hi y => ?_⟩ k⟩⟩
            · rw [List.length_zipWith] at hi
              exact ⟨vx, vy, vx[i], vy[i], .of (frB x f na ha), .of (frB x f nb hb), List.getElem?_eq_getElem (by omega), List.getElem?_eq_getElem (by omega)⟩
            · refine ⟨vx, vy, .of (frB x f na ha), .of (frB x f nb hb), ?_⟩
              rw [List.length_zipWith]
              omega
            · obtain ⟨T, u, w, rfl, nT, rfl, y1, y2⟩ := y
              obtain ⟨d1, e1, hd1⟩ := (dtB x f ta).get (y1 _ (.of (frB x f na ha)))
              obtain ⟨d2, e2, hd2⟩ := (dtB x f tb).get (y2 _ (.of (frB x f nb hb)))
              exact ⟨.new nT, .tuple [d1, d2], by rw [List.getElem?_zipWith, e1, e2], .newT nT tr (.cons hd1 (.cons hd2 .nil))⟩
end
end Dl

/-! S1: sorted of a tuple of ints -/
namespace Dl
open PySem PySem.Spec PyProof.Rows L2
/-- sorted(t), a tuple of ints -/
def rSortT (K : PySem.W.Frag) : List V → Hp → VK → Prop := fun vs H Q => ∃ (a : Addr) (ns : List Int), vs = [V.ref a] ∧ SqT K H a (ns.map V.int) ∧ ns.length < 64 ∧
  ∀ (ms : List Int) (p : Addr), ms.Perm ns → ms.Pairwise (· ≤ ·) → H p = none → Q (.ref p) (upd H p (.lst (ms.map V.int)))
theorem cr_sortT {X : Cx} : CallR X (.builtin "sorted") (rSortT X.K) := by
  intro pins s σ H vs us Q I r h
  obtain ⟨a, ns, rfl, hT, h64, q⟩ := h
  obtain ⟨its, rv, ⟨o, ho, hc, n, hd⟩, _⟩ := I.tuple hT
  rw [Vals.ref1 r]
  have hi := rv.ints
  have hl : its.length = ns.length := hi.length
  refine Calls.call_function_entry kind_sorted plain_sorted entry_sorted (args_sorted1 (.ref a)) ?_
  unfold Builtin.«sorted»
  refine wpAny_bind (m := checkCount "sorted" 1 1 _) (wpAny_pure (wpAny_bind ?_))
  refine wpAny_collect_seq (hsz := by rw [List.size_toArray, sizeLine_eq]; omega) a (.inr rfl) ho hc hd fun h1 k1 => ?_
  have eIts : its.toArray.toList = its := by simp
  rw [eIts]
  refine wpAny_bind (wpAny_newList ?_ (by rw [sizeLine_eq]; omega))
  have hL : (h1.push (seqObj "list" its.toArray 0)).get? h1.objs.size = some (seqObj "list" its.toArray 0) := Heap.get?_push_size _ rfl
  refine wpAny_bind (wpAny_holding (wpAny_call_entry slot_list_sort ⟨_, hL, rfl⟩ entry_list_sort (list_sort_tree hL hi (by omega) fun out ms a1 a2 a3 => ⟨_, rfl, ?_⟩) (args_list_sort _)))
  obtain ⟨c, hcc⟩ := sortedHeap_at (vs := its) (out := out) hL
  have hlen : (ms.map V.int).length ≤ sizeLine := by rw [List.length_map, a2.length_eq, sizeLine_eq]; omega
  have I2 : Inv X pins σ H { s with heap := h1, toks := s.toks } := I.kept k1
  have keep : ∀ b u, h1.get? b = some u → (sortedHeap (h1.push (seqObj "list" its.toArray 0)) h1.objs.size its out).get? b = some u := fun b u e => by
    have lt := Heap.lt_size e
    rw [sortedHeap_old (Nat.ne_of_lt lt) (by rw [size_push']; exact Nat.lt_succ_of_lt lt)]
    exact Heap.get?_push_of_some _ e
  exact wpAny_pure ⟨_, rfl, .ref _, upd H h1.objs.size (.lst (ms.map V.int)), I2.laid (t' := s.toks) keep (Nat.le_refl _) ⟨hlen, out.toList, c, vals_of_ints a1, hcc⟩, rfl, q ms _ a2 a3 (I2.hok.fresh (Nat.le_refl _))⟩
section
variable {F : Fm} {A : List Addr} {Δ : List Sl} {K : PySem.W.Frag} {t : TA}
/-- sorted(t), a tuple of ints -/
theorem evn_sortT {q : List PyData → Prop} (h : EvA F A Δ t fun ds => ∃ ns : List Int, ds = [.tuple (ns.map .int)] ∧ ns.length < 64 ∧ ∀ ms : List Int, ms.Perm ns → ms.Pairwise (· ≤ ·) → q (ms.map .int)) : EvN F A Δ (tCB (rSortT K) t) q := fun H0 σ H s Q z =>
  h H0 σ H s _ fun vs ds H1 s1 f1 h1 ⟨ns, e, h64, k⟩ => by
    subst e
    cases h1 with
    | cons hd ht =>
      cases ht
      cases hd with
      | @tup a xs _ hh n t =>
        have ex := t.int_inv
        subst ex
        exact ⟨a, ns, rfl, .of hh, h64, fun ms p pm pw hp => z p _ _ _ (s1.laidP hp) (f1.trans (.new hp)) (f1.free hp) upd_same (.ints ms) (k ms pm pw)⟩
end
end Dl

/-! S2: t[::-1] of a tuple -/
namespace Dl
open PySem PySem.Spec PyProof.Rows L2
section
variable {prog : Program} {w : World} {A : Around} {E : Value → Shared → Prop} {s : Shared}
theorem back_applied {sl : Addr} {u : Tok} {n : Nat} {Q : Int × Int × Nat → Shared → Prop} (hs : s.heap.IsSliceOf sl .none .none (.int (-1) u)) (h : Q ((n : Int) - 1, -1, n) s) :
    wpAny (model prog w) A (Builtin.Slice.sliceApplied (.ref sl) (pure (n : Int))) Q E s := by
  obtain ⟨o, ho, hc, hd⟩ := id hs
  unfold Builtin.Slice.sliceApplied Builtin.Slice.sliceFields
  refine wpAny_bind (wpAny_bind (wpAny_field ho hd (x := .none) rfl (wpAny_bind (wpAny_field ho hd (x := .none) rfl (wpAny_bind (wpAny_field ho hd (x := .int (-1) u) rfl (wpAny_pure ?_)))))))
  refine wpAny_bind (HT.slicePart_ (.int (-1) u) ?_)
  show wpAny _ _ (if ((-1 : Int) == 0) = true then _ else _) _ _ s
  rw [if_neg (by decide)]
  refine wpAny_bind (HT.slicePart_ .none (wpAny_bind (HT.slicePart_ .none (wpAny_bind (wpAny_pure ?_)))))
  have e : Builtin.Slice.sliceAdjust none none (-1) (n : Int) = ((n : Int) - 1, -1) := by
    rfl
  show wpAny _ _ (match Builtin.Slice.sliceAdjust none none (-1) (n : Int) with | (lo, hi) => pure (lo, (-1 : Int), Builtin.Slice.slicePlaces lo hi (-1))) _ _ s
  rw [e]
  have e2 : Builtin.Slice.slicePlaces ((n : Int) - 1) (-1) (-1) = n := by
    unfold Builtin.Slice.slicePlaces
    simp
    omega
  show wpAny _ _ (pure ((n : Int) - 1, (-1 : Int), Builtin.Slice.slicePlaces ((n : Int) - 1) (-1) (-1))) _ _ s
  rw [e2]
  exact wpAny_pure h
theorem fm_map {α β : Type} {f : α → Option β} {g : α → β} : ∀ {l : List α}, (∀ k ∈ l, f k = some (g k)) → l.filterMap f = l.map g
  | [], _ => rfl
  | x :: r, h => by
    rw [List.filterMap_cons_some (h x List.mem_cons_self), fm_map fun k hk => h k (List.mem_cons_of_mem _ hk)] <;> rfl
theorem back_pick (xs : List Value) : (((List.range xs.length).filterMap fun (k : Nat) => xs.toArray[(((xs.length : Nat) : Int) - 1 + (k : Int) * -1).toNat]?).toArray) = xs.reverse.toArray := by
  refine congrArg List.toArray ?_
  have e : ∀ k ∈ List.range xs.length, xs.toArray[(((xs.length : Nat) : Int) - 1 + (k : Int) * -1).toNat]? = some (xs.getD (xs.length - 1 - k) .none) := fun k hk => by
    have hk' := List.mem_range.mp hk
    have ei : (((xs.length : Nat) : Int) - 1 + (k : Int) * -1).toNat = xs.length - 1 - k := by omega
    rw [ei]
    have hl : xs.length - 1 - k < xs.length := by omega
    rw [List.getElem?_toArray, List.getElem?_eq_getElem hl, List.getD_eq_getElem?_getD, List.getElem?_eq_getElem hl] <;> rfl
  rw [fm_map e]
  refine List.ext_getElem (by simp) fun i h1 h2 => ?_
  simp only [List.length_map, List.length_range] at h1
  have hl : xs.length - 1 - i < xs.length := by omega
  rw [List.getElem_map, List.getElem_range, List.getElem_reverse, List.getD_eq_getElem?_getD, List.getElem?_eq_getElem hl] <;> rfl
theorem back_item {t sl : Addr} {xs : List Value} {u : Tok} {Q : Value → Shared → Prop} (ht : IsTup s.heap t xs.toArray) (hs : s.heap.IsSliceOf sl .none .none (.int (-1) u)) (hz : xs.length ≤ sizeLine)
    (h : Q (.ref s.heap.objs.size) { s with heap := s.heap.push { cls := .type "tuple", data := .seq xs.reverse.toArray } }) : wpAny (model prog w) A (getItem (.ref t) (.ref sl)) Q E s := by
  have fits : sizeOk (.seq xs.reverse.toArray) := by
    show xs.reverse.toArray.size ≤ sizeLine
    rw [List.size_toArray, List.length_reverse]
    exact hz
  have isS : s.TypeIs (.ref sl) "slice" := let ⟨o, ho, hc, _⟩ := hs; ⟨o, ho, hc⟩
  unfold getItem
  try with_reducible refine wpAny_holding ?_
  try refine wpAny_bind (wpAny_pure ?_)
  refine wpAny_bind (wpAny_sequenceKey (IsTup.typeIs ht) (by decide) (wpAny_bind ?_))
  refine wpAny_callSpecial?_slot (name := Str.ofString "__getitem__") (IsTup.typeIs ht) PyProof.Rows.slot_tuple_getitem (wpAny_call_entry PyProof.Rows.slot_tuple_getitem (IsTup.typeIs ht) entry_tuple_getitem ?_ (args_tuple_getitem (.ref t) (.ref sl)))
  show wpAny _ _ (Builtin.Tuple.tupleItemsOf (.ref t) >>= _) _ _ s
  refine wpAny_bind (tupleItemsOf_ ht (wpAny_bind (wpAny_typeOf isS ?_)))
  rw [if_pos (by decide)]
  refine wpAny_bind (back_applied (n := xs.toArray.size) hs ?_)
  show wpAny _ _ (if (((xs.toArray.size : Nat) : Int) - 1 == 0 && (-1 : Int) == 1 && xs.toArray.size == xs.toArray.size) = true then _ else _) _ _ s
  rw [if_neg (by simp)]
  have ep := back_pick xs
  rw [← List.size_toArray] at ep
  rw [ep]
  first
    | exact wpAny_bind (m := Builtin.Tuple.tupleExact xs.reverse.toArray) (wpAny_newObj_type (wpAny_pure ⟨_, rfl, wpAny_pure h⟩) fits)
    | exact wpAny_bind (m := Builtin.Tuple.tupleExact xs.reverse.toArray) (wpAny_newObj_type (wpAny_bind (wpAny_pure (wpAny_pure ⟨_, rfl, wpAny_pure h⟩))) fits)
    | exact wpAny_bind (wpAny_bind (m := Builtin.Tuple.tupleExact xs.reverse.toArray) (wpAny_newObj_type (wpAny_pure (wpAny_pure ⟨_, rfl, wpAny_pure h⟩)) fits))
    | exact wpAny_bind (wpAny_bind (m := Builtin.Tuple.tupleExact xs.reverse.toArray) (wpAny_newObj_type (wpAny_pure ⟨_, rfl, wpAny_pure h⟩) fits))
end
section
variable {X : Cx} {e st : Expr} {te : TE} {ts : TO} {pos p2 : Pos}
/-- t[::-1], a tuple -/
def tTupBack (K : PySem.W.Frag) (te : TE) (ts : TO) : TE := fun σ H Q => te σ H fun x H1 => ts σ H1 fun o H2 => o = some (-1) ∧ ∃ a xs, x = .ref a ∧ SqT K H2 a xs ∧ ∀ p, H2 p = none → Q (.ref p) (upd H2 p (.tup xs.reverse))
theorem vals_rev : ∀ {xs : List V} {us : List Value}, Vals xs us → Vals xs.reverse us.reverse
  | _, _, .nil => .nil
  | _, _, .cons h t => by
    rw [List.reverse_cons, List.reverse_cons]
    exact (vals_rev t).append (.cons h .nil)
theorem pe_tupBack (he : PE X e te) (hs : PO X (some st) ts) : PE X (.Subscript e (.Slice none none (some st) p2) pos) (tTupBack X.K te ts) := by
  refine ⟨fun pins s σ H Q I h => Subscript_ (thn (he.run pins s σ H _ I h) fun v s1 ⟨x, H1, I1, r1, q1⟩ => wpAny_Slice ?_)⟩
  rw [evalPart_none]
  refine wpAny_pure (wpAny_pure (thn (hs.run pins s1 σ H1 _ I1 q1) fun u s3 ⟨o, H3, I3, pu, eo, a, xs, ex, hT, q3⟩ => ?_))
  subst eo ex
  cases r1
  cases pu with
  | int i tk =>
    have I4 : Inv X pins σ H3 { s3 with heap := s3.heap.push { cls := .type "slice", data := .fields #[.none, .none, .int (-1) tk] } } := I3.kept (t' := s3.toks) fun b ob q => Heap.get?_push_of_some _ q
    obtain ⟨its, r, ht, hz⟩ := I4.tuple hT
    show wpAny (model X.prog X.w) X.A (subscriptTail e (.Slice none none (some st) p2) (.ref a) (.ref s3.heap.objs.size)) (EP X pins σ Q) X.xe { s3 with heap := s3.heap.push { cls := .type "slice", data := .fields #[.none, .none, .int (-1) tk] } }
    refine tail_any (T := "tuple") (ops := [.ref a, .ref s3.heap.objs.size]) ht.typeIs PyProof.Rows.slot_tuple_getitem.lookup (back_item ht (Heap.IsSliceOf.new ..) (by rw [← r.length]; exact hz) ?_) rfl
    refine ⟨.ref _, _, I4.laid (t' := s3.toks) (o := .tup xs.reverse) (fun b ob q => Heap.get?_push_of_some _ q) (Nat.le_refl _) ?_, rfl, q3 _ (I4.hok.fresh (Nat.le_refl _))⟩
    exact ⟨by rw [List.length_reverse]; exact hz, _, vals_rev r, IsTup.new _ _⟩
end
theorem DtA.rev {H : Hp} {A : List Addr} : ∀ {ds : List PyData} {vs : List V}, DtA H A vs ds → DtA H A vs.reverse ds.reverse
  | _, _, .nil => .nil
  | _, _, .cons h t => by
    rw [List.reverse_cons, List.reverse_cons]
    exact (DtA.rev t).append (.cons h .nil)
section
variable {F : Fm} {A : List Addr} {Δ : List Sl} {K : PySem.W.Frag} {te : TE} {ts : TO} {q : PyData → Prop}
theorem ev_back (h : Ev F A Δ te fun d => EvO F A Δ ts fun o => o = some (-1) ∧ ∃ es, d = .tuple es ∧ q (.tuple es.reverse)) : Ev F A Δ (tTupBack K te ts) q := fun H0 σ H s Q z =>
  h H0 σ H s _ fun v d H1 s1 f1 h1 k1 => k1 H0 σ H1 s1 _ fun o H2 s2 f2 ⟨eo, es, ed, hq⟩ => by
    subst ed
    cases h1 with
    | @tup a xs _ hh n t =>
      have hh2 : H2 a = some (.tup xs) := f2.keep _ _ hh fun z => n (s1.sub a z)
      refine ⟨eo, a, xs, rfl, .of hh2, fun p hp => z _ _ _ (s2.laid hp) ((f1.trans f2).trans (.new hp)) ?_ hq⟩
      exact .newT hp s2.trk (DtA.rev (t.mono f2 s1.sub))
end
end Dl

/-! D10: max, min, abs of ints; sorted of a list; is None; a triple as a target -/
namespace Dl
open PySem PySem.Spec PyProof.Rows L2
section
variable {F : Fm} {A : List Addr} {Δ : List Sl} {K : PySem.W.Frag} {te ta tb : TE} {t : TA} {q : PyData → Prop}
theorem ev_max2 (h : EvA F A Δ t fun ds => ∃ i j : Int, ds = [.int i, .int j] ∧ q (.int (max i j))) : Ev F A Δ (tCB (fun xs H Q => ∃ i j, xs = [.int i, .int j] ∧ Q (.int (if j > i then j else i)) H) t) q := fun H0 σ H s Q z =>
  h H0 σ H s _ fun vs ds H1 s1 f1 h1 ⟨i, j, e, k⟩ => by
    subst e
    cases h1 with
    | cons ha ht =>
      cases ht with
      | cons hb ht =>
        cases ht; cases ha; cases hb
        have em : (if j > i then j else i) = max i j := by
          split <;> omega
        refine ⟨i, j, rfl, ?_⟩
        rw [em]
        exact z _ _ H1 s1 f1 (.int _) k
theorem ev_min2 (h : EvA F A Δ t fun ds => ∃ i j : Int, ds = [.int i, .int j] ∧ q (.int (min i j))) : Ev F A Δ (tCB (fun xs H Q => ∃ i j, xs = [.int i, .int j] ∧ Q (.int (if j < i then j else i)) H) t) q := fun H0 σ H s Q z =>
  h H0 σ H s _ fun vs ds H1 s1 f1 h1 ⟨i, j, e, k⟩ => by
    subst e
    cases h1 with
    | cons ha ht =>
      cases ht with
      | cons hb ht =>
        cases ht; cases ha; cases hb
        have em : (if j < i then j else i) = min i j := by
          split <;> omega
        refine ⟨i, j, rfl, ?_⟩
        rw [em]
        exact z _ _ H1 s1 f1 (.int _) k
theorem ev_abs (h : EvA F A Δ t fun ds => ∃ i : Int, ds = [.int i] ∧ q (.int (if i < 0 then -i else i))) : Ev F A Δ (tCB (fun xs H Q => ∃ i, xs = [.int i] ∧ Q (.int (if i < 0 then -i else i)) H) t) q := fun H0 σ H s Q z =>
  h H0 σ H s _ fun vs ds H1 s1 f1 h1 ⟨i, e, k⟩ => by
    subst e
    cases h1 with
    | cons ha ht =>
      cases ht; cases ha
      exact ⟨i, rfl, z _ _ H1 s1 f1 (.int _) k⟩
/-- sorted(xs), a list of ints -/
theorem evn_sortI {q : List PyData → Prop} (h : EvA F A Δ t fun ds => ∃ ns : List Int, ds = [.list (ns.map .int)] ∧ ∀ ms : List Int, ms.Perm ns → ms.Pairwise (· ≤ ·) → q (ms.map .int)) : EvN F A Δ (tCB (rSortedI K) t) q := fun H0 σ H s Q z =>
  h H0 σ H s _ fun vs ds H1 s1 f1 h1 ⟨ns, e, k⟩ => by
    subst e
    cases h1 with
    | cons hd ht =>
      cases ht
      cases hd with
      | @lst a xs _ hh n t =>
        have ex := t.int_inv
        subst ex
        exact ⟨a, ns, rfl, .of hh, fun ms p pm pw hp => z p _ _ _ (s1.laidP hp) (f1.trans (.new hp)) (f1.free hp) upd_same (.ints ms) (k ms pm pw)⟩
def isNonD : PyData → Bool
  | .none => true
  | _ => false
theorem non_v {H : Hp} {v : V} {d : PyData} (h : Dt H A v d) : decide (v = V.non) = isNonD d := by
  cases h <;> first | rfl | exact decide_eq_false (fun z => nomatch z)
/-- x is None -/
theorem ev_isN (h : Ev F A Δ te fun d => q (.bool (isNonD d))) : Ev F A Δ (tOp (fun x y H Q => y = .non ∧ Q (.bl (decide (x = .non))) H) te (tC .non)) q := fun H0 σ H s Q z =>
  h H0 σ H s _ fun v d H1 s1 f1 h1 k => ⟨rfl, by rw [non_v h1]; exact z _ _ H1 s1 f1 (.bl _) k⟩
theorem ev_notN (h : Ev F A Δ te fun d => q (.bool (!isNonD d))) : Ev F A Δ (tOp (fun x y H Q => y = .non ∧ Q (.bl (!decide (x = .non))) H) te (tC .non)) q := fun H0 σ H s Q z =>
  h H0 σ H s _ fun v d H1 s1 f1 h1 k => ⟨rfl, by rw [non_v h1]; exact z _ _ H1 s1 f1 (.bl _) k⟩
end
/-- a, b, c = .. -/
def uThree (i j k : Nat) : PyData → List Sl → Option (List Sl)
  | .tuple [x, y, z], Δ => some (((Δ.set i (.d x)).set j (.d y)).set k (.d z))
  | _, _ => none
theorem tg_three {K : PySem.W.Frag} (i j k : Nat) : TgD (gTup K 3 (gCons (gName i) (gCons (gName j) (gCons (gName k) gNil)))) (uThree i j k) [i, j, k] := fun F H0 H A Δ Δ' σ v d s h e Q q => by
  unfold uThree at e
  split at e
  · rename_i x y z
    cases e
    cases h with
    | tup hh nn t =>
      cases t with
      | cons hx t =>
        cases t with
        | cons hy t =>
          cases t with
          | cons hz t =>
            cases t
            refine ⟨_, _, rfl, .of hh, rfl, _, _, rfl, _, _, rfl, _, _, rfl, rfl, q _ (((s.setD hx).setD hy).setD hz) (by rw [List.length_set, List.length_set, List.length_set]) fun n hn => ?_⟩
            simp only [List.mem_cons, List.not_mem_nil, or_false, not_or] at hn
            rw [List.getElem?_set_ne (fun w => hn.2.2 w.symm), List.getElem?_set_ne (fun w => hn.2.1 w.symm), List.getElem?_set_ne (fun w => hn.1 w.symm)]
  · cases e
/-- a, (b, c, d) = .. -/
def uOneThree (i j k l : Nat) : PyData → List Sl → Option (List Sl)
  | .tuple [w, .tuple [x, y, z]], Δ => some ((((Δ.set i (.d w)).set j (.d x)).set k (.d y)).set l (.d z))
  | _, _ => none
theorem tg_oneThree {K : PySem.W.Frag} (i j k l : Nat) : TgD (gTup K 2 (gCons (gName i) (gCons (gTup K 3 (gCons (gName j) (gCons (gName k) (gCons (gName l) gNil)))) gNil))) (uOneThree i j k l) [i, j, k, l] := fun F H0 H A Δ Δ' σ v d s h e Q q => by
  unfold uOneThree at e
  split at e
  · rename_i w x y z
    cases e
    cases h with
    | tup hh nn t =>
      cases t with
      | cons hw t =>
        cases t with
        | cons ht t =>
          cases t
          cases ht with
          | tup hh2 nn2 t =>
            cases t with
            | cons hx t =>
              cases t with
              | cons hy t =>
                cases t with
                | cons hz t =>
                  cases t
                  refine ⟨_, _, rfl, .of hh, rfl, _, _, rfl, _, _, rfl, ?_⟩
                  refine ⟨_, _, rfl, .of hh2, rfl, _, _, rfl, _, _, rfl, _, _, rfl, rfl, rfl, q _ ((((s.setD hw).setD hx).setD hy).setD hz) (by rw [List.length_set, List.length_set, List.length_set, List.length_set]) fun n hn => ?_⟩
                  simp only [List.mem_cons, List.not_mem_nil, or_false, not_or] at hn
                  rw [List.getElem?_set_ne (fun w => hn.2.2.2 w.symm), List.getElem?_set_ne (fun w => hn.2.2.1 w.symm), List.getElem?_set_ne (fun w => hn.2.1 w.symm), List.getElem?_set_ne (fun w => hn.1 w.symm)]
  · cases e
end Dl

/-! D11: sum of a tuple of ints -/
namespace Dl
open PySem PySem.Spec PyProof.Rows L2
def rSumT (K : PySem.W.Frag) : List V → Hp → VK → Prop := fun vs H Q => ∃ (a : Addr) (ns : List Int), vs = [V.ref a] ∧ SqT K H a (ns.map V.int) ∧ Q (.int ns.sum) H
theorem cr_sumT {X : Cx} (hc : X.calm = true) : CallR X (.builtin "sum") (rSumT X.K) := by
  intro pins s σ H vs us Q I r h
  obtain ⟨a, ns, rfl, hs, q⟩ := h
  obtain ⟨its, rv, hl, _⟩ := I.tuple hs
  rw [Vals.ref1 r]
  have hi := rv.ints
  obtain ⟨xs, e⟩ := hi.allInts.items
  have hn : numsOf (intItems xs).toList = ns := by rw [← e]; exact hi.numsOf
  rw [nums_intItems] at hn
  rw [e] at hl
  refine PySem.W.ktm_sumG (I.ok.hd hc) hl fun h' tk t' hk => ?_
  rw [preSum_eq, List.take_of_length_le (by simp), hn]
  exact ⟨.int _, H, I.kept hk, ⟨_, rfl⟩, q⟩
section
variable {F : Fm} {A : List Addr} {Δ : List Sl} {K : PySem.W.Frag} {t : TA} {q : PyData → Prop}
theorem ev_sumT (h : EvA F A Δ t fun ds => ∃ ns : List Int, ds = [.tuple (ns.map .int)] ∧ q (.int ns.sum)) : Ev F A Δ (tCB (rSumT K) t) q := fun H0 σ H s Q z =>
  h H0 σ H s _ fun vs ds H1 s1 f1 h1 ⟨ns, e, k⟩ => by
    subst e
    cases h1 with
    | cons hd ht =>
      cases ht
      cases hd with
      | @tup a xs _ hh n t =>
        have ex := t.int_inv
        subst ex
        exact ⟨a, ns, rfl, .of hh, z _ _ H1 s1 f1 (.int _) k⟩
end
end Dl

/-! D12: an own list that is written no more; own lists read -/
namespace Dl
open PySem PySem.Spec PyProof.Rows L2
section
variable {F : Fm} {A : List Addr} {Δ : List Sl} {K : PySem.W.Frag} {te tb : TE} {tt : TT} {ts : TS} {wi : TI} {t : TA} {E : En} {i : Nat} {q : PyData → Prop}
/-- from here to the return the own list is data -/
theorem sq_freeze {u : Addr} {ds : List PyData} (h : Δ[i]? = some (.m u ds)) (k : Sq F (A.filter fun a => a != u) (Δ.set i (.d (.list ds))) ts { nx := fun _ _ => False, rt := E.rt }) : Sq F A Δ ts E := fun H0 σ H s D n r b c => by
  obtain ⟨o, ho, e0, uA, um, u0, vs, hu, hv⟩ := s.env i _ h
  subst e0
  have sub : ∀ a ∈ A.filter (fun a => a != u), a ∈ A := fun a z => (List.mem_filter.mp z).1
  have out : u ∉ A.filter (fun a => a != u) := fun z => by simpa using (List.mem_filter.mp z).2
  have stay : ∀ a ∈ A, a ≠ u → a ∈ A.filter (fun a => a != u) := fun a z ne => List.mem_filter.mpr ⟨z, by simpa using ne⟩
  have ho' : i < σ.length := (List.getElem?_eq_some_iff.mp ho).1
  have hσ : σ.set i (some (.ref u)) = σ := by
    refine List.ext_getElem? fun j => ?_
    rw [List.getElem?_set]
    by_cases hj : i = j
    · subst hj
      rw [if_pos rfl, if_pos ho', ho]
    · rw [if_neg hj]
  have s2 : S F H0 (A.filter fun a => a != u) (Δ.set i (.d (.list ds))) σ H := by
    refine ⟨s.fr, s.inv, fun a z => stay a (s.sub a z) (fun e => um (by rw [← e]; exact z)), fun a z => s.trk a (sub a z), by rw [List.length_set]; exact s.len, fun j x e => ?_, fun j l v es fs h1 h2 => ?_⟩
    · rw [List.getElem?_set] at e
      by_cases hj : i = j
      · subst hj
        rw [if_pos rfl] at e
        split at e
        · cases e
          exact ⟨_, ho, _, rfl, .lst hu out (hv.less sub)⟩
        · cases e
      · rw [if_neg hj] at e
        obtain ⟨y, g1, g2⟩ := s.env j x e
        refine ⟨y, g1, ?_⟩
        cases x with
        | no => trivial
        | d d => obtain ⟨v, e1, hd⟩ := g2; exact ⟨v, e1, hd.less sub⟩
        | v v => exact g2
        | m w es =>
          obtain ⟨e1, a1, n1, z1, vs2, h3, q3⟩ := g2
          exact ⟨e1, stay w a1 (fun ew => hj (s.apart i j u _ _ h (by rw [← ew]; exact e))), n1, z1, vs2, h3, q3.less sub⟩
    · rw [List.getElem?_set] at h1 h2
      by_cases hj : i = j
      · rw [if_pos hj] at h1
        split at h1 <;> cases h1
      · by_cases hl : i = l
        · rw [if_pos hl] at h2
          split at h2 <;> cases h2
        · rw [if_neg hj] at h1
          rw [if_neg hl] at h2
          exact s.apart j l v _ _ h1 h2
  refine k H0 σ H s2 D (fun _ _ _ _ _ z => z.elim) (fun A' v d H' z f i dt hr => ?_) (fun _ _ _ _ _ z => z.elim) (fun _ _ _ _ _ z => z.elim)
  refine r A' v d H' (fun a ha hz => z a (stay a ha fun e => ?_) hz) f i dt hr
  rw [e] at hz
  exact hz u0
/-- repr(xs), own -/
theorem ev_reprM {u : Addr} {ds : List PyData} (h : Δ[i]? = some (.m u ds)) (sh : Shw (.list ds)) (hq : q (.str (PyData.list ds).shown)) : Ev F A Δ (tCB rRep (tCons (tVar i) tNil)) q := fun H0 σ H s Q z => by
  obtain ⟨o, ho, e0, uA, um, u0, vs, hu, hv⟩ := s.env i _ h
  subst e0
  have d1 : Dt H [] (.ref u) (.list ds) := .lst hu List.not_mem_nil (hv.less fun _ z => absurd z List.not_mem_nil)
  exact ⟨_, ho, _, _, [], rfl, d1, sh.1, sh.2.1, sh.2.2, z _ _ H s (.refl _) (.str _) hq⟩
/-- xs == e, own -/
theorem ev_eqDM {u : Addr} {ds : List PyData} (h : Δ[i]? = some (.m u ds)) (hb : Ev F A Δ tb fun d2 => SeqAt.shaped (.list ds) = true ∧ SeqAt.shaped d2 = true ∧ q (.bool (PyData.eqv (.list ds) d2))) : Ev F A Δ (tOp (rEqD K) (tVar i) tb) q := fun H0 σ H s Q z => by
  obtain ⟨o, ho, e0, tA, tm, t0, vs, ht, hv⟩ := s.env i _ h
  subst e0
  refine ⟨_, ho, hb H0 σ H s _ fun v d H1 s1 f1 h1 ⟨e1, e2, hq⟩ => ?_⟩
  obtain ⟨_, _, _, _, _, _, vs1, ht1, hv1⟩ := s1.env i _ h
  have d1 : Dt H1 [] (.ref u) (.list ds) := .lst ht1 List.not_mem_nil (hv1.less fun _ z => absurd z List.not_mem_nil)
  exact ⟨.list ds, d, d1.dp (SeqAt.canLay_of_shaped e1), h1.dp (SeqAt.canLay_of_shaped e2), e1, e2, z _ _ H1 s1 f1 (.bl _) hq⟩
end
end Dl

/-! D13: promises by a ghost; reversed, xs[::-1] -/
namespace Dl
open PySem PySem.Spec PyProof.Rows L2
/-- a def that writes nothing, told by a ghost x: C of the arguments, R of what it hands back -/
def PX {Y : Type} (C : Y → List PyData → Prop) (R : Y → PyData → Prop) : Sp := fun vs H Q _ => ∃ x A ds, (∀ a ∈ A, H a ≠ none) ∧ DtA H A vs ds ∧ C x ds ∧ ∀ v d H', Fr [] H H' → Dt H' A v d → R x d → Q v H'
section
variable {F : Fm} {A : List Addr} {Δ : List Sl} {K : PySem.W.Frag} {t tk : TA} {te : TE} {q : PyData → Prop} {Y : Type} {C : Y → List PyData → Prop} {R : Y → PyData → Prop} {E : XK} {gV : List V → List V → List V} {i : Nat}
theorem ev_callX (h : EvA F A Δ t fun ds => ∃ x, C x ds ∧ ∀ d, R x d → q d) : Ev F A Δ (tCall (PX C R) [] E t) q := fun H0 σ H s Q z =>
  h H0 σ H s _ fun vs ds H1 s1 f1 h1 ⟨x, c, k⟩ => by
    rw [List.append_nil]
    exact ⟨x, A, ds, s1.trk, h1, c, fun v d H2 f2 h2 hr => z v d H2 (s1.more f2) (f1.trans (f2.more fun _ z => nomatch z)) h2 (k d hr)⟩
theorem ev_callKX (gD : List PyData → List PyData → List PyData) (hg : ∀ {H : Hp} {A : List Addr} {vs zs : List V} {ds es : List PyData}, DtA H A vs ds → DtA H A zs es → DtA H A (gV vs zs) (gD ds es)) (h : EvA F A Δ t fun ds => EvA F A Δ tk fun es => ∃ x, C x (gD ds es) ∧ ∀ d, R x d → q d) : Ev F A Δ (tCallK (PX C R) gV E t tk) q := fun H0 σ H s Q z =>
  h H0 σ H s _ fun vs ds H1 s1 f1 h1 k1 => k1 H0 σ H1 s1 _ fun zs es H2 s2 f2 h2 ⟨x, c, k⟩ =>
    ⟨x, A, gD ds es, s2.trk, hg (h1.mono f2 s1.sub) h2, c, fun v d H3 f3 h3 hr => z v d H3 (s2.more f3) ((f1.trans f2).trans (f3.more fun _ z => nomatch z)) h3 (k d hr)⟩
theorem enterX {N : List Str} {vs : List V} {H : Hp} {Q : VK} {ts : TS} (h : PX C R vs H Q E) (k : ∀ A ds x, C x ds → Sq F0 A (startD N ds) ts { nx := fun _ _ => R x .none, rt := R x }) : ts { nx := fun _ H' => Q .non H', rt := Q } (start N vs) H := by
  obtain ⟨x, A, ds, trk, hd, c, z⟩ := h
  have s : S F0 H A (startD N ds) (start N vs) H := .start (F := F0) trivial (fun _ z => nomatch z) trk hd
  refine k A ds x c H _ H s _ (fun A' Δ' σ' H' g hr => z _ _ H' g.st.fr .non hr) (fun A' v d H' sub f i dt hr => z v d H' f (dt.less fun a ha => sub a ha (trk a ha)) hr) (fun _ _ _ _ _ h => h.elim) (fun _ _ _ _ _ h => h.elim)
theorem px_len {n : Nat} (hc : ∀ x ds, C x ds → ds.length = n) : ∀ vs H Q E, PX C R vs H Q E → vs.length = n := fun vs H Q E h => by
  obtain ⟨x, A, ds, _, hd, c, _⟩ := h
  rw [hd.length]
  exact hc x ds c
/-! reversed -/
theorem rev_get {es : List PyData} {n i : Nat} (e : es.length = n) (h : i < n) : es.reverse[i]? = es[n - 1 - i]? := by
  subst e
  rw [List.getElem?_reverse h]
theorem walk_rl {H : Hp} {a : Addr} {vs : List V} {ds : List PyData} (h : H a = some (.lst vs)) (n : a ∉ A) (t : DtA H A vs ds) : WalkD A (Itv K a vs.length) ds.reverse H where
  go := fun B i H' x f hi => by
    rw [List.length_reverse, ← t.length] at hi
    exact ⟨hi, vs, vs[vs.length - 1 - i], .of (frB x f n h), List.getElem?_eq_getElem (by omega)⟩
  stop := fun B H' x f => by
    show vs.length ≤ ds.reverse.length
    rw [List.length_reverse, t.length]
    exact Nat.le_refl _
  yld := fun B i H' v H'' x f _ hi y => by
    rw [List.length_reverse, ← t.length] at hi
    obtain ⟨rfl, y⟩ := y
    obtain ⟨d, e, hd⟩ := (dtB x f t).get (y vs (.of (frB x f n h)))
    exact ⟨.refl _, d, by rw [rev_get t.length.symm hi]; exact e, hd⟩
theorem walk_rt {H : Hp} {a : Addr} {vs : List V} {ds : List PyData} (h : H a = some (.tup vs)) (n : a ∉ A) (t : DtA H A vs ds) : WalkD A (RT.ItvT K a vs.length) ds.reverse H where
  go := fun B i H' x f hi => by
    rw [List.length_reverse, ← t.length] at hi
    exact ⟨hi, vs, vs[vs.length - 1 - i], .of (frB x f n h), List.getElem?_eq_getElem (by omega)⟩
  stop := fun B H' x f => by
    show vs.length ≤ ds.reverse.length
    rw [List.length_reverse, t.length]
    exact Nat.le_refl _
  yld := fun B i H' v H'' x f _ hi y => by
    rw [List.length_reverse, ← t.length] at hi
    obtain ⟨rfl, y⟩ := y
    obtain ⟨d, e, hd⟩ := (dtB x f t).get (y vs (.of (frB x f n h)))
    exact ⟨.refl _, d, by rw [rev_get t.length.symm hi]; exact e, hd⟩
theorem evi_rev {q : List PyData → Prop} (h : Ev F A Δ te fun d => ∃ es, seqD d = some es ∧ q es.reverse) : EvI F A Δ (RT.iRevA K te) q := fun H0 σ H s R z =>
  h H0 σ H s _ fun v d H1 s1 f1 h1 ⟨es, e, k⟩ => by
    cases h1 with
    | lst hh n t =>
      cases e
      exact ⟨_, _, rfl, .inl ⟨.of hh, z _ _ H1 s1 f1 (walk_rl hh n t) k⟩⟩
    | tup hh n t =>
      cases e
      exact ⟨_, _, rfl, .inr ⟨.of hh, z _ _ H1 s1 f1 (walk_rt hh n t) k⟩⟩
    | non => cases e
    | bl => cases e
    | int => cases e
    | str => cases e
    | dct => cases e
/-! xs[::-1], lists -/
theorem evn_revL {q : List PyData → Prop} (h : Ev F A Δ te fun d => ∃ es, d = .list es ∧ q es.reverse) : EvN F A Δ (tRevL K te) q := fun H0 σ H s Q z =>
  h H0 σ H s _ fun v d H1 s1 f1 h1 ⟨es, e, k⟩ => by
    subst e
    cases h1 with
    | lst hh n t => exact ⟨_, _, rfl, .of hh, fun p hp => z p _ _ _ (s1.laidP hp) (f1.trans (.new hp)) (f1.free hp) upd_same (((DtA.rev t).add hp).mono (m := []) (.new hp) fun _ z => nomatch z) k⟩
theorem evn_revM {u : Addr} {ds : List PyData} {q : List PyData → Prop} (hd : Δ[i]? = some (.m u ds)) (h : q ds.reverse) : EvN F A Δ (tRevL K (tVar i)) q := fun H0 σ H s Q z => by
  obtain ⟨o, ho, e0, tA, tm, t0, vs, ht, hv⟩ := s.env i _ hd
  subst e0
  exact ⟨_, ho, _, _, rfl, .of ht, fun p hp => z p _ _ _ (s.laidP hp) (.new hp) hp upd_same (((DtA.rev hv).add hp).mono (m := []) (.new hp) fun _ z => nomatch z) h⟩
end
end Dl

/-! D14: orders, rows, as data -/
namespace Dl
open PySem PySem.Spec PyProof.Rows L2
def rowOk (m : Int) : PyData → Bool
  | .tuple xs => decide (((xs.length : Nat) : Int) = m) && xs.all (isWh (-99) 99)
  | _ => false
abbrev C_mix (ds : List PyData) : Prop := ∃ ns : List Int, ds = [.list (ns.map .int)] ∧ ns.length ≤ 1000
def R_mix : List PyData → PyData → Prop
  | [.list es], r => ∃ ns ms : List Int, es = ns.map .int ∧ r = .list (ms.map .int) ∧ ms.Perm ns
  | _, _ => False
theorem perm_pop {ns : List Int} {k : Nat} {x : Int} (h : ns[k]? = some x) : (x :: ns.eraseIdx k).Perm ns := L2.erase_perm ns k x h
abbrev C_ordr (ds : List PyData) : Prop := ∃ m : Int, ds = [.int m] ∧ 1 ≤ m ∧ m ≤ 8
/-- an order of m cells, by the cells of its blocks -/
def OrdOk (m : Int) (nss : List (List Int)) : Prop := nss.flatten.Perm ((List.range m.toNat).map fun k => ((k : Nat) : Int)) ∧ ∀ ns ∈ nss, ns ≠ [] ∧ ns.Pairwise (· < ·)
abbrev blks (nss : List (List Int)) : List PyData := nss.map fun ns => .tuple (ns.map .int)
abbrev ordOf (nss : List (List Int)) : PyData := .tuple (blks nss)
theorem blks_app (a b : List (List Int)) : blks (a ++ b) = blks a ++ blks b := List.map_append ..
theorem blks_len (a : List (List Int)) : (blks a).length = a.length := List.length_map ..
theorem flat_len : ∀ nss : List (List Int), (∀ ns ∈ nss, ns ≠ []) → nss.length ≤ nss.flatten.length
  | [], _ => Nat.zero_le _
  | x :: r, h => by
    have hx := List.length_pos_iff.mpr (h x List.mem_cons_self)
    have := flat_len r fun y hy => h y (List.mem_cons_of_mem _ hy)
    rw [List.length_cons, List.flatten_cons, List.length_append]
    omega
def R_ordr : List PyData → PyData → Prop
  | [.int m], r => ∃ nss, r = ordOf nss ∧ OrdOk m nss
  | _, _ => False
theorem flat_one : ∀ ns : List Int, (ns.map fun n => [n]).flatten = ns
  | [] => rfl
  | n :: r => by rw [List.map_cons, List.flatten_cons, flat_one r] <;> rfl
theorem lt_of_le : ∀ l : List Int, l.Pairwise (· ≤ ·) → l.Nodup → l.Pairwise (· < ·) := fun l h d => (h.and d).imp fun ⟨a, b⟩ => by
  have : _ ≠ _ := b
  omega
theorem shaped_blocks (nss : List (List Int)) : SeqAt.shaped (.list (blks nss)) = true := by
  have h1 : ∀ l : List (List Int), PyData.canLayAll0 (l.map fun ns => .tuple (ns.map .int)) = true := fun l => by
    induction l with
    | nil => rfl
    | cons x r ih =>
      rw [List.map_cons]
      simp only [PyData.canLayAll0, PyData.canLay0, canLay_ints, Bool.true_and]
      exact ih
  have h2 : ∀ l : List (List Int), PyData.depthAll (l.map fun ns => .tuple (ns.map .int)) ≤ 1 := fun l => by
    induction l with
    | nil => exact Nat.zero_le _
    | cons x r ih =>
      rw [List.map_cons]
      simp only [PyData.depthAll, PyData.depth, depth_ints]
      omega
  have h3 : PyData.depthAll (blks nss) ≤ 1 := h2 nss
  have hd : (PyData.list (blks nss)).depth ≤ 64 := by
    simp only [PyData.depth]
    omega
  have hc : (PyData.list (blks nss)).canLay0 = true := by
    simp only [PyData.canLay0]
    exact h1 nss
  show (_ && decide _) = true
  rw [decide_eq_true hd, hc] <;> rfl
theorem eqv_nil_blocks (nss : List (List Int)) : PyData.eqv (.list (blks nss)) (.list []) = nss.isEmpty := by
  cases nss <;> simp [PyData.eqv, PyData.eqvAll]
abbrev C_drow (ds : List PyData) : Prop := ∃ m : Int, ds = [.int m] ∧ 1 ≤ m ∧ m ≤ 8
def R_drow : List PyData → PyData → Prop
  | [.int m], r => rowOk m r = true
  | _, _ => False
theorem rowOk_of {m : Int} {xs : List PyData} (hl : ((xs.length : Nat) : Int) = m) (h : ∀ x ∈ xs, isWh (-99) 99 x = true) : rowOk m (.tuple xs) = true := by
  show (decide (((xs.length : Nat) : Int) = m) && xs.all (isWh (-99) 99)) = true
  rw [decide_eq_true hl, Bool.true_and, List.all_eq_true]
  exact h
theorem rowOk_inv {m : Int} {d : PyData} (h : rowOk m d = true) : ∃ xs, d = .tuple xs ∧ ((xs.length : Nat) : Int) = m ∧ ∀ x ∈ xs, isWh (-99) 99 x = true := by
  cases d with
  | tuple xs =>
    have h' : (decide (((xs.length : Nat) : Int) = m) && xs.all (isWh (-99) 99)) = true := h
    rw [Bool.and_eq_true, decide_eq_true_eq, List.all_eq_true] at h'
    exact ⟨xs, rfl, h'.1, h'.2⟩
  | _ => cases h
theorem isWh_of {lo hi i : Int} (h1 : lo ≤ i) (h2 : i ≤ hi) : isWh lo hi (.int i) = true := by
  show (decide (lo ≤ i) && decide (i ≤ hi)) = true
  rw [decide_eq_true h1, decide_eq_true h2] <;> rfl
theorem rep_flat {x : PyData} : ∀ n : Nat, (List.replicate n [x]).flatten = List.replicate n x
  | 0 => rfl
  | n + 1 => by
    rw [List.replicate_succ, List.flatten_cons, rep_flat n] <;> rfl
abbrev C_book (ds : List PyData) : Prop := ∃ c r : Int, ds = [.int c, .int r] ∧ 1 ≤ c ∧ c ≤ 8 ∧ 0 ≤ r ∧ r ≤ 8
def R_book : List PyData → PyData → Prop
  | [.int c, .int r], d => ∃ m rows, d = .tuple [.int m, .tuple rows] ∧ 1 ≤ m ∧ m ≤ c ∧ ((rows.length : Nat) : Int) ≤ r ∧ ∀ x ∈ rows, rowOk m x = true
  | _, _ => False
end Dl

/-! D15: books, orders, shares: the mathematics -/
namespace Dl
open PySem PySem.Spec PyProof.Rows L2
abbrev tupI (l : List Int) : PyData := .tuple (l.map .int)
abbrev bookD (m : Int) (rows : List (List Int)) : PyData := .tuple [.int m, .tuple (blks rows)]
def RowsOk (m : Int) (rows : List (List Int)) : Prop := ∀ r ∈ rows, ((r.length : Nat) : Int) = m ∧ ∀ i ∈ r, -99 ≤ i ∧ i ≤ 99
theorem ints_wh {lo hi : Int} : ∀ {xs : List PyData}, (∀ x ∈ xs, isWh lo hi x = true) → ∃ ns : List Int, xs = ns.map .int ∧ ∀ n ∈ ns, lo ≤ n ∧ n ≤ hi
  | [], _ => ⟨[], rfl, fun _ z => nomatch z⟩
  | x :: r, h => by
    obtain ⟨i, rfl, h1, h2⟩ := isWh_int (h x List.mem_cons_self)
    obtain ⟨ns, e, hn⟩ := ints_wh fun y hy => h y (List.mem_cons_of_mem _ hy)
    refine ⟨i :: ns, by rw [e] <;> rfl, fun n hm => ?_⟩
    rcases List.mem_cons.mp hm with rfl | hm
    · exact ⟨h1, h2⟩
    · exact hn n hm
theorem rows_typed {m : Int} : ∀ {xs : List PyData}, (∀ x ∈ xs, rowOk m x = true) → ∃ rs : List (List Int), xs = blks rs ∧ RowsOk m rs
  | [], _ => ⟨[], rfl, fun _ z => nomatch z⟩
  | x :: r, h => by
    obtain ⟨ys, rfl, hl, hy⟩ := rowOk_inv (h x List.mem_cons_self)
    obtain ⟨ns, rfl, hn⟩ := ints_wh hy
    obtain ⟨rs, e, hr⟩ := rows_typed fun y hy => h y (List.mem_cons_of_mem _ hy)
    refine ⟨ns :: rs, by rw [e] <;> rfl, fun q hq => ?_⟩
    rcases List.mem_cons.mp hq with rfl | hq
    · rw [List.length_map] at hl
      exact ⟨hl, hn⟩
    · exact hr q hq
theorem book_typed {c r : Int} {d : PyData} (h : R_book [.int c, .int r] d) : ∃ m rows, d = bookD m rows ∧ 1 ≤ m ∧ m ≤ c ∧ ((rows.length : Nat) : Int) ≤ r ∧ RowsOk m rows := by
  obtain ⟨m, xs, rfl, h1, h2, h3, h4⟩ := h
  obtain ⟨rs, rfl, hr⟩ := rows_typed h4
  rw [blks_len] at h3
  exact ⟨m, rs, rfl, h1, h2, h3, hr⟩
theorem blks_get {nss : List (List Int)} {i : Nat} {d : PyData} (h : (blks nss)[i]? = some d) : ∃ ns, nss[i]? = some ns ∧ d = tupI ns := by
  rw [List.getElem?_map] at h
  cases e : nss[i]? with
  | none => rw [e] at h; cases h
  | some c => rw [e] at h; cases h; exact ⟨c, rfl, rfl⟩
theorem blks_at {nss : List (List Int)} {i : Nat} {ns : List Int} (h : nss[i]? = some ns) : (blks nss)[i]? = some (tupI ns) := by
  rw [List.getElem?_map, h] <;> rfl
theorem ints_get {ns : List Int} {i : Nat} {d : PyData} (h : (ns.map PyData.int)[i]? = some d) : ∃ c, ns[i]? = some c ∧ d = .int c := by
  rw [List.getElem?_map] at h
  cases e : ns[i]? with
  | none => rw [e] at h; cases h
  | some c => rw [e] at h; cases h; exact ⟨c, rfl, rfl⟩
theorem ints_at {ns : List Int} {i : Nat} {c : Int} (h : ns[i]? = some c) : (ns.map PyData.int)[i]? = some (.int c) := by
  rw [List.getElem?_map, h] <;> rfl
theorem ints_mem {ns : List Int} {d : PyData} (h : d ∈ ns.map PyData.int) : ∃ c ∈ ns, d = .int c := by
  obtain ⟨c, hc, rfl⟩ := List.mem_map.mp h
  exact ⟨c, hc, rfl⟩
theorem blks_mem {nss : List (List Int)} {d : PyData} (h : d ∈ blks nss) : ∃ ns ∈ nss, d = tupI ns := by
  obtain ⟨c, hc, rfl⟩ := List.mem_map.mp h
  exact ⟨c, hc, rfl⟩
theorem rng_mem {m : Int} {d : PyData} (h : d ∈ rngD m) : ∃ k : Nat, ((k : Nat) : Int) < m ∧ d = .int (k : Nat) := by
  obtain ⟨k, hk, rfl⟩ := List.mem_map.mp h
  have := List.mem_range.mp hk
  exact ⟨k, by omega, rfl⟩
theorem rng_len (m : Int) : (rngD m).length = m.toNat := by
  unfold rngD
  rw [List.length_map, List.length_range]
theorem rng_get {m : Int} {i : Nat} {d : PyData} (h : (rngD m)[i]? = some d) : ((i : Nat) : Int) < m ∧ d = .int (i : Nat) := by
  have hi := (List.getElem?_eq_some_iff.mp h).1
  rw [rng_len] at hi
  unfold rngD at h
  rw [List.getElem?_map, List.getElem?_range hi] at h
  cases h
  exact ⟨by omega, rfl⟩
/-! slices -/
theorem cut_from {es : List PyData} (k : Nat) : Dl.cutD es (some (k : Int)) none = es.drop k := by
  unfold Dl.cutD
  rw [HT.sIx_none, HT.sIx_nat]
  by_cases h : k ≤ es.length
  · rw [Nat.min_eq_left h]
    exact List.take_of_length_le (by rw [List.length_drop]; exact Nat.le_refl _)
  · rw [Nat.min_eq_right (by omega), Nat.sub_self, List.take_zero, List.drop_eq_nil_of_le (by omega)]
theorem cut_to {es : List PyData} (k : Nat) : Dl.cutD es none (some (k : Int)) = es.take k := by
  unfold Dl.cutD
  rw [HT.sIx_none, HT.sIx_nat, List.drop_zero, Nat.sub_zero]
  by_cases h : k ≤ es.length
  · rw [Nat.min_eq_left h]
  · rw [Nat.min_eq_right (by omega), List.take_length, List.take_of_length_le (by omega)]
theorem at_at {es : List PyData} {k : Nat} {d : PyData} (h : es[k]? = some d) : Dl.atD es ((k : Nat) : Int) = some d := atD_nat h
theorem at_end {es : List PyData} {d : PyData} : Dl.atD (es ++ [d]) (-1) = some d := by
  unfold Dl.atD ixN
  rw [List.length_append, List.length_singleton, if_neg (by omega), if_pos (by omega)]
  show (es ++ [d])[((-1 : Int) + ((es.length + 1 : Nat) : Int)).toNat]? = _
  rw [show ((-1 : Int) + ((es.length + 1 : Nat) : Int)).toNat = es.length by omega, List.getElem?_append_right (Nat.le_refl _), Nat.sub_self] <;> rfl
/-! shares -/
def bsum (row ns : List Int) : Int := (ns.map fun c => row.getD c.toNat 0).sum
def bsums (row : List Int) (nss : List (List Int)) : List Int := nss.map (bsum row)
def shr : List Int → List Int
  | [] => [0]
  | x :: r => (x + r.sum) :: shr r
theorem bsums_len (row : List Int) (nss : List (List Int)) : (bsums row nss).length = nss.length := List.length_map ..
theorem shr_len : ∀ l : List Int, (shr l).length = l.length + 1
  | [] => rfl
  | x :: r => by rw [shr, List.length_cons, List.length_cons, shr_len r]
theorem shr_get : ∀ (l : List Int) (k : Nat), k ≤ l.length → (shr l)[k]? = some (l.drop k).sum
  | [], 0, _ => rfl
  | x :: r, 0, _ => by
    show some (x + r.sum) = some (x :: r).sum
    rw [List.sum_cons]
  | x :: r, k + 1, h => by
    show (shr r)[k]? = some (r.drop k).sum
    exact shr_get r k (by rw [List.length_cons] at h; omega)
  | [], k + 1, h => by simp at h
theorem shr_head (l : List Int) : ∃ r, shr l = l.sum :: r := by
  cases l with
  | nil => exact ⟨[], rfl⟩
  | cons x r => exact ⟨shr r, by rw [shr, List.sum_cons]⟩
theorem shr_last : ∀ l : List Int, ∃ r, shr l = r ++ [0]
  | [] => ⟨[], rfl⟩
  | x :: r => by
    obtain ⟨q, e⟩ := shr_last r
    exact ⟨(x + r.sum) :: q, by rw [shr, e] <;> rfl⟩
/-- a deed of a book, an order -/
structure Dd where
  m : Int
  rows : List (List Int)
  nss : List (List Int)
  d : Nat
def Dd.row (x : Dd) : List Int := x.rows.getD x.d []
theorem Dd.get {x : Dd} (h : x.d < x.rows.length) : x.rows[x.d]? = some x.row := by
  unfold Dd.row
  rw [List.getD_eq_getElem?_getD, List.getElem?_eq_getElem h] <;> rfl
def Fit (n : Nat) (nss : List (List Int)) : Prop := nss.length ≤ 1000 ∧ ∀ ns ∈ nss, ns.length ≤ 1000 ∧ ∀ c ∈ ns, 0 ≤ c ∧ c < ((n : Nat) : Int)
abbrev C_dd (x : Dd) (ds : List PyData) : Prop := ds = [bookD x.m x.rows, ordOf x.nss, .int (x.d : Nat)] ∧ x.d < x.rows.length ∧ Fit x.row.length x.nss
def R_bs (x : Dd) (r : PyData) : Prop := r = tupI (bsums x.row x.nss)
def R_sh (x : Dd) (r : PyData) : Prop := r = tupI (shr (bsums x.row x.nss))
def R_st (x : Dd) (r : PyData) : Prop := r = .bool ((shr (bsums x.row x.nss)).all fun i => decide (i = 0))
theorem row_at {row : List Int} {c : Int} (h : 0 ≤ c ∧ c < ((row.length : Nat) : Int)) : Dl.atD (row.map PyData.int) c = some (.int (row.getD c.toNat 0)) := by
  obtain ⟨k, rfl⟩ := Int.eq_ofNat_of_zero_le h.1
  have hk : k < row.length := by omega
  refine at_at ?_
  rw [ints_at (c := row[k]) (List.getElem?_eq_getElem hk), Int.toNat_natCast, List.getD_eq_getElem?_getD, List.getElem?_eq_getElem hk] <;> rfl
/-- the order of a book fits its rows -/
theorem ord_fit {m : Int} {nss : List (List Int)} (h : OrdOk m nss) (m1 : m ≤ 8) {n : Nat} (e : ((n : Nat) : Int) = m) : Fit n nss := by
  obtain ⟨hp, hn⟩ := h
  have fl := hp.length_eq
  rw [List.length_map, List.length_range] at fl
  have nl := flat_len nss fun ns h => (hn ns h).1
  refine ⟨by omega, fun ns hm => ?_⟩
  have sub : ns.length ≤ nss.flatten.length := (List.sublist_flatten_of_mem hm).length_le
  refine ⟨by omega, fun c hc => ?_⟩
  have q := hp.mem_iff.mp (List.mem_flatten.mpr ⟨ns, hm, hc⟩)
  obtain ⟨k, hk, rfl⟩ := List.mem_map.mp q
  have := List.mem_range.mp hk
  omega
end Dl

/-! D16: more of sums and shares; weakening of slots; texts of books -/
namespace Dl
open PySem PySem.Spec PyProof.Rows L2
theorem Weak.nil : Dl.Weak [] [] := .refl []
theorem Weak.cons {Δ Δ0 : List Sl} {x : Sl} (w : Dl.Weak Δ Δ0) : Dl.Weak (x :: Δ) (x :: Δ0) := ⟨by rw [List.length_cons, List.length_cons, w.1], fun i s e => by
  cases i with
  | zero => exact .inr e
  | succ i => exact w.2 i s e⟩
theorem Weak.no {Δ Δ0 : List Sl} {x : Sl} (w : Dl.Weak Δ Δ0) : Dl.Weak (x :: Δ) (.no :: Δ0) := ⟨by rw [List.length_cons, List.length_cons, w.1], fun i s e => by
  cases i with
  | zero => cases e; exact .inl rfl
  | succ i => exact w.2 i s e⟩
theorem sum_succ {l : List Int} {i : Nat} {c : Int} (h : l[i]? = some c) : (l.take (i + 1)).sum = (l.take i).sum + c := by
  rw [List.take_add_one, h]
  show (l.take i ++ [c]).sum = _
  rw [List.sum_append, List.sum_singleton]
theorem shr_rng (l : List Int) (f : PyData → PyData) (hf : ∀ k : Nat, f (.int (k : Nat)) = .int (l.drop k).sum) : (rngD ((l.length : Nat) + 1 : Int)).map f = (shr l).map .int := by
  refine List.ext_getElem? fun i => ?_
  by_cases h : i < l.length + 1
  · rw [List.getElem?_map, List.getElem?_map, shr_get l i (by omega)]
    have hl : i < (rngD ((l.length : Nat) + 1 : Int)).length := by rw [rng_len]; omega
    rw [List.getElem?_eq_getElem hl, (rng_get (List.getElem?_eq_getElem hl)).2]
    show some (f (.int (i : Nat))) = _
    rw [hf] <;> rfl
  · rw [List.getElem?_eq_none (by rw [List.length_map, rng_len]; omega), List.getElem?_eq_none (by rw [List.length_map, shr_len]; omega)]
/-! what is short -/
theorem sm_ints {k : Nat} {l : List Int} (h : l.length ≤ 20) (b : ∀ i ∈ l, -(10 ^ 60) ≤ i ∧ i ≤ 10 ^ 60) : Sm (k + 1) (tupI l) := .tup (by rw [List.length_map]; exact h) fun x hx => by
  obtain ⟨c, hc, rfl⟩ := ints_mem hx
  exact .int (b c hc).1 (b c hc).2
theorem sm_blks {k : Nat} {nss : List (List Int)} (h : nss.length ≤ 20) (hb : ∀ ns ∈ nss, ns.length ≤ 20 ∧ ∀ i ∈ ns, -(10 ^ 60) ≤ i ∧ i ≤ 10 ^ 60) : Sm (k + 2) (ordOf nss) := .tup (by rw [blks_len]; exact h) fun x hx => by
  obtain ⟨ns, hn, rfl⟩ := blks_mem hx
  exact sm_ints (hb ns hn).1 (hb ns hn).2
theorem big60 : (100000000000 : Int) ≤ 10 ^ 60 := by decide +kernel
theorem sm_book {m : Int} {rows : List (List Int)} (m1 : 1 ≤ m) (m2 : m ≤ 8) (h : rows.length ≤ 20) (hr : RowsOk m rows) : Sm 3 (bookD m rows) := .tup (by simp) fun x hx => by
  have b := big60
  simp only [List.mem_cons, List.not_mem_nil, or_false] at hx
  rcases hx with rfl | rfl
  · exact .int (by omega) (by omega)
  · exact sm_blks h fun ns hn => ⟨by have := (hr ns hn).1; omega, fun i hi => by have := (hr ns hn).2 i hi; omega⟩
/-- sums of few small numbers -/
theorem sum_bd {b : Int} (hb : 0 ≤ b) : ∀ l : List Int, (∀ i ∈ l, -b ≤ i ∧ i ≤ b) → -(((l.length : Nat) : Int) * b) ≤ l.sum ∧ l.sum ≤ ((l.length : Nat) : Int) * b
  | [], _ => by simp
  | x :: r, h => by
    have hx := h x List.mem_cons_self
    have ih := sum_bd hb r fun i hi => h i (List.mem_cons_of_mem _ hi)
    rw [List.sum_cons, List.length_cons]
    have e : ((r.length + 1 : Nat) : Int) * b = (r.length : Int) * b + b := by
      rw [Int.natCast_add, Int.add_mul] <;> simp
    omega
theorem getD_bd {row : List Int} {b : Int} (hb : 0 ≤ b) (h : ∀ i ∈ row, -b ≤ i ∧ i ≤ b) (k : Nat) : -b ≤ row.getD k 0 ∧ row.getD k 0 ≤ b := by
  rw [List.getD_eq_getElem?_getD]
  cases e : row[k]? with
  | none => exact ⟨by show -b ≤ (0 : Int); omega, hb⟩
  | some c => exact h c (List.mem_of_getElem? e)
theorem bsum_bd {row ns : List Int} {n : Nat} (h : ∀ i ∈ row, -99 ≤ i ∧ i ≤ 99) (hn : ns.length ≤ n) : -(99 * (n : Int)) ≤ bsum row ns ∧ bsum row ns ≤ 99 * (n : Int) := by
  have q := sum_bd (b := 99) (by decide) (ns.map fun c => row.getD c.toNat 0) fun i hi => by
    obtain ⟨c, _, rfl⟩ := List.mem_map.mp hi
    exact getD_bd (by decide) h _
  rw [List.length_map] at q
  unfold bsum
  omega
theorem shr_mem {l : List Int} {i : Int} (h : i ∈ shr l) : ∃ k, i = (l.drop k).sum := by
  obtain ⟨k, hk, e⟩ := List.getElem_of_mem h
  rw [shr_len] at hk
  have q := shr_get l k (by omega)
  rw [List.getElem?_eq_getElem (by rw [shr_len]; exact hk), e] at q
  exact ⟨k, Option.some.inj q⟩
/-- a fitting deed's sums and shares are small -/
theorem bsums_sm {row : List Int} {nss : List (List Int)} (h : ∀ i ∈ row, -99 ≤ i ∧ i ≤ 99) (hn : nss.length ≤ 8) (hs : ∀ ns ∈ nss, ns.length ≤ 8) : ∀ i ∈ bsums row nss, -792 ≤ i ∧ i ≤ 792 := fun i hi => by
  obtain ⟨ns, hm, rfl⟩ := List.mem_map.mp hi
  have := bsum_bd (n := 8) h (hs ns hm)
  omega
theorem shr_sm {l : List Int} (hn : l.length ≤ 8) (h : ∀ i ∈ l, -792 ≤ i ∧ i ≤ 792) : ∀ i ∈ shr l, -6336 ≤ i ∧ i ≤ 6336 := fun i hi => by
  obtain ⟨k, rfl⟩ := shr_mem hi
  have q := sum_bd (b := 792) (by decide) (l.drop k) fun i hi => h i (List.mem_of_mem_drop hi)
  rw [List.length_drop] at q
  omega
/-- an order of at most 8 cells -/
theorem ord_small {m : Int} {nss : List (List Int)} (h : OrdOk m nss) (m2 : m ≤ 8) : nss.length ≤ 8 ∧ ∀ ns ∈ nss, ns.length ≤ 8 ∧ ∀ i ∈ ns, 0 ≤ i ∧ i < m := by
  obtain ⟨hp, hn⟩ := h
  have fl := hp.length_eq
  rw [List.length_map, List.length_range] at fl
  have nl := flat_len nss fun ns h => (hn ns h).1
  refine ⟨by omega, fun ns hm => ?_⟩
  have sub : ns.length ≤ nss.flatten.length := (List.sublist_flatten_of_mem hm).length_le
  refine ⟨by omega, fun c hc => ?_⟩
  have q := hp.mem_iff.mp (List.mem_flatten.mpr ⟨ns, hm, hc⟩)
  obtain ⟨k, hk, rfl⟩ := List.mem_map.mp q
  have := List.mem_range.mp hk
  omega
theorem sm_ord {m : Int} {nss : List (List Int)} {k : Nat} (h : OrdOk m nss) (m2 : m ≤ 8) : Sm (k + 2) (ordOf nss) := by
  have b := big60
  obtain ⟨q1, q2⟩ := ord_small h m2
  exact sm_blks (by omega) fun ns hn => ⟨by have := (q2 ns hn).1; omega, fun i hi => by have := (q2 ns hn).2 i hi; omega⟩
end Dl
namespace Dl
open PySem PySem.Spec PyProof.Rows L2
theorem shapedT (nss : List (List Int)) : SeqAt.shaped (ordOf nss) = true := by
  have h := shaped_blocks nss
  unfold SeqAt.shaped at h ⊢
  simp only [PyData.canLay0, PyData.depth] at h ⊢
  exact h
theorem shapedI (ns : List Int) : SeqAt.shaped (tupI ns) = true := by
  have h := shaped_ints ns
  unfold SeqAt.shaped at h ⊢
  simp only [PyData.canLay0, PyData.depth] at h ⊢
  exact h
theorem eqv_ints : ∀ a b : List Int, PyData.eqvAll (a.map PyData.int) (b.map PyData.int) = decide (a = b)
  | [], [] => by simp [PyData.eqvAll]
  | [], _ :: _ => by simp [PyData.eqvAll]
  | _ :: _, [] => by simp [PyData.eqvAll]
  | x :: a, y :: b => by
    rw [List.map_cons, List.map_cons]
    simp only [PyData.eqvAll, PyData.eqv, eqv_ints a b]
    by_cases h : x = y <;> by_cases h2 : a = b <;> simp [h, h2]
theorem eqv_tupI (a b : List Int) : PyData.eqv (tupI a) (tupI b) = decide (a = b) := by
  simp only [PyData.eqv, eqv_ints]
/-- blocks of an order: the whole -/
theorem flat_sum (g : Int → Int) : ∀ nss : List (List Int), (nss.map fun ns => (ns.map g).sum).sum = (nss.flatten.map g).sum
  | [] => rfl
  | ns :: r => by rw [List.map_cons, List.sum_cons, List.flatten_cons, List.map_append, List.sum_append, flat_sum g r]
theorem perm_sum {a b : List Int} (h : a.Perm b) : a.sum = b.sum := by
  induction h with
  | nil => rfl
  | cons x _ ih => rw [List.sum_cons, List.sum_cons, ih]
  | swap x y l => simp only [List.sum_cons]; omega
  | trans _ _ i1 i2 => exact i1.trans i2
theorem row_range (row : List Int) : ((List.range row.length).map fun k => row.getD k 0) = row := by
  refine List.ext_getElem (by simp) fun i h1 h2 => ?_
  rw [List.getElem_map, List.getElem_range, List.getD_eq_getElem?_getD, List.getElem?_eq_getElem h2] <;> rfl
theorem whole_sum {m : Int} {row : List Int} {nss : List (List Int)} (h : OrdOk m nss) (e : ((row.length : Nat) : Int) = m) : (bsums row nss).sum = row.sum := by
  unfold bsums
  show (nss.map fun ns => (ns.map fun c => row.getD c.toNat 0).sum).sum = _
  rw [flat_sum, perm_sum (h.1.map _), List.map_map, ← e, Int.toNat_natCast]
  show ((List.range row.length).map fun k => row.getD (((k : Nat) : Int)).toNat 0).sum = _
  have : ((List.range row.length).map fun k => row.getD (((k : Nat) : Int)).toNat 0) = row := row_range row
  rw [this]
theorem shr_join (x y : Int) (q : List Int) : ∀ p : List Int, shr (p ++ (x + y) :: q) = (shr (p ++ x :: y :: q)).take (p.length + 1) ++ (shr (p ++ x :: y :: q)).drop (p.length + 2)
  | [] => by
    show (x + y + q.sum) :: shr q = (x + (y :: q).sum) :: shr q
    rw [List.sum_cons, Int.add_assoc]
  | z :: p => by
    have e : (p ++ (x + y) :: q).sum = (p ++ x :: y :: q).sum := by
      simp only [List.sum_append, List.sum_cons]
      omega
    show (z + (p ++ (x + y) :: q).sum) :: shr (p ++ (x + y) :: q) = (z + (p ++ x :: y :: q).sum) :: ((shr (p ++ x :: y :: q)).take (p.length + 1) ++ (shr (p ++ x :: y :: q)).drop (p.length + 2))
    rw [shr_join x y q p, e]
end Dl

/-! R6: calls of defs that say repr -/
namespace Dl
open PySem PySem.Spec PyProof.Rows L2
/-- a def that may say repr, by its name -/
structure HasG (P : Program) (w : World) (K : PySem.W.Frag) (mg : Str → Option Value) (base : Heap) (k : Nat) (x : Str) (ps : List Str) (sp : Sp) : Prop where
  ex : ∃ f fd, FnG P w K mg base k f fd ps sp ∧ mg x = some (.ref f) ∧ PySem.W.keepIn K (.ref f) = true ∧ Binds K fd ps []
section
variable {X : Cx} {k : Nat} {x : Str} {ps : List Str} {sp : Sp} {p pos : Pos} {e : Expr} {es : List Expr} {t : TA} {f : Addr} {fd : FuncData}
theorem run_g {pins : List (Addr × Obj)} {σ : L2.St} {H : Hp} {s : Shared} {Q : VK} {us : List Value} {vs : List V} (F : FnG X.prog X.w X.K X.mg X.base k f fd ps sp) (hgd : X.A.guards = some []) (hr : Room k X.A) (hb : Binds X.K fd ps [])
    (I : Inv X pins σ H s) (r : Vals vs us) (h : sp (vs ++ []) H Q E0) : wpAny (model X.prog X.w) X.A (PySem.call (.ref f) us) (EP X pins σ Q) X.xe s := by
  have r2 : Vals (vs ++ []) (us ++ []) := r.append .nil
  have hl : (us ++ []).length = ps.length := by rw [← r2.length]; exact F.len _ _ _ _ h
  refine wpAny_call (codeAny_mono (F.run X.A X.stack s H ⟨us, []⟩ (us ++ []) (vs ++ []) Q hgd hr I.env0 (hb s us I.kIn hl) r2 h) fun r s' hq => ?_)
  cases r with
  | error e => exact False.elim hq
  | ok fl =>
    cases fl with
    | ret u => exact I.after hq
    | next => exact False.elim hq
    | brk => exact False.elim hq
    | cont => exact False.elim hq
theorem pe_hg (h : HasG X.prog X.w X.K X.mg X.base k x ps sp) (hgd : X.A.guards = some []) (hr : Room k X.A) (hg : Gl X x) (ha : PA X (e :: es) t) (hdb : (x == ("__debug__" : Str)) = false := by decide)
    (he : starEach (e :: es) X.env = (false, eval e X.env) :: starEach es X.env := by rfl) (hpl : (backTo pos (starEach es X.env)).any (·.1) = false := by rfl) : PE X (.Call (.Name x p) (e :: es) [] pos) (tCall sp [] E0 t) := by
  obtain ⟨f, fd, G, hm, kp, b⟩ := h.ex
  refine ⟨fun pins s σ H Q I h => ?_⟩
  refine wpAny_Call_Name_kw (ld_glob I hg hm ?_ hdb)
  refine PySem.W.callWith_K (h₀ := X.base) I.ok.mod.kin kp (thn (ha.run pos pins s σ H _ I h) fun us s1 ⟨vs, H1, I1, r, q⟩ => ⟨I1.kIn, ?_⟩) he hpl
  exact run_g G hgd hr b I1 r q
end
/-- keywords alone, n of them, brought into the parameters' order -/
def gPerm {α : Type} (n : Nat) (is : List Nat) (us ws : List α) : List α := if us.length = 0 ∧ ws.length = n then is.filterMap (fun i => ws[i]?) else []
theorem vals_pick {ws : List Value} {zs : List V} (h : Vals zs ws) : ∀ is : List Nat, Vals (is.filterMap fun i => zs[i]?) (is.filterMap fun i => ws[i]?)
  | [] => .nil
  | i :: r => by
    have ih := vals_pick h r
    have hl := h.length
    by_cases q : i < zs.length
    · obtain ⟨u, hu, ru⟩ := h.get (List.getElem?_eq_getElem q)
      rw [List.filterMap_cons_some (List.getElem?_eq_getElem q), List.filterMap_cons_some hu]
      exact .cons ru ih
    · rw [List.filterMap_cons_none (List.getElem?_eq_none (by omega)), List.filterMap_cons_none (List.getElem?_eq_none (by omega))]
      exact ih
theorem vals_perm {n : Nat} {is : List Nat} {us ws : List Value} {vs zs : List V} (h1 : Vals vs us) (h2 : Vals zs ws) : Vals (gPerm n is vs zs) (gPerm n is us ws) := by
  unfold gPerm
  rw [h1.length, h2.length]
  split
  · exact vals_pick h2 is
  · exact .nil
theorem DtA.pick {H : Hp} {A : List Addr} {vs : List V} {ds : List PyData} (h : DtA H A vs ds) : ∀ is : List Nat, DtA H A (is.filterMap fun i => vs[i]?) (is.filterMap fun i => ds[i]?)
  | [] => .nil
  | i :: r => by
    have ih := DtA.pick h r
    have hl := h.length
    by_cases q : i < vs.length
    · obtain ⟨u, hu, ru⟩ := h.get (List.getElem?_eq_getElem q)
      rw [List.filterMap_cons_some (List.getElem?_eq_getElem q), List.filterMap_cons_some hu]
      exact .cons ru ih
    · rw [List.filterMap_cons_none (List.getElem?_eq_none (by omega)), List.filterMap_cons_none (List.getElem?_eq_none (by omega))]
      exact ih
theorem dta_perm (n : Nat) (is : List Nat) {H : Hp} {A : List Addr} {vs zs : List V} {ds es : List PyData} (h1 : DtA H A vs ds) (h2 : DtA H A zs es) : DtA H A (gPerm n is vs zs) (gPerm n is ds es) := by
  unfold gPerm
  rw [h1.length, h2.length]
  split
  · exact h2.pick is
  · exact .nil
theorem perm_only {α : Type} {n k : Nat} {is : List Nat} {us ws : List α} (h : (gPerm n is us ws).length = k) (hk : k ≠ 0) : us = [] ∧ ws.length = n := by
  unfold gPerm at h
  split at h
  · rename_i q
    exact ⟨List.length_eq_zero_iff.mp q.1, q.2⟩
  · exact absurd h.symm hk
theorem len1 {α : Type} {l : List α} (h : l.length = 1) : ∃ a, l = [a] := match l, h with | [a], _ => ⟨a, rfl⟩
theorem len2 {α : Type} {l : List α} (h : l.length = 2) : ∃ a b, l = [a, b] := match l, h with | [a, b], _ => ⟨a, b, rfl⟩
theorem len3 {α : Type} {l : List α} (h : l.length = 3) : ∃ a b c, l = [a, b, c] := match l, h with | [a, b, c], _ => ⟨a, b, c, rfl⟩
theorem len4 {α : Type} {l : List α} (h : l.length = 4) : ∃ a b c d, l = [a, b, c, d] := match l, h with | [a, b, c, d], _ => ⟨a, b, c, d, rfl⟩
theorem len5 {α : Type} {l : List α} (h : l.length = 5) : ∃ a b c d e, l = [a, b, c, d, e] := match l, h with | [a, b, c, d, e], _ => ⟨a, b, c, d, e, rfl⟩
end Dl

/-! D17: a law's beginning, behind its stock; small helps -/
namespace Dl
open PySem PySem.Spec PyProof.Rows L2
theorem law_start {s g f a : Addr} {H' : Hp} {N : List Str} (hN : 2 ≤ N.length) (stk : Stk s g f H') : S (FS s g f) H' [s, g, f] (.no :: .v (.ref s) :: List.replicate (N.length - 2) .no) ((L2.start N [.ref a]).set 1 (some (.ref s))) H' := by
  have sl : ((L2.start N [.ref a]).set 1 (some (.ref s))).length = N.length := by
    unfold L2.start
    simp
    omega
  refine ⟨.refl _, stk, fun _ h => h, fun b hb => ?_, by rw [sl, List.length_cons, List.length_cons, List.length_replicate]; omega, fun i x e => ?_, fun i j t es fs h1 h2 => ?_⟩
  · obtain ⟨big, flat, tot, trn, k1, k2, k3, k4⟩ := stk
    simp only [List.mem_cons, List.not_mem_nil, or_false] at hb
    rcases hb with rfl | rfl | rfl
    · rw [k1]; exact fun z => nomatch z
    · rw [k2]; exact fun z => nomatch z
    · rw [k3]; exact fun z => nomatch z
  · match i, e with
    | 0, e =>
      cases e
      exact ⟨_, List.getElem?_eq_getElem (by rw [sl]; omega), trivial⟩
    | 1, e =>
      cases e
      refine ⟨some (.ref s), ?_, rfl⟩
      rw [List.length_set] at sl
      rw [List.getElem?_set, if_pos rfl, if_pos (by rw [sl]; omega)]
    | i + 2, e =>
      rw [List.getElem?_cons_succ, List.getElem?_cons_succ, List.getElem?_replicate] at e
      split at e
      · cases e
        exact ⟨_, List.getElem?_eq_getElem (by rw [sl]; omega), trivial⟩
      · cases e
  · match i, h1 with
    | 0, h1 => cases h1
    | 1, h1 => cases h1
    | i + 2, h1 =>
      rw [List.getElem?_cons_succ, List.getElem?_cons_succ, List.getElem?_replicate] at h1
      split at h1 <;> cases h1
theorem law_use {s g f a : Addr} {H' : Hp} {N : List Str} {Q : VK} {ts : TS} {D : Ends} {X : L2.St → Hp → Prop} (hX : X = ts D) (hN : 2 ≤ N.length) (stk : Stk s g f H') (hD : D.rt = Q) (z : ∀ H', Q (.bl true) H')
    (hs : Sq (FS s g f) [s, g, f] (.no :: .v (.ref s) :: List.replicate (N.length - 2) .no) ts { nx := fun _ _ => False, rt := fun d => d = .bool true }) : gName 1 (.ref s) (L2.start N [.ref a]) H' X := by
  subst hX
  exact hs H' _ H' (law_start hN stk) D (fun _ _ _ _ _ h => h.elim) (fun _ v d H2 _ _ _ dt hd => by
    subst hd
    cases dt
    rw [hD]
    exact z H2) (fun _ _ _ _ _ h => h.elim) (fun _ _ _ _ _ h => h.elim)
theorem all_ints : ∀ {ys : List PyData}, (∀ y ∈ ys, ∃ i, y = .int i) → ∃ ns : List Int, ys = ns.map .int
  | [], _ => ⟨[], rfl⟩
  | y :: r, h => by
    obtain ⟨i, rfl⟩ := h y List.mem_cons_self
    obtain ⟨ns, e⟩ := all_ints fun z hz => h z (List.mem_cons_of_mem _ hz)
    exact ⟨i :: ns, by rw [e] <;> rfl⟩
theorem enum_mem {xs : List PyData} {e : PyData} (h : e ∈ enumD xs) : ∃ (i : Nat) (d : PyData), d ∈ xs ∧ e = .tuple [.int (i : Nat), d] := by
  obtain ⟨i, hi, q⟩ := List.getElem_of_mem h
  obtain ⟨d, hd, e⟩ := enum_inv (by rw [List.getElem?_eq_getElem hi, q])
  exact ⟨i, d, List.mem_of_getElem? hd, e⟩
theorem shaped_unit : SeqAt.shaped (.tuple []) = true := by decide +kernel
theorem eqv_nil_tup (xs : List PyData) : PyData.eqv (.tuple xs) (.tuple []) = xs.isEmpty := by
  cases xs <;> simp [PyData.eqv, PyData.eqvAll]
theorem last_of {α : Type} {l : List α} (h : l ≠ []) : ∃ r x, l = r ++ [x] := ⟨l.dropLast, l.getLast h, (List.dropLast_concat_getLast h).symm⟩
end Dl

/-! D18: weavings as data; chains of comparisons; long tuples of short things -/
namespace Dl
open PySem PySem.Spec PyProof.Rows L2
section
variable {F : Fm} {A : List Addr} {Δ : List Sl} {K : PySem.W.Frag} {ta tb tc : TE} {q : PyData → Prop}
theorem ev_chain {g1 g2 : Int → Int → Bool} (h : Ev F A Δ ta fun d1 => Ev F A Δ tb fun d2 => ∃ i j, d1 = .int i ∧ d2 = .int j ∧ (g1 i j = true → Ev F A Δ tc fun d3 => ∃ k, d3 = .int k ∧ q (.bool (g2 j k))) ∧ (g1 i j = false → q (.bool false))) :
    Ev F A Δ (tChain (rI0 fun i j => .bl (g1 i j)) (rI0 fun i j => .bl (g2 i j)) ta tb tc) q := fun H0 σ H s Q z =>
  h H0 σ H s _ fun x d1 H1 s1 f1 h1 k1 => k1 H0 σ H1 s1 _ fun y d2 H2 s2 f2 h2 ⟨i, j, e1, e2, k2⟩ => by
    subst e1 e2
    cases h1
    cases h2
    refine ⟨i, j, rfl, rfl, g1 i j, rfl, ?_⟩
    cases hij : g1 i j with
    | true =>
      refine iteT (k2.1 hij H0 σ H2 s2 _ fun w d3 H3 s3 f3 h3 ⟨k, e3, k3⟩ => ?_)
      subst e3
      cases h3
      exact ⟨j, k, rfl, rfl, z _ _ H3 s3 ((f1.trans f2).trans f3) (.bl _) k3⟩
    | false => exact iteF (z _ _ H2 s2 (f1.trans f2) (.bl _) (k2.2 hij))
end
/-! is_number, is_tuple_of -/
def R_num : List PyData → PyData → Prop
  | [d], r => r = .bool (isNum d)
  | _, _ => False
theorem isTup_inv {d : PyData} (h : isTupD d = true) : ∃ xs, d = .tuple xs := by
  cases d <;> first | exact ⟨_, rfl⟩ | cases h
def tupLen (n : Int) : PyData → Bool
  | .tuple xs => decide (((xs.length : Nat) : Int) = n)
  | _ => false
abbrev C_tl (x : PyData × Int) (ds : List PyData) : Prop := ds = [x.1, .int x.2]
def R_tl (x : PyData × Int) (r : PyData) : Prop := r = .bool (tupLen x.2 x.1)
/-! runs, weavings -/
abbrev Rn := Int × Int × Int
abbrev trD (x : Rn) : PyData := .tuple [.int x.1, .int x.2.1, .int x.2.2]
abbrev wvT (ts : List Rn) : PyData := .tuple (ts.map trD)
def WvOk (b n : Nat) (T : Int) (ts : List Rn) : Prop := (∀ t ∈ ts, 1 ≤ t.1 ∧ t.1 < ((b : Nat) : Int) ∧ 0 ≤ t.2.1 ∧ t.2.1 < ((n : Nat) : Int) ∧ 1 ≤ t.2.2 ∧ t.2.2 ≤ T) ∧ (ts.map fun t => t.1).Pairwise (· ≤ ·)
def trip : PyData → Bool
  | .tuple [.int _, .int _, .int _] => true
  | _ => false
theorem trip_inv {d : PyData} (h : trip d = true) : ∃ s d' t, d = .tuple [.int s, .int d', .int t] := by
  unfold trip at h
  split at h
  · exact ⟨_, _, _, rfl⟩
  · cases h
theorem trip_no {d : PyData} (h : ∀ s d' t, d ≠ .tuple [.int s, .int d', .int t]) : trip d = false := by
  unfold trip
  split
  · exact absurd rfl (h _ _ _)
  · rfl
theorem trip_three (a b c : PyData) : trip (.tuple [a, b, c]) = (isNum a && (isNum b && (isNum c && true))) := by
  cases a with
  | int i =>
    cases b with
    | int j =>
      cases c <;> rfl
    | _ => rfl
  | _ => rfl
def wvForm : PyData → Bool
  | .tuple xs => decide (xs.length ≤ 100) && xs.all trip
  | _ => false
def runFault (b n : Nat) (lo : Int) : PyData → Option Str
  | .tuple [.int s, .int d, .int t] => if lo ≤ s ∧ s < ((b : Nat) : Int) then (if 0 ≤ d ∧ d < ((n : Nat) : Int) then (if 1 ≤ t ∧ t ≤ 1000000 then none else some "times") else some "deed") else some "stand"
  | _ => none
def runStand : PyData → Int
  | .tuple [.int s, _, _] => s
  | _ => 0
def wvFrom (b n : Nat) : Nat → Int → List PyData → PyData
  | _, _, [] => .none
  | i, lo, r :: rs => match runFault b n lo r with
    | some w => .tuple [.str w, .int (i : Nat)]
    | none => wvFrom b n (i + 1) (runStand r) rs
def wvD (b n : Nat) (d : PyData) : PyData := if wvForm d then (match d with
  | .tuple xs => wvFrom b n 0 1 xs
  | _ => .none) else .str "form"
theorem wvD_form {b n : Nat} {d : PyData} (h : wvForm d = false) : wvD b n d = .str "form" := by
  unfold wvD
  rw [h] <;> rfl
theorem wvD_tup {b n : Nat} {xs : List PyData} (h : wvForm (.tuple xs) = true) : wvD b n (.tuple xs) = wvFrom b n 0 1 xs := by
  unfold wvD
  rw [h] <;> rfl
theorem wvFrom_bad {b n i : Nat} {lo : Int} {r : PyData} {rs : List PyData} {w : Str} (h : runFault b n lo r = some w) : wvFrom b n i lo (r :: rs) = .tuple [.str w, .int (i : Nat)] := by
  unfold wvFrom
  rw [h]
theorem wvFrom_ok {b n i : Nat} {lo : Int} {r : PyData} {rs : List PyData} (h : runFault b n lo r = none) : wvFrom b n i lo (r :: rs) = wvFrom b n (i + 1) (runStand r) rs := by
  conv => lhs; unfold wvFrom
  rw [h]
structure Wd where
  x : PyData
  rows : List PyData
  bs : List PyData
  d : PyData
abbrev C_wd (x : Wd) (ds : List PyData) : Prop := ds = [.tuple [x.x, .tuple x.rows], .tuple x.bs, x.d] ∧ x.rows.length ≤ 1000 ∧ x.bs.length ≤ 1000 ∧ ∀ xs, x.d = .tuple xs → xs.length ≤ 1000 ∧ ∀ ys, PyData.tuple ys ∈ xs → ys.length ≤ 1000
def R_wd (x : Wd) (r : PyData) : Prop := r = wvD x.bs.length x.rows.length x.d
/-! short and long -/
theorem Sm.tupInv {k : Nat} {xs : List PyData} (h : Sm k (.tuple xs)) : xs.length ≤ 20 ∧ ∃ j, k = j + 1 ∧ ∀ x ∈ xs, Sm j x := by
  cases h with
  | leaf a => exact absurd a (by simp only [PyData.depth]; omega)
  | tup l h => exact ⟨l, _, rfl, h⟩
theorem long_shw {xs : List PyData} (l : xs.length ≤ 200) (h : ∀ x ∈ xs, Sm 2 x) : Shw (.tuple xs) := by
  refine ⟨by simp only [PyData.showable]; exact showAll_of fun x hx => (h x hx).all.1, by simp only [PyData.depth]; have := depthAll_of fun x hx => (h x hx).all.2.1; omega, ?_⟩
  simp only [PyData.shown]
  have hp := piled_le (B := smB 2) (PyData.shownAll xs) fun t ht => by
    obtain ⟨x, hx, rfl⟩ := shownAll_mem ht
    exact (h x hx).all.2.2
  rw [shownAll_len] at hp
  have hm : xs.length * (smB 2 + 2) ≤ 200 * (smB 2 + 2) := Nat.mul_le_mul_right _ l
  unfold tupleText
  rw [strLen_append, strLen_append]
  have hj : (Str.join ", " (PyData.shownAll xs)).length ≤ piled (PyData.shownAll xs) := by
    by_cases e : PyData.shownAll xs = []
    · rw [e]
      exact Nat.le_refl _
    · have := join_length_add _ e
      omega
  have h1 : (("(" : String) : Str).length ≤ 2 := by decide
  have h2 : ((if (PyData.shownAll xs).length == 1 then ",)" else ")" : String) : Str).length ≤ 2 := by split <;> decide
  have hs : 200 * (smB 2 + 2) + 100 ≤ sizeLine := by rw [sizeLine_eq]; decide
  omega
theorem sm_tr {k : Nat} {t : Rn} (h : -(10 ^ 60) ≤ t.1 ∧ t.1 ≤ 10 ^ 60 ∧ -(10 ^ 60) ≤ t.2.1 ∧ t.2.1 ≤ 10 ^ 60 ∧ -(10 ^ 60) ≤ t.2.2 ∧ t.2.2 ≤ 10 ^ 60) : Sm (k + 1) (trD t) := .tup (by simp) fun x hx => by
  simp only [List.mem_cons, List.not_mem_nil, or_false] at hx
  rcases hx with rfl | rfl | rfl
  · exact .int h.1 h.2.1
  · exact .int h.2.2.1 h.2.2.2.1
  · exact .int h.2.2.2.2.1 h.2.2.2.2.2
theorem wv_sm {b n : Nat} {T : Int} {ts : List Rn} (h : WvOk b n T ts) (hb : b ≤ 1000) (hn : n ≤ 1000) (hT : T ≤ 1000000) {k : Nat} : ∀ x ∈ ts.map trD, Sm (k + 1) x := fun x hx => by
  obtain ⟨t, ht, rfl⟩ := List.mem_map.mp hx
  have q := h.1 t ht
  have b60 := big60
  exact sm_tr ⟨by omega, by omega, by omega, by omega, by omega, by omega⟩
theorem wvFrom_sm {b n : Nat} : ∀ (rs : List PyData) (i : Nat) (lo : Int), i + rs.length ≤ 100000 → Sm 1 (wvFrom b n i lo rs)
  | [], _, _, _ => .non
  | r :: rs, i, lo, h => by
    rw [List.length_cons] at h
    cases q : runFault b n lo r with
    | none =>
      rw [wvFrom_ok q]
      exact wvFrom_sm rs (i + 1) _ (by omega)
    | some w =>
      rw [wvFrom_bad q]
      have hw : w = "stand" ∨ w = "deed" ∨ w = "times" := by
        unfold runFault at q
        split at q
        · split at q
          · split at q
            · split at q
              · cases q
              · cases q; exact .inr (.inr rfl)
            · cases q; exact .inr (.inl rfl)
          · cases q; exact .inl rfl
        · cases q
      have b60 := big60
      refine .tup (by simp) fun x hx => ?_
      simp only [List.mem_cons, List.not_mem_nil, or_false] at hx
      rcases hx with rfl | rfl
      · rcases hw with rfl | rfl | rfl <;> exact .leaf (by simp only [PyData.depth]) (by decide) (by decide +kernel)
      · exact .int (by omega) (by omega)
theorem wvD_sm {b n : Nat} {d : PyData} (h : ∀ xs, d = .tuple xs → xs.length ≤ 1000) : Sm 1 (wvD b n d) := by
  unfold wvD
  split
  · split
    · rename_i xs hq
      exact wvFrom_sm _ _ _ (by have := h xs rfl; omega)
    · exact .non
  · exact .leaf (by simp only [PyData.depth]) (by decide) (by decide +kernel)
end Dl

/-! D19: the law's weavings: what is asked, what is drawn -/
namespace Dl
open PySem PySem.Spec PyProof.Rows L2
theorem filt_all (xs : List PyData) (p : PyData → Bool) : ((xs.filter fun d => !p d).map fun _ => (1 : Int)).isEmpty = xs.all p := by
  rw [Bool.eq_iff_iff, List.isEmpty_iff, List.map_eq_nil_iff, List.filter_eq_nil_iff, List.all_eq_true]
  constructor
  · intro h x hx
    simpa using h x hx
  · intro h x hx
    simpa using h x hx
abbrev C_wv (ds : List PyData) : Prop := ∃ (m : Int) (rows nss : List (List Int)) (runs T : Int), ds = [bookD m rows, ordOf nss, .int runs, .int T] ∧ rows.length ≤ 1000 ∧ nss.length ≤ 1000 ∧ 0 ≤ runs ∧ runs ≤ 1000 ∧ 2 ≤ T ∧ T ≤ 1000000
def R_wv : List PyData → PyData → Prop
  | [.tuple [_, .tuple rows], .tuple bs, .int runs, .int T], r => ∃ ts, r = wvT ts ∧ ((ts.length : Nat) : Int) ≤ runs ∧ WvOk bs.length rows.length T ts
  | _, _ => False
theorem R_wv_inv {m : Int} {rows nss : List (List Int)} {runs T : Int} {r : PyData} (h : R_wv [bookD m rows, ordOf nss, .int runs, .int T] r) : ∃ ts, r = wvT ts ∧ ((ts.length : Nat) : Int) ≤ runs ∧ WvOk nss.length rows.length T ts := by
  obtain ⟨ts, e, hl, hw⟩ := h
  rw [blks_len, blks_len] at hw
  exact ⟨ts, e, hl, hw⟩
end Dl

/-! Z1: zip of a list and a tuple -/
namespace Dl
open PySem PySem.Spec PyProof.Rows L2
/-- the list at a and the tuple at b, side by side -/
def ItzM (K : PySem.W.Frag) (a b : Addr) : It where
  go i H := ∃ (us ws : List V) (u v : V), (SqL K H a us ∧ us[i]? = some u) ∧ SqT K H b ws ∧ ws[i]? = some v
  yld i H v H' := ∃ T u v2, (v = .ref T ∧ H T = none ∧ H' = upd H T (.tup [u, v2])) ∧ (∀ us, SqL K H a us → us[i]? = some u) ∧ ∀ ws, SqT K H b ws → ws[i]? = some v2
  stop i H := ∃ us ws : List V, (SqL K H a us ∧ SqT K H b ws) ∧ (i ≤ us.length ∧ i ≤ ws.length) ∧ (i = us.length ∨ i = ws.length)
theorem zip_sep {c t u p q a b : Addr} (D : ZipApart c t u p q a b) : ZipSep2 c t u p q [p, a] [q, b] where
  TIz := D.TIz
  TOz := D.TOz
  TITO := D.TITO
  TIi1 := D.TIi1
  mem1 := List.mem_cons_self
  zf1 := by simp only [List.mem_cons, List.not_mem_nil, or_false, not_or]; exact ⟨D.i1z.symm, D.l1z.symm⟩
  Tf1 := by simp only [List.mem_cons, List.not_mem_nil, or_false, not_or]; exact ⟨D.TOi1, D.l1TO.symm⟩
  TIi2 := D.TIi2
  mem2 := List.mem_cons_self
  zf2 := by simp only [List.mem_cons, List.not_mem_nil, or_false, not_or]; exact ⟨D.i2z.symm, D.l2z.symm⟩
  Tf2 := by simp only [List.mem_cons, List.not_mem_nil, or_false, not_or]; exact ⟨D.TOi2, D.l2TO.symm⟩
  sep1_2 := by simp only [List.mem_cons, List.not_mem_nil, or_false, not_or]; exact ⟨D.i12, D.l2i1.symm⟩
  sep2_1 := by simp only [List.mem_cons, List.not_mem_nil, or_false, not_or]; exact ⟨D.i12.symm, D.l1i2.symm⟩
/-- how the five cells stand at the turn i -/
structure ZmSt (a b c t u p q : Addr) (i : Nat) (h : Heap) : Prop where
  c0 : IsZip h c t u .none
  t0 : IsTupOf2 h t (.ref p) (.ref q)
  u0 : ∃ x y, IsTupOf2 h u x y
  p0 : h.IsListIter p a i
  q0 : h.IsTupleIter q b i
theorem five {c t u p q e : Addr} (h : e ∈ [c, t, u, p, q]) : e = c ∨ e = t ∨ e = u ∨ e = p ∨ e = q := by simpa using h
theorem turn_zipM {P : Program} {w : World} {K : PySem.W.Frag} {elts : List Expr} {kk : Nat} {tpos : Pos} {a b c t u p q : Addr} (D : ZipApart c t u p q a b) :
    Turn P w K (.Tuple elts kk tpos) (ItzM K a b) [c, t, u, p, q] c (ZmSt a b c t u p q) where
  mem := List.mem_cons_self
  obj := fun i h st e he => by
    obtain ⟨x, y, hu⟩ := st.u0
    obtain ⟨op, ep, _, dp⟩ := st.p0
    obtain ⟨oq, eq, _, dq⟩ := st.q0
    rcases five he with rfl | rfl | rfl | rfl | rfl
    · exact ⟨_, st.c0, fun v r => nomatch r⟩
    · exact ⟨_, st.t0, fun v r => nomatch r⟩
    · exact ⟨_, hu, fun v r => nomatch r⟩
    · exact ⟨op, ep, fun v r => by rw [dp] at r; cases r⟩
    · exact ⟨oq, eq, fun v r => by rw [dq] at r; cases r⟩
  keep := fun i h h' st k => by
    obtain ⟨x, y, hu⟩ := st.u0
    exact ⟨k c (by simp) _ st.c0, k t (by simp) _ st.t0, ⟨x, y, k u (by simp) _ hu⟩, st.p0.at fun o r => k p (by simp) o r, st.q0.at fun o r => k q (by simp) o r⟩
  item := by
    intro X eP eW eK hc i pins s σ H E I fp st hg
    subst eP eW eK
    obtain ⟨x0, y0, hu⟩ := st.u0
    obtain ⟨us, ws, x, y, ⟨hL, hx⟩, hT, hy⟩ := hg
    obtain ⟨its, rv, pl, _⟩ := I.list hL
    obtain ⟨its2, rv2, pt, _⟩ := I.tuple hT
    obtain ⟨vx, hvx, rx⟩ := rv.get hx
    obtain ⟨vy, hvy, ry⟩ := rv2.get hy
    have hi1 : i < its.toArray.size := by rw [List.size_toArray]; exact (List.getElem?_eq_some_iff.mp hvx).1
    have hi2 : i < its2.toArray.size := by rw [List.size_toArray]; exact (List.getElem?_eq_some_iff.mp hvy).1
    have lc : c < s.heap.objs.size := Heap.lt_size st.c0
    refine wpAny_pyNext_zipD2_item (zip_sep D) (Draws.list (prog := X.prog) (w := X.w) (A := X.A.in1) (I.ok.hd hc) p a D.l1i1 its.toArray) (Draws.tuple (prog := X.prog) (w := X.w) (A := X.A.in1) (I.ok.hd hc) q b D.l2i2 its2.toArray) st.c0 st.t0 hu ⟨st.p0, pl.isList⟩ ⟨st.q0, pt⟩ hi1 hi2 fun v1 v2 h1 tk e1 e2 c1 u1 s1 s2 n1 z1 k1 => ?_
    obtain rfl : v1 = vx := by
      have r : its.toArray[i]? = some v1 := e1
      rw [List.getElem?_toArray, hvx] at r
      exact (Option.some.inj r).symm
    obtain rfl : v2 = vy := by
      have r : its2.toArray[i]? = some v2 := e2
      rw [List.getElem?_toArray, hvy] at r
      exact (Option.some.inj r).symm
    refine ⟨_, rfl, wpAny_letOwnedTupleGo_zip (s := { s with heap := h1, toks := tk }) c1 fun h2 c2 sb => ?_⟩
    have nT : h2.get? s.heap.objs.size = some { cls := .type "tuple", data := .seq #[v1, v2] } := (sb.2 _ (Nat.ne_of_gt lc)).trans n1
    have nw : ObjOk X.prog X.w (upd H s.heap.objs.size (.tup [x, y])) h2 s.heap.objs.size (.tup [x, y]) := ⟨(by show 2 ≤ sizeLine; decide), [v1, v2], .cons rx (.cons ry .nil), ⟨_, nT, rfl, _, rfl⟩⟩
    have I2 : Inv X pins σ (upd H s.heap.objs.size (.tup [x, y])) { s with heap := h2, toks := tk } :=
      I.turnedNew (t' := tk) (ch := [c, t, u, p, q]) (fun e o hb r => (sb.2 e fun r' => hb (by simp [r'])).trans (k1 e o (fun r' => hb (by simp [r'])) (fun r' => hb (by simp [r'])) (fun r' => hb (by simp [r'])) (fun r' => hb (by simp [r'])) r)) fp (Nat.le_refl _) nw
    refine ⟨.ref s.heap.objs.size, _, I2, rfl, ⟨_, x, y, ⟨rfl, I.hok.fresh (Nat.le_refl _), rfl⟩, fun l hl => by rw [I.list_inj hl hL]; exact hx, fun l hl => by rw [I.tuple_inj hl hT]; exact hy⟩, ⟨c2, ?_, ⟨v1, v2, ?_⟩, ?_, ?_⟩, fun e he => ?_⟩
    · exact (sb.2 _ D.TIz).trans (k1 _ _ D.TIz D.TITO D.TIi1 D.TIi2 st.t0)
    · exact (sb.2 _ D.TOz).trans u1
    · exact s1.1.at fun o r => (sb.2 _ D.i1z).trans r
    · exact s2.1.at fun o r => (sb.2 _ D.i2z).trans r
    · have le : e < s.heap.objs.size := by
        obtain ⟨_, r1, _⟩ := st.p0
        obtain ⟨_, r2, _⟩ := st.q0
        rcases five he with rfl | rfl | rfl | rfl | rfl
        · exact lc
        · exact Heap.lt_size st.t0
        · exact Heap.lt_size hu
        · exact Heap.lt_size r1
        · exact Heap.lt_size r2
      rw [upd_ne (Nat.ne_of_lt le)]
      exact (fp e he).1
  done := by
    intro X eP eW eK hc i pins s σ H E I fp st hg
    subst eP eW eK
    obtain ⟨x0, y0, hu⟩ := st.u0
    obtain ⟨us, ws, ⟨hL, hT⟩, ⟨b1, b2⟩, hend⟩ := hg
    obtain ⟨its, rv, pl, _⟩ := I.list hL
    obtain ⟨its2, rv2, pt, _⟩ := I.tuple hT
    have l1 := rv.length
    have l2 := rv2.length
    refine wpAny_pyNext_zipD2_end (zip_sep D) (Draws.list (prog := X.prog) (w := X.w) (A := X.A.in1) (I.ok.hd hc) p a D.l1i1 its.toArray) (Draws.tuple (prog := X.prog) (w := X.w) (A := X.A.in1) (I.ok.hd hc) q b D.l2i2 its2.toArray) st.c0 st.t0 hu ⟨st.p0, pl.isList⟩ ⟨st.q0, pt⟩ (by rw [List.size_toArray]; omega) (by rw [List.size_toArray]; omega) (by rw [List.size_toArray, List.size_toArray]; omega) fun h1 tk k1 => ?_
    exact ⟨rfl, I.turnedL (t' := tk) (ch := [c, t, u, p, q]) (fun e o hb r => k1 e o (fun r' => hb (by simp [r'])) (fun r' => hb (by simp [r'])) (fun r' => hb (by simp [r'])) (fun r' => hb (by simp [r'])) r) fp⟩
  self := fun A i s Q E st h => wpAny_pyIter_zip st.c0 h
/-- zip(list, tuple) -/
def iZipM (K : PySem.W.Frag) (ta : TA) : TI := fun σ H R => ta σ H fun vs H1 => ∃ a b us ws, vs = [.ref a, .ref b] ∧ SqL K H1 a us ∧ SqT K H1 b ws ∧ R (ItzM K a b) H1
theorem pi_zipM {X : Cx} {e1 e2 : Expr} {ta : TA} {p pos tpos : Pos} {elts : List Expr} {kk : Nat} (hg : Gl X "zip") (hm : X.mg "zip" = none) (ha : PA X [e1, e2] ta)
    (hs : starEach [e1, e2] X.env = (false, eval e1 X.env) :: starEach [e2] X.env := by rfl) (hpl : (backTo pos (starEach [e2] X.env)).any (·.1) = false := by rfl) :
    PI X (.Tuple elts kk tpos) (.Call (.Name "zip" p) [e1, e2] [] pos) (iZipM X.K ta) := by
  refine ⟨fun pins s σ H R I h => Call_ (ld_blt I hg hm PyProof.Rows.boot_zip (PyProof.Rows.callWith_type1 (thn (ha.run pos pins s σ H _ I h) fun us s1 ⟨vs, H1, I1, r1, a, b, xs, ys, ev, hL, hT, q⟩ => ?_) hs hpl))⟩
  subst ev
  cases r1 with
  | cons ra rr =>
    cases rr with
    | cons rb rr =>
      cases rr
      cases ra
      cases rb
      obtain ⟨its, rv, pl, _⟩ := I1.list hL
      obtain ⟨its2, rv2, pt, _⟩ := I1.tuple hT
      obtain ⟨o2, ho2, _⟩ := id pt
      have news : ∀ c, c ∈ [s1.heap.objs.size + 4, s1.heap.objs.size + 2, s1.heap.objs.size + 3, s1.heap.objs.size, s1.heap.objs.size + 1] → FpOk X pins H1 c := fun c hcm => by
        have hle : s1.heap.objs.size ≤ c := by
          rcases five hcm with e | e | e | e | e
          · rw [e]; exact Nat.le_add_right _ _
          · rw [e]; exact Nat.le_add_right _ _
          · rw [e]; exact Nat.le_add_right _ _
          · rw [e]; exact Nat.le_refl _
          · rw [e]; exact Nat.le_add_right _ _
        exact I1.fpOk hle (I1.hok.fresh hle)
      refine zip_begins2 (begins_list a its.toArray) (begins_tuple b its2.toArray) pl.isList pt fun h' c0 t0 u0 p0 q0 z0 k0 => wpAny_pyIter_zip c0 ?_
      have I2 : Inv X pins σ H1 { s1 with heap := h' } := I1.kept (t' := s1.toks) k0
      exact ⟨s1.heap.objs.size + 4, [s1.heap.objs.size + 4, s1.heap.objs.size + 2, s1.heap.objs.size + 3, s1.heap.objs.size, s1.heap.objs.size + 1], _, _, H1, rfl, I2, turn_zipM (PySem.W.ktu_apart s1.heap.objs.size a b pl.lt (Heap.lt_size ho2)), ⟨c0, t0, ⟨_, _, u0⟩, ⟨_, p0, rfl, rfl⟩, ⟨_, q0, rfl, rfl⟩⟩, news, q⟩
section
variable {F : Fm} {A : List Addr} {Δ : List Sl} {K : PySem.W.Frag} {ta : TA}
theorem walk_zm {H : Hp} {A : List Addr} {a b : Addr} {vx vy : List V} {xs ys : List PyData} (ha : H a = some (.lst vx)) (na : a ∉ A) (tx : DtA H A vx xs) (hb : H b = some (.tup vy)) (nb : b ∉ A) (ty : DtA H A vy ys) : WalkD A (ItzM K a b) (List.zipWith (fun x y => .tuple [x, y]) xs ys) H where
  go := fun B i H' x f hi => by
    rw [List.length_zipWith] at hi
    have l1 := tx.length
    have l2 := ty.length
    exact ⟨vx, vy, vx[i], vy[i], ⟨.of (frB x f na ha), List.getElem?_eq_getElem (by omega)⟩, .of (frB x f nb hb), List.getElem?_eq_getElem (by omega)⟩
  stop := fun B H' x f => by
    have l1 := tx.length
    have l2 := ty.length
    rw [List.length_zipWith]
    exact ⟨vx, vy, ⟨.of (frB x f na ha), .of (frB x f nb hb)⟩, ⟨by omega, by omega⟩, by omega⟩
  yld := fun B i H' v H'' x f tr hi y => by
    obtain ⟨T, u, w, ⟨rfl, nT, rfl⟩, y1, y2⟩ := y
    obtain ⟨d1, e1, hd1⟩ := (dtB x f tx).get (y1 _ (.of (frB x f na ha)))
    obtain ⟨d2, e2, hd2⟩ := (dtB x f ty).get (y2 _ (.of (frB x f nb hb)))
    exact ⟨.new nT, .tuple [d1, d2], by rw [List.getElem?_zipWith, e1, e2], .newT nT tr (.cons hd1 (.cons hd2 .nil))⟩
theorem evi_zipM {q : List PyData → Prop} (h : EvA F A Δ ta fun ds => ∃ xs ys, ds = [.list xs, .tuple ys] ∧ q (List.zipWith (fun x y => .tuple [x, y]) xs ys)) : EvI F A Δ (iZipM K ta) q := fun H0 σ H s R z =>
  h H0 σ H s _ fun vs ds H1 s1 f1 h1 ⟨xs, ys, e, k⟩ => by
    subst e
    cases h1 with
    | cons hx ht =>
      cases ht with
      | cons hy ht =>
        cases ht
        cases hx with
        | lst ha na tx =>
          cases hy with
          | tup hb nb ty => exact ⟨_, _, _, _, rfl, .of ha, .of hb, z _ _ H1 s1 f1 (walk_zm ha na tx hb nb ty) k⟩
end
end Dl

/-! D20: loops whose own lists are bound anew; promises that draw, by a ghost; sizes of texts -/
namespace Dl
open PySem PySem.Spec PyProof.Rows L2
def BackX (P : List Addr → List Sl → Prop) (A' : List Addr) (Δ' : List Sl) : Prop := ∃ Δ3, Weak Δ' Δ3 ∧ P A' Δ3
section
variable {F : Fm} {A : List Addr} {Δ : List Sl} {K : PySem.W.Frag} {tb : TS} {te : TE} {E : En} {i : Nat}
theorem sq_forX {wi : TI} {g : TG} {u : PyData → List Sl → Option (List Sl)} {js : List Nat} (hg : TgD g u js)
    (h : EvI F A Δ wi fun xs => ∃ Inv : Nat → List Addr → List Sl → Prop, Inv 0 A Δ ∧ (∀ i d A' Δ', (∀ a ∈ A, a ∈ A') → xs[i]? = some d → Inv i A' Δ' → ∃ Δ1, u d Δ' = some Δ1 ∧ Sq F A' Δ1 tb { nx := BackX (Inv (i + 1)), rt := E.rt, bk := E.nx, ct := BackX (Inv (i + 1)) }) ∧ (∀ A' Δ', (∀ a ∈ A, a ∈ A') → Inv xs.length A' Δ' → E.nx A' Δ')) :
    Sq F A Δ (tFor wi g tb) E := fun H0 σ H s D n r b c =>
  h H0 σ H s _ fun J xs H1 s1 f1 w ⟨Wi, i0, step, fin⟩ => by
    refine ⟨fun i m σ' H' => m = xs.length - i ∧ i ≤ xs.length ∧ ∃ A' Δ', Wi i A' Δ' ∧ Go F H0 A H1 A' Δ' σ' H', ⟨_, rfl, Nat.zero_le _, A, Δ, i0, .refl s1⟩, ?_⟩
    rintro i m σ' H' ⟨rfl, hi, A', Δ', iv, g1⟩
    have gA : Go F H0 A H A' Δ' σ' H' := (Go.of s1 (f1.more s.sub)).trans g1
    have x : Ext A H1 A' := ⟨g1.sub, g1.new⟩
    have fA : Fr A' H1 H' := g1.fr.more g1.sub
    by_cases hl : i < xs.length
    · refine .inr ⟨w.go A' i H' x fA hl, fun σ3 H3 => ∃ A3 Δ3, Wi (i + 1) A3 Δ3 ∧ Go F H0 A H1 A3 Δ3 σ3 H3, fun σ3 H3 z => ⟨xs.length - (i + 1), by omega, rfl, hl, z⟩, fun v H2 y => ?_⟩
      obtain ⟨f3, d, ed, hd⟩ := w.yld A' i H' v H2 x fA g1.st.trk hl y
      have s3 := g1.st.more f3
      obtain ⟨Δ1, eu, k⟩ := step i d A' Δ' g1.sub ed iv
      refine hg F H0 H2 A' Δ' Δ1 σ' v d s3 hd eu _ fun σ2 s4 _ _ => ?_
      have gs : Go F H0 A' H' A' Δ1 σ2 H2 := .of s4 (f3.more fun _ z => nomatch z)
      have nxt : ∀ A2 Δ2 σ4 H4, Go F H0 A' H2 A2 Δ2 σ4 H4 → BackX (Wi (i + 1)) A2 Δ2 → ∃ A3 Δ3, Wi (i + 1) A3 Δ3 ∧ Go F H0 A H1 A3 Δ3 σ4 H4 := fun A2 Δ2 σ4 H4 g2 ⟨Δ3, wk, iv'⟩ => by
        have gg := (g1.trans gs).trans g2
        exact ⟨A2, Δ3, iv', gg.sub, gg.new, gg.fr, gg.st.weak wk⟩
      exact k H0 σ2 H2 s4 _ nxt (fun A2 v d H3 a2 f i dt hr => r A2 v d H3 (fun x h z => a2 x (g1.sub x h) z) f i dt hr) (fun A2 Δ2 σ4 H4 g2 q2 => n A2 Δ2 σ4 H4 ((gA.trans gs).trans g2) q2) nxt
    · have e : i = xs.length := by omega
      subst e
      exact .inl ⟨w.stop A' H' x fA, n A' Δ' σ' H' gA (fin A' Δ' g1.sub iv)⟩
/-- xs + e, xs own -/
theorem evn_catM {t : Addr} {ds : List PyData} {q : List PyData → Prop} (h : Δ[i]? = some (.m t ds)) (hb : Ev F A Δ te fun d2 => ∃ fs, d2 = .list fs ∧ ds.length + fs.length ≤ 100000 ∧ q (ds ++ fs)) : EvN F A Δ (tOp rCat (tVar i) te) q := fun H0 σ H s Q z => by
  obtain ⟨o, ho, e0, _⟩ := s.env i _ h
  subst e0
  refine ⟨_, ho, hb H0 σ H s _ fun v d H1 s1 f1 h1 ⟨fs, e, hz, k⟩ => ?_⟩
  subst e
  obtain ⟨_, _, _, tA, _, _, vs, ht, hv⟩ := s1.env i _ h
  cases h1 with
  | lst a2 n2 t2 =>
    refine ⟨_, _, _, _, rfl, rfl, ht, a2, by rw [hv.length, t2.length, sizeLine_eq]; omega, fun p hp => ?_⟩
    exact z p _ _ _ (s1.laidP hp) (f1.trans (.new hp)) (f1.free hp) upd_same (((hv.append t2).add hp).mono (m := []) (.new hp) fun _ z => nomatch z) k
end
/-- a def that draws, told by a ghost -/
def PSX {Y : Type} (C : Y → List PyData → Prop) (R : Y → PyData → Prop) : Sp := fun vs H Q _ => ∃ x s g f A vs' ds, vs = .ref s :: vs' ∧ Stk s g f H ∧ (∀ a ∈ (FS s g f).m, a ∈ A) ∧ (∀ a ∈ A, H a ≠ none) ∧ DtA H A vs' ds ∧ C x ds ∧
  ∀ v d H', Fr (FS s g f).m H H' → Stk s g f H' → Dt H' A v d → R x d → Q v H'
section
variable {s g f : Addr} {A : List Addr} {Δ : List Sl} {K : PySem.W.Frag} {t tk : TA} {q : PyData → Prop} {Y : Type} {C : Y → List PyData → Prop} {R : Y → PyData → Prop} {E : XK} {i : Nat}
theorem ev_callSX (hi : Δ[i]? = some (.v (.ref s))) (h : EvA (FS s g f) A Δ t fun ds => ∃ x, C x ds ∧ ∀ d, R x d → q d) : Ev (FS s g f) A Δ (tCall (PSX C R) [] E (tCons (tVar i) t)) q := fun H0 σ H st Q z => by
  obtain ⟨o, ho, e⟩ := st.env i _ hi
  subst e
  refine ⟨.ref s, ho, h H0 σ H st _ fun vs ds H1 s1 f1 h1 ⟨x, c, k⟩ => ?_⟩
  show PSX C R ((.ref s :: vs) ++ []) H1 Q E
  rw [List.append_nil]
  exact ⟨x, s, g, f, A, vs, ds, rfl, s1.inv, s1.sub, s1.trk, h1, c, fun v d H2 f2 i2 h2 hr => z v d H2 (s1.step f2 i2) (f1.trans f2) h2 (k d hr)⟩
theorem enterSX {N : List Str} {vs : List V} {H : Hp} {Q : VK} {ts : TS} (h : PSX C R vs H Q E) (k : ∀ s g f A ds x, C x ds → Sq (FS s g f) A (startS N s ds) ts { nx := fun _ _ => R x .none, rt := R x }) : ts { nx := fun _ H' => Q .non H', rt := Q } (start N vs) H := by
  obtain ⟨x, s, g, f, A, vs', ds, rfl, i, sub, trk, hd, c, z⟩ := h
  have st : S (FS s g f) H A (startS N s ds) (start N (.ref s :: vs')) H := .startS i sub trk hd
  refine k s g f A ds x c H _ H st _ (fun A' Δ' σ' H' g hr => z _ _ H' g.st.fr g.st.inv .non hr) (fun A' v d H' sub' f i dt hr => z v d H' f i (dt.less fun a ha => sub' a ha (trk a ha)) hr) (fun _ _ _ _ _ h => h.elim) (fun _ _ _ _ _ h => h.elim)
theorem psx_len {n : Nat} (hc : ∀ x ds, C x ds → ds.length + 1 = n) : ∀ vs H Q E, PSX C R vs H Q E → vs.length = n := fun vs H Q E h => by
  obtain ⟨x, s, g, f, A, vs', ds, rfl, _, _, _, hd, c, _⟩ := h
  rw [List.length_cons, hd.length]
  exact hc x ds c
end
/-! sizes of texts -/
structure Sz (k n : Nat) (d : PyData) : Prop where
  sh : d.showable = true
  dp : d.depth ≤ k
  ln : d.shown.length ≤ n
theorem Sm.sz {k : Nat} {d : PyData} (h : Sm k d) : Sz (k + 1) (smB k) d := ⟨h.all.1, h.all.2.1, h.all.2.2⟩
theorem Sz.up {k n k' n' : Nat} {d : PyData} (h : Sz k n d) (hk : k ≤ k') (hn : n ≤ n') : Sz k' n' d := ⟨h.sh, Nat.le_trans h.dp hk, Nat.le_trans h.ln hn⟩
theorem Sz.shw {k n : Nat} {d : PyData} (h : Sz k n d) (hk : k ≤ 60) (hn : n ≤ 16000000) : Shw d := ⟨h.sh, Nat.le_trans h.dp hk, by have := h.ln; rw [sizeLine_eq]; omega⟩
theorem Sz.tup {k n l : Nat} {xs : List PyData} (hl : xs.length ≤ l) (h : ∀ x ∈ xs, Sz k n x) : Sz (k + 1) (l * (n + 2) + 10) (.tuple xs) := by
  refine ⟨by simp only [PyData.showable]; exact showAll_of fun x hx => (h x hx).sh, by simp only [PyData.depth]; have := depthAll_of fun x hx => (h x hx).dp; omega, ?_⟩
  simp only [PyData.shown]
  have hp := piled_le (B := n) (PyData.shownAll xs) fun t ht => by
    obtain ⟨x, hx, rfl⟩ := shownAll_mem ht
    exact (h x hx).ln
  rw [shownAll_len] at hp
  have hm : xs.length * (n + 2) ≤ l * (n + 2) := Nat.mul_le_mul_right _ hl
  unfold tupleText
  rw [strLen_append, strLen_append]
  have hj : (Str.join ", " (PyData.shownAll xs)).length ≤ piled (PyData.shownAll xs) := by
    by_cases e : PyData.shownAll xs = []
    · rw [e]
      exact Nat.le_refl _
    · have := join_length_add _ e
      omega
  have h1 : (("(" : String) : Str).length ≤ 2 := by decide
  have h2 : ((if (PyData.shownAll xs).length == 1 then ",)" else ")" : String) : Str).length ≤ 2 := by split <;> decide
  omega
theorem Sz.lst {k n l : Nat} {xs : List PyData} (hl : xs.length ≤ l) (h : ∀ x ∈ xs, Sz k n x) : Sz (k + 1) (l * (n + 2) + 10) (.list xs) := by
  refine ⟨by simp only [PyData.showable]; exact showAll_of fun x hx => (h x hx).sh, by simp only [PyData.depth]; have := depthAll_of fun x hx => (h x hx).dp; omega, ?_⟩
  simp only [PyData.shown]
  have hp := piled_le (B := n) (PyData.shownAll xs) fun t ht => by
    obtain ⟨x, hx, rfl⟩ := shownAll_mem ht
    exact (h x hx).ln
  rw [shownAll_len] at hp
  have hm : xs.length * (n + 2) ≤ l * (n + 2) := Nat.mul_le_mul_right _ hl
  unfold listText
  rw [strLen_append]
  have ht := textFrom_le (PyData.shownAll xs) 0 "["
  have h1 : (("[" : String) : Str).length ≤ 2 := by decide
  have h2 : (("]" : String) : Str).length ≤ 2 := by decide
  omega
end Dl

/-! D21: what is read: the mathematics -/
namespace Dl
open PySem PySem.Spec PyProof.Rows L2
theorem sum_add {α : Type} (f g : α → Int) : ∀ l : List α, (l.map fun x => f x + g x).sum = (l.map f).sum + (l.map g).sum
  | [] => rfl
  | x :: r => by
    rw [List.map_cons, List.map_cons, List.map_cons, List.sum_cons, List.sum_cons, List.sum_cons, sum_add f g r]
    omega
theorem sum_zero {α : Type} (f : α → Int) : ∀ l : List α, (∀ x ∈ l, f x = 0) → (l.map f).sum = 0
  | [], _ => rfl
  | x :: r, h => by
    rw [List.map_cons, List.sum_cons, h x List.mem_cons_self, sum_zero f r fun y hy => h y (List.mem_cons_of_mem _ hy)] <;> rfl
theorem sum_congr {α : Type} {f g : α → Int} {l : List α} (h : ∀ x ∈ l, f x = g x) : (l.map f).sum = (l.map g).sum := by
  rw [List.map_congr_left h]
theorem sum_swap {α β : Type} (G : α → β → Int) (ts : List α) : ∀ r : List β, (r.map fun y => (ts.map fun t => G t y).sum).sum = (ts.map fun t => (r.map fun y => G t y).sum).sum
  | [] => by
    show (0 : Int) = _
    exact (sum_zero _ _ fun x _ => rfl).symm
  | y :: r => by
    rw [List.map_cons, List.sum_cons, sum_swap G ts r, ← sum_add]
    refine sum_congr fun t _ => ?_
    rw [List.map_cons, List.sum_cons]
theorem sum_mul {β : Type} (k : Int) (b : β → Int) : ∀ r : List β, (r.map fun y => k * b y).sum = k * (r.map b).sum
  | [] => (Int.mul_zero k).symm
  | y :: r => by rw [List.map_cons, List.map_cons, List.sum_cons, List.sum_cons, sum_mul k b r, Int.mul_add]
/-! rows of a book -/
def rowAt (rows : List (List Int)) (d : Int) : List Int := rows.getD d.toNat []
theorem rowAt_get {rows : List (List Int)} {d : Int} (h : 0 ≤ d ∧ d < ((rows.length : Nat) : Int)) : rows[d.toNat]? = some (rowAt rows d) := by
  unfold rowAt
  have hk : d.toNat < rows.length := by omega
  rw [List.getD_eq_getElem?_getD, List.getElem?_eq_getElem hk] <;> rfl
theorem rowAt_at {rows : List (List Int)} {d : Int} (h : 0 ≤ d ∧ d < ((rows.length : Nat) : Int)) : Dl.atD (blks rows) d = some (tupI (rowAt rows d)) := by
  obtain ⟨k, rfl⟩ := Int.eq_ofNat_of_zero_le h.1
  exact at_at (blks_at (rowAt_get h))
theorem rowAt_mem {rows : List (List Int)} {d : Int} (h : 0 ≤ d ∧ d < ((rows.length : Nat) : Int)) : rowAt rows d ∈ rows := List.mem_of_getElem? (rowAt_get h)
/-- what is read, by the shares -/
def rdOf (rows nss : List (List Int)) (bg : List Int) (ts : List Rn) : Int := bg.sum + (ts.map fun t => t.2.2 * ((bsums (rowAt rows t.2.1) nss).drop t.1.toNat).sum).sum
/-! cells, deed by deed -/
def addR (k : Int) (row cells : List Int) : List Int := List.zipWith (fun h i => h + k * i) cells row
theorem addR_len {k : Int} {row cells : List Int} (h : cells.length = row.length) : (addR k row cells).length = cells.length := by
  unfold addR
  rw [List.length_zipWith, h, Nat.min_self]
theorem addR_get {k : Int} {row cells : List Int} (h : cells.length = row.length) {n : Nat} (hn : n < row.length) : (addR k row cells).getD n 0 = cells.getD n 0 + k * row.getD n 0 := by
  unfold addR
  rw [List.getD_eq_getElem?_getD, List.getD_eq_getElem?_getD, List.getD_eq_getElem?_getD, List.getElem?_zipWith, List.getElem?_eq_getElem (by omega), List.getElem?_eq_getElem hn] <;> rfl
theorem addR_zero : ∀ {row cells : List Int}, cells.length = row.length → addR 0 row cells = cells
  | [], [], _ => rfl
  | x :: r, y :: c, h => by
    show (y + 0 * x) :: addR 0 r c = y :: c
    rw [addR_zero (by rw [List.length_cons, List.length_cons] at h; omega), Int.zero_mul, Int.add_zero]
  | [], _ :: _, h => by simp at h
  | _ :: _, [], h => by simp at h
theorem addR_succ {j : Nat} : ∀ {row cells : List Int}, cells.length = row.length → List.zipWith (fun h i => h + i) (addR (j : Nat) row cells) row = addR ((j + 1 : Nat) : Int) row cells
  | [], [], _ => rfl
  | x :: r, y :: c, h => by
    show (y + (j : Int) * x + x) :: List.zipWith (fun h i => h + i) (addR (j : Nat) r c) r = (y + ((j + 1 : Nat) : Int) * x) :: addR ((j + 1 : Nat) : Int) r c
    rw [addR_succ (by rw [List.length_cons, List.length_cons] at h; omega), Int.natCast_add, Int.add_mul, Int.add_assoc]
    show _ = (y + (_ + 1 * x)) :: _
    rw [Int.one_mul]
  | [], _ :: _, h => by simp at h
  | _ :: _, [], h => by simp at h
theorem addR_bsum {k : Int} {row cells ns : List Int} (h : cells.length = row.length) (hn : ∀ c ∈ ns, 0 ≤ c ∧ c < ((row.length : Nat) : Int)) : bsum (addR k row cells) ns = bsum cells ns + k * bsum row ns := by
  unfold bsum
  rw [← sum_mul, ← sum_add]
  exact sum_congr fun c hc => addR_get h (by have := hn c hc; omega)
def app (rows : List (List Int)) (ts : List Rn) (j : Int) (cells : List Int) : List Int := ts.foldl (fun cs t => if t.1 = j then addR t.2.2 (rowAt rows t.2.1) cs else cs) cells
theorem app_step {rows : List (List Int)} {ts : List Rn} {j : Int} {cells : List Int} {i : Nat} {t : Rn} (h : ts[i]? = some t) : app rows (ts.take (i + 1)) j cells = if t.1 = j then addR t.2.2 (rowAt rows t.2.1) (app rows (ts.take i) j cells) else app rows (ts.take i) j cells := by
  unfold app
  rw [List.take_add_one, h]
  show List.foldl _ _ (ts.take i ++ [t]) = _
  rw [List.foldl_append] <;> rfl
section
variable {m : Nat} {rows : List (List Int)}
theorem app_len {j : Int} : ∀ {ts : List Rn} {cells : List Int}, (∀ t ∈ ts, (rowAt rows t.2.1).length = m) → cells.length = m → (app rows ts j cells).length = m
  | [], _, _, h => h
  | t :: r, cells, ht, h => by
    have e1 := ht t List.mem_cons_self
    show (app rows r j (if t.1 = j then addR t.2.2 (rowAt rows t.2.1) cells else cells)).length = m
    refine app_len (fun y hy => ht y (List.mem_cons_of_mem _ hy)) ?_
    split
    · rw [addR_len (by omega), h]
    · exact h
theorem app_bsum {j : Int} {ns : List Int} (hn : ∀ c ∈ ns, 0 ≤ c ∧ c < ((m : Nat) : Int)) : ∀ {ts : List Rn} {cells : List Int}, (∀ t ∈ ts, (rowAt rows t.2.1).length = m) → cells.length = m →
    bsum (app rows ts j cells) ns = bsum cells ns + (ts.map fun t => if t.1 = j then t.2.2 * bsum (rowAt rows t.2.1) ns else 0).sum
  | [], _, _, h => (Int.add_zero _).symm
  | t :: r, cells, ht, h => by
    have e1 := ht t List.mem_cons_self
    show bsum (app rows r j (if t.1 = j then addR t.2.2 (rowAt rows t.2.1) cells else cells)) ns = _
    rw [List.map_cons, List.sum_cons]
    split
    · rw [app_bsum hn (fun y hy => ht y (List.mem_cons_of_mem _ hy)) (by rw [addR_len (by omega), h]), addR_bsum (by omega) (by rw [e1]; exact hn), Int.add_assoc]
    · rw [app_bsum hn (fun y hy => ht y (List.mem_cons_of_mem _ hy)) h, Int.zero_add]
/-- the reader -/
def rd (rows : List (List Int)) (ts : List Rn) : Nat → List Int → List (List Int) → Int
  | _, _, [] => 0
  | j, cs, ns :: r => bsum (app rows ts (j : Nat) cs) ns + rd rows ts (j + 1) (app rows ts (j : Nat) cs) r
theorem rd_total {ts : List Rn} (ht : ∀ t ∈ ts, (rowAt rows t.2.1).length = m) : ∀ (r : List (List Int)) (j : Nat) (cs : List Int), (∀ ns ∈ r, ∀ c ∈ ns, 0 ≤ c ∧ c < ((m : Nat) : Int)) → cs.length = m →
    rd rows ts j cs r = (r.map (bsum cs)).sum + (ts.map fun t => if (j : Int) ≤ t.1 then t.2.2 * ((r.drop (t.1.toNat - j)).map (bsum (rowAt rows t.2.1))).sum else 0).sum
  | [], j, cs, _, _ => by
    show (0 : Int) = 0 + _
    rw [sum_zero _ _ fun t _ => ?_] <;> first | rfl | skip
    split
    · rw [List.drop_nil]
      exact Int.mul_zero _
    · rfl
  | ns :: r, j, cs, hr, hc => by
    have hns := hr ns List.mem_cons_self
    have hr' : ∀ ns ∈ r, ∀ c ∈ ns, 0 ≤ c ∧ c < ((m : Nat) : Int) := fun x hx => hr x (List.mem_cons_of_mem _ hx)
    have hl := app_len (j := (j : Int)) ht hc
    show bsum (app rows ts (j : Nat) cs) ns + rd rows ts (j + 1) (app rows ts (j : Nat) cs) r = _
    rw [rd_total ht r (j + 1) _ hr' hl, app_bsum hns ht hc]
    have e1 : (r.map (bsum (app rows ts (j : Nat) cs))).sum = (r.map (bsum cs)).sum + (ts.map fun t => (r.map fun x => if t.1 = (j : Int) then t.2.2 * bsum (rowAt rows t.2.1) x else 0).sum).sum := by
      rw [← sum_swap, ← sum_add]
      exact sum_congr fun x hx => app_bsum (hr' x hx) ht hc
    have e2 : (ts.map fun t => if (j : Int) ≤ t.1 then t.2.2 * (((ns :: r).drop (t.1.toNat - j)).map (bsum (rowAt rows t.2.1))).sum else 0).sum = (ts.map fun t => if t.1 = (j : Int) then t.2.2 * bsum (rowAt rows t.2.1) ns else 0).sum + ((ts.map fun t => (r.map fun x => if t.1 = (j : Int) then t.2.2 * bsum (rowAt rows t.2.1) x else 0).sum).sum + (ts.map fun t => if ((j + 1 : Nat) : Int) ≤ t.1 then t.2.2 * ((r.drop (t.1.toNat - (j + 1))).map (bsum (rowAt rows t.2.1))).sum else 0).sum) := by
      rw [← sum_add, ← sum_add]
      refine sum_congr fun t _ => ?_
      by_cases h1 : t.1 = (j : Int)
      · have h2 : ¬ ((j + 1 : Nat) : Int) ≤ t.1 := by omega
        rw [if_pos (by omega), if_pos h1, if_neg h2, show t.1.toNat - j = 0 by omega, List.drop_zero, List.map_cons, List.sum_cons, Int.mul_add, Int.add_zero, ← sum_mul]
        refine congrArg _ (sum_congr fun x _ => ?_)
        rw [if_pos h1]
      · rw [if_neg h1, sum_zero _ r fun x _ => if_neg h1, Int.zero_add, Int.zero_add]
        by_cases h2 : (j : Int) ≤ t.1
        · rw [if_pos h2, if_pos (by omega), show t.1.toNat - j = (t.1.toNat - (j + 1)) + 1 by omega, List.drop_succ_cons]
        · rw [if_neg h2, if_neg (by omega)]
    rw [e1, e2, List.map_cons, List.sum_cons]
    omega
end
/-- the reader reads what the shares say -/
theorem rd_is {m : Int} {rows nss : List (List Int)} {bg : List Int} {ts : List Rn} (hO : OrdOk m nss) (hR : ∀ t ∈ ts, (((rowAt rows t.2.1).length : Nat) : Int) = m) (hb : ((bg.length : Nat) : Int) = m) (hs : ∀ t ∈ ts, 0 ≤ t.1) (hc : ∀ ns ∈ nss, ∀ c ∈ ns, 0 ≤ c ∧ c < m) : rd rows ts 0 bg nss = rdOf rows nss bg ts := by
  have hm : ((m.toNat : Nat) : Int) = m := by omega
  rw [rd_total (m := m.toNat) (fun t ht => by have := hR t ht; omega) nss 0 bg (by rw [hm]; exact hc) (by omega)]
  unfold rdOf
  have e := whole_sum hO hb
  rw [show (nss.map (bsum bg)).sum = bg.sum from e]
  refine congrArg _ (sum_congr fun t ht => ?_)
  rw [if_pos (show ((0 : Nat) : Int) ≤ t.1 from hs t ht), Nat.sub_zero]
  unfold bsums
  rw [List.map_drop]
end Dl

/-! D22: books, orders, begins, weavings together; zips of ints -/
namespace Dl
open PySem PySem.Spec PyProof.Rows L2
abbrev C_as (x : Int × List (List Int) × List (List Int)) (ds : List PyData) : Prop := ds = [bookD x.1 x.2.1, ordOf x.2.2] ∧ x.2.1.length ≤ 1000 ∧ ∀ r ∈ x.2.1, Fit r.length x.2.2
def R_as (x : Int × List (List Int) × List (List Int)) (r : PyData) : Prop := r = ordOf (x.2.1.map fun row => shr (bsums row x.2.2))
structure Rx where
  m : Int
  rows : List (List Int)
  nss : List (List Int)
  bg : List Int
  ts : List Rn
structure Rx.Ok (x : Rx) : Prop where
  m1 : 1 ≤ x.m
  m8 : x.m ≤ 8
  ord : OrdOk x.m x.nss
  rok : RowsOk x.m x.rows
  r8 : x.rows.length ≤ 8
  bl : ((x.bg.length : Nat) : Int) = x.m
  bb : ∀ i ∈ x.bg, -1000000000 ≤ i ∧ i ≤ 1000000000
  tl : x.ts.length ≤ 200
  tb : ∀ t ∈ x.ts, 1 ≤ t.1 ∧ t.1 < ((x.nss.length : Nat) : Int) ∧ 0 ≤ t.2.1 ∧ t.2.1 < ((x.rows.length : Nat) : Int) ∧ 1 ≤ t.2.2 ∧ t.2.2 ≤ 1000000
abbrev rxD (x : Rx) : List PyData := [bookD x.m x.rows, ordOf x.nss, tupI x.bg, wvT x.ts]
abbrev C_rx (x : Rx) (ds : List PyData) : Prop := ds = rxD x ∧ x.Ok
def R_rx (x : Rx) (r : PyData) : Prop := r = .int (rdOf x.rows x.nss x.bg x.ts)
theorem Rx.Ok.fit {x : Rx} (h : x.Ok) : ∀ r ∈ x.rows, Fit r.length x.nss := fun r hr => ord_fit h.ord h.m8 (h.rok r hr).1
theorem Rx.Ok.n8 {x : Rx} (h : x.Ok) : x.nss.length ≤ 8 := (ord_small h.ord h.m8).1
theorem share_at {l : List Int} {s : Int} (h : 0 ≤ s ∧ s ≤ ((l.length : Nat) : Int)) : Dl.atD ((shr l).map PyData.int) s = some (.int (l.drop s.toNat).sum) := by
  obtain ⟨k, rfl⟩ := Int.eq_ofNat_of_zero_le h.1
  exact at_at (ints_at (shr_get l k (by omega)))
theorem map_rowAt {rows : List (List Int)} {g : List Int → List Int} {d : Int} (h : 0 ≤ d ∧ d < ((rows.length : Nat) : Int)) : Dl.atD (blks (rows.map g)) d = some (tupI (g (rowAt rows d))) := by
  obtain ⟨k, rfl⟩ := Int.eq_ofNat_of_zero_le h.1
  have q := rowAt_get h
  refine at_at (blks_at ?_)
  rw [List.getElem?_map, show rows[k]? = _ from q] <;> rfl
theorem rng_rows (rows : List (List Int)) (f : PyData → PyData) (g : List Int → List Int) (hf : ∀ k : Nat, f (.int (k : Nat)) = tupI (g (rowAt rows (k : Nat)))) : (rngD (rows.length : Nat)).map f = blks (rows.map g) := by
  refine List.ext_getElem? fun i => ?_
  by_cases h : i < rows.length
  · have hl : i < (rngD (rows.length : Nat)).length := by rw [rng_len]; omega
    have q := rowAt_get (rows := rows) (d := (i : Nat)) ⟨by omega, by omega⟩
    rw [List.getElem?_map, List.getElem?_eq_getElem hl, (rng_get (List.getElem?_eq_getElem hl)).2, blks_at (ns := g (rowAt rows (i : Nat))) (by rw [List.getElem?_map, show rows[i]? = _ from q] <;> rfl)]
    show some (f (.int (i : Nat))) = _
    rw [hf]
  · rw [List.getElem?_eq_none (by rw [List.length_map, rng_len]; omega), List.getElem?_eq_none (by rw [blks_len, List.length_map]; omega)]
/-! zips of ints -/
theorem zip_mem {xs ys : List Int} {d : PyData} (h : d ∈ List.zipWith (fun x y => PyData.tuple [x, y]) (xs.map PyData.int) (ys.map PyData.int)) : ∃ a b, d = .tuple [.int a, .int b] := by
  obtain ⟨i, hi, e⟩ := List.getElem_of_mem h
  rw [List.getElem_zipWith, List.getElem_map, List.getElem_map] at e
  exact ⟨_, _, e.symm⟩
theorem zip_add (f : PyData → PyData) (hf : ∀ a b, f (.tuple [.int a, .int b]) = .int (a + b)) : ∀ xs ys : List Int, (List.zipWith (fun x y => PyData.tuple [x, y]) (xs.map PyData.int) (ys.map PyData.int)).map f = (List.zipWith (fun h i => h + i) xs ys).map PyData.int
  | [], _ => rfl
  | _ :: _, [] => rfl
  | a :: xs, b :: ys => by
    show f (.tuple [.int a, .int b]) :: _ = PyData.int (a + b) :: _
    rw [hf]
    exact congrArg _ (zip_add f hf xs ys)
/-! bounds -/
theorem mul_bd {a b A B : Int} (a0 : 0 ≤ a) (a1 : a ≤ A) (b1 : -B ≤ b) (b2 : b ≤ B) : -(A * B) ≤ a * b ∧ a * b ≤ A * B := by
  have B0 : 0 ≤ B := by omega
  have h1 : a * b ≤ a * B := Int.mul_le_mul_of_nonneg_left b2 a0
  have h2 : a * B ≤ A * B := Int.mul_le_mul_of_nonneg_right a1 B0
  have h3 : a * (-B) ≤ a * b := Int.mul_le_mul_of_nonneg_left b1 a0
  rw [Int.mul_neg] at h3
  omega
theorem drop_bd {l : List Int} (hn : l.length ≤ 8) (h : ∀ i ∈ l, -792 ≤ i ∧ i ≤ 792) (k : Nat) : -6336 ≤ (l.drop k).sum ∧ (l.drop k).sum ≤ 6336 := by
  have q := sum_bd (b := 792) (by decide) (l.drop k) fun i hi => h i (List.mem_of_mem_drop hi)
  rw [List.length_drop] at q
  omega
theorem Rx.Ok.shb {x : Rx} (h : x.Ok) {t : Rn} (ht : t ∈ x.ts) (k : Nat) : -6336 ≤ ((bsums (rowAt x.rows t.2.1) x.nss).drop k).sum ∧ ((bsums (rowAt x.rows t.2.1) x.nss).drop k).sum ≤ 6336 := by
  have o := ord_small h.ord h.m8
  have q := h.tb t ht
  have r := h.rok _ (rowAt_mem (rows := x.rows) (d := t.2.1) ⟨by omega, by omega⟩)
  exact drop_bd (by rw [bsums_len]; exact o.1) (bsums_sm r.2 o.1 fun ns hn => (o.2 ns hn).1) k
theorem Rx.Ok.bd {x : Rx} (h : x.Ok) : -10000000000000 ≤ rdOf x.rows x.nss x.bg x.ts ∧ rdOf x.rows x.nss x.bg x.ts ≤ 10000000000000 := by
  have q1 := sum_bd (b := 1000000000) (by decide) x.bg h.bb
  have q2 := sum_bd (b := 6336000000) (by decide) (x.ts.map fun t => t.2.2 * ((bsums (rowAt x.rows t.2.1) x.nss).drop t.1.toNat).sum) fun i hi => by
    obtain ⟨t, ht, rfl⟩ := List.mem_map.mp hi
    have b := h.tb t ht
    have s := h.shb ht t.1.toNat
    have := mul_bd (a := t.2.2) (A := 1000000) (B := 6336) (by omega) b.2.2.2.2.2 s.1 s.2
    omega
  rw [List.length_map] at q2
  have l1 := h.bl
  have l2 := h.m8
  have l3 := h.tl
  unfold rdOf
  omega
/-- what is handed in, as a text -/
theorem Rx.Ok.sz {x : Rx} (h : x.Ok) : Shw (.list (rxD x)) := by
  have b := big60
  have hb : Sz 4 (smB 3) (bookD x.m x.rows) := (sm_book h.m1 h.m8 (by have := h.r8; omega) h.rok).sz
  have ho : Sz 4 (smB 3) (ordOf x.nss) := Sz.up (Sm.sz (k := 2) (sm_ord h.ord h.m8)) (by decide) (by decide)
  have hg : Sz 4 (smB 3) (tupI x.bg) := Sz.up (Sm.sz (k := 1) (sm_ints (by have := h.bl; have := h.m8; omega) fun i hi => by have := h.bb i hi; omega)) (by decide) (by decide)
  have ht : Sz 3 (200 * (smB 1 + 2) + 10) (wvT x.ts) := Sz.tup (by rw [List.length_map]; exact h.tl) fun y hy => by
    obtain ⟨t, ht, rfl⟩ := List.mem_map.mp hy
    have q := h.tb t ht
    have n8 := h.n8
    have r8 := h.r8
    exact (sm_tr (k := 0) ⟨by omega, by omega, by omega, by omega, by omega, by omega⟩ : Sm 1 (trD t)).sz
  have e3 : smB 3 ≤ 1000000 := by decide
  have e1 : 200 * (smB 1 + 2) + 10 ≤ 1000000 := by decide
  exact Sz.shw (Sz.lst (k := 4) (n := 1000000) (l := 4) (by simp) fun y hy => by
    simp only [List.mem_cons, List.not_mem_nil, or_false] at hy
    rcases hy with rfl | rfl | rfl | rfl
    · exact hb.up (by decide) e3
    · exact ho.up (by decide) e3
    · exact hg.up (by decide) e3
    · exact ht.up (by decide) e1) (by decide) (by decide)
/-! the law's begins -/
def R_bg : List PyData → PyData → Prop
  | [.int m], r => ∃ bg, r = tupI bg ∧ ((bg.length : Nat) : Int) = m ∧ ∀ i ∈ bg, -1000000000 ≤ i ∧ i ≤ 1000000000
  | _, _ => False
theorem p9 : (10 : Int) ^ (9 : Int).toNat = 1000000000 := by decide
theorem p6 : (10 : Int) ^ (6 : Int).toNat = 1000000 := by decide
/-! runs parted -/
abbrev C_pt (ts : List Rn) (ds : List PyData) : Prop := ds = [wvT ts] ∧ ts.length ≤ 1000 ∧ ∀ t ∈ ts, 1 ≤ t.2.2 ∧ t.2.2 ≤ 1000000
structure Parted (ts ps : List Rn) : Prop where
  len : ps.length ≤ 2 * ts.length
  sum : ∀ φ : Int → Int → Int, (ps.map fun t => t.2.2 * φ t.1 t.2.1).sum = (ts.map fun t => t.2.2 * φ t.1 t.2.1).sum
  mem : ∀ p ∈ ps, ∃ t ∈ ts, p.1 = t.1 ∧ p.2.1 = t.2.1 ∧ 1 ≤ p.2.2 ∧ p.2.2 ≤ t.2.2
def R_pt (ts : List Rn) (r : PyData) : Prop := ∃ ps, r = wvT ps ∧ Parted ts ps
end Dl

/-! D23: max, min, any of lists; is not of bools; t * 0; more targets; mixing lists of any data -/
namespace Dl
open PySem PySem.Spec PyProof.Rows L2
open AutoSeq1 (wpAny_loadPart')
section
variable {F : Fm} {A : List Addr} {Δ : List Sl} {K : PySem.W.Frag} {ta tb te : TE} {t : TA} {t1 t2 : TE} {q : PyData → Prop} {E : En} {i j : Nat}
theorem ev_maxL (h : EvA F A Δ t fun ds => ∃ ns : List Int, ds = [.list (ns.map .int)] ∧ 0 < ns.length ∧ ∀ m, m ∈ ns → (∀ y ∈ ns, y ≤ m) → q (.int m)) : Ev F A Δ (tCB (rMax K) t) q := fun H0 σ H s Q z =>
  h H0 σ H s _ fun vs ds H1 s1 f1 h1 ⟨ns, e, hp, k⟩ => by
    subst e
    cases h1 with
    | cons hd ht =>
      cases ht
      cases hd with
      | lst hh n t =>
        have ex := t.int_inv
        subst ex
        exact ⟨_, ns, rfl, .of hh, hp, fun m h1 h2 => z _ _ H1 s1 f1 (.int _) (k m h1 h2)⟩
theorem ev_minL (h : EvA F A Δ t fun ds => ∃ ns : List Int, ds = [.list (ns.map .int)] ∧ 0 < ns.length ∧ ∀ m, m ∈ ns → (∀ y ∈ ns, m ≤ y) → q (.int m)) : Ev F A Δ (tCB (rMin K) t) q := fun H0 σ H s Q z =>
  h H0 σ H s _ fun vs ds H1 s1 f1 h1 ⟨ns, e, hp, k⟩ => by
    subst e
    cases h1 with
    | cons hd ht =>
      cases ht
      cases hd with
      | lst hh n t =>
        have ex := t.int_inv
        subst ex
        exact ⟨_, ns, rfl, .of hh, hp, fun m h1 h2 => z _ _ H1 s1 f1 (.int _) (k m h1 h2)⟩
theorem ev_any (h : EvA F A Δ t fun ds => ∃ bs : List Bool, ds = [.list (bs.map .bool)] ∧ q (.bool (bs.any id))) : Ev F A Δ (tCB (rAny K) t) q := fun H0 σ H s Q z =>
  h H0 σ H s _ fun vs ds H1 s1 f1 h1 ⟨bs, e1, k⟩ => by
    subst e1
    cases h1 with
    | cons hd ht =>
      cases ht
      cases hd with
      | lst a1 n1 t1 =>
        have e := t1.bool_inv
        subst e
        exact ⟨_, bs, rfl, .of a1, z _ _ H1 s1 f1 (.bl _) k⟩
theorem ev_notB (h : Ev F A Δ ta fun d1 => Ev F A Δ tb fun d2 => ∃ a b : Bool, d1 = .bool a ∧ d2 = .bool b ∧ q (.bool (!decide (a = b)))) : Ev F A Δ (tOp rNotB ta tb) q :=
  ev_op h fun H0 σ H x y d1 d2 s h1 h2 ⟨a, b, e1, e2, hq⟩ Q z => by
    subst e1 e2
    cases h1
    cases h2
    exact ⟨a, b, rfl, rfl, z _ _ H s (.refl _) (.bl _) hq⟩
/-- a, b = e, [..]: the second one own -/
theorem sq_parDM (hij : i ≠ j) (h : Ev F A Δ t1 fun d => EvN F A Δ t2 fun ds => ∀ t, t ∉ A → E.nx (t :: A) ((Δ.set i (.d d)).set j (.m t ds))) :
    Sq F A Δ (tPar i j (tCons t1 (tCons t2 tNil))) E := fun H0 σ H s D n r b c =>
  h H0 σ H s _ fun v d H1 s1 f1 h1 k => k H0 σ H1 s1 _ fun p vs ds H2 s2 f2 np e dt k2 => ⟨_, _, rfl, by
    have nA : p ∉ A := fun z => s1.trk p z np
    have nm : p ∉ F.m := fun z => nA (s1.sub p z)
    have h2 : Dt H2 (p :: A) v d := (h1.add np).mono f2 fun a h => List.mem_cons_of_mem _ (s1.sub a h)
    have a1 := s2.setD (i := i) h2
    have hd : ∀ (k : Nat) t es, (Δ.set i (.d d))[k]? = some (Sl.m t es) → t ∈ A := fun k t es e => by
      rw [List.getElem?_set] at e
      split at e
      · split at e <;> cases e
      · exact s.mem e
    refine n (p :: A) _ _ H2 ⟨fun _ h => List.mem_cons_of_mem _ h, fun a h => ?_, (f1.trans f2).more s.sub, a1.own (s1.fr.free np) nA nm hd e dt⟩ (k2 p nA)
    rcases List.mem_cons.mp h with rfl | h
    · exact .inr (f1.free np)
    · exact .inl h⟩
end
/-! t * 0 -/
theorem tup_none (l : Addr) (items : Array Value) (n : Nat) (dd : Option Addr) (sl : Array (Option Value)) (u : Tok) (hi : items.isEmpty = false) :
    Meets (Builtin.«tuple.__mul__» ⟨[.ref l, .int 0 u], []⟩) (fun _ R s => s.heap.get? l = some { cls := .type "tuple", dict := dd, data := .seq items n, slots := sl } ∧ R (.ok (.ret (Value.ref s.heap.objs.size))) { s with heap := s.heap.push { cls := .type "tuple", data := .seq #[] } }) :=
  .of_wp fun prog w A R s h => by
    obtain ⟨hp, g, d, tk, os⟩ := s
    obtain ⟨hl, h⟩ := h
    have f1 := AutoSeq1.idx_int
    have c1 : (items.isEmpty || (0 : Int) == 1) = false := by rw [hi] <;> rfl
    have c2 : (decide ((0 : Int) ≤ 0) || items.isEmpty) = true := by simp
    wp_walk using wpAny_loadPart' hl
    repeat (first
      | (refine wpAny_ite_false (decide_eq_false (by decide)) ?_; wp_walk using wpAny_loadPart' hl)
      | (refine wpAny_ite_false (by rw [c1]) ?_; wp_walk using wpAny_loadPart' hl)
      | (refine wpAny_ite_true (by rw [c2]) ?_; wp_walk using wpAny_loadPart' hl)
      | (refine wpAny_ite_false (decide_eq_false (by rw [c1]; exact Bool.false_ne_true)) ?_; wp_walk using wpAny_loadPart' hl)
      | (refine wpAny_ite_true (decide_eq_true (by rw [c2])) ?_; wp_walk using wpAny_loadPart' hl))
    exact ⟨_, rfl, h⟩
/-- a tuple times a number from 0 on -/
def rRepZ (K : PySem.W.Frag) : R2 := fun x y H Q => ∃ l k xs, x = .ref l ∧ y = .int k ∧ SqT K H l xs ∧ xs ≠ [] ∧ 0 ≤ k ∧ k ≤ 1000 ∧ xs.length ≤ 1000 ∧ (k = 0 → ∀ p, H p = none → Q (.ref p) (upd H p (.tup []))) ∧ (k = 1 → Q (.ref l) H) ∧ (2 ≤ k → ∀ p, H p = none → Q (.ref p) (upd H p (.tup (List.replicate k.toNat xs).flatten)))
theorem op_repZ {X : Cx} : OpR X (binaryOp .Mult) (rRepZ X.K) := by
  intro pins s σ H x y v u Q I rx ry h
  obtain ⟨l, k, xs, rfl, rfl, hT, hne, h1, h2, hz, q0, q1, q2⟩ := h
  by_cases e : k = 0
  · subst e
    cases rx
    obtain ⟨t, rfl⟩ := ry
    obtain ⟨its, r, ⟨⟨cls, dd, data, sl⟩, ho, rfl, n, rfl⟩, hs⟩ := I.tuple hT
    have hi : its.toArray.isEmpty = false := by
      have hl := r.length
      cases its with
      | nil => exact absurd (List.length_eq_zero_iff.mp hl) hne
      | cons a b => rfl
    have I2 : Inv X pins σ (upd H s.heap.objs.size (.tup [])) { s with heap := s.heap.push { cls := .type "tuple", data := .seq #[] } } := I.laid (t' := s.toks) (o := .tup []) (fun b ob q => Heap.get?_push_of_some _ q) (Nat.le_refl _) ⟨Nat.zero_le _, [], .nil, IsTup.new _ _⟩
    refine wpAny_binaryOp_repeat_ref (T := "tuple") (U := "int") (by decide) ⟨_, ho, rfl⟩ (fun s' => typeIs_int s' 0 t) noFill_tuple_mul F.fills_int_mul F.slot_int_rmul repeat_tuple F.slot_int_index.lookup
      (call_meets F.slot_int_rmul (typeIs_int s 0 t) F.entry_int_rmul (F.args_int_rmul_2 _ _) (int_rmul_tuple 0 t l its.toArray n dd sl)
        ⟨ho, rfl, ⟨_, ho, rfl⟩, call_meets F.slot_tuple_mul ⟨_, ho, rfl⟩ F.entry_tuple_mul (F.args_tuple_mul_2 _ _) (tup_none l its.toArray n dd sl t hi) ⟨ho, .ref _, _, I2, rfl, q0 rfl _ (I.hok.fresh (Nat.le_refl _))⟩⟩)
  · exact op_repA pins s σ H _ _ v u Q I rx ry ⟨l, k, xs, rfl, rfl, hT, hne, by omega, h2, hz, q1, q2⟩
section
variable {F : Fm} {A : List Addr} {Δ : List Sl} {K : PySem.W.Frag} {ta tb : TE} {q : PyData → Prop}
theorem ev_repZ (h : Ev F A Δ ta fun d1 => Ev F A Δ tb fun d2 => ∃ es k, d1 = .tuple es ∧ d2 = .int k ∧ es ≠ [] ∧ 0 ≤ k ∧ k ≤ 1000 ∧ es.length ≤ 1000 ∧ q (.tuple (List.replicate k.toNat es).flatten)) : Ev F A Δ (tOp (rRepZ K) ta tb) q :=
  ev_op h fun H0 σ H x y d1 d2 s h1 h2 ⟨es, k, e1, e2, ne, k1, k2, l, hq⟩ Q z => by
    subst e1 e2
    cases h2
    cases h1 with
    | tup a1 n1 t1 =>
      refine ⟨_, k, _, rfl, rfl, .of a1, fun e => ?_, k1, k2, by rw [t1.length]; exact l, fun e p hp => ?_, fun e => ?_, fun e p hp => ?_⟩
      · subst e
        cases t1
        exact ne rfl
      · subst e
        exact z _ _ _ (s.laid hp) (.new hp) (.newT hp s.trk .nil) hq
      · subst e
        have e : (List.replicate (1 : Int).toNat es).flatten = es := List.append_nil es
        rw [e] at hq
        exact z _ _ H s (.refl _) (.tup a1 n1 t1) hq
      · exact z _ _ _ (s.laid hp) (.new hp) (.newT hp s.trk (t1.rep _)) hq
end
/-! a, (b, c) = .. -/
def uOneTwo (i j k : Nat) : PyData → List Sl → Option (List Sl)
  | .tuple [w, .tuple [x, y]], Δ => some (((Δ.set i (.d w)).set j (.d x)).set k (.d y))
  | _, _ => none
theorem tg_oneTwo {K : PySem.W.Frag} (i j k : Nat) : TgD (gTup K 2 (gCons (gName i) (gCons (gTup K 2 (gCons (gName j) (gCons (gName k) gNil))) gNil))) (uOneTwo i j k) [i, j, k] := fun F H0 H A Δ Δ' σ v d s h e Q q => by
  unfold uOneTwo at e
  split at e
  · rename_i w x y
    cases e
    cases h with
    | tup hh nn t =>
      cases t with
      | cons hw t =>
        cases t with
        | cons ht t =>
          cases t
          cases ht with
          | tup hh2 nn2 t =>
            cases t with
            | cons hx t =>
              cases t with
              | cons hy t =>
                cases t
                refine ⟨_, _, rfl, .of hh, rfl, _, _, rfl, _, _, rfl, ?_⟩
                refine ⟨_, _, rfl, .of hh2, rfl, _, _, rfl, _, _, rfl, rfl, rfl, q _ (((s.setD hw).setD hx).setD hy) (by rw [List.length_set, List.length_set, List.length_set]) fun n hn => ?_⟩
                simp only [List.mem_cons, List.not_mem_nil, or_false, not_or] at hn
                rw [List.getElem?_set_ne (fun w => hn.2.2 w.symm), List.getElem?_set_ne (fun w => hn.2.1 w.symm), List.getElem?_set_ne (fun w => hn.1 w.symm)]
  · cases e
/-! lists of any data, mixed -/
def Flat (d : PyData) : Prop := d.canLay0 = true ∧ d.depth ≤ 60
theorem flat_shaped : ∀ {es : List PyData}, (∀ e ∈ es, Flat e) → SeqAt.shaped (.list es) = true := fun {es} h => by
  have h1 : ∀ l : List PyData, (∀ e ∈ l, Flat e) → PyData.canLayAll0 l = true := fun l => by
    induction l with
    | nil => exact fun _ => rfl
    | cons x r ih =>
      intro h
      simp only [PyData.canLayAll0, Bool.and_eq_true]
      exact ⟨(h x List.mem_cons_self).1, ih fun y hy => h y (List.mem_cons_of_mem _ hy)⟩
  have h2 := depthAll_of (k := 60) fun x hx => (h x hx).2
  have hd : (PyData.list es).depth ≤ 64 := by
    simp only [PyData.depth]
    omega
  have hc : (PyData.list es).canLay0 = true := by
    simp only [PyData.canLay0]
    exact h1 es h
  show (_ && decide _) = true
  rw [decide_eq_true hd, hc] <;> rfl
theorem eqv_nil_list (es : List PyData) : PyData.eqv (.list es) (.list []) = es.isEmpty := by
  cases es <;> simp [PyData.eqv, PyData.eqvAll]
abbrev C_mxd (ds : List PyData) : Prop := ∃ d es, ds = [d] ∧ seqD d = some es ∧ es.length ≤ 1000 ∧ ∀ e ∈ es, Flat e
def R_mxd : List PyData → PyData → Prop
  | [d], r => ∃ es ms, seqD d = some es ∧ r = .list ms ∧ ms.Perm es
  | _, _ => False
theorem perm_pop' {es : List PyData} {k : Nat} {x : PyData} (h : es[k]? = some x) : (x :: es.eraseIdx k).Perm es := by
  obtain ⟨hk, e⟩ := List.getElem?_eq_some_iff.mp h
  induction es generalizing k with
  | nil => cases h
  | cons y r ih =>
    cases k with
    | zero =>
      cases e
      exact .refl _
    | succ k =>
      rw [List.getElem?_cons_succ] at h
      have hk' : k < r.length := by rw [List.length_cons] at hk; omega
      exact (List.Perm.swap _ _ _).trans (.cons y (ih h hk' e))
theorem perm_ints {ms : List PyData} {ns : List Int} (h : ms.Perm (ns.map .int)) : ∃ ks : List Int, ms = ks.map .int ∧ ks.Perm ns := by
  let dec : PyData → Int := fun d => match d with | .int i => i | _ => 0
  have e1 : ∀ l : List Int, (l.map PyData.int).map dec = l := fun l => by
    rw [List.map_map]
    exact List.map_id l
  have e2 : ms = (ms.map dec).map .int := by
    rw [List.map_map]
    conv => lhs; rw [← List.map_id ms]
    refine List.map_congr_left fun d hd => ?_
    obtain ⟨i, _, rfl⟩ := List.mem_map.mp (h.mem_iff.mp hd)
    rfl
  have p := h.map dec
  rw [e1] at p
  exact ⟨ms.map dec, e2, p⟩
theorem flat_int (i : Int) : Flat (.int i) := ⟨rfl, by simp only [PyData.depth]; omega⟩
theorem flat_tr (t : Rn) : Flat (trD t) := ⟨rfl, by simp only [PyData.depth, PyData.depthAll]; omega⟩
theorem flat_blk (ns : List Int) : Flat (tupI ns) := ⟨by simp only [PyData.canLay0]; exact canLay_ints ns, by simp only [PyData.depth, depth_ints]; omega⟩
/-- the promise over ints, from the one over any data -/
theorem mix_of {P : Program} {w : World} {K : PySem.W.Frag} {mg : Str → Option Value} {base : Heap} {k : Nat} {f : Addr} {fd : FuncData} {ps : List Str} (h : FnOk P w K mg base CX0 k f fd ps (PS C_mxd R_mxd)) : FnOk P w K mg base CX0 k f fd ps (PS C_mix R_mix) :=
  h.imp fun vs H Q E ⟨s, g, ff, A, vs', ds, e, stk, sub, trk, hd, ⟨ns, e2, hl⟩, z⟩ => ⟨s, g, ff, A, vs', ds, e, stk, sub, trk, hd, ⟨_, ns.map .int, e2, rfl, by rw [List.length_map]; exact hl, fun x hx => by
    obtain ⟨i, _, rfl⟩ := ints_mem hx
    exact flat_int i⟩, fun v d H' f1 f2 f3 hr => z v d H' f1 f2 f3 (by
    subst e2
    obtain ⟨es, ms, ee, rfl, p⟩ := hr
    cases ee
    obtain ⟨ks, rfl, p2⟩ := perm_ints p
    exact ⟨ns, ks, rfl, rfl, p2⟩)⟩
end Dl

/-! D24: totals that are met: the mathematics -/
namespace Dl
open PySem PySem.Spec PyProof.Rows L2
section
variable {w : Int → Int}
def fin (w : Int → Int) (t : Int) (ts : List Rn) : Int := ts.foldl (fun a r => a + r.2.2 * w r.2.1) t
theorem fin_snoc {t : Int} {ts : List Rn} {r : Rn} : fin w t (ts ++ [r]) = fin w t ts + r.2.2 * w r.2.1 := by
  unfold fin
  rw [List.foldl_append] <;> rfl
def tots (w : Int → Int) : Int → List Rn → List Int
  | t, [] => [t]
  | t, r :: rs => t :: tots w (t + r.2.2 * w r.2.1) rs
theorem tots_snoc : ∀ (ts : List Rn) (t : Int) (r : Rn), tots w t (ts ++ [r]) = tots w t ts ++ [fin w t ts + r.2.2 * w r.2.1]
  | [], _, _ => rfl
  | x :: ts, t, r => by
    show t :: tots w (t + x.2.2 * w x.2.1) (ts ++ [r]) = _
    rw [tots_snoc ts _ r] <;> rfl
theorem tots_last : ∀ (ts : List Rn) (t : Int), ∃ r, tots w t ts = r ++ [fin w t ts]
  | [], _ => ⟨[], rfl⟩
  | x :: ts, t => by
    obtain ⟨r, e⟩ := tots_last ts (t + x.2.2 * w x.2.1)
    exact ⟨t :: r, by show t :: tots w _ ts = _; rw [e] <;> rfl⟩
theorem tots_len : ∀ (ts : List Rn) (t : Int), (tots w t ts).length = ts.length + 1
  | [], _ => rfl
  | x :: ts, t => by
    show (tots w _ ts).length + 1 = _
    rw [tots_len ts, List.length_cons]
theorem tots_head (ts : List Rn) (t : Int) : ∃ r, tots w t ts = t :: r := by
  cases ts with
  | nil => exact ⟨[], rfl⟩
  | cons x r => exact ⟨_, rfl⟩
def onWay (f w k : Int) : Bool := if w = 0 then decide (f = 0) else decide (f.fmod w = 0) && (decide (0 ≤ f.fdiv w) && decide (f.fdiv w ≤ k))
theorem onWay_iff {f w k : Int} (hk : 0 ≤ k) : onWay f w k = true ↔ ∃ j, 0 ≤ j ∧ j ≤ k ∧ f = j * w := by
  unfold onWay
  by_cases h : w = 0
  · subst h
    rw [if_pos rfl, decide_eq_true_eq]
    constructor
    · intro e
      exact ⟨0, by omega, hk, by omega⟩
    · rintro ⟨j, _, _, e⟩
      rw [e, Int.mul_zero]
  · rw [if_neg h, Bool.and_eq_true, Bool.and_eq_true, decide_eq_true_eq, decide_eq_true_eq, decide_eq_true_eq]
    constructor
    · rintro ⟨h1, h2, h3⟩
      refine ⟨f.fdiv w, h2, h3, ?_⟩
      have q := Int.fmod_add_mul_fdiv f w
      rw [h1, Int.zero_add, Int.mul_comm] at q
      exact q.symm
    · rintro ⟨j, h1, h2, rfl⟩
      rw [Int.mul_fmod_left, Int.mul_fdiv_cancel _ h]
      exact ⟨rfl, h1, h2⟩
def ways (w : Int → Int) (v : Int) : Int → List Rn → List Bool
  | _, [] => []
  | t, r :: rs => onWay (v - t) (w r.2.1) r.2.2 :: ways w v (t + r.2.2 * w r.2.1) rs
def metB (w : Int → Int) (v t : Int) (ts : List Rn) : Bool := decide (v = t) || (ways w v t ts).any id
def Met (w : Int → Int) (v : Int) : Int → List Rn → Prop
  | t, [] => v = t
  | t, r :: rs => (∃ j, 0 ≤ j ∧ j ≤ r.2.2 ∧ v = t + j * w r.2.1) ∨ Met w v (t + r.2.2 * w r.2.1) rs
theorem met_first {v : Int} : ∀ {ts : List Rn} {t : Int}, (∀ r ∈ ts, 0 ≤ r.2.2) → v = t → Met w v t ts
  | [], _, _, h => h
  | r :: rs, t, hr, h => .inl ⟨0, by omega, hr r List.mem_cons_self, by rw [Int.zero_mul]; omega⟩
theorem metB_iff {v : Int} : ∀ {ts : List Rn} {t : Int}, (∀ r ∈ ts, 0 ≤ r.2.2) → (metB w v t ts = true ↔ Met w v t ts)
  | [], t, _ => by
    unfold metB ways Met
    simp
  | r :: rs, t, hr => by
    have hr' : ∀ x ∈ rs, 0 ≤ x.2.2 := fun x hx => hr x (List.mem_cons_of_mem _ hx)
    have k0 := hr r List.mem_cons_self
    have ih := metB_iff (v := v) (ts := rs) (t := t + r.2.2 * w r.2.1) hr'
    have ow := onWay_iff (f := v - t) (w := w r.2.1) k0
    have e : metB w v t (r :: rs) = (decide (v = t) || (onWay (v - t) (w r.2.1) r.2.2 || (ways w v (t + r.2.2 * w r.2.1) rs).any id)) := rfl
    have e2 : metB w v (t + r.2.2 * w r.2.1) rs = (decide (v = t + r.2.2 * w r.2.1) || (ways w v (t + r.2.2 * w r.2.1) rs).any id) := rfl
    have sub : ∀ j : Int, v - t = j * w r.2.1 ↔ v = t + j * w r.2.1 := fun j => by
      constructor <;> intro h <;> omega
    rw [e, Bool.or_eq_true, Bool.or_eq_true, decide_eq_true_eq, ow]
    show _ ↔ (∃ j, 0 ≤ j ∧ j ≤ r.2.2 ∧ v = t + j * w r.2.1) ∨ Met w v (t + r.2.2 * w r.2.1) rs
    rw [e2, Bool.or_eq_true, decide_eq_true_eq] at ih
    constructor
    · rintro (h | ⟨j, h1, h2, h3⟩ | h)
      · exact .inl ⟨0, by omega, k0, by rw [Int.zero_mul]; omega⟩
      · exact .inl ⟨j, h1, h2, (sub j).mp h3⟩
      · exact .inr (ih.mp (.inr h))
    · rintro (⟨j, h1, h2, h3⟩ | h)
      · exact .inr (.inl ⟨j, h1, h2, (sub j).mpr h3⟩)
      · rcases ih.mpr h with h | h
        · exact .inr (.inl ⟨r.2.2, k0, Int.le_refl _, (sub _).mpr h⟩)
        · exact .inr (.inr h)
/-! deed by deed -/
def allT (w : Int → Int) : Int → List Rn → List Int
  | _, [] => []
  | t, r :: rs => ((List.range r.2.2.toNat).map fun (j : Nat) => t + ((j : Int) + 1) * w r.2.1) ++ allT w (t + r.2.2 * w r.2.1) rs
theorem allT_snoc : ∀ (ts : List Rn) (t : Int) (r : Rn), allT w t (ts ++ [r]) = allT w t ts ++ (List.range r.2.2.toNat).map fun (j : Nat) => fin w t ts + ((j : Int) + 1) * w r.2.1
  | [], t, r => by
    show _ ++ [] = _
    rw [List.append_nil] <;> rfl
  | x :: ts, t, r => by
    show _ ++ allT w (t + x.2.2 * w x.2.1) (ts ++ [r]) = _
    rw [allT_snoc ts _ r, ← List.append_assoc] <;> rfl
theorem allT_iff {v : Int} : ∀ {ts : List Rn} {t : Int}, (∀ r ∈ ts, 1 ≤ r.2.2) → (v ∈ t :: allT w t ts ↔ Met w v t ts)
  | [], t, _ => by
    unfold allT Met
    simp
  | r :: rs, t, hr => by
    have hr' : ∀ x ∈ rs, 1 ≤ x.2.2 := fun x hx => hr x (List.mem_cons_of_mem _ hx)
    have k0 := hr r List.mem_cons_self
    have ih := allT_iff (v := v) (ts := rs) (t := t + r.2.2 * w r.2.1) hr'
    rw [List.mem_cons] at ih ⊢
    show (v = t ∨ v ∈ ((List.range r.2.2.toNat).map fun (j : Nat) => t + ((j : Int) + 1) * w r.2.1) ++ allT w (t + r.2.2 * w r.2.1) rs) ↔ (∃ j, 0 ≤ j ∧ j ≤ r.2.2 ∧ v = t + j * w r.2.1) ∨ Met w v (t + r.2.2 * w r.2.1) rs
    rw [List.mem_append, List.mem_map]
    constructor
    · rintro (h | ⟨j, hj, h⟩ | h)
      · exact .inl ⟨0, by omega, by omega, by rw [Int.zero_mul]; omega⟩
      · have := List.mem_range.mp hj
        exact .inl ⟨(j : Int) + 1, by omega, by omega, h.symm⟩
      · exact .inr (ih.mp (.inr h))
    · rintro (⟨j, h1, h2, h3⟩ | h)
      · by_cases hz : j = 0
        · subst hz
          rw [Int.zero_mul] at h3
          exact .inl (by omega)
        · refine .inr (.inl ⟨(j - 1).toNat, List.mem_range.mpr (by omega), ?_⟩)
          rw [h3, show (((j - 1).toNat : Nat) : Int) + 1 = j by omega]
      · rcases ih.mpr h with h | h
        · refine .inr (.inl ⟨(r.2.2 - 1).toNat, List.mem_range.mpr (by omega), ?_⟩)
          rw [h, show (((r.2.2 - 1).toNat : Nat) : Int) + 1 = r.2.2 by omega]
        · exact .inr (.inr h)
/-! by the ends of the runs -/
def ends (w : Int → Int) : Int → List Rn → List Rn
  | t, [] => [(t, 0, 0)]
  | t, r :: rs => (t, w r.2.1, r.2.2) :: ends w (t + r.2.2 * w r.2.1) rs
theorem ends_len : ∀ (ts : List Rn) (t : Int), (ends w t ts).length = ts.length + 1
  | [], _ => rfl
  | x :: ts, t => by
    show (ends w _ ts).length + 1 = _
    rw [ends_len ts, List.length_cons]
theorem ends_tots : ∀ (ts : List Rn) (t : Int), (ends w t ts).map (fun e => e.1) = tots w t ts
  | [], _ => rfl
  | x :: ts, t => by
    show t :: (ends w _ ts).map _ = _
    rw [ends_tots ts] <;> rfl
/-- what is left behind the whole, taken off as often as it goes -/
def amStep (v : Int) (e : Rn) : Bool := !decide (e.2.1 = 0) && (decide ((v - e.1) % (if e.2.1 < 0 then -e.2.1 else e.2.1) = 0) && (decide (0 ≤ (v - e.1).fdiv e.2.1) && decide ((v - e.1).fdiv e.2.1 ≤ e.2.2)))
def among (v : Int) : List Rn → Bool
  | [] => false
  | e :: es => decide (v = e.1) || (amStep v e || among v es)
theorem amStep_iff {v t k : Int} {x : Int} (hx : x ≠ 0) : amStep v (t, x, k) = onWay (v - t) x k := by
  unfold amStep onWay
  dsimp only
  rw [if_neg hx, decide_eq_false hx, Bool.not_false, Bool.true_and]
  have e : decide ((v - t) % (if x < 0 then -x else x) = 0) = decide ((v - t).fmod x = 0) := by
    refine decide_eq_decide.mpr ?_
    constructor
    · intro h
      have d1 := Int.dvd_of_emod_eq_zero h
      have d2 : x ∣ v - t := by
        split at d1
        · exact Int.neg_dvd.mp d1
        · exact d1
      exact Int.fmod_eq_zero_of_dvd d2
    · intro h
      have d2 : x ∣ v - t := Int.dvd_of_fmod_eq_zero h
      refine Int.emod_eq_zero_of_dvd ?_
      split
      · exact Int.neg_dvd.mpr d2
      · exact d2
  rw [e]
theorem among_iff {v : Int} : ∀ {ts : List Rn} {t : Int}, (∀ r ∈ ts, 0 ≤ r.2.2) → (among v (ends w t ts) = true ↔ Met w v t ts)
  | [], t, _ => by
    show (decide (v = t) || (amStep v (t, 0, 0) || false)) = true ↔ v = t
    have e : amStep v (t, 0, 0) = false := rfl
    rw [e]
    simp
  | r :: rs, t, hr => by
    have hr' : ∀ x ∈ rs, 0 ≤ x.2.2 := fun x hx => hr x (List.mem_cons_of_mem _ hx)
    have k0 := hr r List.mem_cons_self
    have ih := among_iff (v := v) (ts := rs) (t := t + r.2.2 * w r.2.1) hr'
    have sub : ∀ j : Int, v - t = j * w r.2.1 ↔ v = t + j * w r.2.1 := fun j => by
      constructor <;> intro h <;> omega
    show (decide (v = t) || (amStep v (t, w r.2.1, r.2.2) || among v (ends w (t + r.2.2 * w r.2.1) rs))) = true ↔ (∃ j, 0 ≤ j ∧ j ≤ r.2.2 ∧ v = t + j * w r.2.1) ∨ Met w v (t + r.2.2 * w r.2.1) rs
    rw [Bool.or_eq_true, Bool.or_eq_true, decide_eq_true_eq, ih]
    by_cases hx : w r.2.1 = 0
    · have e : amStep v (t, w r.2.1, r.2.2) = false := by
        unfold amStep
        dsimp only
        rw [decide_eq_true hx, Bool.not_true, Bool.false_and]
      rw [e]
      constructor
      · rintro (h | h | h)
        · exact .inl ⟨0, by omega, k0, by rw [Int.zero_mul]; omega⟩
        · cases h
        · exact .inr h
      · rintro (⟨j, _, _, h⟩ | h)
        · rw [hx, Int.mul_zero] at h
          exact .inl (by omega)
        · exact .inr (.inr h)
    · rw [amStep_iff hx, onWay_iff k0]
      constructor
      · rintro (h | ⟨j, h1, h2, h3⟩ | h)
        · exact .inl ⟨0, by omega, k0, by rw [Int.zero_mul]; omega⟩
        · exact .inl ⟨j, h1, h2, (sub j).mp h3⟩
        · exact .inr h
      · rintro (⟨j, h1, h2, h3⟩ | h)
        · exact .inr (.inl ⟨j, h1, h2, (sub j).mpr h3⟩)
        · exact .inr (.inr h)
/-! least and greatest -/
def IsMin (m : Int) (l : List Int) : Prop := m ∈ l ∧ ∀ y ∈ l, m ≤ y
def IsMax (m : Int) (l : List Int) : Prop := m ∈ l ∧ ∀ y ∈ l, y ≤ m
theorem IsMin.uniq {a b : Int} {l : List Int} (h : IsMin a l) (k : IsMin b l) : a = b := by
  have := h.2 b k.1
  have := k.2 a h.1
  omega
theorem IsMax.uniq {a b : Int} {l : List Int} (h : IsMax a l) (k : IsMax b l) : a = b := by
  have := h.2 b k.1
  have := k.2 a h.1
  omega
theorem tots_sub : ∀ {ts : List Rn} {t : Int}, (∀ r ∈ ts, 1 ≤ r.2.2) → ∀ y ∈ tots w t ts, y ∈ t :: allT w t ts
  | [], t, _, y, h => h
  | r :: rs, t, hr, y, h => by
    have hr' : ∀ x ∈ rs, 1 ≤ x.2.2 := fun x hx => hr x (List.mem_cons_of_mem _ hx)
    have k0 := hr r List.mem_cons_self
    rcases List.mem_cons.mp h with rfl | h
    · exact List.mem_cons_self
    · have q := tots_sub hr' y h
      refine List.mem_cons_of_mem _ ?_
      show y ∈ ((List.range r.2.2.toNat).map fun (j : Nat) => t + ((j : Int) + 1) * w r.2.1) ++ allT w (t + r.2.2 * w r.2.1) rs
      rcases List.mem_cons.mp q with rfl | q
      · refine List.mem_append_left _ (List.mem_map.mpr ⟨(r.2.2 - 1).toNat, List.mem_range.mpr (by omega), ?_⟩)
        rw [show (((r.2.2 - 1).toNat : Nat) : Int) + 1 = r.2.2 by omega]
      · exact List.mem_append_right _ q
theorem amid {t x k j : Int} (h0 : 0 ≤ j) (h1 : j ≤ k) : (t ≤ t + j * x ∧ t + j * x ≤ t + k * x) ∨ (t + k * x ≤ t + j * x ∧ t + j * x ≤ t) := by
  by_cases hx : 0 ≤ x
  · have a := Int.mul_nonneg h0 hx
    have b := Int.mul_le_mul_of_nonneg_right h1 hx
    exact .inl ⟨by omega, by omega⟩
  · have hx' : 0 ≤ -x := by omega
    have a := Int.mul_nonneg h0 hx'
    have b := Int.mul_le_mul_of_nonneg_right h1 hx'
    rw [Int.mul_neg] at a
    rw [Int.mul_neg, Int.mul_neg] at b
    exact .inr ⟨by omega, by omega⟩
theorem bracket {v : Int} : ∀ {ts : List Rn} {t : Int}, (∀ r ∈ ts, 0 ≤ r.2.2) → Met w v t ts → ∃ a ∈ tots w t ts, ∃ b ∈ tots w t ts, a ≤ v ∧ v ≤ b
  | [], t, _, h => ⟨t, List.mem_cons_self, t, List.mem_cons_self, by have : v = t := h; omega, by have : v = t := h; omega⟩
  | r :: rs, t, hr, h => by
    have hr' : ∀ x ∈ rs, 0 ≤ x.2.2 := fun x hx => hr x (List.mem_cons_of_mem _ hx)
    have m1 : t ∈ tots w t (r :: rs) := List.mem_cons_self
    have m2 : t + r.2.2 * w r.2.1 ∈ tots w t (r :: rs) := by
      obtain ⟨q, e⟩ := tots_head (w := w) rs (t + r.2.2 * w r.2.1)
      refine List.mem_cons_of_mem _ ?_
      rw [e]
      exact List.mem_cons_self
    rcases h with ⟨j, h1, h2, rfl⟩ | h
    · rcases amid (t := t) (x := w r.2.1) h1 h2 with ⟨a, b⟩ | ⟨a, b⟩
      · exact ⟨_, m1, _, m2, a, b⟩
      · exact ⟨_, m2, _, m1, a, b⟩
    · obtain ⟨a, ha, b, hb, q⟩ := bracket hr' h
      exact ⟨a, List.mem_cons_of_mem _ ha, b, List.mem_cons_of_mem _ hb, q⟩
theorem min_all {m : Int} {ts : List Rn} {t : Int} (hr : ∀ r ∈ ts, 1 ≤ r.2.2) (h : IsMin m (t :: allT w t ts)) : IsMin m (tots w t ts) := by
  have hr0 : ∀ r ∈ ts, 0 ≤ r.2.2 := fun r h => by have := hr r h; omega
  obtain ⟨a, ha, b, hb, q1, q2⟩ := bracket hr0 ((allT_iff hr).mp h.1)
  have e := h.2 a (tots_sub hr a ha)
  have : a = m := by omega
  exact ⟨by rw [← this]; exact ha, fun y hy => h.2 y (tots_sub hr y hy)⟩
theorem max_all {m : Int} {ts : List Rn} {t : Int} (hr : ∀ r ∈ ts, 1 ≤ r.2.2) (h : IsMax m (t :: allT w t ts)) : IsMax m (tots w t ts) := by
  have hr0 : ∀ r ∈ ts, 0 ≤ r.2.2 := fun r h => by have := hr r h; omega
  obtain ⟨a, ha, b, hb, q1, q2⟩ := bracket hr0 ((allT_iff hr).mp h.1)
  have e := h.2 b (tots_sub hr b hb)
  have : b = m := by omega
  exact ⟨by rw [← this]; exact hb, fun y hy => h.2 y (tots_sub hr y hy)⟩
theorem zip_sum : ∀ {a b : List Int}, a.length = b.length → (List.zipWith (fun h i => h + i) a b).sum = a.sum + b.sum
  | [], [], _ => rfl
  | x :: a, y :: b, h => by
    have ih := zip_sum (a := a) (b := b) (by rw [List.length_cons, List.length_cons] at h; omega)
    show (x + y) + (List.zipWith (fun h i => h + i) a b).sum = (x :: a).sum + (y :: b).sum
    rw [ih, List.sum_cons, List.sum_cons]
    omega
  | [], _ :: _, h => by simp at h
  | _ :: _, [], h => by simp at h
end
/-- wholes of a book -/
def whs (rows : List (List Int)) (d : Int) : Int := (rowAt rows d).sum
end Dl

/-! D25: promises of the defs about totals met -/
namespace Dl
open PySem PySem.Spec PyProof.Rows L2
abbrev C_wh (x : Int × List (List Int) × Int) (ds : List PyData) : Prop := ds = [bookD x.1 x.2.1, .int x.2.2] ∧ 0 ≤ x.2.2 ∧ x.2.2 < ((x.2.1.length : Nat) : Int)
def R_wh (x : Int × List (List Int) × Int) (r : PyData) : Prop := r = .int (whs x.2.1 x.2.2)
abbrev C_ow (x : Int × Int × Int) (ds : List PyData) : Prop := ds = [.int x.1, .int x.2.1, .int x.2.2] ∧ -100000 ≤ x.2.1 ∧ x.2.1 ≤ 100000
def R_ow (x : Int × Int × Int) (r : PyData) : Prop := r = .bool (onWay x.1 x.2.1 x.2.2)
abbrev C_tb (x : Rx) (ds : List PyData) : Prop := ds = [bookD x.m x.rows, tupI x.bg, wvT x.ts] ∧ x.Ok
def R_tb (x : Rx) (r : PyData) : Prop := r = .list ((tots (whs x.rows) x.bg.sum x.ts).map .int)
def R_sp (x : Rx) (r : PyData) : Prop := ∃ mn mx, r = .tuple [.int mn, .int mx] ∧ IsMin mn (tots (whs x.rows) x.bg.sum x.ts) ∧ IsMax mx (tots (whs x.rows) x.bg.sum x.ts)
def metD (x : Rx) : PyData → Bool
  | .int v => metB (whs x.rows) v x.bg.sum x.ts
  | _ => false
abbrev C_im (x : Rx × PyData) (ds : List PyData) : Prop := ds = [bookD x.1.m x.1.rows, ordOf x.1.nss, tupI x.1.bg, wvT x.1.ts, x.2] ∧ x.1.Ok
def R_im (x : Rx × PyData) (r : PyData) : Prop := r = .bool (metD x.1 x.2)
theorem whs_bd {x : Rx} (ok : x.Ok) {d : Int} (h : 0 ≤ d ∧ d < ((x.rows.length : Nat) : Int)) : -792 ≤ whs x.rows d ∧ whs x.rows d ≤ 792 := by
  have r := ok.rok _ (rowAt_mem h)
  have m8 := ok.m8
  have q := sum_bd (b := 99) (by decide) (rowAt x.rows d) r.2
  unfold whs
  omega
theorem isNum_inv {d : PyData} (h : isNum d = true) : ∃ i, d = .int i := by
  cases d <;> first | exact ⟨_, rfl⟩ | cases h
theorem zip_ways {w : Int → Int} {v : Int} (f : PyData → PyData) (hf : ∀ (t : Int) (r : Rn), f (.tuple [.int t, trD r]) = .bool (onWay (v - t) (w r.2.1) r.2.2)) : ∀ (ts : List Rn) (t : Int), (List.zipWith (fun x y => PyData.tuple [x, y]) ((tots w t ts).map PyData.int) (ts.map trD)).map f = (ways w v t ts).map PyData.bool
  | [], _ => rfl
  | r :: rs, t => by
    show f (.tuple [.int t, trD r]) :: _ = PyData.bool (onWay (v - t) (w r.2.1) r.2.2) :: _
    rw [hf]
    exact congrArg _ (zip_ways f hf rs _)
theorem zip_mem_r {xs : List Int} {ts : List Rn} {d : PyData} (h : d ∈ List.zipWith (fun x y => PyData.tuple [x, y]) (xs.map PyData.int) (ts.map trD)) : ∃ a, ∃ r ∈ ts, d = .tuple [.int a, trD r] := by
  obtain ⟨i, hi, e⟩ := List.getElem_of_mem h
  rw [List.getElem_zipWith, List.getElem_map, List.getElem_map] at e
  exact ⟨_, _, List.getElem_mem _, e.symm⟩
theorem runs_get {ts : List Rn} {i : Nat} {e : PyData} (h : (ts.map trD)[i]? = some e) : ∃ t, ts[i]? = some t ∧ e = trD t := by
  rw [List.getElem?_map] at h
  cases q : ts[i]? with
  | none => rw [q] at h; cases h
  | some t => rw [q] at h; cases h; exact ⟨t, rfl, rfl⟩
theorem take_snoc {α : Type} {l : List α} {i : Nat} {x : α} (h : l[i]? = some x) : l.take (i + 1) = l.take i ++ [x] := by
  rw [List.take_add_one, h] <;> rfl
end Dl

/-! D26: more of totals: sizes, ends -/
namespace Dl
open PySem PySem.Spec PyProof.Rows L2
theorem allT_len {w : Int → Int} : ∀ (ts : List Rn) (t : Int), (∀ r ∈ ts, r.2.2 ≤ 1000) → (allT w t ts).length ≤ ts.length * 1000
  | [], _, _ => Nat.le_refl _
  | r :: rs, t, h => by
    have k := h r List.mem_cons_self
    have ih := allT_len (w := w) rs (t + r.2.2 * w r.2.1) fun x hx => h x (List.mem_cons_of_mem _ hx)
    show (((List.range r.2.2.toNat).map fun (j : Nat) => t + ((j : Int) + 1) * w r.2.1) ++ allT w (t + r.2.2 * w r.2.1) rs).length ≤ _
    rw [List.length_append, List.length_map, List.length_range, List.length_cons]
    omega
def endsI (w : Int → Int) : Int → List Rn → List Rn
  | _, [] => []
  | t, r :: rs => (t, w r.2.1, r.2.2) :: endsI w (t + r.2.2 * w r.2.1) rs
theorem ends_is {w : Int → Int} : ∀ (ts : List Rn) (t : Int), ends w t ts = endsI w t ts ++ [(fin w t ts, 0, 0)]
  | [], _ => rfl
  | r :: rs, t => by
    show (t, w r.2.1, r.2.2) :: ends w _ rs = _
    rw [ends_is rs] <;> rfl
theorem endsI_snoc {w : Int → Int} : ∀ (ts : List Rn) (t : Int) (r : Rn), endsI w t (ts ++ [r]) = endsI w t ts ++ [(fin w t ts, w r.2.1, r.2.2)]
  | [], _, _ => rfl
  | x :: ts, t, r => by
    show (t, w x.2.1, x.2.2) :: endsI w _ (ts ++ [r]) = _
    rw [endsI_snoc ts] <;> rfl
theorem endsI_len {w : Int → Int} : ∀ (ts : List Rn) (t : Int), (endsI w t ts).length = ts.length
  | [], _ => rfl
  | x :: ts, t => by
    show (endsI w _ ts).length + 1 = _
    rw [endsI_len ts, List.length_cons]
theorem ends_mem {w : Int → Int} : ∀ {ts : List Rn} {t : Int} {e : Rn}, e ∈ ends w t ts → e.1 ∈ tots w t ts ∧ ((e.2.1 = 0 ∧ e.2.2 = 0) ∨ ∃ r ∈ ts, e.2.1 = w r.2.1 ∧ e.2.2 = r.2.2)
  | [], t, e, h => by
    rw [List.mem_singleton.mp (show e ∈ [(t, (0 : Int), (0 : Int))] from h)]
    exact ⟨List.mem_cons_self, .inl ⟨rfl, rfl⟩⟩
  | x :: ts, t, e, h => by
    rcases List.mem_cons.mp (show e ∈ (t, w x.2.1, x.2.2) :: ends w (t + x.2.2 * w x.2.1) ts from h) with rfl | h
    · exact ⟨List.mem_cons_self, .inr ⟨x, List.mem_cons_self, rfl, rfl⟩⟩
    · obtain ⟨a, b⟩ := ends_mem h
      refine ⟨List.mem_cons_of_mem _ a, b.imp id ?_⟩
      rintro ⟨r, hr, q⟩
      exact ⟨r, List.mem_cons_of_mem _ hr, q⟩
theorem tots_bd {w : Int → Int} {B : Int} (hB : 0 ≤ B) : ∀ {ts : List Rn} {t T : Int}, (∀ r ∈ ts, -B ≤ r.2.2 * w r.2.1 ∧ r.2.2 * w r.2.1 ≤ B) → -T ≤ t → t ≤ T → ∀ y ∈ tots w t ts, -(T + ((ts.length : Nat) : Int) * B) ≤ y ∧ y ≤ T + ((ts.length : Nat) : Int) * B
  | [], t, T, _, h1, h2, y, hy => by
    rw [List.mem_singleton.mp (show y ∈ [t] from hy)]
    simp
    omega
  | r :: rs, t, T, h, h1, h2, y, hy => by
    have hr := h r List.mem_cons_self
    have e : ((rs.length + 1 : Nat) : Int) * B = (rs.length : Int) * B + B := by
      rw [Int.natCast_add, Int.add_mul] <;> simp
    have nn : 0 ≤ (rs.length : Int) * B := Int.mul_nonneg (by omega) hB
    rw [List.length_cons, e]
    rcases List.mem_cons.mp (show y ∈ t :: tots w (t + r.2.2 * w r.2.1) rs from hy) with rfl | hy
    · omega
    · have q := tots_bd hB (T := T + B) (fun x hx => h x (List.mem_cons_of_mem _ hx)) (by omega) (by omega) y hy
      omega
theorem Rx.Ok.tb2 {x : Rx} (ok : x.Ok) : ∀ y ∈ tots (whs x.rows) x.bg.sum x.ts, -1000000000000 ≤ y ∧ y ≤ 1000000000000 := fun y hy => by
  have q1 := sum_bd (b := 1000000000) (by decide) x.bg ok.bb
  have l1 := ok.bl
  have m8 := ok.m8
  have tl := ok.tl
  have q := tots_bd (w := whs x.rows) (B := 792000000) (by decide) (ts := x.ts) (t := x.bg.sum) (T := 8000000000) (fun r hr => by
    have b := ok.tb r hr
    have wb := whs_bd ok (d := r.2.1) ⟨b.2.2.1, b.2.2.2.1⟩
    have := mul_bd (a := r.2.2) (A := 1000000) (B := 792) (by omega) b.2.2.2.2.2 wb.1 wb.2
    omega) (by omega) (by omega) y hy
  omega
theorem Rx.Ok.pos {x : Rx} (ok : x.Ok) : ∀ r ∈ x.ts, 1 ≤ r.2.2 := fun r hr => (ok.tb r hr).2.2.2.2.1
theorem in_any {v : Int} {l : List Int} : l.any (fun y => y == v) = true ↔ v ∈ l := by
  rw [List.any_eq_true]
  constructor
  · rintro ⟨y, hy, e⟩
    rw [← eq_of_beq e]
    exact hy
  · intro h
    exact ⟨v, h, beq_self_eq_true v⟩
theorem any_met {x : Rx} (ok : x.Ok) (v : Int) : (x.bg.sum :: allT (whs x.rows) x.bg.sum x.ts).any (fun y => y == v) = metD x (.int v) := by
  rw [Bool.eq_iff_iff, in_any, allT_iff ok.pos]
  exact (metB_iff fun r hr => by have := ok.pos r hr; omega).symm
theorem among_met {x : Rx} (ok : x.Ok) (v : Int) : among v (ends (whs x.rows) x.bg.sum x.ts) = metD x (.int v) := by
  rw [Bool.eq_iff_iff, among_iff fun r hr => by have := ok.pos r hr; omega]
  exact (metB_iff fun r hr => by have := ok.pos r hr; omega).symm
def p57 : Int := (10 : Int) ^ (57 : Int).toNat
def far7 : Int := p57 * p57 * p57 * p57 * p57 * p57 * p57
theorem far_ok : CMulW p57 p57 ∧ CMulW (p57 * p57) p57 ∧ CMulW (p57 * p57 * p57) p57 ∧ CMulW (p57 * p57 * p57 * p57) p57 ∧ CMulW (p57 * p57 * p57 * p57 * p57) p57 ∧ CMulW (p57 * p57 * p57 * p57 * p57 * p57) p57 := by
  unfold CMulW
  decide +kernel
end Dl
namespace Dl
open PySem PySem.Spec PyProof.Rows L2
abbrev C_lt (x : Rx) (ds : List PyData) : Prop := C_tb x ds ∧ x.ts.length ≤ 20 ∧ ∀ t ∈ x.ts, t.2.2 ≤ 1000
def R_lt (x : Rx) (r : PyData) : Prop := r = .list ((x.bg.sum :: allT (whs x.rows) x.bg.sum x.ts).map .int)
def R_le (x : Rx) (r : PyData) : Prop := r = .list ((ends (whs x.rows) x.bg.sum x.ts).map trD)
abbrev C_am (x : List Rn × Int) (ds : List PyData) : Prop := ds = [.list (x.1.map trD), .int x.2] ∧ x.1.length ≤ 1000 ∧ ∀ e ∈ x.1, -100000 ≤ e.2.1 ∧ e.2.1 ≤ 100000
def R_am (x : List Rn × Int) (r : PyData) : Prop := r = .bool (among x.2 x.1)
abbrev C_nb (ds : List PyData) : Prop := ∃ es : List Rn, ds = [.list (es.map trD)] ∧ es.length ≤ 1000 ∧ ∀ e ∈ es, -1000 ≤ e.2.1 ∧ e.2.1 ≤ 1000 ∧ 0 ≤ e.2.2 ∧ e.2.2 ≤ 1000000
def R_nb (_ : List PyData) (r : PyData) : Prop := ∃ ns : List Int, r = .list (ns.map .int) ∧ ns.length ≤ 100
end Dl

/-! K08: the text, what the law draws -/
namespace K08
open PySem PySem.Spec PyProof.Rows L2 Dl
def topS (i : Nat) : Stmt := PySem.Challenge.pw_passingsums_k08_whole_totals_that_are_me.main.body.getD i (.Pass ⟨0, 0, 0, 0⟩)
abbrev s_is_number : Stmt := topS 1
abbrev N_is_number : List Str := ["value"]
abbrev p_is_number : List Str := ["value"]
theorem sc_is_number : FnScope N_is_number p_is_number (defScope s_is_number) := ⟨rfl, rfl, rfl, by decide +kernel, rfl, by decide +kernel, by decide +kernel⟩
abbrev s_whole_of : Stmt := topS 3
abbrev N_whole_of : List Str := ["book", "deed", "_", "rows"]
abbrev p_whole_of : List Str := ["book", "deed"]
theorem sc_whole_of : FnScope N_whole_of p_whole_of (defScope s_whole_of) := ⟨rfl, rfl, rfl, by decide +kernel, rfl, by decide +kernel, by decide +kernel⟩
abbrev s_span_met : Stmt := topS 5
abbrev N_span_met : List Str := ["book", "order", "begin", "weaving", "totals"]
abbrev p_span_met : List Str := ["book", "order", "begin", "weaving"]
theorem sc_span_met : FnScope N_span_met p_span_met (defScope s_span_met) := ⟨rfl, rfl, rfl, by decide +kernel, rfl, by decide +kernel, by decide +kernel⟩
abbrev s_is_met : Stmt := topS 6
abbrev N_is_met : List Str := ["book", "order", "begin", "weaving", "value", "totals", "ways", "total", "_", "deed", "times"]
abbrev p_is_met : List Str := ["book", "order", "begin", "weaving", "value"]
theorem sc_is_met : FnScope N_is_met p_is_met (defScope s_is_met) := ⟨rfl, rfl, rfl, by decide +kernel, rfl, by decide +kernel, by decide +kernel⟩
abbrev s_totals_between : Stmt := topS 7
abbrev N_totals_between : List Str := ["book", "begin", "weaving", "totals", "_", "deed", "times"]
abbrev p_totals_between : List Str := ["book", "begin", "weaving"]
theorem sc_totals_between : FnScope N_totals_between p_totals_between (defScope s_totals_between) := ⟨rfl, rfl, rfl, by decide +kernel, rfl, by decide +kernel, by decide +kernel⟩
abbrev s__is_on_way : Stmt := topS 8
abbrev N__is_on_way : List Str := ["far", "whole", "times"]
abbrev p__is_on_way : List Str := ["far", "whole", "times"]
theorem sc__is_on_way : FnScope N__is_on_way p__is_on_way (defScope s__is_on_way) := ⟨rfl, rfl, rfl, by decide +kernel, rfl, by decide +kernel, by decide +kernel⟩
abbrev s__law_stock : Stmt := topS 10
abbrev N__law_stock : List Str := ["script", "flat", "cell"]
abbrev p__law_stock : List Str := ["script"]
theorem sc__law_stock : FnScope N__law_stock p__law_stock (defScope s__law_stock) := ⟨rfl, rfl, rfl, by decide +kernel, rfl, by decide +kernel, by decide +kernel⟩
abbrev s__law_draw : Stmt := topS 11
abbrev N__law_draw : List Str := ["stock", "size", "great", "turn", "cell", "blend"]
abbrev p__law_draw : List Str := ["stock", "size"]
theorem sc__law_draw : FnScope N__law_draw p__law_draw (defScope s__law_draw) := ⟨rfl, rfl, rfl, by decide +kernel, rfl, by decide +kernel, by decide +kernel⟩
abbrev s__law_pick : Stmt := topS 12
abbrev N__law_pick : List Str := ["stock", "row"]
abbrev p__law_pick : List Str := ["stock", "row"]
theorem sc__law_pick : FnScope N__law_pick p__law_pick (defScope s__law_pick) := ⟨rfl, rfl, rfl, by decide +kernel, rfl, by decide +kernel, by decide +kernel⟩
abbrev s__law_mixed : Stmt := topS 13
abbrev N__law_mixed : List Str := ["stock", "items", "rest", "found"]
abbrev p__law_mixed : List Str := ["stock", "items"]
theorem sc__law_mixed : FnScope N__law_mixed p__law_mixed (defScope s__law_mixed) := ⟨rfl, rfl, rfl, by decide +kernel, rfl, by decide +kernel, by decide +kernel⟩
abbrev s__law_row : Stmt := topS 14
abbrev N__law_row : List Str := ["stock", "many", "way", "place", "most", "cell"]
abbrev p__law_row : List Str := ["stock", "many"]
theorem sc__law_row : FnScope N__law_row p__law_row (defScope s__law_row) := ⟨rfl, rfl, rfl, by decide +kernel, rfl, by decide +kernel, by decide +kernel⟩
abbrev s__law_book : Stmt := topS 15
abbrev N__law_book : List Str := ["stock", "cells", "rows", "many", "found", "base", "turn", "times", "drawn", "cell", "item"]
abbrev p__law_book : List Str := ["stock", "cells", "rows"]
theorem sc__law_book : FnScope N__law_book p__law_book (defScope s__law_book) := ⟨rfl, rfl, rfl, by decide +kernel, rfl, by decide +kernel, by decide +kernel⟩
abbrev s__law_order : Stmt := topS 16
abbrev N__law_order : List Str := ["stock", "many", "cells", "way", "cell", "found"]
abbrev p__law_order : List Str := ["stock", "many"]
theorem sc__law_order : FnScope N__law_order p__law_order (defScope s__law_order) := ⟨rfl, rfl, rfl, by decide +kernel, rfl, by decide +kernel, by decide +kernel⟩
abbrev s__law_weaving : Stmt := topS 17
abbrev N__law_weaving : List Str := ["stock", "book", "order", "runs", "times", "stands", "found", "stand", "often", "turn"]
abbrev p__law_weaving : List Str := ["stock", "book", "order", "runs", "times"]
theorem sc__law_weaving : FnScope N__law_weaving p__law_weaving (defScope s__law_weaving) := ⟨rfl, rfl, rfl, by decide +kernel, rfl, by decide +kernel, by decide +kernel⟩
abbrev s__law_begin : Stmt := topS 18
abbrev N__law_begin : List Str := ["stock", "many", "far", "found", "cell"]
abbrev p__law_begin : List Str := ["stock", "many"]
theorem sc__law_begin : FnScope N__law_begin p__law_begin (defScope s__law_begin) := ⟨rfl, rfl, rfl, by decide +kernel, rfl, by decide +kernel, by decide +kernel⟩
abbrev s__law_totals : Stmt := topS 19
abbrev N__law_totals : List Str := ["book", "begin", "weaving", "cells", "found", "stand", "deed", "times", "turn", "held", "item"]
abbrev p__law_totals : List Str := ["book", "begin", "weaving"]
theorem sc__law_totals : FnScope N__law_totals p__law_totals (defScope s__law_totals) := ⟨rfl, rfl, rfl, by decide +kernel, rfl, by decide +kernel, by decide +kernel⟩
abbrev s__law_ends : Stmt := topS 20
abbrev N__law_ends : List Str := ["book", "begin", "weaving", "total", "found", "stand", "deed", "times", "whole"]
abbrev p__law_ends : List Str := ["book", "begin", "weaving"]
theorem sc__law_ends : FnScope N__law_ends p__law_ends (defScope s__law_ends) := ⟨rfl, rfl, rfl, by decide +kernel, rfl, by decide +kernel, by decide +kernel⟩
abbrev s__law_is_among : Stmt := topS 21
abbrev N__law_is_among : List Str := ["ends", "value", "total", "whole", "times"]
abbrev p__law_is_among : List Str := ["ends", "value"]
theorem sc__law_is_among : FnScope N__law_is_among p__law_is_among (defScope s__law_is_among) := ⟨rfl, rfl, rfl, by decide +kernel, rfl, by decide +kernel, by decide +kernel⟩
abbrev s__law_numbers : Stmt := topS 22
abbrev N__law_numbers : List Str := ["stock", "ends", "found", "total", "whole", "times", "amid", "far"]
abbrev p__law_numbers : List Str := ["stock", "ends"]
theorem sc__law_numbers : FnScope N__law_numbers p__law_numbers (defScope s__law_numbers) := ⟨rfl, rfl, rfl, by decide +kernel, rfl, by decide +kernel, by decide +kernel⟩
abbrev s__law_is_told : Stmt := topS 23
abbrev N__law_is_told : List Str := ["book", "order", "begin", "weaving", "span", "values", "known", "found", "nth", "value", "due", "told", "total", "odd"]
abbrev p__law_is_told : List Str := ["book", "order", "begin", "weaving", "span", "values"]
theorem sc__law_is_told : FnScope N__law_is_told p__law_is_told (defScope s__law_is_told) := ⟨rfl, rfl, rfl, by decide +kernel, rfl, by decide +kernel, by decide +kernel⟩
abbrev s_law : Stmt := topS 24
abbrev N_law : List Str := ["script", "stock", "turn", "book", "order", "begin", "weaving", "totals", "ends", "values", "total", "whole", "times", "value", "due"]
abbrev p_law : List Str := ["script"]
theorem sc_law : FnScope N_law p_law (defScope s_law) := ⟨rfl, rfl, rfl, by decide +kernel, rfl, by decide +kernel, by decide +kernel⟩
/-- what the top's names hold -/
structure Gb (mg : Str → Option Value) : Prop where
  m_isinstance : mg "isinstance" = none
  m_int : mg "int" = none
  m_bool : mg "bool" = none
  m_tuple : mg "tuple" = none
  m_len : mg "len" = none
  m_enumerate : mg "enumerate" = none
  m_sum : mg "sum" = none
  m_range : mg "range" = none
  m_list : mg "list" = none
  m_repr : mg "repr" = none
  m_sorted : mg "sorted" = none
  m_zip : mg "zip" = none
  m_min : mg "min" = none
  m_max : mg "max" = none
  m_any : mg "any" = none
  m_abs : mg "abs" = none
  m_str : mg "str" = none
section
variable {P : Program} {w : World} {K : PySem.W.Frag} {mg : Str → Option Value} {base : Heap} {f : Addr} {fd : FuncData} {k : Nat}
/-! ### the stock -/
theorem ok__law_draw (F : Fun K "_law_draw" "_law_draw" s__law_draw f fd) (g : Gb mg) : FnOk P w K mg base CX0 1 f fd p__law_draw (PS C_draw R_draw) := by
  obtain ⟨m_isinstance, m_int, m_bool, m_tuple, m_len, m_enumerate, m_sum, m_range, m_list, m_repr, m_sorted, m_zip, m_min, m_max, m_any, m_abs, m_str⟩ := g
  have nd := sc__law_draw.nd
  refine F.ok sc__law_draw (ps_len fun ds ⟨n, e, _⟩ => by rw [e]; rfl) fun cdv A outer sh H vs Q E hr h => ⟨_, (pss_cons (ps_if (pt_cmpR (show OpR _ _ (rNeD K) from op_neD hr.units) (pe_ix (show IxR _ (fun x y H Q => rIxL K x y H Q ∨ rIxT K x y H Q) from ix_list.or ix_tup) (pv 0) pe_int (fun _ _ => rfl)) (pe_lst pa_nil) (nomark _))
        (pss_cons (ps_set (i := 2) nd rfl (Or.inl rfl) (pe_bm0 PySem.F.plainAttrs_list PySem.F.slot_list_pop PySem.F.type_list_pop mt_pop (pe_ix (show IxR _ (fun x y H Q => rIxL K x y H Q ∨ rIxT K x y H Q) from ix_list.or ix_tup) (pv 0) pe_int (fun _ _ => rfl))))
        (pss_cons (ps_if (pt_cmpR op_ge (pv 2) (pv 1) (nomark _))
          (pss_one (ps_expr (pe_bm PySem.F.plainAttrs_list PySem.F.slot_list_append PySem.F.type_list_append mt_append (pe_ix (show IxR _ (fun x y H Q => rIxL K x y H Q ∨ rIxT K x y H Q) from ix_list.or ix_tup) (pv 0) pe_int (fun _ _ => rfl)) (pa_cons (pe_op op_fdivN (pv 2) (pv 1)) pa_nil))))
          pss_nil)
        (pss_one (ps_ret (pe_op op_mod (pe_callTy call_int1 (by rfl) m_int (by decide +kernel) (pa_cons (pv 2) pa_nil)) (pv 1))))))
        pss_nil)
      (pss_cons (ps_asg (pe_op op_add (pe_ix (show IxR _ (fun x y H Q => rIxL K x y H Q ∨ rIxT K x y H Q) from ix_list.or ix_tup) (pv 0) pe_int (fun _ _ => rfl)) pe_int) (pg_sub (pv 0) pe_int set_list))
      (pss_cons (ps_set (i := 3) nd rfl (Or.inl rfl) (pe_ix (show IxR _ (fun x y H Q => rIxL K x y H Q ∨ rIxT K x y H Q) from ix_list.or ix_tup) (pv 0) pe_int (fun _ _ => rfl)))
      (pss_cons (ps_set (i := 4) nd rfl (Or.inl rfl) (pe_op op_mod (pe_callTy call_int1 (by rfl) m_int (by decide +kernel) (pa_cons (pe_ix (show IxR _ (fun x y H Q => rIxL K x y H Q ∨ rIxT K x y H Q) from ix_list.or ix_tup) (pe_ix (show IxR _ (fun x y H Q => rIxL K x y H Q ∨ rIxT K x y H Q) from ix_list.or ix_tup) (pv 0) pe_int (fun _ _ => rfl)) (pe_op op_mod (pe_callTy call_int1 (by rfl) m_int (by decide +kernel) (pa_cons (pv 3) pa_nil)) (pe_callB (show CallR _ _ (rLenK K) from call_len_seq) (by rfl) m_len PySem.boot_len (pa_cons (pe_ix (show IxR _ (fun x y H Q => rIxL K x y H Q ∨ rIxT K x y H Q) from ix_list.or ix_tup) (pv 0) pe_int (fun _ _ => rfl)) pa_nil))) (fun _ _ => rfl)) pa_nil)) pe_int))
      (pss_cons (ps_set (i := 5) nd rfl (Or.inl rfl) (pe_op op_mod (pe_callTy call_int1 (by rfl) m_int (by decide +kernel) (pa_cons (pe_op op_add (pe_op op_add (pe_op op_mul (pv 4) pe_int) (pe_op op_mul (pe_op op_mod (pe_callTy call_int1 (by rfl) m_int (by decide +kernel) (pa_cons (pe_ix (show IxR _ (fun x y H Q => rIxL K x y H Q ∨ rIxT K x y H Q) from ix_list.or ix_tup) (pv 0) pe_int (fun _ _ => rfl)) pa_nil)) pe_int) pe_int)) (pe_op op_mul (pv 3) pe_int)) pa_nil)) pe_int))
      (pss_cons (ps_set (i := 5) nd rfl (Or.inl rfl) (pe_op op_mod (pe_callTy call_int1 (by rfl) m_int (by decide +kernel) (pa_cons (pe_op op_add (pe_op op_add (pe_op op_mul (pv 5) (pv 5)) (pe_op op_mul (pv 3) pe_int)) (pv 4)) pa_nil)) pe_int))
      (pss_one (ps_ret (pe_op op_mod (pe_op op_fdivN (pe_op op_mod (pe_callTy call_int1 (by rfl) m_int (by decide +kernel) (pa_cons (pe_op op_add (pe_op op_mul (pv 5) pe_int) (pe_op op_mul (pv 3) pe_int)) pa_nil)) pe_int) pe_int) (pv 1)))))))))), ?_⟩
  obtain ⟨s, g, ft, A, vs', ds, rfl, ⟨big, flat, tot, trn, hs, hg, hf, hbl, hfl, n1, n2, n3⟩, sub, trk, hd, ⟨n, rfl, c1, c2⟩, z⟩ := h
  cases hd with
  | cons hv ht =>
    cases ht
    cases hv
    -- stock[0] != []
    refine ⟨.ref s, rfl, .inl ⟨s, _, 0, _, rfl, rfl, .of hs, rfl, Nat.zero_le _, fun p np => ⟨.list (big.map .int), .list [], .lst (.of (upd_keep hg np)) (dp_ints big), .lst (.of upd_same) .nil, shaped_ints big, shaped_ints [], _, rfl, ?_⟩⟩⟩
    have hs1 : upd H p (.lst []) s = _ := upd_keep hs np
    have hg1 : upd H p (.lst []) g = _ := upd_keep hg np
    have hf1 : upd H p (.lst []) ft = _ := upd_keep hf np
    have fr1 : Fr (FS s g ft).m H (upd H p (.lst [])) := .new np
    generalize upd H p (.lst []) = H1 at hs1 hg1 hf1 fr1
    rw [eqv_nil_ints]
    by_cases hb : big = []
    · subst hb
      refine iteF ?_
      -- stock[3] = stock[3] + 1
      refine ⟨.ref s, rfl, .inl ⟨s, _, 3, .int trn, rfl, rfl, .of hs1, rfl, trn, 1, rfl, rfl, .ref s, rfl, s, _, 3, 3, rfl, rfl, hs1, rfl, ?_⟩⟩
      have fr2 := fr1.trans (frM (H := H1) (a := s) (o := .lst [.ref g, .ref ft, .int tot, .int (trn + 1)]) (.inl rfl))
      have hs2 : upd H1 s (.lst [.ref g, .ref ft, .int tot, .int (trn + 1)]) s = _ := upd_same
      have hg2 : upd H1 s (.lst [.ref g, .ref ft, .int tot, .int (trn + 1)]) g = _ := (upd_ne n1.symm).trans hg1
      have hf2 : upd H1 s (.lst [.ref g, .ref ft, .int tot, .int (trn + 1)]) ft = _ := (upd_ne n2.symm).trans hf1
      have hl : (0 : Int) < ((flat.map V.int).length : Int) := by
        rw [List.length_map]
        have := List.length_pos_iff.mpr hfl
        omega
      obtain ⟨c, hc⟩ : ∃ c, atI (flat.map V.int) ((trn + 1) % ((flat.map V.int).length : Int)) = some (V.int c) := by
        have b1 := Int.emod_nonneg (trn + 1) (show ((flat.map V.int).length : Int) ≠ 0 by omega)
        have b2 := Int.emod_lt_of_pos (trn + 1) hl
        have hi : ((trn + 1) % ((flat.map V.int).length : Int)).toNat < flat.length := by
          rw [List.length_map] at b1 b2 ⊢
          omega
        refine ⟨flat[((trn + 1) % ((flat.map V.int).length : Int)).toNat], ?_⟩
        have e : (trn + 1) % ((flat.map V.int).length : Int) = ((((trn + 1) % ((flat.map V.int).length : Int)).toNat : Nat) : Int) := by omega
        exact at_of e (by rw [List.getElem?_map, List.getElem?_eq_getElem hi] <;> rfl)
      have M1 : ∀ y : Int, -(2 ^ 64) < y % 4294967291 ∧ y % 4294967291 < 2 ^ 64 := fun y => by omega
      have stk2 : Stk s g ft (upd H1 s (.lst [.ref g, .ref ft, .int tot, .int (trn + 1)])) := ⟨[], flat, tot, trn + 1, hs2, hg2, hf2, Nat.zero_le _, hfl, n1, n2, n3⟩
      show tSeq _ _ _ _ (upd H1 s (.lst [.ref g, .ref ft, .int tot, .int (trn + 1)]))
      generalize upd H1 s (.lst [.ref g, .ref ft, .int tot, .int (trn + 1)]) = H2 at hs2 hg2 hf2 fr2 stk2
      -- turn = stock[3]
      refine ⟨.ref s, rfl, .inl ⟨s, _, 3, _, rfl, rfl, .of hs2, rfl, ?_⟩⟩
      -- cell
      refine ⟨.ref s, rfl, .inl ⟨s, _, 1, _, rfl, rfl, .of hs2, rfl, .int (trn + 1), rfl, .inl ⟨_, rfl, .ref s, rfl, .inl ⟨s, _, 1, _, rfl, rfl, .of hs2, rfl, ft, _, rfl, .inl (.of hf2), _, _, rfl, rfl, hl, ?_⟩⟩⟩⟩
      refine .inl ⟨ft, _, _, _, rfl, rfl, .of hf2, hc, .inl ⟨_, rfl, _, _, rfl, rfl, (by show (0 : Int) < 1000000007; decide), ?_⟩⟩
      -- blend
      refine ⟨_, rfl, _, _, rfl, rfl, .inr ⟨by omega, by omega⟩, .ref s, rfl, .inl ⟨s, _, 2, _, rfl, rfl, .of hs2, rfl, .inl ⟨_, rfl, _, _, rfl, rfl, (by show (0 : Int) < 998244353; decide), _, _, rfl, rfl, .inr ⟨by omega, by omega⟩, _, _, rfl, rfl, _, rfl, _, _, rfl, rfl, .inr ⟨by omega, by omega⟩, _, _, rfl, rfl, ?_⟩⟩⟩
      refine .inl ⟨_, rfl, _, _, rfl, rfl, (by show (0 : Int) < 4294967291; decide), ?_⟩
      refine ⟨_, rfl, _, rfl, _, _, rfl, rfl, .inl (M1 _), _, rfl, _, _, rfl, rfl, .inr ⟨by omega, by omega⟩, _, _, rfl, rfl, _, rfl, _, _, rfl, rfl, ?_⟩
      refine .inl ⟨_, rfl, _, _, rfl, rfl, (by show (0 : Int) < 4294967279; decide), ?_⟩
      refine ⟨_, rfl, _, _, rfl, rfl, .inr ⟨by omega, by omega⟩, _, rfl, _, _, rfl, rfl, .inr ⟨by omega, by omega⟩, _, _, rfl, rfl, ?_⟩
      refine .inl ⟨_, rfl, _, _, rfl, rfl, (by show (0 : Int) < 4294967231; decide), _, _, rfl, rfl, ⟨by decide, by decide⟩, _, rfl, _, _, rfl, rfl, c1, ?_⟩
      exact z _ (.int _) H2 fr2 stk2 (.int _) ⟨_, rfl, Int.emod_nonneg _ (by omega), Int.emod_lt_of_pos _ c1⟩
    · obtain ⟨r, x, rfl⟩ : ∃ r x, big = r ++ [x] := ⟨big.dropLast, big.getLast hb, (List.dropLast_concat_getLast hb).symm⟩
      rw [show (r ++ [x]).isEmpty = false by cases r <;> rfl]
      refine iteT ?_
      have hlast : ((r ++ [x]).map V.int)[((r ++ [x]).map V.int).length - 1]? = some (V.int x) := by
        rw [List.map_append, List.length_append, List.length_map]
        show (r.map V.int ++ [V.int x])[r.length + 1 - 1]? = _
        rw [Nat.add_sub_cancel, List.getElem?_append_right (by rw [List.length_map]; exact Nat.le_refl _), List.length_map, Nat.sub_self] <;> rfl
      have hdl : ((r ++ [x]).map V.int).dropLast = r.map V.int := by
        rw [List.map_append]
        exact List.dropLast_concat
      have hrl : r.length + 1 ≤ 1000 := by
        rw [List.length_append] at hbl
        exact hbl
      -- great = stock[0].pop()
      refine ⟨.ref s, rfl, .inl ⟨s, _, 0, _, rfl, rfl, .of hs1, rfl, .inl ⟨rfl, _, .of hg1⟩, g, _, _, rfl, rfl, hg1, hlast, ?_⟩⟩
      rw [hdl]
      have hs2 : upd H1 g (.lst (r.map V.int)) s = _ := (upd_ne n1).trans hs1
      have hg2 : upd H1 g (.lst (r.map V.int)) g = _ := upd_same
      have hf2 : upd H1 g (.lst (r.map V.int)) ft = _ := (upd_ne n3.symm).trans hf1
      have fr2 := fr1.trans (frM (H := H1) (a := g) (o := .lst (r.map V.int)) (.inr (.inl rfl)))
      show tSeq _ _ _ _ (upd H1 g (.lst (r.map V.int)))
      generalize upd H1 g (.lst (r.map V.int)) = H2 at hs2 hg2 hf2 fr2
      have done : ∀ H3, Dl.Fr (FS s g ft).m H H3 → Stk s g ft H3 → Q (.int (x % n)) H3 := fun H3 f3 st3 => z _ (.int _) H3 f3 st3 (.int _) ⟨_, rfl, Int.emod_nonneg _ (by omega), Int.emod_lt_of_pos _ c1⟩
      -- if great >= size
      refine ⟨_, rfl, _, rfl, _, _, rfl, rfl, _, rfl, ite2 (fun _ => ?_) (fun _ => ?_)⟩
      · refine ⟨.ref s, rfl, .inl ⟨s, _, 0, _, rfl, rfl, .of hs2, rfl, .inl ⟨rfl, _, .of hg2⟩, _, rfl, _, rfl, _, _, rfl, rfl, ⟨by omega, by omega⟩, g, _, _, rfl, rfl, hg2, ?_, ?_⟩⟩
        · rw [List.length_map, sizeLine_eq]
          omega
        · have e : r.map V.int ++ [V.int (x.fdiv n)] = (r ++ [x.fdiv n]).map V.int := by rw [List.map_append] <;> rfl
          rw [e]
          have hs3 : upd H2 g (.lst ((r ++ [x.fdiv n]).map V.int)) s = _ := (upd_ne n1).trans hs2
          have hg3 : upd H2 g (.lst ((r ++ [x.fdiv n]).map V.int)) g = _ := upd_same
          have hf3 : upd H2 g (.lst ((r ++ [x.fdiv n]).map V.int)) ft = _ := (upd_ne n3.symm).trans hf2
          exact ⟨_, rfl, .inl ⟨_, rfl, _, rfl, _, _, rfl, rfl, c1, done _ (fr2.trans (frM (.inr (.inl rfl)))) ⟨r ++ [x.fdiv n], flat, tot, trn, hs3, hg3, hf3, by rw [List.length_append]; exact hrl, hfl, n1, n2, n3⟩⟩⟩
      · exact ⟨_, rfl, .inl ⟨_, rfl, _, rfl, _, _, rfl, rfl, c1, done _ fr2 ⟨r, flat, tot, trn, hs2, hg2, hf2, by omega, hfl, n1, n2, n3⟩⟩⟩
theorem ok__law_stock (F : Fun K "_law_stock" "_law_stock" s__law_stock f fd) (g : Gb mg) : FnOk P w K mg base CX0 1 f fd p__law_stock (spStock K) := by
  obtain ⟨m_isinstance, m_int, m_bool, m_tuple, m_len, m_enumerate, m_sum, m_range, m_list, m_repr, m_sorted, m_zip, m_min, m_max, m_any, m_abs, m_str⟩ := g
  have nd := sc__law_stock.nd
  refine F.ok sc__law_stock (fun vs H Q E ⟨a, ns, e, _⟩ => by rw [e]; rfl) fun cdv A outer sh H vs Q E hr h => ⟨_, (pss_cons (ps_setLc (i := 1) (own := [("cell", 2)]) (g := gName 2) (tt := tYes) rfl nd rfl rfl (sw_true rfl rfl rfl (by decide +kernel)) (pi_list (pe_slice sl_list (pv 0) po_none (po_some pe_int))) (blkOk_by (N := N__law_stock) (sc := defScope s__law_stock) (by decide +kernel)) (fun _ _ _ _ _ => (pg_name (i := 2) nd rfl (Or.inl rfl))) (fun _ _ _ _ _ => pts_nil) (fun _ _ _ _ _ => (pe_ifExp (pt_cmpR op_ge (pv 2) pe_int (nomark _)) (pe_op op_mul pe_int (pv 2)) (pe_op op_sub (pe_op op_mul (pe_un un_neg pe_int) (pv 2)) pe_int))))
      (pss_one (ps_ret (pe_lst (pa_cons (pe_lc (own := [("cell", 2)]) (g := gName 2) rfl nd (pi_list (pv 1)) (blkOk_by (N := N__law_stock) (sc := defScope s__law_stock) (by decide +kernel)) (fun _ _ _ _ _ => (pg_name (i := 2) nd rfl (Or.inl rfl))) (fun _ _ _ _ _ => (pts_one (pt_cmpR op_ge (pv 2) (pe_op op_pow pe_int pe_int) (nomark _)))) (fun _ _ _ _ _ => (pv 2))) (pa_cons (pe_op op_cat (pv 1) (pe_lst (pa_cons (pe_op op_add (pe_callB (show CallR _ _ (rLenK K) from call_len_seq) (by rfl) m_len PySem.boot_len (pa_cons (pv 1) pa_nil)) pe_int) pa_nil))) (pa_cons (pe_callB (show CallR _ _ (rSum K) from cr_sum rfl) (by rfl) m_sum (by decide +kernel) (pa_cons (pv 1) pa_nil)) (pa_cons pe_int pa_nil)))))))), ?_⟩
  obtain ⟨a, ns, rfl, hS, hl, z⟩ := h
  -- script[:63]
  refine ⟨.ref a, rfl, 63, rfl, a, ns.map V.int, rfl, hS, fun p np => ⟨p, rfl, ⟨_, .of upd_same⟩, fun D nD => ?_⟩⟩
  have ecut : cutV (ns.map V.int) none (some 63) = (ns.take 63).map V.int := by
    unfold cutV
    rw [HT.sIx_none, show HT.sIx (ns.map V.int).length (ns.map V.int).length (some 63) = min 63 (ns.map V.int).length from HT.sIx_nat _ _ 63, List.drop_zero, Nat.sub_zero, List.map_take]
    rw [List.take_eq_take_iff]
    omega
  rw [ecut] at nD
  show ∃ W, _
  rw [ecut]
  have sm1 : Same H (upd H p (.lst ((ns.take 63).map V.int))) := fun b o e => upd_keep e np
  have hp1 : upd H p (.lst ((ns.take 63).map V.int)) p = _ := upd_same
  generalize upd H p (.lst ((ns.take 63).map V.int)) = H1 at nD sm1 hp1
  have hml : (ns.take 63).length ≤ 63 := List.length_take_le ..
  generalize ns.take 63 = ms at hp1 hml
  refine lc_list (K := K) (a := p) (xs := ms.map V.int) (fun i H2 => H2 D = some (.lst (((ms.take i).map flat1).map V.int)) ∧ Same H1 H2) ⟨upd_same, fun b o e => upd_keep e nD⟩ (fun i H2 _ ⟨_, s2⟩ => .of (s2 _ _ hp1)) (fun i x H2 hx ⟨hD, s2⟩ => ?_) fun H2 ⟨hD, s2⟩ => ?_
  · rw [List.getElem?_map] at hx
    cases hm : ms[i]? with
    | none => rw [hm] at hx; cases hx
    | some y =>
      rw [hm] at hx
      cases hx
      have hi := (List.getElem?_eq_some_iff.mp hm).1
      have hlen : ((List.map flat1 (List.take i ms)).map V.int).length < sizeLine := by
        rw [List.length_map, List.length_map, List.length_take, sizeLine_eq]
        omega
      have fin : ∀ v, v = flat1 y → upd H2 D (.lst (((ms.take i).map flat1).map V.int ++ [V.int v])) D = some (.lst (((ms.take (i + 1)).map flat1).map V.int)) ∧ Same H1 (upd H2 D (.lst (((ms.take i).map flat1).map V.int ++ [V.int v]))) := fun v ev => by
        refine ⟨?_, fun b o e => by rw [upd_ne (ne_of_none e nD)]; exact s2 b o e⟩
        rw [upd_same, List.take_add_one, hm, ev, List.map_append, List.map_append] <;> rfl
      refine ⟨rfl, ?_⟩
      refine iteT (B := H2 D = some (.lst (((ms.take (i + 1)).map flat1).map V.int)) ∧ Same H1 H2) ⟨_, rfl, _, _, rfl, rfl, _, rfl, ite2 (fun h0 => ?_) (fun h0 => ?_)⟩
      · refine ⟨_, rfl, _, _, rfl, rfl, .inl ⟨by omega, by omega⟩, _, hD, hlen, fin _ ?_⟩
        unfold flat1
        rw [if_pos (of_decide_eq_true h0)]
      · refine ⟨_, rfl, _, rfl, _, _, rfl, rfl, .inl ⟨by omega, by omega⟩, _, _, rfl, rfl, _, hD, hlen, fin _ ?_⟩
        unfold flat1
        rw [if_neg (fun z => h0 (decide_eq_true z))]
  · rw [List.length_map, List.take_length] at hD
    have hll : (ms.map flat1).length ≤ 63 := by rw [List.length_map]; exact hml
    generalize ms.map flat1 = l at hD hll
    have st : S F0 H2 [] [.no, .d (.list (l.map .int)), .no] ((L2.start N__law_stock [.ref a]).set 1 (some (.ref D))) H2 := by
      refine ⟨.refl _, trivial, fun _ z => (nomatch z), fun _ z => (nomatch z), rfl, fun i x e => ?_, fun i j t es fs h1 h2 => ?_⟩
      · match i, e with
        | 0, e => cases e; exact ⟨_, rfl, trivial⟩
        | 1, e => cases e; exact ⟨_, rfl, _, rfl, .lst hD (fun z => nomatch z) (.ints l)⟩
        | 2, e => cases e; exact ⟨_, rfl, trivial⟩
      · match i, h1 with
        | 0, h1 => cases h1
        | 1, h1 => cases h1
        | 2, h1 => cases h1
    dsimp only
    refine use_ret2 (fun d => d = .list [.list ((bigs l).map .int), .list ((l ++ [((l.length : Nat) : Int) + 758]).map .int), .int l.sum, .int 0]) ?_ st fun v d H3 s3 f3 h3 ed => ?_
    · refine ev_lst (eva_cons (EvN.ev (evn_filt (tg_name 2) (by simp) (fun d => match d with | .int x => decide (10 ^ 15 ≤ x) | _ => false) id (evi_list (ev_var rfl ⟨_, rfl, by rw [List.length_map]; omega, fun d hd p np => ?_, ?_⟩)))))
      · obtain ⟨x, _, rfl⟩ := List.mem_map.mp hd
        exact ⟨_, rfl, evt_val (ev_ib (ev_var rfl (ev_iic (ev_int (ev_int ⟨10, 15, rfl, rfl, ⟨by decide, by decide, by decide⟩, x, _, rfl, rfl, _, rfl, rfl, fun _ => ev_var rfl rfl⟩)))))⟩
      · rw [List.map_id]
        refine eva_cons (EvN.ev (evn_cat (ev_var rfl (ev_lst (eva_one (ev_ii (ev_len (eva_one (ev_var rfl ⟨_, l.map .int, rfl, rfl, ev_int ⟨_, _, rfl, rfl, by simp, _, _, rfl, rfl, ?_, ?_⟩⟩)))))))))
        · rw [List.length_map]
          simp
          omega
        · refine eva_cons (ev_sum (eva_one (ev_var rfl ⟨l, rfl, eva_one (ev_int ⟨by simp, ?_⟩)⟩)))
          rw [List.length_map]
          have e1 : List.filter (fun d => match d with | .int x => decide ((10 : Int) ^ 15 ≤ x) | _ => false) (l.map PyData.int) = (bigs l).map .int := by
            unfold bigs
            rw [List.filter_map] <;> rfl
          rw [e1, List.map_append] <;> rfl
    · subst ed
      cases h3 with
      | lst hs nn tt =>
        obtain ⟨g', f', stk⟩ := stk_of hs (by omega) (by omega) tt
        exact z _ g' f' H3 (fun b o e => f3.keep b o (s2 b o (sm1 b o e)) (fun z => nomatch z)) stk
theorem ok__law_pick (F : Fun K "_law_pick" "_law_pick" s__law_pick f fd) (g : Gb mg) (h__law_draw : Has P w K mg base 1 "_law_draw" p__law_draw (PS C_draw R_draw)) : FnOk P w K mg base CX0 2 f fd p__law_pick (PS C_pick R_pick) := by
  obtain ⟨m_isinstance, m_int, m_bool, m_tuple, m_len, m_enumerate, m_sum, m_range, m_list, m_repr, m_sorted, m_zip, m_min, m_max, m_any, m_abs, m_str⟩ := g
  have nd := sc__law_pick.nd
  refine F.ok sc__law_pick (ps_len fun ds ⟨d, es, e, _⟩ => by rw [e]; rfl) fun cdv A outer sh H vs Q E hr h => ⟨_, (pss_one (ps_ret (pe_ix (show IxR _ (fun x y H Q => rIxL K x y H Q ∨ rIxT K x y H Q) from ix_list.or ix_tup) (pv 1) (pe_h h__law_draw hr (by rfl) (pa_cons (pv 0) (pa_cons (pe_callB (show CallR _ _ (rLenK K) from call_len_seq) (by rfl) m_len PySem.boot_len (pa_cons (pv 1) pa_nil)) pa_nil))) (fun _ _ => rfl)))), enterS h fun s g f A ds ⟨d, es, e, hs, hne, hl⟩ => ?_⟩
  subst e
  have hpos : 0 < es.length := List.length_pos_iff.mpr hne
  refine sq_ret (ev_ix (ev_var rfl (ev_callS rfl (eva_one (ev_len (eva_one (ev_var rfl ⟨d, es, rfl, hs, ⟨_, rfl, by omega, by omega⟩, fun r hr => ?_⟩)))))))
  obtain ⟨i, rfl, i1, i2⟩ := hr
  have e : i = ((i.toNat : Nat) : Int) := by omega
  have hi : i.toNat < es.length := by omega
  refine ⟨es, i, es[i.toNat], hs, rfl, ?_, es, hs, List.getElem_mem hi⟩
  have q := atD_nat (List.getElem?_eq_getElem hi)
  rw [← e] at q
  exact q

/-! ### orders -/
theorem ok__law_mixed_d (F : Fun K "_law_mixed" "_law_mixed" s__law_mixed f fd) (g : Gb mg) (h__law_draw : Has P w K mg base 1 "_law_draw" p__law_draw (PS C_draw R_draw)) : FnOk P w K mg base CX0 2 f fd p__law_mixed (PS C_mxd R_mxd) := by
  obtain ⟨m_isinstance, m_int, m_bool, m_tuple, m_len, m_enumerate, m_sum, m_range, m_list, m_repr, m_sorted, m_zip, m_min, m_max, m_any, m_abs, m_str⟩ := g
  have nd := sc__law_mixed.nd
  refine F.ok sc__law_mixed (ps_len fun ds ⟨_, _, e, _⟩ => by rw [e]; rfl) fun cdv A outer sh H vs Q E hr h => ⟨_, (pss_cons (ps_par (i := 2) (j := 3) rfl nd rfl rfl (by decide) rfl rfl (pa_cons (pe_callTy call_list_of (by rfl) m_list (by decide +kernel) (pa_cons (pv 1) pa_nil)) (pa_cons (pe_lst pa_nil) pa_nil)) rfl)
      (pss_cons (ps_while PassesOwn.never (pt_cmpR (show OpR _ _ (rNeD K) from op_neD hr.units) (pv 2) (pe_lst pa_nil) (nomark _))
        (pss_one (ps_expr (pe_bm PySem.F.plainAttrs_list PySem.F.slot_list_append PySem.F.type_list_append mt_append (pv 3) (pa_cons (pe_bm PySem.F.plainAttrs_list PySem.F.slot_list_pop PySem.F.type_list_pop mt_popAt (pv 2) (pa_cons (pe_h h__law_draw hr (by rfl) (pa_cons (pv 0) (pa_cons (pe_callB (show CallR _ _ (rLenK K) from call_len_seq) (by rfl) m_len PySem.boot_len (pa_cons (pv 2) pa_nil)) pa_nil))) pa_nil)) pa_nil)))))
      (pss_one (ps_ret (pv 3))))), enterS h fun s g f A ds ⟨d, ns, e, se, hl, hf⟩ => ?_⟩
  subst e
  refine sq_seq <| sq_parMM (by decide) <| evn_listOf <| eva_one <| ev_var rfl ⟨_, ns, rfl, se, fun t nt => evn_lst <| eva_nil ⟨by simp, fun u nu => ?_⟩⟩
  refine sq_seq <| sq_while (fun j Δ' => ∃ rest found : List PyData, Δ' = [.v (.ref s), .d d, .m t rest, .m u found] ∧ (rest ++ found).Perm ns ∧ rest.length = j) (m0 := ns.length) ⟨ns, [], rfl, by rw [List.append_nil], rfl⟩ fun j Δ' ⟨rest, found, hΔ, hp, hj⟩ hmm => ?_
  subst hΔ
  have hlen : rest.length + found.length = ns.length := by
    have := hp.length_eq
    rw [List.length_append] at this
    exact this
  have fr : ∀ e ∈ rest, Flat e := fun e he => hf e (hp.mem_iff.mp (List.mem_append_left _ he))
  refine evt_val <| ev_neDM (t := t) (ds := rest) rfl <| ev_lst <| eva_nil ⟨by simp, flat_shaped fr, shaped_ints [], _, rfl, fun e1 => ?_, fun e1 => ?_⟩
  · have hne : rest ≠ [] := fun z => by
      rw [eqv_nil_list, z] at e1
      cases e1
    have hpos := List.length_pos_iff.mpr hne
    refine sq_appendPop (t := u) (u := t) (ds := found) (es := rest) rfl rfl (by decide) <| ev_callS rfl <| eva_one <| ev_lenM (t := t) (ds := rest) rfl ⟨⟨_, rfl, by omega, by omega⟩, fun r hr => ?_⟩
    obtain ⟨c, rfl, c1, c2⟩ := hr
    have ec : c = ((c.toNat : Nat) : Int) := by omega
    have hc : c.toNat < rest.length := by omega
    have hx : rest[c.toNat]? = some rest[c.toNat] := List.getElem?_eq_getElem hc
    refine ⟨c.toNat, by rw [← ec], by omega, by omega, rest[c.toNat], hx, ?_⟩
    refine back0 (A' := u :: t :: A) (.refl _) (own_set (Δ := [.v (.ref s), .d d, .m t (rest.eraseIdx c.toNat), .m u found]) (i := 3) rfl (own_set (Δ := [.v (.ref s), .d d, .m t rest, .m u found]) (i := 2) rfl hmm)) ⟨(rest.eraseIdx c.toNat).length, ?_, rest.eraseIdx c.toNat, found ++ [rest[c.toNat]], rfl, ?_, rfl⟩
    · rw [List.length_eraseIdx, if_pos hc]
      omega
    · have pp := perm_pop' hx
      refine List.Perm.trans ?_ ((pp.append_right found).trans hp)
      rw [← List.append_assoc]
      refine (List.perm_append_singleton _ _).trans ?_
      rw [List.cons_append]
  · have hne : rest = [] := by
      rw [eqv_nil_list] at e1
      cases rest with
      | nil => rfl
      | cons x r => cases e1
    subst hne
    exact sq_retM (t := u) (ds := found) rfl ⟨ns, found, se, rfl, hp⟩
theorem ok__law_mixed (F : Fun K "_law_mixed" "_law_mixed" s__law_mixed f fd) (g : Gb mg) (h__law_draw : Has P w K mg base 1 "_law_draw" p__law_draw (PS C_draw R_draw)) : FnOk P w K mg base CX0 2 f fd p__law_mixed (PS C_mix R_mix) := mix_of (ok__law_mixed_d F g h__law_draw)
theorem ok__law_order (F : Fun K "_law_order" "_law_order" s__law_order f fd) (g : Gb mg) (h__law_draw : Has P w K mg base 1 "_law_draw" p__law_draw (PS C_draw R_draw)) (h__law_mixed : Has P w K mg base 2 "_law_mixed" p__law_mixed (PS C_mix R_mix)) :
    FnOk P w K mg base CX0 3 f fd p__law_order (PS C_ordr R_ordr) := by
  obtain ⟨m_isinstance, m_int, m_bool, m_tuple, m_len, m_enumerate, m_sum, m_range, m_list, m_repr, m_sorted, m_zip, m_min, m_max, m_any, m_abs, m_str⟩ := g
  have nd := sc__law_order.nd
  refine F.ok sc__law_order (ps_len fun ds ⟨m, e, _⟩ => by rw [e]; rfl) fun cdv A outer sh H vs Q E hr h => ⟨_, (pss_cons (ps_par (i := 2) (j := 3) rfl nd rfl rfl (by decide) rfl rfl (pa_cons (pe_h h__law_mixed hr (by rfl) (pa_cons (pv 0) (pa_cons (pe_listRg rfl (by rfl) m_list (prg_1 (by rfl) m_range (pv 1))) pa_nil))) (pa_cons (pe_h h__law_draw (hr.mono (by decide)) (by rfl) (pa_cons (pv 0) (pa_cons pe_int pa_nil))) pa_nil)) rfl)
      (pss_cons (ps_if (pt_cmpR op_eq (pv 3) pe_int (nomark _))
        (pss_one (ps_ret (pe_callTy call_tuple_of (by rfl) m_tuple (by decide +kernel) (pa_cons (pe_lc (own := [("cell", 4)]) (g := gName 4) (tt := tYes) rfl nd (pi_list (pv 2)) (blkOk_by (N := N__law_order) (sc := defScope s__law_order) (by decide +kernel)) (fun _ _ _ _ _ => (pg_name (i := 4) nd rfl (Or.inl rfl))) (fun _ _ _ _ _ => pts_nil) (fun _ _ _ _ _ => (pe_tup (pa_cons (pv 4) pa_nil)))) pa_nil))))
        pss_nil)
      (pss_cons (ps_set (i := 5) nd rfl (Or.inl rfl) (pe_lst pa_nil))
      (pss_cons (ps_for PassesOwn.never rfl (pi_list (pv 2)) (pg_name (i := 4) nd rfl (Or.inl rfl))
        (pss_one (ps_if (PW.pt (pw_and (pt_cmpR (show OpR _ _ (rNeD K) from op_neD hr.units) (pv 5) (pe_lst pa_nil) (nomark _)) (pw_and1 (pt_cmpR op_gt (pe_h h__law_draw (hr.mono (by decide)) (by rfl) (pa_cons (pv 0) (pa_cons (pe_op op_add pe_int (pv 3)) pa_nil))) pe_int (nomark _)))))
          (pss_one (ps_asg (pe_callTy call_tuple_of (by rfl) m_tuple (by decide +kernel) (pa_cons (pe_callB (show CallR _ _ (rSortT K) from cr_sortT) (by rfl) m_sorted (by decide +kernel) (pa_cons (pe_op (show OpR _ _ (rCatA K) from op_catA) (pe_ix (show IxR _ (fun x y H Q => rIxL K x y H Q ∨ rIxT K x y H Q) from ix_list.or ix_tup) (pv 5) (pe_un un_neg pe_int) (fun _ _ => rfl)) (pe_tup (pa_cons (pv 4) pa_nil))) pa_nil)) pa_nil)) (pg_sub (pv 5) (pe_un un_neg pe_int) set_list)))
          (pss_one (ps_expr (pe_bm PySem.F.plainAttrs_list PySem.F.slot_list_append PySem.F.type_list_append mt_append (pv 5) (pa_cons (pe_tup (pa_cons (pv 4) pa_nil)) pa_nil)))))))
      (pss_one (ps_ret (pe_callTy call_tuple_of (by rfl) m_tuple (by decide +kernel) (pa_cons (pv 5) pa_nil)))))))), enterS h fun s g f A ds ⟨m, e, m1, m2⟩ => ?_⟩
  subst e
  have e0 : rngD m = ((List.range m.toNat).map fun k => ((k : Nat) : Int)).map .int := by
    unfold rngD
    rw [List.map_map] <;> rfl
  refine sq_seq <| sq_par <| eva_cons <| ev_callS rfl <| eva_one <| EvN.ev <| evn_lstRg <| ev_var rfl ⟨m, rfl, by omega, by omega, ⟨_, by rw [e0], by rw [List.length_map, List.length_range]; omega⟩, fun r hr => eva_one <| ev_callS rfl <| eva_one <| ev_int ⟨⟨4, rfl, by decide, by decide⟩, fun r2 hr2 => ⟨_, _, rfl, ?_⟩⟩⟩
  obtain ⟨ns, cs, en, rfl, hp⟩ := hr
  obtain ⟨way, rfl, w1, w2⟩ := hr2
  have en' : ns = (List.range m.toNat).map fun k => ((k : Nat) : Int) := by
    rw [e0] at en
    have inj : ∀ a b : List Int, a.map PyData.int = b.map PyData.int → a = b := fun a => by
      induction a with
      | nil => intro b h; cases b with
        | nil => rfl
        | cons y r => cases h
      | cons x r ih => intro b h; cases b with
        | nil => cases h
        | cons y r' =>
          rw [List.map_cons, List.map_cons] at h
          injection h with h1 h2
          rw [PyData.int.inj h1, ih r' h2]
    exact (inj _ _ en).symm
  subst en'
  have cl : cs.length = m.toNat := by rw [hp.length_eq, List.length_map, List.length_range]
  have cnd : cs.Nodup := hp.nodup_iff.mpr (by
    refine List.pairwise_map.mpr (List.nodup_range.imp fun {a b} (h : a ≠ b) => ?_)
    show (a : Int) ≠ (b : Int)
    omega)
  refine sq_seq <| sq_if <| evt_val <| ev_eq <| ev_var rfl <| ev_int ⟨_, rfl, _, rfl, fun _ => ?_, fun _ => ?_⟩
  · refine sq_ret <| ev_tupleOf <| eva_one <| EvN.ev <| evn_map (tg_name 4) (by simp) (fun d => .tuple [d]) <| evi_list <| ev_var rfl ⟨_, rfl, by rw [List.length_map]; omega, fun d hd p np => ⟨_, rfl, ev_tup <| eva_one <| ev_var rfl ⟨by simp, rfl⟩⟩, _, _, rfl, rfl, cs.map fun n => [n], ?_, ?_, ?_⟩
    · rw [List.map_map]
      show _ = PyData.tuple ((cs.map fun n => [n]).map fun ns => .tuple (ns.map .int))
      rw [List.map_map] <;> rfl
    · rw [flat_one]
      exact hp
    · intro ns hns
      obtain ⟨n, _, rfl⟩ := List.mem_map.mp hns
      exact ⟨by simp, List.pairwise_singleton _ _⟩
  refine sq_next <| sq_seq <| sq_setM <| evn_lst <| eva_nil ⟨by simp, fun t nt => ?_⟩
  refine sq_seq <| sq_for (tg_name 4) <| evi_list <| ev_var rfl ⟨_, rfl, fun i Δ' => ∃ nss : List (List Int), Δ' = [.v (.ref s), .d (.int m), .d (.list (cs.map .int)), .d (.int way), .no, .m t (blks nss)] ∧ nss.flatten.Perm (cs.take i) ∧ ∀ ns ∈ nss, ns ≠ [] ∧ ns.Pairwise (· < ·), ⟨[], rfl, by simp, fun _ z => nomatch z⟩, fun i e Δ' he ⟨nss, hΔ, hp2, hok⟩ hmm => ?_, fun Δ' ⟨nss, hΔ, hp2, hok⟩ => ?_⟩
  · obtain ⟨c, hc, rfl⟩ : ∃ c, cs[i]? = some c ∧ e = .int c := by
      rw [List.getElem?_map] at he
      cases q : cs[i]? with
      | none => rw [q] at he; cases he
      | some c => rw [q] at he; cases he; exact ⟨c, rfl, rfl⟩
    subst hΔ
    have hi := (List.getElem?_eq_some_iff.mp hc).1
    have tk : cs.take (i + 1) = cs.take i ++ [c] := by rw [List.take_add_one, hc] <;> rfl
    have hlen : nss.length ≤ cs.length := by
      have h1 := flat_len nss fun ns h => (hok ns h).1
      have h2 := hp2.length_eq
      rw [List.length_take] at h2
      omega
    have put : ∀ nss2 : List (List Int), nss2.flatten.Perm (cs.take (i + 1)) → (∀ ns ∈ nss2, ns ≠ [] ∧ ns.Pairwise (· < ·)) →
        Back (t :: A) (fun Δ' => ∃ nss : List (List Int), Δ' = [.v (.ref s), .d (.int m), .d (.list (cs.map .int)), .d (.int way), .no, .m t (blks nss)] ∧ nss.flatten.Perm (cs.take (i + 1)) ∧ ∀ ns ∈ nss, ns ≠ [] ∧ ns.Pairwise (· < ·)) (t :: A)
          [.v (.ref s), .d (.int m), .d (.list (cs.map .int)), .d (.int way), .d (.int c), .m t (blks nss2)] := fun nss2 q1 q2 =>
      back0 (Δ0 := [.v (.ref s), .d (.int m), .d (.list (cs.map .int)), .d (.int way), .no, .m t (blks nss2)]) (.set (Δ := [.v (.ref s), .d (.int m), .d (.list (cs.map .int)), .d (.int way), .no, .m t (blks nss2)]) (j := 4) (.refl _) (.inl rfl))
        (own_set (Δ := [.v (.ref s), .d (.int m), .d (.list (cs.map .int)), .d (.int way), .no, .m t (blks nss)]) (i := 5) rfl hmm) ⟨nss2, rfl, q1, q2⟩
    have single : Sq (FS s g f) (t :: A) [.v (.ref s), .d (.int m), .d (.list (cs.map .int)), .d (.int way), .d (.int c), .m t (blks nss)] (tDrop (tBM K "list" rAppend (tVar 5) (tCons (tTup (tCons (tVar 4) tNil)) tNil)))
        { nx := Back (t :: A) (fun Δ' => ∃ nss : List (List Int), Δ' = [.v (.ref s), .d (.int m), .d (.list (cs.map .int)), .d (.int way), .no, .m t (blks nss)] ∧ nss.flatten.Perm (cs.take (i + 1)) ∧ ∀ ns ∈ nss, ns ≠ [] ∧ ns.Pairwise (· < ·)), rt := R_ordr [.int m] } := by
      refine sq_append (t := t) (ds := blks nss) rfl <| ev_tup <| eva_one <| ev_var rfl ⟨by simp, by rw [List.length_map]; omega, ?_⟩
      have q := put (nss ++ [[c]]) (by rw [List.flatten_append, tk]; exact hp2.append_right [c]) fun ns hns => by
        rcases List.mem_append.mp hns with h | h
        · exact hok ns h
        · rw [List.mem_singleton.mp h]
          exact ⟨by simp, List.pairwise_singleton _ _⟩
      rw [blks_app] at q
      exact q
    refine ⟨_, rfl, sq_if <| evt_and <| evt_val <| ev_neDM (t := t) (ds := blks nss) rfl <| ev_lst <| eva_nil ⟨by simp, shaped_blocks nss, shaped_ints [], _, rfl, fun e1 => ?_, fun e1 => ⟨(fun z => nomatch z), fun _ => ?_⟩⟩⟩
    · have hne : nss ≠ [] := fun z => by
        rw [eqv_nil_blocks, z] at e1
        cases e1
      refine evt_val <| ev_ib <| ev_callS rfl <| eva_one <| ev_ii <| ev_int <| ev_var rfl ⟨1, way, rfl, rfl, ⟨_, rfl, by omega, by omega⟩, fun r hr => ?_⟩
      obtain ⟨x, rfl, x1, x2⟩ := hr
      refine ev_int ⟨_, _, rfl, rfl, _, rfl, fun _ => ?_, fun _ => single.imp (fun _ _ _ h => h) (fun _ h => h) (fun _ _ _ h => h.elim) (fun _ _ _ h => h.elim)⟩
      obtain ⟨r, ns, rfl⟩ : ∃ r ns, nss = r ++ [ns] := ⟨nss.dropLast, nss.getLast hne, (List.dropLast_concat_getLast hne).symm⟩
      have nsl : ns.length ≤ cs.length := by
        have h2 := hp2.length_eq
        rw [List.flatten_append, List.length_append, List.length_take] at h2
        simp at h2
        omega
      have hix : ixN (blks (r ++ [ns])).length (-1) = some r.length := by
        rw [blks_len, List.length_append, List.length_singleton]
        unfold ixN
        rw [if_neg (by omega), if_pos (by omega)]
        refine congrArg some ?_
        omega
      have hat : atD (blks (r ++ [ns])) (-1) = some (.tuple (ns.map .int)) := by
        unfold atD
        rw [hix]
        show (blks (r ++ [ns]))[r.length]? = _
        rw [blks_app, List.getElem?_append_right (by rw [blks_len]; exact Nat.le_refl _), blks_len, Nat.sub_self] <;> rfl
      refine sq_storeM (t := t) (ds := blks (r ++ [ns])) rfl <| ev_tupleOf <| eva_one <| EvN.ev <| evn_sortT <| eva_one <| ev_catT <| ev_ixM (t := t) (ds := blks (r ++ [ns])) rfl <| ev_neg <| ev_int ⟨1, rfl, _, _, rfl, hat, ev_tup <| eva_one <| ev_var rfl ⟨by simp, ns.map .int, [.int c], rfl, rfl, by simp; omega, ns ++ [c], by rw [List.map_append] <;> rfl, by simp; omega, fun ms pm pw => ⟨_, _, rfl, rfl, ev_neg <| ev_int ⟨1, rfl, _, _, rfl, hix, ?_⟩⟩⟩⟩
      have hst : (blks (r ++ [ns])).set r.length (.tuple (ms.map .int)) = blks (r ++ [ms]) := by
        rw [blks_app, List.set_append_right _ _ (by rw [blks_len]; exact Nat.le_refl _), blks_len, Nat.sub_self, blks_app] <;> rfl
      have pf : (r ++ [ms]).flatten.Perm (cs.take (i + 1)) := by
        rw [tk, List.flatten_append, List.flatten_singleton]
        rw [List.flatten_append, List.flatten_singleton] at hp2
        refine (pm.append_left r.flatten).trans ?_
        rw [← List.append_assoc]
        exact hp2.append_right [c]
      have q := put (r ++ [ms]) pf fun x hx => by
        rcases List.mem_append.mp hx with h | h
        · exact hok x (List.mem_append_left _ h)
        · rw [List.mem_singleton.mp h]
          refine ⟨fun z => ?_, lt_of_le ms pw ?_⟩
          · have h2 := pm.length_eq
            rw [z] at h2
            simp at h2
          · have n1 : (r ++ [ms]).flatten.Nodup := pf.nodup_iff.mpr (cnd.sublist (List.take_sublist _ _))
            rw [List.flatten_append, List.flatten_singleton] at n1
            exact (List.nodup_append.mp n1).2.1
      show Back (t :: A) _ (t :: A) [.v (.ref s), .d (.int m), .d (.list (cs.map .int)), .d (.int way), .d (.int c), .m t ((blks (r ++ [ns])).set r.length (.tuple (ms.map .int)))]
      rw [hst]
      exact q
    · exact single.imp (fun _ _ _ h => h) (fun _ h => h) (fun _ _ _ h => h.elim) (fun _ _ _ h => h.elim)
  · subst hΔ
    rw [List.length_map, List.take_length] at hp2
    exact sq_ret <| ev_tupleOfM (t := t) (ds := blks nss) rfl ⟨nss, rfl, hp2.trans hp, hok⟩
/-! ### rows, books -/
theorem ok__law_row (F : Fun K "_law_row" "_law_row" s__law_row f fd) (g : Gb mg) (h__law_draw : Has P w K mg base 1 "_law_draw" p__law_draw (PS C_draw R_draw)) (h__law_pick : Has P w K mg base 2 "_law_pick" p__law_pick (PS C_pick R_pick)) : FnOk P w K mg base CX0 3 f fd p__law_row (PS C_drow R_drow) := by
  obtain ⟨m_isinstance, m_int, m_bool, m_tuple, m_len, m_enumerate, m_sum, m_range, m_list, m_repr, m_sorted, m_zip, m_min, m_max, m_any, m_abs, m_str⟩ := g
  have nd := sc__law_row.nd
  refine F.ok sc__law_row (ps_len fun ds ⟨d, e, _⟩ => by rw [e]; rfl) fun cdv A outer sh H vs Q E hr h => ⟨_, (pss_cons (ps_set (i := 2) nd rfl (Or.inl rfl) (pe_h h__law_draw (hr.mono (by decide)) (by rfl) (pa_cons (pv 0) (pa_cons pe_int pa_nil))))
      (pss_cons (ps_if (pt_cmpR op_eq (pv 2) pe_int (nomark _))
        (pss_one (ps_ret (pe_op op_repA (pe_tup (pa_cons pe_int pa_nil)) (pv 1))))
        pss_nil)
      (pss_cons (ps_if (pt_cmpR op_eq (pv 2) pe_int (nomark _))
        (pss_cons (ps_set (i := 3) nd rfl (Or.inr rfl) (pe_h h__law_draw (hr.mono (by decide)) (by rfl) (pa_cons (pv 0) (pa_cons (pv 1) pa_nil))))
        (pss_one (ps_ret (pe_callTy call_tuple_of (by rfl) m_tuple (by decide +kernel) (pa_cons (pe_lc (own := [("cell", 5)]) (g := gName 5) (tt := tYes) rfl nd (pi_range1 (by rfl) m_range (pa_cons (pv 1) pa_nil)) (blkOk_by (N := N__law_row) (sc := defScope s__law_row) (by decide +kernel)) (fun _ _ _ _ _ => (pg_name (i := 5) nd rfl (Or.inl rfl))) (fun _ _ _ _ _ => pts_nil) (fun _ _ _ _ _ => (pe_ifExp (pt_cmpR op_eq (pv 5) (pv 3) (nomark _)) (pe_h h__law_pick hr (by rfl) (pa_cons (pv 0) (pa_cons (pe_lst (pa_cons (pe_un un_neg pe_int) (pa_cons pe_int (pa_cons pe_int (pa_cons (pe_un un_neg pe_int) pa_nil))))) pa_nil))) pe_int))) pa_nil)))))
        pss_nil)
      (pss_cons (ps_set (i := 4) nd rfl (Or.inr rfl) (pe_h h__law_pick hr (by rfl) (pa_cons (pv 0) (pa_cons (pe_lst (pa_cons pe_int (pa_cons pe_int (pa_cons pe_int (pa_cons pe_int pa_nil))))) pa_nil))))
      (pss_one (ps_ret (pe_callTy call_tuple_of (by rfl) m_tuple (by decide +kernel) (pa_cons (pe_lc (own := [("cell", 5)]) (g := gName 5) (tt := tYes) rfl nd (pi_range1 (by rfl) m_range (pa_cons (pv 1) pa_nil)) (blkOk_by (N := N__law_row) (sc := defScope s__law_row) (by decide +kernel)) (fun _ _ _ _ _ => (pg_name (i := 5) nd rfl (Or.inl rfl))) (fun _ _ _ _ _ => pts_nil) (fun _ _ _ _ _ => (pe_op op_sub (pe_h h__law_draw (hr.mono (by decide)) (by rfl) (pa_cons (pv 0) (pa_cons (pe_op op_add (pe_op op_mul pe_int (pv 4)) pe_int) pa_nil))) (pv 4)))) pa_nil)))))))), enterS h fun s g f A ds ⟨m, e, m1, m2⟩ => ?_⟩
  subst e
  have rl : (rngD m).length = m.toNat := by
    unfold rngD
    rw [List.length_map, List.length_range]
  refine sq_seq (sq_set (ev_callS rfl (eva_one (ev_int ⟨⟨6, rfl, by decide, by decide⟩, fun r hr => ?_⟩))))
  obtain ⟨way, rfl, w1, w2⟩ := hr
  refine sq_seq (sq_if (evt_val (ev_eq (ev_var rfl (ev_int ⟨_, rfl, _, rfl, fun _ => ?_, fun _ => ?_⟩)))))
  · refine sq_ret (ev_repT (ev_tup (eva_one (ev_int ⟨by simp, ev_var rfl ⟨[.int 0], m, rfl, rfl, by simp, m1, by omega, by simp, ?_⟩⟩))))
    show rowOk m _ = true
    rw [rep_flat]
    refine rowOk_of (by rw [List.length_replicate]; omega) fun x hx => ?_
    rw [List.eq_of_mem_replicate hx]
    rfl
  refine sq_next (sq_seq (sq_if (evt_val (ev_eq (ev_var rfl (ev_int ⟨_, rfl, _, rfl, fun _ => ?_, fun _ => ?_⟩))))))
  · refine sq_seq (sq_set (ev_callS rfl (eva_one (ev_var rfl ⟨⟨m, rfl, by omega, by omega⟩, fun r hr => ?_⟩))))
    obtain ⟨place, rfl, p1, p2⟩ := hr
    refine sq_ret (ev_tupleOf (eva_one (EvN.ev (evn_each (tg_name 5) (by simp) (fun d => isWh (-99) 99 d = true) (evi_rng1 (eva_one (ev_var rfl ⟨m, rfl, by omega, by omega, by rw [rl]; omega, fun d hd p np => ?_, fun ys hy hP => ⟨_, ys, rfl, rfl, rowOk_of (by rw [hy, rl]; omega) hP⟩⟩)))))))
    obtain ⟨c, _, rfl⟩ := List.mem_map.mp hd
    refine ⟨_, rfl, ev_if (evt_val (ev_eq (ev_var rfl (ev_var rfl ⟨_, rfl, _, rfl, fun _ => ?_, fun _ => ?_⟩))))⟩
    · refine ev_callS rfl <| eva_one <| ev_lst <| eva_cons <| ev_neg <| ev_int ⟨99, rfl, eva_cons <| ev_int <| eva_cons <| ev_int <| eva_one <| ev_neg <| ev_int ⟨5, rfl, by simp, ⟨_, _, rfl, rfl, by simp, by simp⟩, fun r hr => ?_⟩⟩
      obtain ⟨es, ee, hr⟩ := hr
      cases ee
      simp only [List.mem_cons, List.not_mem_nil, or_false] at hr
      rcases hr with rfl | rfl | rfl | rfl <;> rfl
    · exact ev_int rfl
  refine sq_next <| sq_seq <| sq_set <| ev_callS rfl <| eva_one <| ev_lst <| eva_cons <| ev_int <| eva_cons <| ev_int <| eva_cons <| ev_int <| eva_one <| ev_int ⟨by simp, ⟨_, _, rfl, rfl, by simp, by simp⟩, fun r hr => ?_⟩
  obtain ⟨most, rfl, o1, o2⟩ : ∃ most : Int, r = .int most ∧ 1 ≤ most ∧ most ≤ 99 := by
    obtain ⟨es, ee, hr⟩ := hr
    cases ee
    simp only [List.mem_cons, List.not_mem_nil, or_false] at hr
    rcases hr with rfl | rfl | rfl | rfl <;> exact ⟨_, rfl, by decide, by decide⟩
  refine sq_ret (ev_tupleOf (eva_one (EvN.ev (evn_each (tg_name 5) (by simp) (fun d => isWh (-99) 99 d = true) (evi_rng1 (eva_one (ev_var rfl ⟨m, rfl, by omega, by omega, by rw [rl]; omega, fun d hd p np => ?_, fun ys hy hP => ⟨_, ys, rfl, rfl, rowOk_of (by rw [hy, rl]; omega) hP⟩⟩)))))))
  obtain ⟨c, _, rfl⟩ := List.mem_map.mp hd
  refine ⟨_, rfl, ev_ii (ev_callS rfl (eva_one (ev_ii (ev_iic (ev_int (ev_var rfl ⟨2, most, rfl, rfl, ?_, ev_int ⟨_, _, rfl, rfl, ⟨_, rfl, by omega, by omega⟩, fun r hr => ?_⟩⟩))))))⟩
  · exact .inl ⟨by omega, by omega⟩
  · obtain ⟨y, rfl, y1, y2⟩ := hr
    refine ev_var rfl ⟨_, _, rfl, rfl, isWh_of (by omega) (by omega)⟩
theorem ok__law_book (F : Fun K "_law_book" "_law_book" s__law_book f fd) (g : Gb mg) (h__law_draw : Has P w K mg base 1 "_law_draw" p__law_draw (PS C_draw R_draw)) (h__law_pick : Has P w K mg base 2 "_law_pick" p__law_pick (PS C_pick R_pick))
    (h__law_row : Has P w K mg base 3 "_law_row" p__law_row (PS C_drow R_drow)) : FnOk P w K mg base CX0 4 f fd p__law_book (PS C_book R_book) := by
  obtain ⟨m_isinstance, m_int, m_bool, m_tuple, m_len, m_enumerate, m_sum, m_range, m_list, m_repr, m_sorted, m_zip, m_min, m_max, m_any, m_abs, m_str⟩ := g
  have nd := sc__law_book.nd
  refine F.ok sc__law_book (ps_len fun ds ⟨c, r, e, _⟩ => by rw [e]; rfl) fun cdv A outer sh H vs Q E hr h => ⟨_, (pss_cons (ps_set (i := 3) nd rfl (Or.inl rfl) (pe_op op_add pe_int (pe_h h__law_draw (hr.mono (by decide)) (by rfl) (pa_cons (pv 0) (pa_cons (pv 1) pa_nil)))))
      (pss_cons (ps_par (i := 4) (j := 5) rfl nd rfl rfl (by decide) rfl rfl (pa_cons (pe_lst pa_nil) (pa_cons (pe_callTy call_tuple_of (by rfl) m_tuple (by decide +kernel) (pa_cons (pe_lc (own := [("cell", 9)]) (g := gName 9) (tt := tYes) rfl nd (pi_range1 (by rfl) m_range (pa_cons (pv 3) pa_nil)) (blkOk_by (N := N__law_book) (sc := defScope s__law_book) (by decide +kernel)) (fun _ _ _ _ _ => (pg_name (i := 9) nd rfl (Or.inl rfl))) (fun _ _ _ _ _ => pts_nil) (fun _ _ _ _ _ => (pe_op op_sub (pe_h h__law_draw (hr.mono (by decide)) (by rfl) (pa_cons (pv 0) (pa_cons pe_int pa_nil))) pe_int))) pa_nil)) pa_nil)) rfl)
      (pss_cons (ps_for PassesOwn.never rfl (pi_range1 (by rfl) m_range (pa_cons (pe_h h__law_draw (hr.mono (by decide)) (by rfl) (pa_cons (pv 0) (pa_cons (pe_op op_add (pv 2) pe_int) pa_nil))) pa_nil)) (pg_name (i := 6) nd rfl (Or.inl rfl))
        (pss_cons (ps_set (i := 7) nd rfl (Or.inr rfl) (pe_op op_sub (pe_h h__law_draw (hr.mono (by decide)) (by rfl) (pa_cons (pv 0) (pa_cons pe_int pa_nil))) pe_int))
        (pss_cons (ps_set (i := 8) nd rfl (Or.inl rfl) (pe_lst (pa_cons (pe_h h__law_row hr (by rfl) (pa_cons (pv 0) (pa_cons (pv 3) pa_nil))) (pa_cons (pe_h h__law_row hr (by rfl) (pa_cons (pv 0) (pa_cons (pv 3) pa_nil))) (pa_cons (pe_callTy call_tuple_of (by rfl) m_tuple (by decide +kernel) (pa_cons (pe_lc (own := [("item", 10)]) (g := gName 10) (tt := tYes) rfl nd (pi_tup (pv 5)) (blkOk_by (N := N__law_book) (sc := defScope s__law_book) (by decide +kernel)) (fun _ _ _ _ _ => (pg_name (i := 10) nd rfl (Or.inl rfl))) (fun _ _ _ _ _ => pts_nil) (fun _ _ _ _ _ => (pe_op op_mul (pv 7) (pv 10)))) pa_nil)) pa_nil)))))
        (pss_one (ps_expr (pe_bm PySem.F.plainAttrs_list PySem.F.slot_list_append PySem.F.type_list_append mt_append (pv 4) (pa_cons (pe_h h__law_pick (hr.mono (by decide)) (by rfl) (pa_cons (pv 0) (pa_cons (pe_op op_cat (pv 8) (pe_slice sl_list (pv 4) (po_some (pe_un un_neg pe_int)) po_none)) pa_nil))) pa_nil)))))))
      (pss_one (ps_ret (pe_tup (pa_cons (pv 3) (pa_cons (pe_callTy call_tuple_of (by rfl) m_tuple (by decide +kernel) (pa_cons (pv 4) pa_nil)) pa_nil)))))))), enterS h fun s g f A ds ⟨c, r, e, c1, c2, r1, r2⟩ => ?_⟩
  subst e
  refine sq_seq <| sq_set <| ev_ii <| ev_int <| ev_callS rfl <| eva_one <| ev_var rfl ⟨⟨c, rfl, by omega, by omega⟩, fun d hd => ?_⟩
  obtain ⟨dr, rfl, d1, d2⟩ := hd
  refine ⟨1, dr, rfl, rfl, ?_⟩
  dsimp only
  generalize hm : (1 : Int) + dr = m
  have m1 : 1 ≤ m := by omega
  have m2 : m ≤ c := by omega
  have rl : (rngD m).length = m.toNat := by
    unfold rngD
    rw [List.length_map, List.length_range]
  refine sq_seq <| sq_parM (by decide) <| evn_lst <| eva_nil ⟨by simp, fun t nt => ev_tupleOf <| eva_one <| EvN.ev <| evn_each (tg_name 9) (by simp) (fun d => isWh (-3) 3 d = true) <| evi_rng1 <| eva_one <| ev_var rfl ⟨m, rfl, by omega, by omega, by rw [rl]; omega, fun d hd p np => ?_, fun ys hy hP => ⟨_, ys, rfl, rfl, ?_⟩⟩⟩
  · obtain ⟨cc, _, rfl⟩ := List.mem_map.mp hd
    refine ⟨_, rfl, ev_ii <| ev_callS rfl <| eva_one <| ev_int ⟨⟨7, rfl, by decide, by decide⟩, fun d hd => ?_⟩⟩
    obtain ⟨y, rfl, y1, y2⟩ := hd
    exact ev_int ⟨_, _, rfl, rfl, isWh_of (by omega) (by omega)⟩
  refine sq_seq <| sq_for (tg_name 6) <| evi_rng1 <| eva_one <| ev_callS rfl <| eva_one <| ev_ii <| ev_var rfl <| ev_int ⟨r, 1, rfl, rfl, ⟨r + 1, rfl, by omega, by omega⟩, fun d hd => ?_⟩
  obtain ⟨n, rfl, n1, n2⟩ := hd
  have nl : (rngD n).length = n.toNat := by
    unfold rngD
    rw [List.length_map, List.length_range]
  refine ⟨n, rfl, by omega, by omega, fun i Δ' => ∃ found, Δ' = [.v (.ref s), .d (.int c), .d (.int r), .d (.int m), .m t found, .d (.tuple ys), .no, .no, .no, .no, .no] ∧ found.length = i ∧ ∀ x ∈ found, rowOk m x = true, ⟨[], rfl, rfl, fun _ z => nomatch z⟩, fun i e Δ' he ⟨found, hΔ, hl, hb⟩ hmm => ?_, fun Δ' ⟨found, hΔ, hl, hb⟩ => ?_⟩
  · subst hΔ
    have hi := (List.getElem?_eq_some_iff.mp he).1
    refine ⟨_, rfl, sq_seq <| sq_set <| ev_ii <| ev_callS rfl <| eva_one <| ev_int ⟨⟨9, rfl, by decide, by decide⟩, fun d hd => ?_⟩⟩
    obtain ⟨tm, rfl, t1, t2⟩ := hd
    refine ev_int ⟨_, _, rfl, rfl, ?_⟩
    refine sq_seq <| sq_set <| ev_lst <| eva_cons <| ev_callS rfl <| eva_one <| ev_var rfl ⟨⟨m, rfl, by omega, by omega⟩, fun ra hra => eva_cons <| ev_callS rfl <| eva_one <| ev_var rfl ⟨⟨m, rfl, by omega, by omega⟩, fun rb hrb => eva_one <| ev_tupleOf <| eva_one <| EvN.ev <| evn_each (tg_name 10) (by simp) (fun d => isWh (-99) 99 d = true) <| evi_tup <| ev_var rfl ⟨ys, rfl, by omega, fun d hd p np => ?_, fun zs hz hQ => ⟨_, zs, rfl, rfl, by simp, ?_⟩⟩⟩⟩
    · obtain ⟨y, rfl, y1, y2⟩ := isWh_int (hP d hd)
      refine ⟨_, rfl, ev_iic <| ev_var rfl <| ev_var rfl ⟨_, _, rfl, rfl, .inl ⟨by omega, by omega⟩, isWh_of ?_ ?_⟩⟩
      · have : -12 ≤ (tm - 4) * y := by
          rcases (show tm = 0 ∨ tm = 1 ∨ tm = 2 ∨ tm = 3 ∨ tm = 4 ∨ tm = 5 ∨ tm = 6 ∨ tm = 7 ∨ tm = 8 by omega) with h | h | h | h | h | h | h | h | h <;> subst h <;> omega
        omega
      · have : (tm - 4) * y ≤ 12 := by
          rcases (show tm = 0 ∨ tm = 1 ∨ tm = 2 ∨ tm = 3 ∨ tm = 4 ∨ tm = 5 ∨ tm = 6 ∨ tm = 7 ∨ tm = 8 by omega) with h | h | h | h | h | h | h | h | h <;> subst h <;> omega
        omega
    have hz' : rowOk m (.tuple zs) = true := rowOk_of (by omega) hQ
    refine sq_append (t := t) (ds := found) rfl <| ev_callS rfl <| eva_one <| EvN.ev <| evn_cat <| ev_var rfl <| EvN.ev <| evn_slM (fun _ _ _ _ _ h => h) (t := t) (ds := found) rfl <| evo_some <| ev_neg <| ev_int ⟨1, rfl, _, rfl, evo_none ⟨_, _, rfl, rfl, ?_, ⟨_, _, rfl, rfl, by simp, ?_⟩, fun d hd => ⟨by omega, ?_⟩⟩⟩
    · have := cutD_len (es := found) (lo := some (-1)) (hi := none)
      simp
      omega
    · have := cutD_len (es := found) (lo := some (-1)) (hi := none)
      simp
      omega
    · obtain ⟨es, ee, hd⟩ := hd
      cases ee
      have hok : rowOk m d = true := by
        rcases List.mem_append.mp hd with hd | hd
        · simp only [List.mem_cons, List.not_mem_nil, or_false] at hd
          rcases hd with rfl | rfl | rfl
          · exact hra
          · exact hrb
          · exact hz'
        · exact hb d (cutD_mem hd)
      refine back0 (A' := t :: A) (Δ0 := [.v (.ref s), .d (.int c), .d (.int r), .d (.int m), .m t (found ++ [d]), .d (.tuple ys), .no, .no, .no, .no, .no]) ?_ (own_set (Δ := [.v (.ref s), .d (.int c), .d (.int r), .d (.int m), .m t found, .d (.tuple ys), .no, .no, .no, .no, .no]) (i := 4) rfl hmm) ⟨found ++ [d], rfl, by rw [List.length_append, hl] <;> rfl, fun x hx => ?_⟩
      · exact .set (Δ := [.v (.ref s), .d (.int c), .d (.int r), .d (.int m), .m t (found ++ [d]), .d (.tuple ys), .d e, .d (.int (tm - 4)), .no, .no, .no]) (j := 8) (.set (Δ := [.v (.ref s), .d (.int c), .d (.int r), .d (.int m), .m t (found ++ [d]), .d (.tuple ys), .d e, .no, .no, .no, .no]) (j := 7) (.set (Δ := [.v (.ref s), .d (.int c), .d (.int r), .d (.int m), .m t (found ++ [d]), .d (.tuple ys), .no, .no, .no, .no, .no]) (j := 6) (.refl _) (.inl rfl)) (.inl rfl)) (.inl rfl)
      · rcases List.mem_append.mp hx with hx | hx
        · exact hb x hx
        · rw [List.mem_singleton.mp hx]
          exact hok
  · subst hΔ
    refine sq_ret <| ev_tup <| eva_cons <| ev_var rfl <| eva_one <| ev_tupleOfM (t := t) (ds := found) rfl ⟨by simp, m, found, rfl, m1, m2, by rw [hl, nl]; omega, hb⟩
end
end K08

/-! the law k08: the package's defs -/
namespace K08
open PySem PySem.Spec PyProof.Rows L2 Dl
section
variable {P : Program} {w : World} {K : PySem.W.Frag} {mg : Str → Option Value} {base : Heap} {f : Addr} {fd : FuncData} {k : Nat}
theorem ok_is_number (F : Fun K "is_number" "is_number" s_is_number f fd) (g : Gb mg) : FnOk P w K mg base CX0 (k + 1) f fd p_is_number (PF (fun ds => ∃ d, ds = [d]) R_num) := by
  obtain ⟨m_isinstance, m_int, m_bool, m_tuple, m_len, m_enumerate, m_sum, m_range, m_list, m_repr, m_sorted, m_zip, m_min, m_max, m_any, m_abs, m_str⟩ := g
  have nd := sc_is_number.nd
  refine F.ok sc_is_number (pf_len fun ds ⟨d, e⟩ => by rw [e]; rfl) fun cdv A outer s H vs Q E hr h => ⟨_, (pss_one (ps_ret (pe_and (pe_callB (show CallR _ _ (rIsi K) from call_isi) (by rfl) m_isinstance (by decide +kernel) (pa_cons (pv 0) (pa_cons (pe_ty (n := "int") (by rfl) m_int (by decide +kernel)) pa_nil))) (pe_one (pe_not (pe_callB (show CallR _ _ (rIsi K) from call_isi) (by rfl) m_isinstance (by decide +kernel) (pa_cons (pv 0) (pa_cons (pe_ty (n := "bool") (by rfl) m_bool (by decide +kernel)) pa_nil)))))))), enterF h fun A ds ⟨d, e⟩ => ?_⟩
  subst e
  refine sq_ret (ev_andV (ev_isi (ev_var rfl ⟨_, kit_int d, _, rfl, fun e1 => ev_notV (ev_isi (ev_var rfl ⟨_, kit_bool d, _, rfl, ?_⟩)), fun e1 => ?_⟩)))
  · cases d <;> first | rfl | cases e1
  · cases d <;> first | rfl | cases e1
theorem ok_whole_of (F : Fun K "whole_of" "whole_of" s_whole_of f fd) (g : Gb mg) : FnOk P w K mg base CX0 1 f fd p_whole_of (PX C_wh R_wh) := by
  obtain ⟨m_isinstance, m_int, m_bool, m_tuple, m_len, m_enumerate, m_sum, m_range, m_list, m_repr, m_sorted, m_zip, m_min, m_max, m_any, m_abs, m_str⟩ := g
  have nd := sc_whole_of.nd
  refine F.ok sc_whole_of (px_len fun x ds ⟨e, _⟩ => by rw [e]; rfl) fun cdv A outer s H vs Q E hr h => ⟨_, (pss_cons (ps_asg (pv 0) (pg_tup rfl (pgs_cons (pg_name (i := 2) nd rfl (Or.inl rfl)) (pgs_cons (pg_name (i := 3) nd rfl (Or.inl rfl)) pgs_nil))))
      (pss_one (ps_ret (pe_callB (show CallR _ _ (rSumT K) from cr_sumT rfl) (by rfl) m_sum (by decide +kernel) (pa_cons (pe_ix (show IxR _ (fun x y H Q => rIxL K x y H Q ∨ rIxT K x y H Q) from ix_list.or ix_tup) (pv 3) (pv 1) (fun _ _ => rfl)) pa_nil))))), enterX h fun A ds ⟨m, rows, d⟩ ⟨e, h1, h2⟩ => ?_⟩
  subst e
  refine sq_seq <| sq_asg (tg_two 2 3) <| ev_var rfl ⟨_, rfl, ?_⟩
  exact sq_ret <| ev_sumT <| eva_one <| ev_ix <| ev_var rfl <| ev_var rfl ⟨_, _, _, rfl, rfl, rowAt_at ⟨h1, h2⟩, _, rfl, rfl⟩
theorem ok__is_on_way (F : Fun K "_is_on_way" "_is_on_way" s__is_on_way f fd) (g : Gb mg) : FnOk P w K mg base CX0 1 f fd p__is_on_way (PX C_ow R_ow) := by
  obtain ⟨m_isinstance, m_int, m_bool, m_tuple, m_len, m_enumerate, m_sum, m_range, m_list, m_repr, m_sorted, m_zip, m_min, m_max, m_any, m_abs, m_str⟩ := g
  have nd := sc__is_on_way.nd
  refine F.ok sc__is_on_way (px_len fun x ds ⟨e, _⟩ => by rw [e]; rfl) fun cdv A outer s H vs Q E hr h => ⟨_, (pss_cons (ps_if (pt_cmpR op_eq (pv 1) pe_int (nomark _))
        (pss_one (ps_ret (pe_cmpR op_eq (pv 0) pe_int (nomark _))))
        pss_nil)
      (pss_one (ps_ret (pe_and (pe_cmpR op_eq (pe_op op_modN (pv 0) (pv 1)) pe_int (nomark _)) (pe_one (pe_chain op_le op_le pe_int (pe_op op_fdivN (pv 0) (pv 1)) (pv 2))))))), enterX h fun A ds ⟨fa, wh, ti⟩ ⟨e, h1, h2⟩ => ?_⟩
  subst e
  have h1 : -100000 ≤ wh := h1
  have h2 : wh ≤ 100000 := h2
  refine sq_seq <| sq_if <| evt_val <| ev_eq <| ev_var rfl <| ev_int ⟨_, rfl, _, rfl, fun hz => ?_, fun hz => ?_⟩
  · have hz' : wh = 0 := of_decide_eq_true hz
    refine sq_ret <| ev_eq <| ev_var rfl <| ev_int ⟨_, rfl, ?_⟩
    show PyData.bool _ = .bool (onWay fa wh ti)
    unfold onWay
    rw [if_pos hz']
  · have hz' : wh ≠ 0 := of_decide_eq_false hz
    have e0 : onWay fa wh ti = (decide (fa.fmod wh = 0) && (decide (0 ≤ fa.fdiv wh) && decide (fa.fdiv wh ≤ ti))) := by
      unfold onWay
      rw [if_neg hz']
    refine sq_next <| sq_ret <| ev_andV <| ev_eq <| ev_iic <| ev_var rfl <| ev_var rfl ⟨_, _, rfl, rfl, hz', ev_int ⟨_, rfl, _, rfl, fun hy => ?_, fun hy => ?_⟩⟩
    · refine ev_chain <| ev_int <| ev_iic <| ev_var rfl <| ev_var rfl ⟨_, _, rfl, rfl, ⟨hz', by omega⟩, 0, _, rfl, rfl, fun hx => ev_var rfl ⟨_, rfl, ?_⟩, fun hx => ?_⟩
      · show PyData.bool _ = .bool (onWay fa wh ti)
        rw [e0, hy, hx, Bool.true_and, Bool.true_and]
      · show PyData.bool _ = .bool (onWay fa wh ti)
        rw [e0, hy, hx, Bool.true_and, Bool.false_and]
    · show PyData.bool _ = .bool (onWay fa wh ti)
      rw [e0, hy, Bool.false_and]
theorem ok_totals_between (F : Fun K "totals_between" "totals_between" s_totals_between f fd) (g : Gb mg) (h_whole_of : Has P w K mg base 1 "whole_of" p_whole_of (PX C_wh R_wh)) : FnOk P w K mg base CX0 2 f fd p_totals_between (PX C_tb R_tb) := by
  obtain ⟨m_isinstance, m_int, m_bool, m_tuple, m_len, m_enumerate, m_sum, m_range, m_list, m_repr, m_sorted, m_zip, m_min, m_max, m_any, m_abs, m_str⟩ := g
  have nd := sc_totals_between.nd
  refine F.ok sc_totals_between (px_len fun x ds ⟨e, _⟩ => by rw [e]; rfl) fun cdv A outer s H vs Q E hr h => ⟨_, (pss_cons (ps_set (i := 3) nd rfl (Or.inl rfl) (pe_lst (pa_cons (pe_callB (show CallR _ _ (rSumT K) from cr_sumT rfl) (by rfl) m_sum (by decide +kernel) (pa_cons (pv 1) pa_nil)) pa_nil)))
      (pss_cons (ps_for PassesOwn.never rfl (pi_tup (pv 2)) (pg_tup rfl (pgs_cons (pg_name (i := 4) nd rfl (Or.inl rfl)) (pgs_cons (pg_name (i := 5) nd rfl (Or.inl rfl)) (pgs_cons (pg_name (i := 6) nd rfl (Or.inl rfl)) pgs_nil))))
        (pss_one (ps_expr (pe_bm PySem.F.plainAttrs_list PySem.F.slot_list_append PySem.F.type_list_append mt_append (pv 3) (pa_cons (pe_op op_add (pe_ix (show IxR _ (fun x y H Q => rIxL K x y H Q ∨ rIxT K x y H Q) from ix_list.or ix_tup) (pv 3) (pe_un un_neg pe_int) (fun _ _ => rfl)) (pe_op op_mul (pv 6) (pe_h h_whole_of hr (by rfl) (pa_cons (pv 0) (pa_cons (pv 5) pa_nil))))) pa_nil)))))
      (pss_one (ps_ret (pv 3))))), enterX h fun A ds x ⟨e, ok⟩ => ?_⟩
  subst e
  have tl := ok.tl
  refine sq_seq <| sq_setM <| evn_lst <| eva_one <| ev_sumT <| eva_one <| ev_var rfl ⟨x.bg, rfl, by simp, fun t nt => ?_⟩
  refine sq_seq <| sq_for (tg_three 4 5 6) <| evi_tup <| ev_var rfl ⟨_, rfl, fun i Δ' => Δ' = [.d (bookD x.m x.rows), .d (tupI x.bg), .d (wvT x.ts), .m t ((tots (whs x.rows) x.bg.sum (x.ts.take i)).map .int), .no, .no, .no], rfl, fun i e Δ' he hΔ hmm => ?_, fun Δ' hΔ => ?_⟩
  · subst hΔ
    obtain ⟨r, hr1, rfl⟩ := runs_get he
    have q := ok.tb r (List.mem_of_getElem? hr1)
    have ln : ((tots (whs x.rows) x.bg.sum (x.ts.take i)).map PyData.int).length ≤ 300 := by
      rw [List.length_map, tots_len, List.length_take]
      omega
    obtain ⟨ini, ei⟩ := tots_last (w := whs x.rows) (x.ts.take i) x.bg.sum
    have e2 : (tots (whs x.rows) x.bg.sum (x.ts.take i)).map PyData.int = ini.map PyData.int ++ [.int (fin (whs x.rows) x.bg.sum (x.ts.take i))] := by
      rw [ei, List.map_append] <;> rfl
    refine ⟨_, rfl, sq_append (t := t) (ds := (tots (whs x.rows) x.bg.sum (x.ts.take i)).map .int) rfl <| ev_ii <| ev_ixM (t := t) (ds := (tots (whs x.rows) x.bg.sum (x.ts.take i)).map .int) rfl <| ev_neg <| ev_int ⟨1, rfl, _, _, rfl, by rw [e2]; exact at_end, ev_iic <| ev_var rfl <| ev_callX <| eva_cons <| ev_var rfl <| eva_one <| ev_var rfl ⟨(x.m, x.rows, r.2.1), ⟨rfl, q.2.2.1, q.2.2.2.1⟩, fun d hd => ?_⟩⟩⟩
    obtain rfl : d = .int (whs x.rows r.2.1) := hd
    refine ⟨r.2.2, _, rfl, rfl, .inl ⟨by omega, by omega⟩, _, _, rfl, rfl, by omega, ?_⟩
    have e3 : (tots (whs x.rows) x.bg.sum (x.ts.take i)).map PyData.int ++ [.int (fin (whs x.rows) x.bg.sum (x.ts.take i) + r.2.2 * whs x.rows r.2.1)] = (tots (whs x.rows) x.bg.sum (x.ts.take (i + 1))).map .int := by
      rw [take_snoc hr1, tots_snoc, List.map_append] <;> rfl
    rw [e3]
    refine back0 (A' := t :: A) (Δ0 := [.d (bookD x.m x.rows), .d (tupI x.bg), .d (wvT x.ts), .m t ((tots (whs x.rows) x.bg.sum (x.ts.take (i + 1))).map .int), .no, .no, .no]) ?_ (own_set (Δ := [.d (bookD x.m x.rows), .d (tupI x.bg), .d (wvT x.ts), .m t ((tots (whs x.rows) x.bg.sum (x.ts.take i)).map .int), .no, .no, .no]) (i := 3) rfl hmm) rfl
    repeat first | exact Weak.nil | refine Weak.no ?_ | refine Weak.cons ?_
  · subst hΔ
    refine sq_retM (t := t) (ds := (tots (whs x.rows) x.bg.sum (x.ts.take (x.ts.map trD).length)).map .int) rfl ?_
    rw [List.length_map, List.take_length] <;> rfl
theorem ok_span_met (F : Fun K "span_met" "span_met" s_span_met f fd) (g : Gb mg) (h_totals_between : Has P w K mg base 2 "totals_between" p_totals_between (PX C_tb R_tb)) : FnOk P w K mg base CX0 3 f fd p_span_met (PX C_rx R_sp) := by
  obtain ⟨m_isinstance, m_int, m_bool, m_tuple, m_len, m_enumerate, m_sum, m_range, m_list, m_repr, m_sorted, m_zip, m_min, m_max, m_any, m_abs, m_str⟩ := g
  have nd := sc_span_met.nd
  refine F.ok sc_span_met (px_len fun x ds ⟨e, _⟩ => by rw [e]; rfl) fun cdv A outer s H vs Q E hr h => ⟨_, (pss_cons (ps_set (i := 4) nd rfl (Or.inl rfl) (pe_h h_totals_between hr (by rfl) (pa_cons (pv 0) (pa_cons (pv 2) (pa_cons (pv 3) pa_nil)))))
      (pss_one (ps_ret (pe_tup (pa_cons (pe_callB (show CallR _ _ (rMin K) from cr_min rfl) (by rfl) m_min (by decide +kernel) (pa_cons (pv 4) pa_nil)) (pa_cons (pe_callB (show CallR _ _ (rMax K) from cr_max rfl) (by rfl) m_max (by decide +kernel) (pa_cons (pv 4) pa_nil)) pa_nil)))))), enterX h fun A ds x ⟨e, ok⟩ => ?_⟩
  subst e
  refine sq_seq <| sq_set <| ev_callX <| eva_cons <| ev_var rfl <| eva_cons <| ev_var rfl <| eva_one <| ev_var rfl ⟨x, ⟨rfl, ok⟩, fun d hd => ?_⟩
  obtain rfl : d = .list ((tots (whs x.rows) x.bg.sum x.ts).map .int) := hd
  have hp : 0 < (tots (whs x.rows) x.bg.sum x.ts).length := by rw [tots_len]; omega
  exact sq_ret <| ev_tup <| eva_cons <| ev_minL <| eva_one <| ev_var rfl ⟨_, rfl, hp, fun mn h1 h2 => eva_one <| ev_maxL <| eva_one <| ev_var rfl ⟨_, rfl, hp, fun mx h3 h4 => ⟨by simp, mn, mx, rfl, ⟨h1, h2⟩, ⟨h3, h4⟩⟩⟩⟩
theorem ok_is_met (F : Fun K "is_met" "is_met" s_is_met f fd) (g : Gb mg) (h_is_number : Has P w K mg base 1 "is_number" p_is_number (PF (fun ds => ∃ d, ds = [d]) R_num)) (h_whole_of : Has P w K mg base 1 "whole_of" p_whole_of (PX C_wh R_wh)) (h__is_on_way : Has P w K mg base 1 "_is_on_way" p__is_on_way (PX C_ow R_ow))
    (h_totals_between : Has P w K mg base 2 "totals_between" p_totals_between (PX C_tb R_tb)) : FnOk P w K mg base CX0 3 f fd p_is_met (PX C_im R_im) := by
  obtain ⟨m_isinstance, m_int, m_bool, m_tuple, m_len, m_enumerate, m_sum, m_range, m_list, m_repr, m_sorted, m_zip, m_min, m_max, m_any, m_abs, m_str⟩ := g
  have nd := sc_is_met.nd
  refine F.ok sc_is_met (px_len fun x ds ⟨e, _⟩ => by rw [e]; rfl) fun cdv A outer s H vs Q E hr h => ⟨_, (pss_cons (ps_if (pt_not (pt_val (pe_h h_is_number (hr.mono (by decide)) (by rfl) (pa_cons (pv 4) pa_nil))))
        (pss_one (ps_ret pe_bl))
        pss_nil)
      (pss_cons (ps_set (i := 5) nd rfl (Or.inl rfl) (pe_h h_totals_between hr (by rfl) (pa_cons (pv 0) (pa_cons (pv 2) (pa_cons (pv 3) pa_nil)))))
      (pss_cons (ps_setLc (i := 6) (own := [("total", 7), ("_", 8), ("deed", 9), ("times", 10)]) (g := gTup K 2 (gCons (gName 7) (gCons (gTup K 3 (gCons (gName 8) (gCons (gName 9) (gCons (gName 10) gNil)))) gNil))) (tt := tYes) rfl nd rfl rfl (sw_true rfl rfl rfl (by decide +kernel)) (pi_zipM (by rfl) m_zip (pa_cons (pv 5) (pa_cons (pv 3) pa_nil))) (blkOk_by (N := N_is_met) (sc := defScope s_is_met) (by decide +kernel)) (fun _ _ _ _ _ => (pg_tup rfl (pgs_cons (pg_name (i := 7) nd rfl (Or.inl rfl)) (pgs_cons (pg_tup rfl (pgs_cons (pg_name (i := 8) nd rfl (Or.inl rfl)) (pgs_cons (pg_name (i := 9) nd rfl (Or.inl rfl)) (pgs_cons (pg_name (i := 10) nd rfl (Or.inl rfl)) pgs_nil)))) pgs_nil)))) (fun _ _ _ _ _ => pts_nil) (fun _ _ _ _ _ => (pe_h h__is_on_way (hr.mono (by decide)) (by rfl) (pa_cons (pe_op op_sub (pv 4) (pv 7)) (pa_cons (pe_h h_whole_of (hr.mono (by decide)) (by rfl) (pa_cons (pv 0) (pa_cons (pv 9) pa_nil))) (pa_cons (pv 10) pa_nil))))))
      (pss_one (ps_ret (pe_or (pe_cmpR op_eq (pv 4) (pe_ix (show IxR _ (fun x y H Q => rIxL K x y H Q ∨ rIxT K x y H Q) from ix_list.or ix_tup) (pv 5) pe_int (fun _ _ => rfl)) (nomark _)) (pe_one (pe_callB (show CallR _ _ (rAny K) from cr_any rfl) (by rfl) m_any (by decide +kernel) (pa_cons (pv 6) pa_nil))))))))), enterX h fun A ds y ⟨e, ok⟩ => ?_⟩
  obtain ⟨x, d⟩ := y
  dsimp only at e ok
  subst e
  have tl := ok.tl
  refine sq_seq <| sq_if <| evt_not <| evt_val <| ev_callF <| eva_one <| ev_var rfl ⟨⟨d, rfl⟩, fun r hr => ⟨_, hr, fun hz => ?_, fun hz => ?_⟩⟩
  · refine sq_ret <| ev_bl ?_
    show PyData.bool false = .bool (metD x d)
    cases d <;> first | rfl | cases hz
  obtain ⟨v, rfl⟩ : ∃ v, d = .int v := isNum_inv (by simpa using hz)
  refine sq_next <| sq_seq <| sq_set <| ev_callX <| eva_cons <| ev_var rfl <| eva_cons <| ev_var rfl <| eva_one <| ev_var rfl ⟨x, ⟨rfl, ok⟩, fun d hd => ?_⟩
  obtain rfl : d = .list ((tots (whs x.rows) x.bg.sum x.ts).map .int) := hd
  obtain ⟨tlr, eh⟩ := tots_head (w := whs x.rows) x.ts x.bg.sum
  refine sq_seq <| sq_set <| EvN.ev <| evn_map (tg_oneThree 7 8 9 10) (by simp) (fun d => match d with | .tuple [.int t, .tuple [.int _, .int d, .int k]] => .bool (onWay (v - t) (whs x.rows d) k) | _ => .none) <| evi_zipM <| eva_cons <| ev_var rfl <| eva_one <| ev_var rfl ⟨_, _, rfl, ?_, fun d hd p np => ?_, ?_⟩
  · rw [List.length_zipWith, List.length_map, List.length_map]
    omega
  · obtain ⟨a, r, hr1, rfl⟩ := zip_mem_r hd
    have q := ok.tb r hr1
    have wb := whs_bd ok (d := r.2.1) ⟨q.2.2.1, q.2.2.2.1⟩
    refine ⟨_, rfl, ev_callX <| eva_cons <| ev_ii <| ev_var rfl <| ev_var rfl ⟨v, a, rfl, rfl, eva_cons <| ev_callX <| eva_cons <| ev_var rfl <| eva_one <| ev_var rfl ⟨(x.m, x.rows, r.2.1), ⟨rfl, q.2.2.1, q.2.2.2.1⟩, fun d hd => ?_⟩⟩⟩
    obtain rfl : d = .int (whs x.rows r.2.1) := hd
    exact eva_one <| ev_var rfl ⟨(v - a, whs x.rows r.2.1, r.2.2), ⟨rfl, by show -100000 ≤ whs x.rows r.2.1; omega, by show whs x.rows r.2.1 ≤ 100000; omega⟩, fun d hd => hd⟩
  · rw [zip_ways (w := whs x.rows) (v := v) _ fun t r => rfl]
    refine sq_ret <| ev_orV <| ev_eq <| ev_var rfl <| ev_ix <| ev_var rfl <| ev_int ⟨_, 0, _, rfl, rfl, by rw [eh]; exact at_at (k := 0) rfl, _, rfl, _, rfl, fun hy => ?_, fun hy => ?_⟩
    · show PyData.bool true = .bool (decide (v = x.bg.sum) || _)
      rw [hy, Bool.true_or]
    · refine ev_any <| eva_one <| ev_var rfl ⟨_, rfl, ?_⟩
      show PyData.bool _ = .bool (decide (v = x.bg.sum) || _)
      rw [hy, Bool.false_or]
end
end K08

/-! the law k08: what is drawn, the law's own totals -/
namespace K08
open PySem PySem.Spec PyProof.Rows L2 Dl
section
variable {P : Program} {w : World} {K : PySem.W.Frag} {mg : Str → Option Value} {base : Heap} {f : Addr} {fd : FuncData} {k : Nat}
theorem ok__law_weaving (F : Fun K "_law_weaving" "_law_weaving" s__law_weaving f fd) (g : Gb mg) (h__law_draw : Has P w K mg base 1 "_law_draw" p__law_draw (PS C_draw R_draw)) (h__law_pick : Has P w K mg base 2 "_law_pick" p__law_pick (PS C_pick R_pick)) : FnOk P w K mg base CX0 3 f fd p__law_weaving (PS C_wv R_wv) := by
  obtain ⟨m_isinstance, m_int, m_bool, m_tuple, m_len, m_enumerate, m_sum, m_range, m_list, m_repr, m_sorted, m_zip, m_min, m_max, m_any, m_abs, m_str⟩ := g
  have nd := sc__law_weaving.nd
  refine F.ok sc__law_weaving (ps_len fun ds ⟨_, _, _, _, _, e, _⟩ => by rw [e]; rfl) fun cdv A outer sh H vs Q E hr h => ⟨_, (pss_cons (ps_if (PW.pt (pw_or (pt_cmpR op_lt (pe_callB (show CallR _ _ (rLenK K) from call_len_seq) (by rfl) m_len PySem.boot_len (pa_cons (pv 2) pa_nil)) pe_int (nomark _)) (pw_or1 (pt_cmpR (show OpR _ _ (rEqD K) from op_eqD hr.units) (pe_ix (show IxR _ (fun x y H Q => rIxL K x y H Q ∨ rIxT K x y H Q) from ix_list.or ix_tup) (pv 1) pe_int (fun _ _ => rfl)) (pe_tup pa_nil) (nomark _)))))
        (pss_one (ps_ret (pe_tup pa_nil)))
        pss_nil)
      (pss_cons (ps_set (i := 5) nd rfl (Or.inl rfl) (pe_callB (show CallR _ _ (rSortedI K) from cr_sortedI) (by rfl) m_sorted (by decide +kernel) (pa_cons (pe_lc (own := [("turn", 9)]) (g := gName 9) (tt := tYes) rfl nd (pi_range1 (by rfl) m_range (pa_cons (pe_h h__law_draw (hr.mono (by decide)) (by rfl) (pa_cons (pv 0) (pa_cons (pe_op op_add (pv 3) pe_int) pa_nil))) pa_nil)) (blkOk_by (N := N__law_weaving) (sc := defScope s__law_weaving) (by decide +kernel)) (fun _ _ _ _ _ => (pg_name (i := 9) nd rfl (Or.inl rfl))) (fun _ _ _ _ _ => pts_nil) (fun _ _ _ _ _ => (pe_op op_add pe_int (pe_h h__law_draw (hr.mono (by decide)) (by rfl) (pa_cons (pv 0) (pa_cons (pe_op op_sub (pe_callB (show CallR _ _ (rLenK K) from call_len_seq) (by rfl) m_len PySem.boot_len (pa_cons (pv 2) pa_nil)) pe_int) pa_nil)))))) pa_nil)))
      (pss_cons (ps_set (i := 6) nd rfl (Or.inl rfl) (pe_lst pa_nil))
      (pss_cons (ps_for PassesOwn.never rfl (pi_list (pv 5)) (pg_name (i := 7) nd rfl (Or.inl rfl))
        (pss_cons (ps_set (i := 8) nd rfl (Or.inl rfl) (pe_h h__law_pick hr (by rfl) (pa_cons (pv 0) (pa_cons (pe_lst (pa_cons pe_int (pa_cons pe_int (pa_cons pe_int (pa_cons (pv 4) (pa_cons (pe_op op_add pe_int (pe_h h__law_draw (hr.mono (by decide)) (by rfl) (pa_cons (pv 0) (pa_cons (pv 4) pa_nil)))) pa_nil)))))) pa_nil))))
        (pss_one (ps_expr (pe_bm PySem.F.plainAttrs_list PySem.F.slot_list_append PySem.F.type_list_append mt_append (pv 6) (pa_cons (pe_tup (pa_cons (pv 7) (pa_cons (pe_h h__law_draw (hr.mono (by decide)) (by rfl) (pa_cons (pv 0) (pa_cons (pe_callB (show CallR _ _ (rLenK K) from call_len_seq) (by rfl) m_len PySem.boot_len (pa_cons (pe_ix (show IxR _ (fun x y H Q => rIxL K x y H Q ∨ rIxT K x y H Q) from ix_list.or ix_tup) (pv 1) pe_int (fun _ _ => rfl)) pa_nil)) pa_nil))) (pa_cons (pv 8) pa_nil)))) pa_nil))))))
      (pss_one (ps_ret (pe_callTy call_tuple_of (by rfl) m_tuple (by decide +kernel) (pa_cons (pv 6) pa_nil)))))))), enterS h fun s g f A ds ⟨m, rows, nss, runs, T, e, hr1, hn1, r0, r1, t0, t1⟩ => ?_⟩
  subst e
  have emp : R_wv [bookD m rows, ordOf nss, .int runs, .int T] (.tuple []) := ⟨[], rfl, r0, (fun _ z => nomatch z), List.Pairwise.nil⟩
  refine sq_seq <| sq_if <| evt_or <| evt_val <| ev_ib <| ev_len <| eva_one <| ev_var rfl ⟨_, _, rfl, rfl, ev_int ⟨_, 2, rfl, rfl, _, rfl, fun _ => ⟨fun _ => sq_ret <| ev_tup <| eva_nil ⟨by simp, emp⟩, (fun z => nomatch z)⟩, fun hz => ?_⟩⟩
  have hz' := of_decide_eq_false hz
  rw [blks_len] at hz'
  refine evt_val <| ev_eqD <| ev_ix <| ev_var rfl <| ev_int ⟨_, 1, _, rfl, rfl, rfl, ev_tup <| eva_nil ⟨by simp, shapedT rows, shaped_unit, _, rfl, fun _ => sq_ret <| ev_tup <| eva_nil ⟨by simp, emp⟩, fun hq => ?_⟩⟩
  have hpos : 0 < rows.length := by
    rw [eqv_nil_tup] at hq
    cases rows with
    | nil => cases hq
    | cons x r => rw [List.length_cons]; omega
  refine sq_next <| sq_seq <| sq_set <| EvN.ev <| evn_sortI <| eva_one <| EvN.ev <| evn_each (tg_name 9) (by simp) (fun d => isWh 1 ((nss.length : Nat) - 1 : Int) d = true) <| evi_rng1 <| eva_one <| ev_callS rfl <| eva_one <| ev_ii <| ev_var rfl <| ev_int ⟨runs, 1, rfl, rfl, ⟨_, rfl, by omega, by omega⟩, fun d hd => ?_⟩
  obtain ⟨n, rfl, n1, n2⟩ := hd
  refine ⟨n, rfl, by omega, by omega, by rw [rng_len]; omega, fun d hd p np => ?_, fun ys hy hP => ?_⟩
  · refine ⟨_, rfl, ev_ii <| ev_int <| ev_callS rfl <| eva_one <| ev_ii <| ev_len <| eva_one <| ev_var rfl ⟨_, _, rfl, rfl, ev_int ⟨_, 1, rfl, rfl, ⟨_, rfl, by rw [blks_len]; omega, by rw [blks_len]; omega⟩, fun d hd => ?_⟩⟩⟩
    obtain ⟨c, rfl, c1, c2⟩ := hd
    rw [blks_len] at c2
    exact ⟨1, c, rfl, rfl, isWh_of (by omega) (by omega)⟩
  obtain ⟨ss0, rfl, hss0⟩ := ints_wh hP
  rw [List.length_map, rng_len] at hy
  refine ⟨ss0, rfl, fun ss pm pw => ?_⟩
  have hss : ∀ x ∈ ss, 1 ≤ x ∧ x ≤ ((nss.length : Nat) - 1 : Int) := fun x hx => hss0 x (pm.mem_iff.mp hx)
  have lss : ss.length ≤ 1000 := by rw [pm.length_eq]; omega
  have lss2 : ((ss.length : Nat) : Int) ≤ runs := by rw [pm.length_eq]; omega
  refine sq_seq <| sq_setM <| evn_lst <| eva_nil ⟨by simp, fun t nt => ?_⟩
  refine sq_seq <| sq_for (tg_name 7) <| evi_list <| ev_var rfl ⟨_, rfl, fun i Δ' => ∃ ts : List Rn, Δ' = [.v (.ref s), .d (bookD m rows), .d (ordOf nss), .d (.int runs), .d (.int T), .d (.list (ss.map .int)), .m t (ts.map trD), .no, .no, .no] ∧ ts.length = i ∧ (ts.map fun t => t.1) = ss.take i ∧ ∀ t ∈ ts, 1 ≤ t.1 ∧ t.1 < ((nss.length : Nat) : Int) ∧ 0 ≤ t.2.1 ∧ t.2.1 < ((rows.length : Nat) : Int) ∧ 1 ≤ t.2.2 ∧ t.2.2 ≤ T, ⟨[], rfl, rfl, rfl, fun _ z => nomatch z⟩, fun i e Δ' he ⟨ts, hΔ, hl, hs, hb⟩ hmm => ?_, fun Δ' ⟨ts, hΔ, hl, hs, hb⟩ => ?_⟩
  · subst hΔ
    obtain ⟨c, hc, rfl⟩ := ints_get he
    have hi := (List.getElem?_eq_some_iff.mp hc).1
    have qc := hss c (List.mem_of_getElem? hc)
    refine ⟨_, rfl, sq_seq <| sq_set <| ev_callS rfl <| eva_one <| ev_lst <| eva_cons <| ev_int <| eva_cons <| ev_int <| eva_cons <| ev_int <| eva_cons <| ev_var rfl <| eva_one <| ev_ii <| ev_int <| ev_callS rfl <| eva_one <| ev_var rfl ⟨⟨T, rfl, by omega, by omega⟩, fun d hd => ?_⟩⟩
    obtain ⟨dr, rfl, d1, d2⟩ := hd
    refine ⟨1, dr, rfl, rfl, by simp, ⟨_, _, rfl, rfl, by simp, by simp⟩, fun d hd => ?_⟩
    obtain ⟨o, rfl, o1, o2⟩ : ∃ o : Int, d = .int o ∧ 1 ≤ o ∧ o ≤ T := by
      obtain ⟨es, ee, hd⟩ := hd
      cases ee
      simp only [List.mem_cons, List.not_mem_nil, or_false] at hd
      rcases hd with rfl | rfl | rfl | rfl | rfl
      · exact ⟨1, rfl, by omega, by omega⟩
      · exact ⟨1, rfl, by omega, by omega⟩
      · exact ⟨2, rfl, by omega, by omega⟩
      · exact ⟨T, rfl, by omega, by omega⟩
      · exact ⟨1 + dr, rfl, by omega, by omega⟩
    refine sq_append (t := t) (ds := ts.map trD) rfl <| ev_tup <| eva_cons <| ev_var rfl <| eva_cons <| ev_callS rfl <| eva_one <| ev_len <| eva_one <| ev_ix <| ev_var rfl <| ev_int ⟨_, 1, _, rfl, rfl, rfl, _, _, rfl, rfl, ⟨_, rfl, by rw [blks_len]; omega, by rw [blks_len]; omega⟩, fun d hd => ?_⟩
    obtain ⟨de, rfl, e1, e2⟩ := hd
    rw [blks_len] at e2
    refine eva_one <| ev_var rfl ⟨by simp, by rw [List.length_map]; omega, ?_⟩
    have e3 : ts.map trD ++ [.tuple [.int c, .int de, .int o]] = (ts ++ [(c, de, o)]).map trD := by rw [List.map_append] <;> rfl
    rw [e3]
    refine back0 (A' := t :: A) (Δ0 := [.v (.ref s), .d (bookD m rows), .d (ordOf nss), .d (.int runs), .d (.int T), .d (.list (ss.map .int)), .m t ((ts ++ [(c, de, o)]).map trD), .no, .no, .no]) ?_ (own_set (Δ := [.v (.ref s), .d (bookD m rows), .d (ordOf nss), .d (.int runs), .d (.int T), .d (.list (ss.map .int)), .m t (ts.map trD), .no, .no, .no]) (i := 6) rfl hmm) ⟨ts ++ [(c, de, o)], rfl, by rw [List.length_append, hl] <;> rfl, ?_, fun x hx => ?_⟩
    · repeat first | exact Weak.nil | refine Weak.no ?_ | refine Weak.cons ?_
    · rw [List.map_append, hs, List.take_add_one, hc] <;> rfl
    · rcases List.mem_append.mp hx with h | h
      · exact hb x h
      · rw [List.mem_singleton.mp h]
        exact ⟨by omega, by show c < _; omega, e1, by omega, o1, o2⟩
  · subst hΔ
    rw [List.length_map] at hl hs
    rw [List.take_length] at hs
    refine sq_ret <| ev_tupleOfM (t := t) (ds := ts.map trD) rfl ⟨ts, rfl, by rw [hl]; exact lss2, ?_, by rw [hs]; exact pw⟩
    rw [blks_len, blks_len]
    exact hb
theorem ok__law_begin (F : Fun K "_law_begin" "_law_begin" s__law_begin f fd) (g : Gb mg) (h__law_draw : Has P w K mg base 1 "_law_draw" p__law_draw (PS C_draw R_draw)) (h__law_pick : Has P w K mg base 2 "_law_pick" p__law_pick (PS C_pick R_pick)) : FnOk P w K mg base CX0 3 f fd p__law_begin (PS C_drow R_bg) := by
  obtain ⟨m_isinstance, m_int, m_bool, m_tuple, m_len, m_enumerate, m_sum, m_range, m_list, m_repr, m_sorted, m_zip, m_min, m_max, m_any, m_abs, m_str⟩ := g
  have nd := sc__law_begin.nd
  refine F.ok sc__law_begin (ps_len fun ds ⟨_, e, _⟩ => by rw [e]; rfl) fun cdv A outer sh H vs Q E hr h => ⟨_, (pss_cons (ps_set (i := 2) nd rfl (Or.inl rfl) (pe_op op_pow pe_int pe_int))
      (pss_cons (ps_set (i := 3) nd rfl (Or.inr rfl) (pe_lst (pa_cons pe_int (pa_cons (pe_op op_sub (pe_h h__law_draw (hr.mono (by decide)) (by rfl) (pa_cons (pv 0) (pa_cons pe_int pa_nil))) pe_int) (pa_cons (pe_h h__law_pick hr (by rfl) (pa_cons (pv 0) (pa_cons (pe_lst (pa_cons (pv 2) (pa_cons (pe_op op_sub pe_int (pv 2)) (pa_cons pe_int pa_nil)))) pa_nil))) pa_nil)))))
      (pss_one (ps_ret (pe_callTy call_tuple_of (by rfl) m_tuple (by decide +kernel) (pa_cons (pe_lc (own := [("cell", 4)]) (g := gName 4) (tt := tYes) rfl nd (pi_range1 (by rfl) m_range (pa_cons (pv 1) pa_nil)) (blkOk_by (N := N__law_begin) (sc := defScope s__law_begin) (by decide +kernel)) (fun _ _ _ _ _ => (pg_name (i := 4) nd rfl (Or.inl rfl))) (fun _ _ _ _ _ => pts_nil) (fun _ _ _ _ _ => (pe_h h__law_pick hr (by rfl) (pa_cons (pv 0) (pa_cons (pe_op op_cat (pv 3) (pe_lst (pa_cons (pe_op op_sub (pe_h h__law_draw (hr.mono (by decide)) (by rfl) (pa_cons (pv 0) (pa_cons pe_int pa_nil))) pe_int) pa_nil))) pa_nil))))) pa_nil)))))), enterS h fun s g f A ds ⟨m, e, m1, m8⟩ => ?_⟩
  subst e
  refine sq_seq <| sq_set <| ev_iic <| ev_int <| ev_int ⟨10, 9, rfl, rfl, ⟨by decide, by decide, by decide⟩, ?_⟩
  rw [p9]
  refine sq_seq <| sq_set <| ev_lst <| eva_cons <| ev_int <| eva_cons <| ev_ii <| ev_callS rfl <| eva_one <| ev_int ⟨⟨99, rfl, by decide, by decide⟩, fun d hd => ?_⟩
  obtain ⟨c, rfl, c1, c2⟩ := hd
  refine ev_int ⟨c, 49, rfl, rfl, eva_one <| ev_callS rfl <| eva_one <| ev_lst <| eva_cons <| ev_var rfl <| eva_cons <| ev_ii <| ev_int <| ev_var rfl ⟨0, _, rfl, rfl, eva_one <| ev_int ⟨by simp, ⟨_, _, rfl, rfl, by simp, by simp⟩, fun d hd => ⟨by simp, ?_⟩⟩⟩⟩
  have q1 : ∀ y ∈ ([.int 0, .int (c - 49), d] : List PyData), isWh (-1000000000) 1000000000 y = true := fun y hy => by
    simp only [List.mem_cons, List.not_mem_nil, or_false] at hy
    rcases hy with rfl | rfl | rfl
    · exact isWh_of (by decide) (by decide)
    · exact isWh_of (by omega) (by omega)
    · obtain ⟨es, ee, hd⟩ := hd
      cases ee
      simp only [List.mem_cons, List.not_mem_nil, or_false] at hd
      rcases hd with rfl | rfl | rfl <;> exact isWh_of (by decide) (by decide)
  have l1 : ([.int 0, .int (c - 49), d] : List PyData).length = 3 := rfl
  dsimp only
  generalize ([.int 0, .int (c - 49), d] : List PyData) = fl at q1 l1
  refine sq_ret <| ev_tupleOf <| eva_one <| EvN.ev <| evn_each (tg_name 4) (by simp) (fun d => isWh (-1000000000) 1000000000 d = true) <| evi_rng1 <| eva_one <| ev_var rfl ⟨m, rfl, by omega, by omega, by rw [rng_len]; omega, fun d hd p np => ⟨_, rfl, ev_callS rfl <| eva_one <| EvN.ev <| evn_cat <| ev_var rfl <| ev_lst <| eva_one <| ev_ii <| ev_callS rfl <| eva_one <| ev_int ⟨⟨2000, rfl, by decide, by decide⟩, fun d2 hd2 => ?_⟩⟩, fun ys hy hP => ⟨_, ys, rfl, rfl, ?_⟩⟩
  · obtain ⟨c2', rfl, _, _⟩ := hd2
    refine ev_int ⟨c2', 1000, rfl, rfl, by simp, _, _, rfl, rfl, by rw [l1]; simp, ⟨_, _, rfl, rfl, by simp, by rw [List.length_append, l1]; simp⟩, fun d hd => ?_⟩
    obtain ⟨es, ee, hd⟩ := hd
    cases ee
    rcases List.mem_append.mp hd with hd | hd
    · exact q1 d hd
    · rw [List.mem_singleton.mp hd]
      exact isWh_of (by omega) (by omega)
  · obtain ⟨bg, rfl, hb⟩ := ints_wh hP
    rw [List.length_map, rng_len] at hy
    exact ⟨bg, rfl, by omega, hb⟩
theorem ok__law_totals (F : Fun K "_law_totals" "_law_totals" s__law_totals f fd) (g : Gb mg) : FnOk P w K mg base CX0 1 f fd p__law_totals (PX C_lt R_lt) := by
  obtain ⟨m_isinstance, m_int, m_bool, m_tuple, m_len, m_enumerate, m_sum, m_range, m_list, m_repr, m_sorted, m_zip, m_min, m_max, m_any, m_abs, m_str⟩ := g
  have nd := sc__law_totals.nd
  refine F.ok sc__law_totals (px_len fun x ds ⟨⟨e, _⟩, _⟩ => by rw [e]; rfl) fun cdv A outer s H vs Q E hr h => ⟨_, (pss_cons (ps_par (i := 3) (j := 4) rfl nd rfl rfl (by decide) rfl rfl (pa_cons (pe_callTy call_list_of (by rfl) m_list (by decide +kernel) (pa_cons (pv 1) pa_nil)) (pa_cons (pe_lst (pa_cons (pe_callB (show CallR _ _ (rSumT K) from cr_sumT rfl) (by rfl) m_sum (by decide +kernel) (pa_cons (pv 1) pa_nil)) pa_nil)) pa_nil)) rfl)
      (pss_cons (ps_for PassesOwn.never rfl (pi_tup (pv 2)) (pg_tup rfl (pgs_cons (pg_name (i := 5) nd rfl (Or.inl rfl)) (pgs_cons (pg_name (i := 6) nd rfl (Or.inl rfl)) (pgs_cons (pg_name (i := 7) nd rfl (Or.inl rfl)) pgs_nil))))
        (pss_one (ps_for PassesOwn.never rfl (pi_range1 (by rfl) m_range (pa_cons (pv 7) pa_nil)) (pg_name (i := 8) nd rfl (Or.inl rfl))
          (pss_cons (ps_setLc (i := 3) (own := [("held", 9), ("item", 10)]) (g := gTup K 2 (gCons (gName 9) (gCons (gName 10) gNil))) (tt := tYes) rfl nd rfl rfl (sw_true rfl rfl rfl (by decide +kernel)) (pi_zipM (by rfl) m_zip (pa_cons (pv 3) (pa_cons (pe_ix (show IxR _ (fun x y H Q => rIxL K x y H Q ∨ rIxT K x y H Q) from ix_list.or ix_tup) (pe_ix (show IxR _ (fun x y H Q => rIxL K x y H Q ∨ rIxT K x y H Q) from ix_list.or ix_tup) (pv 0) pe_int (fun _ _ => rfl)) (pv 6) (fun _ _ => rfl)) pa_nil))) (blkOk_by (N := N__law_totals) (sc := defScope s__law_totals) (by decide +kernel)) (fun _ _ _ _ _ => (pg_tup rfl (pgs_cons (pg_name (i := 9) nd rfl (Or.inl rfl)) (pgs_cons (pg_name (i := 10) nd rfl (Or.inl rfl)) pgs_nil)))) (fun _ _ _ _ _ => pts_nil) (fun _ _ _ _ _ => (pe_op op_add (pv 9) (pv 10))))
          (pss_one (ps_expr (pe_bm PySem.F.plainAttrs_list PySem.F.slot_list_append PySem.F.type_list_append mt_append (pv 4) (pa_cons (pe_callB (show CallR _ _ (rSum K) from cr_sum rfl) (by rfl) m_sum (by decide +kernel) (pa_cons (pv 3) pa_nil)) pa_nil))))))))
      (pss_one (ps_ret (pv 4))))), enterX h fun A ds x ⟨⟨e, ok⟩, tl, tk⟩ => ?_⟩
  subst e
  have m8 := ok.m8
  refine sq_seq <| sq_parDM (by decide) <| EvN.ev <| evn_listOf <| eva_one <| ev_var rfl ⟨_, _, rfl, rfl, evn_lst <| eva_one <| ev_sumT <| eva_one <| ev_var rfl ⟨x.bg, rfl, by simp, fun t nt => ?_⟩⟩
  generalize hS : x.bg.sum = S0
  refine sq_seq <| sq_for (tg_three 5 6 7) <| evi_tup <| ev_var rfl ⟨_, rfl, fun i Δ' => ∃ cs : List Int, Δ' = [.d (bookD x.m x.rows), .d (tupI x.bg), .d (wvT x.ts), .d (.list (cs.map .int)), .m t ((S0 :: allT (whs x.rows) S0 (x.ts.take i)).map .int), .no, .no, .no, .no, .no, .no] ∧ ((cs.length : Nat) : Int) = x.m ∧ cs.sum = fin (whs x.rows) S0 (x.ts.take i), ⟨x.bg, rfl, ok.bl, hS⟩, fun i e Δ' he ⟨cs, hΔ, hcl, hcs⟩ hmm => ?_, fun Δ' ⟨cs, hΔ, hcl, hcs⟩ => ?_⟩
  · subst hΔ
    obtain ⟨r, hr1, rfl⟩ := runs_get he
    have rm := List.mem_of_getElem? hr1
    have q := ok.tb r rm
    have q2 := tk r rm
    have hi := (List.getElem?_eq_some_iff.mp hr1).1
    have rl : (((rowAt x.rows r.2.1).length : Nat) : Int) = x.m := (ok.rok _ (rowAt_mem (d := r.2.1) ⟨by omega, by omega⟩)).1
    have aln := allT_len (w := whs x.rows) (x.ts.take i) S0 fun y hy => tk y (List.mem_of_mem_take hy)
    rw [List.length_take] at aln
    have snoc := allT_snoc (w := whs x.rows) (x.ts.take i) S0 r
    rw [← take_snoc hr1] at snoc
    have fsn := fin_snoc (w := whs x.rows) (t := S0) (ts := x.ts.take i) (r := r)
    rw [← take_snoc hr1] at fsn
    generalize hF : fin (whs x.rows) S0 (x.ts.take i) = F0 at hcs snoc fsn
    generalize hA : allT (whs x.rows) S0 (x.ts.take i) = A0 at aln snoc
    have al2 : A0.length ≤ 20000 := by omega
    refine ⟨_, rfl, sq_for (tg_name 8) <| evi_rng1 <| eva_one <| ev_var rfl ⟨r.2.2, rfl, by omega, by omega, fun j Δ' => ∃ cs : List Int, Δ' = [.d (bookD x.m x.rows), .d (tupI x.bg), .d (wvT x.ts), .d (.list (cs.map .int)), .m t ((S0 :: (A0 ++ (List.range j).map fun (j : Nat) => F0 + ((j : Int) + 1) * whs x.rows r.2.1)).map .int), .d (.int r.1), .d (.int r.2.1), .d (.int r.2.2), .no, .no, .no] ∧ ((cs.length : Nat) : Int) = x.m ∧ cs.sum = F0 + (j : Int) * whs x.rows r.2.1, ⟨cs, ?_, hcl, by rw [hcs]; simp⟩, fun j e Δ' he2 ⟨c2, hΔ, hcl2, hcs2⟩ hmm2 => ?_, fun Δ' ⟨c2, hΔ, hcl2, hcs2⟩ => ?_⟩⟩
    · rw [List.range_zero, List.map_nil, List.append_nil] <;> rfl
    · subst hΔ
      have hj := (List.getElem?_eq_some_iff.mp he2).1
      rw [rng_len] at hj
      refine ⟨_, rfl, sq_seq <| sq_set <| EvN.ev <| evn_map (tg_two 9 10) (by simp) (fun d => match d with | .tuple [.int h, .int i] => .int (h + i) | _ => .none) <| evi_zipM <| eva_cons <| ev_var rfl <| eva_one <| ev_ix <| ev_ix <| ev_var rfl <| ev_int ⟨_, 1, _, rfl, rfl, rfl, ev_var rfl ⟨_, _, _, rfl, rfl, rowAt_at ⟨by omega, by omega⟩, _, _, rfl, ?_, fun d hd p np => ?_, ?_⟩⟩⟩
      · rw [List.length_zipWith, List.length_map, List.length_map]
        omega
      · obtain ⟨a, b, rfl⟩ := zip_mem hd
        exact ⟨_, rfl, ev_ii <| ev_var rfl <| ev_var rfl ⟨a, b, rfl, rfl, rfl⟩⟩
      · rw [zip_add _ (fun a b => rfl)]
        have zs := zip_sum (a := c2) (b := rowAt x.rows r.2.1) (by omega)
        have zl : (List.zipWith (fun h i => h + i) c2 (rowAt x.rows r.2.1)).length = c2.length := by
          rw [List.length_zipWith]
          omega
        generalize List.zipWith (fun h i => h + i) c2 (rowAt x.rows r.2.1) = c3 at zs zl
        have e5 : c3.sum = F0 + ((j : Int) + 1) * whs x.rows r.2.1 := by
          rw [zs, hcs2, Int.add_mul, Int.one_mul, Int.add_assoc] <;> rfl
        refine sq_append (t := t) (ds := (S0 :: (A0 ++ (List.range j).map fun (j : Nat) => F0 + ((j : Int) + 1) * whs x.rows r.2.1)).map .int) rfl <| ev_sum <| eva_one <| ev_var rfl ⟨c3, rfl, ?_, ?_⟩
        · rw [List.length_map, List.length_cons, List.length_append, List.length_map, List.length_range]
          omega
        · have e6 : (S0 :: (A0 ++ (List.range j).map fun (j : Nat) => F0 + ((j : Int) + 1) * whs x.rows r.2.1)).map PyData.int ++ [.int c3.sum] = (S0 :: (A0 ++ (List.range (j + 1)).map fun (j : Nat) => F0 + ((j : Int) + 1) * whs x.rows r.2.1)).map PyData.int := by
            rw [List.range_succ, e5]
            simp [List.map_append]
          rw [e6]
          refine back0 (A' := t :: A) (Δ0 := [.d (bookD x.m x.rows), .d (tupI x.bg), .d (wvT x.ts), .d (.list (c3.map .int)), .m t ((S0 :: (A0 ++ (List.range (j + 1)).map fun (j : Nat) => F0 + ((j : Int) + 1) * whs x.rows r.2.1)).map .int), .d (.int r.1), .d (.int r.2.1), .d (.int r.2.2), .no, .no, .no]) ?_ (own_set (Δ := [.d (bookD x.m x.rows), .d (tupI x.bg), .d (wvT x.ts), .d (.list (c3.map .int)), .m t ((S0 :: (A0 ++ (List.range j).map fun (j : Nat) => F0 + ((j : Int) + 1) * whs x.rows r.2.1)).map .int), .d (.int r.1), .d (.int r.2.1), .d (.int r.2.2), .no, .no, .no]) (i := 4) rfl fun k t' es he' => ?_) ⟨c3, rfl, by omega, by rw [e5]; rfl⟩
          · repeat first | exact Weak.nil | refine Weak.no ?_ | refine Weak.cons ?_
          · match k, he' with
            | 4, he' => cases he'; exact List.mem_cons_self
            | 0, he' | 1, he' | 2, he' | 3, he' | 5, he' | 6, he' | 7, he' | 8, he' | 9, he' | 10, he' => cases he'
    · subst hΔ
      rw [rng_len, ← snoc]
      rw [rng_len, show ((r.2.2.toNat : Nat) : Int) = r.2.2 by omega, ← fsn] at hcs2
      refine back0 (A' := t :: A) (Δ0 := [.d (bookD x.m x.rows), .d (tupI x.bg), .d (wvT x.ts), .d (.list (c2.map .int)), .m t ((S0 :: allT (whs x.rows) S0 (x.ts.take (i + 1))).map .int), .no, .no, .no, .no, .no, .no]) ?_ (fun k t' es he' => ?_) ⟨c2, rfl, hcl2, hcs2⟩
      · repeat first | exact Weak.nil | refine Weak.no ?_ | refine Weak.cons ?_
      · match k, he' with
        | 4, he' => cases he'; exact List.mem_cons_self
        | 0, he' | 1, he' | 2, he' | 3, he' | 5, he' | 6, he' | 7, he' | 8, he' | 9, he' | 10, he' => cases he'
  · subst hΔ
    refine sq_retM (t := t) (ds := (S0 :: allT (whs x.rows) S0 (x.ts.take (x.ts.map trD).length)).map .int) rfl ?_
    show R_lt x _
    unfold R_lt
    rw [List.length_map, List.take_length, hS]
theorem ok__law_ends (F : Fun K "_law_ends" "_law_ends" s__law_ends f fd) (g : Gb mg) : FnOk P w K mg base CX0 1 f fd p__law_ends (PX C_tb R_le) := by
  obtain ⟨m_isinstance, m_int, m_bool, m_tuple, m_len, m_enumerate, m_sum, m_range, m_list, m_repr, m_sorted, m_zip, m_min, m_max, m_any, m_abs, m_str⟩ := g
  have nd := sc__law_ends.nd
  refine F.ok sc__law_ends (px_len fun x ds ⟨e, _⟩ => by rw [e]; rfl) fun cdv A outer s H vs Q E hr h => ⟨_, (pss_cons (ps_par (i := 3) (j := 4) rfl nd rfl rfl (by decide) rfl rfl (pa_cons (pe_callB (show CallR _ _ (rSumT K) from cr_sumT rfl) (by rfl) m_sum (by decide +kernel) (pa_cons (pv 1) pa_nil)) (pa_cons (pe_lst pa_nil) pa_nil)) rfl)
      (pss_cons (ps_for PassesOwn.never rfl (pi_tup (pv 2)) (pg_tup rfl (pgs_cons (pg_name (i := 5) nd rfl (Or.inl rfl)) (pgs_cons (pg_name (i := 6) nd rfl (Or.inl rfl)) (pgs_cons (pg_name (i := 7) nd rfl (Or.inl rfl)) pgs_nil))))
        (pss_cons (ps_set (i := 8) nd rfl (Or.inl rfl) (pe_callB (show CallR _ _ (rSumT K) from cr_sumT rfl) (by rfl) m_sum (by decide +kernel) (pa_cons (pe_ix (show IxR _ (fun x y H Q => rIxL K x y H Q ∨ rIxT K x y H Q) from ix_list.or ix_tup) (pe_ix (show IxR _ (fun x y H Q => rIxL K x y H Q ∨ rIxT K x y H Q) from ix_list.or ix_tup) (pv 0) pe_int (fun _ _ => rfl)) (pv 6) (fun _ _ => rfl)) pa_nil)))
        (pss_cons (ps_expr (pe_bm PySem.F.plainAttrs_list PySem.F.slot_list_append PySem.F.type_list_append mt_append (pv 4) (pa_cons (pe_tup (pa_cons (pv 3) (pa_cons (pv 8) (pa_cons (pv 7) pa_nil)))) pa_nil)))
        (pss_one (ps_set (i := 3) nd rfl (Or.inl rfl) (pe_op op_add (pv 3) (pe_op op_mul (pv 7) (pv 8))))))))
      (pss_one (ps_ret (pe_op op_cat (pv 4) (pe_lst (pa_cons (pe_tup (pa_cons (pv 3) (pa_cons pe_int (pa_cons pe_int pa_nil)))) pa_nil))))))), enterX h fun A ds x ⟨e, ok⟩ => ?_⟩
  subst e
  have tl := ok.tl
  refine sq_seq <| sq_parDM (by decide) <| ev_sumT <| eva_one <| ev_var rfl ⟨x.bg, rfl, evn_lst <| eva_nil ⟨by simp, fun t nt => ?_⟩⟩
  generalize hS : x.bg.sum = S0
  refine sq_seq <| sq_for (tg_three 5 6 7) <| evi_tup <| ev_var rfl ⟨_, rfl, fun i Δ' => Δ' = [.d (bookD x.m x.rows), .d (tupI x.bg), .d (wvT x.ts), .d (.int (fin (whs x.rows) S0 (x.ts.take i))), .m t ((endsI (whs x.rows) S0 (x.ts.take i)).map trD), .no, .no, .no, .no], rfl, fun i e Δ' he hΔ hmm => ?_, fun Δ' hΔ => ?_⟩
  · subst hΔ
    obtain ⟨r, hr1, rfl⟩ := runs_get he
    have q := ok.tb r (List.mem_of_getElem? hr1)
    have wb := whs_bd ok (d := r.2.1) ⟨by omega, by omega⟩
    have hi := (List.getElem?_eq_some_iff.mp hr1).1
    refine ⟨_, rfl, sq_seq <| sq_set <| ev_sumT <| eva_one <| ev_ix <| ev_ix <| ev_var rfl <| ev_int ⟨_, 1, _, rfl, rfl, rfl, ev_var rfl ⟨_, _, _, rfl, rfl, rowAt_at ⟨by omega, by omega⟩, _, rfl, ?_⟩⟩⟩
    show Sq _ _ [.d (bookD x.m x.rows), .d (tupI x.bg), .d (wvT x.ts), .d (.int (fin (whs x.rows) S0 (x.ts.take i))), .m t ((endsI (whs x.rows) S0 (x.ts.take i)).map trD), .d (.int r.1), .d (.int r.2.1), .d (.int r.2.2), .d (.int (whs x.rows r.2.1))] _ _
    refine sq_seq <| sq_append (t := t) (ds := (endsI (whs x.rows) S0 (x.ts.take i)).map trD) rfl <| ev_tup <| eva_cons <| ev_var rfl <| eva_cons <| ev_var rfl <| eva_one <| ev_var rfl ⟨by simp, by rw [List.length_map, endsI_len, List.length_take]; omega, ?_⟩
    have e3 : (endsI (whs x.rows) S0 (x.ts.take i)).map trD ++ [.tuple [.int (fin (whs x.rows) S0 (x.ts.take i)), .int (whs x.rows r.2.1), .int r.2.2]] = (endsI (whs x.rows) S0 (x.ts.take (i + 1))).map trD := by
      rw [take_snoc hr1, endsI_snoc, List.map_append] <;> rfl
    rw [e3]
    refine sq_set <| ev_ii <| ev_var rfl <| ev_iic <| ev_var rfl <| ev_var rfl ⟨_, _, rfl, rfl, .inl ⟨by omega, by omega⟩, _, _, rfl, rfl, ?_⟩
    have fsn := fin_snoc (w := whs x.rows) (t := S0) (ts := x.ts.take i) (r := r)
    rw [← take_snoc hr1] at fsn
    rw [← fsn]
    refine back0 (A' := t :: A) (Δ0 := [.d (bookD x.m x.rows), .d (tupI x.bg), .d (wvT x.ts), .d (.int (fin (whs x.rows) S0 (x.ts.take (i + 1)))), .m t ((endsI (whs x.rows) S0 (x.ts.take (i + 1))).map trD), .no, .no, .no, .no]) ?_ (fun k t' es he' => ?_) rfl
    · repeat first | exact Weak.nil | refine Weak.no ?_ | refine Weak.cons ?_
    · match k, he' with
      | 4, he' => cases he'; exact List.mem_cons_self
      | 0, he' | 1, he' | 2, he' | 3, he' | 5, he' | 6, he' | 7, he' | 8, he' => cases he'
  · subst hΔ
    refine sq_ret <| EvN.ev <| evn_catM (t := t) (ds := (endsI (whs x.rows) S0 (x.ts.take (x.ts.map trD).length)).map trD) rfl <| ev_lst <| eva_one <| ev_tup <| eva_cons <| ev_var rfl <| eva_cons <| ev_int <| eva_one <| ev_int ⟨by simp, by simp, _, rfl, ?_, ?_⟩
    · rw [List.length_map, endsI_len, List.length_take, List.length_map]
      simp
      omega
    · show R_le x _
      unfold R_le
      rw [hS, List.length_map, List.take_length, ends_is, List.map_append] <;> rfl
theorem ok__law_is_among (F : Fun K "_law_is_among" "_law_is_among" s__law_is_among f fd) (g : Gb mg) : FnOk P w K mg base CX0 1 f fd p__law_is_among (PX C_am R_am) := by
  obtain ⟨m_isinstance, m_int, m_bool, m_tuple, m_len, m_enumerate, m_sum, m_range, m_list, m_repr, m_sorted, m_zip, m_min, m_max, m_any, m_abs, m_str⟩ := g
  have nd := sc__law_is_among.nd
  refine F.ok sc__law_is_among (px_len fun x ds ⟨e, _⟩ => by rw [e]; rfl) fun cdv A outer s H vs Q E hr h => ⟨_, (pss_cons (ps_for PassesOwn.never rfl (pi_list (pv 0)) (pg_tup rfl (pgs_cons (pg_name (i := 2) nd rfl (Or.inl rfl)) (pgs_cons (pg_name (i := 3) nd rfl (Or.inl rfl)) (pgs_cons (pg_name (i := 4) nd rfl (Or.inl rfl)) pgs_nil))))
        (pss_cons (ps_if (pt_cmpR op_eq (pv 1) (pv 2) (nomark _))
          (pss_one (ps_ret pe_bl))
          pss_nil)
        (pss_one (ps_if (PW.pt (pw_and (pt_cmpR op_ne (pv 3) pe_int (nomark _)) (pw_and (pt_cmpR op_eq (pe_op op_mod (pe_callTy call_int1 (by rfl) m_int (by decide +kernel) (pa_cons (pe_op op_sub (pv 1) (pv 2)) pa_nil)) (pe_callB call_abs (by rfl) m_abs (by decide +kernel) (pa_cons (pv 3) pa_nil))) pe_int (nomark _)) (pw_and1 (pt_chain op_le op_le pe_int (pe_op op_fdivN (pe_op op_sub (pv 1) (pv 2)) (pv 3)) (pv 4))))))
          (pss_one (ps_ret pe_bl))
          pss_nil))))
      (pss_one (ps_ret pe_bl))), enterX h fun A ds y ⟨e, he1, he2⟩ => ?_⟩
  obtain ⟨es, v⟩ := y
  dsimp only at e he1 he2
  subst e
  refine sq_seq <| sq_for (tg_three 2 3 4) <| evi_list <| ev_var rfl ⟨_, rfl, fun i Δ' => Δ' = [.d (.list (es.map trD)), .d (.int v), .no, .no, .no] ∧ among v es = among v (es.drop i), ⟨rfl, rfl⟩, fun i e Δ' he ⟨hΔ, ha⟩ hmm => ?_, fun Δ' ⟨hΔ, ha⟩ => ?_⟩
  · subst hΔ
    obtain ⟨r, hr1, rfl⟩ := runs_get he
    have b := he2 r (List.mem_of_getElem? hr1)
    obtain ⟨hi, er⟩ := List.getElem?_eq_some_iff.mp hr1
    rw [List.drop_eq_getElem_cons hi, er] at ha
    have ha2 : among v es = (decide (v = r.1) || (amStep v r || among v (es.drop (i + 1)))) := ha
    have yes : (decide (v = r.1) || amStep v r) = true → R_am (es, v) (.bool true) := fun h => by
      show PyData.bool true = .bool (among v es)
      rw [ha2, ← Bool.or_assoc, h, Bool.true_or]
    have step : (decide (v = r.1) || amStep v r) = false → among v es = among v (es.drop (i + 1)) := fun h => by
      rw [ha2, ← Bool.or_assoc, h, Bool.false_or]
    have nxt : (decide (v = r.1) || amStep v r) = false → Back A (fun Δ' => Δ' = [.d (.list (es.map trD)), .d (.int v), .no, .no, .no] ∧ among v es = among v (es.drop (i + 1))) A [.d (.list (es.map trD)), .d (.int v), .d (.int r.1), .d (.int r.2.1), .d (.int r.2.2)] := fun h => by
      refine back0 (Δ0 := [.d (.list (es.map trD)), .d (.int v), .no, .no, .no]) ?_ (no_m rfl) ⟨rfl, step h⟩
      repeat first | exact Weak.nil | refine Weak.no ?_ | refine Weak.cons ?_
    refine ⟨_, rfl, sq_seq <| sq_if <| evt_val <| ev_eq <| ev_var rfl <| ev_var rfl ⟨_, rfl, _, rfl, fun hz => ?_, fun hz => ?_⟩⟩
    · exact sq_ret <| ev_bl <| yes (by rw [hz, Bool.true_or])
    refine sq_next <| sq_if <| evt_and <| evt_val <| ev_ne <| ev_var rfl <| ev_int ⟨_, rfl, _, rfl, fun h1 => ?_, fun h1 => ⟨(fun z => nomatch z), fun _ => sq_next <| nxt ?_⟩⟩
    rotate_left
    · unfold amStep
      rw [hz, h1, Bool.false_and, Bool.or_false]
    have hne : r.2.1 ≠ 0 := by simpa using h1
    refine evt_and <| evt_val <| ev_eq <| ev_iic <| ev_intOf <| eva_one <| ev_ii <| ev_var rfl <| ev_var rfl ⟨v, r.1, rfl, rfl, _, rfl, ev_abs <| eva_one <| ev_var rfl ⟨r.2.1, rfl, _, _, rfl, rfl, by split <;> omega, ev_int ⟨_, rfl, _, rfl, fun h2 => ?_, fun h2 => ⟨(fun z => nomatch z), fun _ => sq_next <| nxt ?_⟩⟩⟩⟩
    rotate_left
    · unfold amStep
      rw [hz, h1, h2, Bool.false_and, Bool.and_false, Bool.or_false]
    refine evt_val <| ev_chain <| ev_int <| ev_iic <| ev_ii <| ev_var rfl <| ev_var rfl ⟨v, r.1, rfl, rfl, ev_var rfl ⟨_, _, rfl, rfl, ⟨hne, by omega⟩, 0, _, rfl, rfl, fun h3 => ev_var rfl ⟨_, rfl, _, rfl, fun h4 => ?_, fun h4 => sq_next <| nxt ?_⟩, fun h3 => ⟨_, rfl, (fun z => nomatch z), fun _ => sq_next <| nxt ?_⟩⟩⟩
    · refine sq_ret <| ev_bl <| yes ?_
      unfold amStep
      rw [h1, h2, h3, h4, Bool.true_and, Bool.true_and, Bool.true_and, Bool.or_true]
    · unfold amStep
      rw [hz, h1, h2, h3, h4, Bool.true_and, Bool.true_and, Bool.true_and, Bool.or_false]
    · unfold amStep
      rw [hz, h1, h2, h3, Bool.true_and, Bool.true_and, Bool.false_and, Bool.or_false]
  · subst hΔ
    rw [List.length_map, List.drop_length] at ha
    refine sq_ret <| ev_bl ?_
    show PyData.bool false = .bool (among v es)
    rw [ha] <;> rfl
theorem ok__law_numbers (F : Fun K "_law_numbers" "_law_numbers" s__law_numbers f fd) (g : Gb mg) (h__law_draw : Has P w K mg base 1 "_law_draw" p__law_draw (PS C_draw R_draw)) (h__law_mixed : Has P w K mg base 2 "_law_mixed" p__law_mixed (PS C_mxd R_mxd)) : FnOk P w K mg base CX0 3 f fd p__law_numbers (PS C_nb R_nb) := by
  obtain ⟨m_isinstance, m_int, m_bool, m_tuple, m_len, m_enumerate, m_sum, m_range, m_list, m_repr, m_sorted, m_zip, m_min, m_max, m_any, m_abs, m_str⟩ := g
  have nd := sc__law_numbers.nd
  refine F.ok sc__law_numbers (ps_len fun ds ⟨_, e, _⟩ => by rw [e]; rfl) fun cdv A outer sh H vs Q E hr h => ⟨_, (pss_cons (ps_set (i := 2) nd rfl (Or.inl rfl) (pe_lst pa_nil))
      (pss_cons (ps_for PassesOwn.never rfl (pi_list (pe_op op_cat (pe_slice sl_list (pv 1) po_none (po_some pe_int)) (pe_slice sl_list (pe_h h__law_mixed hr (by rfl) (pa_cons (pv 0) (pa_cons (pv 1) pa_nil))) po_none (po_some pe_int)))) (pg_tup rfl (pgs_cons (pg_name (i := 3) nd rfl (Or.inl rfl)) (pgs_cons (pg_name (i := 4) nd rfl (Or.inl rfl)) (pgs_cons (pg_name (i := 5) nd rfl (Or.inl rfl)) pgs_nil))))
        (pss_cons (ps_set (i := 6) nd rfl (Or.inl rfl) (pe_op op_add (pv 3) (pe_op op_mul (pv 4) (pe_h h__law_draw (hr.mono (by decide)) (by rfl) (pa_cons (pv 0) (pa_cons (pe_op op_add (pe_callB (call_min2 rfl) (by rfl) m_min (by decide +kernel) (pa_cons (pv 5) (pa_cons pe_int pa_nil))) pe_int) pa_nil))))))
        (pss_cons (ps_set (i := 2) nd rfl (Or.inl rfl) (pe_op op_cat (pv 2) (pe_lst (pa_cons (pv 3) (pa_cons (pv 6) (pa_cons (pe_op op_add (pv 6) pe_int) (pa_cons (pe_op op_sub (pv 6) pe_int) (pa_cons (pe_op op_add (pv 3) (pe_op op_mul (pv 4) (pv 5))) (pa_cons (pe_op op_sub (pv 3) (pv 4)) pa_nil)))))))))
        (pss_one (ps_expr (pe_bm PySem.F.plainAttrs_list PySem.F.slot_list_append PySem.F.type_list_append mt_append (pv 2) (pa_cons (pe_op op_add (pv 3) (pe_op op_mul (pv 4) (pe_op op_add (pv 5) pe_int))) pa_nil)))))))
      (pss_cons (ps_set (i := 7) nd rfl (Or.inl rfl) (pe_op op_mulW (pe_op op_mulW (pe_op op_mulW (pe_op op_mulW (pe_op op_mulW (pe_op op_mulW (pe_op op_pow pe_int pe_int) (pe_op op_pow pe_int pe_int)) (pe_op op_pow pe_int pe_int)) (pe_op op_pow pe_int pe_int)) (pe_op op_pow pe_int pe_int)) (pe_op op_pow pe_int pe_int)) (pe_op op_pow pe_int pe_int)))
      (pss_one (ps_ret (pe_op op_cat (pv 2) (pe_lst (pa_cons pe_int (pa_cons pe_int (pa_cons (pe_op op_pow pe_int pe_int) (pa_cons (pe_un un_neg (pe_op op_pow pe_int pe_int)) (pa_cons (pv 7) (pa_cons (pe_un un_neg (pv 7)) pa_nil))))))))))))), enterS h fun s g f A ds ⟨es, e, el, eb⟩ => ?_⟩
  subst e
  refine sq_seq <| sq_setM <| evn_lst <| eva_nil ⟨by simp, fun t0 nt0 => ?_⟩
  refine sq_seq <| sq_forX (tg_three 3 4 5) <| evi_list <| EvN.ev <| evn_cat <| EvN.ev <| evn_slL (fun _ _ _ _ _ h => h) <| ev_var rfl <| evo_none <| evo_some <| ev_int ⟨1, rfl, _, rfl, EvN.ev <| evn_slL (fun _ _ _ _ _ h => h) <| ev_callS rfl <| eva_one <| ev_var rfl ⟨⟨_, es.map trD, rfl, rfl, by rw [List.length_map]; omega, fun y hy => by
    obtain ⟨r, _, rfl⟩ := List.mem_map.mp hy
    exact flat_tr r⟩, fun d hd => ?_⟩⟩
  obtain ⟨es', ms, ee, rfl, pm⟩ := hd
  cases ee
  refine evo_none <| evo_some <| ev_int ⟨5, rfl, ms, rfl, _, _, rfl, rfl, ?_, ?_⟩
  · have c1 := cutD_len (es := es.map trD) (lo := none) (hi := some 1)
    have c2 := cutD_len (es := ms) (lo := none) (hi := some 5)
    rw [pm.length_eq] at c2
    rw [List.length_map] at c1 c2
    omega
  have xm : ∀ y ∈ Dl.cutD (es.map trD) none (some 1) ++ Dl.cutD ms none (some 5), ∃ r ∈ es, y = trD r := fun y hy => by
    rcases List.mem_append.mp hy with h | h
    · obtain ⟨r, hr, rfl⟩ := List.mem_map.mp (cutD_mem h)
      exact ⟨r, hr, rfl⟩
    · obtain ⟨r, hr, rfl⟩ := List.mem_map.mp (pm.mem_iff.mp (cutD_mem h))
      exact ⟨r, hr, rfl⟩
  have xl : (Dl.cutD (es.map trD) none (some 1) ++ Dl.cutD ms none (some 5)).length ≤ 6 := by
    rw [List.length_append, show Dl.cutD (es.map trD) none (some 1) = _ from cut_to 1, show Dl.cutD ms none (some 5) = _ from cut_to 5, List.length_take, List.length_take]
    omega
  generalize Dl.cutD (es.map trD) none (some 1) ++ Dl.cutD ms none (some 5) = xs at xm xl
  refine ⟨xs, rfl, fun i A' Δ' => ∃ t, ∃ ns : List Int, Δ' = [.v (.ref s), .d (.list (es.map trD)), .m t (ns.map .int), .no, .no, .no, .no, .no] ∧ ns.length = 7 * i, ⟨t0, [], rfl, rfl⟩, fun i e A' Δ' sub he ⟨t, ns, hΔ, hl⟩ => ?_, fun A' Δ' sub ⟨t, ns, hΔ, hl⟩ => ?_⟩
  · subst hΔ
    obtain ⟨r, hr1, rfl⟩ := xm e (List.mem_of_getElem? he)
    have hi := (List.getElem?_eq_some_iff.mp he).1
    have b := eb r hr1
    refine ⟨_, rfl, sq_seq <| sq_set <| ev_ii <| ev_var rfl <| ev_iic <| ev_var rfl <| ev_callS rfl <| eva_one <| ev_ii <| ev_min2 <| eva_cons <| ev_var rfl <| eva_one <| ev_int ⟨_, 100000, rfl, ev_int ⟨_, 1, rfl, rfl, ⟨_, rfl, by omega, by omega⟩, fun d hd => ?_⟩⟩⟩
    obtain ⟨c, rfl, c1, c2⟩ := hd
    refine ⟨_, _, rfl, rfl, .inl ⟨by omega, by omega⟩, _, _, rfl, rfl, ?_⟩
    generalize r.1 + r.2.1 * c = am
    refine sq_seq <| sq_setM <| evn_catM (t := t) (ds := ns.map .int) rfl <| ev_lst <| eva_cons <| ev_var rfl <| eva_cons <| ev_var rfl <| eva_cons <| ev_ii <| ev_var rfl <| ev_int ⟨am, 1, rfl, rfl, eva_cons <| ev_ii <| ev_var rfl <| ev_int ⟨am, 1, rfl, rfl, eva_cons <| ev_ii <| ev_var rfl <| ev_iic <| ev_var rfl <| ev_var rfl ⟨_, _, rfl, rfl, .inl ⟨by omega, by omega⟩, _, _, rfl, rfl, eva_one <| ev_ii <| ev_var rfl <| ev_var rfl ⟨_, _, rfl, rfl, by simp, _, rfl, by rw [List.length_map]; simp; omega, fun t2 nt2 => ?_⟩⟩⟩⟩
    have e3 : ns.map PyData.int ++ [.int r.1, .int am, .int (am + 1), .int (am - 1), .int (r.1 + r.2.1 * r.2.2), .int (r.1 - r.2.1)] = (ns ++ [r.1, am, am + 1, am - 1, r.1 + r.2.1 * r.2.2, r.1 - r.2.1]).map PyData.int := by rw [List.map_append] <;> rfl
    rw [e3]
    refine sq_append (t := t2) (ds := (ns ++ [r.1, am, am + 1, am - 1, r.1 + r.2.1 * r.2.2, r.1 - r.2.1]).map PyData.int) rfl <| ev_ii <| ev_var rfl <| ev_iic <| ev_var rfl <| ev_ii <| ev_var rfl <| ev_int ⟨_, 1, rfl, rfl, _, _, rfl, rfl, .inl ⟨by omega, by omega⟩, _, _, rfl, rfl, by rw [List.length_map, List.length_append]; simp; omega, ?_⟩
    have e4 : (ns ++ [r.1, am, am + 1, am - 1, r.1 + r.2.1 * r.2.2, r.1 - r.2.1]).map PyData.int ++ [.int (r.1 + r.2.1 * (r.2.2 + 1))] = (ns ++ [r.1, am, am + 1, am - 1, r.1 + r.2.1 * r.2.2, r.1 - r.2.1, r.1 + r.2.1 * (r.2.2 + 1)]).map PyData.int := by rw [List.map_append, List.map_append, List.append_assoc] <;> rfl
    rw [e4]
    refine ⟨[.v (.ref s), .d (.list (es.map trD)), .m t2 ((ns ++ [r.1, am, am + 1, am - 1, r.1 + r.2.1 * r.2.2, r.1 - r.2.1, r.1 + r.2.1 * (r.2.2 + 1)]).map .int), .no, .no, .no, .no, .no], ?_, t2, _, rfl, by rw [List.length_append, hl]; simp; omega⟩
    repeat first | exact Weak.nil | refine Weak.no ?_ | refine Weak.cons ?_
  · subst hΔ
    obtain ⟨f1, f2, f3, f4, f5, f6⟩ := far_ok
    refine sq_seq <| sq_set <| ev_iic <| ev_iic <| ev_iic <| ev_iic <| ev_iic <| ev_iic <| ev_iic <| ev_int <| ev_int ⟨10, 57, rfl, rfl, ⟨by decide, by decide, by decide⟩, ev_iic <| ev_int <| ev_int ⟨10, 57, rfl, rfl, ⟨by decide, by decide, by decide⟩, p57, p57, rfl, rfl, f1, ev_iic <| ev_int <| ev_int ⟨10, 57, rfl, rfl, ⟨by decide, by decide, by decide⟩, _, p57, rfl, rfl, f2, ev_iic <| ev_int <| ev_int ⟨10, 57, rfl, rfl, ⟨by decide, by decide, by decide⟩, _, p57, rfl, rfl, f3, ev_iic <| ev_int <| ev_int ⟨10, 57, rfl, rfl, ⟨by decide, by decide, by decide⟩, _, p57, rfl, rfl, f4, ev_iic <| ev_int <| ev_int ⟨10, 57, rfl, rfl, ⟨by decide, by decide, by decide⟩, _, p57, rfl, rfl, f5, ev_iic <| ev_int <| ev_int ⟨10, 57, rfl, rfl, ⟨by decide, by decide, by decide⟩, _, p57, rfl, rfl, f6, ?_⟩⟩⟩⟩⟩⟩⟩
    generalize p57 * p57 * p57 * p57 * p57 * p57 * p57 = fr
    refine sq_ret <| EvN.ev <| evn_catM (t := t) (ds := ns.map .int) rfl <| ev_lst <| eva_cons <| ev_int <| eva_cons <| ev_int <| eva_cons <| ev_iic <| ev_int <| ev_int ⟨10, 30, rfl, rfl, ⟨by decide, by decide, by decide⟩, eva_cons <| ev_neg <| ev_iic <| ev_int <| ev_int ⟨10, 30, rfl, rfl, ⟨by decide, by decide, by decide⟩, _, rfl, eva_cons <| ev_var rfl <| eva_one <| ev_neg <| ev_var rfl ⟨fr, rfl, by simp, _, rfl, by rw [List.length_map]; simp; omega, ns ++ [0, 1, 10 ^ (30 : Int).toNat, -10 ^ (30 : Int).toNat, fr, -fr], by rw [List.map_append] <;> rfl, by rw [List.length_append, hl]; simp; omega⟩⟩⟩
end
end K08

/-! the law k08: what is told, the law itself -/
namespace K08
open PySem PySem.Spec PyProof.Rows L2 Dl
structure Tl where
  x : Rx
  mn : Int
  mx : Int
  vs : List Int
abbrev vsD (x : Rx) (vs : List Int) : PyData := .list (vs.map fun v => .tuple [.int v, .bool (metD x (.int v))])
abbrev C_tl8 (y : Tl) (ds : List PyData) : Prop := ds = [bookD y.x.m y.x.rows, ordOf y.x.nss, tupI y.x.bg, wvT y.x.ts, .tuple [.int y.mn, .int y.mx], vsD y.x y.vs] ∧ y.x.Ok ∧ IsMin y.mn (tots (whs y.x.rows) y.x.bg.sum y.x.ts) ∧ IsMax y.mx (tots (whs y.x.rows) y.x.bg.sum y.x.ts) ∧ y.vs.length ≤ 1000
def R_tt {Y : Type} (_ : Y) (r : PyData) : Prop := r = .bool true
theorem vs_get {x : Rx} {vs : List Int} {i : Nat} {d : PyData} (h : (vs.map fun v => PyData.tuple [.int v, .bool (metD x (.int v))])[i]? = some d) : ∃ v, vs[i]? = some v ∧ d = .tuple [.int v, .bool (metD x (.int v))] := by
  rw [List.getElem?_map] at h
  cases q : vs[i]? with
  | none => rw [q] at h; cases h
  | some t => rw [q] at h; cases h; exact ⟨t, rfl, rfl⟩
theorem filt_no (l : List PyData) (c : PyData) : (l.filter fun _ => false).map (fun _ => c) = ([] : List Int).map .int := by
  rw [List.filter_eq_nil_iff.mpr (fun _ _ => Bool.false_ne_true)] <;> rfl
theorem four_at {i : Nat} (h : i < 4) : ∃ c : Int, Dl.atD [.int 8, .int 5, .int 3, .int 2] (i : Nat) = some (.int c) ∧ 1 ≤ c ∧ c ≤ 8 := by
  match i, h with
  | 0, _ => exact ⟨8, at_at (k := 0) rfl, by decide, by decide⟩
  | 1, _ => exact ⟨5, at_at (k := 1) rfl, by decide, by decide⟩
  | 2, _ => exact ⟨3, at_at (k := 2) rfl, by decide, by decide⟩
  | 3, _ => exact ⟨2, at_at (k := 3) rfl, by decide, by decide⟩
section
variable {P : Program} {w : World} {K : PySem.W.Frag} {mg : Str → Option Value} {base : Heap} {f : Addr} {fd : FuncData} {k : Nat}
theorem ok__law_is_told (F : Fun K "_law_is_told" "_law_is_told" s__law_is_told f fd) (g : Gb mg) (h_span_met : Has P w K mg base 3 "span_met" p_span_met (PX C_rx R_sp)) (hk_span_met : HasK P w K mg base 3 "span_met" p_span_met ["begin", "weaving", "order", "book"] (gPerm 4 [3, 2, 0, 1]) (PX C_rx R_sp))
    (h_is_met : Has P w K mg base 3 "is_met" p_is_met (PX C_im R_im)) (hk_is_met : HasK P w K mg base 3 "is_met" p_is_met ["value", "weaving", "begin", "order", "book"] (gPerm 5 [4, 3, 2, 1, 0]) (PX C_im R_im)) : FnG P w K mg base 4 f fd p__law_is_told (PX C_tl8 R_tt) := by
  obtain ⟨m_isinstance, m_int, m_bool, m_tuple, m_len, m_enumerate, m_sum, m_range, m_list, m_repr, m_sorted, m_zip, m_min, m_max, m_any, m_abs, m_str⟩ := g
  have nd := sc__law_is_told.nd
  refine fng F sc__law_is_told (px_len fun x ds ⟨e, _⟩ => by rw [e]; rfl) fun cdv A outer s H vs Q hgd hr h => ⟨_, (pss_cons (ps_set (i := 6) nd rfl (Or.inl rfl) (pe_callB (call_repD hgd (Nat.lt_of_le_of_lt (Nat.add_le_add_left (by decide) _) hr.un)) (by rfl) m_repr (by decide +kernel) (pa_cons (pe_lst (pa_cons (pv 0) (pa_cons (pv 1) (pa_cons (pv 2) (pa_cons (pv 3) pa_nil))))) pa_nil)))
      (pss_cons (ps_set (i := 7) nd rfl (Or.inl rfl) (pe_lst (pa_cons (pe_h h_span_met hr (by rfl) (pa_cons (pv 0) (pa_cons (pv 1) (pa_cons (pv 2) (pa_cons (pv 3) pa_nil))))) (pa_cons (pe_hk hk_span_met hr (by rfl) (pk_cons (pv 2) (pk_cons (pv 3) (pk_cons (pv 1) (pk_cons (pv 0) pk_nil))))) pa_nil))))
      (pss_cons (ps_if (pt_cmpR op_ne (pe_callB (call_repD hgd (Nat.lt_of_le_of_lt (Nat.add_le_add_left (by decide) _) hr.un)) (by rfl) m_repr (by decide +kernel) (pa_cons (pv 7) pa_nil)) (pe_callB (call_repD hgd (Nat.lt_of_le_of_lt (Nat.add_le_add_left (by decide) _) hr.un)) (by rfl) m_repr (by decide +kernel) (pa_cons (pe_lst (pa_cons (pv 4) (pa_cons (pv 4) pa_nil))) pa_nil)) (nomark _))
        (pss_one (ps_ret pe_bl))
        pss_nil)
      (pss_cons (ps_for PassesOwn.never rfl (pi_enum (by rfl) m_enumerate (pa_cons (pv 5) pa_nil)) (pg_tup rfl (pgs_cons (pg_name (i := 8) nd rfl (Or.inl rfl)) (pgs_cons (pg_tup rfl (pgs_cons (pg_name (i := 9) nd rfl (Or.inl rfl)) (pgs_cons (pg_name (i := 10) nd rfl (Or.inl rfl)) pgs_nil))) pgs_nil)))
        (pss_cons (ps_set (i := 11) nd rfl (Or.inl rfl) (pe_h h_is_met hr (by rfl) (pa_cons (pv 0) (pa_cons (pv 1) (pa_cons (pv 2) (pa_cons (pv 3) (pa_cons (pv 9) pa_nil)))))))
        (pss_cons (ps_if (pt_cmpR op_eq (pe_op op_mod (pv 8) pe_int) pe_int (nomark _))
          (pss_one (ps_set (i := 11) nd rfl (Or.inl rfl) (pe_hk hk_is_met hr (by rfl) (pk_cons (pv 9) (pk_cons (pv 3) (pk_cons (pv 2) (pk_cons (pv 1) (pk_cons (pv 0) pk_nil))))))))
          pss_nil)
        (pss_one (ps_if (pt_cmpR op_ne (pe_callB (call_repD hgd (Nat.lt_of_le_of_lt (Nat.add_le_add_left (by decide) _) hr.un)) (by rfl) m_repr (by decide +kernel) (pa_cons (pv 11) pa_nil)) (pe_callB (call_repD hgd (Nat.lt_of_le_of_lt (Nat.add_le_add_left (by decide) _) hr.un)) (by rfl) m_repr (by decide +kernel) (pa_cons (pv 10) pa_nil)) (nomark _))
          (pss_one (ps_ret pe_bl))
          pss_nil)))))
      (pss_cons (ps_set (i := 12) nd rfl (Or.inl rfl) (pe_callB (show CallR _ _ (rSumT K) from cr_sumT rfl) (by rfl) m_sum (by decide +kernel) (pa_cons (pv 2) pa_nil)))
      (pss_cons (ps_set (i := 13) nd rfl (Or.inl rfl) (pe_lst (pa_cons pe_non (pa_cons pe_bl (pa_cons pe_bl (pa_cons (pe_callTy call_str_int (by rfl) m_str (by decide +kernel) (pa_cons (pv 12) pa_nil)) (pa_cons (pe_tup (pa_cons (pv 12) pa_nil)) (pa_cons (pe_lst (pa_cons (pv 12) pa_nil)) (pa_cons pe_dnewK (pa_cons (pe_tup pa_nil) (pa_cons pe_str pa_nil)))))))))))
      (pss_cons (ps_if (pt_cmpR (show OpR _ _ (rNeD K) from op_neD hr.units) (pe_lc (own := [("value", 9)]) (g := gName 9) rfl nd (pi_list (pv 13)) (blkOk_by (N := N__law_is_told) (sc := defScope s__law_is_told) (by decide +kernel)) (fun _ _ _ _ _ => (pg_name (i := 9) nd rfl (Or.inl rfl))) (fun _ _ _ _ _ => (pts_one (pt_cmpR op_notBl (pe_h h_is_met hr (by rfl) (pa_cons (pv 0) (pa_cons (pv 1) (pa_cons (pv 2) (pa_cons (pv 3) (pa_cons (pv 9) pa_nil)))))) pe_bl (nomark _)))) (fun _ _ _ _ _ => pe_int)) (pe_lst pa_nil) (nomark _))
        (pss_one (ps_ret pe_bl))
        pss_nil)
      (pss_one (ps_ret (pe_cmpR op_eq (pe_callB (call_repD hgd (Nat.lt_of_le_of_lt (Nat.add_le_add_left (by decide) _) hr.un)) (by rfl) m_repr (by decide +kernel) (pa_cons (pe_lst (pa_cons (pv 0) (pa_cons (pv 1) (pa_cons (pv 2) (pa_cons (pv 3) pa_nil))))) pa_nil)) (pv 6) (nomark _))))))))))), enterX h fun A ds y ⟨e, ok, hmn, hmx, vl⟩ => ?_⟩
  obtain ⟨x, mn, mx, vs⟩ := y
  dsimp only at e ok hmn hmx vl
  subst e
  have cx : C_rx x (rxD x) := ⟨rfl, ok⟩
  have b60 := big60
  have b1 := ok.tb2 mn hmn.1
  have b2 := ok.tb2 mx hmx.1
  have rS : ∀ {d}, R_sp x d → d = .tuple [.int mn, .int mx] := fun {d} h => by
    obtain ⟨a, b, rfl, ha, hb⟩ := h
    rw [ha.uniq hmn, hb.uniq hmx]
  have shS : Shw (.list [.tuple [.int mn, .int mx], .tuple [.int mn, .int mx]]) := by
    have h1 : Sm 3 (.tuple [.int mn, .int mx]) := .tup (by simp) fun y hy => by
      simp only [List.mem_cons, List.not_mem_nil, or_false] at hy
      rcases hy with rfl | rfl <;> exact .int (by omega) (by omega)
    exact Sm.shw (.lst (by simp) fun y hy => by
      simp only [List.mem_cons, List.not_mem_nil, or_false] at hy
      rcases hy with rfl | rfl <;> exact h1)
  have shB : ∀ b : Bool, Shw (.bool b) := fun b => Sm.shw (.bl b)
  refine sq_seq <| sq_set <| ev_repr <| eva_one <| ev_lst <| eva_cons <| ev_var rfl <| eva_cons <| ev_var rfl <| eva_cons <| ev_var rfl <| eva_one <| ev_var rfl ⟨by simp, _, rfl, ok.sz, ?_⟩
  refine sq_seq <| sq_set <| ev_lst <| eva_cons <| ev_callX <| eva_cons <| ev_var rfl <| eva_cons <| ev_var rfl <| eva_cons <| ev_var rfl <| eva_one <| ev_var rfl ⟨x, cx, fun d1 hr1 => eva_one <| ev_callKX (gPerm 4 [3, 2, 0, 1]) (dta_perm _ _) <| eva_nil <| eva_cons <| ev_var rfl <| eva_cons <| ev_var rfl <| eva_cons <| ev_var rfl <| eva_one <| ev_var rfl ⟨x, cx, fun d2 hr2 => ⟨by simp, ?_⟩⟩⟩
  obtain rfl := rS hr1
  obtain rfl := rS hr2
  refine sq_seq <| sq_if <| evt_val <| ev_ne <| ev_repr <| eva_one <| ev_var rfl ⟨_, rfl, shS, ev_repr <| eva_one <| ev_lst <| eva_cons <| ev_var rfl <| eva_one <| ev_var rfl ⟨by simp, _, rfl, shS, _, rfl, _, rfl, fun hz => ?_, fun _ => ?_⟩⟩
  · exfalso
    simp at hz
  refine sq_next <| sq_seq <| sq_for (tg_oneTwo 8 9 10) <| evi_enumL <| eva_one <| ev_var rfl ⟨_, rfl, fun _ Δ' => Δ' = [.d (bookD x.m x.rows), .d (ordOf x.nss), .d (tupI x.bg), .d (wvT x.ts), .d (.tuple [.int mn, .int mx]), .d (vsD x vs), .d (.str (PyData.list (rxD x)).shown), .d (.list [.tuple [.int mn, .int mx], .tuple [.int mn, .int mx]]), .no, .no, .no, .no, .no, .no], rfl, fun i e Δ' he hΔ hmm => ?_, fun Δ' hΔ => ?_⟩
  · subst hΔ
    obtain ⟨d, hd, rfl⟩ := enum_inv he
    obtain ⟨v, hv, rfl⟩ := vs_get hd
    have cm : C_im (x, .int v) [bookD x.m x.rows, ordOf x.nss, tupI x.bg, wvT x.ts, .int v] := ⟨rfl, ok⟩
    refine ⟨_, rfl, sq_seq <| sq_set <| ev_callX <| eva_cons <| ev_var rfl <| eva_cons <| ev_var rfl <| eva_cons <| ev_var rfl <| eva_cons <| ev_var rfl <| eva_one <| ev_var rfl ⟨(x, .int v), cm, fun d hd => ?_⟩⟩
    obtain rfl : d = .bool (metD x (.int v)) := hd
    refine sq_seq <| sq_if <| evt_val <| ev_eq <| ev_iic <| ev_var rfl <| ev_int ⟨_, 4, rfl, rfl, by decide, ev_int ⟨_, rfl, _, rfl, fun _ => sq_set <| ev_callKX (gPerm 5 [4, 3, 2, 1, 0]) (dta_perm _ _) <| eva_nil <| eva_cons <| ev_var rfl <| eva_cons <| ev_var rfl <| eva_cons <| ev_var rfl <| eva_cons <| ev_var rfl <| eva_one <| ev_var rfl ⟨(x, .int v), cm, fun d hd => ?_⟩, fun _ => sq_next ?_⟩⟩
    · obtain rfl : d = .bool (metD x (.int v)) := hd
      refine sq_if <| evt_val <| ev_ne <| ev_repr <| eva_one <| ev_var rfl ⟨_, rfl, shB _, ev_repr <| eva_one <| ev_var rfl ⟨_, rfl, shB _, _, rfl, _, rfl, fun hz => ?_, fun _ => sq_next ?_⟩⟩
      · exfalso
        simp at hz
      · refine back0 (A' := A) (Δ0 := [.d (bookD x.m x.rows), .d (ordOf x.nss), .d (tupI x.bg), .d (wvT x.ts), .d (.tuple [.int mn, .int mx]), .d (vsD x vs), .d (.str (PyData.list (rxD x)).shown), .d (.list [.tuple [.int mn, .int mx], .tuple [.int mn, .int mx]]), .no, .no, .no, .no, .no, .no]) ?_ (no_m rfl) rfl
        repeat first | exact Weak.nil | refine Weak.no ?_ | refine Weak.cons ?_
    · refine sq_if <| evt_val <| ev_ne <| ev_repr <| eva_one <| ev_var rfl ⟨_, rfl, shB _, ev_repr <| eva_one <| ev_var rfl ⟨_, rfl, shB _, _, rfl, _, rfl, fun hz => ?_, fun _ => sq_next ?_⟩⟩
      · exfalso
        simp at hz
      · refine back0 (A' := A) (Δ0 := [.d (bookD x.m x.rows), .d (ordOf x.nss), .d (tupI x.bg), .d (wvT x.ts), .d (.tuple [.int mn, .int mx]), .d (vsD x vs), .d (.str (PyData.list (rxD x)).shown), .d (.list [.tuple [.int mn, .int mx], .tuple [.int mn, .int mx]]), .no, .no, .no, .no, .no, .no]) ?_ (no_m rfl) rfl
        repeat first | exact Weak.nil | refine Weak.no ?_ | refine Weak.cons ?_
  · subst hΔ
    have sb := sum_bd (b := 1000000000) (by decide) x.bg ok.bb
    have l1 := ok.bl
    have m8 := ok.m8
    have lg : x.bg.sum.natAbs.log2 < 1920 := by
      by_cases h0 : x.bg.sum.natAbs = 0
      · rw [h0]; decide
      · have := (Nat.log2_lt (k := 64) h0).mpr (by omega)
        omega
    refine sq_seq <| sq_set <| ev_sumT <| eva_one <| ev_var rfl ⟨x.bg, rfl, ?_⟩
    refine sq_seq <| sq_set <| ev_lst <| eva_cons <| ev_non <| eva_cons <| ev_bl <| eva_cons <| ev_bl <| eva_cons <| ev_strOf <| eva_one <| ev_var rfl ⟨_, rfl, lg, eva_cons <| ev_tup <| eva_one <| ev_var rfl ⟨by simp, eva_cons <| ev_lst <| eva_one <| ev_var rfl ⟨by simp, eva_cons <| ev_dict <| eva_cons <| ev_tup <| eva_nil ⟨by simp, eva_one <| ev_str ⟨by simp, ?_⟩⟩⟩⟩⟩
    refine sq_seq <| sq_if <| evt_val <| ev_neD <| EvN.ev <| evn_filt (tg_name 9) (by simp) (fun _ => false) (fun _ => .int 1) <| evi_list <| ev_var rfl ⟨_, rfl, by simp, fun d hd p np => ?_, ?_⟩
    · have hm : metD x d = false := by
        simp only [List.mem_cons, List.not_mem_nil, or_false] at hd
        rcases hd with rfl | rfl | rfl | rfl | rfl | rfl | rfl | rfl | rfl <;> rfl
      refine ⟨_, rfl, evt_val <| ev_notB <| ev_callX <| eva_cons <| ev_var rfl <| eva_cons <| ev_var rfl <| eva_cons <| ev_var rfl <| eva_cons <| ev_var rfl <| eva_one <| ev_var rfl ⟨(x, d), ⟨rfl, ok⟩, fun r hr => ev_bl ⟨_, false, hr, rfl, _, rfl, ?_, fun _ => ev_int rfl⟩⟩⟩
      rw [hm] <;> rfl
    rw [filt_no]
    refine ev_lst <| eva_nil ⟨by simp, shaped_ints _, shaped_ints [], ?_⟩
    rw [eqv_nil_ints]
    refine ⟨_, rfl, (fun z => nomatch z), fun _ => ?_⟩
    refine sq_next <| sq_ret <| ev_eq <| ev_repr <| eva_one <| ev_lst <| eva_cons <| ev_var rfl <| eva_cons <| ev_var rfl <| eva_cons <| ev_var rfl <| eva_one <| ev_var rfl ⟨by simp, _, rfl, ok.sz, ev_var rfl ⟨_, rfl, ?_⟩⟩
    show PyData.bool _ = .bool true
    rw [decide_eq_true rfl]
end
end K08

/-! the law k08: the law itself -/
namespace K08
open PySem PySem.Spec PyProof.Rows L2 Dl
theorem ends_small {x : Rx} (ok : x.Ok) : (ends (whs x.rows) x.bg.sum x.ts).length ≤ 201 ∧ ∀ e ∈ ends (whs x.rows) x.bg.sum x.ts, -1000 ≤ e.2.1 ∧ e.2.1 ≤ 1000 ∧ 0 ≤ e.2.2 ∧ e.2.2 ≤ 1000000 := by
  refine ⟨by rw [ends_len]; have := ok.tl; omega, fun e he => ?_⟩
  rcases (ends_mem he).2 with ⟨h1, h2⟩ | ⟨r, hr, h1, h2⟩
  · omega
  · have b := ok.tb r hr
    have wb := whs_bd ok (d := r.2.1) ⟨b.2.2.1, b.2.2.2.1⟩
    rw [h1, h2]
    omega
theorem map_vals (x : Rx) (f : PyData → PyData) (hf : ∀ v : Int, f (.int v) = .tuple [.int v, .bool (metD x (.int v))]) (vs : List Int) : (vs.map PyData.int).map f = vs.map fun v => PyData.tuple [.int v, .bool (metD x (.int v))] := by
  rw [List.map_map]
  exact List.map_congr_left fun v _ => hf v
section
variable {P : Program} {w : World} {K : PySem.W.Frag} {mg : Str → Option Value} {base : Heap} {f : Addr} {fd : FuncData} {k : Nat}
theorem ok_law (F : Fun K "law" "law" s_law f fd) (g : Gb mg) (h__law_stock : Has P w K mg base 1 "_law_stock" p__law_stock (spStock K)) (h__law_draw : Has P w K mg base 1 "_law_draw" p__law_draw (PS C_draw R_draw)) (h__law_pick : Has P w K mg base 2 "_law_pick" p__law_pick (PS C_pick R_pick)) (h__law_book : Has P w K mg base 4 "_law_book" p__law_book (PS C_book R_book))
    (h__law_order : Has P w K mg base 3 "_law_order" p__law_order (PS C_ordr R_ordr)) (h__law_begin : Has P w K mg base 3 "_law_begin" p__law_begin (PS C_drow R_bg)) (h__law_weaving : Has P w K mg base 3 "_law_weaving" p__law_weaving (PS C_wv R_wv)) (h__law_totals : Has P w K mg base 1 "_law_totals" p__law_totals (PX C_lt R_lt)) (h__law_ends : Has P w K mg base 1 "_law_ends" p__law_ends (PX C_tb R_le))
    (h__law_is_among : Has P w K mg base 1 "_law_is_among" p__law_is_among (PX C_am R_am)) (h__law_numbers : Has P w K mg base 3 "_law_numbers" p__law_numbers (PS C_nb R_nb)) (h__law_is_told : HasG P w K mg base 4 "_law_is_told" p__law_is_told (PX C_tl8 R_tt)) : FnG P w K mg base 5 f fd p_law (spLaw K 63) := by
  obtain ⟨m_isinstance, m_int, m_bool, m_tuple, m_len, m_enumerate, m_sum, m_range, m_list, m_repr, m_sorted, m_zip, m_min, m_max, m_any, m_abs, m_str⟩ := g
  have nd := sc_law.nd
  refine fng F sc_law (fun vs H Q E ⟨a, ns, e, _⟩ => by rw [e]; rfl) fun cdv A outer sh H vs Q hgd hr h => ⟨_, (pss_cons (ps_set (i := 1) nd rfl (Or.inl rfl) (pe_h h__law_stock (hr.mono (by decide)) (by rfl) (pa_cons (pv 0) pa_nil)))
      (pss_cons (ps_for PassesOwn.never rfl (pi_range1 (by rfl) m_range (pa_cons pe_int pa_nil)) (pg_name (i := 2) nd rfl (Or.inl rfl))
        (pss_cons (ps_set (i := 3) nd rfl (Or.inl rfl) (pe_h h__law_book hr (by rfl) (pa_cons (pv 1) (pa_cons (pe_ix (show IxR _ (fun x y H Q => rIxL K x y H Q ∨ rIxT K x y H Q) from ix_list.or ix_tup) (pe_lst (pa_cons pe_int (pa_cons pe_int (pa_cons pe_int (pa_cons pe_int pa_nil))))) (pv 2) (fun _ _ => rfl)) (pa_cons pe_int pa_nil)))))
        (pss_cons (ps_par (i := 4) (j := 5) rfl nd rfl rfl (by decide) rfl rfl (pa_cons (pe_h h__law_order (hr.mono (by decide)) (by rfl) (pa_cons (pv 1) (pa_cons (pe_ix (show IxR _ (fun x y H Q => rIxL K x y H Q ∨ rIxT K x y H Q) from ix_list.or ix_tup) (pv 3) pe_int (fun _ _ => rfl)) pa_nil))) (pa_cons (pe_h h__law_begin (hr.mono (by decide)) (by rfl) (pa_cons (pv 1) (pa_cons (pe_ix (show IxR _ (fun x y H Q => rIxL K x y H Q ∨ rIxT K x y H Q) from ix_list.or ix_tup) (pv 3) pe_int (fun _ _ => rfl)) pa_nil))) pa_nil)) rfl)
        (pss_cons (ps_if (pt_cmpR op_eq (pv 2) pe_int (nomark _))
          (pss_one (ps_set (i := 5) nd rfl (Or.inl rfl) (pe_op (show OpR _ _ (rCatA K) from op_catA) (pe_tup (pa_cons (pe_h h__law_draw (hr.mono (by decide)) (by rfl) (pa_cons (pv 1) (pa_cons pe_int pa_nil))) pa_nil)) (pe_op (show OpR _ _ (rRepZ K) from op_repZ) (pe_tup (pa_cons pe_int pa_nil)) (pe_op op_sub (pe_ix (show IxR _ (fun x y H Q => rIxL K x y H Q ∨ rIxT K x y H Q) from ix_list.or ix_tup) (pv 3) pe_int (fun _ _ => rfl)) pe_int)))))
          pss_nil)
        (pss_cons (ps_set (i := 6) nd rfl (Or.inl rfl) (pe_h h__law_weaving (hr.mono (by decide)) (by rfl) (pa_cons (pv 1) (pa_cons (pv 3) (pa_cons (pv 4) (pa_cons pe_int (pa_cons (pe_h h__law_pick (hr.mono (by decide)) (by rfl) (pa_cons (pv 1) (pa_cons (pe_lst (pa_cons pe_int (pa_cons pe_int (pa_cons pe_int pa_nil)))) pa_nil))) pa_nil)))))))
        (pss_cons (ps_asg (pe_tup (pa_cons (pe_h h__law_totals (hr.mono (by decide)) (by rfl) (pa_cons (pv 3) (pa_cons (pv 5) (pa_cons (pv 6) pa_nil)))) (pa_cons (pe_h h__law_ends (hr.mono (by decide)) (by rfl) (pa_cons (pv 3) (pa_cons (pv 5) (pa_cons (pv 6) pa_nil)))) pa_nil))) (pg_tup rfl (pgs_cons (pg_name (i := 7) nd rfl (Or.inr rfl)) (pgs_cons (pg_name (i := 8) nd rfl (Or.inr rfl)) pgs_nil))))
        (pss_cons (ps_setLc (i := 9) (own := [("value", 13)]) (g := gName 13) (tt := tYes) rfl nd rfl rfl (sw_true rfl rfl rfl (by decide +kernel)) (pi_list (pe_op op_cat (pe_h h__law_numbers (hr.mono (by decide)) (by rfl) (pa_cons (pv 1) (pa_cons (pv 8) pa_nil))) (pe_slice sl_list (pv 7) po_none (po_some pe_int)))) (blkOk_by (N := N_law) (sc := defScope s_law) (by decide +kernel)) (fun _ _ _ _ _ => (pg_name (i := 13) nd rfl (Or.inl rfl))) (fun _ _ _ _ _ => pts_nil) (fun _ _ _ _ _ => (pe_tup (pa_cons (pv 13) (pa_cons (pe_cmpR (show OpR _ _ (rIn K false) from op_in_seq) (pv 13) (pv 7) (by rfl)) pa_nil)))))
        (pss_cons (ps_if (pt_cmpR (show OpR _ _ (rNeD K) from op_neD hr.units) (pe_lc (own := [("value", 13), ("due", 14)]) (g := gTup K 2 (gCons (gName 13) (gCons (gName 14) gNil))) rfl nd (pi_list (pv 9)) (blkOk_by (N := N_law) (sc := defScope s_law) (by decide +kernel)) (fun _ _ _ _ _ => (pg_tup rfl (pgs_cons (pg_name (i := 13) nd rfl (Or.inl rfl)) (pgs_cons (pg_name (i := 14) nd rfl (Or.inl rfl)) pgs_nil)))) (fun _ _ _ _ _ => (pts_one (pt_cmpR op_ne (pv 14) (pe_h h__law_is_among (hr.mono (by decide)) (by rfl) (pa_cons (pv 8) (pa_cons (pv 13) pa_nil))) (nomark _)))) (fun _ _ _ _ _ => pe_int)) (pe_lst pa_nil) (nomark _))
          (pss_one (ps_ret pe_bl))
          pss_nil)
        (pss_one (ps_if (pt_not (pt_val (pe_hg h__law_is_told hgd hr (by rfl) (pa_cons (pv 3) (pa_cons (pv 4) (pa_cons (pv 5) (pa_cons (pv 6) (pa_cons (pe_tup (pa_cons (pe_callB (show CallR _ _ (rMin K) from cr_min rfl) (by rfl) m_min (by decide +kernel) (pa_cons (pv 7) pa_nil)) (pa_cons (pe_callB (show CallR _ _ (rMax K) from cr_max rfl) (by rfl) m_max (by decide +kernel) (pa_cons (pv 7) pa_nil)) pa_nil))) (pa_cons (pv 9) pa_nil)))))))))
          (pss_one (ps_ret pe_bl))
          pss_nil))))))))))
      (pss_cons (ps_set (i := 3) nd rfl (Or.inl rfl) (pe_h h__law_book hr (by rfl) (pa_cons (pv 1) (pa_cons pe_int (pa_cons pe_int pa_nil)))))
      (pss_cons (ps_par (i := 4) (j := 5) rfl nd rfl rfl (by decide) rfl rfl (pa_cons (pe_h h__law_order (hr.mono (by decide)) (by rfl) (pa_cons (pv 1) (pa_cons (pe_ix (show IxR _ (fun x y H Q => rIxL K x y H Q ∨ rIxT K x y H Q) from ix_list.or ix_tup) (pv 3) pe_int (fun _ _ => rfl)) pa_nil))) (pa_cons (pe_h h__law_begin (hr.mono (by decide)) (by rfl) (pa_cons (pv 1) (pa_cons (pe_ix (show IxR _ (fun x y H Q => rIxL K x y H Q ∨ rIxT K x y H Q) from ix_list.or ix_tup) (pv 3) pe_int (fun _ _ => rfl)) pa_nil))) pa_nil)) rfl)
      (pss_cons (ps_set (i := 6) nd rfl (Or.inl rfl) (pe_h h__law_weaving (hr.mono (by decide)) (by rfl) (pa_cons (pv 1) (pa_cons (pv 3) (pa_cons (pv 4) (pa_cons (pe_h h__law_pick (hr.mono (by decide)) (by rfl) (pa_cons (pv 1) (pa_cons (pe_lst (pa_cons pe_int (pa_cons pe_int (pa_cons pe_int pa_nil)))) pa_nil))) (pa_cons (pe_op op_pow pe_int pe_int) pa_nil)))))))
      (pss_cons (ps_set (i := 8) nd rfl (Or.inr rfl) (pe_h h__law_ends (hr.mono (by decide)) (by rfl) (pa_cons (pv 3) (pa_cons (pv 5) (pa_cons (pv 6) pa_nil)))))
      (pss_cons (ps_set (i := 7) nd rfl (Or.inr rfl) (pe_lc (own := [("total", 10), ("whole", 11), ("times", 12)]) (g := gTup K 3 (gCons (gName 10) (gCons (gName 11) (gCons (gName 12) gNil)))) (tt := tYes) rfl nd (pi_list (pv 8)) (blkOk_by (N := N_law) (sc := defScope s_law) (by decide +kernel)) (fun _ _ _ _ _ => (pg_tup rfl (pgs_cons (pg_name (i := 10) nd rfl (Or.inl rfl)) (pgs_cons (pg_name (i := 11) nd rfl (Or.inl rfl)) (pgs_cons (pg_name (i := 12) nd rfl (Or.inl rfl)) pgs_nil))))) (fun _ _ _ _ _ => pts_nil) (fun _ _ _ _ _ => (pv 10))))
      (pss_cons (ps_setLc (i := 9) (own := [("value", 13)]) (g := gName 13) (tt := tYes) rfl nd rfl rfl (sw_true rfl rfl rfl (by decide +kernel)) (pi_list (pe_h h__law_numbers (hr.mono (by decide)) (by rfl) (pa_cons (pv 1) (pa_cons (pv 8) pa_nil)))) (blkOk_by (N := N_law) (sc := defScope s_law) (by decide +kernel)) (fun _ _ _ _ _ => (pg_name (i := 13) nd rfl (Or.inl rfl))) (fun _ _ _ _ _ => pts_nil) (fun _ _ _ _ _ => (pe_tup (pa_cons (pv 13) (pa_cons (pe_h h__law_is_among (hr.mono (by decide)) (by rfl) (pa_cons (pv 8) (pa_cons (pv 13) pa_nil))) pa_nil)))))
      (pss_one (ps_ret (pe_hg h__law_is_told hgd hr (by rfl) (pa_cons (pv 3) (pa_cons (pv 4) (pa_cons (pv 5) (pa_cons (pv 6) (pa_cons (pe_tup (pa_cons (pe_callB (show CallR _ _ (rMin K) from cr_min rfl) (by rfl) m_min (by decide +kernel) (pa_cons (pv 7) pa_nil)) (pa_cons (pe_callB (show CallR _ _ (rMax K) from cr_max rfl) (by rfl) m_max (by decide +kernel) (pa_cons (pv 7) pa_nil)) pa_nil))) (pa_cons (pv 9) pa_nil))))))))))))))))), ?_⟩
  obtain ⟨a, ns, rfl, hS, hl, z⟩ := h
  refine ⟨.ref a, rfl, a, ns, rfl, hS, by omega, fun s g f H' sm stk => ?_⟩
  dsimp only
  refine law_use (X := _) (by exact rfl) (by decide) stk (by exact rfl) z ?_
  show Sq _ _ [.no, .v (.ref s), .no, .no, .no, .no, .no, .no, .no, .no, .no, .no, .no, .no, .no] _ _
  have mkOk : ∀ {m : Int} {rows nss : List (List Int)} {bg : List Int} {ts : List Rn} {T : Int}, 1 ≤ m → m ≤ 8 → ((rows.length : Nat) : Int) ≤ 8 → RowsOk m rows → OrdOk m nss → ((bg.length : Nat) : Int) = m → (∀ i ∈ bg, -1000000000 ≤ i ∧ i ≤ 1000000000) → ((ts.length : Nat) : Int) ≤ 100 → WvOk nss.length rows.length T ts → T ≤ 1000000 → Rx.Ok ⟨m, rows, nss, bg, ts⟩ := fun {m rows nss bg ts T} m1 m8 r8 hR hO bl bb tl hW hT => ⟨m1, m8, hO, hR, by show rows.length ≤ 8; omega, bl, bb, by show ts.length ≤ 200; omega, fun t ht => by have q := hW.1 t ht; exact ⟨q.1, q.2.1, q.2.2.1, q.2.2.2.1, q.2.2.2.2.1, by omega⟩⟩
  refine sq_seq <| sq_for (tg_name 2) <| evi_rng1 <| eva_one <| ev_int ⟨4, rfl, by decide, by decide, fun _ Δ' => Δ' = [.no, .v (.ref s), .no, .no, .no, .no, .no, .no, .no, .no, .no, .no, .no, .no, .no], rfl, fun i e Δ' he hΔ hmm => ?_, fun Δ' hΔ => ?_⟩
  · subst hΔ
    obtain ⟨hi, rfl⟩ := rng_get he
    obtain ⟨c, hc, c1, c8⟩ := four_at (i := i) (by omega)
    refine ⟨_, rfl, sq_seq <| sq_set <| ev_callS rfl <| eva_cons <| ev_ix <| ev_lst <| eva_cons <| ev_int <| eva_cons <| ev_int <| eva_cons <| ev_int <| eva_one <| ev_int ⟨by simp, ev_var rfl ⟨_, _, _, rfl, rfl, hc, eva_one <| ev_int ⟨⟨c, 8, rfl, c1, c8, by decide, by decide⟩, fun d hd => ?_⟩⟩⟩⟩
    obtain ⟨m, rows, rfl, m1, m2, rl, hR⟩ := book_typed hd
    have m8 : m ≤ 8 := by omega
    refine sq_seq <| sq_par <| eva_cons <| ev_callS rfl <| eva_one <| ev_ix <| ev_var rfl <| ev_int ⟨_, 0, _, rfl, rfl, rfl, ⟨m, rfl, m1, m8⟩, fun d hd => ?_⟩
    obtain ⟨nss, rfl, hO⟩ := hd
    refine eva_one <| ev_callS rfl <| eva_one <| ev_ix <| ev_var rfl <| ev_int ⟨_, 0, _, rfl, rfl, rfl, ⟨m, rfl, m1, m8⟩, fun d hd => ⟨_, _, rfl, ?_⟩⟩
    obtain ⟨bg0, rfl, bl0, bb0⟩ := hd
    have nl := (ord_small hO m8).1
    refine sq_seq <| Sq.imp (E := { nx := fun A' Δ' => A' = [s, g, f] ∧ ∃ bg : List Int, Δ' = [.no, .v (.ref s), .d (.int (i : Nat)), .d (bookD m rows), .d (ordOf nss), .d (tupI bg), .no, .no, .no, .no, .no, .no, .no, .no, .no] ∧ ((bg.length : Nat) : Int) = m ∧ ∀ i ∈ bg, -1000000000 ≤ i ∧ i ≤ 1000000000, rt := fun d => d = .bool true }) ?_ (fun A' Δ' _ ⟨hA, bg, hΔ, bl, bb⟩ => ?_) (fun _ h => h) (fun _ _ _ h => h.elim) (fun _ _ _ h => h.elim)
    · refine sq_if <| evt_val <| ev_eq <| ev_var rfl <| ev_int ⟨_, rfl, _, rfl, fun _ => ?_, fun _ => sq_next ⟨rfl, bg0, rfl, bl0, bb0⟩⟩
      refine sq_set <| ev_catT <| ev_tup <| eva_one <| ev_callS rfl <| eva_one <| ev_int ⟨⟨2, rfl, by decide, by decide⟩, fun d hd => ⟨by simp, ?_⟩⟩
      obtain ⟨cc, rfl, cc1, cc2⟩ := hd
      refine ev_repZ <| ev_tup <| eva_one <| ev_int ⟨by simp, ev_ii <| ev_ix <| ev_var rfl <| ev_int ⟨_, 0, _, rfl, rfl, rfl, ev_int ⟨m, 1, rfl, rfl, _, _, rfl, rfl, by simp, by omega, by omega, by simp, _, _, rfl, rfl, ?_, ?_⟩⟩⟩
      · rw [rep_flat, List.length_replicate]
        simp
        omega
      have e9 : [PyData.int cc] ++ (List.replicate (m - 1).toNat [PyData.int 0]).flatten = (cc :: List.replicate (m - 1).toNat 0).map .int := by
        rw [rep_flat, List.map_cons, List.map_replicate] <;> rfl
      rw [e9]
      refine ⟨rfl, cc :: List.replicate (m - 1).toNat 0, rfl, ?_, fun i hi => ?_⟩
      · rw [List.length_cons, List.length_replicate]
        omega
      · rcases List.mem_cons.mp hi with rfl | hi
        · omega
        · rw [(List.mem_replicate.mp hi).2]
          omega
    · subst hA hΔ
      refine sq_seq <| sq_set <| ev_callS rfl <| eva_cons <| ev_var rfl <| eva_cons <| ev_var rfl <| eva_cons <| ev_int <| eva_one <| ev_callS rfl <| eva_one <| ev_lst <| eva_cons <| ev_int <| eva_cons <| ev_int <| eva_one <| ev_int ⟨by simp, ⟨_, _, rfl, rfl, by simp, by simp⟩, fun d hd => ?_⟩
      obtain ⟨T, rfl, T1, T2⟩ : ∃ T : Int, d = .int T ∧ 2 ≤ T ∧ T ≤ 30 := by
        obtain ⟨es, ee, hd⟩ := hd
        cases ee
        simp only [List.mem_cons, List.not_mem_nil, or_false] at hd
        rcases hd with rfl | rfl | rfl <;> exact ⟨_, rfl, by decide, by decide⟩
      refine ⟨⟨m, rows, nss, 9, T, rfl, by omega, by omega, by decide, by decide, T1, by omega⟩, fun d hd => ?_⟩
      obtain ⟨ts, rfl, tl, hW⟩ := R_wv_inv hd
      have ok := mkOk m1 m8 rl hR hO bl bb (by omega) hW (by omega)
      generalize hx : (⟨m, rows, nss, bg, ts⟩ : Rx) = x at ok
      have ex : bookD m rows = bookD x.m x.rows ∧ ordOf nss = ordOf x.nss ∧ tupI bg = tupI x.bg ∧ wvT ts = wvT x.ts ∧ ts.length = x.ts.length := by rw [← hx]; exact ⟨rfl, rfl, rfl, rfl, rfl⟩
      have tk : ∀ t ∈ x.ts, t.2.2 ≤ 1000 := fun t ht => by
        rw [← hx] at ht
        have := (hW.1 t ht).2.2.2.2.2
        omega
      obtain ⟨e1, e2, e3, e4, e5⟩ := ex
      rw [e1, e2, e3, e4]
      rw [e5] at tl
      obtain ⟨el, eb⟩ := ends_small ok
      have clt : C_lt x [bookD x.m x.rows, tupI x.bg, wvT x.ts] := ⟨⟨rfl, ok⟩, by omega, tk⟩
      refine sq_seq <| sq_asg (tg_two 7 8) <| ev_tup <| eva_cons <| ev_callX <| eva_cons <| ev_var rfl <| eva_cons <| ev_var rfl <| eva_one <| ev_var rfl ⟨x, clt, fun d hd => ?_⟩
      obtain rfl : d = .list ((x.bg.sum :: allT (whs x.rows) x.bg.sum x.ts).map .int) := hd
      refine eva_one <| ev_callX <| eva_cons <| ev_var rfl <| eva_cons <| ev_var rfl <| eva_one <| ev_var rfl ⟨x, ⟨rfl, ok⟩, fun d hd => ⟨by simp, _, rfl, ?_⟩⟩
      obtain rfl : d = .list ((ends (whs x.rows) x.bg.sum x.ts).map trD) := hd
      have al := allT_len (w := whs x.rows) x.ts x.bg.sum tk
      have anym := any_met ok
      have mnall : ∀ m', IsMin m' (x.bg.sum :: allT (whs x.rows) x.bg.sum x.ts) → IsMin m' (tots (whs x.rows) x.bg.sum x.ts) := fun m' h => min_all ok.pos h
      have mxall : ∀ m', IsMax m' (x.bg.sum :: allT (whs x.rows) x.bg.sum x.ts) → IsMax m' (tots (whs x.rows) x.bg.sum x.ts) := fun m' h => max_all ok.pos h
      have alen : 0 < (x.bg.sum :: allT (whs x.rows) x.bg.sum x.ts).length ∧ (x.bg.sum :: allT (whs x.rows) x.bg.sum x.ts).length ≤ 20001 := by
        rw [List.length_cons]
        omega
      dsimp only
      generalize x.bg.sum :: allT (whs x.rows) x.bg.sum x.ts = al0 at anym mnall mxall alen
      refine sq_seq <| sq_set <| EvN.ev <| evn_map (tg_name 13) (by simp) (fun d => match d with | .int v => .tuple [.int v, .bool (metD x (.int v))] | _ => .none) <| evi_list <| EvN.ev <| evn_cat <| ev_callS rfl <| eva_one <| ev_var rfl ⟨⟨_, rfl, by omega, eb⟩, fun d hd => ?_⟩
      obtain ⟨nb, rfl, nbl⟩ := hd
      refine EvN.ev <| evn_slL (fun _ _ _ _ _ h => h) <| ev_var rfl <| evo_none <| evo_some <| ev_int ⟨9, rfl, _, rfl, _, _, rfl, rfl, ?_, _, rfl, ?_, fun d hd p np => ?_, ?_⟩
      · have := cutD_len (es := al0.map PyData.int) (lo := none) (hi := some 9)
        rw [List.length_map] at this ⊢
        omega
      · have := cutD_len (es := al0.map PyData.int) (lo := none) (hi := some 9)
        rw [List.length_map] at this
        rw [List.length_append, List.length_map]
        omega
      · obtain ⟨v, rfl⟩ : ∃ v : Int, d = .int v := by
          rcases List.mem_append.mp hd with h | h
          · obtain ⟨v, _, rfl⟩ := ints_mem h
            exact ⟨v, rfl⟩
          · obtain ⟨v, _, rfl⟩ := ints_mem (cutD_mem h)
            exact ⟨v, rfl⟩
        refine ⟨_, rfl, ev_tup <| eva_cons <| ev_var rfl <| eva_one <| ev_inI <| ev_var rfl <| ev_var rfl ⟨v, al0, rfl, rfl, by simp, ?_⟩⟩
        show PyData.tuple [.int v, .bool (al0.any fun y => y == v)] = _
        rw [anym v]
      have ec : nb.map PyData.int ++ Dl.cutD (al0.map PyData.int) none (some 9) = (nb ++ al0.take 9).map PyData.int := by
        rw [show Dl.cutD (al0.map PyData.int) none (some 9) = (al0.map PyData.int).take 9 from cut_to 9, List.map_append, List.map_take]
      rw [ec, map_vals x _ fun v => rfl]
      have vl : (nb ++ al0.take 9).length ≤ 1000 := by
        rw [List.length_append, List.length_take]
        omega
      generalize nb ++ al0.take 9 = vs at vl
      refine sq_seq <| sq_if <| evt_val <| ev_neD <| EvN.ev <| evn_filt (tg_two 13 14) (by simp) (fun _ => false) (fun _ => .int 1) <| evi_list <| ev_var rfl ⟨_, rfl, by rw [List.length_map]; omega, fun d hd p np => ?_, ?_⟩
      · obtain ⟨v, hv, rfl⟩ := List.mem_map.mp hd
        refine ⟨_, rfl, evt_val <| ev_ne <| ev_var rfl <| ev_callX <| eva_cons <| ev_var rfl <| eva_one <| ev_var rfl ⟨(ends (whs x.rows) x.bg.sum x.ts, v), ⟨rfl, by show (ends (whs x.rows) x.bg.sum x.ts).length ≤ 1000; omega, fun e he => by have := eb e he; omega⟩, fun r hr => ?_⟩⟩
        obtain rfl : r = .bool (among v (ends (whs x.rows) x.bg.sum x.ts)) := hr
        rw [among_met ok v]
        refine ⟨_, rfl, _, rfl, ?_, fun _ => ev_int rfl⟩
        rw [decide_eq_true rfl] <;> rfl
      rw [filt_no]
      refine ev_lst <| eva_nil ⟨by simp, shaped_ints _, shaped_ints [], ?_⟩
      rw [eqv_nil_ints]
      refine ⟨_, rfl, (fun z => nomatch z), fun _ => ?_⟩
      refine sq_next <| sq_if <| evt_not <| evt_val <| ev_callX <| eva_cons <| ev_var rfl <| eva_cons <| ev_var rfl <| eva_cons <| ev_var rfl <| eva_cons <| ev_var rfl <| eva_cons <| ev_tup <| eva_cons <| ev_minL <| eva_one <| ev_var rfl ⟨al0, rfl, alen.1, fun mn h1 h2 => eva_one <| ev_maxL <| eva_one <| ev_var rfl ⟨al0, rfl, alen.1, fun mx h3 h4 => ⟨by simp, eva_one <| ev_var rfl ⟨⟨x, mn, mx, vs⟩, ⟨rfl, ok, mnall mn ⟨h1, h2⟩, mxall mx ⟨h3, h4⟩, vl⟩, fun d hd => ⟨_, hd, (fun z => nomatch z), fun _ => sq_next ?_⟩⟩⟩⟩⟩
      refine back0 (A' := [s, g, f]) (Δ0 := [.no, .v (.ref s), .no, .no, .no, .no, .no, .no, .no, .no, .no, .no, .no, .no, .no]) ?_ hmm rfl
      repeat first | exact Weak.nil | refine Weak.no ?_ | refine Weak.cons ?_
  · subst hΔ
    refine sq_seq <| sq_set <| ev_callS rfl <| eva_cons <| ev_int <| eva_one <| ev_int ⟨⟨8, 8, rfl, by decide, by decide, by decide, by decide⟩, fun d hd => ?_⟩
    obtain ⟨m, rows, rfl, m1, m8, rl, hR⟩ := book_typed hd
    refine sq_seq <| sq_par <| eva_cons <| ev_callS rfl <| eva_one <| ev_ix <| ev_var rfl <| ev_int ⟨_, 0, _, rfl, rfl, rfl, ⟨m, rfl, m1, m8⟩, fun d hd => ?_⟩
    obtain ⟨nss, rfl, hO⟩ := hd
    refine eva_one <| ev_callS rfl <| eva_one <| ev_ix <| ev_var rfl <| ev_int ⟨_, 0, _, rfl, rfl, rfl, ⟨m, rfl, m1, m8⟩, fun d hd => ⟨_, _, rfl, ?_⟩⟩
    obtain ⟨bg, rfl, bl, bb⟩ := hd
    have nl := (ord_small hO m8).1
    refine sq_seq <| sq_set <| ev_callS rfl <| eva_cons <| ev_var rfl <| eva_cons <| ev_var rfl <| eva_cons <| ev_callS rfl <| eva_one <| ev_lst <| eva_cons <| ev_int <| eva_cons <| ev_int <| eva_one <| ev_int ⟨by simp, ⟨_, _, rfl, rfl, by simp, by simp⟩, fun d hd => ?_⟩
    obtain ⟨rn, rfl, r1, r2⟩ : ∃ T : Int, d = .int T ∧ 0 ≤ T ∧ T ≤ 100 := by
      obtain ⟨es, ee, hd⟩ := hd
      cases ee
      simp only [List.mem_cons, List.not_mem_nil, or_false] at hd
      rcases hd with rfl | rfl | rfl <;> exact ⟨_, rfl, by decide, by decide⟩
    refine eva_one <| ev_iic <| ev_int <| ev_int ⟨10, 6, rfl, rfl, ⟨by decide, by decide, by decide⟩, ?_⟩
    rw [p6]
    refine ⟨⟨m, rows, nss, rn, 1000000, rfl, by omega, by omega, r1, by omega, by decide, by decide⟩, fun d hd => ?_⟩
    obtain ⟨ts, rfl, tl, hW⟩ := R_wv_inv hd
    have ok := mkOk m1 m8 rl hR hO bl bb (by omega) hW (by decide)
    generalize hx : (⟨m, rows, nss, bg, ts⟩ : Rx) = x at ok
    have ex : bookD m rows = bookD x.m x.rows ∧ ordOf nss = ordOf x.nss ∧ tupI bg = tupI x.bg ∧ wvT ts = wvT x.ts ∧ ts.length = x.ts.length := by rw [← hx]; exact ⟨rfl, rfl, rfl, rfl, rfl⟩
    obtain ⟨e1, e2, e3, e4, e5⟩ := ex
    rw [e1, e2, e3, e4]
    obtain ⟨el, eb⟩ := ends_small ok
    refine sq_seq <| sq_set <| ev_callX <| eva_cons <| ev_var rfl <| eva_cons <| ev_var rfl <| eva_one <| ev_var rfl ⟨x, ⟨rfl, ok⟩, fun d hd => ?_⟩
    obtain rfl : d = .list ((ends (whs x.rows) x.bg.sum x.ts).map trD) := hd
    refine sq_seq <| sq_set <| EvN.ev <| evn_map (tg_three 10 11 12) (by simp) (fun d => match d with | .tuple [.int t, .int _, .int _] => .int t | _ => .none) <| evi_list <| ev_var rfl ⟨_, rfl, by rw [List.length_map]; omega, fun d hd p np => ?_, ?_⟩
    · obtain ⟨r, hr1, rfl⟩ := List.mem_map.mp hd
      exact ⟨_, rfl, ev_var rfl rfl⟩
    have et : ((ends (whs x.rows) x.bg.sum x.ts).map trD).map (fun (d : PyData) => match d with | .tuple [.int t, .int _, .int _] => PyData.int t | _ => .none) = (tots (whs x.rows) x.bg.sum x.ts).map PyData.int := by
      rw [← ends_tots, List.map_map, List.map_map] <;> rfl
    rw [et]
    have hp : 0 < (tots (whs x.rows) x.bg.sum x.ts).length := by rw [tots_len]; omega
    refine sq_seq <| sq_set <| EvN.ev <| evn_map (tg_name 13) (by simp) (fun d => match d with | .int v => .tuple [.int v, .bool (metD x (.int v))] | _ => .none) <| evi_list <| ev_callS rfl <| eva_one <| ev_var rfl ⟨⟨_, rfl, by omega, eb⟩, fun d hd => ?_⟩
    obtain ⟨nb, rfl, nbl⟩ := hd
    refine ⟨_, rfl, by rw [List.length_map]; omega, fun d hd p np => ?_, ?_⟩
    · obtain ⟨v, _, rfl⟩ := ints_mem hd
      refine ⟨_, rfl, ev_tup <| eva_cons <| ev_var rfl <| eva_one <| ev_callX <| eva_cons <| ev_var rfl <| eva_one <| ev_var rfl ⟨(ends (whs x.rows) x.bg.sum x.ts, v), ⟨rfl, by show (ends (whs x.rows) x.bg.sum x.ts).length ≤ 1000; omega, fun e he => by have := eb e he; omega⟩, fun r hr => ⟨by simp, ?_⟩⟩⟩
      obtain rfl : r = .bool (among v (ends (whs x.rows) x.bg.sum x.ts)) := hr
      rw [among_met ok v]
    rw [map_vals x _ fun v => rfl]
    exact sq_ret <| ev_callX <| eva_cons <| ev_var rfl <| eva_cons <| ev_var rfl <| eva_cons <| ev_var rfl <| eva_cons <| ev_var rfl <| eva_cons <| ev_tup <| eva_cons <| ev_minL <| eva_one <| ev_var rfl ⟨_, rfl, hp, fun mn h1 h2 => eva_one <| ev_maxL <| eva_one <| ev_var rfl ⟨_, rfl, hp, fun mx h3 h4 => ⟨by simp, eva_one <| ev_var rfl ⟨⟨x, mn, mx, nb⟩, ⟨rfl, ok, ⟨h1, h2⟩, ⟨h3, h4⟩, by show nb.length ≤ 1000; omega⟩, fun d hd => hd⟩⟩⟩⟩
end
end K08

/-! the law rw_passingsums_k08_whole_totals_that_are_me: what its top has written, the head -/
namespace K08
open PySem PySem.Spec PyProof.Rows L2 Dl
theorem all_mk {l : PySem.W.OpenLaw} {w : World} {K : PySem.W.Frag} {h : Heap} {mg : Str → Option Value} {fa : Addr} (X : K.In h) (G : h.Ns mainGlobals mg) (hfa : mg "law" = some (.ref fa))
    {f0 : Addr} {od0 an0 : Option Addr} {sl0 : Array (Option Value)} {oc0 kV0 dc0 pm0 cd0 ct0 : Value} (a0 : PySem.W.nsIn K mainGlobals "is_number" = some (some (.ref f0))) (l0 : K.lookup f0 = some ⟨oc0, od0, .func (PySem.W.fnOf "is_number" "is_number" (defArgs s_is_number) (defBody s_is_number) (defScope s_is_number) .none kV0 dc0 pm0 an0 cd0 ct0), sl0⟩) (c0 : PySem.W.codeIn K cd0 "is_number" = true) (k0 : PySem.W.keepIn K (.ref f0) = true)
    {f1 : Addr} {od1 an1 : Option Addr} {sl1 : Array (Option Value)} {oc1 kV1 dc1 pm1 cd1 ct1 : Value} (a1 : PySem.W.nsIn K mainGlobals "whole_of" = some (some (.ref f1))) (l1 : K.lookup f1 = some ⟨oc1, od1, .func (PySem.W.fnOf "whole_of" "whole_of" (defArgs s_whole_of) (defBody s_whole_of) (defScope s_whole_of) .none kV1 dc1 pm1 an1 cd1 ct1), sl1⟩) (c1 : PySem.W.codeIn K cd1 "whole_of" = true) (k1 : PySem.W.keepIn K (.ref f1) = true)
    {f2 : Addr} {od2 an2 : Option Addr} {sl2 : Array (Option Value)} {oc2 kV2 dc2 pm2 cd2 ct2 : Value} (a2 : PySem.W.nsIn K mainGlobals "_is_on_way" = some (some (.ref f2))) (l2 : K.lookup f2 = some ⟨oc2, od2, .func (PySem.W.fnOf "_is_on_way" "_is_on_way" (defArgs s__is_on_way) (defBody s__is_on_way) (defScope s__is_on_way) .none kV2 dc2 pm2 an2 cd2 ct2), sl2⟩) (c2 : PySem.W.codeIn K cd2 "_is_on_way" = true) (k2 : PySem.W.keepIn K (.ref f2) = true)
    {f3 : Addr} {od3 an3 : Option Addr} {sl3 : Array (Option Value)} {oc3 kV3 dc3 pm3 cd3 ct3 : Value} (a3 : PySem.W.nsIn K mainGlobals "totals_between" = some (some (.ref f3))) (l3 : K.lookup f3 = some ⟨oc3, od3, .func (PySem.W.fnOf "totals_between" "totals_between" (defArgs s_totals_between) (defBody s_totals_between) (defScope s_totals_between) .none kV3 dc3 pm3 an3 cd3 ct3), sl3⟩) (c3 : PySem.W.codeIn K cd3 "totals_between" = true) (k3 : PySem.W.keepIn K (.ref f3) = true)
    {f4 : Addr} {od4 an4 : Option Addr} {sl4 : Array (Option Value)} {oc4 kV4 dc4 pm4 cd4 ct4 : Value} (a4 : PySem.W.nsIn K mainGlobals "span_met" = some (some (.ref f4))) (l4 : K.lookup f4 = some ⟨oc4, od4, .func (PySem.W.fnOf "span_met" "span_met" (defArgs s_span_met) (defBody s_span_met) (defScope s_span_met) .none kV4 dc4 pm4 an4 cd4 ct4), sl4⟩) (c4 : PySem.W.codeIn K cd4 "span_met" = true) (k4 : PySem.W.keepIn K (.ref f4) = true)
    {f5 : Addr} {od5 an5 : Option Addr} {sl5 : Array (Option Value)} {oc5 kV5 dc5 pm5 cd5 ct5 : Value} (a5 : PySem.W.nsIn K mainGlobals "is_met" = some (some (.ref f5))) (l5 : K.lookup f5 = some ⟨oc5, od5, .func (PySem.W.fnOf "is_met" "is_met" (defArgs s_is_met) (defBody s_is_met) (defScope s_is_met) .none kV5 dc5 pm5 an5 cd5 ct5), sl5⟩) (c5 : PySem.W.codeIn K cd5 "is_met" = true) (k5 : PySem.W.keepIn K (.ref f5) = true)
    {f6 : Addr} {od6 an6 : Option Addr} {sl6 : Array (Option Value)} {oc6 kV6 dc6 pm6 cd6 ct6 : Value} (a6 : PySem.W.nsIn K mainGlobals "_law_stock" = some (some (.ref f6))) (l6 : K.lookup f6 = some ⟨oc6, od6, .func (PySem.W.fnOf "_law_stock" "_law_stock" (defArgs s__law_stock) (defBody s__law_stock) (defScope s__law_stock) .none kV6 dc6 pm6 an6 cd6 ct6), sl6⟩) (c6 : PySem.W.codeIn K cd6 "_law_stock" = true) (k6 : PySem.W.keepIn K (.ref f6) = true)
    {f7 : Addr} {od7 an7 : Option Addr} {sl7 : Array (Option Value)} {oc7 kV7 dc7 pm7 cd7 ct7 : Value} (a7 : PySem.W.nsIn K mainGlobals "_law_draw" = some (some (.ref f7))) (l7 : K.lookup f7 = some ⟨oc7, od7, .func (PySem.W.fnOf "_law_draw" "_law_draw" (defArgs s__law_draw) (defBody s__law_draw) (defScope s__law_draw) .none kV7 dc7 pm7 an7 cd7 ct7), sl7⟩) (c7 : PySem.W.codeIn K cd7 "_law_draw" = true) (k7 : PySem.W.keepIn K (.ref f7) = true)
    {f8 : Addr} {od8 an8 : Option Addr} {sl8 : Array (Option Value)} {oc8 kV8 dc8 pm8 cd8 ct8 : Value} (a8 : PySem.W.nsIn K mainGlobals "_law_pick" = some (some (.ref f8))) (l8 : K.lookup f8 = some ⟨oc8, od8, .func (PySem.W.fnOf "_law_pick" "_law_pick" (defArgs s__law_pick) (defBody s__law_pick) (defScope s__law_pick) .none kV8 dc8 pm8 an8 cd8 ct8), sl8⟩) (c8 : PySem.W.codeIn K cd8 "_law_pick" = true) (k8 : PySem.W.keepIn K (.ref f8) = true)
    {f9 : Addr} {od9 an9 : Option Addr} {sl9 : Array (Option Value)} {oc9 kV9 dc9 pm9 cd9 ct9 : Value} (a9 : PySem.W.nsIn K mainGlobals "_law_mixed" = some (some (.ref f9))) (l9 : K.lookup f9 = some ⟨oc9, od9, .func (PySem.W.fnOf "_law_mixed" "_law_mixed" (defArgs s__law_mixed) (defBody s__law_mixed) (defScope s__law_mixed) .none kV9 dc9 pm9 an9 cd9 ct9), sl9⟩) (c9 : PySem.W.codeIn K cd9 "_law_mixed" = true) (k9 : PySem.W.keepIn K (.ref f9) = true)
    {f10 : Addr} {od10 an10 : Option Addr} {sl10 : Array (Option Value)} {oc10 kV10 dc10 pm10 cd10 ct10 : Value} (a10 : PySem.W.nsIn K mainGlobals "_law_row" = some (some (.ref f10))) (l10 : K.lookup f10 = some ⟨oc10, od10, .func (PySem.W.fnOf "_law_row" "_law_row" (defArgs s__law_row) (defBody s__law_row) (defScope s__law_row) .none kV10 dc10 pm10 an10 cd10 ct10), sl10⟩) (c10 : PySem.W.codeIn K cd10 "_law_row" = true) (k10 : PySem.W.keepIn K (.ref f10) = true)
    {f11 : Addr} {od11 an11 : Option Addr} {sl11 : Array (Option Value)} {oc11 kV11 dc11 pm11 cd11 ct11 : Value} (a11 : PySem.W.nsIn K mainGlobals "_law_book" = some (some (.ref f11))) (l11 : K.lookup f11 = some ⟨oc11, od11, .func (PySem.W.fnOf "_law_book" "_law_book" (defArgs s__law_book) (defBody s__law_book) (defScope s__law_book) .none kV11 dc11 pm11 an11 cd11 ct11), sl11⟩) (c11 : PySem.W.codeIn K cd11 "_law_book" = true) (k11 : PySem.W.keepIn K (.ref f11) = true)
    {f12 : Addr} {od12 an12 : Option Addr} {sl12 : Array (Option Value)} {oc12 kV12 dc12 pm12 cd12 ct12 : Value} (a12 : PySem.W.nsIn K mainGlobals "_law_order" = some (some (.ref f12))) (l12 : K.lookup f12 = some ⟨oc12, od12, .func (PySem.W.fnOf "_law_order" "_law_order" (defArgs s__law_order) (defBody s__law_order) (defScope s__law_order) .none kV12 dc12 pm12 an12 cd12 ct12), sl12⟩) (c12 : PySem.W.codeIn K cd12 "_law_order" = true) (k12 : PySem.W.keepIn K (.ref f12) = true)
    {f13 : Addr} {od13 an13 : Option Addr} {sl13 : Array (Option Value)} {oc13 kV13 dc13 pm13 cd13 ct13 : Value} (a13 : PySem.W.nsIn K mainGlobals "_law_weaving" = some (some (.ref f13))) (l13 : K.lookup f13 = some ⟨oc13, od13, .func (PySem.W.fnOf "_law_weaving" "_law_weaving" (defArgs s__law_weaving) (defBody s__law_weaving) (defScope s__law_weaving) .none kV13 dc13 pm13 an13 cd13 ct13), sl13⟩) (c13 : PySem.W.codeIn K cd13 "_law_weaving" = true) (k13 : PySem.W.keepIn K (.ref f13) = true)
    {f14 : Addr} {od14 an14 : Option Addr} {sl14 : Array (Option Value)} {oc14 kV14 dc14 pm14 cd14 ct14 : Value} (a14 : PySem.W.nsIn K mainGlobals "_law_begin" = some (some (.ref f14))) (l14 : K.lookup f14 = some ⟨oc14, od14, .func (PySem.W.fnOf "_law_begin" "_law_begin" (defArgs s__law_begin) (defBody s__law_begin) (defScope s__law_begin) .none kV14 dc14 pm14 an14 cd14 ct14), sl14⟩) (c14 : PySem.W.codeIn K cd14 "_law_begin" = true) (k14 : PySem.W.keepIn K (.ref f14) = true)
    {f15 : Addr} {od15 an15 : Option Addr} {sl15 : Array (Option Value)} {oc15 kV15 dc15 pm15 cd15 ct15 : Value} (a15 : PySem.W.nsIn K mainGlobals "_law_totals" = some (some (.ref f15))) (l15 : K.lookup f15 = some ⟨oc15, od15, .func (PySem.W.fnOf "_law_totals" "_law_totals" (defArgs s__law_totals) (defBody s__law_totals) (defScope s__law_totals) .none kV15 dc15 pm15 an15 cd15 ct15), sl15⟩) (c15 : PySem.W.codeIn K cd15 "_law_totals" = true) (k15 : PySem.W.keepIn K (.ref f15) = true)
    {f16 : Addr} {od16 an16 : Option Addr} {sl16 : Array (Option Value)} {oc16 kV16 dc16 pm16 cd16 ct16 : Value} (a16 : PySem.W.nsIn K mainGlobals "_law_ends" = some (some (.ref f16))) (l16 : K.lookup f16 = some ⟨oc16, od16, .func (PySem.W.fnOf "_law_ends" "_law_ends" (defArgs s__law_ends) (defBody s__law_ends) (defScope s__law_ends) .none kV16 dc16 pm16 an16 cd16 ct16), sl16⟩) (c16 : PySem.W.codeIn K cd16 "_law_ends" = true) (k16 : PySem.W.keepIn K (.ref f16) = true)
    {f17 : Addr} {od17 an17 : Option Addr} {sl17 : Array (Option Value)} {oc17 kV17 dc17 pm17 cd17 ct17 : Value} (a17 : PySem.W.nsIn K mainGlobals "_law_is_among" = some (some (.ref f17))) (l17 : K.lookup f17 = some ⟨oc17, od17, .func (PySem.W.fnOf "_law_is_among" "_law_is_among" (defArgs s__law_is_among) (defBody s__law_is_among) (defScope s__law_is_among) .none kV17 dc17 pm17 an17 cd17 ct17), sl17⟩) (c17 : PySem.W.codeIn K cd17 "_law_is_among" = true) (k17 : PySem.W.keepIn K (.ref f17) = true)
    {f18 : Addr} {od18 an18 : Option Addr} {sl18 : Array (Option Value)} {oc18 kV18 dc18 pm18 cd18 ct18 : Value} (a18 : PySem.W.nsIn K mainGlobals "_law_numbers" = some (some (.ref f18))) (l18 : K.lookup f18 = some ⟨oc18, od18, .func (PySem.W.fnOf "_law_numbers" "_law_numbers" (defArgs s__law_numbers) (defBody s__law_numbers) (defScope s__law_numbers) .none kV18 dc18 pm18 an18 cd18 ct18), sl18⟩) (c18 : PySem.W.codeIn K cd18 "_law_numbers" = true) (k18 : PySem.W.keepIn K (.ref f18) = true)
    {f19 : Addr} {od19 an19 : Option Addr} {sl19 : Array (Option Value)} {oc19 kV19 dc19 pm19 cd19 ct19 : Value} (a19 : PySem.W.nsIn K mainGlobals "_law_is_told" = some (some (.ref f19))) (l19 : K.lookup f19 = some ⟨oc19, od19, .func (PySem.W.fnOf "_law_is_told" "_law_is_told" (defArgs s__law_is_told) (defBody s__law_is_told) (defScope s__law_is_told) .none kV19 dc19 pm19 an19 cd19 ct19), sl19⟩) (c19 : PySem.W.codeIn K cd19 "_law_is_told" = true) (k19 : PySem.W.keepIn K (.ref f19) = true)
    {f20 : Addr} {od20 an20 : Option Addr} {sl20 : Array (Option Value)} {oc20 kV20 dc20 pm20 cd20 ct20 : Value} (a20 : PySem.W.nsIn K mainGlobals "law" = some (some (.ref f20))) (l20 : K.lookup f20 = some ⟨oc20, od20, .func (PySem.W.fnOf "law" "law" (defArgs s_law) (defBody s_law) (defScope s_law) .none kV20 dc20 pm20 an20 cd20 ct20), sl20⟩) (c20 : PySem.W.codeIn K cd20 "law" = true) (k20 : PySem.W.keepIn K (.ref f20) = true)
    (z_isinstance : PySem.W.nsIn K mainGlobals "isinstance" = some none)
    (z_int : PySem.W.nsIn K mainGlobals "int" = some none)
    (z_bool : PySem.W.nsIn K mainGlobals "bool" = some none)
    (z_tuple : PySem.W.nsIn K mainGlobals "tuple" = some none)
    (z_len : PySem.W.nsIn K mainGlobals "len" = some none)
    (z_enumerate : PySem.W.nsIn K mainGlobals "enumerate" = some none)
    (z_sum : PySem.W.nsIn K mainGlobals "sum" = some none)
    (z_range : PySem.W.nsIn K mainGlobals "range" = some none)
    (z_list : PySem.W.nsIn K mainGlobals "list" = some none)
    (z_repr : PySem.W.nsIn K mainGlobals "repr" = some none)
    (z_sorted : PySem.W.nsIn K mainGlobals "sorted" = some none)
    (z_zip : PySem.W.nsIn K mainGlobals "zip" = some none)
    (z_min : PySem.W.nsIn K mainGlobals "min" = some none)
    (z_max : PySem.W.nsIn K mainGlobals "max" = some none)
    (z_any : PySem.W.nsIn K mainGlobals "any" = some none)
    (z_abs : PySem.W.nsIn K mainGlobals "abs" = some none)
    (z_str : PySem.W.nsIn K mainGlobals "str" = some none)
    : ∃ fd : FuncData, (∀ (s : Shared) (v : Value), BindsTo s fd ⟨[v], []⟩ [("script", v)]) ∧ ∀ base : Heap, K.In base → base.Ns mainGlobals mg → FnG l.prog w K mg base 5 fa fd ["script"] (spLaw K 63) := by
  have e := hfa.symm.trans (PySem.W.mg_of X G a20)
  cases e
  have g : Gb mg := ⟨PySem.W.mg_none_of X G z_isinstance, PySem.W.mg_none_of X G z_int, PySem.W.mg_none_of X G z_bool, PySem.W.mg_none_of X G z_tuple, PySem.W.mg_none_of X G z_len, PySem.W.mg_none_of X G z_enumerate, PySem.W.mg_none_of X G z_sum, PySem.W.mg_none_of X G z_range, PySem.W.mg_none_of X G z_list, PySem.W.mg_none_of X G z_repr, PySem.W.mg_none_of X G z_sorted, PySem.W.mg_none_of X G z_zip, PySem.W.mg_none_of X G z_min, PySem.W.mg_none_of X G z_max, PySem.W.mg_none_of X G z_any, PySem.W.mg_none_of X G z_abs, PySem.W.mg_none_of X G z_str⟩
  have F0 := fun_mk (st := s_is_number) l0 c0 k0
  have F1 := fun_mk (st := s_whole_of) l1 c1 k1
  have F2 := fun_mk (st := s__is_on_way) l2 c2 k2
  have F3 := fun_mk (st := s_totals_between) l3 c3 k3
  have F4 := fun_mk (st := s_span_met) l4 c4 k4
  have F5 := fun_mk (st := s_is_met) l5 c5 k5
  have F6 := fun_mk (st := s__law_stock) l6 c6 k6
  have F7 := fun_mk (st := s__law_draw) l7 c7 k7
  have F8 := fun_mk (st := s__law_pick) l8 c8 k8
  have F9 := fun_mk (st := s__law_mixed) l9 c9 k9
  have F10 := fun_mk (st := s__law_row) l10 c10 k10
  have F11 := fun_mk (st := s__law_book) l11 c11 k11
  have F12 := fun_mk (st := s__law_order) l12 c12 k12
  have F13 := fun_mk (st := s__law_weaving) l13 c13 k13
  have F14 := fun_mk (st := s__law_begin) l14 c14 k14
  have F15 := fun_mk (st := s__law_totals) l15 c15 k15
  have F16 := fun_mk (st := s__law_ends) l16 c16 k16
  have F17 := fun_mk (st := s__law_is_among) l17 c17 k17
  have F18 := fun_mk (st := s__law_numbers) l18 c18 k18
  have F19 := fun_mk (st := s__law_is_told) l19 c19 k19
  have F20 := fun_mk (st := s_law) l20 c20 k20
  have b0 := F0.binds (ps := p_is_number) fun _ _ _ _ _ _ us hl => match us, hl with | [_], _ => rfl
  have b1 := F1.binds (ps := p_whole_of) fun _ _ _ _ _ _ us hl => match us, hl with | [_, _], _ => rfl
  have b2 := F2.binds (ps := p__is_on_way) fun _ _ _ _ _ _ us hl => match us, hl with | [_, _, _], _ => rfl
  have b3 := F3.binds (ps := p_totals_between) fun _ _ _ _ _ _ us hl => match us, hl with | [_, _, _], _ => rfl
  have b4 := F4.binds (ps := p_span_met) fun _ _ _ _ _ _ us hl => match us, hl with | [_, _, _, _], _ => rfl
  have b5 := F5.binds (ps := p_is_met) fun _ _ _ _ _ _ us hl => match us, hl with | [_, _, _, _, _], _ => rfl
  have b6 := F6.binds (ps := p__law_stock) fun _ _ _ _ _ _ us hl => match us, hl with | [_], _ => rfl
  have b7 := F7.binds (ps := p__law_draw) fun _ _ _ _ _ _ us hl => match us, hl with | [_, _], _ => rfl
  have b8 := F8.binds (ps := p__law_pick) fun _ _ _ _ _ _ us hl => match us, hl with | [_, _], _ => rfl
  have b9 := F9.binds (ps := p__law_mixed) fun _ _ _ _ _ _ us hl => match us, hl with | [_, _], _ => rfl
  have b10 := F10.binds (ps := p__law_row) fun _ _ _ _ _ _ us hl => match us, hl with | [_, _], _ => rfl
  have b11 := F11.binds (ps := p__law_book) fun _ _ _ _ _ _ us hl => match us, hl with | [_, _, _], _ => rfl
  have b12 := F12.binds (ps := p__law_order) fun _ _ _ _ _ _ us hl => match us, hl with | [_, _], _ => rfl
  have b13 := F13.binds (ps := p__law_weaving) fun _ _ _ _ _ _ us hl => match us, hl with | [_, _, _, _, _], _ => rfl
  have b14 := F14.binds (ps := p__law_begin) fun _ _ _ _ _ _ us hl => match us, hl with | [_, _], _ => rfl
  have b15 := F15.binds (ps := p__law_totals) fun _ _ _ _ _ _ us hl => match us, hl with | [_, _, _], _ => rfl
  have b16 := F16.binds (ps := p__law_ends) fun _ _ _ _ _ _ us hl => match us, hl with | [_, _, _], _ => rfl
  have b17 := F17.binds (ps := p__law_is_among) fun _ _ _ _ _ _ us hl => match us, hl with | [_, _], _ => rfl
  have b18 := F18.binds (ps := p__law_numbers) fun _ _ _ _ _ _ us hl => match us, hl with | [_, _], _ => rfl
  have b19 := F19.binds (ps := p__law_is_told) fun _ _ _ _ _ _ us hl => match us, hl with | [_, _, _, _, _, _], _ => rfl
  refine ⟨PySem.W.fnOf "law" "law" (defArgs s_law) (defBody s_law) (defScope s_law) .none kV20 dc20 pm20 an20 cd20 ct20, fun s v => .of_eq rfl, fun base _ _ => ?_⟩
  have h_is_number : Has l.prog w K mg base 1 "is_number" p_is_number (PF (fun ds => ∃ d, ds = [d]) R_num) := ⟨⟨f0, _, ok_is_number (k := 0) F0 g , PySem.W.mg_of X G a0, k0, b0⟩⟩
  have h_whole_of : Has l.prog w K mg base 1 "whole_of" p_whole_of (PX C_wh R_wh) := ⟨⟨f1, _, ok_whole_of F1 g , PySem.W.mg_of X G a1, k1, b1⟩⟩
  have h__is_on_way : Has l.prog w K mg base 1 "_is_on_way" p__is_on_way (PX C_ow R_ow) := ⟨⟨f2, _, ok__is_on_way F2 g , PySem.W.mg_of X G a2, k2, b2⟩⟩
  have h_totals_between : Has l.prog w K mg base 2 "totals_between" p_totals_between (PX C_tb R_tb) := ⟨⟨f3, _, ok_totals_between F3 g h_whole_of, PySem.W.mg_of X G a3, k3, b3⟩⟩
  have h_span_met : Has l.prog w K mg base 3 "span_met" p_span_met (PX C_rx R_sp) := ⟨⟨f4, _, ok_span_met F4 g h_totals_between, PySem.W.mg_of X G a4, k4, b4⟩⟩
  have hk_span_met : HasK l.prog w K mg base 3 "span_met" p_span_met ["begin", "weaving", "order", "book"] (gPerm 4 [3, 2, 0, 1]) (PX C_rx R_sp) := by
    refine ⟨⟨f4, _, gPerm 4 [3, 2, 0, 1], ok_span_met F4 g h_totals_between, PySem.W.mg_of X G a4, k4, ⟨fun s us ws _ hl => ?_, fun r rz => vals_perm r rz⟩⟩⟩
    obtain ⟨rfl, hw⟩ := perm_only hl (by decide)
    obtain ⟨a, b, c, d, rfl⟩ := len4 hw
    exact .of_eq rfl
  have h_is_met : Has l.prog w K mg base 3 "is_met" p_is_met (PX C_im R_im) := ⟨⟨f5, _, ok_is_met F5 g h_is_number h_whole_of h__is_on_way h_totals_between, PySem.W.mg_of X G a5, k5, b5⟩⟩
  have hk_is_met : HasK l.prog w K mg base 3 "is_met" p_is_met ["value", "weaving", "begin", "order", "book"] (gPerm 5 [4, 3, 2, 1, 0]) (PX C_im R_im) := by
    refine ⟨⟨f5, _, gPerm 5 [4, 3, 2, 1, 0], ok_is_met F5 g h_is_number h_whole_of h__is_on_way h_totals_between, PySem.W.mg_of X G a5, k5, ⟨fun s us ws _ hl => ?_, fun r rz => vals_perm r rz⟩⟩⟩
    obtain ⟨rfl, hw⟩ := perm_only hl (by decide)
    obtain ⟨a, b, c, d, e, rfl⟩ := len5 hw
    exact .of_eq rfl
  have h__law_stock : Has l.prog w K mg base 1 "_law_stock" p__law_stock (spStock K) := ⟨⟨f6, _, ok__law_stock F6 g , PySem.W.mg_of X G a6, k6, b6⟩⟩
  have h__law_draw : Has l.prog w K mg base 1 "_law_draw" p__law_draw (Dl.PS C_draw R_draw) := ⟨⟨f7, _, ok__law_draw F7 g , PySem.W.mg_of X G a7, k7, b7⟩⟩
  have h__law_pick : Has l.prog w K mg base 2 "_law_pick" p__law_pick (Dl.PS C_pick R_pick) := ⟨⟨f8, _, ok__law_pick F8 g h__law_draw, PySem.W.mg_of X G a8, k8, b8⟩⟩
  have h__law_mixed : Has l.prog w K mg base 2 "_law_mixed" p__law_mixed (Dl.PS C_mix R_mix) := ⟨⟨f9, _, ok__law_mixed F9 g h__law_draw, PySem.W.mg_of X G a9, k9, b9⟩⟩
  have hd__law_mixed : Has l.prog w K mg base 2 "_law_mixed" p__law_mixed (Dl.PS C_mxd R_mxd) := ⟨⟨f9, _, ok__law_mixed_d F9 g h__law_draw, PySem.W.mg_of X G a9, k9, b9⟩⟩
  have h__law_row : Has l.prog w K mg base 3 "_law_row" p__law_row (Dl.PS C_drow R_drow) := ⟨⟨f10, _, ok__law_row F10 g h__law_draw h__law_pick, PySem.W.mg_of X G a10, k10, b10⟩⟩
  have h__law_book : Has l.prog w K mg base 4 "_law_book" p__law_book (Dl.PS C_book R_book) := ⟨⟨f11, _, ok__law_book F11 g h__law_draw h__law_pick h__law_row, PySem.W.mg_of X G a11, k11, b11⟩⟩
  have h__law_order : Has l.prog w K mg base 3 "_law_order" p__law_order (Dl.PS C_ordr R_ordr) := ⟨⟨f12, _, ok__law_order F12 g h__law_draw h__law_mixed, PySem.W.mg_of X G a12, k12, b12⟩⟩
  have h__law_weaving : Has l.prog w K mg base 3 "_law_weaving" p__law_weaving (Dl.PS C_wv R_wv) := ⟨⟨f13, _, ok__law_weaving F13 g h__law_draw h__law_pick, PySem.W.mg_of X G a13, k13, b13⟩⟩
  have h__law_begin : Has l.prog w K mg base 3 "_law_begin" p__law_begin (Dl.PS C_drow R_bg) := ⟨⟨f14, _, ok__law_begin F14 g h__law_draw h__law_pick, PySem.W.mg_of X G a14, k14, b14⟩⟩
  have h__law_totals : Has l.prog w K mg base 1 "_law_totals" p__law_totals (PX C_lt R_lt) := ⟨⟨f15, _, ok__law_totals F15 g , PySem.W.mg_of X G a15, k15, b15⟩⟩
  have h__law_ends : Has l.prog w K mg base 1 "_law_ends" p__law_ends (PX C_tb R_le) := ⟨⟨f16, _, ok__law_ends F16 g , PySem.W.mg_of X G a16, k16, b16⟩⟩
  have h__law_is_among : Has l.prog w K mg base 1 "_law_is_among" p__law_is_among (PX C_am R_am) := ⟨⟨f17, _, ok__law_is_among F17 g , PySem.W.mg_of X G a17, k17, b17⟩⟩
  have h__law_numbers : Has l.prog w K mg base 3 "_law_numbers" p__law_numbers (Dl.PS C_nb R_nb) := ⟨⟨f18, _, ok__law_numbers F18 g h__law_draw hd__law_mixed, PySem.W.mg_of X G a18, k18, b18⟩⟩
  have h__law_is_told : HasG l.prog w K mg base 4 "_law_is_told" p__law_is_told (PX C_tl8 R_tt) := ⟨⟨f19, _, ok__law_is_told F19 g h_span_met hk_span_met h_is_met hk_is_met, PySem.W.mg_of X G a19, k19, b19⟩⟩
  exact ok_law F20 g h__law_stock h__law_draw h__law_pick h__law_book h__law_order h__law_begin h__law_weaving h__law_totals h__law_ends h__law_is_among h__law_numbers h__law_is_told
end K08

open PySem PySem.W PyProof.Rows in
set_option maxRecDepth 100000 in
set_option maxHeartbeats 0 in
theorem PySem.Challenge.cw_passingsums_k08_whole_totals_that_are_me_holds : PySem.Challenge.rw_passingsums_k08_whole_totals_that_are_me.Holds := by
  w_on; o_law; k_head; (case hw => w_witness2)
  k_fill
  refine Dl.walk_g (l := PySem.Challenge.rw_passingsums_k08_whole_totals_that_are_me) (n := 63) (k := 5) (x := "script") rfl (by decide) rfl ⟨rfl, by decide, by decide⟩ (fun w h Y => PySem.W.kIn_of Y) ?F
  case F =>
    intro w mg fa h KX G hmg
    refine' K08.all_mk KX G hmg ?a0 ?l0 ?c0 ?k0 ?a1 ?l1 ?c1 ?k1 ?a2 ?l2 ?c2 ?k2 ?a3 ?l3 ?c3 ?k3 ?a4 ?l4 ?c4 ?k4 ?a5 ?l5 ?c5 ?k5 ?a6 ?l6 ?c6 ?k6 ?a7 ?l7 ?c7 ?k7 ?a8 ?l8 ?c8 ?k8 ?a9 ?l9 ?c9 ?k9 ?a10 ?l10 ?c10 ?k10 ?a11 ?l11 ?c11 ?k11 ?a12 ?l12 ?c12 ?k12 ?a13 ?l13 ?c13 ?k13 ?a14 ?l14 ?c14 ?k14 ?a15 ?l15 ?c15 ?k15 ?a16 ?l16 ?c16 ?k16 ?a17 ?l17 ?c17 ?k17 ?a18 ?l18 ?c18 ?k18 ?a19 ?l19 ?c19 ?k19 ?a20 ?l20 ?c20 ?k20 ?z_isinstance ?z_int ?z_bool ?z_tuple ?z_len ?z_enumerate ?z_sum ?z_range ?z_list ?z_repr ?z_sorted ?z_zip ?z_min ?z_max ?z_any ?z_abs ?z_str
    (case a0 => k_is)
    (case l0 => k_is)
    (case c0 => k_is)
    (case k0 => k_is)
    (case a1 => k_is)
    (case l1 => k_is)
    (case c1 => k_is)
    (case k1 => k_is)
    (case a2 => k_is)
    (case l2 => k_is)
    (case c2 => k_is)
    (case k2 => k_is)
    (case a3 => k_is)
    (case l3 => k_is)
    (case c3 => k_is)
    (case k3 => k_is)
    (case a4 => k_is)
    (case l4 => k_is)
    (case c4 => k_is)
    (case k4 => k_is)
    (case a5 => k_is)
    (case l5 => k_is)
    (case c5 => k_is)
    (case k5 => k_is)
    (case a6 => k_is)
    (case l6 => k_is)
    (case c6 => k_is)
    (case k6 => k_is)
    (case a7 => k_is)
    (case l7 => k_is)
    (case c7 => k_is)
    (case k7 => k_is)
    (case a8 => k_is)
    (case l8 => k_is)
    (case c8 => k_is)
    (case k8 => k_is)
    (case a9 => k_is)
    (case l9 => k_is)
    (case c9 => k_is)
    (case k9 => k_is)
    (case a10 => k_is)
    (case l10 => k_is)
    (case c10 => k_is)
    (case k10 => k_is)
    (case a11 => k_is)
    (case l11 => k_is)
    (case c11 => k_is)
    (case k11 => k_is)
    (case a12 => k_is)
    (case l12 => k_is)
    (case c12 => k_is)
    (case k12 => k_is)
    (case a13 => k_is)
    (case l13 => k_is)
    (case c13 => k_is)
    (case k13 => k_is)
    (case a14 => k_is)
    (case l14 => k_is)
    (case c14 => k_is)
    (case k14 => k_is)
    (case a15 => k_is)
    (case l15 => k_is)
    (case c15 => k_is)
    (case k15 => k_is)
    (case a16 => k_is)
    (case l16 => k_is)
    (case c16 => k_is)
    (case k16 => k_is)
    (case a17 => k_is)
    (case l17 => k_is)
    (case c17 => k_is)
    (case k17 => k_is)
    (case a18 => k_is)
    (case l18 => k_is)
    (case c18 => k_is)
    (case k18 => k_is)
    (case a19 => k_is)
    (case l19 => k_is)
    (case c19 => k_is)
    (case k19 => k_is)
    (case a20 => k_is)
    (case l20 => k_is)
    (case c20 => k_is)
    (case k20 => k_is)
    (case z_isinstance => k_is)
    (case z_int => k_is)
    (case z_bool => k_is)
    (case z_tuple => k_is)
    (case z_len => k_is)
    (case z_enumerate => k_is)
    (case z_sum => k_is)
    (case z_range => k_is)
    (case z_list => k_is)
    (case z_repr => k_is)
    (case z_sorted => k_is)
    (case z_zip => k_is)
    (case z_min => k_is)
    (case z_max => k_is)
    (case z_any => k_is)
    (case z_abs => k_is)
    (case z_str => k_is)

