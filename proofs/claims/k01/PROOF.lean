import PyProof.Rows.All
import Wide.All
import OpenK.AllK
import Wide.FinOn
import HandS.ForMost
import HandS.TupAny
import HandS.TupMul
import HandS.IsInst
import HandS.Walk
import HandS.Wide
import PyProof.ReprRoads
import KE.GoesMore
import HandS.Zip
import HandS.Conv
import HandS.Set
import HandS.SetFor
import PyProof.TupleOfSeq
import KE.KDictCopyH
import KE.LtData
import HandS.SortInts
import HandS.Rev
import HandS.Style
import KE.KTupSum
import PySem.Challenge.RW_passingsums_k01_what_is_a_book
set_option Elab.async false
set_option linter.all false
set_option maxRecDepth 100000
set_option maxHeartbeats 4000000
/-! D1: values as data over the abstract heap, frames, states by slot -/
namespace Dl
open PySem PySem.Spec PyProof.Rows L2

/-! ### data at a heap, away from the addresses that may be written -/
mutual
inductive Dt (H : Hp) (A : List Addr) : V → PyData → Prop
  | non : Dt H A .non .none
  | bl (b : Bool) : Dt H A (.bl b) (.bool b)
  | int (i : Int) : Dt H A (.int i) (.int i)
  | str (x : Str) : Dt H A (.str x) (.str x)
  | lst {a : Addr} {xs : List V} {ds : List PyData} (h : H a = some (.lst xs)) (n : a ∉ A) (t : DtA H A xs ds) : Dt H A (.ref a) (.list ds)
  | tup {a : Addr} {xs : List V} {ds : List PyData} (h : H a = some (.tup xs)) (n : a ∉ A) (t : DtA H A xs ds) : Dt H A (.ref a) (.tuple ds)
  | dct {a : Addr} (h : H a = some (.dK [])) (n : a ∉ A) : Dt H A (.ref a) (.dict [])
inductive DtA (H : Hp) (A : List Addr) : List V → List PyData → Prop
  | nil : DtA H A [] []
  | cons {v : V} {vs : List V} {d : PyData} {ds : List PyData} (h : Dt H A v d) (t : DtA H A vs ds) : DtA H A (v :: vs) (d :: ds)
end

/-- what stays: all tracked but m; what is tracked stays tracked -/
structure Fr (m : List Addr) (H H' : Hp) : Prop where
  keep : ∀ a o, H a = some o → a ∉ m → H' a = some o
  trk : ∀ a, H a ≠ none → H' a ≠ none

theorem Fr.refl {m : List Addr} (H : Hp) : Fr m H H := ⟨fun _ _ h _ => h, fun _ h => h⟩
theorem Fr.trans {m : List Addr} {H H1 H2 : Hp} (a : Fr m H H1) (b : Fr m H1 H2) : Fr m H H2 :=
  ⟨fun x o h n => b.keep x o (a.keep x o h n) n, fun x h => b.trk x (a.trk x h)⟩
theorem Fr.more {m m' : List Addr} {H H' : Hp} (a : Fr m H H') (s : ∀ x ∈ m, x ∈ m') : Fr m' H H' :=
  ⟨fun x o h n => a.keep x o h fun z => n (s x z), a.trk⟩
theorem Fr.new {m : List Addr} {H : Hp} {p : Addr} {o : HO} (h : H p = none) : Fr m H (upd H p o) :=
  ⟨fun a u e _ => by rw [upd_ne (ne_of_none e h)]; exact e, fun a u => by
    by_cases e : a = p
    · subst e; rw [upd_same]; exact fun z => nomatch z
    · rw [upd_ne e]; exact u⟩
theorem Fr.same {H H' : Hp} (a : Fr [] H H') : Same H H' := fun b o h => a.keep b o h (fun z => nomatch z)
theorem Fr.ofSame {H H' : Hp} (a : Same H H') : Fr [] H H' := ⟨fun b o h _ => a b o h, fun b h => by
  cases e : H b with
  | none => exact absurd e h
  | some o => rw [a b o e]; exact fun z => nomatch z⟩
/-- the object at t, written -/
theorem Fr.put {m : List Addr} {H : Hp} {t : Addr} {o : HO} (h : t ∈ m) : Fr m H (upd H t o) :=
  ⟨fun a u e n => by
    rw [upd_ne (fun z => n (by rw [z]; exact h))]
    exact e, fun a u => by
    by_cases e : a = t
    · subst e; rw [upd_same]; exact fun z => nomatch z
    · rw [upd_ne e]; exact u⟩

mutual
theorem Dt.mono {H H' : Hp} {A m : List Addr} (f : Fr m H H') (s : ∀ x ∈ m, x ∈ A) : ∀ {d : PyData} {v : V}, Dt H A v d → Dt H' A v d
  | _, _, .non => .non
  | _, _, .bl b => .bl b
  | _, _, .int i => .int i
  | _, _, .str x => .str x
  | _, _, .lst h n t => .lst (f.keep _ _ h fun z => n (s _ z)) n (DtA.mono f s t)
  | _, _, .tup h n t => .tup (f.keep _ _ h fun z => n (s _ z)) n (DtA.mono f s t)
  | _, _, .dct h n => .dct (f.keep _ _ h fun z => n (s _ z)) n
theorem DtA.mono {H H' : Hp} {A m : List Addr} (f : Fr m H H') (s : ∀ x ∈ m, x ∈ A) : ∀ {ds : List PyData} {vs : List V}, DtA H A vs ds → DtA H' A vs ds
  | _, _, .nil => .nil
  | _, _, .cons h t => .cons (Dt.mono f s h) (DtA.mono f s t)
end
mutual
theorem Dt.less {H : Hp} {A B : List Addr} (s : ∀ x ∈ B, x ∈ A) : ∀ {d : PyData} {v : V}, Dt H A v d → Dt H B v d
  | _, _, .non => .non
  | _, _, .bl b => .bl b
  | _, _, .int i => .int i
  | _, _, .str x => .str x
  | _, _, .lst h n t => .lst h (fun z => n (s _ z)) (DtA.less s t)
  | _, _, .tup h n t => .tup h (fun z => n (s _ z)) (DtA.less s t)
  | _, _, .dct h n => .dct h (fun z => n (s _ z))
theorem DtA.less {H : Hp} {A B : List Addr} (s : ∀ x ∈ B, x ∈ A) : ∀ {ds : List PyData} {vs : List V}, DtA H A vs ds → DtA H B vs ds
  | _, _, .nil => .nil
  | _, _, .cons h t => .cons (Dt.less s h) (DtA.less s t)
end
mutual
/-- an address that is not tracked is in no data -/
theorem Dt.add {H : Hp} {A : List Addr} {p : Addr} (hp : H p = none) : ∀ {d : PyData} {v : V}, Dt H A v d → Dt H (p :: A) v d
  | _, _, .non => .non
  | _, _, .bl b => .bl b
  | _, _, .int i => .int i
  | _, _, .str x => .str x
  | _, _, .lst h n t => .lst h (fun z => by
      rcases List.mem_cons.mp z with z | z
      · exact ne_of_none h hp z
      · exact n z) (DtA.add hp t)
  | _, _, .tup h n t => .tup h (fun z => by
      rcases List.mem_cons.mp z with z | z
      · exact ne_of_none h hp z
      · exact n z) (DtA.add hp t)
  | _, _, .dct h n => .dct h (fun z => by
      rcases List.mem_cons.mp z with z | z
      · exact ne_of_none h hp z
      · exact n z)
theorem DtA.add {H : Hp} {A : List Addr} {p : Addr} (hp : H p = none) : ∀ {ds : List PyData} {vs : List V}, DtA H A vs ds → DtA H (p :: A) vs ds
  | _, _, .nil => .nil
  | _, _, .cons h t => .cons (Dt.add hp h) (DtA.add hp t)
end
theorem Dt.grow {H : Hp} {A B : List Addr} {v : V} {d : PyData} (n : ∀ a ∈ B, a ∈ A ∨ H a = none) (h : Dt H A v d) : Dt H B v d := by
  have aux : ∀ C : List Addr, (∀ a ∈ C, a ∈ A ∨ H a = none) → Dt H (C ++ A) v d := by
    intro C
    induction C with
    | nil => exact fun _ => h
    | cons c C ih =>
      intro n
      have ih' := ih fun a z => n a (List.mem_cons_of_mem _ z)
      rcases n c List.mem_cons_self with z | z
      · refine ih'.less fun x hx => ?_
        rcases List.mem_cons.mp hx with rfl | hx
        · exact List.mem_append_right _ z
        · exact hx
      · exact ih'.add z
  exact (aux B n).less fun a z => List.mem_append_left _ z
theorem DtA.grow {H : Hp} {A B : List Addr} (n : ∀ a ∈ B, a ∈ A ∨ H a = none) : ∀ {ds : List PyData} {vs : List V}, DtA H A vs ds → DtA H B vs ds
  | _, _, .nil => .nil
  | _, _, .cons h t => .cons (h.grow n) (DtA.grow n t)
theorem DtA.length {H : Hp} {A : List Addr} : ∀ {ds : List PyData} {vs : List V}, DtA H A vs ds → vs.length = ds.length
  | _, _, .nil => rfl
  | _, _, .cons _ t => by rw [List.length_cons, List.length_cons, DtA.length t]
theorem DtA.get {H : Hp} {A : List Addr} : ∀ {ds : List PyData} {vs : List V} {i : Nat} {v : V}, DtA H A vs ds → vs[i]? = some v → ∃ d, ds[i]? = some d ∧ Dt H A v d
  | _, _, _, _, .nil, e => by simp at e
  | _, _, 0, _, .cons h _, e => by
    simp only [List.getElem?_cons_zero, Option.some.injEq] at e
    subst e
    exact ⟨_, rfl, h⟩
  | _, _, i + 1, _, .cons _ t, e => by
    rw [List.getElem?_cons_succ] at e
    rw [List.getElem?_cons_succ]
    exact DtA.get t e
theorem DtA.getD {H : Hp} {A : List Addr} : ∀ {ds : List PyData} {vs : List V} {i : Nat} {d : PyData}, DtA H A vs ds → ds[i]? = some d → ∃ v, vs[i]? = some v ∧ Dt H A v d
  | _, _, _, _, .nil, e => by simp at e
  | _, _, 0, _, .cons h _, e => by
    simp only [List.getElem?_cons_zero, Option.some.injEq] at e
    subst e
    exact ⟨_, rfl, h⟩
  | _, _, i + 1, _, .cons _ t, e => by
    rw [List.getElem?_cons_succ] at e
    rw [List.getElem?_cons_succ]
    exact DtA.getD t e
theorem DtA.append {H : Hp} {A : List Addr} : ∀ {ds es : List PyData} {vs ws : List V}, DtA H A vs ds → DtA H A ws es → DtA H A (vs ++ ws) (ds ++ es)
  | _, _, _, _, .nil, s => s
  | _, _, _, _, .cons h t, s => .cons h (DtA.append t s)
theorem DtA.take {H : Hp} {A : List Addr} : ∀ {ds : List PyData} {vs : List V} (n : Nat), DtA H A vs ds → DtA H A (vs.take n) (ds.take n)
  | _, _, 0, _ => .nil
  | _, _, _ + 1, .nil => .nil
  | _, _, n + 1, .cons h t => .cons h (DtA.take n t)
theorem DtA.drop {H : Hp} {A : List Addr} : ∀ {ds : List PyData} {vs : List V} (n : Nat), DtA H A vs ds → DtA H A (vs.drop n) (ds.drop n)
  | _, _, 0, r => r
  | _, _, _ + 1, .nil => .nil
  | _, _, n + 1, .cons _ t => DtA.drop n t
theorem DtA.ints {H : Hp} {A : List Addr} : ∀ ns : List Int, DtA H A (ns.map V.int) (ns.map PyData.int)
  | [] => .nil
  | n :: r => .cons (.int n) (DtA.ints r)
theorem DtA.int_inv {H : Hp} {A : List Addr} : ∀ {ns : List Int} {vs : List V}, DtA H A vs (ns.map PyData.int) → vs = ns.map V.int
  | [], _, h => by cases h; rfl
  | n :: r, _, h => by
    cases h with
    | cons h t =>
      cases h
      rw [DtA.int_inv t]
      rfl
theorem DtA.bool_inv {H : Hp} {A : List Addr} : ∀ {ns : List Bool} {vs : List V}, DtA H A vs (ns.map PyData.bool) → vs = ns.map V.bl
  | [], _, h => by cases h; rfl
  | n :: r, _, h => by
    cases h with
    | cons h t =>
      cases h
      rw [DtA.bool_inv t]
      rfl
/-- a new list | tuple | dict -/
theorem Dt.newL {H : Hp} {A : List Addr} {p : Addr} {vs : List V} {ds : List PyData} (hp : H p = none) (hA : ∀ a ∈ A, H a ≠ none) (h : DtA H A vs ds) : Dt (upd H p (.lst vs)) A (.ref p) (.list ds) :=
  .lst upd_same (fun z => hA p z hp) (h.mono (m := []) (.new hp) fun _ z => nomatch z)
theorem Dt.newT {H : Hp} {A : List Addr} {p : Addr} {vs : List V} {ds : List PyData} (hp : H p = none) (hA : ∀ a ∈ A, H a ≠ none) (h : DtA H A vs ds) : Dt (upd H p (.tup vs)) A (.ref p) (.tuple ds) :=
  .tup upd_same (fun z => hA p z hp) (h.mono (m := []) (.new hp) fun _ z => nomatch z)
theorem Dt.newD {H : Hp} {A : List Addr} {p : Addr} (hp : H p = none) (hA : ∀ a ∈ A, H a ≠ none) : Dt (upd H p (.dK [])) A (.ref p) (.dict []) :=
  .dct upd_same (fun z => hA p z hp)

/-! ### frames of a def; states -/
/-- what a def may write beside its own new objects (m), what holds of it (I) -/
structure Fm where
  m : List Addr
  I : Hp → Prop
  keep : ∀ H H', Same H H' → I H → I H'
  loc : ∀ H H', (∀ a ∈ m, H' a = H a) → I H → I H'
  /-- which entry it is about -/
  z : Hp → Prop := fun _ => True
def F0 : Fm := ⟨[], fun _ => True, fun _ _ _ _ => trivial, fun _ _ _ _ => trivial, fun _ => True⟩
/-- the same, of one entry alone -/
def Fm.at (F : Fm) (H0 : Hp) : Fm := { F with z := fun H => H = H0 }

/-- a slot: nothing known | data | a value that is known | an own list that may be written -/
inductive Sl where
  | no
  | d (d : PyData)
  | v (v : V)
  | m (t : Addr) (ds : List PyData)

def SlOk (F : Fm) (H0 H : Hp) (A : List Addr) (o : Option V) : Sl → Prop
  | .no => True
  | .d d => ∃ v, o = some v ∧ Dt H A v d
  | .v v => o = some v
  | .m t ds => o = some (.ref t) ∧ t ∈ A ∧ t ∉ F.m ∧ H0 t = none ∧ ∃ vs, H t = some (.lst vs) ∧ DtA H A vs ds

/-- the state between two steps of a def: from its entry H0 on -/
structure S (F : Fm) (H0 : Hp) (A : List Addr) (Δ : List Sl) (σ : L2.St) (H : Hp) : Prop where
  fr : Fr F.m H0 H
  inv : F.I H
  sub : ∀ a ∈ F.m, a ∈ A
  trk : ∀ a ∈ A, H a ≠ none
  st0 : F.z H0
  len : σ.length = Δ.length
  env : ∀ i : Nat, ∀ s : Sl, Δ[i]? = some s → ∃ o, σ[i]? = some o ∧ SlOk F H0 H A o s
  apart : ∀ (i j : Nat) (t : Addr) (ds es : List PyData), Δ[i]? = some (.m t ds) → Δ[j]? = some (.m t es) → i = j

section
variable {F : Fm} {H0 H H' : Hp} {A : List Addr} {Δ : List Sl} {σ : L2.St}
theorem SlOk.mono {o : Option V} (f : Fr F.m H H') (sub : ∀ a ∈ F.m, a ∈ A) : ∀ {s : Sl}, SlOk F H0 H A o s → SlOk F H0 H' A o s
  | .no, _ => trivial
  | .d _, ⟨v, e, h⟩ => ⟨v, e, h.mono f sub⟩
  | .v _, h => h
  | .m t ds, ⟨e, a, n, z, vs, h, q⟩ => ⟨e, a, n, z, vs, f.keep _ _ h n, q.mono f sub⟩
theorem SlOk.same {o : Option V} (f : Fr [] H H') : ∀ {s : Sl}, SlOk F H0 H A o s → SlOk F H0 H' A o s
  | .no, _ => trivial
  | .d _, ⟨v, e, h⟩ => ⟨v, e, h.mono f fun _ z => nomatch z⟩
  | .v _, h => h
  | .m t ds, ⟨e, a, n, z, vs, h, q⟩ => ⟨e, a, n, z, vs, f.keep _ _ h (fun z => nomatch z), q.mono f fun _ z => nomatch z⟩
/-- behind a step that writes what F lets -/
theorem S.step (s : S F H0 A Δ σ H) (f : Fr F.m H H') (i : F.I H') : S F H0 A Δ σ H' :=
  ⟨s.fr.trans f, i, s.sub, fun a h => f.trk a (s.trk a h), s.st0, s.len, fun k x e => let ⟨o, h1, h2⟩ := s.env k x e; ⟨o, h1, h2.mono f s.sub⟩, s.apart⟩
/-- behind a step that writes nothing -/
theorem S.more (s : S F H0 A Δ σ H) (f : Fr [] H H') : S F H0 A Δ σ H' :=
  s.step (f.more fun _ z => nomatch z) (F.keep _ _ f.same s.inv)
theorem S.laid (s : S F H0 A Δ σ H) {p : Addr} {o : HO} (hp : H p = none) : S F H0 A Δ σ (upd H p o) := s.more (.new hp)
/-- a new object, one that may be written -/
theorem S.laidP (s : S F H0 A Δ σ H) {p : Addr} {o : HO} (hp : H p = none) : S F H0 (p :: A) Δ σ (upd H p o) := by
  have f : Fr [] H (upd H p o) := .new hp
  refine ⟨s.fr.trans (f.more fun _ z => nomatch z), F.keep _ _ f.same s.inv, fun a h => List.mem_cons_of_mem _ (s.sub a h), fun a h => ?_, s.st0, s.len, fun k x e => ?_, s.apart⟩
  · rcases List.mem_cons.mp h with rfl | h
    · rw [upd_same]; exact fun z => nomatch z
    · exact f.trk a (s.trk a h)
  · obtain ⟨y, h1, h2⟩ := s.env k x e
    refine ⟨y, h1, ?_⟩
    cases x with
    | no => trivial
    | d d => obtain ⟨v, e, h⟩ := h2; exact ⟨v, e, (h.add hp).mono f fun _ z => nomatch z⟩
    | v v => exact h2
    | m t ds => obtain ⟨e1, a, n, z, vs, h, q⟩ := h2; exact ⟨e1, List.mem_cons_of_mem _ a, n, z, vs, f.keep _ _ h (fun z => nomatch z), (q.add hp).mono f fun _ z => nomatch z⟩
theorem S.mem (s : S F H0 A Δ σ H) {k : Nat} {t : Addr} {ds : List PyData} (e : Δ[k]? = some (.m t ds)) : t ∈ A := by
  obtain ⟨_, _, h2⟩ := s.env k _ e
  exact h2.2.1
/-- the list of what may be written, cut back -/
theorem S.cut {B : List Addr} (s : S F H0 A Δ σ H) (sub : ∀ a ∈ B, a ∈ A) (hm : ∀ a ∈ F.m, a ∈ B) (hd : ∀ (i : Nat) t ds, Δ[i]? = some (Sl.m t ds) → t ∈ B) : S F H0 B Δ σ H :=
  ⟨s.fr, s.inv, hm, fun a h => s.trk a (sub a h), s.st0, s.len, fun k x e => by
    obtain ⟨o, h1, h2⟩ := s.env k x e
    refine ⟨o, h1, ?_⟩
    cases x with
    | no => trivial
    | d d => obtain ⟨v, e, h⟩ := h2; exact ⟨v, e, h.less sub⟩
    | v v => exact h2
    | m t ds => obtain ⟨e1, _, n, z, vs, h, q⟩ := h2; exact ⟨e1, hd k t ds e, n, z, vs, h, q.less sub⟩, s.apart⟩
/-- a slot is stored -/
theorem S.set (s : S F H0 A Δ σ H) {i : Nat} {v : V} {x : Sl} (hx : SlOk F H0 H A (some v) x) (hap : ∀ t ds, x = .m t ds → ∀ (j : Nat) (es : List PyData), j ≠ i → Δ[j]? ≠ some (.m t es)) : S F H0 A (Δ.set i x) (σ.set i (some v)) H := by
  refine ⟨s.fr, s.inv, s.sub, s.trk, s.st0, by rw [List.length_set, List.length_set, s.len], fun k y e => ?_, fun k j t ds es h1 h2 => ?_⟩
  · rw [List.getElem?_set] at e
    rw [List.getElem?_set]
    by_cases hk : i = k
    · subst hk
      rw [if_pos rfl] at e ⊢
      by_cases hl : i < Δ.length
      · rw [if_pos hl] at e
        rw [if_pos (by rw [s.len]; exact hl)]
        cases e
        exact ⟨_, rfl, hx⟩
      · rw [if_neg hl] at e
        cases e
    · rw [if_neg hk] at e ⊢
      exact s.env k y e
  · rw [List.getElem?_set] at h1 h2
    by_cases hk : i = k
    · by_cases hj : i = j
      · rw [← hk, ← hj]
      · rw [if_pos hk] at h1
        rw [if_neg hj] at h2
        split at h1
        · cases h1
          exact absurd h2 (hap _ _ rfl j _ (fun z => hj z.symm))
        · cases h1
    · by_cases hj : i = j
      · rw [if_pos hj] at h2
        rw [if_neg hk] at h1
        split at h2
        · cases h2
          exact absurd h1 (hap _ _ rfl k _ (fun z => hk z.symm))
        · cases h2
      · rw [if_neg hk] at h1
        rw [if_neg hj] at h2
        exact s.apart k j t ds es h1 h2
/-- an own list is written -/
theorem S.put (s : S F H0 A Δ σ H) {i : Nat} {t : Addr} {ds ds' : List PyData} {vs' : List V} (h : Δ[i]? = some (.m t ds)) (q : DtA H A vs' ds') : S F H0 A (Δ.set i (.m t ds')) σ (upd H t (.lst vs')) := by
  obtain ⟨o, ho, e0, tA, tm, t0, vs, ht, hv⟩ := s.env i _ h
  have f : Fr [t] H (upd H t (.lst vs')) := .put List.mem_cons_self
  have sub1 : ∀ a ∈ [t], a ∈ A := fun a z => by
    rw [List.mem_singleton.mp z]
    exact tA
  refine ⟨⟨fun a u e n => ?_, fun a z => f.trk a (s.fr.trk a z)⟩, F.loc H _ (fun a z => upd_ne fun e => tm (by rw [← e]; exact z)) s.inv, s.sub, fun a z => f.trk a (s.trk a z), s.st0, by rw [List.length_set, s.len], fun k x e => ?_, fun k j t1 es1 es2 h1 h2 => ?_⟩
  · rw [upd_ne (ne_of_none e t0)]
    exact s.fr.keep a u e n
  · rw [List.getElem?_set] at e
    by_cases hk : i = k
    · subst hk
      rw [if_pos rfl] at e
      split at e
      · cases e
        exact ⟨o, ho, e0, tA, tm, t0, vs', upd_same, q.mono f sub1⟩
      · cases e
    · rw [if_neg hk] at e
      obtain ⟨y, h1, h2⟩ := s.env k x e
      refine ⟨y, h1, ?_⟩
      cases x with
      | no => trivial
      | d d => obtain ⟨v, e1, hd⟩ := h2; exact ⟨v, e1, hd.mono f sub1⟩
      | v v => exact h2
      | m t2 es =>
        obtain ⟨e1, a1, n1, z1, vs2, h3, q3⟩ := h2
        have ne : t2 ≠ t := fun z => by
          subst z
          exact hk (s.apart i k _ _ _ h e)
        exact ⟨e1, a1, n1, z1, vs2, by rw [upd_ne ne]; exact h3, q3.mono f sub1⟩
  · rw [List.getElem?_set] at h1 h2
    have nm : ∀ (k : Nat) es, i ≠ k → Δ[k]? ≠ some (.m t es) := fun k es hk z => hk (s.apart i k _ _ _ h z)
    by_cases hk : i = k
    · by_cases hj : i = j
      · rw [← hk, ← hj]
      · rw [if_pos hk] at h1
        rw [if_neg hj] at h2
        split at h1
        · cases h1
          exact absurd h2 (nm j _ hj)
        · cases h1
    · by_cases hj : i = j
      · rw [if_pos hj] at h2
        rw [if_neg hk] at h1
        split at h2
        · cases h2
          exact absurd h1 (nm k _ hk)
        · cases h2
      · rw [if_neg hk] at h1
        rw [if_neg hj] at h2
        exact s.apart k j _ _ _ h1 h2
/-- a slot of data -/
theorem S.setD (s : S F H0 A Δ σ H) {i : Nat} {v : V} {d : PyData} (h : Dt H A v d) : S F H0 A (Δ.set i (.d d)) (σ.set i (some v)) H :=
  s.set ⟨v, rfl, h⟩ fun _ _ e => nomatch e
/-- slots forgotten -/
def wipeD (Δ : List Sl) : List Nat → List Sl
  | [] => Δ
  | v :: vs => (wipeD Δ vs).set v .no
theorem S.wipe (s : S F H0 A Δ σ H) : ∀ vs : List Nat, S F H0 A (wipeD Δ vs) (L2.wipe σ vs) H
  | [] => s
  | v :: vs => by
    have w := S.wipe s vs
    show S F H0 A ((wipeD Δ vs).set v .no) ((L2.wipe σ vs).set v none) H
    refine ⟨w.fr, w.inv, w.sub, w.trk, w.st0, by rw [List.length_set, List.length_set, w.len], fun k y e => ?_, fun k j t ds es h1 h2 => ?_⟩
    · rw [List.getElem?_set] at e
      rw [List.getElem?_set]
      by_cases hk : v = k
      · subst hk
        rw [if_pos rfl] at e ⊢
        by_cases hl : v < (wipeD Δ vs).length
        · rw [if_pos hl] at e
          rw [if_pos (by rw [w.len]; exact hl)]
          cases e
          exact ⟨_, rfl, trivial⟩
        · rw [if_neg hl] at e
          cases e
      · rw [if_neg hk] at e ⊢
        exact w.env k y e
    · rw [List.getElem?_set] at h1 h2
      by_cases hk : v = k
      · rw [if_pos hk] at h1
        split at h1 <;> cases h1
      · by_cases hj : v = j
        · rw [if_pos hj] at h2
          split at h2 <;> cases h2
        · rw [if_neg hk] at h1
          rw [if_neg hj] at h2
          exact w.apart k j t ds es h1 h2
end
end Dl

/-! D2: what an expression, a test, arguments, statements do, told by data alone -/
namespace Dl
open PySem PySem.Spec PyProof.Rows L2

section
variable (F : Fm) (A : List Addr) (Δ : List Sl)
/-- the data of an expression satisfies q -/
def Ev (te : TE) (q : PyData → Prop) : Prop :=
  ∀ (H0 : Hp) (σ : L2.St) (H : Hp), S F H0 A Δ σ H → ∀ Q : VK, (∀ v d H', S F H0 A Δ σ H' → Fr F.m H H' → Dt H' A v d → q d → Q v H') → te σ H Q
/-- a new list, not yet data -/
def EvN (te : TE) (q : List PyData → Prop) : Prop :=
  ∀ (H0 : Hp) (σ : L2.St) (H : Hp), S F H0 A Δ σ H → ∀ Q : VK, (∀ p vs ds H', S F H0 (p :: A) Δ σ H' → Fr F.m H H' → H p = none → H' p = some (.lst vs) → DtA H' (p :: A) vs ds → q ds → Q (.ref p) H') → te σ H Q
def EvT (tt : TT) (q : Bool → Prop) : Prop :=
  ∀ (H0 : Hp) (σ : L2.St) (H : Hp), S F H0 A Δ σ H → ∀ Q : Bool → Hp → Prop, (∀ b H', S F H0 A Δ σ H' → Fr F.m H H' → q b → Q b H') → tt σ H Q
def EvA (ta : TA) (q : List PyData → Prop) : Prop :=
  ∀ (H0 : Hp) (σ : L2.St) (H : Hp), S F H0 A Δ σ H → ∀ Q : List V → Hp → Prop, (∀ vs ds H', S F H0 A Δ σ H' → Fr F.m H H' → DtA H' A vs ds → q ds → Q vs H') → ta σ H Q
def EvO (to : TO) (q : Option Int → Prop) : Prop :=
  ∀ (H0 : Hp) (σ : L2.St) (H : Hp), S F H0 A Δ σ H → ∀ Q : Option Int → Hp → Prop, (∀ o H', S F H0 A Δ σ H' → Fr F.m H H' → q o → Q o H') → to σ H Q
end

/-- the ends of a statement, by data -/
structure En where
  nx : List Addr → List Sl → Prop
  rt : PyData → Prop
  bk : List Addr → List Sl → Prop := fun _ _ => False
  ct : List Addr → List Sl → Prop := fun _ _ => False
/-- from (A, H) to a later state -/
structure Go (F : Fm) (H0 : Hp) (A : List Addr) (H : Hp) (A' : List Addr) (Δ' : List Sl) (σ' : L2.St) (H' : Hp) : Prop where
  sub : ∀ a ∈ A, a ∈ A'
  new : ∀ a ∈ A', a ∈ A ∨ H a = none
  fr : Fr A H H'
  st : S F H0 A' Δ' σ' H'
/-- a statement, by data -/
def Sq (F : Fm) (A : List Addr) (Δ : List Sl) (ts : TS) (E : En) : Prop :=
  ∀ (H0 : Hp) (σ : L2.St) (H : Hp), S F H0 A Δ σ H → ∀ D : Ends,
    (∀ A' Δ' σ' H', Go F H0 A H A' Δ' σ' H' → E.nx A' Δ' → D.nx σ' H') →
    (∀ A' v d H', (∀ a ∈ A, H0 a ≠ none → a ∈ A') → Fr F.m H0 H' → F.I H' → Dt H' A' v d → E.rt d → D.rt v H') →
    (∀ A' Δ' σ' H', Go F H0 A H A' Δ' σ' H' → E.bk A' Δ' → D.bk σ' H') →
    (∀ A' Δ' σ' H', Go F H0 A H A' Δ' σ' H' → E.ct A' Δ' → D.ct σ' H') → ts D σ H

section
variable {F : Fm} {A : List Addr} {Δ : List Sl} {K : PySem.W.Frag} {ta tb te tc : TE} {tt tu : TT} {t t1 : TA} {q : PyData → Prop} {i : Nat} {r : R2}

/-! ### the simple ones -/
theorem Ev.imp {q' : PyData → Prop} (h : Ev F A Δ te q) (k : ∀ d, q d → q' d) : Ev F A Δ te q' := fun H0 σ H s Q z => h H0 σ H s Q fun v d H' s' f dt hq => z v d H' s' f dt (k d hq)
theorem EvN.imp {q q' : List PyData → Prop} (h : EvN F A Δ te q) (k : ∀ d, q d → q' d) : EvN F A Δ te q' := fun H0 σ H s Q z => h H0 σ H s Q fun p vs ds H' s' f n e dt hq => z p vs ds H' s' f n e dt (k ds hq)
theorem ev_var {d : PyData} (h : Δ[i]? = some (.d d)) (hq : q d) : Ev F A Δ (tVar i) q := fun H0 σ H s Q z => by
  obtain ⟨o, e, v, rfl, dt⟩ := s.env i _ h
  exact ⟨v, e, z v d H s (.refl _) dt hq⟩
theorem ev_int {n : Int} (hq : q (.int n)) : Ev F A Δ (tC (.int n)) q := fun H0 σ H s Q z => z _ _ H s (.refl _) (.int n) hq
theorem ev_bl {b : Bool} (hq : q (.bool b)) : Ev F A Δ (tC (.bl b)) q := fun H0 σ H s Q z => z _ _ H s (.refl _) (.bl b) hq
theorem ev_non (hq : q .none) : Ev F A Δ (tC .non) q := fun H0 σ H s Q z => z _ _ H s (.refl _) .non hq
theorem ev_str {x : Str} (hq : q (.str x)) : Ev F A Δ (tC (.str x)) q := fun H0 σ H s Q z => z _ _ H s (.refl _) (.str x) hq
/-- two operands, a rule by values -/
theorem ev_op {R : PyData → PyData → Prop} (ha : Ev F A Δ ta fun d1 => Ev F A Δ tb fun d2 => R d1 d2)
    (hr : ∀ (H0 : Hp) (σ : L2.St) (H : Hp) x y d1 d2, S F H0 A Δ σ H → Dt H A x d1 → Dt H A y d2 → R d1 d2 → ∀ Q : VK, (∀ v d H', S F H0 A Δ σ H' → Fr F.m H H' → Dt H' A v d → q d → Q v H') → r x y H Q) : Ev F A Δ (tOp r ta tb) q := fun H0 σ H s Q z =>
  ha H0 σ H s _ fun x d1 H1 s1 f1 h1 k1 => k1 H0 σ H1 s1 _ fun y d2 H2 s2 f2 h2 k2 =>
    hr H0 σ H2 x y d1 d2 s2 (h1.mono f2 s1.sub) h2 k2 _ fun v d H3 s3 f3 h3 k3 => z v d H3 s3 ((f1.trans f2).trans f3) h3 k3
/-- ints to an int -/
theorem ev_ii {g : Int → Int → Int} (ha : Ev F A Δ ta fun d1 => Ev F A Δ tb fun d2 => ∃ i j, d1 = .int i ∧ d2 = .int j ∧ q (.int (g i j))) : Ev F A Δ (tOp (rI0 fun i j => .int (g i j)) ta tb) q :=
  ev_op ha fun H0 σ H x y d1 d2 s h1 h2 ⟨i, j, e1, e2, hq⟩ Q z => by
    subst e1 e2
    cases h1
    cases h2
    exact ⟨i, j, rfl, rfl, z _ _ H s (.refl _) (.int _) hq⟩
theorem ev_iic {C : Int → Int → Prop} {g : Int → Int → Int} (ha : Ev F A Δ ta fun d1 => Ev F A Δ tb fun d2 => ∃ i j, d1 = .int i ∧ d2 = .int j ∧ C i j ∧ q (.int (g i j))) : Ev F A Δ (tOp (rI C fun i j => .int (g i j)) ta tb) q :=
  ev_op ha fun H0 σ H x y d1 d2 s h1 h2 ⟨i, j, e1, e2, c, hq⟩ Q z => by
    subst e1 e2
    cases h1
    cases h2
    exact ⟨i, j, rfl, rfl, c, z _ _ H s (.refl _) (.int _) hq⟩
theorem ev_ib {g : Int → Int → Bool} (ha : Ev F A Δ ta fun d1 => Ev F A Δ tb fun d2 => ∃ i j, d1 = .int i ∧ d2 = .int j ∧ q (.bool (g i j))) : Ev F A Δ (tOp (rI0 fun i j => .bl (g i j)) ta tb) q :=
  ev_op ha fun H0 σ H x y d1 d2 s h1 h2 ⟨i, j, e1, e2, hq⟩ Q z => by
    subst e1 e2
    cases h1
    cases h2
    exact ⟨i, j, rfl, rfl, z _ _ H s (.refl _) (.bl _) hq⟩
theorem ev_neg (ha : Ev F A Δ ta fun d => ∃ i, d = .int i ∧ q (.int (-i))) : Ev F A Δ (tUn (rU fun i => .int (-i)) ta) q := fun H0 σ H s Q z =>
  ha H0 σ H s _ fun x d H1 s1 f1 h1 ⟨i, e, k⟩ => by
    subst e
    cases h1
    exact ⟨i, rfl, z _ _ H1 s1 f1 (.int _) k⟩
/-- == and != of two ints | texts | None beside such -/
def scalD : PyData → PyData → Option Bool
  | .int i, .int j => some (decide (i = j))
  | .str i, .str j => some (decide (i = j))
  | .bool i, .bool j => some (decide (i = j))
  | .none, .none => some true
  | .none, .str _ => some false
  | .str _, .none => some false
  | .none, .int _ => some false
  | .int _, .none => some false
  | .int _, .str _ => some false
  | .str _, .int _ => some false
  | _, _ => none
theorem scalD_v {H : Hp} {x y : V} {d e : PyData} {b : Bool} (h1 : Dt H A x d) (h2 : Dt H A y e) (h : scalD d e = some b) : scal x y = true ∧ decide (x = y) = b := by
  cases h1 <;> cases h2 <;> first
    | (simp only [scalD, reduceCtorEq] at h; done)
    | (unfold scalD at h
       cases h
       refine ⟨rfl, ?_⟩
       first
         | rfl
         | (simp only [V.int.injEq, V.str.injEq, V.bl.injEq])
         | (exact decide_eq_false fun z => nomatch z))
theorem ev_eq (ha : Ev F A Δ ta fun d1 => Ev F A Δ tb fun d2 => ∃ b, scalD d1 d2 = some b ∧ q (.bool b)) : Ev F A Δ (tOp rEq ta tb) q :=
  ev_op ha fun H0 σ H x y d1 d2 s h1 h2 ⟨b, e, hq⟩ Q z => by
    obtain ⟨e1, e2⟩ := scalD_v h1 h2 e
    refine ⟨e1, ?_⟩
    rw [e2]
    exact z _ _ H s (.refl _) (.bl _) hq
theorem ev_ne (ha : Ev F A Δ ta fun d1 => Ev F A Δ tb fun d2 => ∃ b, scalD d1 d2 = some b ∧ q (.bool (!b))) : Ev F A Δ (tOp rNe ta tb) q :=
  ev_op ha fun H0 σ H x y d1 d2 s h1 h2 ⟨b, e, hq⟩ Q z => by
    obtain ⟨e1, e2⟩ := scalD_v h1 h2 e
    refine ⟨e1, ?_⟩
    rw [e2]
    exact z _ _ H s (.refl _) (.bl _) hq
/-! == of data -/
mutual
theorem Dt.dp {H : Hp} : ∀ {d : PyData} {v : V}, Dt H A v d → d.canLay0 = true → Dp K H v d
  | _, _, .non, _ => .non
  | _, _, .bl b, _ => .bl b
  | _, _, .int i, _ => .int i
  | _, _, .str x, _ => .str x
  | _, _, .lst h n t, c => .lst (.of h) (DtA.dp t (by simpa [PyData.canLay0] using c))
  | _, _, .tup h n t, c => .tup (.of h) (DtA.dp t (by simpa [PyData.canLay0] using c))
  | _, _, .dct h n, c => absurd c (by simp [PyData.canLay0])
theorem DtA.dp {H : Hp} : ∀ {ds : List PyData} {vs : List V}, DtA H A vs ds → PyData.canLayAll0 ds = true → DpAll K H vs ds
  | _, _, .nil, _ => .nil
  | _, _, .cons h t, c => by
    have c' := c
    simp only [PyData.canLayAll0, Bool.and_eq_true] at c'
    exact .cons (Dt.dp h c'.1) (DtA.dp t c'.2)
end
theorem ev_eqD (ha : Ev F A Δ ta fun d1 => Ev F A Δ tb fun d2 => SeqAt.shaped d1 = true ∧ SeqAt.shaped d2 = true ∧ q (.bool (PyData.eqv d1 d2))) : Ev F A Δ (tOp (rEqD K) ta tb) q :=
  ev_op ha fun H0 σ H x y d1 d2 s h1 h2 ⟨e1, e2, hq⟩ Q z =>
    ⟨d1, d2, h1.dp (SeqAt.canLay_of_shaped e1), h2.dp (SeqAt.canLay_of_shaped e2), e1, e2, z _ _ H s (.refl _) (.bl _) hq⟩
theorem ev_neD (ha : Ev F A Δ ta fun d1 => Ev F A Δ tb fun d2 => SeqAt.shaped d1 = true ∧ SeqAt.shaped d2 = true ∧ q (.bool (!PyData.eqv d1 d2))) : Ev F A Δ (tOp (rNeD K) ta tb) q :=
  ev_op ha fun H0 σ H x y d1 d2 s h1 h2 ⟨e1, e2, hq⟩ Q z =>
    ⟨d1, d2, h1.dp (SeqAt.canLay_of_shaped e1), h2.dp (SeqAt.canLay_of_shaped e2), e1, e2, z _ _ H s (.refl _) (.bl _) hq⟩

/-! ### tests -/
theorem evt_val {q : Bool → Prop} (h : Ev F A Δ te fun d => ∃ b, d = .bool b ∧ q b) : EvT F A Δ (tTest te) q := fun H0 σ H s Q z =>
  h H0 σ H s _ fun v d H1 s1 f1 h1 ⟨b, e, k⟩ => by
    subst e
    cases h1
    exact ⟨b, rfl, z b H1 s1 f1 k⟩
theorem evt_B {q : Bool → Prop} (h : Ev F A Δ te fun d => ∃ b, d = .bool b ∧ q b) : EvT F A Δ (tB te) q := evt_val h
theorem evt_not {q : Bool → Prop} (h : EvT F A Δ tt fun b => q (!b)) : EvT F A Δ (tNot tt) q := fun H0 σ H s Q z => h H0 σ H s _ fun b H1 s1 f1 k => z _ H1 s1 f1 k
theorem evt_and {q : Bool → Prop} (h : EvT F A Δ tt fun b => (b = true → EvT F A Δ tu q) ∧ (b = false → q false)) : EvT F A Δ (tAnd tt tu) q := fun H0 σ H s Q z =>
  h H0 σ H s _ fun b H1 s1 f1 k => by
    cases b with
    | true => exact iteT (k.1 rfl H0 σ H1 s1 _ fun b H2 s2 f2 k2 => z b H2 s2 (f1.trans f2) k2)
    | false => exact iteF (z _ H1 s1 f1 (k.2 rfl))
theorem evt_or {q : Bool → Prop} (h : EvT F A Δ tt fun b => (b = true → q true) ∧ (b = false → EvT F A Δ tu q)) : EvT F A Δ (tOr tt tu) q := fun H0 σ H s Q z =>
  h H0 σ H s _ fun b H1 s1 f1 k => by
    cases b with
    | false => exact iteF (k.2 rfl H0 σ H1 s1 _ fun b H2 s2 f2 k2 => z b H2 s2 (f1.trans f2) k2)
    | true => exact iteT (z _ H1 s1 f1 (k.1 rfl))
theorem evt_yes {q : Bool → Prop} (h : q true) : EvT F A Δ tYes q := fun H0 σ H s Q z => z _ H s (.refl _) h
theorem ev_if (h : EvT F A Δ tt fun b => (b = true → Ev F A Δ ta q) ∧ (b = false → Ev F A Δ tb q)) : Ev F A Δ (tIf tt ta tb) q := fun H0 σ H s Q z =>
  h H0 σ H s _ fun b H1 s1 f1 k => by
    cases b with
    | true => exact iteT (k.1 rfl H0 σ H1 s1 _ fun v d H2 s2 f2 h2 k2 => z v d H2 s2 (f1.trans f2) h2 k2)
    | false => exact iteF (k.2 rfl H0 σ H1 s1 _ fun v d H2 s2 f2 h2 k2 => z v d H2 s2 (f1.trans f2) h2 k2)
theorem ev_andV (h : Ev F A Δ ta fun d => ∃ b, d = .bool b ∧ (b = true → Ev F A Δ tb q) ∧ (b = false → q (.bool false))) : Ev F A Δ (tAndV ta tb) q := fun H0 σ H s Q z =>
  h H0 σ H s _ fun v d H1 s1 f1 h1 ⟨b, e, k⟩ => by
    subst e
    cases h1
    refine ⟨b, rfl, ?_⟩
    cases b with
    | true => exact iteT (k.1 rfl H0 σ H1 s1 _ fun v d H2 s2 f2 h2 k2 => z v d H2 s2 (f1.trans f2) h2 k2)
    | false => exact iteF (z _ _ H1 s1 f1 (.bl _) (k.2 rfl))
theorem ev_orV (h : Ev F A Δ ta fun d => ∃ b, d = .bool b ∧ (b = true → q (.bool true)) ∧ (b = false → Ev F A Δ tb q)) : Ev F A Δ (tOrV ta tb) q := fun H0 σ H s Q z =>
  h H0 σ H s _ fun v d H1 s1 f1 h1 ⟨b, e, k⟩ => by
    subst e
    cases h1
    refine ⟨b, rfl, ?_⟩
    cases b with
    | false => exact iteF (k.2 rfl H0 σ H1 s1 _ fun v d H2 s2 f2 h2 k2 => z v d H2 s2 (f1.trans f2) h2 k2)
    | true => exact iteT (z _ _ H1 s1 f1 (.bl _) (k.1 rfl))
theorem ev_notV (h : Ev F A Δ ta fun d => ∃ b, d = .bool b ∧ q (.bool (!b))) : Ev F A Δ (tNotV ta) q := fun H0 σ H s Q z =>
  h H0 σ H s _ fun v d H1 s1 f1 h1 ⟨b, e, k⟩ => by
    subst e
    cases h1
    exact ⟨b, rfl, z _ _ H1 s1 f1 (.bl _) k⟩
/-- lo <= x <= hi of ints -/
theorem ev_between (h : Ev F A Δ ta fun d1 => Ev F A Δ tb fun d2 => ∃ i j, d1 = .int i ∧ d2 = .int j ∧ (i ≤ j → Ev F A Δ tc fun d3 => ∃ k, d3 = .int k ∧ q (.bool (decide (j ≤ k)))) ∧ (¬ i ≤ j → q (.bool false))) :
    Ev F A Δ (tChain (rI0 fun i j => .bl (decide (i ≤ j))) (rI0 fun i j => .bl (decide (i ≤ j))) ta tb tc) q := fun H0 σ H s Q z =>
  h H0 σ H s _ fun x d1 H1 s1 f1 h1 k1 => k1 H0 σ H1 s1 _ fun y d2 H2 s2 f2 h2 ⟨i, j, e1, e2, k2⟩ => by
    subst e1 e2
    cases h1
    cases h2
    refine ⟨i, j, rfl, rfl, decide (i ≤ j), rfl, ?_⟩
    by_cases hij : i ≤ j
    · rw [decide_eq_true hij]
      refine iteT (k2.1 hij H0 σ H2 s2 _ fun w d3 H3 s3 f3 h3 ⟨k, e3, k3⟩ => ?_)
      subst e3
      cases h3
      exact ⟨j, k, rfl, rfl, z _ _ H3 s3 ((f1.trans f2).trans f3) (.bl _) k3⟩
    · rw [decide_eq_false hij]
      exact iteF (z _ _ H2 s2 (f1.trans f2) (.bl _) (k2.2 hij))

/-! ### arguments, displays -/
theorem eva_nil {q : List PyData → Prop} (h : q []) : EvA F A Δ tNil q := fun H0 σ H s Q z => z _ _ H s (.refl _) .nil h
theorem eva_cons {q : List PyData → Prop} (h : Ev F A Δ te fun d => EvA F A Δ t fun ds => q (d :: ds)) : EvA F A Δ (tCons te t) q := fun H0 σ H s Q z =>
  h H0 σ H s _ fun v d H1 s1 f1 h1 k1 => k1 H0 σ H1 s1 _ fun vs ds H2 s2 f2 h2 k2 => z _ _ H2 s2 (f1.trans f2) (.cons (h1.mono f2 s1.sub) h2) k2
theorem eva_one {q : List PyData → Prop} (h : Ev F A Δ te fun d => q [d]) : EvA F A Δ (tCons te tNil) q := eva_cons (h.imp fun _ k => eva_nil k)
theorem ev_tup (h : EvA F A Δ t fun ds => ds.length ≤ 100000 ∧ q (.tuple ds)) : Ev F A Δ (tTup t) q := fun H0 σ H s Q z =>
  h H0 σ H s _ fun vs ds H1 s1 f1 h1 k1 => ⟨by rw [h1.length, sizeLine_eq]; omega, fun p hp => z _ _ _ (s1.laid hp) (f1.trans (.new hp)) (.newT hp s1.trk h1) k1.2⟩
theorem evn_lst {q : List PyData → Prop} (h : EvA F A Δ t fun ds => ds.length ≤ 100000 ∧ q ds) : EvN F A Δ (tLst t) q := fun H0 σ H s Q z =>
  h H0 σ H s _ fun vs ds H1 s1 f1 h1 k1 => ⟨by rw [h1.length, sizeLine_eq]; omega, fun p hp => z p vs ds _ (s1.laidP hp) (f1.trans (.new hp)) (by
    cases e : H p with
    | none => rfl
    | some o => exact absurd hp (f1.trk p (by rw [e]; exact fun z => nomatch z))) upd_same ((h1.add hp).mono (m := []) (.new hp) fun _ z => nomatch z) k1.2⟩
theorem Fr.free {m : List Addr} {H H' : Hp} (f : Fr m H H') {p : Addr} (hp : H' p = none) : H p = none := by
  cases e : H p with
  | none => rfl
  | some o => exact absurd hp (f.trk p (by rw [e]; exact fun z => nomatch z))
/-- a new list is data -/
theorem EvN.ev (h : EvN F A Δ te fun ds => q (.list ds)) : Ev F A Δ te q := fun H0 σ H s Q z =>
  h H0 σ H s _ fun p vs ds H1 s1 f1 n e dt k => z _ _ H1 (s1.cut (fun _ z => List.mem_cons_of_mem _ z) s.sub fun _ _ _ e => s.mem e) f1 (.lst e (fun hA => s.trk p hA n) (dt.less fun _ z => List.mem_cons_of_mem _ z)) k
theorem ev_lst (h : EvA F A Δ t fun ds => ds.length ≤ 100000 ∧ q (.list ds)) : Ev F A Δ (tLst t) q := (evn_lst (q := fun ds => q (.list ds)) h).ev
theorem ev_dict (hq : q (.dict [])) : Ev F A Δ tDNewK q := fun H0 σ H s Q z p hp => z _ _ _ (s.laid hp) (.new hp) (.newD hp s.trk) hq

/-! ### sequences -/
def seqD : PyData → Option (List PyData)
  | .list ds => some ds
  | .tuple ds => some ds
  | _ => none
theorem seq_v {H : Hp} {x : V} {d : PyData} {es : List PyData} (h : Dt H A x d) (e : seqD d = some es) : ∃ a xs, x = .ref a ∧ (H a = some (.lst xs) ∨ H a = some (.tup xs)) ∧ DtA H A xs es := by
  cases h <;> first
    | (simp only [seqD, reduceCtorEq] at e; done)
    | (rename_i h n t; cases e; exact ⟨_, _, rfl, .inl h, t⟩)
    | (rename_i h n t; cases e; exact ⟨_, _, rfl, .inr h, t⟩)
theorem ev_len (h : EvA F A Δ t fun ds => ∃ d es, ds = [d] ∧ seqD d = some es ∧ q (.int es.length)) : Ev F A Δ (tCB (fun xs H Q => ∃ p ys, xs = [.ref p] ∧ (SqL K H p ys ∨ SqT K H p ys) ∧ Q (.int ys.length) H) t) q := fun H0 σ H s Q z =>
  h H0 σ H s _ fun vs ds H1 s1 f1 h1 ⟨d, es, e1, e2, k⟩ => by
    subst e1
    cases h1 with
    | cons hd ht =>
      cases ht
      obtain ⟨a, xs, rfl, hh, hx⟩ := seq_v hd e2
      refine ⟨a, xs, rfl, hh.imp SqL.of SqT.of, ?_⟩
      rw [hx.length]
      exact z _ _ H1 s1 f1 (.int _) k
def atD (es : List PyData) (i : Int) : Option PyData := (ixN es.length i).bind fun j => es[j]?
theorem atD_nat {es : List PyData} {i : Nat} {d : PyData} (h : es[i]? = some d) : atD es (i : Int) = some d := by
  have hl : i < es.length := by
    refine Nat.lt_of_not_le fun z => ?_
    rw [List.getElem?_eq_none z] at h
    cases h
  unfold atD ixN
  rw [if_pos (by omega), if_pos (by omega)]
  exact h
theorem at_v {H : Hp} {xs : List V} {es : List PyData} {i : Int} {d : PyData} (hx : DtA H A xs es) (h : atD es i = some d) : ∃ v, atI xs i = some v ∧ Dt H A v d := by
  unfold atD at h
  unfold atI
  rw [hx.length]
  cases e : ixN es.length i with
  | none => rw [e] at h; cases h
  | some j =>
    rw [e] at h
    exact hx.getD h
/-- x[i] of a list or a tuple -/
theorem ev_ix (h : Ev F A Δ ta fun d1 => Ev F A Δ tb fun d2 => ∃ es i d, seqD d1 = some es ∧ d2 = .int i ∧ atD es i = some d ∧ q d) :
    Ev F A Δ (tOp (fun x y H Q => rIxL K x y H Q ∨ rIxT K x y H Q) ta tb) q :=
  ev_op h fun H0 σ H x y d1 d2 s h1 h2 ⟨es, i, d, e1, e2, e3, hq⟩ Q z => by
    subst e2
    cases h2
    obtain ⟨a, xs, rfl, hh, hx⟩ := seq_v h1 e1
    obtain ⟨v, ev, dv⟩ := at_v hx e3
    rcases hh with hh | hh
    · exact .inl ⟨a, xs, i, v, rfl, rfl, .of hh, ev, z v d H s (.refl _) dv hq⟩
    · exact .inr ⟨a, xs, i, v, rfl, rfl, .of hh, ev, z v d H s (.refl _) dv hq⟩
/-! slices -/
theorem evo_none {q : Option Int → Prop} (h : q none) : EvO F A Δ tNoPart q := fun H0 σ H s Q z => z _ H s (.refl _) h
theorem evo_some {q : Option Int → Prop} (h : Ev F A Δ te fun d => ∃ i, d = .int i ∧ q (some i)) : EvO F A Δ (tPart te) q := fun H0 σ H s Q z =>
  h H0 σ H s _ fun v d H1 s1 f1 h1 ⟨i, e, k⟩ => by
    subst e
    cases h1
    exact ⟨i, rfl, z _ H1 s1 f1 k⟩
def cutD (es : List PyData) (lo hi : Option Int) : List PyData := (es.drop (HT.sIx es.length 0 lo)).take (HT.sIx es.length es.length hi - HT.sIx es.length 0 lo)
theorem cut_v {H : Hp} {xs : List V} {es : List PyData} {lo hi : Option Int} (hx : DtA H A xs es) : DtA H A (cutV xs lo hi) (cutD es lo hi) := by
  unfold cutV cutD
  rw [hx.length]
  exact (hx.drop _).take _
theorem cutD_whole {es : List PyData} {lo hi : Option Int} (h : HT.sIx es.length 0 lo = 0 ∧ HT.sIx es.length es.length hi = es.length) : cutD es lo hi = es := by
  unfold cutD
  rw [h.1, h.2, List.drop_zero, Nat.sub_zero, List.take_length]
theorem ev_slT {tl th : TO} (h : Ev F A Δ te fun d => EvO F A Δ tl fun lo => EvO F A Δ th fun hi => ∃ es, d = .tuple es ∧ q (.tuple (cutD es lo hi))) : Ev F A Δ (tSl (rSlA K) te tl th) q := fun H0 σ H s Q z =>
  h H0 σ H s _ fun v d H1 s1 f1 h1 k1 => k1 H0 σ H1 s1 _ fun lo H2 s2 f2 k2 => k2 H0 σ H2 s2 _ fun hi H3 s3 f3 ⟨es, e, k⟩ => by
    subst e
    have h3 := h1.mono (f2.trans f3) s1.sub
    cases h3 with
    | tup hh n t =>
      refine ⟨_, _, rfl, .of hh, fun w => ?_, fun w p hp => ?_⟩
      · rw [t.length] at w
        refine z _ _ H3 s3 ((f1.trans f2).trans f3) (.tup hh n t) ?_
        rw [cutD_whole w] at k
        exact k
      · exact z _ _ _ (s3.laid hp) (((f1.trans f2).trans f3).trans (.new hp)) (.newT hp s3.trk (cut_v t)) k
/-- a list's slice: a new list -/
theorem evn_slL {q : List PyData → Prop} {r : V → Option Int → Option Int → Hp → VK → Prop} (hr : ∀ x lo hi H Q, (∃ a xs, x = .ref a ∧ SqL K H a xs ∧ ∀ p, H p = none → Q (.ref p) (upd H p (.lst (cutV xs lo hi)))) → r x lo hi H Q)
    {tl th : TO} (h : Ev F A Δ te fun d => EvO F A Δ tl fun lo => EvO F A Δ th fun hi => ∃ es, d = .list es ∧ q (cutD es lo hi)) : EvN F A Δ (tSl r te tl th) q := fun H0 σ H s Q z =>
  h H0 σ H s _ fun v d H1 s1 f1 h1 k1 => k1 H0 σ H1 s1 _ fun lo H2 s2 f2 k2 => k2 H0 σ H2 s2 _ fun hi H3 s3 f3 ⟨es, e, k⟩ => by
    subst e
    have h3 := h1.mono (f2.trans f3) s1.sub
    cases h3 with
    | lst hh n t =>
      refine hr _ _ _ _ _ ⟨_, _, rfl, .of hh, fun p hp => ?_⟩
      have f := (f1.trans f2).trans f3
      exact z p _ _ _ (s3.laidP hp) (f.trans (.new hp)) (f.free hp) upd_same (((cut_v t).add hp).mono (m := []) (.new hp) fun _ z => nomatch z) k
/-! + and * -/
theorem ev_catT (h : Ev F A Δ ta fun d1 => Ev F A Δ tb fun d2 => ∃ es fs, d1 = .tuple es ∧ d2 = .tuple fs ∧ es.length + fs.length ≤ 100000 ∧ q (.tuple (es ++ fs))) : Ev F A Δ (tOp (rCatA K) ta tb) q :=
  ev_op h fun H0 σ H x y d1 d2 s h1 h2 ⟨es, fs, e1, e2, hz, hq⟩ Q z => by
    subst e1 e2
    cases h1 with
    | tup a1 n1 t1 =>
      cases h2 with
      | tup a2 n2 t2 =>
        refine ⟨_, _, _, _, rfl, rfl, .of a1, .of a2, by rw [t1.length, t2.length, sizeLine_eq]; omega, fun e => ?_, fun _ e => ?_, fun _ _ p hp => ?_⟩
        · subst e
          cases t1
          exact z _ _ H s (.refl _) (.tup a2 n2 t2) hq
        · subst e
          cases t2
          rw [List.append_nil] at hq
          exact z _ _ H s (.refl _) (.tup a1 n1 t1) hq
        · exact z _ _ _ (s.laid hp) (.new hp) (.newT hp s.trk (t1.append t2)) hq
theorem evn_cat {q : List PyData → Prop} (h : Ev F A Δ ta fun d1 => Ev F A Δ tb fun d2 => ∃ es fs, d1 = .list es ∧ d2 = .list fs ∧ es.length + fs.length ≤ 100000 ∧ q (es ++ fs)) : EvN F A Δ (tOp rCat ta tb) q := fun H0 σ H s Q z =>
  h H0 σ H s _ fun v d H1 s1 f1 h1 k1 => k1 H0 σ H1 s1 _ fun w e H2 s2 f2 h2 ⟨es, fs, e1, e2, hz, k⟩ => by
    subst e1 e2
    have h3 := h1.mono f2 s1.sub
    cases h3 with
    | lst a1 n1 t1 =>
      cases h2 with
      | lst a2 n2 t2 =>
        refine ⟨_, _, _, _, rfl, rfl, a1, a2, by rw [t1.length, t2.length, sizeLine_eq]; omega, fun p hp => ?_⟩
        exact z p _ _ _ (s2.laidP hp) ((f1.trans f2).trans (.new hp)) ((f1.trans f2).free hp) upd_same (((t1.append t2).add hp).mono (m := []) (.new hp) fun _ z => nomatch z) k
theorem DtA.rep {H : Hp} {xs : List V} {es : List PyData} (h : DtA H A xs es) : ∀ n : Nat, DtA H A (List.replicate n xs).flatten (List.replicate n es).flatten
  | 0 => .nil
  | n + 1 => by
    rw [List.replicate_succ, List.replicate_succ, List.flatten_cons, List.flatten_cons]
    exact h.append (DtA.rep h n)
/-! calls of list, tuple, int, str, all, sum -/
theorem ev_tupleOf (h : EvA F A Δ t fun ds => ∃ d es, ds = [d] ∧ seqD d = some es ∧ q (.tuple es)) :
    Ev F A Δ (tCB (fun xs H Q => ∃ p ys, xs = [.ref p] ∧ ((SqL K H p ys ∧ ∀ l, H l = none → Q (.ref l) (upd H l (.tup ys))) ∨ (SqT K H p ys ∧ Q (.ref p) H))) t) q := fun H0 σ H s Q z =>
  h H0 σ H s _ fun vs ds H1 s1 f1 h1 ⟨d, es, e1, e2, k⟩ => by
    subst e1
    cases h1 with
    | cons hd ht =>
      cases ht
      obtain ⟨a, xs, ea, hh, hx⟩ := seq_v hd e2
      subst ea
      rcases hh with hh | hh
      · exact ⟨a, xs, rfl, .inl ⟨.of hh, fun p hp => z _ _ _ (s1.laid hp) (f1.trans (.new hp)) (.newT hp s1.trk hx) k⟩⟩
      · cases hd with
        | lst a1 n1 t1 => rw [a1] at hh; cases hh
        | tup a1 n1 t1 =>
          rw [a1] at hh
          cases hh
          cases e2
          exact ⟨a, xs, rfl, .inr ⟨.of a1, z _ _ H1 s1 f1 (.tup a1 n1 t1) k⟩⟩
        | dct a1 n1 => cases e2
theorem evn_listOf {q : List PyData → Prop} (h : EvA F A Δ t fun ds => ∃ d es, ds = [d] ∧ seqD d = some es ∧ q es) :
    EvN F A Δ (tCB (fun xs H Q => ∃ p ys, xs = [.ref p] ∧ (SqL K H p ys ∨ SqT K H p ys) ∧ ∀ l, H l = none → Q (.ref l) (upd H l (.lst ys))) t) q := fun H0 σ H s Q z =>
  h H0 σ H s _ fun vs ds H1 s1 f1 h1 ⟨d, es, e1, e2, k⟩ => by
    subst e1
    cases h1 with
    | cons hd ht =>
      cases ht
      obtain ⟨a, xs, ea, hh, hx⟩ := seq_v hd e2
      subst ea
      exact ⟨a, xs, rfl, hh.imp SqL.of SqT.of, fun p hp => z p _ _ _ (s1.laidP hp) (f1.trans (.new hp)) (f1.free hp) upd_same ((hx.add hp).mono (m := []) (.new hp) fun _ z => nomatch z) k⟩
theorem ev_intOf (h : EvA F A Δ t fun ds => ∃ i, ds = [.int i] ∧ q (.int i)) : Ev F A Δ (tCB (fun xs H Q => (∃ i, xs = [.int i] ∧ Q (.int i) H) ∨ ∃ k, xs = [.bl k] ∧ Q (.int (if k then 1 else 0)) H) t) q := fun H0 σ H s Q z =>
  h H0 σ H s _ fun vs ds H1 s1 f1 h1 ⟨i, e1, k⟩ => by
    subst e1
    cases h1 with
    | cons hd ht =>
      cases ht
      cases hd
      exact .inl ⟨i, rfl, z _ _ H1 s1 f1 (.int _) k⟩
theorem ev_strOf (h : EvA F A Δ t fun ds => ∃ i : Int, ds = [.int i] ∧ i.natAbs.log2 < 1920 ∧ q (.str (toString i))) : Ev F A Δ (tCB (fun xs H Q => ∃ i, xs = [.int i] ∧ i.natAbs.log2 < 1920 ∧ Q (.str (toString i)) H) t) q := fun H0 σ H s Q z =>
  h H0 σ H s _ fun vs ds H1 s1 f1 h1 ⟨i, e1, e2, k⟩ => by
    subst e1
    cases h1 with
    | cons hd ht =>
      cases ht
      cases hd
      exact ⟨i, rfl, e2, z _ _ H1 s1 f1 (.str _) k⟩
theorem ev_all (h : EvA F A Δ t fun ds => ∃ bs : List Bool, ds = [.list (bs.map .bool)] ∧ q (.bool (bs.all id))) : Ev F A Δ (tCB (rAll K) t) q := fun H0 σ H s Q z =>
  h H0 σ H s _ fun vs ds H1 s1 f1 h1 ⟨bs, e1, k⟩ => by
    subst e1
    cases h1 with
    | cons hd ht =>
      cases ht
      cases hd with
      | lst a1 n1 t1 =>
        have e := t1.bool_inv
        subst e
        exact ⟨_, bs, rfl, .of a1, z _ _ H1 s1 f1 (.bl _) k⟩
/-! isinstance -/
def tyD : PyData → String
  | .none => "NoneType"
  | .bool _ => "bool"
  | .int _ => "int"
  | .str _ => "str"
  | .list _ => "list"
  | .tuple _ => "tuple"
  | .dict _ => "dict"
theorem ty_v {H : Hp} {x : V} {d : PyData} (h : Dt H A x d) : TyX K H x (.type (tyD d)) := by
  cases h with
  | non => exact .base .non
  | bl b => exact .base (.bl b)
  | int i => exact .base (.int i)
  | str x => exact .base (.str x)
  | lst h n t => exact .base (.lst h)
  | tup h n t => exact .base (.tup h)
  | dct h n => exact .base (.dK h)
theorem ev_isi {n : String} (h : Ev F A Δ te fun d => ∃ b, kitB (tyD d) n = some b ∧ q (.bool b)) : Ev F A Δ (tCB (rIsi K) (tCons te (tCons (tC (.ty n)) tNil))) q := fun H0 σ H s Q z =>
  h H0 σ H s _ fun v d H1 s1 f1 h1 ⟨b, e, k⟩ => ⟨v, .ty n, _, _, b, rfl, .ty n, ty_v h1, kit_ty e, z _ _ H1 s1 f1 (.bl _) k⟩
end

section
def isIntD : PyData → Bool
  | .bool _ => true
  | .int _ => true
  | _ => false
theorem kit_int : ∀ d : PyData, kitB (tyD d) "int" = some (isIntD d)
  | .none => (by decide +kernel : kitB "NoneType" "int" = some false)
  | .bool _ => (by decide +kernel : kitB "bool" "int" = some true)
  | .int _ => (by decide +kernel : kitB "int" "int" = some true)
  | .str _ => (by decide +kernel : kitB "str" "int" = some false)
  | .list _ => (by decide +kernel : kitB "list" "int" = some false)
  | .tuple _ => (by decide +kernel : kitB "tuple" "int" = some false)
  | .dict _ => (by decide +kernel : kitB "dict" "int" = some false)
def isBoolD : PyData → Bool
  | .bool _ => true
  | _ => false
theorem kit_bool : ∀ d : PyData, kitB (tyD d) "bool" = some (isBoolD d)
  | .none => (by decide +kernel : kitB "NoneType" "bool" = some false)
  | .bool _ => (by decide +kernel : kitB "bool" "bool" = some true)
  | .int _ => (by decide +kernel : kitB "int" "bool" = some false)
  | .str _ => (by decide +kernel : kitB "str" "bool" = some false)
  | .list _ => (by decide +kernel : kitB "list" "bool" = some false)
  | .tuple _ => (by decide +kernel : kitB "tuple" "bool" = some false)
  | .dict _ => (by decide +kernel : kitB "dict" "bool" = some false)
def isTupD : PyData → Bool
  | .tuple _ => true
  | _ => false
theorem kit_tuple : ∀ d : PyData, kitB (tyD d) "tuple" = some (isTupD d)
  | .none => (by decide +kernel : kitB "NoneType" "tuple" = some false)
  | .bool _ => (by decide +kernel : kitB "bool" "tuple" = some false)
  | .int _ => (by decide +kernel : kitB "int" "tuple" = some false)
  | .str _ => (by decide +kernel : kitB "str" "tuple" = some false)
  | .list _ => (by decide +kernel : kitB "list" "tuple" = some false)
  | .tuple _ => (by decide +kernel : kitB "tuple" "tuple" = some true)
  | .dict _ => (by decide +kernel : kitB "dict" "tuple" = some false)
def isStrD : PyData → Bool
  | .str _ => true
  | _ => false
theorem kit_str : ∀ d : PyData, kitB (tyD d) "str" = some (isStrD d)
  | .none => (by decide +kernel : kitB "NoneType" "str" = some false)
  | .bool _ => (by decide +kernel : kitB "bool" "str" = some false)
  | .int _ => (by decide +kernel : kitB "int" "str" = some false)
  | .str _ => (by decide +kernel : kitB "str" "str" = some true)
  | .list _ => (by decide +kernel : kitB "list" "str" = some false)
  | .tuple _ => (by decide +kernel : kitB "tuple" "str" = some false)
  | .dict _ => (by decide +kernel : kitB "dict" "str" = some false)
def isListD : PyData → Bool
  | .list _ => true
  | _ => false
theorem kit_list : ∀ d : PyData, kitB (tyD d) "list" = some (isListD d)
  | .none => (by decide +kernel : kitB "NoneType" "list" = some false)
  | .bool _ => (by decide +kernel : kitB "bool" "list" = some false)
  | .int _ => (by decide +kernel : kitB "int" "list" = some false)
  | .str _ => (by decide +kernel : kitB "str" "list" = some false)
  | .list _ => (by decide +kernel : kitB "list" "list" = some true)
  | .tuple _ => (by decide +kernel : kitB "tuple" "list" = some false)
  | .dict _ => (by decide +kernel : kitB "dict" "list" = some false)
def isDictD : PyData → Bool
  | .dict _ => true
  | _ => false
theorem kit_dict : ∀ d : PyData, kitB (tyD d) "dict" = some (isDictD d)
  | .none => (by decide +kernel : kitB "NoneType" "dict" = some false)
  | .bool _ => (by decide +kernel : kitB "bool" "dict" = some false)
  | .int _ => (by decide +kernel : kitB "int" "dict" = some false)
  | .str _ => (by decide +kernel : kitB "str" "dict" = some false)
  | .list _ => (by decide +kernel : kitB "list" "dict" = some false)
  | .tuple _ => (by decide +kernel : kitB "tuple" "dict" = some false)
  | .dict _ => (by decide +kernel : kitB "dict" "dict" = some true)
end
end Dl

/-! D3: statements, loops, comprehensions, calls of one's own defs, told by data alone -/
namespace Dl
open PySem PySem.Spec PyProof.Rows L2

section
variable {F : Fm} {H0 H H1 : Hp} {A A1 A2 : List Addr} {Δ Δ1 Δ2 : List Sl} {σ σ1 σ2 : L2.St} {H2 : Hp}
theorem Go.refl (s : S F H0 A Δ σ H) : Go F H0 A H A Δ σ H := ⟨fun _ h => h, fun _ h => .inl h, .refl _, s⟩
theorem Go.of (s : S F H0 A Δ σ H1) (f : Fr A H H1) : Go F H0 A H A Δ σ H1 := ⟨fun _ h => h, fun _ h => .inl h, f, s⟩
theorem Go.trans (a : Go F H0 A H A1 Δ1 σ1 H1) (b : Go F H0 A1 H1 A2 Δ2 σ2 H2) : Go F H0 A H A2 Δ2 σ2 H2 where
  sub := fun x h => b.sub x (a.sub x h)
  new := fun x h => by
    rcases b.new x h with z | z
    · exact a.new x z
    · exact .inr (a.fr.free z)
  fr := ⟨fun x o h n => b.fr.keep x o (a.fr.keep x o h n) fun z => (a.new x z).elim n fun e => (by
      rw [e] at h
      cases h), fun x h => b.fr.trk x (a.fr.trk x h)⟩
  st := b.st
/-- what a slot holds is forgotten -/
def Weak (Δ Δ' : List Sl) : Prop := Δ'.length = Δ.length ∧ ∀ (i : Nat) s, Δ'[i]? = some s → s = .no ∨ Δ[i]? = some s
theorem Weak.refl (Δ : List Sl) : Weak Δ Δ := ⟨rfl, fun _ _ h => .inr h⟩
theorem S.weak {Δ' : List Sl} (s : S F H0 A Δ σ H) (w : Weak Δ Δ') : S F H0 A Δ' σ H :=
  ⟨s.fr, s.inv, s.sub, s.trk, s.st0, by rw [s.len, w.1], fun k x e => by
    rcases w.2 k x e with rfl | h
    · have hl : k < σ.length := by
        rw [s.len, ← w.1]
        exact (List.getElem?_eq_some_iff.mp e).1
      exact ⟨σ[k], List.getElem?_eq_getElem hl, trivial⟩
    · exact s.env k x h, fun i j t ds es h1 h2 => by
    rcases w.2 i _ h1 with z | h1
    · cases z
    · rcases w.2 j _ h2 with z | h2
      · cases z
      · exact s.apart i j t ds es h1 h2⟩
/-- a new list in a slot, to be written -/
theorem S.own {p : Addr} {i : Nat} {vs : List V} {ds : List PyData} (s : S F H0 (p :: A) Δ σ H) (np : H0 p = none) (hA : p ∉ A) (hm : p ∉ F.m) (hd : ∀ (i : Nat) t ds, Δ[i]? = some (Sl.m t ds) → t ∈ A) (e : H p = some (.lst vs)) (q : DtA H (p :: A) vs ds) :
    S F H0 (p :: A) (Δ.set i (.m p ds)) (σ.set i (some (.ref p))) H := by
  refine s.set ⟨rfl, List.mem_cons_self, hm, np, vs, e, q⟩ fun t es et j fs _ hj => ?_
  cases et
  exact hA (hd j _ _ hj)
end

section
variable {F : Fm} {A : List Addr} {Δ : List Sl} {K : PySem.W.Frag} {te : TE} {tt : TT} {ts tu : TS} {ta : TA} {E : En} {i j : Nat}
theorem Sq.imp {E' : En} (h : Sq F A Δ ts E) (hn : ∀ A' Δ', (∀ a ∈ A, a ∈ A') → E.nx A' Δ' → E'.nx A' Δ') (hr : ∀ d, E.rt d → E'.rt d) (hb : ∀ A' Δ', (∀ a ∈ A, a ∈ A') → E.bk A' Δ' → E'.bk A' Δ') (hc : ∀ A' Δ', (∀ a ∈ A, a ∈ A') → E.ct A' Δ' → E'.ct A' Δ') : Sq F A Δ ts E' :=
  fun H0 σ H s D n r b c => h H0 σ H s D (fun A' Δ' σ' H' g k => n A' Δ' σ' H' g (hn A' Δ' g.sub k)) (fun A' v d H' a f i dt k => r A' v d H' a f i dt (hr d k)) (fun A' Δ' σ' H' g k => b A' Δ' σ' H' g (hb A' Δ' g.sub k)) (fun A' Δ' σ' H' g k => c A' Δ' σ' H' g (hc A' Δ' g.sub k))
theorem sq_next (h : E.nx A Δ) : Sq F A Δ tNext E := fun H0 σ H s D n r b c => n A Δ σ H (.refl s) h
theorem sq_cont (h : E.ct A Δ) : Sq F A Δ tCont E := fun H0 σ H s D n r b c => c A Δ σ H (.refl s) h
theorem sq_break (h : E.bk A Δ) : Sq F A Δ tBreak E := fun H0 σ H s D n r b c => b A Δ σ H (.refl s) h
theorem sq_seq (h : Sq F A Δ ts { E with nx := fun A' Δ' => Sq F A' Δ' tu E }) : Sq F A Δ (tSeq ts tu) E := fun H0 σ H s D n r b c =>
  h H0 σ H s { D with nx := tu D } (fun A' Δ' σ' H' g k => k H0 σ' H' g.st D (fun A2 Δ2 σ2 H2 g2 => n A2 Δ2 σ2 H2 (g.trans g2)) (fun A2 v d H2 a2 => r A2 v d H2 fun x h z => a2 x (g.sub x h) z)
    (fun A2 Δ2 σ2 H2 g2 => b A2 Δ2 σ2 H2 (g.trans g2)) (fun A2 Δ2 σ2 H2 g2 => c A2 Δ2 σ2 H2 (g.trans g2))) r b c
theorem sq_set (h : Ev F A Δ te fun d => E.nx A (Δ.set i (.d d))) : Sq F A Δ (tAsg te (gName i)) E := fun H0 σ H s D n r b c =>
  h H0 σ H s _ fun v d H1 s1 f1 h1 k => n A _ _ H1 (.of (s1.setD h1) (f1.more s.sub)) k
theorem sq_drop (h : Ev F A Δ te fun d => E.nx A Δ) : Sq F A Δ (tDrop te) E := fun H0 σ H s D n r b c =>
  h H0 σ H s _ fun v d H1 s1 f1 h1 k => n A _ _ H1 (.of s1 (f1.more s.sub)) k
theorem sq_ret (h : Ev F A Δ te E.rt) : Sq F A Δ (tRet te) E := fun H0 σ H s D n r b c =>
  h H0 σ H s _ fun v d H1 s1 f1 h1 k => r A v d H1 (fun _ h _ => h) s1.fr s1.inv h1 k
theorem sq_retN (h : E.rt .none) : Sq F A Δ tRetN E := fun H0 σ H s D n r b c => r A .non .none H (fun _ h _ => h) s.fr s.inv .non h
theorem sq_if (h : EvT F A Δ tt fun b => (b = true → Sq F A Δ ts E) ∧ (b = false → Sq F A Δ tu E)) : Sq F A Δ (tIfS tt ts tu) E := fun H0 σ H s D n r b c =>
  h H0 σ H s _ fun x H1 s1 f1 k => by
    have g : Go F H0 A H A Δ σ H1 := .of s1 (f1.more s.sub)
    cases x with
    | true => exact iteT (k.1 rfl H0 σ H1 s1 D (fun A2 Δ2 σ2 H2 g2 => n A2 Δ2 σ2 H2 (g.trans g2)) r (fun A2 Δ2 σ2 H2 g2 => b A2 Δ2 σ2 H2 (g.trans g2)) (fun A2 Δ2 σ2 H2 g2 => c A2 Δ2 σ2 H2 (g.trans g2)))
    | false => exact iteF (k.2 rfl H0 σ H1 s1 D (fun A2 Δ2 σ2 H2 g2 => n A2 Δ2 σ2 H2 (g.trans g2)) r (fun A2 Δ2 σ2 H2 g2 => b A2 Δ2 σ2 H2 (g.trans g2)) (fun A2 Δ2 σ2 H2 g2 => c A2 Δ2 σ2 H2 (g.trans g2)))
/-- a new list that will be written -/
theorem sq_setM (h : EvN F A Δ te fun ds => ∀ t, t ∉ A → E.nx (t :: A) (Δ.set i (.m t ds))) : Sq F A Δ (tAsg te (gName i)) E := fun H0 σ H s D n r b c =>
  h H0 σ H s _ fun p vs ds H1 s1 f1 np e dt k => by
    have nA : p ∉ A := fun z => s.trk p z np
    refine n (p :: A) _ _ H1 ⟨fun _ h => List.mem_cons_of_mem _ h, fun a h => ?_, f1.more s.sub, s1.own (s.fr.free np) nA (fun z => nA (s.sub p z)) (fun _ _ _ e => s.mem e) e dt⟩ (k p nA)
    rcases List.mem_cons.mp h with rfl | h
    · exact .inr np
    · exact .inl h
/-- a, b = e1, e2 -/
theorem sq_par (h : EvA F A Δ ta fun ds => ∃ d e, ds = [d, e] ∧ E.nx A ((Δ.set i (.d d)).set j (.d e))) : Sq F A Δ (tPar i j ta) E := fun H0 σ H s D n r b c =>
  h H0 σ H s _ fun vs ds H1 s1 f1 h1 ⟨d, e, ed, k⟩ => by
    subst ed
    cases h1 with
    | cons hd ht =>
      cases ht with
      | cons he ht =>
        cases ht
        exact ⟨_, _, rfl, n A _ _ H1 (.of ((s1.setD hd).setD he) (f1.more s.sub)) k⟩
/-- a, b = e: a tuple of two -/
theorem sq_two (h : Ev F A Δ te fun d => ∃ x y, d = .tuple [x, y] ∧ E.nx A ((Δ.set i (.d x)).set j (.d y))) : Sq F A Δ (tAsg te (gTup K 2 (gCons (gName i) (gCons (gName j) gNil)))) E := fun H0 σ H s D n r b c =>
  h H0 σ H s _ fun v d H1 s1 f1 h1 ⟨x, y, ed, k⟩ => by
    subst ed
    cases h1 with
    | tup hh nn t =>
      cases t with
      | cons hx t =>
        cases t with
        | cons hy t =>
          cases t
          exact ⟨_, _, rfl, .of hh, rfl, _, _, rfl, _, _, rfl, rfl, n A _ _ H1 (.of ((s1.setD hx).setD hy) (f1.more s.sub)) k⟩
end
end Dl

/-! D4: own lists, loops, comprehensions, calls -/
namespace Dl
open PySem PySem.Spec PyProof.Rows L2

section
variable {F : Fm} {A : List Addr} {Δ : List Sl} {K : PySem.W.Frag} {te : TE} {tt : TT} {ts tu tb : TS} {ta : TA} {E : En} {i j : Nat} {q : PyData → Prop}
/-! ### own lists -/
theorem sq_append {t : Addr} {ds : List PyData} (h : Δ[i]? = some (.m t ds)) (he : Ev F A Δ te fun d => ds.length < 100000 ∧ E.nx A (Δ.set i (.m t (ds ++ [d])))) : Sq F A Δ (tDrop (tBM K "list" rAppend (tVar i) (tCons te tNil))) E := fun H0 σ H s D n r b c => by
  obtain ⟨o, ho, e0, tA, tm, t0, vs, ht, hv⟩ := s.env i _ h
  subst e0
  refine ⟨_, ho, .inl ⟨rfl, vs, .of ht⟩, ?_⟩
  refine he H0 σ H s _ fun v d H1 s1 f1 h1 ⟨z, k⟩ => ?_
  obtain ⟨o, ho', e0, tA', tm, t0, vs1, ht1, hv1⟩ := s1.env i _ h
  refine ⟨t, vs1, v, rfl, rfl, ht1, by rw [hv1.length, sizeLine_eq]; omega, ?_⟩
  exact n A _ _ _ (.of (s1.put h (hv1.append (.cons h1 .nil))) ((f1.more s.sub).trans (.put tA))) k
theorem ev_tupleOfM {t : Addr} {ds : List PyData} (h : Δ[i]? = some (.m t ds)) (hq : q (.tuple ds)) :
    Ev F A Δ (tCB (fun xs H Q => ∃ p ys, xs = [.ref p] ∧ ((SqL K H p ys ∧ ∀ l, H l = none → Q (.ref l) (upd H l (.tup ys))) ∨ (SqT K H p ys ∧ Q (.ref p) H))) (tCons (tVar i) tNil)) q := fun H0 σ H s Q z => by
  obtain ⟨o, ho, e0, tA, tm, t0, vs, ht, hv⟩ := s.env i _ h
  subst e0
  exact ⟨_, ho, t, vs, rfl, .inl ⟨.of ht, fun p hp => z _ _ _ (s.laid hp) (.new hp) (.newT hp s.trk hv) hq⟩⟩
theorem ev_lenM {t : Addr} {ds : List PyData} (h : Δ[i]? = some (.m t ds)) (hq : q (.int ds.length)) :
    Ev F A Δ (tCB (fun xs H Q => ∃ p ys, xs = [.ref p] ∧ (SqL K H p ys ∨ SqT K H p ys) ∧ Q (.int ys.length) H) (tCons (tVar i) tNil)) q := fun H0 σ H s Q z => by
  obtain ⟨o, ho, e0, tA, tm, t0, vs, ht, hv⟩ := s.env i _ h
  subst e0
  refine ⟨_, ho, t, vs, rfl, .inl (.of ht), ?_⟩
  rw [hv.length]
  exact z _ _ H s (.refl _) (.int _) hq
theorem evn_slM {t : Addr} {ds : List PyData} {q : List PyData → Prop} {r : V → Option Int → Option Int → Hp → VK → Prop} (hr : ∀ x lo hi H Q, (∃ a xs, x = .ref a ∧ SqL K H a xs ∧ ∀ p, H p = none → Q (.ref p) (upd H p (.lst (cutV xs lo hi)))) → r x lo hi H Q)
    {tl th : TO} (hd : Δ[i]? = some (.m t ds)) (h : EvO F A Δ tl fun lo => EvO F A Δ th fun hi => q (cutD ds lo hi)) : EvN F A Δ (tSl r (tVar i) tl th) q := fun H0 σ H s Q z => by
  obtain ⟨o, ho, e0, tA, tm, t0, vs, ht, hv⟩ := s.env i _ hd
  subst e0
  refine ⟨_, ho, h H0 σ H s _ fun lo H1 s1 f1 k1 => k1 H0 σ H1 s1 _ fun hi H2 s2 f2 k2 => ?_⟩
  obtain ⟨o, ho', e0, tA', tm, t0, vs1, ht1, hv1⟩ := s2.env i _ hd
  refine hr _ _ _ _ _ ⟨t, vs1, rfl, .of ht1, fun p hp => ?_⟩
  exact z p _ _ _ (s2.laidP hp) ((f1.trans f2).trans (.new hp)) ((f1.trans f2).free hp) upd_same (((cut_v hv1).add hp).mono (m := []) (.new hp) fun _ z => nomatch z) k2

/-! ### targets -/
def TgD (g : TG) (u : PyData → List Sl → Option (List Sl)) (js : List Nat) : Prop :=
  ∀ (F : Fm) (H0 H : Hp) (A : List Addr) (Δ Δ' : List Sl) (σ : L2.St) (v : V) (d : PyData), S F H0 A Δ σ H → Dt H A v d → u d Δ = some Δ' → ∀ Q : L2.St → Hp → Prop,
    (∀ σ', S F H0 A Δ' σ' H → σ'.length = σ.length → (∀ i, i ∉ js → σ'[i]? = σ[i]?) → Q σ' H) → g v σ H Q
def uName (j : Nat) : PyData → List Sl → Option (List Sl) := fun d Δ => some (Δ.set j (.d d))
def uTwo (j k : Nat) : PyData → List Sl → Option (List Sl)
  | .tuple [x, y], Δ => some ((Δ.set j (.d x)).set k (.d y))
  | _, _ => none
theorem tg_name (j : Nat) : TgD (gName j) (uName j) [j] := fun F H0 H A Δ Δ' σ v d s h e Q q => by
  cases e
  refine q _ (s.setD h) (List.length_set ..) fun i hi => ?_
  rw [List.getElem?_set_ne (fun z => hi (by rw [z]; exact List.mem_cons_self))]
theorem tg_two (j k : Nat) : TgD (gTup K 2 (gCons (gName j) (gCons (gName k) gNil))) (uTwo j k) [j, k] := fun F H0 H A Δ Δ' σ v d s h e Q q => by
  unfold uTwo at e
  split at e
  · rename_i x y
    cases e
    cases h with
    | tup hh nn t =>
      cases t with
      | cons hx t =>
        cases t with
        | cons hy t =>
          cases t
          refine ⟨_, _, rfl, .of hh, rfl, _, _, rfl, _, _, rfl, rfl, q _ ((s.setD hx).setD hy) (by rw [List.length_set, List.length_set]) fun i hi => ?_⟩
          rw [List.getElem?_set_ne (fun z => hi (by rw [z]; exact List.mem_cons_of_mem _ List.mem_cons_self)), List.getElem?_set_ne (fun z => hi (by rw [z]; exact List.mem_cons_self))]
  · cases e
theorem sq_asg {g : TG} {u : PyData → List Sl → Option (List Sl)} {js : List Nat} (hg : TgD g u js) (h : Ev F A Δ te fun d => ∃ Δ', u d Δ = some Δ' ∧ E.nx A Δ') : Sq F A Δ (tAsg te g) E := fun H0 σ H s D n r b c =>
  h H0 σ H s _ fun v d H1 s1 f1 h1 ⟨Δ', e, k⟩ => hg F H0 H1 A Δ Δ' σ v d s1 h1 e _ fun σ' s' _ _ => n A _ _ H1 (.of s' (f1.more s.sub)) k
theorem wipe_get {σ : L2.St} {i : Nat} : ∀ vs : List Nat, (L2.wipe σ vs)[i]? = if i ∈ vs then (σ[i]?).map (fun _ => none) else σ[i]?
  | [] => by rw [if_neg (by simp)] <;> rfl
  | v :: vs => by
    show ((L2.wipe σ vs).set v none)[i]? = _
    rw [List.getElem?_set]
    have ih := wipe_get (σ := σ) (i := i) vs
    by_cases e : v = i
    · subst e
      rw [if_pos rfl, if_pos List.mem_cons_self, L2.wipe_length]
      by_cases hl : v < σ.length
      · rw [if_pos hl, List.getElem?_eq_getElem hl] <;> rfl
      · rw [if_neg hl, List.getElem?_eq_none (by omega)] <;> rfl
    · rw [if_neg e, ih]
      by_cases hm : i ∈ vs
      · rw [if_pos hm, if_pos (List.mem_cons_of_mem _ hm)]
      · rw [if_neg hm, if_neg (fun z => (List.mem_cons.mp z).elim (fun z => e z.symm) hm)]
theorem wipe_eq {σ σ2 : L2.St} {vs js : List Nat} (hj : ∀ j ∈ js, j ∈ vs) (hl : σ2.length = (L2.wipe σ vs).length) (h : ∀ i, i ∉ js → σ2[i]? = (L2.wipe σ vs)[i]?) : L2.wipe σ2 vs = L2.wipe σ vs := by
  refine List.ext_getElem? fun i => ?_
  rw [wipe_get]
  by_cases hm : i ∈ vs
  · rw [if_pos hm, wipe_get, if_pos hm]
    rw [L2.wipe_length] at hl
    by_cases hi : i < σ.length
    · rw [List.getElem?_eq_getElem hi, List.getElem?_eq_getElem (by omega)] <;> rfl
    · rw [List.getElem?_eq_none (by omega), List.getElem?_eq_none (by omega)] <;> rfl
  · rw [if_neg hm]
    exact h i fun z => hm (hj i z)

/-! ### what is walked -/
def Ext (A : List Addr) (H : Hp) (B : List Addr) : Prop := (∀ a ∈ A, a ∈ B) ∧ ∀ a ∈ B, a ∈ A ∨ H a = none
theorem Ext.refl (A : List Addr) (H : Hp) : Ext A H A := ⟨fun _ h => h, fun _ h => .inl h⟩
structure WalkD (A : List Addr) (J : It) (xs : List PyData) (H : Hp) : Prop where
  go : ∀ B i H', Ext A H B → Fr B H H' → i < xs.length → J.go i H'
  stop : ∀ B H', Ext A H B → Fr B H H' → J.stop xs.length H'
  yld : ∀ B i H' v H'', Ext A H B → Fr B H H' → (∀ a ∈ B, H' a ≠ none) → i < xs.length → J.yld i H' v H'' → Fr [] H' H'' ∧ ∃ d, xs[i]? = some d ∧ Dt H'' B v d
def EvI (F : Fm) (A : List Addr) (Δ : List Sl) (wi : TI) (q : List PyData → Prop) : Prop :=
  ∀ (H0 : Hp) (σ : L2.St) (H : Hp), S F H0 A Δ σ H → ∀ R : It → Hp → Prop, (∀ J xs H', S F H0 A Δ σ H' → Fr F.m H H' → WalkD A J xs H' → q xs → R J H') → wi σ H R
theorem frB {A B : List Addr} {H H' : Hp} {a : Addr} {o : HO} (x : Ext A H B) (f : Fr B H H') (n : a ∉ A) (h : H a = some o) : H' a = some o :=
  f.keep a o h fun z => (x.2 a z).elim n fun e => by rw [e] at h; cases h
theorem dtB {A B : List Addr} {H H' : Hp} {vs : List V} {ds : List PyData} (x : Ext A H B) (f : Fr B H H') (h : DtA H A vs ds) : DtA H' B vs ds := (h.grow x.2).mono f fun _ z => z
theorem walk_l {H : Hp} {a : Addr} {vs : List V} {ds : List PyData} (h : H a = some (.lst vs)) (n : a ∉ A) (t : DtA H A vs ds) : WalkD A (Itl K a) ds H where
  go := fun B i H' x f hi => by
    have hv : i < vs.length := by rw [t.length]; exact hi
    exact ⟨vs, vs[i], .of (frB x f n h), List.getElem?_eq_getElem hv⟩
  stop := fun B H' x f => ⟨vs, .of (frB x f n h), by rw [t.length]; exact Nat.le_refl _⟩
  yld := fun B i H' v H'' x f _ hi y => by
    obtain ⟨rfl, y⟩ := y
    obtain ⟨d, e, hd⟩ := (dtB x f t).get (y vs (.of (frB x f n h)))
    exact ⟨.refl _, d, e, hd⟩
theorem walk_t {H : Hp} {a : Addr} {vs : List V} {ds : List PyData} (h : H a = some (.tup vs)) (n : a ∉ A) (t : DtA H A vs ds) : WalkD A (Itt K a) ds H where
  go := fun B i H' x f hi => by
    have hv : i < vs.length := by rw [t.length]; exact hi
    exact ⟨vs, vs[i], .of (frB x f n h), List.getElem?_eq_getElem hv⟩
  stop := fun B H' x f => ⟨vs, .of (frB x f n h), by rw [t.length]; exact Nat.le_refl _⟩
  yld := fun B i H' v H'' x f _ hi y => by
    obtain ⟨rfl, y⟩ := y
    obtain ⟨d, e, hd⟩ := (dtB x f t).get (y vs (.of (frB x f n h)))
    exact ⟨.refl _, d, e, hd⟩
theorem evi_list {q : List PyData → Prop} (h : Ev F A Δ te fun d => ∃ xs, d = .list xs ∧ q xs) : EvI F A Δ (iList K te) q := fun H0 σ H s R z =>
  h H0 σ H s _ fun v d H1 s1 f1 h1 ⟨xs, e, k⟩ => by
    subst e
    cases h1 with
    | lst hh n t => exact ⟨_, rfl, ⟨_, .of hh⟩, z _ xs H1 s1 f1 (walk_l hh n t) k⟩
theorem evi_tup {q : List PyData → Prop} (h : Ev F A Δ te fun d => ∃ xs, d = .tuple xs ∧ q xs) : EvI F A Δ (iTup K te) q := fun H0 σ H s R z =>
  h H0 σ H s _ fun v d H1 s1 f1 h1 ⟨xs, e, k⟩ => by
    subst e
    cases h1 with
    | tup hh n t => exact ⟨_, rfl, ⟨_, .of hh⟩, z _ xs H1 s1 f1 (walk_t hh n t) k⟩
def rngD (n : Int) : List PyData := (List.range n.toNat).map fun k => .int (k : Nat)
theorem evi_rng1 {q : List PyData → Prop} (h : EvA F A Δ ta fun ds => ∃ n : Int, ds = [.int n] ∧ -100000 ≤ n ∧ n ≤ 100000 ∧ q (rngD n)) : EvI F A Δ (iRng1 ta) q := fun H0 σ H s R z =>
  h H0 σ H s _ fun vs ds H1 s1 f1 h1 ⟨n, e, n1, n2, k⟩ => by
    subst e
    cases h1 with
    | cons hd ht =>
      cases ht
      cases hd
      have el : (rngD n).length = n.toNat := by
        unfold rngD
        rw [List.length_map, List.length_range]
      refine ⟨n, rfl, by omega, by omega, z _ (rngD n) H1 s1 f1 ⟨fun B i H' x f hi => ?_, fun B H' x f => ?_, fun B i H' v H'' x f _ hi y => ?_⟩ k⟩
      · rw [el] at hi
        exact hi
      · rw [el]
        exact Nat.le_refl _
      · obtain ⟨rfl, rfl⟩ := y
        rw [el] at hi
        refine ⟨.refl _, .int i, ?_, ?_⟩
        · unfold rngD
          rw [List.getElem?_map, List.getElem?_range hi] <;> rfl
        · rw [show (0 : Int) + (i : Int) = (i : Int) by omega]
          exact .int _
def enumD (xs : List PyData) : List PyData := xs.mapIdx fun i d => .tuple [.int (i : Nat), d]
/-! ### for -/
def Back (A : List Addr) (P : List Sl → Prop) (_ : List Addr) (Δ' : List Sl) : Prop := ∃ Δ3, Weak Δ' Δ3 ∧ (∀ (k : Nat) t ds, Δ3[k]? = some (Sl.m t ds) → t ∈ A) ∧ P Δ3
theorem back_of {P : List Sl → Prop} {A' : List Addr} (hd : ∀ (k : Nat) t ds, Δ[k]? = some (Sl.m t ds) → t ∈ A) (h : P Δ) : Back A P A' Δ := ⟨Δ, .refl _, hd, h⟩
theorem sq_for {wi : TI} {g : TG} {u : PyData → List Sl → Option (List Sl)} {js : List Nat} (hg : TgD g u js)
    (h : EvI F A Δ wi fun xs => ∃ Inv : Nat → List Sl → Prop, Inv 0 Δ ∧ (∀ i d Δ', xs[i]? = some d → Inv i Δ' → (∀ (k : Nat) t ds, Δ'[k]? = some (Sl.m t ds) → t ∈ A) → ∃ Δ1, u d Δ' = some Δ1 ∧ Sq F A Δ1 tb { nx := Back A (Inv (i + 1)), rt := E.rt, bk := E.nx, ct := Back A (Inv (i + 1)) }) ∧ (∀ Δ', Inv xs.length Δ' → E.nx A Δ')) :
    Sq F A Δ (tFor wi g tb) E := fun H0 σ H s D n r b c =>
  h H0 σ H s _ fun J xs H1 s1 f1 w ⟨Wi, i0, step, fin⟩ => by
    refine ⟨fun i m σ' H' => m = xs.length - i ∧ i ≤ xs.length ∧ ∃ Δ', Wi i Δ' ∧ Fr A H1 H' ∧ S F H0 A Δ' σ' H', ⟨_, rfl, Nat.zero_le _, Δ, i0, .refl _, s1⟩, ?_⟩
    rintro i m σ' H' ⟨rfl, hi, Δ', iv, f2, s2⟩
    have g0 : ∀ {A2 : List Addr} {Δ2 : List Sl} {σ2 : L2.St} {H2 : Hp}, Go F H0 A H' A2 Δ2 σ2 H2 → Go F H0 A H A2 Δ2 σ2 H2 := fun g => (Go.of s2 ((f1.more s.sub).trans f2)).trans g
    by_cases hl : i < xs.length
    · refine .inr ⟨w.go A i H' (.refl _ _) f2 hl, fun σ3 H3 => ∃ Δ3, Wi (i + 1) Δ3 ∧ Fr A H1 H3 ∧ S F H0 A Δ3 σ3 H3, fun σ3 H3 z => ⟨xs.length - (i + 1), by omega, rfl, hl, z⟩, fun v H2 y => ?_⟩
      obtain ⟨f3, d, ed, hd⟩ := w.yld A i H' v H2 (.refl _ _) f2 s2.trk hl y
      have s3 := s2.more f3
      obtain ⟨Δ1, eu, k⟩ := step i d Δ' ed iv fun _ _ _ e => s2.mem e
      refine hg F H0 H2 A Δ' Δ1 σ' v d s3 hd eu _ fun σ2 s4 _ _ => ?_
      have nxt : ∀ A' Δ2 σ4 H4, Go F H0 A H2 A' Δ2 σ4 H4 → Back A (Wi (i + 1)) A' Δ2 → ∃ Δ3, Wi (i + 1) Δ3 ∧ Fr A H1 H4 ∧ S F H0 A Δ3 σ4 H4 := fun A' Δ2 σ4 H4 g ⟨Δ3, wk, hm, iv'⟩ =>
        ⟨Δ3, iv', (f2.trans (f3.more fun _ z => nomatch z)).trans g.fr, (g.st.weak wk).cut g.sub s.sub hm⟩
      have gs : Go F H0 A H' A Δ1 σ2 H2 := .of s4 (f3.more fun _ z => nomatch z)
      exact k H0 σ2 H2 s4 _ nxt r (fun A2 Δ2 σ4 H4 g2 q2 => n A2 Δ2 σ4 H4 (g0 (gs.trans g2)) q2) nxt
    · have e : i = xs.length := by omega
      subst e
      exact .inl ⟨w.stop A H' (.refl _ _) f2, n A Δ' σ' H' (g0 (.refl s2)) (fin Δ' iv)⟩
/-! ### comprehensions -/
theorem evn_lc {wi : TI} {g : TG} {u : PyData → List Sl → Option (List Sl)} {js : List Nat} {vs : List Nat} {q : List PyData → Prop} (hg : TgD g u js) (hj : ∀ j ∈ js, j ∈ vs)
    (h : EvI F A Δ wi fun xs => ∃ Inv : Nat → List PyData → Prop, Inv 0 [] ∧ (∀ i d acc p, xs[i]? = some d → Inv i acc → p ∉ A → ∃ Δ1, u d (wipeD Δ vs) = some Δ1 ∧ EvT F (p :: A) Δ1 tt fun b =>
      (b = true → Ev F (p :: A) Δ1 te fun y => acc.length < 100000 ∧ Inv (i + 1) (acc ++ [y])) ∧ (b = false → Inv (i + 1) acc)) ∧ ∀ acc, Inv xs.length acc → q acc) :
    EvN F A Δ (tLc wi g tt te vs) q := fun H0 σ H s Q z =>
  h H0 σ H s _ fun J xs H1 s1 f1 w ⟨Wi, i0, step, fin⟩ p np => by
    have nA : p ∉ A := fun y => s1.trk p y np
    have x1 : Ext A H1 (p :: A) := ⟨fun _ h => List.mem_cons_of_mem _ h, fun a h => (List.mem_cons.mp h).elim (fun e => .inr (by rw [e]; exact np)) .inl⟩
    have H0p : H0 p = none := s1.fr.free np
    have hdm : ∀ (k : Nat) t ds, Δ[k]? = some (Sl.m t ds) → t ∈ A := fun _ _ _ e => s1.mem e
    have s5 : S F H0 (p :: A) Δ σ (upd H1 p (.lst [])) := s1.laidP np
    refine ⟨fun i m H' => m = xs.length - i ∧ i ≤ xs.length ∧ ∃ acc avs, Wi i acc ∧ H' p = some (.lst avs) ∧ DtA H' (p :: A) avs acc ∧ Fr F.m H1 H' ∧ S F H0 (p :: A) Δ σ H', ⟨_, rfl, Nat.zero_le _, [], [], i0, upd_same, .nil, .new np, s5⟩, ?_⟩
    rintro i m H' ⟨rfl, hi, acc, avs, iv, hp, hav, f2, s2⟩
    have f2' : Fr (p :: A) H1 H' := f2.more fun a h => List.mem_cons_of_mem _ (s.sub a h)
    by_cases hl : i < xs.length
    · refine .inr ⟨w.go _ i H' x1 f2' hl, fun H3 => ∃ acc avs, Wi (i + 1) acc ∧ H3 p = some (.lst avs) ∧ DtA H3 (p :: A) avs acc ∧ Fr F.m H1 H3 ∧ S F H0 (p :: A) Δ σ H3, fun H3 y => ⟨xs.length - (i + 1), by omega, rfl, hl, y⟩, fun v H2 y => ?_⟩
      obtain ⟨f3, d, ed, hd⟩ := w.yld _ i H' v H2 x1 f2' s2.trk hl y
      have s3 : S F H0 (p :: A) (wipeD Δ vs) (L2.wipe σ vs) H2 := (s2.more f3).wipe vs
      obtain ⟨Δ1, eu, k⟩ := step i d acc p ed iv nA
      refine hg F H0 H2 (p :: A) _ Δ1 _ v d s3 hd eu _ fun σ2 s4 hlen hoth => ⟨wipe_eq hj hlen hoth, ?_⟩
      refine k H0 σ2 H2 s4 _ fun bb H4 s6 f6 kb => ?_
      -- what stands at p
      have keepP : ∀ {Ha Hb : Hp}, Fr F.m Ha Hb → ∀ o, Ha p = some o → Hb p = some o := fun f o e => f.keep p o e fun z => nA (s.sub p z)
      have subP : ∀ a ∈ F.m, a ∈ p :: A := fun a h => List.mem_cons_of_mem _ (s.sub a h)
      have f36 : Fr F.m H' H4 := (f3.more fun _ z => nomatch z).trans f6
      cases bb with
      | false =>
        exact iteF ⟨acc, avs, kb.2 rfl, keepP f36 _ hp, hav.mono f36 subP, f2.trans f36, s2.step f36 s6.inv⟩
      | true =>
        refine iteT (kb.1 rfl H0 σ2 H4 s6 _ fun y dy H5 s7 f7 hy ⟨hz, iv'⟩ => ?_)
        have f37 := f36.trans f7
        have hp5 := keepP f37 _ hp
        have hav5 := hav.mono f37 subP
        have s8 : S F H0 (p :: A) Δ σ H5 := s2.step f37 s7.inv
        refine ⟨avs, hp5, by rw [hav.length, sizeLine_eq]; omega, acc ++ [dy], avs ++ [y], iv', upd_same, ?_, ?_, ?_⟩
        · exact (hav5.append (.cons hy .nil)).mono (m := [p]) (.put List.mem_cons_self) fun a h => by rw [List.mem_singleton.mp h]; exact List.mem_cons_self
        · exact ⟨fun a o e nn => by
            rw [upd_ne (ne_of_none e np)]
            exact (f2.trans f37).keep a o e nn, fun a h => (Fr.put (m := [p]) List.mem_cons_self).trk a ((f2.trans f37).trk a h)⟩
        · -- the state with p written
          have fp : Fr [p] H5 (upd H5 p (.lst (avs ++ [y]))) := .put List.mem_cons_self
          have sp : ∀ a ∈ [p], a ∈ p :: A := fun a h => by rw [List.mem_singleton.mp h]; exact List.mem_cons_self
          refine ⟨⟨fun a o e nn => by
            rw [upd_ne (ne_of_none e H0p)]
            exact s8.fr.keep a o e nn, fun a h => fp.trk a (s8.fr.trk a h)⟩, F.loc H5 _ (fun a h => upd_ne fun e => nA (by rw [← e]; exact s.sub a h)) s8.inv, s8.sub, fun a h => fp.trk a (s8.trk a h), s8.st0, s8.len, fun k x e => ?_, s8.apart⟩
          obtain ⟨o, h1, h2⟩ := s8.env k x e
          refine ⟨o, h1, ?_⟩
          cases x with
          | no => trivial
          | d d => obtain ⟨v, e1, h⟩ := h2; exact ⟨v, e1, h.mono fp sp⟩
          | v v => exact h2
          | m t ds =>
            obtain ⟨e1, a1, n1, z1, vs2, h3, q3⟩ := h2
            have ne : t ≠ p := fun z => nA (by rw [← z]; exact hdm k t ds e)
            exact ⟨e1, a1, n1, z1, vs2, by rw [upd_ne ne]; exact h3, q3.mono fp sp⟩
    · have e : i = xs.length := by omega
      subst e
      exact .inl ⟨w.stop _ H' x1 f2', z p avs acc H' s2 (f1.trans f2) (f1.free np) hp hav (fin acc iv)⟩
end

/-! ### what a def promises -/
/-- a def that writes nothing: C of its arguments, R of what it hands back -/
def PF (C : List PyData → Prop) (R : List PyData → PyData → Prop) : Sp := fun vs H Q _ => ∃ A ds, (∀ a ∈ A, H a ≠ none) ∧ DtA H A vs ds ∧ C ds ∧ ∀ v d H', Fr [] H H' → Dt H' A v d → R ds d → Q v H'
section
variable {F : Fm} {A : List Addr} {Δ : List Sl} {K : PySem.W.Frag} {t tk : TA} {q : PyData → Prop} {C : List PyData → Prop} {R : List PyData → PyData → Prop} {E : XK}
theorem ev_callF (h : EvA F A Δ t fun ds => C ds ∧ ∀ d, R ds d → q d) : Ev F A Δ (tCall (PF C R) [] E t) q := fun H0 σ H s Q z =>
  h H0 σ H s _ fun vs ds H1 s1 f1 h1 ⟨c, k⟩ => by
    rw [List.append_nil]
    exact ⟨A, ds, s1.trk, h1, c, fun v d H2 f2 h2 hr => z v d H2 (s1.more f2) (f1.trans (f2.more fun _ z => nomatch z)) h2 (k d hr)⟩
def startD (N : List Str) (ds : List PyData) : List Sl := ds.map Sl.d ++ List.replicate (N.length - ds.length) .no
theorem S.start {N : List Str} {vs : List V} {ds : List PyData} {H : Hp} (i : F.I H) (sub : ∀ a ∈ F.m, a ∈ A) (trk : ∀ a ∈ A, H a ≠ none) (h : DtA H A vs ds) (z : F.z H := by trivial) : S F H A (startD N ds) (start N vs) H := by
  have el := h.length
  refine ⟨.refl _, i, sub, trk, z, ?_, fun k x e => ?_, fun k j t es fs h1 h2 => ?_⟩
  · unfold L2.start startD
    rw [List.length_append, List.length_append, List.length_map, List.length_map, List.length_replicate, List.length_replicate, el]
  · unfold startD at e
    unfold L2.start
    by_cases hk : k < ds.length
    · rw [List.getElem?_append_left (by simpa using hk), List.getElem?_map, List.getElem?_eq_getElem hk] at e
      cases e
      obtain ⟨v, hv, hd⟩ := h.getD (List.getElem?_eq_getElem hk)
      refine ⟨some v, ?_, v, rfl, hd⟩
      rw [List.getElem?_append_left (by rw [List.length_map, el]; exact hk), List.getElem?_map, hv] <;> rfl
    · rw [List.getElem?_append_right (by simpa using hk), List.getElem?_replicate] at e
      split at e
      · cases e
        rename_i hh
        refine ⟨none, ?_, trivial⟩
        rw [List.getElem?_append_right (by rw [List.length_map, el]; omega), List.getElem?_replicate, List.length_map, el, if_pos]
        simpa using hh
      · cases e
  · unfold startD at h1
    by_cases hk : k < ds.length
    · rw [List.getElem?_append_left (by simpa using hk), List.getElem?_map, List.getElem?_eq_getElem hk] at h1
      cases h1
    · rw [List.getElem?_append_right (by simpa using hk), List.getElem?_replicate] at h1
      split at h1 <;> cases h1
/-- a def's body, from its promise -/
theorem enterF {N : List Str} {vs : List V} {H : Hp} {Q : VK} {ts : TS} (h : PF C R vs H Q E) (k : ∀ A ds, C ds → Sq F0 A (startD N ds) ts { nx := fun _ _ => R ds .none, rt := R ds }) : ts { nx := fun _ H' => Q .non H', rt := Q } (start N vs) H := by
  obtain ⟨A, ds, trk, hd, c, z⟩ := h
  have s : S F0 H A (startD N ds) (start N vs) H := .start (F := F0) trivial (fun _ z => nomatch z) trk hd
  refine k A ds c H _ H s _ (fun A' Δ' σ' H' g hr => z _ _ H' g.st.fr .non hr) (fun A' v d H' sub f i dt hr => z v d H' f (dt.less fun a ha => sub a ha (trk a ha)) hr) (fun _ _ _ _ _ h => h.elim) (fun _ _ _ _ _ h => h.elim)
theorem pf_len {C : List PyData → Prop} {R : List PyData → PyData → Prop} {n : Nat} (hc : ∀ ds, C ds → ds.length = n) : ∀ vs H Q E, PF C R vs H Q E → vs.length = n := fun vs H Q E h => by
  obtain ⟨A, ds, _, hd, c, _⟩ := h
  rw [hd.length]
  exact hc ds c
end
end Dl

/-! R1: repr of data -/
namespace Dl
open PySem PySem.Spec PyProof.Rows L2

section
variable {X : Cx} {pins : List (Addr × Obj)} {σ : L2.St} {H : Hp} {s : Shared} {A : List Addr}
mutual
theorem Dt.reads (I : Inv X pins σ H s) : ∀ {d : PyData} {v : V} {u : Value}, Dt H A v d → RelV v u → ∃ as, Reads s.heap u d as ∧ ∀ a ∈ as, H a ≠ none
  | _, _, _, .non, r => by cases r; exact ⟨_, .none, fun _ z => nomatch z⟩
  | _, _, _, .bl b, r => by cases r; exact ⟨_, .bool b, fun _ z => nomatch z⟩
  | _, _, _, .int i, r => by obtain ⟨t, rfl⟩ := r; exact ⟨_, .int i t, fun _ z => nomatch z⟩
  | _, _, _, .str x, r => by obtain ⟨t, rfl⟩ := r; exact ⟨_, .str x t, fun _ z => nomatch z⟩
  | _, _, _, .lst h n t, r => by
    cases r
    obtain ⟨_, its, k, rv, e⟩ := (show ObjOk X.prog X.w H s.heap _ (.lst _) from I.hok _ _ h)
    obtain ⟨as, hr, ha⟩ := DtA.reads I t rv
    refine ⟨_, .list e rfl rfl hr, fun b hb => ?_⟩
    rcases List.mem_cons.mp hb with rfl | hb
    · rw [h]; exact fun z => nomatch z
    · exact ha b hb
  | _, _, _, .tup h n t, r => by
    cases r
    obtain ⟨_, its, rv, o, e, hc, k, hd⟩ := (show ObjOk X.prog X.w H s.heap _ (.tup _) from I.hok _ _ h)
    obtain ⟨as, hr, ha⟩ := DtA.reads I t rv
    exact ⟨_, .tuple e hc hd hr, ha⟩
  | _, _, _, .dct h n, r => by
    cases r
    obtain ⟨_, _, vs, kv, o, es, ep, e, ex, hd, _, hl, _⟩ := (show ObjOk X.prog X.w H s.heap _ (.dK []) from I.hok _ _ h)
    cases kv
    have he : es.toList = [] := by
      cases q : es.toList with
      | nil => rfl
      | cons x r =>
        rw [q] at hl
        cases hl
    refine ⟨_, .dict e ex.1 hd (by rw [he]; exact .nil) (by rw [he]; exact .nil), fun b hb => ?_⟩
    rcases List.mem_cons.mp hb with rfl | hb
    · rw [h]; exact fun z => nomatch z
    · exact nomatch hb
theorem DtA.reads (I : Inv X pins σ H s) : ∀ {ds : List PyData} {vs : List V} {us : List Value}, DtA H A vs ds → Vals vs us → ∃ as, ReadsAll s.heap us ds as ∧ ∀ a ∈ as, H a ≠ none
  | _, _, _, .nil, r => by cases r; exact ⟨_, .nil, fun _ z => nomatch z⟩
  | _, _, _, .cons h t, r => by
    cases r with
    | cons r1 r2 =>
      obtain ⟨as, q1, k1⟩ := Dt.reads I h r1
      obtain ⟨bs, q2, k2⟩ := DtA.reads I t r2
      refine ⟨_, .cons q1 q2, fun b hb => ?_⟩
      rcases List.mem_append.mp hb with hb | hb
      · exact k1 b hb
      · exact k2 b hb
end
end

/-- what a value's repr writes, under whatever runs: the objects that are read are in bs -/
def Told (I : Heap) (P : Program) (w : World) (u : Value) (d : PyData) : Prop := ∃ bs, ReadAtMost I d.depth bs ∧ ReprK P w bs I d.depth u d.shown
def ToldA (I : Heap) (P : Program) (w : World) (us : List Value) (ds : List PyData) : Prop := ∃ bs, ReadAtMost I (PyData.depthAll ds) bs ∧ ReprAllK P w bs I (PyData.depthAll ds) us (PyData.shownAll ds)
theorem told_at {I : Heap} {P : Program} {w : World} {u : Value} {d : PyData} (e : d.depth = 0) (h : ReprIs P w u d.shown) : Told I P w u d := ⟨[], (fun _ z => nomatch z), .of_is h _ _ _⟩
section
variable {X : Cx} {pins : List (Addr × Obj)} {σ : L2.St} {H : Hp} {s : Shared} {A : List Addr}
theorem dict_no {a : Addr} (I : Inv X pins σ H s) (h : H a = some (.dK [])) : (a == sysModules) = false ∧ ∃ o n, s.heap.get? a = some o ∧ o.cls = .type "dict" ∧ o.data = .dict #[] n := by
  obtain ⟨_, ns, vs, kv, o, es, ep, e, ex, hd, _, hl, _⟩ := (show ObjOk X.prog X.w H s.heap _ (.dK []) from I.hok _ _ h)
  cases kv
  have he : es = #[] := by
    obtain ⟨l⟩ := es
    cases l with
    | nil => rfl
    | cons x r => cases hl
  subst he
  exact ⟨ns, o, ep, e, ex.1, hd⟩
mutual
theorem Dt.told (I : Inv X pins σ H s) : ∀ {d : PyData} {v : V} {u : Value}, Dt H A v d → RelV v u → d.showable = true → d.shown.length ≤ sizeLine → Told s.heap X.prog X.w u d
  | _, _, _, .non, r, _, _ => by cases r; exact told_at rfl (by simpa only [PyData.shown] using ReprIs.none)
  | _, _, _, .bl b, r, _, _ => by cases r; exact told_at rfl (by simpa only [PyData.shown] using ReprIs.bool b)
  | _, _, _, .int i, r, sh, _ => by
    obtain ⟨t, rfl⟩ := r
    exact told_at rfl (by simpa only [PyData.shown] using ReprIs.int t (by simpa [PyData.showable] using sh))
  | _, _, _, .str x, r, _, sz => by
    obtain ⟨t, rfl⟩ := r
    exact told_at rfl (by simpa only [PyData.shown] using ReprIs.str x t (by simpa only [PyData.shown] using sz))
  | .list ds, _, u, .lst (a := a) h n t, r, sh, sz => by
    have sz' : (listText (PyData.shownAll ds)).length ≤ sizeLine := by simpa only [PyData.shown] using sz
    obtain ⟨as, rd, _⟩ := Dt.reads I (.lst h n t) r
    cases r
    obtain ⟨_, its, k, rv, e⟩ := (show ObjOk X.prog X.w H s.heap _ (.lst _) from I.hok _ _ h)
    obtain ⟨bs, hb, hk⟩ := DtA.told I t rv (by simpa [PyData.showable] using sh) fun y hy => Nat.le_trans (listText_mem_le hy) sz'
    have out : a ∉ bs := not_mem_of_deeper rd (by simp only [PyData.depth]; omega) hb
    refine ⟨a :: bs, .cons rd (by simp only [PyData.depth]; omega) hb, ?_⟩
    simp only [PyData.depth, PyData.shown]
    cases its with
    | nil =>
      cases rv
      cases t
      simp only [PyData.shownAll, listText_nil]
      exact .listEmpty e rfl rfl
    | cons y l => exact .list e rfl rfl out (by simpa using hk.length_eq) fun i z ez => hk.item i z (by simpa using ez)
  | .tuple ds, _, u, .tup (a := a) h n t, r, sh, sz => by
    have sz' : (tupleText (PyData.shownAll ds)).length ≤ sizeLine := by simpa only [PyData.shown] using sz
    obtain ⟨as, rd, _⟩ := Dt.reads I (.tup h n t) r
    cases r
    obtain ⟨_, its, rv, o, e, hc, k, hd⟩ := (show ObjOk X.prog X.w H s.heap _ (.tup _) from I.hok _ _ h)
    obtain ⟨bs, hb, hk⟩ := DtA.told I t rv (by simpa [PyData.showable] using sh) fun y hy => Nat.le_trans (tupleText_mem_le hy) sz'
    have out : a ∉ bs := not_mem_of_deeper rd (by simp only [PyData.depth]; omega) hb
    refine ⟨a :: bs, .cons rd (by simp only [PyData.depth]; omega) hb, ?_⟩
    simp only [PyData.depth, PyData.shown]
    exact .tuple e hc hd out hk
  | _, _, _, .dct (a := a) h n, r, sh, sz => by
    obtain ⟨as, rd, _⟩ := Dt.reads I (.dct h n) r
    cases r
    obtain ⟨ns, o, k, e, hc, hd⟩ := dict_no I h
    refine ⟨[a], .cons (n := 0) rd (Nat.zero_le _) fun _ z => (nomatch z), ?_⟩
    simp only [PyData.depth, PyData.depthKv, PyData.shown, PyData.shownKv]
    exact .dict e hc hd ns (fun z => nomatch z) .nil
theorem DtA.told (I : Inv X pins σ H s) : ∀ {ds : List PyData} {vs : List V} {us : List Value}, DtA H A vs ds → Vals vs us → PyData.showableAll ds = true → (∀ y ∈ PyData.shownAll ds, y.length ≤ sizeLine) → ToldA s.heap X.prog X.w us ds
  | _, _, _, .nil, r, _, _ => by
    cases r
    exact ⟨[], (fun _ z => nomatch z), by simp only [PyData.shownAll]; exact .nil⟩
  | d :: ds, _, _, .cons h t, r, sh, sz => by
    cases r with
    | cons r1 r2 =>
      simp only [PyData.showableAll, Bool.and_eq_true] at sh
      simp only [PyData.shownAll, List.mem_cons] at sz
      obtain ⟨b1, m1, k1⟩ := Dt.told I h r1 sh.1 (sz _ (.inl rfl))
      obtain ⟨b2, m2, k2⟩ := DtA.told I t r2 sh.2 fun y hy => sz y (.inr hy)
      have le1 : d.depth ≤ PyData.depthAll (d :: ds) := by simp only [PyData.depthAll]; omega
      have le2 : PyData.depthAll ds ≤ PyData.depthAll (d :: ds) := by simp only [PyData.depthAll]; omega
      refine ⟨b1 ++ b2, (m1.mono le1).append (m2.mono le2), ?_⟩
      simp only [PyData.shownAll]
      exact .cons ((k1.more fun b hb => List.mem_append_left _ hb).level_le le1) (k2.more_le (fun b hb => List.mem_append_right _ hb) le2)
end
end

def rRep : List V → Hp → VK → Prop := fun xs H Q => ∃ v d A, xs = [v] ∧ Dt H A v d ∧ d.showable = true ∧ d.depth ≤ 60 ∧ d.shown.length ≤ sizeLine ∧ Q (.str d.shown) H
theorem call_repD {X : Cx} (hg : X.A.guards = some []) (hu : X.A.units + 64 < cLine) : CallR X (.builtin "repr") rRep := by
  intro pins s σ H xs us Q I r h
  obtain ⟨v, d, A, rfl, hd, sh, dp, sz, q⟩ := h
  obtain ⟨u, rfl, ru⟩ := vals1 r
  cases hd with
  | non => cases ru; exact PySem.P.repr_of_none ⟨.str _, H, I.tok _, ⟨_, rfl⟩, q⟩
  | bl b => cases ru; exact PySem.P.repr_of_bool ⟨.str _, H, I.tok _, ⟨_, rfl⟩, (by simpa only [PyData.shown] using q)⟩
  | int i =>
    obtain ⟨t, rfl⟩ := ru
    have hz : i.natAbs.log2 < 1920 := of_decide_eq_true (by simpa only [PyData.showable] using sh)
    exact PySem.P.repr_of_int hz ⟨.str _, H, I.tok _, ⟨_, rfl⟩, (by simpa only [PyData.shown] using q)⟩
  | str x =>
    obtain ⟨t, rfl⟩ := ru
    exact PySem.P.repr_of_str ⟨.str _, H, I.tok _, ⟨_, rfl⟩, (by simpa only [PyData.shown] using q)⟩ (by simpa only [PyData.shown] using sz)
  | @lst a xs ds hh n t =>
    obtain ⟨as, rd, _⟩ := Dt.reads I (.lst hh n t) ru
    cases ru
    obtain ⟨_, its, k, rv, e⟩ := (show ObjOk X.prog X.w H s.heap _ (.lst _) from I.hok _ _ hh)
    have sz' : (listText (PyData.shownAll ds)).length ≤ sizeLine := by simpa only [PyData.shown] using sz
    obtain ⟨bs, hb, hk⟩ := DtA.told I t rv (by simpa [PyData.showable] using sh) fun y hy => Nat.le_trans (listText_mem_le hy) sz'
    have out : a ∉ bs := not_mem_of_deeper rd (by simp only [PyData.depth]; omega) hb
    simp only [PyData.depth] at dp
    simp only [PyData.shown] at q
    refine call_repr_slot (by omega) ⟨_, e, rfl⟩ F.slot_list_repr.toG ?_
    cases its with
    | nil =>
      cases rv
      cases t
      simp only [PyData.shownAll, listText_nil] at q
      exact call_list_repr_empty ⟨_, e, rfl⟩ e rfl ⟨_, _, rfl, .str _, H, I.tok _, ⟨_, rfl⟩, q⟩
    | cons y l =>
      exact call_list_reprK e rfl rfl out (by simpa using hk.length_eq) (fun i z ez => hk.item i z (by simpa using ez)) hg (fun b _ => Clear.nil b) (by show X.A.units + 1 + _ < cLine; omega) (fun _ _ e => e)
        (fun h' u tk kk => ⟨_, _, rfl, .str _, H, I.kept (t' := tk) kk, ⟨_, rfl⟩, q⟩) sz'
  | @tup a xs ds hh n t =>
    obtain ⟨as, rd, _⟩ := Dt.reads I (.tup hh n t) ru
    cases ru
    obtain ⟨_, its, rv, o, e, hc, k, hdt⟩ := (show ObjOk X.prog X.w H s.heap _ (.tup _) from I.hok _ _ hh)
    have sz' : (tupleText (PyData.shownAll ds)).length ≤ sizeLine := by simpa only [PyData.shown] using sz
    obtain ⟨bs, hb, hk⟩ := DtA.told I t rv (by simpa [PyData.showable] using sh) fun y hy => Nat.le_trans (tupleText_mem_le hy) sz'
    have out : a ∉ bs := not_mem_of_deeper rd (by simp only [PyData.depth]; omega) hb
    simp only [PyData.depth] at dp
    simp only [PyData.shown] at q
    refine call_repr_slot (by omega) ⟨_, e, hc⟩ F.slot_tuple_repr ?_
    exact call_tuple_reprK e hc hdt out hk hg (fun b _ => Clear.nil b) (by show X.A.units + 1 + _ < cLine; omega) (fun _ _ e => e)
      (fun h' u tk kk => ⟨_, _, rfl, .str _, H, I.kept (t' := tk) kk, ⟨_, rfl⟩, q⟩) sz'
  | @dct a hh n =>
    cases ru
    obtain ⟨ns, o, k, e, hc, hdt⟩ := dict_no I hh
    simp only [PyData.shown, PyData.shownKv] at q sz
    refine call_repr_slot (by omega) ⟨_, e, hc⟩ F.slot_dict_repr ?_
    exact call_dict_reprK (d := 0) (as := []) e hc hdt ns (fun z => nomatch z) .nil hg (fun b _ => Clear.nil b) (by show X.A.units + 1 + (0 + 1) < cLine; omega) (fun _ _ e => e)
      (fun h' u tk kk => ⟨_, _, rfl, .str _, H, I.kept (t' := tk) kk, ⟨_, rfl⟩, q⟩) sz
section
variable {F : Fm} {A : List Addr} {Δ : List Sl} {t : TA} {q : PyData → Prop}
/-- a text of it can be had -/
def Shw (d : PyData) : Prop := d.showable = true ∧ d.depth ≤ 60 ∧ d.shown.length ≤ sizeLine
theorem ev_repr (h : EvA F A Δ t fun ds => ∃ d, ds = [d] ∧ Shw d ∧ q (.str d.shown)) : Ev F A Δ (tCB rRep t) q := fun H0 σ H s Q z =>
  h H0 σ H s _ fun vs ds H1 s1 f1 h1 ⟨d, e1, sh, k⟩ => by
    subst e1
    cases h1 with
    | cons hd ht =>
      cases ht
      exact ⟨_, d, A, rfl, hd, sh.1, sh.2.1, sh.2.2, z _ _ H1 s1 f1 (.str _) k⟩
end
end Dl

/-! R2: enumerate of a tuple, a tuple times one, calls by keywords alone -/
namespace Dl
open PySem PySem.Spec PyProof.Rows L2
open AutoSeq1 (wpAny_loadPart')

/-! ### enumerate(t) -/
theorem enum_new_tup (l : Addr) (items : Array Value) (n : Nat) (dct : Option Addr) (sl : Array (Option Value)) :
    Meets (Builtin.«enumerate.__new__» ⟨[.type "enumerate", .ref l], []⟩) (fun _ R s => s.heap.get? l = some { cls := .type "tuple", dict := dct, data := .seq items n, slots := sl } ∧
      R (.ok (.ret (.ref (s.heap.push { cls := .type "tuple_iterator", data := .fields #[.ref l, .int 0 0] }).objs.size)))
        { s with heap := (s.heap.push { cls := .type "tuple_iterator", data := .fields #[.ref l, .int 0 0] }).push { cls := .type "enumerate", data := .fields #[.none, .bool false, .ref s.heap.objs.size, rawInt 0, .none, .none] } }) :=
  .of_wp fun prog w A R s h => by
    obtain ⟨hp, g, d, tk, os⟩ := s
    obtain ⟨hl, h⟩ := h
    have sub := sub_enumerate
    have hT : Heap.IsTuple (Shared.heap ⟨hp, g, d, tk, os⟩) l items := ⟨_, hl, rfl, n, rfl⟩
    wp_walk using wpAny_loadPart' hl
    refine wpAny_stack_any fun _ => wpAny_pure ?_
    split
    · rename_i c _ _ _ _ _
      cases (c == Value.type "enumerate") <;> (wp_walk using wpAny_loadPart' hl, wpAny_pyIter_tuple hT; exact ⟨_, rfl, h⟩)
    · wp_walk using wpAny_loadPart' hl, wpAny_pyIter_tuple hT
      exact ⟨_, rfl, h⟩
section
variable {prog : Program} {w : World} {A : Around} {E : Value → Shared → Prop} {s : Shared}
theorem call_enum_tup {l : Addr} {items : Array Value} {Q : Value → Shared → Prop} (hT : s.heap.IsTuple l items)
    (h : ∀ h', IsEnum h' (s.heap.objs.size + 1) s.heap.objs.size 0 .none → h'.IsTupleIter s.heap.objs.size l 0 → h'.objs.size = s.heap.objs.size + 2 →
      (∀ b o, s.heap.get? b = some o → h'.get? b = some o) → Q (.ref (s.heap.objs.size + 1)) { s with heap := h' }) :
    wpAny (model prog w) A (call (.type "enumerate") [.ref l]) Q E s := by
  obtain ⟨⟨c, dct, dt, sl⟩, hl, rfl, n, rfl⟩ := hT
  refine callType_new F.called_enumerate (by decide) (F.typeCall_enumerate_1 _) (F.newCall_enumerate_1 _) (fun obj => F.args_object_init_2 obj _) F.entry_enumerate_new (enum_new_tup l items n dct sl) ⟨hl, ?_⟩
  show _ ∧ _
  have z : (s.heap.push { cls := .type "tuple_iterator", data := .fields #[.ref l, .int 0 0] }).objs.size = s.heap.objs.size + 1 := Heap.size_push ..
  rw [z]
  have at1 := Heap.get?_push_size (s.heap.push { cls := .type "tuple_iterator", data := .fields #[.ref l, .int 0 0] }) (o := { cls := .type "enumerate", data := .fields #[.none, .bool false, .ref s.heap.objs.size, rawInt 0, .none, .none] }) rfl
  rw [z] at at1
  exact ⟨⟨_, at1, rfl⟩, h _ at1 ⟨_, Heap.get?_push_of_some _ (Heap.get?_push_size _ rfl), rfl, rfl⟩ (by rw [Heap.size_push, z]) fun b o x => Heap.get?_push_of_some _ (Heap.get?_push_of_some _ x)⟩
end
/-- the tuple at a, each item in a new pair -/
def IteT (K : PySem.W.Frag) (a : Addr) : It :=
  ⟨fun i H => ∃ (xs : List V) (x : V), SqT K H a xs ∧ xs[i]? = some x, fun i H v H' => ∃ T x, v = .ref T ∧ H T = none ∧ H' = upd H T (.tup [.int (i : Nat), x]) ∧ ∀ xs, SqT K H a xs → xs[i]? = some x, fun i H => ∃ xs : List V, SqT K H a xs ∧ xs.length ≤ i⟩
theorem tup_apart {h : Heap} {a it : Addr} {items : Array Value} {i : Nat} (p : h.IsTuple a items) (q : h.IsTupleIter it a i) : a ≠ it := fun e => by
  obtain ⟨o, ho, hc, _⟩ := p
  obtain ⟨o', ho', hc', _⟩ := q
  rw [e, ho'] at ho
  cases ho
  rw [hc'] at hc
  exact absurd hc (by decide)
theorem turn_enumT {P : Program} {w : World} {K : PySem.W.Frag} {elts : List Expr} {kk : Nat} {tpos : Pos} (a e it : Addr) :
    Turn P w K (.Tuple elts kk tpos) (IteT K a) [e, it] e (fun i h => (∃ old, IsEnum h e it ((i : Nat) : Int) old) ∧ h.IsTupleIter it a i ∧ e ≠ it) where
  mem := List.mem_cons_self
  obj := fun i h ⟨⟨old, he⟩, ⟨o, ho, _, hd⟩, _⟩ b hb => by
    rcases List.mem_cons.mp hb with rfl | hb
    · exact ⟨_, he, fun v q => nomatch q⟩
    · obtain rfl := List.mem_singleton.mp hb
      exact ⟨o, ho, fun v q => by rw [hd] at q; cases q⟩
  keep := fun i h h' ⟨⟨old, he⟩, hi, hne⟩ k => ⟨⟨old, k e List.mem_cons_self _ he⟩, hi.at fun o q => k it (List.mem_cons_of_mem _ List.mem_cons_self) o q, hne⟩
  item := by
    intro X hP hw hK hc i pins s σ H E I hf st hg
    subst hP hw hK
    obtain ⟨⟨old, he⟩, hit, hne⟩ := st
    obtain ⟨xs, x, hq, hx⟩ := hg
    obtain ⟨its, rv, p, hz⟩ := I.tuple hq
    obtain ⟨u, hu, ru⟩ := rv.get hx
    have il : i < its.length := (List.getElem?_eq_some_iff.mp hu).1
    have le : e < s.heap.objs.size := Heap.lt_size he
    have lt : it < s.heap.objs.size := by
      obtain ⟨_, q, _⟩ := hit
      exact Heap.lt_size q
    have ea : e ∉ [it, a] := fun z => by
      rcases List.mem_cons.mp z with z | z
      · exact hne z
      · have z := List.mem_singleton.mp z
        obtain ⟨o, ho, hc', _⟩ := p
        rw [← z, he] at ho
        cases ho
        exact absurd hc' (show ¬ (Value.type "enumerate" = Value.type "tuple") by decide)
    refine wpAny_pyNext_enum_itemD (Draws.tuple (A := X.A.in1) (I.ok.hd hc) it a (tup_apart p hit) its.toArray) he ⟨hit, p⟩ (by simpa using il) hne ea fun y h' tk ey ho st' hT hsz hk => ?_
    have ey' : y = u := by
      have e1 : its[i]? = some y := by simpa using ey
      rw [hu] at e1
      exact (Option.some.inj e1).symm
    subst ey'
    refine ⟨_, rfl, wpAny_letOwnedTupleGo_enum (s := { s with heap := h', toks := tk + 1 }) ho fun h'' he' sb => ?_⟩
    have hT2 : h''.get? s.heap.objs.size = some { cls := .type "tuple", data := .seq #[.int i tk, y] } := (sb.2 _ (Nat.ne_of_gt le)).trans hT
    have new : ObjOk X.prog X.w (upd H s.heap.objs.size (.tup [.int (i : Nat), x])) h'' s.heap.objs.size (.tup [.int (i : Nat), x]) :=
      ⟨by show 2 ≤ sizeLine; decide, [.int i tk, y], .cons ⟨_, rfl⟩ (.cons ru .nil), ⟨_, hT2, rfl, _, rfl⟩⟩
    have nm : ∀ {b : Addr}, b ∉ [e, it] → b ≠ e ∧ b ≠ it := fun hb => ⟨fun z => hb (by rw [z]; exact List.mem_cons_self), fun z => hb (by rw [z]; exact List.mem_cons_of_mem _ List.mem_cons_self)⟩
    have I1 : Inv X pins σ (upd H s.heap.objs.size (.tup [.int (i : Nat), x])) { s with heap := h'', toks := tk + 1 } :=
      I.turnedNew (ch := [e, it]) (fun b ob hb q => (sb.2 b (nm hb).1).trans (hk b ob (nm hb).1 (nm hb).2 q)) hf (Nat.le_refl _) new
    refine ⟨.ref s.heap.objs.size, _, I1, rfl, ⟨_, x, rfl, I.hok.fresh (Nat.le_refl _), rfl, fun ys hy => ?_⟩, ⟨⟨y, ?_⟩, st'.1.at fun o q => (sb.2 it (Ne.symm hne)).trans q, hne⟩, fun b hb => ?_⟩
    · rw [show ys = xs from I.tuple_inj hy hq]
      exact hx
    · rw [show ((i + 1 : Nat) : Int) = (i : Int) + 1 by omega]
      exact he'
    · have hb' : b < s.heap.objs.size := by
        rcases List.mem_cons.mp hb with rfl | hb
        · exact le
        · obtain rfl := List.mem_singleton.mp hb
          exact lt
      rw [upd_ne (Nat.ne_of_lt hb')]
      exact (hf b hb).1
  done := by
    intro X hP hw hK hc i pins s σ H E I hf st hg
    subst hP hw hK
    obtain ⟨⟨old, he⟩, hit, hne⟩ := st
    obtain ⟨xs, hq, hx⟩ := hg
    obtain ⟨its, rv, p, hz⟩ := I.tuple hq
    obtain ⟨f0, f1, f2, f3, f4, f5⟩ := hf it (List.mem_cons_of_mem _ List.mem_cons_self)
    have hl := rv.length
    unfold pyNext
    have hT : s.TypeIs (.ref e) "enumerate" := ⟨_, he, rfl⟩
    refine wpAny_bind (wpAny_attempt (wpAny_callSpecial?_slot (name := Str.ofString "__next__") hT F.slot_enumerate_next (wpAny_call_entry F.slot_enumerate_next hT F.entry_enumerate_next ?_ (F.args_enumerate_next_1 _))))
    show wpAny _ _ (field (.ref e) 2 >>= _) _ _ _
    refine wpAny_bind (wpAny_field he rfl (x := .ref it) rfl (wpAny_bind (wpAny_nextOf_tuple_end (I.ok.hd hc) hit p (by simp; omega) fun h' x eb ⟨o, ho, hc'⟩ => ?_)))
    exact wpAny_bind (wpAny_isInstance (T := "StopIteration") (b := true) ⟨o, ho, hc'⟩ isSubtype_stop (wpAny_pure ⟨rfl, I.turned (t' := s.toks) (fun b o hb q => eb b o hb q) f0 f1 f3 f4 f5⟩))
  self := fun A i s Q E ⟨⟨_, he⟩, _⟩ h => wpAny_pyIter_enum he h
def iEnumT (K : PySem.W.Frag) (ta : TA) : TI := fun σ H R => ta σ H fun vs H1 => ∃ a xs, vs = [.ref a] ∧ SqT K H1 a xs ∧ R (IteT K a) H1
theorem pi_enumT {X : Cx} {e : Expr} {ta : TA} {p pos tpos : Pos} {elts : List Expr} {kk : Nat} (hg : Gl X "enumerate") (hm : X.mg "enumerate" = none) (ha : PA X [e] ta) (hs : starEach [e] X.env = [(false, eval e X.env)] := by rfl) :
    PI X (.Tuple elts kk tpos) (.Call (.Name "enumerate" p) [e] [] pos) (iEnumT X.K ta) := by
  refine ⟨fun pins s σ H R I h => Call_ (ld_blt I hg hm boot_enumerate (PyProof.Rows.callWith_type1 (thn (ha.run pos pins s σ H _ I h) fun us s1 ⟨vs, H1, I1, r1, a, xs, ex, hq, q⟩ => ?_) hs rfl))⟩
  subst ex
  cases r1 with
  | cons r rr =>
    cases rr
    cases r
    obtain ⟨its, rv, p', hz⟩ := I1.tuple hq
    refine call_enum_tup p' fun h' he hit hsz hk => wpAny_pyIter_enum he ?_
    refine ⟨s1.heap.objs.size + 1, [s1.heap.objs.size + 1, s1.heap.objs.size], _, _, H1, rfl, I1.kept (t' := s1.toks) hk, turn_enumT a _ _, ⟨⟨.none, he⟩, hit, Nat.succ_ne_self _⟩, fun b hb => ?_, q⟩
    have hle : s1.heap.objs.size ≤ b := by
      rcases List.mem_cons.mp hb with rfl | hb
      · exact Nat.le_succ _
      · rw [List.mem_singleton.mp hb]
        exact Nat.le_refl _
    exact I1.fpOk hle (I1.hok.fresh hle)
end Dl

/-! R3: a tuple times a number from 1 on, calls by keywords alone, a law's def that may say repr, the law's end -/
namespace Dl
open PySem PySem.Spec PyProof.Rows L2
open AutoSeq1 (wpAny_loadPart')

/-! ### t * 1 -/
theorem tup_once (l : Addr) (items : Array Value) (n : Nat) (dd : Option Addr) (sl : Array (Option Value)) (u : Tok) :
    Meets (Builtin.«tuple.__mul__» ⟨[.ref l, .int 1 u], []⟩) (fun _ R s => s.heap.get? l = some { cls := .type "tuple", dict := dd, data := .seq items n, slots := sl } ∧ R (.ok (.ret (Value.ref l))) s) :=
  .of_wp fun prog w A R s h => by
    obtain ⟨hp, g, d, tk, os⟩ := s
    obtain ⟨hl, h⟩ := h
    have f1 := AutoSeq1.idx_int
    wp_walk using wpAny_loadPart' hl
    repeat (first
      | (refine wpAny_ite_false (decide_eq_false (by decide)) ?_; wp_walk using wpAny_loadPart' hl)
      | (refine wpAny_ite_true (decide_eq_true (by rw [show ((1 : Int) == 1) = true from rfl, Bool.or_true])) ?_; wp_walk using wpAny_loadPart' hl))
    exact ⟨_, rfl, h⟩
def rRepA (K : PySem.W.Frag) : R2 := fun x y H Q => ∃ l k xs, x = .ref l ∧ y = .int k ∧ SqT K H l xs ∧ xs ≠ [] ∧ 1 ≤ k ∧ k ≤ 1000 ∧ xs.length ≤ 1000 ∧ (k = 1 → Q (.ref l) H) ∧ (2 ≤ k → ∀ p, H p = none → Q (.ref p) (upd H p (.tup (List.replicate k.toNat xs).flatten)))
theorem op_repA {X : Cx} : OpR X (binaryOp .Mult) (rRepA X.K) := by
  intro pins s σ H x y v u Q I rx ry h
  obtain ⟨l, k, xs, rfl, rfl, hT, hne, h1, h2, hz, q1, q2⟩ := h
  by_cases e : k = 1
  · subst e
    cases rx
    obtain ⟨t, rfl⟩ := ry
    obtain ⟨its, r, ⟨⟨cls, dd, data, sl⟩, ho, rfl, n, rfl⟩, hs⟩ := I.tuple hT
    refine wpAny_binaryOp_repeat_ref (T := "tuple") (U := "int") (by decide) ⟨_, ho, rfl⟩ (fun s' => typeIs_int s' 1 t) noFill_tuple_mul F.fills_int_mul F.slot_int_rmul repeat_tuple F.slot_int_index.lookup
      (call_meets F.slot_int_rmul (typeIs_int s 1 t) F.entry_int_rmul (F.args_int_rmul_2 _ _) (int_rmul_tuple 1 t l its.toArray n dd sl)
        ⟨ho, rfl, ⟨_, ho, rfl⟩, call_meets F.slot_tuple_mul ⟨_, ho, rfl⟩ F.entry_tuple_mul (F.args_tuple_mul_2 _ _) (tup_once l its.toArray n dd sl t) ⟨ho, .ref l, H, I, rfl, q1 rfl⟩⟩)
  · exact op_repT pins s σ H _ _ v u Q I rx ry ⟨l, k, xs, rfl, rfl, hT, hne, by omega, h2, hz, q2 (by omega)⟩
section
variable {F : Fm} {A : List Addr} {Δ : List Sl} {K : PySem.W.Frag} {ta tb : TE} {t : TA} {q : PyData → Prop}
theorem ev_repT (h : Ev F A Δ ta fun d1 => Ev F A Δ tb fun d2 => ∃ es k, d1 = .tuple es ∧ d2 = .int k ∧ es ≠ [] ∧ 1 ≤ k ∧ k ≤ 1000 ∧ es.length ≤ 1000 ∧ q (.tuple (List.replicate k.toNat es).flatten)) : Ev F A Δ (tOp (rRepA K) ta tb) q :=
  ev_op h fun H0 σ H x y d1 d2 s h1 h2 ⟨es, k, e1, e2, ne, k1, k2, l, hq⟩ Q z => by
    subst e1 e2
    cases h2
    cases h1 with
    | tup a1 n1 t1 =>
      refine ⟨_, k, _, rfl, rfl, .of a1, fun e => ?_, k1, k2, by rw [t1.length]; exact l, fun e => ?_, fun e p hp => ?_⟩
      · subst e
        cases t1
        exact ne rfl
      · subst e
        have e : (List.replicate (1 : Int).toNat es).flatten = es := List.append_nil es
        rw [e] at hq
        exact z _ _ H s (.refl _) (.tup a1 n1 t1) hq
      · exact z _ _ _ (s.laid hp) (.new hp) (.newT hp s.trk (t1.rep _)) hq
/-! ### enumerate -/
theorem enum_get {xs : List PyData} {i : Nat} {d : PyData} (h : xs[i]? = some d) : (enumD xs)[i]? = some (.tuple [.int (i : Nat), d]) := by
  unfold enumD
  rw [List.getElem?_mapIdx, h] <;> rfl
theorem enum_len (xs : List PyData) : (enumD xs).length = xs.length := List.length_mapIdx
theorem enum_inv {xs : List PyData} {i : Nat} {e : PyData} (h : (enumD xs)[i]? = some e) : ∃ d, xs[i]? = some d ∧ e = .tuple [.int (i : Nat), d] := by
  unfold enumD at h
  rw [List.getElem?_mapIdx] at h
  cases q : xs[i]? with
  | none => rw [q] at h; cases h
  | some d => rw [q] at h; cases h; exact ⟨d, rfl, rfl⟩
theorem evi_enumT {q : List PyData → Prop} (h : EvA F A Δ t fun ds => ∃ xs, ds = [.tuple xs] ∧ q (enumD xs)) : EvI F A Δ (iEnumT K t) q := fun H0 σ H s R z =>
  h H0 σ H s _ fun vs ds H1 s1 f1 h1 ⟨xs, e, k⟩ => by
    subst e
    cases h1 with
    | cons hd ht =>
      cases ht
      cases hd with
      | tup hh n t =>
        refine ⟨_, _, rfl, .of hh, z _ (enumD xs) H1 s1 f1 ⟨fun B i H' x f hi => ?_, fun B H' x f => ?_, fun B i H' v H'' x f tr hi y => ?_⟩ k⟩
        · rw [enum_len, ← t.length] at hi
          exact ⟨_, _, .of (frB x f n hh), List.getElem?_eq_getElem hi⟩
        · exact ⟨_, .of (frB x f n hh), by rw [enum_len, t.length]; exact Nat.le_refl _⟩
        · obtain ⟨T, w, rfl, nT, rfl, y⟩ := y
          obtain ⟨d, ed, hd⟩ := (dtB x f t).get (y _ (.of (frB x f n hh)))
          exact ⟨.new nT, _, enum_get ed, .newT nT tr (.cons (.int _) (.cons hd .nil))⟩
theorem evi_enumL {q : List PyData → Prop} (h : EvA F A Δ t fun ds => ∃ xs, ds = [.list xs] ∧ q (enumD xs)) : EvI F A Δ (iEnum K t) q := fun H0 σ H s R z =>
  h H0 σ H s _ fun vs ds H1 s1 f1 h1 ⟨xs, e, k⟩ => by
    subst e
    cases h1 with
    | cons hd ht =>
      cases ht
      cases hd with
      | lst hh n t =>
        refine ⟨_, _, rfl, .of hh, z _ (enumD xs) H1 s1 f1 ⟨fun B i H' x f hi => ?_, fun B H' x f => ?_, fun B i H' v H'' x f tr hi y => ?_⟩ k⟩
        · rw [enum_len, ← t.length] at hi
          exact ⟨_, _, .of (frB x f n hh), List.getElem?_eq_getElem hi⟩
        · exact ⟨_, .of (frB x f n hh), by rw [enum_len, t.length]; exact Nat.le_refl _⟩
        · obtain ⟨T, w, rfl, nT, rfl, y⟩ := y
          obtain ⟨d, ed, hd⟩ := (dtB x f t).get (y _ (.of (frB x f n hh)))
          exact ⟨.new nT, _, enum_get ed, .newT nT tr (.cons (.int _) (.cons hd .nil))⟩
end
/-- for i, x in enumerate(own list): it stands as it is through the loop -/
theorem sq_forEnumM {F : Fm} {A : List Addr} {Δ : List Sl} {K : PySem.W.Frag} {g : TG} {tb : TS} {E : En} {u : PyData → List Sl → Option (List Sl)} {js : List Nat} {k : Nat} {t : Addr} {ds : List PyData} (hg : TgD g u js) (hk : Δ[k]? = some (.m t ds)) (Inv : Nat → List Sl → Prop) (i0 : Inv 0 Δ)
    (hm : ∀ i Δ', Inv i Δ' → Δ'[k]? = some (.m t ds))
    (step : ∀ i d Δ', ds[i]? = some d → Inv i Δ' → (∀ (k : Nat) t es, Δ'[k]? = some (Sl.m t es) → t ∈ A) → ∃ Δ1, u (.tuple [.int (i : Nat), d]) Δ' = some Δ1 ∧ Sq F A Δ1 tb { nx := Back A (Inv (i + 1)), rt := E.rt, bk := E.nx, ct := Back A (Inv (i + 1)) })
    (fin : ∀ Δ', Inv ds.length Δ' → E.nx A Δ') : Sq F A Δ (tFor (iEnum K (tCons (tVar k) tNil)) g tb) E := fun H0 σ H s D n r b c => by
  obtain ⟨o, ho, e0, tA, tm, t0, vs, ht, hv⟩ := s.env k _ hk
  subst e0
  refine ⟨_, ho, t, vs, rfl, .of ht, fun i m σ' H' => m = ds.length - i ∧ i ≤ ds.length ∧ ∃ Δ', Inv i Δ' ∧ Go F H0 A H A Δ' σ' H', ⟨_, rfl, Nat.zero_le _, Δ, i0, .refl s⟩, ?_⟩
  rintro i m σ' H' ⟨rfl, hi, Δ', iv, g0⟩
  have s2 := g0.st
  obtain ⟨o2, _, _, _, _, _, vs2, ht2, hv2⟩ := s2.env k _ (hm i Δ' iv)
  by_cases hl : i < ds.length
  · have hl2 : i < vs2.length := by rw [hv2.length]; exact hl
    refine .inr ⟨⟨vs2, vs2[i], .of ht2, List.getElem?_eq_getElem hl2⟩, fun σ3 H3 => ∃ Δ3, Inv (i + 1) Δ3 ∧ Go F H0 A H A Δ3 σ3 H3, fun σ3 H3 z => ⟨ds.length - (i + 1), by omega, rfl, hl, z⟩, fun v H2 y => ?_⟩
    obtain ⟨T, w, rfl, nT, rfl, y⟩ := y
    obtain ⟨d, ed, hd⟩ := hv2.get (y _ (.of ht2))
    obtain ⟨Δ1, eu, kk⟩ := step i d Δ' ed iv fun _ _ _ e => s2.mem e
    have f3 : Fr [] H' (upd H' T (.tup [.int (i : Nat), w])) := .new nT
    refine hg F H0 _ A Δ' Δ1 σ' _ _ (s2.more f3) (.newT nT s2.trk (.cons (.int _) (.cons hd .nil))) eu _ fun σ2 s4 _ _ => ?_
    have gs : Go F H0 A H' A Δ1 σ2 _ := .of s4 (f3.more fun _ z => nomatch z)
    have nxt : ∀ A' Δ2 σ4 H4, Go F H0 A _ A' Δ2 σ4 H4 → Back A (Inv (i + 1)) A' Δ2 → ∃ Δ3, Inv (i + 1) Δ3 ∧ Go F H0 A H A Δ3 σ4 H4 := fun A' Δ2 σ4 H4 g2 ⟨Δ3, wk, hm', iv'⟩ =>
      ⟨Δ3, iv', .of ((g2.st.weak wk).cut g2.sub s.sub hm') ((g0.trans gs).trans g2).fr⟩
    exact kk H0 σ2 _ s4 _ nxt r (fun A2 Δ2 σ4 H4 g2 q2 => n A2 Δ2 σ4 H4 ((g0.trans gs).trans g2) q2) nxt
  · have e : i = ds.length := by omega
    subst e
    exact .inl ⟨⟨vs2, .of ht2, by rw [hv2.length]; exact Nat.le_refl _⟩, n A Δ' σ' H' g0 (fin Δ' iv)⟩

/-! ### f(k = v, ..) -/
section
variable {X : Cx} {CX : CXT} {k : Nat} {f : Addr} {fd : FuncData} {ps ks : List Str} {sp : Sp} {E : XK} {x : Str} {p pos : Pos} {kws : List Keyword} {tk : TA} {g : List Value → List Value → List Value} {gV : List V → List V → List V}
theorem pe_callK0 (G : FnOk X.prog X.w X.K X.mg X.base CX k f fd ps sp) (hr : Room k X.A) (hg : Gl X x) (hm : X.mg x = some (.ref f)) (hk : PySem.W.keepIn X.K (.ref f) = true) (hb : KBinds X.K fd ps ks g gV) (hx : Passes CX X E) (hkw : PK X kws tk)
    (hall : (backToKw pos (keywordEach kws X.env)).all (·.1.isSome) = true := by rfl) (hks : (backToKw pos (keywordEach kws X.env)).filterMap (·.1) = ks := by rfl) (hdb : (x == ("__debug__" : Str)) = false := by decide)
    (hpl : ((backTo pos (starEach [] X.env)).any (·.1) || (backToKw pos (keywordEach kws X.env)).any (·.1.isNone)) = false := by rfl) :
    PE X (.Call (.Name x p) [] kws pos) (tCallK sp gV E tNil tk) :=
  ⟨fun pins s σ H Q I h => wpAny_Call_Name_kw (ld_glob I hg hm (PySem.W.callWith_KW0 (h₀ := X.base) I.ok.mod.kin hk hall
    (thn (hkw.run pos pins s σ H _ I h) fun ws s2 ⟨zs, H2, I2, rz, q2⟩ => ⟨I2.kIn, by
      rw [hks]
      exact run_fnk (us := []) (vs := []) G hr hb hx I2 .nil rz q2⟩) hpl) hdb)⟩
end
section
variable {F : Fm} {A : List Addr} {Δ : List Sl} {t tk : TA} {q : PyData → Prop} {C : List PyData → Prop} {R : List PyData → PyData → Prop} {E : XK} {gV : List V → List V → List V} {gD : List PyData → List PyData → List PyData}
/-- a call with keywords: gD orders the data as gV the values -/
theorem ev_callKF (hg : ∀ {H : Hp} {A : List Addr} {vs zs : List V} {ds es : List PyData}, DtA H A vs ds → DtA H A zs es → DtA H A (gV vs zs) (gD ds es)) (h : EvA F A Δ t fun ds => EvA F A Δ tk fun es => C (gD ds es) ∧ ∀ d, R (gD ds es) d → q d) : Ev F A Δ (tCallK (PF C R) gV E t tk) q := fun H0 σ H s Q z =>
  h H0 σ H s _ fun vs ds H1 s1 f1 h1 k1 => k1 H0 σ H1 s1 _ fun zs es H2 s2 f2 h2 ⟨c, k⟩ =>
    ⟨A, gD ds es, s2.trk, hg (h1.mono f2 s1.sub) h2, c, fun v d H3 f3 h3 hr => z v d H3 (s2.more f3) ((f1.trans f2).trans (f3.more fun _ z => nomatch z)) h3 (k d hr)⟩
end
end Dl

/-! R4: defs that are called where no repr runs (so they may say repr); the law's end over such a def -/
namespace Dl
open PySem PySem.Spec PyProof.Rows L2

/-- as FnOk, where no repr is at work around the call -/
structure FnG (P : Program) (w : World) (K : PySem.W.Frag) (mg : Str → Option Value) (base : Heap) (k : Nat) (f : Addr) (fd : FuncData) (ps : List Str) (sp : Sp) : Prop where
  len : ∀ vs H Q E, sp vs H Q E → vs.length = ps.length
  run : ∀ (A : Around) (outer : List Env) (s : Shared) (H : Hp) (args : Args) (us : List Value) (vs : List V) (Q : VK), A.guards = some [] → Room k A → Env0 P w K mg base A outer s H →
    BindsTo s fd args (ps.zip us) → Vals vs us → sp vs H Q E0 → codeAny (model P w) A (.call (.ref f) args) (CR CX0 outer P w H s Q E0) s
section
variable {P : Program} {w : World} {K : PySem.W.Frag} {mg : Str → Option Value} {base : Heap}
theorem FnG.of {k : Nat} {f : Addr} {fd : FuncData} {ps : List Str} {sp : Sp} (G : FnOk P w K mg base CX0 k f fd ps sp) : FnG P w K mg base k f fd ps sp :=
  ⟨G.len, fun A outer s H args us vs Q _ hr e0 hb r h => G.run A outer s H args us vs Q E0 hr e0 hb r h⟩
/-- a def of the text by its body -/
theorem fng {x qual : Str} {st : Stmt} {f : Addr} {fd : FuncData} {N ps : List Str} {k : Nat} {sp : Sp} (F : Fun K x qual st f fd) (S : FnScope N ps (defScope st)) (len : ∀ vs H Q E, sp vs H Q E → vs.length = ps.length)
    (body : ∀ (cdv : Value) (A : Around) (outer : List Env) (s : Shared) (H : Hp) (vs : List V) (Q : VK), A.guards = some [] → Room k (A.deeper (envOfC qual (defScope st) s.heap.objs.size f cdv)) → sp vs H Q E0 →
      ∃ t, PSs (cxOf CX0 P w K mg base N qual (defScope st) f cdv A outer s H E0).nox (defBody st) t ∧ t { nx := fun _ H' => Q .non H', rt := Q } (start N vs) H) : FnG P w K mg base (k + 1) f fd ps sp := by
  obtain ⟨oc, od, kV, doc, pm, an, cdv, ct, osl, rfl, lk, hcd⟩ := F.ex
  refine ⟨len, fun A outer s H args us vs Q hg hr e0 hb r h => ?_⟩
  have kept : ∀ b o, base.get? b = some o → s.heap.get? b = some o := fun b o e => (e0.bs b o e).1
  have KX : K.In s.heap := e0.mod.kin.keeps kept
  have kinds : ∀ y ∈ ps.zip us, (defScope st).names.lookup y.1 = some .local ∨ ((defScope st).names.lookup y.1 = some .cell ∧ ((cellsFrom (s.heap.objs.size + 1) (defScope st).names []).lookup y.1).isSome = true) := fun ⟨n, v⟩ hy =>
    (S.par n (List.of_mem_zip hy).1).imp id fun q => ⟨q, PySem.W.cellsFrom_some _ _ _ (.inl q)⟩
  refine codeAny_call_function hr.depth (KX _ _ lk) rfl S.co S.gen rfl (PySem.W.codeRec_of KX hcd) (hb _ _ _ _ (wpAny_newFunctionEnv_cells S.kind kinds fun env he s1 y => ?_))
  subst he
  refine ⟨(e0.mod.nolimit.keeps kept).keeps y.toInCall.keep, codeAny_func ?_⟩
  obtain ⟨t, ht, hq⟩ := body cdv A outer s H vs Q hg (hr.deeper _) h
  refine wpAny_mono (ht.nox.run [] s1 (start N vs) H _ (inv_start S hr.hd e0 (len _ _ _ _ h) r y) hq) (fun fl s' hs => ?_) fun e s' hs => hs
  have fin : ∀ {σ' : L2.St} {H' : Hp} {v : V} {u : Value}, Inv (cxOf CX0 P w K mg base N qual (defScope st) f cdv A outer s H E0) [] σ' H' s' → RelV v u → Q v H' → CE outer P w H s Q u s' :=
    fun J rv q => ⟨_, _, J.os, J.bare, J.base, J.hok, rv, q⟩
  cases fl with
  | ret u => obtain ⟨v, σ', H', J, rv, q⟩ := hs; exact fin J rv q
  | next => obtain ⟨σ', H', J, q⟩ := hs; exact fin (v := V.non) (u := Value.none) J rfl q
  | brk => obtain ⟨_, _, _, q⟩ := hs; exact False.elim q
  | cont => obtain ⟨_, _, _, q⟩ := hs; exact False.elim q

/-- the law's promise: true for every script of at most n ints -/
def spLaw (K : PySem.W.Frag) (n : Nat) : Sp := fun vs H Q _ => ∃ (a : Addr) (ns : List Int), vs = [.ref a] ∧ SqL K H a (ns.map V.int) ∧ ns.length ≤ n ∧ ∀ H', Q (.bl true) H'

/-- the goal that k_head leaves, from the law's def -/
theorem walk_g {l : PySem.W.OpenLaw} {n k : Nat} {q : Program} {loose : List Str} {XP : (Str → Option Value) → Heap → Prop} {YP : World → Heap → Prop} {d : DefRec} {K : Params → PySem.W.Frag} {x : Str}
    (hn : l.most = some n) (hn2 : n ≤ sizeLine) (hdf : d.params.defaults = []) (hr : Room k callerA) (hY : ∀ (w : World) (h : Heap), YP w h → (K w.params).In h)
    (F : ∀ (w : World) (mg : Str → Option Value) (fa : Addr) (h : Heap), (K w.params).In h → h.Ns mainGlobals mg → mg d.name = some (.ref fa) →
      ∃ fd : FuncData, (∀ (s : Shared) (u : Value), BindsTo s fd ⟨[u], []⟩ [(x, u)]) ∧
        ∀ base : Heap, (K w.params).In base → base.Ns mainGlobals mg → FnG l.prog w (K w.params) mg base k fa fd [x] (spLaw (K w.params) n)) :
    PySem.W.WalkO q loose XP YP l.row.toRowW d [] (fun f vs => PySem.call f vs) := by
  refine Att.attach_call hn hdf fun w s₀ s₁ mg mb fa o pm cd doc a vs ns G Y ho hd hcd hmg hobj hints hlen hg => ?_
  have KX := hY w _ Y
  obtain ⟨fd, hb, hF⟩ := F w mg fa _ KX G.T.g hmg
  have rv := vals_ints hints
  have sz : ns.length ≤ sizeLine := Nat.le_trans hlen hn2
  -- with an abstract heap that tracks at most the script, and that one as it lies
  have core : ∀ H : Hp, (∀ b u, H b = some u → b = a ∧ u = .frz { cls := .type "list", data := .seq vs.toArray } (.lst (ns.map V.int))) → SqL (K w.params) H a (ns.map V.int) → (H a ≠ none → (K w.params).lookup a = none) →
      codeAny (model l.prog w) callerA (.call (.ref fa) ⟨[.ref a], []⟩) (fun r s' => r = .ok (.ret (.bool true)) ∧ OldK s₁.heap s'.heap ∧ s'.os = s₁.os ∧ AllBare s'.gens) s₁ := by
    intro H hH hS hK
    have free : ∀ {b : Addr} {u : Obj}, s₁.heap.get? b = some u → b ≠ a ∨ (∃ es ep, u.data = .dict es ep) → H b = none := fun {b u} e z => by
      cases q : H b with
      | none => rfl
      | some y =>
        obtain ⟨rfl, _⟩ := hH b y q
        rcases z with z | ⟨es, ep, z⟩
        · exact absurd rfl z
        · rw [hobj] at e
          cases e
          cases z
    have ok : HOk l.prog w H s₁.heap := fun b u e => by
      obtain ⟨rfl, rfl⟩ := hH b u e
      exact ⟨hobj, by rw [List.length_map]; exact sz, vs, _, rv, hobj⟩
    have nsB : ∀ {b : Addr} {m : Str → Option Value}, s₁.heap.Ns b m → (hidT s₁.heap H).Ns b m := fun ⟨o, es, ep, e, dd, r⟩ => ⟨o, es, ep, hidT_get e (free e (.inr ⟨es, ep, dd⟩)), dd, r⟩
    have kB : (K w.params).In (hidT s₁.heap H) := fun b u e => hidT_get (KX b u e) (by
      cases q : H b with
      | none => rfl
      | some y =>
        obtain ⟨rfl, _⟩ := hH b y q
        rw [hK (by rw [q]; exact fun z => nomatch z)] at e
        cases e)
    have M : Mod (K w.params) mg (hidT s₁.heap H) := ⟨kB, nsB G.T.g, ⟨mb, nsB G.T.b, G.T.builtins⟩, let ⟨mc, z1, z2⟩ := G.T.nolimit; ⟨mc, nsB z1, z2⟩⟩
    have e0 : Env0 l.prog w (K w.params) mg (hidT s₁.heap H) callerA [] s₁ H := ⟨rfl, M, fun b u e => of_hidT e, Nat.le_of_eq (hidT_size _ _), trivial, (fun b z => absurd (show b ∈ ([] : List Addr) from z) (by simp)), ok, .of_eq hg⟩
    refine codeAny_mono ((hF _ kB (nsB G.T.g)).run callerA [] s₁ H ⟨[.ref a], []⟩ [.ref a] [.ref a] (fun v _ => v = .bl true) rfl hr e0 (hb s₁ (.ref a)) (.cons rfl .nil) ⟨a, ns, rfl, hS, hlen, fun _ => rfl⟩) fun r s' z => ?_
    cases r with
    | error e => exact False.elim z
    | ok fl =>
      cases fl with
      | next => exact False.elim z
      | brk => exact False.elim z
      | cont => exact False.elim z
      | ret u =>
        obtain ⟨v, H', os, bare, un, hok', r', rfl⟩ := z
        obtain rfl : u = Value.bool true := r'
        refine ⟨rfl, OldK.of_keep fun b o e => ?_, os, bare⟩
        cases q : H b with
        | none => exact un.keep b o e q (fun z => absurd (show b ∈ ([] : List Addr) from z) (by simp)) (by simp)
        | some y =>
          obtain ⟨rfl, rfl⟩ := hH b y q
          obtain ⟨e2, _⟩ := hok' b _ (un.frzs b _ _ q)
          rw [hobj] at e
          cases e
          exact e2
  cases hk : (K w.params).lookup a with
  | some o =>
    have e := KX a o hk
    rw [hobj] at e
    cases e
    exact core (fun _ => none) (fun _ _ z => nomatch z) (.inr ⟨_, vs.toArray, _, hk, rfl, rfl, rfl, by rw [List.size_toArray, hints.length]; exact sz, by simpa using rv⟩) fun z => absurd rfl z
  | none =>
    refine core (fun b => if b = a then some (.frz { cls := .type "list", data := .seq vs.toArray } (.lst (ns.map V.int))) else none) (fun b u z => ?_) (.inl (.inr ⟨_, if_pos rfl⟩)) fun _ => hk
    by_cases hb : b = a
    · rw [if_pos hb] at z
      exact ⟨hb, (Option.some.inj z).symm⟩
    · rw [if_neg hb] at z
      cases z
end
end Dl

/-! R5: defs at hand by name; the stock of numbers that a law draws from; promises of defs that draw -/
namespace Dl
open PySem PySem.Spec PyProof.Rows L2

/-- a def of the text that can be called by its name -/
structure Has (P : Program) (w : World) (K : PySem.W.Frag) (mg : Str → Option Value) (base : Heap) (k : Nat) (x : Str) (ps : List Str) (sp : Sp) : Prop where
  ex : ∃ f fd, FnOk P w K mg base CX0 k f fd ps sp ∧ mg x = some (.ref f) ∧ PySem.W.keepIn K (.ref f) = true ∧ Binds K fd ps []
/-- .. and with keywords ks, that g (of values; gV of V) brings into the parameters' order -/
structure HasK (P : Program) (w : World) (K : PySem.W.Frag) (mg : Str → Option Value) (base : Heap) (k : Nat) (x : Str) (ps ks : List Str) (gV : List V → List V → List V) (sp : Sp) : Prop where
  ex : ∃ f fd g, FnOk P w K mg base CX0 k f fd ps sp ∧ mg x = some (.ref f) ∧ PySem.W.keepIn K (.ref f) = true ∧ KBinds K fd ps ks g gV
section
variable {X : Cx} {k : Nat} {x : Str} {ps ks : List Str} {sp : Sp} {p pos : Pos} {e : Expr} {es : List Expr} {kws : List Keyword} {t tk : TA} {gV : List V → List V → List V}
theorem pe_h (h : Has X.prog X.w X.K X.mg X.base k x ps sp) (hr : Room k X.A) (hg : Gl X x) (ha : PA X (e :: es) t) (hdb : (x == ("__debug__" : Str)) = false := by decide)
    (he : starEach (e :: es) X.env = (false, eval e X.env) :: starEach es X.env := by rfl) (hpl : (backTo pos (starEach es X.env)).any (·.1) = false := by rfl) : PE X (.Call (.Name x p) (e :: es) [] pos) (tCall sp [] E0 t) := by
  obtain ⟨f, fd, G, hm, kp, b⟩ := h.ex
  exact pe_call G hr hg hm kp b .nil pass0 ha hdb he hpl
theorem pe_hk (h : HasK X.prog X.w X.K X.mg X.base k x ps ks gV sp) (hr : Room k X.A) (hg : Gl X x) (hkw : PK X kws tk)
    (hall : (backToKw pos (keywordEach kws X.env)).all (·.1.isSome) = true := by rfl) (hks : (backToKw pos (keywordEach kws X.env)).filterMap (·.1) = ks := by rfl) (hdb : (x == ("__debug__" : Str)) = false := by decide)
    (hpl : ((backTo pos (starEach [] X.env)).any (·.1) || (backToKw pos (keywordEach kws X.env)).any (·.1.isNone)) = false := by rfl) : PE X (.Call (.Name x p) [] kws pos) (tCallK sp gV E0 tNil tk) := by
  obtain ⟨f, fd, g, G, hm, kp, b⟩ := h.ex
  exact pe_callK0 G hr hg hm kp b pass0 hkw hall hks hdb hpl
/-- a module's int constant -/
theorem pe_gi {n : Int} (h : ∃ t, X.mg x = some (.int n t)) (hg : Gl X x) (hd : (x == ("__debug__" : Str)) = false := by decide) : PE X (.Name x pos) (tC (.int n)) := by
  obtain ⟨t, e⟩ := h
  exact pe_glob hg e ⟨t, rfl⟩ (hd := hd)
end

/-! ### the stock -/
/-- s: [g, f, their sum, a count]; g: great numbers; f: numbers, one at least -/
def Stk (s g f : Addr) (H : Hp) : Prop := ∃ (big flat : List Int) (tot trn : Int), H s = some (.lst [.ref g, .ref f, .int tot, .int trn]) ∧ H g = some (.lst (big.map V.int)) ∧ H f = some (.lst (flat.map V.int)) ∧
  big.length ≤ 1000 ∧ flat ≠ [] ∧ s ≠ g ∧ s ≠ f ∧ g ≠ f
def FS (s g f : Addr) : Fm where
  m := [s, g, f]
  I := Stk s g f
  keep := fun H H' k ⟨big, flat, tot, trn, h1, h2, h3, r⟩ => ⟨big, flat, tot, trn, k _ _ h1, k _ _ h2, k _ _ h3, r⟩
  loc := fun H H' k ⟨big, flat, tot, trn, h1, h2, h3, r⟩ => ⟨big, flat, tot, trn, (k s (by simp)).trans h1, (k g (by simp)).trans h2, (k f (by simp)).trans h3, r⟩
/-- a def that draws: stock and arguments of which C holds; R of what it hands back -/
def PS (C : List PyData → Prop) (R : List PyData → PyData → Prop) : Sp := fun vs H Q _ => ∃ s g f A vs' ds, vs = .ref s :: vs' ∧ Stk s g f H ∧ (∀ a ∈ (FS s g f).m, a ∈ A) ∧ (∀ a ∈ A, H a ≠ none) ∧ DtA H A vs' ds ∧ C ds ∧
  ∀ v d H', Fr (FS s g f).m H H' → Stk s g f H' → Dt H' A v d → R ds d → Q v H'
section
variable {s g f : Addr} {A : List Addr} {Δ : List Sl} {K : PySem.W.Frag} {t tk : TA} {q : PyData → Prop} {C : List PyData → Prop} {R : List PyData → PyData → Prop} {E : XK} {i : Nat}
theorem ev_callS (hi : Δ[i]? = some (.v (.ref s))) (h : EvA (FS s g f) A Δ t fun ds => C ds ∧ ∀ d, R ds d → q d) : Ev (FS s g f) A Δ (tCall (PS C R) [] E (tCons (tVar i) t)) q := fun H0 σ H st Q z => by
  obtain ⟨o, ho, e⟩ := st.env i _ hi
  subst e
  refine ⟨.ref s, ho, h H0 σ H st _ fun vs ds H1 s1 f1 h1 ⟨c, k⟩ => ?_⟩
  show PS C R ((.ref s :: vs) ++ []) H1 Q E
  rw [List.append_nil]
  exact ⟨s, g, f, A, vs, ds, rfl, s1.inv, s1.sub, s1.trk, h1, c, fun v d H2 f2 i2 h2 hr => z v d H2 (s1.step f2 i2) (f1.trans f2) h2 (k d hr)⟩
def startS (N : List Str) (s : Addr) (ds : List PyData) : List Sl := .v (.ref s) :: (ds.map Sl.d ++ List.replicate (N.length - (ds.length + 1)) .no)
theorem S.startS {N : List Str} {vs : List V} {ds : List PyData} {H : Hp} (i : (FS s g f).I H) (sub : ∀ a ∈ (FS s g f).m, a ∈ A) (trk : ∀ a ∈ A, H a ≠ none) (h : DtA H A vs ds) : S (FS s g f) H A (Dl.startS N s ds) (L2.start N (.ref s :: vs)) H := by
  cases N with
  | nil =>
    have s0 : S (FS s g f) H A (startD [] ds) (L2.start [] vs) H := .start i sub trk h
    refine ⟨.refl _, i, sub, trk, trivial, ?_, fun k x e => ?_, fun k j t es fs h1 h2 => ?_⟩
    · have := s0.len
      unfold L2.start startD at this
      unfold L2.start Dl.startS
      simp at this ⊢
      exact this
    · cases k with
      | zero =>
        cases e
        exact ⟨_, rfl, rfl⟩
      | succ k =>
        have e' : (startD [] ds)[k]? = some x := by
          unfold startD
          unfold Dl.startS at e
          simpa using e
        obtain ⟨o, h1, h2⟩ := s0.env k x e'
        refine ⟨o, ?_, h2⟩
        unfold L2.start at h1 ⊢
        simpa using h1
    · cases k with
      | zero => cases h1
      | succ k =>
        unfold Dl.startS at h1
        simp at h1
  | cons n N =>
    have s0 : S (FS s g f) H A (startD N ds) (L2.start N vs) H := .start i sub trk h
    have e1 : Dl.startS (n :: N) s ds = .v (.ref s) :: startD N ds := by
      unfold Dl.startS startD
      rw [List.length_cons, Nat.add_sub_add_right]
    have e2 : L2.start (n :: N) (.ref s :: vs) = some (.ref s) :: L2.start N vs := by
      unfold L2.start
      rw [List.length_cons, List.length_cons, Nat.add_sub_add_right] <;> rfl
    rw [e1, e2]
    refine ⟨.refl _, i, sub, trk, trivial, by rw [List.length_cons, List.length_cons, s0.len], fun k x e => ?_, fun k j t es fs h1 h2 => ?_⟩
    · cases k with
      | zero =>
        cases e
        exact ⟨_, rfl, rfl⟩
      | succ k => exact s0.env k x e
    · cases k with
      | zero => cases h1
      | succ k =>
        cases j with
        | zero => cases h2
        | succ j => rw [s0.apart k j t es fs h1 h2]
theorem enterS {N : List Str} {vs : List V} {H : Hp} {Q : VK} {ts : TS} (h : PS C R vs H Q E) (k : ∀ s g f A ds, C ds → Sq (FS s g f) A (startS N s ds) ts { nx := fun _ _ => R ds .none, rt := R ds }) : ts { nx := fun _ H' => Q .non H', rt := Q } (start N vs) H := by
  obtain ⟨s, g, f, A, vs', ds, rfl, i, sub, trk, hd, c, z⟩ := h
  have st : S (FS s g f) H A (startS N s ds) (start N (.ref s :: vs')) H := .startS i sub trk hd
  refine k s g f A ds c H _ H st _ (fun A' Δ' σ' H' g hr => z _ _ H' g.st.fr g.st.inv .non hr) (fun A' v d H' sub' f i dt hr => z v d H' f i (dt.less fun a ha => sub' a ha (trk a ha)) hr) (fun _ _ _ _ _ h => h.elim) (fun _ _ _ _ _ h => h.elim)
theorem ps_len {n : Nat} (hc : ∀ ds, C ds → ds.length + 1 = n) : ∀ vs H Q E, PS C R vs H Q E → vs.length = n := fun vs H Q E h => by
  obtain ⟨s, g, f, A, vs', ds, rfl, _, _, _, hd, c, _⟩ := h
  rw [List.length_cons, hd.length]
  exact hc ds c
end
end Dl

/-! D5: small helps -/
namespace Dl
open PySem PySem.Spec PyProof.Rows L2
theorem Weak.set {Δ Δ0 : List Sl} {j : Nat} {x : Sl} (w : Weak Δ Δ0) (h : Δ0[j]? = some .no ∨ Δ0[j]? = some x ∨ Δ0[j]? = none) : Weak (Δ.set j x) Δ0 := by
  refine ⟨by rw [List.length_set]; exact w.1, fun i s e => ?_⟩
  by_cases hi : j = i
  · subst hi
    rcases h with h | h | h
    · rw [h] at e
      exact .inl (Option.some.inj e).symm
    · rw [h] at e
      cases e
      refine .inr ?_
      rw [List.getElem?_set, if_pos rfl, if_pos]
      have := (List.getElem?_eq_some_iff.mp h).1
      rw [w.1] at this
      exact this
    · rw [h] at e
      cases e
  · rw [List.getElem?_set_ne hi]
    exact w.2 i s e
def isM : Sl → Bool
  | .m _ _ => true
  | _ => false
theorem no_m {Δ : List Sl} {A : List Addr} (h : Δ.all (fun s => !isM s) = true) : ∀ (k : Nat) t ds, Δ[k]? = some (Sl.m t ds) → t ∈ A := fun k t ds e => by
  have := List.all_eq_true.mp h _ (List.mem_of_getElem? e)
  cases this
theorem back0 {A : List Addr} {P : List Sl → Prop} {A' : List Addr} {Δ Δ0 : List Sl} (w : Weak Δ Δ0) (hm : ∀ (k : Nat) t ds, Δ0[k]? = some (Sl.m t ds) → t ∈ A) (h : P Δ0) : Back A P A' Δ := ⟨Δ0, w, hm, h⟩

/-- a built-in type, as a value -/
theorem pe_ty {X : Cx} {x : Str} {pos : Pos} {n : String} (hg : Gl X x) (hm : X.mg x = none) (hv : bootBuiltins x = some (.type n)) (hn : x ≠ "__name__" := by decide) (hd : (x == ("__debug__" : Str)) = false := by decide) : PE X (.Name x pos) (tC (.ty n)) :=
  pe_bltn hg hm hv rfl hn hd
/-! ints as data -/
def isNum : PyData → Bool
  | .int _ => true
  | _ => false
def isWh (lo hi : Int) : PyData → Bool
  | .int i => decide (lo ≤ i) && decide (i ≤ hi)
  | _ => false
theorem isWh_int {lo hi : Int} {d : PyData} (h : isWh lo hi d = true) : ∃ i, d = .int i ∧ lo ≤ i ∧ i ≤ hi := by
  cases d with
  | int i =>
    unfold isWh at h
    rw [Bool.and_eq_true, decide_eq_true_eq, decide_eq_true_eq] at h
    exact ⟨i, rfl, h.1, h.2⟩
  | _ => cases h
end Dl

/-! D6: comprehensions by a function, by a property of the elements -/
namespace Dl
open PySem PySem.Spec PyProof.Rows L2
section
variable {F : Fm} {A : List Addr} {Δ : List Sl} {te : TE} {tt : TT} {wi : TI} {g : TG} {u : PyData → List Sl → Option (List Sl)} {js vs : List Nat} {q : List PyData → Prop}
theorem take_succ {xs : List PyData} {i : Nat} {d : PyData} (h : xs[i]? = some d) : xs.take (i + 1) = xs.take i ++ [d] := by
  rw [List.take_add_one, h] <;> rfl
theorem EvI.imp {q' : List PyData → Prop} (h : EvI F A Δ wi q) (k : ∀ xs, q xs → q' xs) : EvI F A Δ wi q' := fun H0 σ H s R z => h H0 σ H s R fun J xs H' s' f w hq => z J xs H' s' f w (k xs hq)
/-- [e for x in xs], e a function of x -/
theorem evn_map (hg : TgD g u js) (hj : ∀ j ∈ js, j ∈ vs) (f : PyData → PyData)
    (h : EvI F A Δ wi fun xs => xs.length ≤ 100000 ∧ (∀ d ∈ xs, ∀ p, p ∉ A → ∃ Δ1, u d (wipeD Δ vs) = some Δ1 ∧ Ev F (p :: A) Δ1 te fun y => y = f d) ∧ q (xs.map f)) : EvN F A Δ (tLc wi g tYes te vs) q :=
  evn_lc hg hj (h.imp fun xs ⟨hl, hs, hq⟩ => ⟨fun i acc => acc = (xs.take i).map f, rfl, fun i d acc p hd ha np => by
    obtain ⟨Δ1, e1, e2⟩ := hs d (List.mem_of_getElem? hd) p np
    have hi := (List.getElem?_eq_some_iff.mp hd).1
    refine ⟨Δ1, e1, evt_yes ⟨fun _ => e2.imp fun y hy => ⟨?_, ?_⟩, fun z => nomatch z⟩⟩
    · rw [ha, List.length_map, List.length_take]
      omega
    · rw [ha, hy]
      show (xs.take i).map f ++ [f d] = (xs.take (i + 1)).map f
      rw [take_succ hd, List.map_append] <;> rfl, fun acc ha => by
    rw [ha, List.take_length]
    exact hq⟩)
/-- [e for x in xs if t] -/
theorem evn_filt (hg : TgD g u js) (hj : ∀ j ∈ js, j ∈ vs) (t : PyData → Bool) (f : PyData → PyData)
    (h : EvI F A Δ wi fun xs => xs.length ≤ 100000 ∧ (∀ d ∈ xs, ∀ p, p ∉ A → ∃ Δ1, u d (wipeD Δ vs) = some Δ1 ∧ EvT F (p :: A) Δ1 tt fun b => b = t d ∧ (b = true → Ev F (p :: A) Δ1 te fun y => y = f d)) ∧ q ((xs.filter t).map f)) : EvN F A Δ (tLc wi g tt te vs) q :=
  evn_lc hg hj (h.imp fun xs ⟨hl, hs, hq⟩ => ⟨fun i acc => acc = ((xs.take i).filter t).map f, rfl, fun i d acc p hd ha np => by
    obtain ⟨Δ1, e1, e2⟩ := hs d (List.mem_of_getElem? hd) p np
    have hi := (List.getElem?_eq_some_iff.mp hd).1
    refine ⟨Δ1, e1, fun H0 σ H s Q z => e2 H0 σ H s Q fun b H' s' f' ⟨eb, ke⟩ => z b H' s' f' ⟨fun hb => (ke hb).imp fun y hy => ⟨?_, ?_⟩, fun hb => ?_⟩⟩
    · rw [ha, List.length_map]
      have := List.length_filter_le t (xs.take i)
      rw [List.length_take] at this
      omega
    · rw [ha, hy]
      show ((xs.take i).filter t).map f ++ [f d] = ((xs.take (i + 1)).filter t).map f
      rw [take_succ hd, List.filter_append, List.map_append, List.filter_cons_of_pos (by rw [← eb]; exact hb)] <;> rfl
    · rw [ha]
      show ((xs.take i).filter t).map f = ((xs.take (i + 1)).filter t).map f
      rw [take_succ hd, List.filter_append, List.filter_cons_of_neg (by rw [← eb, hb]; exact Bool.false_ne_true), List.filter_nil, List.append_nil], fun acc ha => by
    rw [ha, List.take_length]
    exact hq⟩)
/-- [e for x in xs], of each e what P tells -/
theorem evn_each (hg : TgD g u js) (hj : ∀ j ∈ js, j ∈ vs) (P : PyData → Prop)
    (h : EvI F A Δ wi fun xs => xs.length ≤ 100000 ∧ (∀ d ∈ xs, ∀ p, p ∉ A → ∃ Δ1, u d (wipeD Δ vs) = some Δ1 ∧ Ev F (p :: A) Δ1 te P) ∧ ∀ ys : List PyData, ys.length = xs.length → (∀ y ∈ ys, P y) → q ys) : EvN F A Δ (tLc wi g tYes te vs) q :=
  evn_lc hg hj (h.imp fun xs ⟨hl, hs, hq⟩ => ⟨fun i acc => acc.length = i ∧ ∀ y ∈ acc, P y, ⟨rfl, fun _ z => nomatch z⟩, fun i d acc p hd ha np => by
    obtain ⟨Δ1, e1, e2⟩ := hs d (List.mem_of_getElem? hd) p np
    have hi := (List.getElem?_eq_some_iff.mp hd).1
    refine ⟨Δ1, e1, evt_yes ⟨fun _ => e2.imp fun y hy => ⟨?_, ?_, fun y' hy' => ?_⟩, fun z => nomatch z⟩⟩
    · rw [ha.1]
      omega
    · rw [List.length_append, ha.1] <;> rfl
    · rcases List.mem_append.mp hy' with z | z
      · exact ha.2 y' z
      · rw [List.mem_singleton.mp z]
        exact hy, fun acc ha => hq acc ha.1 ha.2⟩)
end
end Dl

/-! D7: helps for the stock's own defs, at the heap -/
namespace Dl
open PySem PySem.Spec PyProof.Rows L2
theorem canLay_ints : ∀ ns : List Int, PyData.canLayAll0 (ns.map PyData.int) = true
  | [] => rfl
  | n :: r => by
    rw [List.map_cons]
    simp only [PyData.canLayAll0, PyData.canLay0, Bool.true_and]
    exact canLay_ints r
theorem depth_ints : ∀ ns : List Int, PyData.depthAll (ns.map PyData.int) = 0
  | [] => rfl
  | n :: r => by
    rw [List.map_cons]
    simp only [PyData.depthAll, PyData.depth, depth_ints r]
    rfl
theorem shaped_ints (ns : List Int) : SeqAt.shaped (.list (ns.map .int)) = true := by
  unfold SeqAt.shaped
  simp only [PyData.canLay0, canLay_ints, PyData.depth, depth_ints]
  decide
theorem dp_ints {K : PySem.W.Frag} {H : Hp} : ∀ ns : List Int, DpAll K H (ns.map V.int) (ns.map PyData.int)
  | [] => .nil
  | n :: r => .cons (.int n) (dp_ints r)
theorem eqv_nil_ints (ns : List Int) : PyData.eqv (.list (ns.map .int)) (.list []) = ns.isEmpty := by
  cases ns <;> simp [PyData.eqv, PyData.eqvAll]
/-- what a draw asks and gives -/
abbrev C_draw (ds : List PyData) : Prop := ∃ n : Int, ds = [.int n] ∧ 0 < n ∧ n < 1073741824
def R_draw : List PyData → PyData → Prop
  | [.int n], r => ∃ k, r = .int k ∧ 0 ≤ k ∧ k < n
  | _, _ => False
abbrev C_pick (ds : List PyData) : Prop := ∃ d es, ds = [d] ∧ seqD d = some es ∧ es ≠ [] ∧ es.length ≤ 1000000
def R_pick : List PyData → PyData → Prop
  | [d], r => ∃ es, seqD d = some es ∧ r ∈ es
  | _, _ => False
/-- the stock anew: behind a script of ints -/
def spStock (K : PySem.W.Frag) : Sp := fun vs H Q _ => ∃ (a : Addr) (ns : List Int), vs = [.ref a] ∧ SqL K H a (ns.map V.int) ∧ ns.length ≤ 1000 ∧
  ∀ s g f H', Same H H' → Stk s g f H' → Q (.ref s) H'
theorem frM {s g f : Addr} {H : Hp} {a : Addr} {o : HO} (h : a = s ∨ a = g ∨ a = f) : Fr (FS s g f).m H (upd H a o) :=
  .put (show a ∈ [s, g, f] from by rcases h with rfl | rfl | rfl <;> simp)
theorem upd_keep {H : Hp} {p a : Addr} {o u : HO} (h : H a = some o) (hp : H p = none) : upd H p u a = some o := by
  rw [upd_ne (ne_of_none h hp)]
  exact h
theorem ev_sum {F : Fm} {A : List Addr} {Δ : List Sl} {K : PySem.W.Frag} {t : TA} {q : PyData → Prop} (h : EvA F A Δ t fun ds => ∃ ns : List Int, ds = [.list (ns.map .int)] ∧ q (.int ns.sum)) : Ev F A Δ (tCB (rSum K) t) q := fun H0 σ H s Q z =>
  h H0 σ H s _ fun vs ds H1 s1 f1 h1 ⟨ns, e, k⟩ => by
    subst e
    cases h1 with
    | cons hd ht =>
      cases ht
      cases hd with
      | lst hh n t =>
        have e := t.int_inv
        subst e
        exact ⟨_, ns, rfl, .of hh, z _ _ H1 s1 f1 (.int _) k⟩
/-- a number of a script, from 0 on -/
def flat1 (x : Int) : Int := if 0 ≤ x then 2 * x else -2 * x - 1
def bigs (l : List Int) : List Int := l.filter fun x => decide (10 ^ 15 ≤ x)
/-- a stock, from what its def hands back -/
theorem stk_of {H : Hp} {s : Addr} {xs : List V} {l : List Int} {c tot : Int} (hs : H s = some (.lst xs)) (hl : l.length ≤ 1000) (c1 : c < 10 ^ 15)
    (t : DtA H [] xs [.list ((bigs l).map .int), .list ((l ++ [c]).map .int), .int tot, .int 0]) : ∃ g f, Stk s g f H := by
  cases t with
  | cons h1 t =>
    cases t with
    | cons h2 t =>
      cases t with
      | cons h3 t =>
        cases t with
        | cons h4 t =>
          cases t
          cases h3
          cases h4
          cases h1 with
          | @lst g _ _ hg _ tg =>
            cases h2 with
            | @lst f _ _ hf _ tf =>
              have eg := tg.int_inv
              have ef := tf.int_inv
              subst eg
              subst ef
              refine ⟨g, f, bigs l, l ++ [c], tot, 0, hs, hg, hf, ?_, by simp, ?_, ?_, ?_⟩
              · have := List.length_filter_le (fun x => decide ((10 : Int) ^ 15 ≤ x)) l
                unfold bigs
                omega
              · intro e
                rw [← e, hs] at hg
                cases hb : bigs l with
                | nil => rw [hb] at hg; cases hg
                | cons x r => rw [hb] at hg; cases hg
              · intro e
                rw [← e, hs] at hf
                cases hb : l with
                | nil => rw [hb] at hf; cases hf
                | cons x r => rw [hb] at hf; cases hf
              · intro e
                rw [← e, hg] at hf
                have e1 := HO.lst.inj (Option.some.inj hf)
                have e2 : bigs l = l ++ [c] := by
                  have inj : ∀ a b : List Int, a.map V.int = b.map V.int → a = b := by
                    intro a
                    induction a with
                    | nil => intro b h; cases b with
                      | nil => rfl
                      | cons y r => cases h
                    | cons x r ih => intro b h; cases b with
                      | nil => cases h
                      | cons y r' =>
                        rw [List.map_cons, List.map_cons] at h
                        injection h with h1 h2
                        rw [V.int.inj h1, ih r' h2]
                  exact inj _ _ e1
                have hc : c ∈ bigs l := by
                  rw [e2]
                  exact List.mem_append_right _ List.mem_cons_self
                have := of_decide_eq_true (List.mem_filter.mp hc).2
                omega
theorem use_ret {F : Fm} {H0 H : Hp} {A : List Addr} {Δ : List Sl} {σ : L2.St} {te : TE} {D : Ends} (q : PyData → Prop) (h : Ev F A Δ te q) (s : S F H0 A Δ σ H) (k : ∀ v d H', S F H0 A Δ σ H' → Fr F.m H H' → Dt H' A v d → q d → D.rt v H') : tRet te D σ H := h H0 σ H s _ k
theorem use_ret2 {F : Fm} {H0 H : Hp} {A : List Addr} {Δ : List Sl} {σ : L2.St} {te : TE} {D : Ends} {i : Nat} {x : V} (q : PyData → Prop) (h : Ev F A Δ te q) (s : S F H0 A Δ (σ.set i (some x)) H) (k : ∀ v d H', S F H0 A Δ (σ.set i (some x)) H' → Fr F.m H H' → Dt H' A v d → q d → D.rt v H') : gName i x σ H (tRet te D) := h H0 _ H s _ k
end Dl

/-! D8: own lists set in parallel, data whose text is short, rows -/
namespace Dl
open PySem PySem.Spec PyProof.Rows L2
theorem sq_parM {F : Fm} {A : List Addr} {Δ : List Sl} {t1 t2 : TE} {E : En} {i j : Nat} (hij : i ≠ j) (h : EvN F A Δ t1 fun ds => ∀ t, t ∉ A → Ev F (t :: A) Δ t2 fun d => E.nx (t :: A) ((Δ.set i (.m t ds)).set j (.d d))) :
    Sq F A Δ (tPar i j (tCons t1 (tCons t2 tNil))) E := fun H0 σ H s D n r b c =>
  h H0 σ H s _ fun p vs ds H1 s1 f1 np e dt k => by
    have nA : p ∉ A := fun z => s.trk p z np
    have nm : p ∉ F.m := fun z => nA (s.sub p z)
    refine k p nA H0 σ H1 s1 _ fun v d H2 s2 f2 h2 k2 => ⟨_, _, rfl, ?_⟩
    have e2 : H2 p = some (.lst vs) := f2.keep _ _ e nm
    have dt2 : DtA H2 (p :: A) vs ds := dt.mono f2 fun a h => List.mem_cons_of_mem _ (s.sub a h)
    have o2 := s2.own (i := i) (s.fr.free np) nA nm (fun _ _ _ e => s.mem e) e2 dt2
    refine n (p :: A) _ _ H2 ⟨fun _ h => List.mem_cons_of_mem _ h, fun a h => ?_, (f1.trans f2).more s.sub, o2.setD h2⟩ k2
    rcases List.mem_cons.mp h with rfl | h
    · exact .inr np
    · exact .inl h

/-! ### short texts -/
inductive Sm : Nat → PyData → Prop
  | leaf {k : Nat} {d : PyData} (h : d.depth = 0) (s : d.showable = true) (l : d.shown.length ≤ 70) : Sm k d
  | tup {k : Nat} {xs : List PyData} (l : xs.length ≤ 20) (h : ∀ x ∈ xs, Sm k x) : Sm (k + 1) (.tuple xs)
  | lst {k : Nat} {xs : List PyData} (l : xs.length ≤ 20) (h : ∀ x ∈ xs, Sm k x) : Sm (k + 1) (.list xs)
  | dct {k : Nat} : Sm k (.dict [])
theorem Sm.up {k j : Nat} {d : PyData} (h : Sm k d) : k ≤ j → Sm j d := by
  induction h generalizing j with
  | leaf a b c => exact fun _ => .leaf a b c
  | tup l h ih =>
    intro hj
    cases j with
    | zero => omega
    | succ j => exact .tup l fun x hx => ih x hx (by omega)
  | lst l h ih =>
    intro hj
    cases j with
    | zero => omega
    | succ j => exact .lst l fun x hx => ih x hx (by omega)
  | dct => exact fun _ => .dct
def smB : Nat → Nat
  | 0 => 70
  | k + 1 => 20 * (smB k + 2) + 10
theorem piled_le {B : Nat} : ∀ (ts : List Str), (∀ t ∈ ts, t.length ≤ B) → piled ts ≤ ts.length * (B + 2)
  | [], _ => by simp [piled]
  | t :: ts, h => by
    rw [piled_cons, List.length_cons, Nat.add_mul, Nat.one_mul]
    have h1 := h t List.mem_cons_self
    have h2 := piled_le ts fun x hx => h x (List.mem_cons_of_mem _ hx)
    omega
theorem textFrom_le : ∀ (ts : List Str) (k : Nat) (acc : Str), (textFrom k acc ts).length ≤ acc.length + piled ts
  | [], k, acc => Nat.le_add_right _ _
  | t :: ts, k, acc => by
    have ih := textFrom_le ts (k + 1) (acc ++ (if k > 0 then ", " else "" : String) ++ t)
    have e : (acc ++ (if k > 0 then ", " else "" : String) ++ t).length ≤ acc.length + 2 + t.length := by
      rw [strLen_append, strLen_append]
      have : ((if k > 0 then ", " else "" : String) : Str).length ≤ 2 := by split <;> decide
      omega
    rw [piled_cons]
    show (textFrom (k + 1) (acc ++ (if k > 0 then ", " else "" : String) ++ t) ts).length ≤ _
    omega
theorem shownAll_len : ∀ xs : List PyData, (PyData.shownAll xs).length = xs.length
  | [] => by simp only [PyData.shownAll] <;> rfl
  | x :: xs => by
    simp only [PyData.shownAll, List.length_cons, shownAll_len xs]
theorem shownAll_mem : ∀ {xs : List PyData} {t : Str}, t ∈ PyData.shownAll xs → ∃ x ∈ xs, t = x.shown
  | [], t, h => by
    simp only [PyData.shownAll] at h
    exact nomatch h
  | x :: xs, t, h => by
    simp only [PyData.shownAll, List.mem_cons] at h
    rcases h with rfl | h
    · exact ⟨x, List.mem_cons_self, rfl⟩
    · obtain ⟨y, hy, e⟩ := shownAll_mem h
      exact ⟨y, List.mem_cons_of_mem _ hy, e⟩
theorem showAll_of : ∀ {xs : List PyData}, (∀ x ∈ xs, x.showable = true) → PyData.showableAll xs = true
  | [], _ => by simp only [PyData.showableAll]
  | x :: xs, h => by
    simp only [PyData.showableAll, Bool.and_eq_true]
    exact ⟨h x List.mem_cons_self, showAll_of fun y hy => h y (List.mem_cons_of_mem _ hy)⟩
theorem depthAll_of {k : Nat} : ∀ {xs : List PyData}, (∀ x ∈ xs, x.depth ≤ k) → PyData.depthAll xs ≤ k
  | [], _ => by simp only [PyData.depthAll]; exact Nat.zero_le _
  | x :: xs, h => by
    simp only [PyData.depthAll]
    have h1 := h x List.mem_cons_self
    have h2 := depthAll_of (xs := xs) fun y hy => h y (List.mem_cons_of_mem _ hy)
    omega
theorem Sm.all {k : Nat} {d : PyData} (h : Sm k d) : d.showable = true ∧ d.depth ≤ k + 1 ∧ d.shown.length ≤ smB k := by
  induction h with
  | @leaf k d a b c =>
    refine ⟨b, by omega, ?_⟩
    have : 70 ≤ smB k := by
      cases k with
      | zero => exact Nat.le_refl _
      | succ k => show 70 ≤ 20 * (smB k + 2) + 10; have : 70 ≤ smB k := by
                    induction k with
                    | zero => exact Nat.le_refl _
                    | succ k ih => show 70 ≤ 20 * (smB k + 2) + 10; omega
                  omega
    omega
  | @tup k xs l h ih =>
    refine ⟨by simp only [PyData.showable]; exact showAll_of fun x hx => (ih x hx).1, by simp only [PyData.depth]; have := depthAll_of fun x hx => (ih x hx).2.1; omega, ?_⟩
    simp only [PyData.shown]
    have hp := piled_le (B := smB k) (PyData.shownAll xs) fun t ht => by
      obtain ⟨x, hx, rfl⟩ := shownAll_mem ht
      exact (ih x hx).2.2
    rw [shownAll_len] at hp
    have hm : xs.length * (smB k + 2) ≤ 20 * (smB k + 2) := Nat.mul_le_mul_right _ l
    unfold tupleText
    rw [strLen_append, strLen_append]
    have hj : (Str.join ", " (PyData.shownAll xs)).length ≤ piled (PyData.shownAll xs) := by
      by_cases e : PyData.shownAll xs = []
      · rw [e]
        exact Nat.le_refl _
      · have := join_length_add _ e
        omega
    have h1 : (("(" : String) : Str).length ≤ 2 := by decide
    have h2 : ((if (PyData.shownAll xs).length == 1 then ",)" else ")" : String) : Str).length ≤ 2 := by split <;> decide
    show _ ≤ 20 * (smB k + 2) + 10
    omega
  | @lst k xs l h ih =>
    refine ⟨by simp only [PyData.showable]; exact showAll_of fun x hx => (ih x hx).1, by simp only [PyData.depth]; have := depthAll_of fun x hx => (ih x hx).2.1; omega, ?_⟩
    simp only [PyData.shown]
    have hp := piled_le (B := smB k) (PyData.shownAll xs) fun t ht => by
      obtain ⟨x, hx, rfl⟩ := shownAll_mem ht
      exact (ih x hx).2.2
    rw [shownAll_len] at hp
    have hm : xs.length * (smB k + 2) ≤ 20 * (smB k + 2) := Nat.mul_le_mul_right _ l
    unfold listText
    rw [strLen_append]
    have ht := textFrom_le (PyData.shownAll xs) 0 "["
    have h1 : (("[" : String) : Str).length ≤ 2 := by decide
    have h2 : (("]" : String) : Str).length ≤ 2 := by decide
    show _ ≤ 20 * (smB k + 2) + 10
    omega
  | @dct k =>
    refine ⟨by decide, by simp only [PyData.depth, PyData.depthKv]; omega, ?_⟩
    have e : (PyData.dict []).shown.length ≤ 70 := by decide +kernel
    have : 70 ≤ smB k := by
      induction k with
      | zero => exact Nat.le_refl _
      | succ k ih => show 70 ≤ 20 * (smB k + 2) + 10; omega
    omega
theorem Sm.shw {d : PyData} (h : Sm 4 d) : Shw d := by
  obtain ⟨a, b, c⟩ := h.all
  refine ⟨a, by omega, ?_⟩
  have : smB 4 ≤ sizeLine := by rw [sizeLine_eq]; decide
  omega
/-- an int of few figures -/
theorem Sm.int {k : Nat} {i : Int} (h1 : -(10 ^ 60) ≤ i) (h2 : i ≤ 10 ^ 60) : Sm k (.int i) := by
  have hz : i.natAbs < 2 ^ 200 := by
    have : (10 : Int) ^ 60 < 2 ^ 200 := by decide +kernel
    omega
  refine .leaf (by simp only [PyData.depth]) ?_ ?_
  · simp only [PyData.showable, decide_eq_true_eq]
    by_cases e : i.natAbs = 0
    · rw [e]
      decide
    · have := (Nat.log2_lt e).mpr hz
      omega
  · have e := int_text_length_le10 (a := i) (k := 61) (by decide) (by
      have : (10 : Int) ^ 60 < 10 ^ 61 := by decide +kernel
      omega)
    simp only [PyData.shown]
    show (Str.ofString (toString i)).length ≤ 70
    rw [PySem.ofString_length]
    omega
theorem Sm.non {k : Nat} : Sm k .none := .leaf (by simp only [PyData.depth]) (by decide) (by decide +kernel)
theorem Sm.bl {k : Nat} (b : Bool) : Sm k (.bool b) := .leaf (by simp only [PyData.depth]) (by cases b <;> decide) (by cases b <;> decide +kernel)
end Dl

/-! D9: more of own lists; while; in, index; zip of tuples -/
namespace Dl
open PySem PySem.Spec PyProof.Rows L2
theorem cutD_mem {es : List PyData} {lo hi : Option Int} {x : PyData} (h : x ∈ Dl.cutD es lo hi) : x ∈ es := List.mem_of_mem_drop (List.mem_of_mem_take h)
theorem cutD_len {es : List PyData} {lo hi : Option Int} : (Dl.cutD es lo hi).length ≤ es.length := by
  unfold Dl.cutD
  rw [List.length_take, List.length_drop]
  omega
theorem own_set {A : List Addr} {Δ : List Sl} {i : Nat} {t : Addr} {ds ds' : List PyData} (h : Δ[i]? = some (.m t ds)) (hm : ∀ (k : Nat) t ds, Δ[k]? = some (Sl.m t ds) → t ∈ A) : ∀ (k : Nat) t' es, (Δ.set i (.m t ds'))[k]? = some (Sl.m t' es) → t' ∈ A := fun k t' es e => by
  rw [List.getElem?_set] at e
  by_cases hk : i = k
  · rw [if_pos hk] at e
    split at e
    · cases e
      exact hm i t ds h
    · cases e
  · rw [if_neg hk] at e
    exact hm k t' es e
theorem map_erase {α β : Type} (f : α → β) : ∀ (l : List α) (k : Nat), (l.map f).eraseIdx k = (l.eraseIdx k).map f
  | [], _ => rfl
  | _ :: _, 0 => rfl
  | x :: r, k + 1 => congrArg (f x :: ·) (map_erase f r k)
/-- len of a list or a tuple -/
abbrev rLenK (K : PySem.W.Frag) : List V → Hp → VK → Prop := fun xs H Q => ∃ p ys, xs = [.ref p] ∧ (SqL K H p ys ∨ SqT K H p ys) ∧ Q (.int ys.length) H
theorem DtA.set {H : Hp} {A : List Addr} {v : V} {d : PyData} (h : Dt H A v d) : ∀ {ds : List PyData} {vs : List V} (j : Nat), DtA H A vs ds → DtA H A (vs.set j v) (ds.set j d)
  | _, _, _, .nil => .nil
  | _, _, 0, .cons _ t => .cons h t
  | _, _, j + 1, .cons a t => .cons a (DtA.set h j t)
theorem DtA.eraseIdx {H : Hp} {A : List Addr} : ∀ {ds : List PyData} {vs : List V} (j : Nat), DtA H A vs ds → DtA H A (vs.eraseIdx j) (ds.eraseIdx j)
  | _, _, _, .nil => .nil
  | _, _, 0, .cons _ t => t
  | _, _, j + 1, .cons a t => .cons a (DtA.eraseIdx j t)
section
variable {F : Fm} {A : List Addr} {Δ : List Sl} {K : PySem.W.Frag} {te ti tb to : TE} {tt : TT} {ts : TS} {ta : TA} {t1 t2 : TE} {E : En} {i j : Nat} {q : PyData → Prop}
theorem sq_parMM (hij : i ≠ j) (h : EvN F A Δ t1 fun ds => ∀ t, t ∉ A → EvN F (t :: A) Δ t2 fun es => ∀ u, u ∉ t :: A → E.nx (u :: t :: A) ((Δ.set i (.m t ds)).set j (.m u es))) :
    Sq F A Δ (tPar i j (tCons t1 (tCons t2 tNil))) E := fun H0 σ H s D n r b c =>
  h H0 σ H s _ fun p vs ds H1 s1 f1 np e dt k => by
    have nA : p ∉ A := fun z => s.trk p z np
    have nm : p ∉ F.m := fun z => nA (s.sub p z)
    refine k p nA H0 σ H1 s1 _ fun u us es H2 s2 f2 nu eu du k2 => ⟨_, _, rfl, ?_⟩
    have e2 : H2 p = some (.lst vs) := f2.keep _ _ e nm
    have nuA : u ∉ p :: A := fun z => s1.trk u z nu
    have num : u ∉ F.m := fun z => nuA (List.mem_cons_of_mem _ (s.sub u z))
    have dt2 : DtA H2 (u :: p :: A) vs ds := (dt.add nu).mono f2 fun a h => List.mem_cons_of_mem _ (List.mem_cons_of_mem _ (s.sub a h))
    have a1 := s2.set (i := i) (v := .ref p) (x := .m p ds) ⟨rfl, List.mem_cons_of_mem _ List.mem_cons_self, nm, s.fr.free np, vs, e2, dt2⟩ (fun t es et jj fs _ hj => by
      cases et
      exact nA (s.mem hj))
    have a2 := a1.set (i := j) (v := .ref u) (x := .m u es) ⟨rfl, List.mem_cons_self, num, s1.fr.free nu, us, eu, du⟩ (fun t es et jj fs hne hj => by
      cases et
      rw [List.getElem?_set] at hj
      by_cases hi : i = jj
      · rw [if_pos hi] at hj
        split at hj
        · cases hj
          exact nuA List.mem_cons_self
        · cases hj
      · rw [if_neg hi] at hj
        exact nuA (List.mem_cons_of_mem _ (s.mem hj)))
    refine n (u :: p :: A) _ _ H2 ⟨fun _ h => List.mem_cons_of_mem _ (List.mem_cons_of_mem _ h), fun a h => ?_, (f1.trans f2).more s.sub, a2⟩ (k2 u nuA)
    rcases List.mem_cons.mp h with rfl | h
    · exact .inr (f1.free nu)
    · rcases List.mem_cons.mp h with rfl | h
      · exact .inr np
      · exact .inl h
/-- while, by a measure -/
theorem sq_while (Inv : Nat → List Sl → Prop) {m0 : Nat} (i0 : Inv m0 Δ)
    (step : ∀ m Δ', Inv m Δ' → (∀ (k : Nat) t ds, Δ'[k]? = some (Sl.m t ds) → t ∈ A) → EvT F A Δ' tt fun b => (b = true → Sq F A Δ' ts { nx := Back A fun Δ3 => ∃ m', m' < m ∧ Inv m' Δ3, rt := E.rt, bk := E.nx, ct := Back A fun Δ3 => ∃ m', m' < m ∧ Inv m' Δ3 }) ∧ (b = false → E.nx A Δ')) :
    Sq F A Δ (tWhile tt ts) E := fun H0 σ H s D n r b c => by
  refine ⟨fun m σ' H' => ∃ Δ', Inv m Δ' ∧ Go F H0 A H A Δ' σ' H', ⟨m0, Δ, i0, .refl s⟩, ?_⟩
  rintro m σ' H' ⟨Δ', iv, g0⟩
  have s2 := g0.st
  refine step m Δ' iv (fun _ _ _ e => s2.mem e) H0 σ' H' s2 _ fun bb H1 s3 f1 ⟨k1, k2⟩ => ?_
  have g1 : Go F H0 A H A Δ' σ' H1 := g0.trans (.of s3 (f1.more s.sub))
  cases bb with
  | true =>
    rw [if_pos rfl]
    refine ⟨fun σ3 H3 => ∃ m', m' < m ∧ ∃ Δ3, Inv m' Δ3 ∧ Go F H0 A H A Δ3 σ3 H3, fun σ3 H3 z => z, ?_⟩
    have nxt : ∀ A' Δ2 σ4 H4, Go F H0 A H1 A' Δ2 σ4 H4 → Back A (fun Δ3 => ∃ m', m' < m ∧ Inv m' Δ3) A' Δ2 → ∃ m', m' < m ∧ ∃ Δ3, Inv m' Δ3 ∧ Go F H0 A H A Δ3 σ4 H4 := fun A' Δ2 σ4 H4 g2 ⟨Δ3, wk, hm', m', l, iv'⟩ =>
      ⟨m', l, Δ3, iv', .of ((g2.st.weak wk).cut g2.sub s.sub hm') (g1.trans g2).fr⟩
    exact k1 rfl H0 σ' H1 s3 _ nxt r (fun A2 Δ2 σ4 H4 g2 q2 => n A2 Δ2 σ4 H4 (g1.trans g2) q2) nxt
  | false =>
    rw [if_neg Bool.false_ne_true]
    exact n A Δ' σ' H1 g1 (k2 rfl)
/-- an own list handed back -/
theorem sq_retM {t : Addr} {ds : List PyData} (h : Δ[i]? = some (.m t ds)) (hq : E.rt (.list ds)) : Sq F A Δ (tRet (tVar i)) E := fun H0 σ H s D n r b c => by
  obtain ⟨o, ho, e0, tA, tm, t0, vs, ht, hv⟩ := s.env i _ h
  subst e0
  refine ⟨_, ho, ?_⟩
  exact r (A.filter fun a => a != t) _ _ H (fun a ha hz => List.mem_filter.mpr ⟨ha, by simp; rintro rfl; exact hz t0⟩) s.fr s.inv (.lst ht (fun z => by simpa using (List.mem_filter.mp z).2) (hv.less fun a z => (List.mem_filter.mp z).1)) hq
/-- xs.append(ys.pop(k)), both own -/
theorem sq_appendPop {t u : Addr} {ds es : List PyData} (h1 : Δ[i]? = some (.m t ds)) (h2 : Δ[j]? = some (.m u es)) (hij : i ≠ j)
    (he : Ev F A Δ te fun d => ∃ k : Nat, d = .int k ∧ k < 1000000 ∧ ds.length < 100000 ∧ ∃ x, es[k]? = some x ∧ E.nx A ((Δ.set j (.m u (es.eraseIdx k))).set i (.m t (ds ++ [x])))) :
    Sq F A Δ (tDrop (tBM K "list" rAppend (tVar i) (tCons (tBM K "list" rPopAt (tVar j) (tCons te tNil)) tNil))) E := fun H0 σ H s D n r b c => by
  obtain ⟨o, ho, e0, tA, tm, t0, vs, ht, hv⟩ := s.env i _ h1
  obtain ⟨o2, ho2, e02, uA, um, u0, us, hu, hw⟩ := s.env j _ h2
  subst e0 e02
  refine ⟨_, ho, .inl ⟨rfl, vs, .of ht⟩, _, ho2, .inl ⟨rfl, us, .of hu⟩, ?_⟩
  refine he H0 σ H s _ fun v d H1 s1 f1 hd ⟨k, ed, k6, kl, x, hx, kk⟩ => ?_
  subst ed
  cases hd
  obtain ⟨_, _, _, _, _, _, us1, hu1, hw1⟩ := s1.env j _ h2
  obtain ⟨y, hy, dy⟩ := hw1.getD hx
  have hk : k < us1.length := (List.getElem?_eq_some_iff.mp hy).1
  refine ⟨u, us1, (k : Int), k, y, rfl, rfl, hu1, by omega, by omega, ?_, hy, ?_⟩
  · refine (ixN_seq (n := us1.length) (i := (k : Int)) ?_).1
    unfold ixN
    rw [if_pos (by omega), if_pos (by omega), Int.toNat_natCast]
  have s2 := s1.put h2 (hw1.eraseIdx k)
  have f2 : Fr [u] H1 (upd H1 u (.lst (us1.eraseIdx k))) := .put List.mem_cons_self
  have sub1 : ∀ a ∈ [u], a ∈ A := fun a z => by
    rw [List.mem_singleton.mp z]
    exact uA
  have h1' : (Δ.set j (.m u (es.eraseIdx k)))[i]? = some (.m t ds) := by
    rw [List.getElem?_set_ne (fun z => hij z.symm)]
    exact h1
  have dy2 := dy.mono f2 sub1
  generalize upd H1 u (.lst (us1.eraseIdx k)) = H2 at s2 f2 dy2
  obtain ⟨_, _, _, _, _, _, vs2, ht2, hv2⟩ := s2.env i _ h1'
  refine ⟨t, vs2, y, rfl, rfl, ht2, by rw [hv2.length, sizeLine_eq]; omega, ?_⟩
  exact n A _ _ _ (.of (s2.put h1' (hv2.append (.cons dy2 .nil))) (((f1.more s.sub).trans (f2.more sub1)).trans (.put tA))) kk
/-- xs[k] = e, own -/
theorem sq_storeM {t : Addr} {ds : List PyData} (h : Δ[i]? = some (.m t ds)) (he : Ev F A Δ te fun d => Ev F A Δ ti fun d2 => ∃ k jj, d2 = .int k ∧ ixN ds.length k = some jj ∧ E.nx A (Δ.set i (.m t (ds.set jj d)))) :
    Sq F A Δ (tAsg te (gSub (tVar i) ti rSetL)) E := fun H0 σ H s D n r b c =>
  he H0 σ H s _ fun v d H1 s1 f1 h1 k1 => by
    obtain ⟨o, ho, e0, tA, tm, t0, vs, ht, hv⟩ := s1.env i _ h
    subst e0
    refine ⟨_, ho, k1 H0 σ H1 s1 _ fun w d2 H2 s2 f2 h2 ⟨k, jj, e, hj, kk⟩ => ?_⟩
    subst e
    cases h2
    obtain ⟨_, _, _, _, _, _, vs2, ht2, hv2⟩ := s2.env i _ h
    refine ⟨t, vs2, k, jj, rfl, rfl, ht2, by rw [hv2.length]; exact hj, ?_⟩
    exact n A _ _ _ (.of (s2.put h (hv2.set (h1.mono f2 s1.sub) jj)) (((f1.trans f2).more s.sub).trans (.put tA))) kk
/-- xs != e, own -/
theorem ev_neDM {t : Addr} {ds : List PyData} (h : Δ[i]? = some (.m t ds)) (hb : Ev F A Δ tb fun d2 => SeqAt.shaped (.list ds) = true ∧ SeqAt.shaped d2 = true ∧ q (.bool (!PyData.eqv (.list ds) d2))) : Ev F A Δ (tOp (rNeD K) (tVar i) tb) q := fun H0 σ H s Q z => by
  obtain ⟨o, ho, e0, tA, tm, t0, vs, ht, hv⟩ := s.env i _ h
  subst e0
  refine ⟨_, ho, hb H0 σ H s _ fun v d H1 s1 f1 h1 ⟨e1, e2, hq⟩ => ?_⟩
  obtain ⟨_, _, _, _, _, _, vs1, ht1, hv1⟩ := s1.env i _ h
  have d1 : Dt H1 [] (.ref t) (.list ds) := .lst ht1 List.not_mem_nil (hv1.less fun _ z => absurd z List.not_mem_nil)
  exact ⟨.list ds, d, d1.dp (SeqAt.canLay_of_shaped e1), h1.dp (SeqAt.canLay_of_shaped e2), e1, e2, z _ _ H1 s1 f1 (.bl _) hq⟩
/-- xs[k], own -/
theorem ev_ixM {t : Addr} {ds : List PyData} (h : Δ[i]? = some (.m t ds)) (hb : Ev F A Δ tb fun d2 => ∃ k d, d2 = .int k ∧ atD ds k = some d ∧ q d) :
    Ev F A Δ (tOp (fun x y H Q => rIxL K x y H Q ∨ rIxT K x y H Q) (tVar i) tb) q := fun H0 σ H s Q z => by
  obtain ⟨o, ho, e0, tA, tm, t0, vs, ht, hv⟩ := s.env i _ h
  subst e0
  refine ⟨_, ho, hb H0 σ H s _ fun v d2 H1 s1 f1 h1 ⟨k, d, e, hd, hq⟩ => ?_⟩
  subst e
  cases h1
  obtain ⟨_, _, _, _, _, _, vs1, ht1, hv1⟩ := s1.env i _ h
  obtain ⟨y, ey, dy⟩ := at_v hv1 hd
  exact .inl ⟨t, vs1, k, y, rfl, rfl, .of ht1, ey, z y d H1 s1 f1 dy hq⟩
/-- list(range(n)) -/
theorem evn_lstRg {q : List PyData → Prop} (h : Ev F A Δ te fun d => ∃ n : Int, d = .int n ∧ -100000 ≤ n ∧ n ≤ 100000 ∧ q (rngD n)) : EvN F A Δ (tLstRg (tRg1 te)) q := fun H0 σ H s Q z =>
  h H0 σ H s _ fun v d H1 s1 f1 h1 ⟨n, e, n1, n2, k⟩ => by
    subst e
    cases h1
    refine ⟨n, rfl, ⟨by omega, by omega, by omega, by omega, by omega⟩, fun p hp => ?_⟩
    have e : rgV 0 n = ((List.range n.toNat).map fun k => ((k : Nat) : Int)).map V.int := by
      unfold rgV
      rw [List.map_map, Int.sub_zero]
      refine List.map_congr_left fun k _ => ?_
      show V.int (0 + (k : Int)) = V.int (k : Int)
      rw [Int.zero_add]
    have e2 : rngD n = ((List.range n.toNat).map fun k => ((k : Nat) : Int)).map PyData.int := by
      unfold rngD
      rw [List.map_map] <;> rfl
    rw [e]
    rw [e2] at k
    exact z p _ _ _ (s1.laidP hp) (f1.trans (.new hp)) (f1.free hp) upd_same (.ints _) k
/-- c in xs, ints -/
theorem ev_inI {neg : Bool} (h : Ev F A Δ te fun d1 => Ev F A Δ tb fun d2 => ∃ (c : Int) (ns : List Int), d1 = .int c ∧ seqD d2 = some (ns.map .int) ∧ q (.bool (if neg then !ns.any (fun y => y == c) else ns.any (fun y => y == c)))) :
    Ev F A Δ (tOp (rIn K neg) te tb) q :=
  ev_op h fun H0 σ H x y d1 d2 s h1 h2 ⟨c, ns, e1, e2, hq⟩ Q z => by
    subst e1
    cases h1
    obtain ⟨a, xs, rfl, hh, hx⟩ := seq_v h2 e2
    have ex := hx.int_inv
    subst ex
    have e : inV (.int c) (ns.map V.int) = ns.any fun y => y == c := by
      unfold inV
      rw [List.any_map] <;> rfl
    refine ⟨a, _, rfl, hh.imp SqL.of SqT.of, rfl, ?_, ?_⟩
    · rw [List.all_map]
      exact List.all_eq_true.mpr fun _ _ => rfl
    · rw [e]
      exact z _ _ H s (.refl _) (.bl _) hq
/-- xs.index(c), ints -/
theorem ev_indexI (h : Ev F A Δ to fun d1 => ∃ ns : List Int, d1 = .list (ns.map .int) ∧ Ev F A Δ te fun d2 => ∃ (c : Int) (k : Nat), d2 = .int c ∧ ns[k]? = some c ∧ (∀ (m : Nat) x, m < k → ns[m]? = some x → x ≠ c) ∧ q (.int (k : Nat))) :
    Ev F A Δ (tBM K "list" (rIndex K) to (tCons te tNil)) q := fun H0 σ H s Q z => by
  refine h H0 σ H s _ fun x d1 H1 s1 f1 h1 ⟨ns, e1, k1⟩ => ?_
  subst e1
  cases h1 with
  | @lst a vs _ hh n t =>
    have ev := t.int_inv
    subst ev
    refine ⟨.inl ⟨rfl, _, .of hh⟩, k1 H0 σ H1 s1 _ fun v d2 H2 s2 f2 h2 ⟨c, k, e2, hk, hno, hq⟩ => ?_⟩
    subst e2
    cases h2
    have hh2 : H2 a = some (.lst (ns.map V.int)) := f2.keep _ _ hh fun z => n (s1.sub a z)
    refine ⟨a, _, .int c, k, .int c, rfl, rfl, .of hh2, rfl, ?_, by rw [List.getElem?_map, hk] <;> rfl, by show (c == c) = true; exact beq_self_eq_true c, fun m z' hm hz => ?_, z _ _ H2 s2 (f1.trans f2) (.int _) hq⟩
    · rw [List.all_map]
      exact List.all_eq_true.mpr fun _ _ => rfl
    · rw [List.getElem?_map] at hz
      cases e : ns[m]? with
      | none => rw [e] at hz; cases hz
      | some y =>
        rw [e] at hz
        cases hz
        show (y == c) = false
        exact beq_eq_false_iff_ne.mpr (hno m y hm e)
/-- zip of two tuples -/
theorem evi_zipT {q : List PyData → Prop} (h : EvA F A Δ ta fun ds => ∃ xs ys, ds = [.tuple xs, .tuple ys] ∧ q (List.zipWith (fun x y => .tuple [x, y]) xs ys)) : EvI F A Δ (RZ.iZipA K ta) q := fun H0 σ H s R z =>
  h H0 σ H s _ fun vs ds H1 s1 f1 h1 ⟨xs, ys, e, k⟩ => by
    subst e
    cases h1 with
    | cons hx ht =>
      cases ht with
      | cons hy ht =>
        cases ht
        cases hx with
        | @tup a vx _ ha na ta =>
          cases hy with
          | @tup b vy _ hb nb tb =>
            have l1 := ta.length
            have l2 := tb.length
            refine ⟨a, b, vx, vy, rfl, .inr ⟨.of ha, .of hb, z _ (List.zipWith (fun x y => .tuple [x, y]) xs ys) H1 s1 f1 ⟨fun B i H' x f hi => ?_, fun B H' x f => ?_, fun B i H' v H'' x f tr hi y => ?_⟩ k⟩⟩
            · rw [List.length_zipWith] at hi
              exact ⟨vx, vy, vx[i], vy[i], .of (frB x f na ha), .of (frB x f nb hb), List.getElem?_eq_getElem (by omega), List.getElem?_eq_getElem (by omega)⟩
            · refine ⟨vx, vy, .of (frB x f na ha), .of (frB x f nb hb), ?_⟩
              rw [List.length_zipWith]
              omega
            · obtain ⟨T, u, w, rfl, nT, rfl, y1, y2⟩ := y
              obtain ⟨d1, e1, hd1⟩ := (dtB x f ta).get (y1 _ (.of (frB x f na ha)))
              obtain ⟨d2, e2, hd2⟩ := (dtB x f tb).get (y2 _ (.of (frB x f nb hb)))
              exact ⟨.new nT, .tuple [d1, d2], by rw [List.getElem?_zipWith, e1, e2], .newT nT tr (.cons hd1 (.cons hd2 .nil))⟩
end
end Dl

/-! the law k01: the text, the package's defs -/
namespace K01
open PySem PySem.Spec PyProof.Rows L2 Dl
def topS (i : Nat) : Stmt := PySem.Challenge.pw_passingsums_k01_what_is_a_book.main.body.getD i (.Pass ⟨0, 0, 0, 0⟩)
abbrev s_is_number : Stmt := topS 4
abbrev N_is_number : List Str := ["value"]
abbrev p_is_number : List Str := ["value"]
theorem sc_is_number : FnScope N_is_number p_is_number (defScope s_is_number) := ⟨rfl, rfl, rfl, by decide +kernel, rfl, by decide +kernel, by decide +kernel⟩
abbrev s_is_within : Stmt := topS 5
abbrev N_is_within : List Str := ["value", "least", "most"]
abbrev p_is_within : List Str := ["value", "least", "most"]
theorem sc_is_within : FnScope N_is_within p_is_within (defScope s_is_within) := ⟨rfl, rfl, rfl, by decide +kernel, rfl, by decide +kernel, by decide +kernel⟩
abbrev s_is_tuple_of : Stmt := topS 6
abbrev N_is_tuple_of : List Str := ["value", "length"]
abbrev p_is_tuple_of : List Str := ["value", "length"]
theorem sc_is_tuple_of : FnScope N_is_tuple_of p_is_tuple_of (defScope s_is_tuple_of) := ⟨rfl, rfl, rfl, by decide +kernel, rfl, by decide +kernel, by decide +kernel⟩
abbrev s_is_tuple_within : Stmt := topS 7
abbrev N_is_tuple_within : List Str := ["value", "length", "most", "item"]
abbrev p_is_tuple_within : List Str := ["value", "length", "most"]
theorem sc_is_tuple_within : FnScope N_is_tuple_within p_is_tuple_within (defScope s_is_tuple_within) := ⟨rfl, rfl, rfl, by decide +kernel, rfl, by decide +kernel, by decide +kernel⟩
abbrev s_book_error : Stmt := topS 8
abbrev N_book_error : List Str := ["value", "many", "rows", "place", "row"]
abbrev p_book_error : List Str := ["value"]
theorem sc_book_error : FnScope N_book_error p_book_error (defScope s_book_error) := ⟨rfl, rfl, rfl, by decide +kernel, rfl, by decide +kernel, by decide +kernel⟩
abbrev s__has_book_form : Stmt := topS 9
abbrev N__has_book_form : List Str := ["value", "many", "rows"]
abbrev p__has_book_form : List Str := ["value"]
theorem sc__has_book_form : FnScope N__has_book_form p__has_book_form (defScope s__has_book_form) := ⟨rfl, rfl, rfl, by decide +kernel, rfl, by decide +kernel, by decide +kernel⟩
abbrev s__law_stock : Stmt := topS 11
abbrev N__law_stock : List Str := ["script", "flat", "cell"]
abbrev p__law_stock : List Str := ["script"]
theorem sc__law_stock : FnScope N__law_stock p__law_stock (defScope s__law_stock) := ⟨rfl, rfl, rfl, by decide +kernel, rfl, by decide +kernel, by decide +kernel⟩
abbrev s__law_draw : Stmt := topS 12
abbrev N__law_draw : List Str := ["stock", "size", "great", "turn", "cell", "blend"]
abbrev p__law_draw : List Str := ["stock", "size"]
theorem sc__law_draw : FnScope N__law_draw p__law_draw (defScope s__law_draw) := ⟨rfl, rfl, rfl, by decide +kernel, rfl, by decide +kernel, by decide +kernel⟩
abbrev s__law_pick : Stmt := topS 13
abbrev N__law_pick : List Str := ["stock", "row"]
abbrev p__law_pick : List Str := ["stock", "row"]
theorem sc__law_pick : FnScope N__law_pick p__law_pick (defScope s__law_pick) := ⟨rfl, rfl, rfl, by decide +kernel, rfl, by decide +kernel, by decide +kernel⟩
abbrev s__law_row : Stmt := topS 14
abbrev N__law_row : List Str := ["stock", "many", "way", "place", "most", "cell"]
abbrev p__law_row : List Str := ["stock", "many"]
theorem sc__law_row : FnScope N__law_row p__law_row (defScope s__law_row) := ⟨rfl, rfl, rfl, by decide +kernel, rfl, by decide +kernel, by decide +kernel⟩
abbrev s__law_book : Stmt := topS 15
abbrev N__law_book : List Str := ["stock", "cells", "rows", "many", "found", "base", "turn", "times", "drawn", "cell", "item"]
abbrev p__law_book : List Str := ["stock", "cells", "rows"]
theorem sc__law_book : FnScope N__law_book p__law_book (defScope s__law_book) := ⟨rfl, rfl, rfl, by decide +kernel, rfl, by decide +kernel, by decide +kernel⟩
abbrev s__law_is_whole : Stmt := topS 16
abbrev N__law_is_whole : List Str := ["value", "least", "most"]
abbrev p__law_is_whole : List Str := ["value", "least", "most"]
theorem sc__law_is_whole : FnScope N__law_is_whole p__law_is_whole (defScope s__law_is_whole) := ⟨rfl, rfl, rfl, by decide +kernel, rfl, by decide +kernel, by decide +kernel⟩
abbrev s__law_due : Stmt := topS 17
abbrev N__law_due : List Str := ["value", "many", "rows", "place", "row", "item"]
abbrev p__law_due : List Str := ["value"]
theorem sc__law_due : FnScope N__law_due p__law_due (defScope s__law_due) := ⟨rfl, rfl, rfl, by decide +kernel, rfl, by decide +kernel, by decide +kernel⟩
abbrev s__law_odd_row : Stmt := topS 18
abbrev N__law_odd_row : List Str := ["stock", "row", "at", "items", "found", "item"]
abbrev p__law_odd_row : List Str := ["stock", "row"]
theorem sc__law_odd_row : FnScope N__law_odd_row p__law_odd_row (defScope s__law_odd_row) := ⟨rfl, rfl, rfl, by decide +kernel, rfl, by decide +kernel, by decide +kernel⟩
abbrev s_law : Stmt := topS 19
abbrev N_law : List Str := ["script", "stock", "turn", "many", "rows", "full", "things", "counts", "nth", "at", "to", "once", "thing", "known", "due", "told", "count"]
abbrev p_law : List Str := ["script"]
theorem sc_law : FnScope N_law p_law (defScope s_law) := ⟨rfl, rfl, rfl, by decide +kernel, rfl, by decide +kernel, by decide +kernel⟩

/-- what the top's names hold -/
structure Gb (mg : Str → Option Value) : Prop where
  m_isinstance : mg "isinstance" = none
  m_int : mg "int" = none
  m_bool : mg "bool" = none
  m_tuple : mg "tuple" = none
  m_len : mg "len" = none
  m_all : mg "all" = none
  m_enumerate : mg "enumerate" = none
  m_sum : mg "sum" = none
  m_range : mg "range" = none
  m_list : mg "list" = none
  m_str : mg "str" = none
  m_repr : mg "repr" = none
  c_MAX_CELLS : ∃ t, mg "MAX_CELLS" = some (.int 8 t)
  c_MAX_ROWS : ∃ t, mg "MAX_ROWS" = some (.int 8 t)
  c_MAX_ITEM : ∃ t, mg "MAX_ITEM" = some (.int 99 t)

section
variable {P : Program} {w : World} {K : PySem.W.Frag} {mg : Str → Option Value} {base : Heap} {f : Addr} {fd : FuncData} {k : Nat}

/-! ### is_number, is_within, is_tuple_of -/
def R_num : List PyData → PyData → Prop
  | [d], r => r = .bool (isNum d)
  | _, _ => False
theorem ok_is_number (F : Fun K "is_number" "is_number" s_is_number f fd) (g : Gb mg) : FnOk P w K mg base CX0 (k + 1) f fd p_is_number (PF (fun ds => ∃ d, ds = [d]) R_num) := by
  obtain ⟨m_isinstance, m_int, m_bool, m_tuple, m_len, m_all, m_enumerate, m_sum, m_range, m_list, m_str, m_repr, c_MAX_CELLS, c_MAX_ROWS, c_MAX_ITEM⟩ := g
  have nd := sc_is_number.nd
  refine F.ok sc_is_number (pf_len fun ds ⟨d, e⟩ => by rw [e]; rfl) fun cdv A outer s H vs Q E hr h => ⟨_, (pss_one (ps_ret (pe_and (pe_callB (show CallR _ _ (rIsi K) from call_isi) (by rfl) m_isinstance (by decide +kernel) (pa_cons (pv 0) (pa_cons (pe_ty (n := "int") (by rfl) m_int (by decide +kernel)) pa_nil))) (pe_one (pe_not (pe_callB (show CallR _ _ (rIsi K) from call_isi) (by rfl) m_isinstance (by decide +kernel) (pa_cons (pv 0) (pa_cons (pe_ty (n := "bool") (by rfl) m_bool (by decide +kernel)) pa_nil)))))))), enterF h fun A ds ⟨d, e⟩ => ?_⟩
  subst e
  refine sq_ret (ev_andV (ev_isi (ev_var rfl ⟨_, kit_int d, _, rfl, fun e1 => ev_notV (ev_isi (ev_var rfl ⟨_, kit_bool d, _, rfl, ?_⟩)), fun e1 => ?_⟩)))
  · cases d <;> first | rfl | cases e1
  · cases d <;> first | rfl | cases e1
theorem isNum_inv {d : PyData} (h : isNum d = true) : ∃ i, d = .int i := by
  cases d <;> first | exact ⟨_, rfl⟩ | cases h
theorem isNum_no {d : PyData} {lo hi : Int} (h : isNum d = false) : isWh lo hi d = false := by
  cases d <;> first | rfl | cases h
def R_within : List PyData → PyData → Prop
  | [d, .int lo, .int hi], r => r = .bool (isWh lo hi d)
  | _, _ => False
abbrev C_within (ds : List PyData) : Prop := ∃ d lo hi, ds = [d, .int lo, .int hi]
theorem ok_is_within (F : Fun K "is_within" "is_within" s_is_within f fd) (g : Gb mg) (h_is_number : Has P w K mg base 1 "is_number" p_is_number (PF (fun ds => ∃ d, ds = [d]) R_num)) : FnOk P w K mg base CX0 2 f fd p_is_within (PF C_within R_within) := by
  obtain ⟨m_isinstance, m_int, m_bool, m_tuple, m_len, m_all, m_enumerate, m_sum, m_range, m_list, m_str, m_repr, c_MAX_CELLS, c_MAX_ROWS, c_MAX_ITEM⟩ := g
  have nd := sc_is_within.nd
  refine F.ok sc_is_within (pf_len fun ds ⟨d, lo, hi, e⟩ => by rw [e]; rfl) fun cdv A outer s H vs Q E hr h => ⟨_, (pss_one (ps_ret (pe_and (pe_h h_is_number hr (by rfl) (pa_cons (pv 0) pa_nil)) (pe_one (pe_chain op_le op_le (pv 1) (pv 0) (pv 2)))))), enterF h fun A ds ⟨d, lo, hi, e⟩ => ?_⟩
  subst e
  refine sq_ret (ev_andV (ev_callF (eva_one (ev_var rfl ⟨⟨d, rfl⟩, fun r hr => ⟨_, hr, fun e1 => ?_, fun e1 => ?_⟩⟩))))
  · obtain ⟨i, rfl⟩ := isNum_inv e1
    refine ev_between (ev_var rfl (ev_var rfl ⟨lo, i, rfl, rfl, fun l1 => ev_var rfl ⟨hi, rfl, ?_⟩, fun l1 => ?_⟩))
    · show PyData.bool _ = .bool (decide (lo ≤ i) && decide (i ≤ hi))
      rw [decide_eq_true l1, Bool.true_and]
    · show PyData.bool _ = .bool (decide (lo ≤ i) && decide (i ≤ hi))
      rw [decide_eq_false l1, Bool.false_and]
  · show PyData.bool _ = .bool (isWh lo hi d)
    rw [isNum_no e1]
def tupN (n : Int) : PyData → Bool
  | .tuple xs => decide (((xs.length : Nat) : Int) = n)
  | _ => false
def R_tupn : List PyData → PyData → Prop
  | [d, .int n], r => r = .bool (tupN n d)
  | _, _ => False
abbrev C_tupn (ds : List PyData) : Prop := ∃ d n, ds = [d, .int n]
theorem isTup_inv {d : PyData} (h : isTupD d = true) : ∃ xs, d = .tuple xs := by
  cases d <;> first | exact ⟨_, rfl⟩ | cases h
theorem ok_is_tuple_of (F : Fun K "is_tuple_of" "is_tuple_of" s_is_tuple_of f fd) (g : Gb mg) : FnOk P w K mg base CX0 1 f fd p_is_tuple_of (PF C_tupn R_tupn) := by
  obtain ⟨m_isinstance, m_int, m_bool, m_tuple, m_len, m_all, m_enumerate, m_sum, m_range, m_list, m_str, m_repr, c_MAX_CELLS, c_MAX_ROWS, c_MAX_ITEM⟩ := g
  have nd := sc_is_tuple_of.nd
  refine F.ok sc_is_tuple_of (pf_len fun ds ⟨d, n, e⟩ => by rw [e]; rfl) fun cdv A outer s H vs Q E hr h => ⟨_, (pss_one (ps_ret (pe_and (pe_callB (show CallR _ _ (rIsi K) from call_isi) (by rfl) m_isinstance (by decide +kernel) (pa_cons (pv 0) (pa_cons (pe_ty (n := "tuple") (by rfl) m_tuple (by decide +kernel)) pa_nil))) (pe_one (pe_cmpR op_eq (pe_callB (show CallR _ _ (rLenK K) from call_len_seq) (by rfl) m_len PySem.boot_len (pa_cons (pv 0) pa_nil)) (pv 1) (nomark _)))))), enterF h fun A ds ⟨d, n, e⟩ => ?_⟩
  subst e
  refine sq_ret (ev_andV (ev_isi (ev_var rfl ⟨_, kit_tuple d, _, rfl, fun e1 => ?_, fun e1 => ?_⟩)))
  · obtain ⟨xs, rfl⟩ := isTup_inv e1
    exact ev_eq (ev_len (eva_one (ev_var rfl ⟨_, xs, rfl, rfl, ev_var rfl ⟨_, rfl, rfl⟩⟩)))
  · cases d <;> first | rfl | cases e1

/-! ### a book -/
def bookForm : PyData → Bool
  | .tuple [m, .tuple rows] => isWh 1 8 m && decide (rows.length ≤ 8)
  | _ => false
def R_form : List PyData → PyData → Prop
  | [d], r => r = .bool (bookForm d)
  | _, _ => False
theorem tupN2 {d : PyData} (h : tupN 2 d = true) : ∃ a b, d = .tuple [a, b] := by
  cases d with
  | tuple xs =>
    have hl : ((xs.length : Nat) : Int) = 2 := of_decide_eq_true h
    match xs, hl with
    | [a, b], _ => exact ⟨a, b, rfl⟩
    | [], hl => simp at hl
    | [_], hl => simp at hl
    | _ :: _ :: _ :: r, hl => simp at hl; omega
  | _ => cases h
theorem form_no {d : PyData} (h : tupN 2 d = false) : bookForm d = false := by
  unfold bookForm
  split
  · cases h
  · rfl
theorem ok__has_book_form (F : Fun K "_has_book_form" "_has_book_form" s__has_book_form f fd) (g : Gb mg) (h_is_tuple_of : Has P w K mg base 1 "is_tuple_of" p_is_tuple_of (PF C_tupn R_tupn))
    (h_is_within : Has P w K mg base 2 "is_within" p_is_within (PF C_within R_within)) : FnOk P w K mg base CX0 3 f fd p__has_book_form (PF (fun ds => ∃ d, ds = [d]) R_form) := by
  obtain ⟨m_isinstance, m_int, m_bool, m_tuple, m_len, m_all, m_enumerate, m_sum, m_range, m_list, m_str, m_repr, c_MAX_CELLS, c_MAX_ROWS, c_MAX_ITEM⟩ := g
  have nd := sc__has_book_form.nd
  refine F.ok sc__has_book_form (pf_len fun ds ⟨d, e⟩ => by rw [e]; rfl) fun cdv A outer s H vs Q E hr h => ⟨_, (pss_cons (ps_if (pt_not (pt_val (pe_h h_is_tuple_of (hr.mono (by decide)) (by rfl) (pa_cons (pv 0) (pa_cons pe_int pa_nil)))))
        (pss_one (ps_ret pe_bl))
        pss_nil)
      (pss_cons (ps_asg (pv 0) (pg_tup rfl (pgs_cons (pg_name (i := 1) nd rfl (Or.inl rfl)) (pgs_cons (pg_name (i := 2) nd rfl (Or.inl rfl)) pgs_nil))))
      (pss_one (ps_ret (pe_and (pe_h h_is_within hr (by rfl) (pa_cons (pv 1) (pa_cons pe_int (pa_cons (pe_gi c_MAX_CELLS (by rfl)) pa_nil)))) (pe_and (pe_callB (show CallR _ _ (rIsi K) from call_isi) (by rfl) m_isinstance (by decide +kernel) (pa_cons (pv 2) (pa_cons (pe_ty (n := "tuple") (by rfl) m_tuple (by decide +kernel)) pa_nil))) (pe_one (pe_cmpR op_le (pe_callB (show CallR _ _ (rLenK K) from call_len_seq) (by rfl) m_len PySem.boot_len (pa_cons (pv 2) pa_nil)) (pe_gi c_MAX_ROWS (by rfl)) (nomark _))))))))), enterF h fun A ds ⟨d, e⟩ => ?_⟩
  subst e
  refine sq_seq (sq_if (evt_not (evt_B (ev_callF (eva_cons (ev_var rfl (eva_one (ev_int ⟨⟨d, 2, rfl⟩, fun r hr => ⟨_, hr, fun e1 => ?_, fun e1 => ?_⟩⟩))))))))
  · refine sq_ret (ev_bl ?_)
    show PyData.bool _ = .bool (bookForm d)
    rw [form_no (by simpa using e1)]
  · obtain ⟨m, rs, rfl⟩ := tupN2 (d := d) (by simpa using e1)
    refine sq_next (sq_seq (sq_asg (tg_two 1 2) (ev_var rfl ⟨_, rfl, ?_⟩)))
    refine sq_ret (ev_andV (ev_callF (eva_cons (ev_var rfl (eva_cons (ev_int (eva_one (ev_int ⟨⟨m, 1, 8, rfl⟩, fun r hr => ⟨_, hr, fun e2 => ?_, fun e2 => ?_⟩⟩))))))))
    · refine ev_andV (ev_isi (ev_var rfl ⟨_, kit_tuple rs, _, rfl, fun e3 => ?_, fun e3 => ?_⟩))
      · obtain ⟨rows, rfl⟩ := isTup_inv e3
        refine ev_ib (ev_len (eva_one (ev_var rfl ⟨_, rows, rfl, rfl, ev_int ⟨_, _, rfl, rfl, ?_⟩⟩)))
        show PyData.bool (decide (((rows.length : Nat) : Int) ≤ 8)) = .bool (isWh 1 8 m && decide (rows.length ≤ 8))
        rw [e2, Bool.true_and, decide_eq_decide.mpr (show ((rows.length : Nat) : Int) ≤ 8 ↔ rows.length ≤ 8 by omega)]
      · show PyData.bool false = .bool (bookForm (.tuple [m, rs]))
        cases rs <;> first | rfl | cases e3
    · show PyData.bool false = .bool (bookForm (.tuple [m, rs]))
      cases rs <;> first | rfl | (show PyData.bool false = .bool (isWh 1 8 m && _); rw [e2, Bool.false_and])
def rowOk (m : Int) : PyData → Bool
  | .tuple xs => decide (((xs.length : Nat) : Int) = m) && xs.all (isWh (-99) 99)
  | _ => false
def R_row : List PyData → PyData → Prop
  | [d, .int m, _], r => r = .bool (rowOk m d)
  | _, _ => False
abbrev C_row (ds : List PyData) : Prop := ∃ (m : Int) (d : PyData), ds = [d, .int m, .int 99] ∧ m ≤ 1000
theorem tupN_inv {n : Int} {d : PyData} (h : tupN n d = true) : ∃ xs, d = .tuple xs ∧ ((xs.length : Nat) : Int) = n := by
  cases d with
  | tuple xs => exact ⟨xs, rfl, of_decide_eq_true h⟩
  | _ => cases h
theorem rowOk_no {m : Int} {d : PyData} (h : tupN m d = false) : rowOk m d = false := by
  cases d with
  | tuple xs =>
    have h' : decide (((xs.length : Nat) : Int) = m) = false := h
    show (decide (((xs.length : Nat) : Int) = m) && _) = false
    rw [h', Bool.false_and]
  | _ => rfl
theorem ok_is_tuple_within (F : Fun K "is_tuple_within" "is_tuple_within" s_is_tuple_within f fd) (g : Gb mg) (h_is_tuple_of : Has P w K mg base 1 "is_tuple_of" p_is_tuple_of (PF C_tupn R_tupn))
    (h_is_within : Has P w K mg base 2 "is_within" p_is_within (PF C_within R_within)) : FnOk P w K mg base CX0 3 f fd p_is_tuple_within (PF C_row R_row) := by
  obtain ⟨m_isinstance, m_int, m_bool, m_tuple, m_len, m_all, m_enumerate, m_sum, m_range, m_list, m_str, m_repr, c_MAX_CELLS, c_MAX_ROWS, c_MAX_ITEM⟩ := g
  have nd := sc_is_tuple_within.nd
  refine F.ok sc_is_tuple_within (pf_len fun ds ⟨m, d, e, _⟩ => by rw [e]; rfl) fun cdv A outer s H vs Q E hr h => ⟨_, (pss_one (ps_ret (pe_and (pe_h h_is_tuple_of (hr.mono (by decide)) (by rfl) (pa_cons (pv 0) (pa_cons (pv 1) pa_nil))) (pe_one (pe_callB (show CallR _ _ (rAll K) from cr_all rfl) (by rfl) m_all (by decide +kernel) (pa_cons (pe_lc (own := [("item", 3)]) (g := gName 3) (tt := tYes) rfl nd (pi_tup (pv 0)) (blkOk_by (N := N_is_tuple_within) (sc := defScope s_is_tuple_within) (by decide +kernel)) (fun _ _ _ _ _ => (pg_name (i := 3) nd rfl (Or.inl rfl))) (fun _ _ _ _ _ => pts_nil) (fun _ _ _ _ _ => (pe_h h_is_within hr (by rfl) (pa_cons (pv 3) (pa_cons (pe_un un_neg (pv 2)) (pa_cons (pv 2) pa_nil)))))) pa_nil)))))), enterF h fun A ds ⟨m, d, e, hm⟩ => ?_⟩
  subst e
  refine sq_ret (ev_andV (ev_callF (eva_cons (ev_var rfl (eva_one (ev_var rfl ⟨⟨d, m, rfl⟩, fun r hr => ⟨_, hr, fun e1 => ?_, fun e1 => ?_⟩⟩))))))
  · obtain ⟨xs, rfl, hl⟩ := tupN_inv e1
    refine ev_all (eva_one (EvN.ev (evn_map (tg_name 3) (by simp) (fun d => .bool (isWh (-99) 99 d)) (evi_tup (ev_var rfl ⟨xs, rfl, by omega, fun d hd p np => ⟨_, rfl, ?_⟩, ?_⟩)))))
    · exact ev_callF (eva_cons (ev_var rfl (eva_cons (ev_neg (ev_var rfl ⟨_, rfl, eva_one (ev_var rfl ⟨⟨d, -99, 99, rfl⟩, fun r hr => hr⟩)⟩)))))
    · refine ⟨xs.map (isWh (-99) 99), by rw [List.map_map] <;> rfl, ?_⟩
      show PyData.bool _ = .bool (decide (((xs.length : Nat) : Int) = m) && xs.all (isWh (-99) 99))
      rw [decide_eq_true hl, Bool.true_and, List.all_map] <;> rfl
  · show PyData.bool false = .bool (rowOk m d)
    rw [rowOk_no e1]
/-- what is wrong with the first row that is none -/
def rowsErr (m : Int) (rows : List PyData) : PyData := match rows.findIdx? (fun d => !rowOk m d) with
  | some i => .tuple [.str "row", .int (i : Nat)]
  | none => .none
def errD : PyData → PyData
  | .tuple [.int m, .tuple rows] => if bookForm (.tuple [.int m, .tuple rows]) = true then rowsErr m rows else .str "form"
  | _ => .str "form"
def R_err : List PyData → PyData → Prop
  | [d], r => r = errD d
  | _, _ => False
theorem form_inv {d : PyData} (h : bookForm d = true) : ∃ m rows, d = .tuple [.int m, .tuple rows] ∧ 1 ≤ m ∧ m ≤ 8 ∧ rows.length ≤ 8 := by
  unfold bookForm at h
  split at h
  · rw [Bool.and_eq_true, decide_eq_true_eq] at h
    obtain ⟨i, rfl, h1, h2⟩ := isWh_int h.1
    exact ⟨i, _, rfl, h1, h2, h.2⟩
  · cases h
theorem err_form {d : PyData} (h : bookForm d = false) : errD d = .str "form" := by
  unfold errD
  split
  · rw [if_neg (by rw [h]; exact Bool.false_ne_true)]
  · rfl
theorem rows_bad {m : Int} {rows : List PyData} {i : Nat} {d : PyData} (hd : rows[i]? = some d) (h : rowOk m d = false) (ok : ∀ (j : Nat) e, j < i → rows[j]? = some e → rowOk m e = true) : rowsErr m rows = .tuple [.str "row", .int (i : Nat)] := by
  obtain ⟨hi, e⟩ := List.getElem?_eq_some_iff.mp hd
  have q : rows.findIdx? (fun d => !rowOk m d) = some i := List.findIdx?_eq_some_iff_getElem.mpr ⟨hi, by rw [e, h] <;> rfl, fun j hj => by
    rw [ok j _ hj (List.getElem?_eq_getElem _)]
    exact Bool.false_ne_true⟩
  unfold rowsErr
  rw [q]
theorem rows_good {m : Int} {rows : List PyData} (ok : ∀ (j : Nat) e, j < rows.length → rows[j]? = some e → rowOk m e = true) : rowsErr m rows = .none := by
  have q : rows.findIdx? (fun d => !rowOk m d) = none := List.findIdx?_eq_none_iff.mpr fun d hd => by
    obtain ⟨j, hj, e⟩ := List.getElem_of_mem hd
    rw [ok j d hj (by rw [List.getElem?_eq_getElem hj, e])] <;> rfl
  unfold rowsErr
  rw [q]
theorem ok_book_error (F : Fun K "book_error" "book_error" s_book_error f fd) (g : Gb mg) (h__has_book_form : Has P w K mg base 3 "_has_book_form" p__has_book_form (PF (fun ds => ∃ d, ds = [d]) R_form))
    (h_is_tuple_within : Has P w K mg base 3 "is_tuple_within" p_is_tuple_within (PF C_row R_row)) : FnOk P w K mg base CX0 4 f fd p_book_error (PF (fun ds => ∃ d, ds = [d]) R_err) := by
  obtain ⟨m_isinstance, m_int, m_bool, m_tuple, m_len, m_all, m_enumerate, m_sum, m_range, m_list, m_str, m_repr, c_MAX_CELLS, c_MAX_ROWS, c_MAX_ITEM⟩ := g
  have nd := sc_book_error.nd
  refine F.ok sc_book_error (pf_len fun ds ⟨d, e⟩ => by rw [e]; rfl) fun cdv A outer s H vs Q E hr h => ⟨_, (pss_cons (ps_if (pt_not (pt_val (pe_h h__has_book_form hr (by rfl) (pa_cons (pv 0) pa_nil))))
        (pss_one (ps_ret pe_str))
        pss_nil)
      (pss_cons (ps_asg (pv 0) (pg_tup rfl (pgs_cons (pg_name (i := 1) nd rfl (Or.inl rfl)) (pgs_cons (pg_name (i := 2) nd rfl (Or.inl rfl)) pgs_nil))))
      (pss_cons (ps_for PassesOwn.never rfl (pi_enumT (by rfl) m_enumerate (pa_cons (pv 2) pa_nil)) (pg_tup rfl (pgs_cons (pg_name (i := 3) nd rfl (Or.inl rfl)) (pgs_cons (pg_name (i := 4) nd rfl (Or.inl rfl)) pgs_nil)))
        (pss_one (ps_if (pt_not (pt_val (pe_h h_is_tuple_within hr (by rfl) (pa_cons (pv 4) (pa_cons (pv 1) (pa_cons (pe_gi c_MAX_ITEM (by rfl)) pa_nil))))))
          (pss_one (ps_ret (pe_tup (pa_cons pe_str (pa_cons (pv 3) pa_nil)))))
          pss_nil)))
      (pss_one (ps_ret pe_non))))), enterF h fun A ds ⟨d, e⟩ => ?_⟩
  subst e
  refine sq_seq (sq_if (evt_not (evt_B (ev_callF (eva_one (ev_var rfl ⟨⟨d, rfl⟩, fun r hr => ⟨_, hr, fun e1 => ?_, fun e1 => ?_⟩⟩))))))
  · refine sq_ret (ev_str ?_)
    show PyData.str "form" = errD d
    rw [err_form (by simpa using e1)]
  · have e1' : bookForm d = true := by simpa using e1
    obtain ⟨m, rows, rfl, m1, m2, hl⟩ := form_inv e1'
    have eD : errD (.tuple [.int m, .tuple rows]) = rowsErr m rows := if_pos e1'
    refine sq_next (sq_seq (sq_asg (tg_two 1 2) (ev_var rfl ⟨_, rfl, ?_⟩)))
    refine sq_seq (sq_for (tg_two 3 4) (evi_enumT (eva_one (ev_var rfl ⟨rows, rfl, fun i Δ' => Δ' = [.d (.tuple [.int m, .tuple rows]), .d (.int m), .d (.tuple rows), .no, .no] ∧ ∀ (j : Nat) e, j < i → rows[j]? = some e → rowOk m e = true, ⟨rfl, fun j e hj => absurd hj (Nat.not_lt_zero j)⟩, fun i e Δ' he ⟨hΔ, hb⟩ hm => ?_, fun Δ' ⟨hΔ, hb⟩ => ?_⟩))))
    · obtain ⟨d, hd, rfl⟩ := enum_inv he
      subst hΔ
      refine ⟨_, rfl, sq_if (evt_not (evt_B (ev_callF (eva_cons (ev_var rfl (eva_cons (ev_var rfl (eva_one (ev_int ⟨⟨m, d, rfl, by omega⟩, fun r hr => ⟨_, hr, fun e2 => ?_, fun e2 => ?_⟩⟩)))))))))⟩
      · refine sq_ret (ev_tup (eva_cons (ev_str (eva_one (ev_var rfl ⟨by simp, ?_⟩)))))
        show PyData.tuple [.str "row", .int (i : Nat)] = errD _
        rw [eD, rows_bad hd (by simpa using e2) hb]
      · refine sq_next (back0 (A' := A) (Δ0 := [.d (.tuple [.int m, .tuple rows]), .d (.int m), .d (.tuple rows), .no, .no]) (.set (.set (.refl _) (.inl rfl)) (.inl rfl)) (no_m rfl) ⟨rfl, fun j e hj hje => ?_⟩)
        by_cases hji : j = i
        · subst hji
          rw [hd] at hje
          cases hje
          simpa using e2
        · exact hb j e (by omega) hje
    · subst hΔ
      refine sq_ret (ev_non ?_)
      show PyData.none = errD _
      rw [eD, rows_good (by rw [enum_len] at hb; exact hb)]
end
end K01

/-! the law k01: the law's own defs -/
namespace K01
open PySem PySem.Spec PyProof.Rows L2 Dl
section
variable {P : Program} {w : World} {K : PySem.W.Frag} {mg : Str → Option Value} {base : Heap} {f : Addr} {fd : FuncData} {k : Nat}
/-! ### the stock -/
theorem ok__law_draw (F : Fun K "_law_draw" "_law_draw" s__law_draw f fd) (g : Gb mg) : FnOk P w K mg base CX0 1 f fd p__law_draw (PS C_draw R_draw) := by
  obtain ⟨m_isinstance, m_int, m_bool, m_tuple, m_len, m_all, m_enumerate, m_sum, m_range, m_list, m_str, m_repr, c_MAX_CELLS, c_MAX_ROWS, c_MAX_ITEM⟩ := g
  have nd := sc__law_draw.nd
  refine F.ok sc__law_draw (ps_len fun ds ⟨n, e, _⟩ => by rw [e]; rfl) fun cdv A outer sh H vs Q E hr h => ⟨_, (pss_cons (ps_if (pt_cmpR (show OpR _ _ (rNeD K) from op_neD hr.units) (pe_ix (show IxR _ (fun x y H Q => rIxL K x y H Q ∨ rIxT K x y H Q) from ix_list.or ix_tup) (pv 0) pe_int (fun _ _ => rfl)) (pe_lst pa_nil) (nomark _))
        (pss_cons (ps_set (i := 2) nd rfl (Or.inl rfl) (pe_bm0 PySem.F.plainAttrs_list PySem.F.slot_list_pop PySem.F.type_list_pop mt_pop (pe_ix (show IxR _ (fun x y H Q => rIxL K x y H Q ∨ rIxT K x y H Q) from ix_list.or ix_tup) (pv 0) pe_int (fun _ _ => rfl))))
        (pss_cons (ps_if (pt_cmpR op_ge (pv 2) (pv 1) (nomark _))
          (pss_one (ps_expr (pe_bm PySem.F.plainAttrs_list PySem.F.slot_list_append PySem.F.type_list_append mt_append (pe_ix (show IxR _ (fun x y H Q => rIxL K x y H Q ∨ rIxT K x y H Q) from ix_list.or ix_tup) (pv 0) pe_int (fun _ _ => rfl)) (pa_cons (pe_op op_fdivN (pv 2) (pv 1)) pa_nil))))
          pss_nil)
        (pss_one (ps_ret (pe_op op_mod (pe_callTy call_int1 (by rfl) m_int (by decide +kernel) (pa_cons (pv 2) pa_nil)) (pv 1))))))
        pss_nil)
      (pss_cons (ps_asg (pe_op op_add (pe_ix (show IxR _ (fun x y H Q => rIxL K x y H Q ∨ rIxT K x y H Q) from ix_list.or ix_tup) (pv 0) pe_int (fun _ _ => rfl)) pe_int) (pg_sub (pv 0) pe_int set_list))
      (pss_cons (ps_set (i := 3) nd rfl (Or.inl rfl) (pe_ix (show IxR _ (fun x y H Q => rIxL K x y H Q ∨ rIxT K x y H Q) from ix_list.or ix_tup) (pv 0) pe_int (fun _ _ => rfl)))
      (pss_cons (ps_set (i := 4) nd rfl (Or.inl rfl) (pe_op op_mod (pe_callTy call_int1 (by rfl) m_int (by decide +kernel) (pa_cons (pe_ix (show IxR _ (fun x y H Q => rIxL K x y H Q ∨ rIxT K x y H Q) from ix_list.or ix_tup) (pe_ix (show IxR _ (fun x y H Q => rIxL K x y H Q ∨ rIxT K x y H Q) from ix_list.or ix_tup) (pv 0) pe_int (fun _ _ => rfl)) (pe_op op_mod (pe_callTy call_int1 (by rfl) m_int (by decide +kernel) (pa_cons (pv 3) pa_nil)) (pe_callB (show CallR _ _ (rLenK K) from call_len_seq) (by rfl) m_len PySem.boot_len (pa_cons (pe_ix (show IxR _ (fun x y H Q => rIxL K x y H Q ∨ rIxT K x y H Q) from ix_list.or ix_tup) (pv 0) pe_int (fun _ _ => rfl)) pa_nil))) (fun _ _ => rfl)) pa_nil)) pe_int))
      (pss_cons (ps_set (i := 5) nd rfl (Or.inl rfl) (pe_op op_mod (pe_callTy call_int1 (by rfl) m_int (by decide +kernel) (pa_cons (pe_op op_add (pe_op op_add (pe_op op_mul (pv 4) pe_int) (pe_op op_mul (pe_op op_mod (pe_callTy call_int1 (by rfl) m_int (by decide +kernel) (pa_cons (pe_ix (show IxR _ (fun x y H Q => rIxL K x y H Q ∨ rIxT K x y H Q) from ix_list.or ix_tup) (pv 0) pe_int (fun _ _ => rfl)) pa_nil)) pe_int) pe_int)) (pe_op op_mul (pv 3) pe_int)) pa_nil)) pe_int))
      (pss_cons (ps_set (i := 5) nd rfl (Or.inl rfl) (pe_op op_mod (pe_callTy call_int1 (by rfl) m_int (by decide +kernel) (pa_cons (pe_op op_add (pe_op op_add (pe_op op_mul (pv 5) (pv 5)) (pe_op op_mul (pv 3) pe_int)) (pv 4)) pa_nil)) pe_int))
      (pss_one (ps_ret (pe_op op_mod (pe_op op_fdivN (pe_op op_mod (pe_callTy call_int1 (by rfl) m_int (by decide +kernel) (pa_cons (pe_op op_add (pe_op op_mul (pv 5) pe_int) (pe_op op_mul (pv 3) pe_int)) pa_nil)) pe_int) pe_int) (pv 1)))))))))), ?_⟩
  obtain ⟨s, g, ft, A, vs', ds, rfl, ⟨big, flat, tot, trn, hs, hg, hf, hbl, hfl, n1, n2, n3⟩, sub, trk, hd, ⟨n, rfl, c1, c2⟩, z⟩ := h
  cases hd with
  | cons hv ht =>
    cases ht
    cases hv
    -- stock[0] != []
    refine ⟨.ref s, rfl, .inl ⟨s, _, 0, _, rfl, rfl, .of hs, rfl, Nat.zero_le _, fun p np => ⟨.list (big.map .int), .list [], .lst (.of (upd_keep hg np)) (dp_ints big), .lst (.of upd_same) .nil, shaped_ints big, shaped_ints [], _, rfl, ?_⟩⟩⟩
    have hs1 : upd H p (.lst []) s = _ := upd_keep hs np
    have hg1 : upd H p (.lst []) g = _ := upd_keep hg np
    have hf1 : upd H p (.lst []) ft = _ := upd_keep hf np
    have fr1 : Fr (FS s g ft).m H (upd H p (.lst [])) := .new np
    generalize upd H p (.lst []) = H1 at hs1 hg1 hf1 fr1
    rw [eqv_nil_ints]
    by_cases hb : big = []
    · subst hb
      refine iteF ?_
      -- stock[3] = stock[3] + 1
      refine ⟨.ref s, rfl, .inl ⟨s, _, 3, .int trn, rfl, rfl, .of hs1, rfl, trn, 1, rfl, rfl, .ref s, rfl, s, _, 3, 3, rfl, rfl, hs1, rfl, ?_⟩⟩
      have fr2 := fr1.trans (frM (H := H1) (a := s) (o := .lst [.ref g, .ref ft, .int tot, .int (trn + 1)]) (.inl rfl))
      have hs2 : upd H1 s (.lst [.ref g, .ref ft, .int tot, .int (trn + 1)]) s = _ := upd_same
      have hg2 : upd H1 s (.lst [.ref g, .ref ft, .int tot, .int (trn + 1)]) g = _ := (upd_ne n1.symm).trans hg1
      have hf2 : upd H1 s (.lst [.ref g, .ref ft, .int tot, .int (trn + 1)]) ft = _ := (upd_ne n2.symm).trans hf1
      have hl : (0 : Int) < ((flat.map V.int).length : Int) := by
        rw [List.length_map]
        have := List.length_pos_iff.mpr hfl
        omega
      obtain ⟨c, hc⟩ : ∃ c, atI (flat.map V.int) ((trn + 1) % ((flat.map V.int).length : Int)) = some (V.int c) := by
        have b1 := Int.emod_nonneg (trn + 1) (show ((flat.map V.int).length : Int) ≠ 0 by omega)
        have b2 := Int.emod_lt_of_pos (trn + 1) hl
        have hi : ((trn + 1) % ((flat.map V.int).length : Int)).toNat < flat.length := by
          rw [List.length_map] at b1 b2 ⊢
          omega
        refine ⟨flat[((trn + 1) % ((flat.map V.int).length : Int)).toNat], ?_⟩
        have e : (trn + 1) % ((flat.map V.int).length : Int) = ((((trn + 1) % ((flat.map V.int).length : Int)).toNat : Nat) : Int) := by omega
        exact at_of e (by rw [List.getElem?_map, List.getElem?_eq_getElem hi] <;> rfl)
      have M1 : ∀ y : Int, -(2 ^ 64) < y % 4294967291 ∧ y % 4294967291 < 2 ^ 64 := fun y => by omega
      have stk2 : Stk s g ft (upd H1 s (.lst [.ref g, .ref ft, .int tot, .int (trn + 1)])) := ⟨[], flat, tot, trn + 1, hs2, hg2, hf2, Nat.zero_le _, hfl, n1, n2, n3⟩
      show tSeq _ _ _ _ (upd H1 s (.lst [.ref g, .ref ft, .int tot, .int (trn + 1)]))
      generalize upd H1 s (.lst [.ref g, .ref ft, .int tot, .int (trn + 1)]) = H2 at hs2 hg2 hf2 fr2 stk2
      -- turn = stock[3]
      refine ⟨.ref s, rfl, .inl ⟨s, _, 3, _, rfl, rfl, .of hs2, rfl, ?_⟩⟩
      -- cell
      refine ⟨.ref s, rfl, .inl ⟨s, _, 1, _, rfl, rfl, .of hs2, rfl, .int (trn + 1), rfl, .inl ⟨_, rfl, .ref s, rfl, .inl ⟨s, _, 1, _, rfl, rfl, .of hs2, rfl, ft, _, rfl, .inl (.of hf2), _, _, rfl, rfl, hl, ?_⟩⟩⟩⟩
      refine .inl ⟨ft, _, _, _, rfl, rfl, .of hf2, hc, .inl ⟨_, rfl, _, _, rfl, rfl, (by show (0 : Int) < 1000000007; decide), ?_⟩⟩
      -- blend
      refine ⟨_, rfl, _, _, rfl, rfl, .inr ⟨by omega, by omega⟩, .ref s, rfl, .inl ⟨s, _, 2, _, rfl, rfl, .of hs2, rfl, .inl ⟨_, rfl, _, _, rfl, rfl, (by show (0 : Int) < 998244353; decide), _, _, rfl, rfl, .inr ⟨by omega, by omega⟩, _, _, rfl, rfl, _, rfl, _, _, rfl, rfl, .inr ⟨by omega, by omega⟩, _, _, rfl, rfl, ?_⟩⟩⟩
      refine .inl ⟨_, rfl, _, _, rfl, rfl, (by show (0 : Int) < 4294967291; decide), ?_⟩
      refine ⟨_, rfl, _, rfl, _, _, rfl, rfl, .inl (M1 _), _, rfl, _, _, rfl, rfl, .inr ⟨by omega, by omega⟩, _, _, rfl, rfl, _, rfl, _, _, rfl, rfl, ?_⟩
      refine .inl ⟨_, rfl, _, _, rfl, rfl, (by show (0 : Int) < 4294967279; decide), ?_⟩
      refine ⟨_, rfl, _, _, rfl, rfl, .inr ⟨by omega, by omega⟩, _, rfl, _, _, rfl, rfl, .inr ⟨by omega, by omega⟩, _, _, rfl, rfl, ?_⟩
      refine .inl ⟨_, rfl, _, _, rfl, rfl, (by show (0 : Int) < 4294967231; decide), _, _, rfl, rfl, ⟨by decide, by decide⟩, _, rfl, _, _, rfl, rfl, c1, ?_⟩
      exact z _ (.int _) H2 fr2 stk2 (.int _) ⟨_, rfl, Int.emod_nonneg _ (by omega), Int.emod_lt_of_pos _ c1⟩
    · obtain ⟨r, x, rfl⟩ : ∃ r x, big = r ++ [x] := ⟨big.dropLast, big.getLast hb, (List.dropLast_concat_getLast hb).symm⟩
      rw [show (r ++ [x]).isEmpty = false by cases r <;> rfl]
      refine iteT ?_
      have hlast : ((r ++ [x]).map V.int)[((r ++ [x]).map V.int).length - 1]? = some (V.int x) := by
        rw [List.map_append, List.length_append, List.length_map]
        show (r.map V.int ++ [V.int x])[r.length + 1 - 1]? = _
        rw [Nat.add_sub_cancel, List.getElem?_append_right (by rw [List.length_map]; exact Nat.le_refl _), List.length_map, Nat.sub_self] <;> rfl
      have hdl : ((r ++ [x]).map V.int).dropLast = r.map V.int := by
        rw [List.map_append]
        exact List.dropLast_concat
      have hrl : r.length + 1 ≤ 1000 := by
        rw [List.length_append] at hbl
        exact hbl
      -- great = stock[0].pop()
      refine ⟨.ref s, rfl, .inl ⟨s, _, 0, _, rfl, rfl, .of hs1, rfl, .inl ⟨rfl, _, .of hg1⟩, g, _, _, rfl, rfl, hg1, hlast, ?_⟩⟩
      rw [hdl]
      have hs2 : upd H1 g (.lst (r.map V.int)) s = _ := (upd_ne n1).trans hs1
      have hg2 : upd H1 g (.lst (r.map V.int)) g = _ := upd_same
      have hf2 : upd H1 g (.lst (r.map V.int)) ft = _ := (upd_ne n3.symm).trans hf1
      have fr2 := fr1.trans (frM (H := H1) (a := g) (o := .lst (r.map V.int)) (.inr (.inl rfl)))
      show tSeq _ _ _ _ (upd H1 g (.lst (r.map V.int)))
      generalize upd H1 g (.lst (r.map V.int)) = H2 at hs2 hg2 hf2 fr2
      have done : ∀ H3, Dl.Fr (FS s g ft).m H H3 → Stk s g ft H3 → Q (.int (x % n)) H3 := fun H3 f3 st3 => z _ (.int _) H3 f3 st3 (.int _) ⟨_, rfl, Int.emod_nonneg _ (by omega), Int.emod_lt_of_pos _ c1⟩
      -- if great >= size
      refine ⟨_, rfl, _, rfl, _, _, rfl, rfl, _, rfl, ite2 (fun _ => ?_) (fun _ => ?_)⟩
      · refine ⟨.ref s, rfl, .inl ⟨s, _, 0, _, rfl, rfl, .of hs2, rfl, .inl ⟨rfl, _, .of hg2⟩, _, rfl, _, rfl, _, _, rfl, rfl, ⟨by omega, by omega⟩, g, _, _, rfl, rfl, hg2, ?_, ?_⟩⟩
        · rw [List.length_map, sizeLine_eq]
          omega
        · have e : r.map V.int ++ [V.int (x.fdiv n)] = (r ++ [x.fdiv n]).map V.int := by rw [List.map_append] <;> rfl
          rw [e]
          have hs3 : upd H2 g (.lst ((r ++ [x.fdiv n]).map V.int)) s = _ := (upd_ne n1).trans hs2
          have hg3 : upd H2 g (.lst ((r ++ [x.fdiv n]).map V.int)) g = _ := upd_same
          have hf3 : upd H2 g (.lst ((r ++ [x.fdiv n]).map V.int)) ft = _ := (upd_ne n3.symm).trans hf2
          exact ⟨_, rfl, .inl ⟨_, rfl, _, rfl, _, _, rfl, rfl, c1, done _ (fr2.trans (frM (.inr (.inl rfl)))) ⟨r ++ [x.fdiv n], flat, tot, trn, hs3, hg3, hf3, by rw [List.length_append]; exact hrl, hfl, n1, n2, n3⟩⟩⟩
      · exact ⟨_, rfl, .inl ⟨_, rfl, _, rfl, _, _, rfl, rfl, c1, done _ fr2 ⟨r, flat, tot, trn, hs2, hg2, hf2, by omega, hfl, n1, n2, n3⟩⟩⟩
theorem ok__law_stock (F : Fun K "_law_stock" "_law_stock" s__law_stock f fd) (g : Gb mg) : FnOk P w K mg base CX0 1 f fd p__law_stock (spStock K) := by
  obtain ⟨m_isinstance, m_int, m_bool, m_tuple, m_len, m_all, m_enumerate, m_sum, m_range, m_list, m_str, m_repr, c_MAX_CELLS, c_MAX_ROWS, c_MAX_ITEM⟩ := g
  have nd := sc__law_stock.nd
  refine F.ok sc__law_stock (fun vs H Q E ⟨a, ns, e, _⟩ => by rw [e]; rfl) fun cdv A outer sh H vs Q E hr h => ⟨_, (pss_cons (ps_setLc (i := 1) (own := [("cell", 2)]) (g := gName 2) (tt := tYes) rfl nd rfl rfl (sw_true rfl rfl rfl (by decide +kernel)) (pi_list (pe_slice sl_list (pv 0) po_none (po_some pe_int))) (blkOk_by (N := N__law_stock) (sc := defScope s__law_stock) (by decide +kernel)) (fun _ _ _ _ _ => (pg_name (i := 2) nd rfl (Or.inl rfl))) (fun _ _ _ _ _ => pts_nil) (fun _ _ _ _ _ => (pe_ifExp (pt_cmpR op_ge (pv 2) pe_int (nomark _)) (pe_op op_mul pe_int (pv 2)) (pe_op op_sub (pe_op op_mul (pe_un un_neg pe_int) (pv 2)) pe_int))))
      (pss_one (ps_ret (pe_lst (pa_cons (pe_lc (own := [("cell", 2)]) (g := gName 2) rfl nd (pi_list (pv 1)) (blkOk_by (N := N__law_stock) (sc := defScope s__law_stock) (by decide +kernel)) (fun _ _ _ _ _ => (pg_name (i := 2) nd rfl (Or.inl rfl))) (fun _ _ _ _ _ => (pts_one (pt_cmpR op_ge (pv 2) (pe_op op_pow pe_int pe_int) (nomark _)))) (fun _ _ _ _ _ => (pv 2))) (pa_cons (pe_op op_cat (pv 1) (pe_lst (pa_cons (pe_op op_add (pe_callB (show CallR _ _ (rLenK K) from call_len_seq) (by rfl) m_len PySem.boot_len (pa_cons (pv 1) pa_nil)) pe_int) pa_nil))) (pa_cons (pe_callB (show CallR _ _ (rSum K) from cr_sum rfl) (by rfl) m_sum (by decide +kernel) (pa_cons (pv 1) pa_nil)) (pa_cons pe_int pa_nil)))))))), ?_⟩
  obtain ⟨a, ns, rfl, hS, hl, z⟩ := h
  -- script[:63]
  refine ⟨.ref a, rfl, 63, rfl, a, ns.map V.int, rfl, hS, fun p np => ⟨p, rfl, ⟨_, .of upd_same⟩, fun D nD => ?_⟩⟩
  have ecut : cutV (ns.map V.int) none (some 63) = (ns.take 63).map V.int := by
    unfold cutV
    rw [HT.sIx_none, show HT.sIx (ns.map V.int).length (ns.map V.int).length (some 63) = min 63 (ns.map V.int).length from HT.sIx_nat _ _ 63, List.drop_zero, Nat.sub_zero, List.map_take]
    rw [List.take_eq_take_iff]
    omega
  rw [ecut] at nD
  show ∃ W, _
  rw [ecut]
  have sm1 : Same H (upd H p (.lst ((ns.take 63).map V.int))) := fun b o e => upd_keep e np
  have hp1 : upd H p (.lst ((ns.take 63).map V.int)) p = _ := upd_same
  generalize upd H p (.lst ((ns.take 63).map V.int)) = H1 at nD sm1 hp1
  have hml : (ns.take 63).length ≤ 63 := List.length_take_le ..
  generalize ns.take 63 = ms at hp1 hml
  refine lc_list (K := K) (a := p) (xs := ms.map V.int) (fun i H2 => H2 D = some (.lst (((ms.take i).map flat1).map V.int)) ∧ Same H1 H2) ⟨upd_same, fun b o e => upd_keep e nD⟩ (fun i H2 _ ⟨_, s2⟩ => .of (s2 _ _ hp1)) (fun i x H2 hx ⟨hD, s2⟩ => ?_) fun H2 ⟨hD, s2⟩ => ?_
  · rw [List.getElem?_map] at hx
    cases hm : ms[i]? with
    | none => rw [hm] at hx; cases hx
    | some y =>
      rw [hm] at hx
      cases hx
      have hi := (List.getElem?_eq_some_iff.mp hm).1
      have hlen : ((List.map flat1 (List.take i ms)).map V.int).length < sizeLine := by
        rw [List.length_map, List.length_map, List.length_take, sizeLine_eq]
        omega
      have fin : ∀ v, v = flat1 y → upd H2 D (.lst (((ms.take i).map flat1).map V.int ++ [V.int v])) D = some (.lst (((ms.take (i + 1)).map flat1).map V.int)) ∧ Same H1 (upd H2 D (.lst (((ms.take i).map flat1).map V.int ++ [V.int v]))) := fun v ev => by
        refine ⟨?_, fun b o e => by rw [upd_ne (ne_of_none e nD)]; exact s2 b o e⟩
        rw [upd_same, List.take_add_one, hm, ev, List.map_append, List.map_append] <;> rfl
      refine ⟨rfl, ?_⟩
      refine iteT (B := H2 D = some (.lst (((ms.take (i + 1)).map flat1).map V.int)) ∧ Same H1 H2) ⟨_, rfl, _, _, rfl, rfl, _, rfl, ite2 (fun h0 => ?_) (fun h0 => ?_)⟩
      · refine ⟨_, rfl, _, _, rfl, rfl, .inl ⟨by omega, by omega⟩, _, hD, hlen, fin _ ?_⟩
        unfold flat1
        rw [if_pos (of_decide_eq_true h0)]
      · refine ⟨_, rfl, _, rfl, _, _, rfl, rfl, .inl ⟨by omega, by omega⟩, _, _, rfl, rfl, _, hD, hlen, fin _ ?_⟩
        unfold flat1
        rw [if_neg (fun z => h0 (decide_eq_true z))]
  · rw [List.length_map, List.take_length] at hD
    have hll : (ms.map flat1).length ≤ 63 := by rw [List.length_map]; exact hml
    generalize ms.map flat1 = l at hD hll
    have st : S F0 H2 [] [.no, .d (.list (l.map .int)), .no] ((L2.start N__law_stock [.ref a]).set 1 (some (.ref D))) H2 := by
      refine ⟨.refl _, trivial, fun _ z => (nomatch z), fun _ z => (nomatch z), trivial, rfl, fun i x e => ?_, fun i j t es fs h1 h2 => ?_⟩
      · match i, e with
        | 0, e => cases e; exact ⟨_, rfl, trivial⟩
        | 1, e => cases e; exact ⟨_, rfl, _, rfl, .lst hD (fun z => nomatch z) (.ints l)⟩
        | 2, e => cases e; exact ⟨_, rfl, trivial⟩
      · match i, h1 with
        | 0, h1 => cases h1
        | 1, h1 => cases h1
        | 2, h1 => cases h1
    dsimp only
    refine use_ret2 (fun d => d = .list [.list ((bigs l).map .int), .list ((l ++ [((l.length : Nat) : Int) + 751]).map .int), .int l.sum, .int 0]) ?_ st fun v d H3 s3 f3 h3 ed => ?_
    · refine ev_lst (eva_cons (EvN.ev (evn_filt (tg_name 2) (by simp) (fun d => match d with | .int x => decide (10 ^ 15 ≤ x) | _ => false) id (evi_list (ev_var rfl ⟨_, rfl, by rw [List.length_map]; omega, fun d hd p np => ?_, ?_⟩)))))
      · obtain ⟨x, _, rfl⟩ := List.mem_map.mp hd
        exact ⟨_, rfl, evt_val (ev_ib (ev_var rfl (ev_iic (ev_int (ev_int ⟨10, 15, rfl, rfl, ⟨by decide, by decide, by decide⟩, x, _, rfl, rfl, _, rfl, rfl, fun _ => ev_var rfl rfl⟩)))))⟩
      · rw [List.map_id]
        refine eva_cons (EvN.ev (evn_cat (ev_var rfl (ev_lst (eva_one (ev_ii (ev_len (eva_one (ev_var rfl ⟨_, l.map .int, rfl, rfl, ev_int ⟨_, _, rfl, rfl, by simp, _, _, rfl, rfl, ?_, ?_⟩⟩)))))))))
        · rw [List.length_map]
          simp
          omega
        · refine eva_cons (ev_sum (eva_one (ev_var rfl ⟨l, rfl, eva_one (ev_int ⟨by simp, ?_⟩)⟩)))
          rw [List.length_map]
          have e1 : List.filter (fun d => match d with | .int x => decide ((10 : Int) ^ 15 ≤ x) | _ => false) (l.map PyData.int) = (bigs l).map .int := by
            unfold bigs
            rw [List.filter_map] <;> rfl
          rw [e1, List.map_append] <;> rfl
    · subst ed
      cases h3 with
      | lst hs nn tt =>
        obtain ⟨g', f', stk⟩ := stk_of hs (by omega) (by omega) tt
        exact z _ g' f' H3 (fun b o e => f3.keep b o (s2 b o (sm1 b o e)) (fun z => nomatch z)) stk
end
end K01

/-! the law k01: what the law says is due; what it draws -/
namespace K01
open PySem PySem.Spec PyProof.Rows L2 Dl
section
variable {P : Program} {w : World} {K : PySem.W.Frag} {mg : Str → Option Value} {base : Heap} {f : Addr} {fd : FuncData} {k : Nat}
theorem ok__law_is_whole (F : Fun K "_law_is_whole" "_law_is_whole" s__law_is_whole f fd) (g : Gb mg) : FnOk P w K mg base CX0 1 f fd p__law_is_whole (PF C_within R_within) := by
  obtain ⟨m_isinstance, m_int, m_bool, m_tuple, m_len, m_all, m_enumerate, m_sum, m_range, m_list, m_str, m_repr, c_MAX_CELLS, c_MAX_ROWS, c_MAX_ITEM⟩ := g
  have nd := sc__law_is_whole.nd
  refine F.ok sc__law_is_whole (pf_len fun ds ⟨d, lo, hi, e⟩ => by rw [e]; rfl) fun cdv A outer s H vs Q E hr h => ⟨_, (pss_one (ps_ret (pe_and (pe_callB (show CallR _ _ (rIsi K) from call_isi) (by rfl) m_isinstance (by decide +kernel) (pa_cons (pv 0) (pa_cons (pe_ty (n := "int") (by rfl) m_int (by decide +kernel)) pa_nil))) (pe_and (pe_not (pe_callB (show CallR _ _ (rIsi K) from call_isi) (by rfl) m_isinstance (by decide +kernel) (pa_cons (pv 0) (pa_cons (pe_ty (n := "bool") (by rfl) m_bool (by decide +kernel)) pa_nil)))) (pe_one (pe_chain op_le op_le (pv 1) (pv 0) (pv 2))))))), enterF h fun A ds ⟨d, lo, hi, e⟩ => ?_⟩
  subst e
  refine sq_ret (ev_andV (ev_isi (ev_var rfl ⟨_, kit_int d, _, rfl, fun e1 => ev_andV (ev_notV (ev_isi (ev_var rfl ⟨_, kit_bool d, _, rfl, _, rfl, fun e2 => ?_, fun e2 => ?_⟩))), fun e1 => ?_⟩)))
  · obtain ⟨i, rfl⟩ : ∃ i, d = .int i := by
      cases d with
      | int i => exact ⟨i, rfl⟩
      | bool b => cases e2
      | _ => cases e1
    refine ev_between (ev_var rfl (ev_var rfl ⟨lo, i, rfl, rfl, fun l1 => ev_var rfl ⟨hi, rfl, ?_⟩, fun l1 => ?_⟩))
    · show PyData.bool _ = .bool (decide (lo ≤ i) && decide (i ≤ hi))
      rw [decide_eq_true l1, Bool.true_and]
    · show PyData.bool _ = .bool (decide (lo ≤ i) && decide (i ≤ hi))
      rw [decide_eq_false l1, Bool.false_and]
  · show PyData.bool false = .bool (isWh lo hi d)
    cases d <;> first | rfl | cases e2
  · show PyData.bool false = .bool (isWh lo hi d)
    cases d <;> first | rfl | cases e1
theorem form2 {m b : PyData} (h : isWh 1 8 m = false) : errD (.tuple [m, b]) = .str "form" := err_form (by
  cases b <;> first | rfl | (show (isWh 1 8 m && _) = false; rw [h, Bool.false_and]))
theorem ok__law_due (F : Fun K "_law_due" "_law_due" s__law_due f fd) (g : Gb mg) (h__law_is_whole : Has P w K mg base 1 "_law_is_whole" p__law_is_whole (PF C_within R_within)) :
    FnOk P w K mg base CX0 2 f fd p__law_due (PF (fun ds => ∃ d, ds = [d]) R_err) := by
  obtain ⟨m_isinstance, m_int, m_bool, m_tuple, m_len, m_all, m_enumerate, m_sum, m_range, m_list, m_str, m_repr, c_MAX_CELLS, c_MAX_ROWS, c_MAX_ITEM⟩ := g
  have nd := sc__law_due.nd
  refine F.ok sc__law_due (pf_len fun ds ⟨d, e⟩ => by rw [e]; rfl) fun cdv A outer s H vs Q E hr h => ⟨_, (pss_cons (ps_if (PW.pt (pw_or (pt_not (pt_val (pe_callB (show CallR _ _ (rIsi K) from call_isi) (by rfl) m_isinstance (by decide +kernel) (pa_cons (pv 0) (pa_cons (pe_ty (n := "tuple") (by rfl) m_tuple (by decide +kernel)) pa_nil))))) (pw_or (pt_cmpR op_ne (pe_callB (show CallR _ _ (rLenK K) from call_len_seq) (by rfl) m_len PySem.boot_len (pa_cons (pv 0) pa_nil)) pe_int (nomark _)) (pw_or1 (pt_not (pt_val (pe_h h__law_is_whole hr (by rfl) (pa_cons (pe_ix (show IxR _ (fun x y H Q => rIxL K x y H Q ∨ rIxT K x y H Q) from ix_list.or ix_tup) (pv 0) pe_int (fun _ _ => rfl)) (pa_cons pe_int (pa_cons pe_int pa_nil))))))))))
        (pss_one (ps_ret pe_str))
        pss_nil)
      (pss_cons (ps_asg (pv 0) (pg_tup rfl (pgs_cons (pg_name (i := 1) nd rfl (Or.inl rfl)) (pgs_cons (pg_name (i := 2) nd rfl (Or.inl rfl)) pgs_nil))))
      (pss_cons (ps_if (PW.pt (pw_or (pt_not (pt_val (pe_callB (show CallR _ _ (rIsi K) from call_isi) (by rfl) m_isinstance (by decide +kernel) (pa_cons (pv 2) (pa_cons (pe_ty (n := "tuple") (by rfl) m_tuple (by decide +kernel)) pa_nil))))) (pw_or1 (pt_cmpR op_gt (pe_callB (show CallR _ _ (rLenK K) from call_len_seq) (by rfl) m_len PySem.boot_len (pa_cons (pv 2) pa_nil)) pe_int (nomark _)))))
        (pss_one (ps_ret pe_str))
        pss_nil)
      (pss_cons (ps_for PassesOwn.never rfl (pi_enumT (by rfl) m_enumerate (pa_cons (pv 2) pa_nil)) (pg_tup rfl (pgs_cons (pg_name (i := 3) nd rfl (Or.inl rfl)) (pgs_cons (pg_name (i := 4) nd rfl (Or.inl rfl)) pgs_nil)))
        (pss_cons (ps_if (PW.pt (pw_or (pt_not (pt_val (pe_callB (show CallR _ _ (rIsi K) from call_isi) (by rfl) m_isinstance (by decide +kernel) (pa_cons (pv 4) (pa_cons (pe_ty (n := "tuple") (by rfl) m_tuple (by decide +kernel)) pa_nil))))) (pw_or1 (pt_cmpR op_ne (pe_callB (show CallR _ _ (rLenK K) from call_len_seq) (by rfl) m_len PySem.boot_len (pa_cons (pv 4) pa_nil)) (pv 1) (nomark _)))))
          (pss_one (ps_ret (pe_tup (pa_cons pe_str (pa_cons (pv 3) pa_nil)))))
          pss_nil)
        (pss_one (ps_if (pt_cmpR (show OpR _ _ (rNeD K) from op_neD hr.units) (pe_lc (own := [("item", 5)]) (g := gName 5) rfl nd (pi_tup (pv 4)) (blkOk_by (N := N__law_due) (sc := defScope s__law_due) (by decide +kernel)) (fun _ _ _ _ _ => (pg_name (i := 5) nd rfl (Or.inl rfl))) (fun _ _ _ _ _ => (pts_one (pt_not (pt_val (pe_h h__law_is_whole hr (by rfl) (pa_cons (pv 5) (pa_cons (pe_un un_neg pe_int) (pa_cons pe_int pa_nil)))))))) (fun _ _ _ _ _ => pe_int)) (pe_lst pa_nil) (nomark _))
          (pss_one (ps_ret (pe_tup (pa_cons pe_str (pa_cons (pv 3) pa_nil)))))
          pss_nil))))
      (pss_one (ps_ret pe_non)))))), enterF h fun A ds ⟨d, e⟩ => ?_⟩
  subst e
  refine sq_seq (sq_if (evt_or (evt_not (evt_val (ev_isi (ev_var rfl ⟨_, kit_tuple d, _, rfl, fun e1 => ⟨fun _ => ?_, fun z => nomatch z⟩, fun e1 => ?_⟩))))))
  · refine sq_ret (ev_str ?_)
    show PyData.str "form" = errD d
    cases d <;> first | rfl | cases e1
  obtain ⟨xs, rfl⟩ : ∃ xs, d = .tuple xs := isTup_inv (by simpa using e1)
  have e0 : ∀ {b : Bool}, b = false → ∀ {Y : Prop}, b = true → Y := fun e Y z => by rw [e] at z; cases z
  refine evt_or (evt_val (ev_ne (ev_len (eva_one (ev_var rfl ⟨_, xs, rfl, rfl, ev_int ⟨_, rfl, _, rfl, fun e2 => ⟨fun _ => ?_, fun z => nomatch z⟩, fun e2 => ?_⟩⟩)))))
  · refine sq_ret (ev_str ?_)
    show PyData.str "form" = errD (.tuple xs)
    rw [err_form]
    unfold bookForm
    split
    · rename_i q
      cases q
      cases e2
    · rfl
  obtain ⟨a, b, e3⟩ := tupN2 (d := .tuple xs) (by simpa [tupN] using e2)
  cases e3
  refine evt_not (evt_val (ev_callF (eva_cons (ev_ix (ev_var rfl (ev_int ⟨[a, b], 0, a, rfl, rfl, rfl, eva_cons (ev_int (eva_one (ev_int ⟨⟨a, 1, 8, rfl⟩, fun r hr => ⟨_, hr, fun e2 => ?_, fun e2 => ?_⟩⟩)))⟩))))))
  · refine sq_ret (ev_str ?_)
    show PyData.str "form" = errD _
    rw [form2 (by simpa using e2)]
  obtain ⟨m, rfl, m1, m2⟩ := isWh_int (d := a) (by simpa using e2)
  refine sq_next (sq_seq (sq_asg (tg_two 1 2) (ev_var rfl ⟨_, rfl, ?_⟩)))
  refine sq_seq (sq_if (evt_or (evt_not (evt_val (ev_isi (ev_var rfl ⟨_, kit_tuple b, _, rfl, fun e1 => ⟨fun _ => ?_, fun z => nomatch z⟩, fun e1 => ?_⟩))))))
  · refine sq_ret (ev_str ?_)
    show PyData.str "form" = errD _
    rw [err_form]
    cases b <;> first | rfl | cases e1
  obtain ⟨rows, rfl⟩ : ∃ xs, b = .tuple xs := isTup_inv (by simpa using e1)
  refine evt_val (ev_ib (ev_len (eva_one (ev_var rfl ⟨_, rows, rfl, rfl, ev_int ⟨_, _, rfl, rfl, _, rfl, fun e2 => ?_, fun e2 => ?_⟩⟩))))
  · refine sq_ret (ev_str ?_)
    show PyData.str "form" = errD _
    rw [err_form]
    show (isWh 1 8 _ && decide (rows.length ≤ 8)) = false
    rw [decide_eq_false (p := rows.length ≤ 8) (by have := of_decide_eq_true e2; omega), Bool.and_false]
  have hl : rows.length ≤ 8 := by have := of_decide_eq_false e2; omega
  have e1' : bookForm (.tuple [.int m, .tuple rows]) = true := by
    show ((decide (1 ≤ m) && decide (m ≤ 8)) && decide (rows.length ≤ 8)) = true
    rw [decide_eq_true m1, decide_eq_true m2, decide_eq_true hl] <;> rfl
  have eD : errD (.tuple [.int m, .tuple rows]) = rowsErr m rows := if_pos e1'
  refine sq_next (sq_seq (sq_for (tg_two 3 4) (evi_enumT (eva_one (ev_var rfl ⟨rows, rfl, fun i Δ' => Δ' = [.d (.tuple [.int m, .tuple rows]), .d (.int m), .d (.tuple rows), .no, .no, .no] ∧ ∀ (j : Nat) e, j < i → rows[j]? = some e → rowOk m e = true, ⟨rfl, fun j e hj => absurd hj (Nat.not_lt_zero j)⟩, fun i e Δ' he ⟨hΔ, hb⟩ hm => ?_, fun Δ' ⟨hΔ, hb⟩ => ?_⟩)))))
  · obtain ⟨d, hd, rfl⟩ := enum_inv he
    subst hΔ
    have bad : ∀ {A : List Addr} {y : Sl} {q : PyData → Prop}, rowOk m d = false → (q = fun r => r = errD (.tuple [.int m, .tuple rows])) → Ev F0 A [.d (.tuple [.int m, .tuple rows]), .d (.int m), .d (.tuple rows), .d (.int (i : Nat)), .d d, y] (tTup (tCons (tC (.str "row")) (tCons (tVar 3) tNil))) q := fun hbad eq => by
      subst eq
      refine ev_tup (eva_cons (ev_str (eva_one (ev_var rfl ⟨by simp, ?_⟩))))
      show PyData.tuple [.str "row", .int (i : Nat)] = errD _
      rw [eD, rows_bad hd hbad hb]
    refine ⟨_, rfl, sq_seq (sq_if (evt_or (evt_not (evt_val (ev_isi (ev_var rfl ⟨_, kit_tuple d, _, rfl, fun e1 => ⟨fun _ => ?_, fun z => nomatch z⟩, fun e1 => ?_⟩))))))⟩
    · exact sq_ret (bad (rowOk_no (by cases d <;> first | rfl | cases e1)) rfl)
    obtain ⟨xs, rfl⟩ : ∃ xs, d = .tuple xs := isTup_inv (by simpa using e1)
    refine evt_val (ev_ne (ev_len (eva_one (ev_var rfl ⟨_, xs, rfl, rfl, ev_var rfl ⟨_, rfl, _, rfl, fun e2 => ?_, fun e2 => ?_⟩⟩))))
    · exact sq_ret (bad (rowOk_no (by simpa [tupN] using e2)) rfl)
    have hn : ((xs.length : Nat) : Int) = m := by simpa using e2
    refine sq_next (sq_if (evt_val (ev_neD (EvN.ev (evn_filt (tg_name 5) (by simp) (fun d => !isWh (-99) 99 d) (fun _ => .int 1) (evi_tup (ev_var rfl ⟨xs, rfl, by omega, fun d hd p np => ⟨_, rfl, ?_⟩, ?_⟩)))))))
    · exact evt_not (evt_val (ev_callF (eva_cons (ev_var rfl (eva_cons (ev_neg (ev_int ⟨_, rfl, eva_one (ev_int ⟨⟨d, -99, 99, rfl⟩, fun r hr => ⟨_, hr, rfl, fun _ => ev_int rfl⟩⟩)⟩)))))))
    · have ef : (xs.filter fun d => !isWh (-99) 99 d).map (fun _ => PyData.int 1) = ((xs.filter fun d => !isWh (-99) 99 d).map (fun _ => (1 : Int))).map .int := by rw [List.map_map] <;> rfl
      rw [ef]
      refine ev_lst (eva_nil ⟨by simp, shaped_ints _, shaped_ints [], _, rfl, ?_⟩)
      have es : rowOk m (.tuple xs) = xs.all (isWh (-99) 99) := by
        show (decide (((xs.length : Nat) : Int) = m) && _) = _
        rw [decide_eq_true hn, Bool.true_and]
      rw [eqv_nil_ints]
      have ee : (List.map (fun _ => (1 : Int)) (List.filter (fun d => !isWh (-99) 99 d) xs)).isEmpty = rowOk m (.tuple xs) := by
        rw [es, Bool.eq_iff_iff, List.isEmpty_iff, List.map_eq_nil_iff, List.filter_eq_nil_iff, List.all_eq_true]
        constructor
        · intro h x hx
          simpa using h x hx
        · intro h x hx
          simpa using h x hx
      rw [ee]
      refine ⟨fun e3 => sq_ret (bad (by simpa using e3) rfl), fun e3 => ?_⟩
      refine sq_next (back0 (A' := A) (Δ0 := [.d (.tuple [.int m, .tuple rows]), .d (.int m), .d (.tuple rows), .no, .no, .no]) (.set (.set (.refl _) (.inl rfl)) (.inl rfl)) (no_m rfl) ⟨rfl, fun j e hj hje => ?_⟩)
      by_cases hji : j = i
      · subst hji
        rw [hd] at hje
        cases hje
        simpa using e3
      · exact hb j e (by omega) hje
  · subst hΔ
    refine sq_ret (ev_non ?_)
    show PyData.none = errD _
    rw [eD, rows_good (by rw [enum_len] at hb; exact hb)]
theorem ok__law_pick (F : Fun K "_law_pick" "_law_pick" s__law_pick f fd) (g : Gb mg) (h__law_draw : Has P w K mg base 1 "_law_draw" p__law_draw (PS C_draw R_draw)) : FnOk P w K mg base CX0 2 f fd p__law_pick (PS C_pick R_pick) := by
  obtain ⟨m_isinstance, m_int, m_bool, m_tuple, m_len, m_all, m_enumerate, m_sum, m_range, m_list, m_str, m_repr, c_MAX_CELLS, c_MAX_ROWS, c_MAX_ITEM⟩ := g
  have nd := sc__law_pick.nd
  refine F.ok sc__law_pick (ps_len fun ds ⟨d, es, e, _⟩ => by rw [e]; rfl) fun cdv A outer sh H vs Q E hr h => ⟨_, (pss_one (ps_ret (pe_ix (show IxR _ (fun x y H Q => rIxL K x y H Q ∨ rIxT K x y H Q) from ix_list.or ix_tup) (pv 1) (pe_h h__law_draw hr (by rfl) (pa_cons (pv 0) (pa_cons (pe_callB (show CallR _ _ (rLenK K) from call_len_seq) (by rfl) m_len PySem.boot_len (pa_cons (pv 1) pa_nil)) pa_nil))) (fun _ _ => rfl)))), enterS h fun s g f A ds ⟨d, es, e, hs, hne, hl⟩ => ?_⟩
  subst e
  have hpos : 0 < es.length := List.length_pos_iff.mpr hne
  refine sq_ret (ev_ix (ev_var rfl (ev_callS rfl (eva_one (ev_len (eva_one (ev_var rfl ⟨d, es, rfl, hs, ⟨_, rfl, by omega, by omega⟩, fun r hr => ?_⟩)))))))
  obtain ⟨i, rfl, i1, i2⟩ := hr
  have e : i = ((i.toNat : Nat) : Int) := by omega
  have hi : i.toNat < es.length := by omega
  refine ⟨es, i, es[i.toNat], hs, rfl, ?_, es, hs, List.getElem_mem hi⟩
  have q := atD_nat (List.getElem?_eq_getElem hi)
  rw [← e] at q
  exact q
/-! ### rows, books -/
abbrev C_drow (ds : List PyData) : Prop := ∃ m : Int, ds = [.int m] ∧ 1 ≤ m ∧ m ≤ 8
def R_drow : List PyData → PyData → Prop
  | [.int m], r => rowOk m r = true
  | _, _ => False
theorem rowOk_of {m : Int} {xs : List PyData} (hl : ((xs.length : Nat) : Int) = m) (h : ∀ x ∈ xs, isWh (-99) 99 x = true) : rowOk m (.tuple xs) = true := by
  show (decide (((xs.length : Nat) : Int) = m) && xs.all (isWh (-99) 99)) = true
  rw [decide_eq_true hl, Bool.true_and, List.all_eq_true]
  exact h
theorem rowOk_inv {m : Int} {d : PyData} (h : rowOk m d = true) : ∃ xs, d = .tuple xs ∧ ((xs.length : Nat) : Int) = m ∧ ∀ x ∈ xs, isWh (-99) 99 x = true := by
  cases d with
  | tuple xs =>
    have h' : (decide (((xs.length : Nat) : Int) = m) && xs.all (isWh (-99) 99)) = true := h
    rw [Bool.and_eq_true, decide_eq_true_eq, List.all_eq_true] at h'
    exact ⟨xs, rfl, h'.1, h'.2⟩
  | _ => cases h
theorem isWh_of {lo hi i : Int} (h1 : lo ≤ i) (h2 : i ≤ hi) : isWh lo hi (.int i) = true := by
  show (decide (lo ≤ i) && decide (i ≤ hi)) = true
  rw [decide_eq_true h1, decide_eq_true h2] <;> rfl
theorem rep_flat {x : PyData} : ∀ n : Nat, (List.replicate n [x]).flatten = List.replicate n x
  | 0 => rfl
  | n + 1 => by
    rw [List.replicate_succ, List.flatten_cons, rep_flat n] <;> rfl
theorem ok__law_row (F : Fun K "_law_row" "_law_row" s__law_row f fd) (g : Gb mg) (h__law_draw : Has P w K mg base 1 "_law_draw" p__law_draw (PS C_draw R_draw)) (h__law_pick : Has P w K mg base 2 "_law_pick" p__law_pick (PS C_pick R_pick)) : FnOk P w K mg base CX0 3 f fd p__law_row (PS C_drow R_drow) := by
  obtain ⟨m_isinstance, m_int, m_bool, m_tuple, m_len, m_all, m_enumerate, m_sum, m_range, m_list, m_str, m_repr, c_MAX_CELLS, c_MAX_ROWS, c_MAX_ITEM⟩ := g
  have nd := sc__law_row.nd
  refine F.ok sc__law_row (ps_len fun ds ⟨d, e, _⟩ => by rw [e]; rfl) fun cdv A outer sh H vs Q E hr h => ⟨_, (pss_cons (ps_set (i := 2) nd rfl (Or.inl rfl) (pe_h h__law_draw (hr.mono (by decide)) (by rfl) (pa_cons (pv 0) (pa_cons pe_int pa_nil))))
      (pss_cons (ps_if (pt_cmpR op_eq (pv 2) pe_int (nomark _))
        (pss_one (ps_ret (pe_op op_repA (pe_tup (pa_cons pe_int pa_nil)) (pv 1))))
        pss_nil)
      (pss_cons (ps_if (pt_cmpR op_eq (pv 2) pe_int (nomark _))
        (pss_cons (ps_set (i := 3) nd rfl (Or.inr rfl) (pe_h h__law_draw (hr.mono (by decide)) (by rfl) (pa_cons (pv 0) (pa_cons (pv 1) pa_nil))))
        (pss_one (ps_ret (pe_callTy call_tuple_of (by rfl) m_tuple (by decide +kernel) (pa_cons (pe_lc (own := [("cell", 5)]) (g := gName 5) (tt := tYes) rfl nd (pi_range1 (by rfl) m_range (pa_cons (pv 1) pa_nil)) (blkOk_by (N := N__law_row) (sc := defScope s__law_row) (by decide +kernel)) (fun _ _ _ _ _ => (pg_name (i := 5) nd rfl (Or.inl rfl))) (fun _ _ _ _ _ => pts_nil) (fun _ _ _ _ _ => (pe_ifExp (pt_cmpR op_eq (pv 5) (pv 3) (nomark _)) (pe_h h__law_pick hr (by rfl) (pa_cons (pv 0) (pa_cons (pe_lst (pa_cons (pe_un un_neg pe_int) (pa_cons pe_int (pa_cons pe_int (pa_cons (pe_un un_neg pe_int) pa_nil))))) pa_nil))) pe_int))) pa_nil)))))
        pss_nil)
      (pss_cons (ps_set (i := 4) nd rfl (Or.inr rfl) (pe_h h__law_pick hr (by rfl) (pa_cons (pv 0) (pa_cons (pe_lst (pa_cons pe_int (pa_cons pe_int (pa_cons pe_int (pa_cons pe_int pa_nil))))) pa_nil))))
      (pss_one (ps_ret (pe_callTy call_tuple_of (by rfl) m_tuple (by decide +kernel) (pa_cons (pe_lc (own := [("cell", 5)]) (g := gName 5) (tt := tYes) rfl nd (pi_range1 (by rfl) m_range (pa_cons (pv 1) pa_nil)) (blkOk_by (N := N__law_row) (sc := defScope s__law_row) (by decide +kernel)) (fun _ _ _ _ _ => (pg_name (i := 5) nd rfl (Or.inl rfl))) (fun _ _ _ _ _ => pts_nil) (fun _ _ _ _ _ => (pe_op op_sub (pe_h h__law_draw (hr.mono (by decide)) (by rfl) (pa_cons (pv 0) (pa_cons (pe_op op_add (pe_op op_mul pe_int (pv 4)) pe_int) pa_nil))) (pv 4)))) pa_nil)))))))), enterS h fun s g f A ds ⟨m, e, m1, m2⟩ => ?_⟩
  subst e
  have rl : (rngD m).length = m.toNat := by
    unfold rngD
    rw [List.length_map, List.length_range]
  refine sq_seq (sq_set (ev_callS rfl (eva_one (ev_int ⟨⟨6, rfl, by decide, by decide⟩, fun r hr => ?_⟩))))
  obtain ⟨way, rfl, w1, w2⟩ := hr
  refine sq_seq (sq_if (evt_val (ev_eq (ev_var rfl (ev_int ⟨_, rfl, _, rfl, fun _ => ?_, fun _ => ?_⟩)))))
  · refine sq_ret (ev_repT (ev_tup (eva_one (ev_int ⟨by simp, ev_var rfl ⟨[.int 0], m, rfl, rfl, by simp, m1, by omega, by simp, ?_⟩⟩))))
    show rowOk m _ = true
    rw [rep_flat]
    refine rowOk_of (by rw [List.length_replicate]; omega) fun x hx => ?_
    rw [List.eq_of_mem_replicate hx]
    rfl
  refine sq_next (sq_seq (sq_if (evt_val (ev_eq (ev_var rfl (ev_int ⟨_, rfl, _, rfl, fun _ => ?_, fun _ => ?_⟩))))))
  · refine sq_seq (sq_set (ev_callS rfl (eva_one (ev_var rfl ⟨⟨m, rfl, by omega, by omega⟩, fun r hr => ?_⟩))))
    obtain ⟨place, rfl, p1, p2⟩ := hr
    refine sq_ret (ev_tupleOf (eva_one (EvN.ev (evn_each (tg_name 5) (by simp) (fun d => isWh (-99) 99 d = true) (evi_rng1 (eva_one (ev_var rfl ⟨m, rfl, by omega, by omega, by rw [rl]; omega, fun d hd p np => ?_, fun ys hy hP => ⟨_, ys, rfl, rfl, rowOk_of (by rw [hy, rl]; omega) hP⟩⟩)))))))
    obtain ⟨c, _, rfl⟩ := List.mem_map.mp hd
    refine ⟨_, rfl, ev_if (evt_val (ev_eq (ev_var rfl (ev_var rfl ⟨_, rfl, _, rfl, fun _ => ?_, fun _ => ?_⟩))))⟩
    · refine ev_callS rfl <| eva_one <| ev_lst <| eva_cons <| ev_neg <| ev_int ⟨99, rfl, eva_cons <| ev_int <| eva_cons <| ev_int <| eva_one <| ev_neg <| ev_int ⟨5, rfl, by simp, ⟨_, _, rfl, rfl, by simp, by simp⟩, fun r hr => ?_⟩⟩
      obtain ⟨es, ee, hr⟩ := hr
      cases ee
      simp only [List.mem_cons, List.not_mem_nil, or_false] at hr
      rcases hr with rfl | rfl | rfl | rfl <;> rfl
    · exact ev_int rfl
  refine sq_next <| sq_seq <| sq_set <| ev_callS rfl <| eva_one <| ev_lst <| eva_cons <| ev_int <| eva_cons <| ev_int <| eva_cons <| ev_int <| eva_one <| ev_int ⟨by simp, ⟨_, _, rfl, rfl, by simp, by simp⟩, fun r hr => ?_⟩
  obtain ⟨most, rfl, o1, o2⟩ : ∃ most : Int, r = .int most ∧ 1 ≤ most ∧ most ≤ 99 := by
    obtain ⟨es, ee, hr⟩ := hr
    cases ee
    simp only [List.mem_cons, List.not_mem_nil, or_false] at hr
    rcases hr with rfl | rfl | rfl | rfl <;> exact ⟨_, rfl, by decide, by decide⟩
  refine sq_ret (ev_tupleOf (eva_one (EvN.ev (evn_each (tg_name 5) (by simp) (fun d => isWh (-99) 99 d = true) (evi_rng1 (eva_one (ev_var rfl ⟨m, rfl, by omega, by omega, by rw [rl]; omega, fun d hd p np => ?_, fun ys hy hP => ⟨_, ys, rfl, rfl, rowOk_of (by rw [hy, rl]; omega) hP⟩⟩)))))))
  obtain ⟨c, _, rfl⟩ := List.mem_map.mp hd
  refine ⟨_, rfl, ev_ii (ev_callS rfl (eva_one (ev_ii (ev_iic (ev_int (ev_var rfl ⟨2, most, rfl, rfl, ?_, ev_int ⟨_, _, rfl, rfl, ⟨_, rfl, by omega, by omega⟩, fun r hr => ?_⟩⟩))))))⟩
  · exact .inl ⟨by omega, by omega⟩
  · obtain ⟨y, rfl, y1, y2⟩ := hr
    refine ev_var rfl ⟨_, _, rfl, rfl, isWh_of (by omega) (by omega)⟩
end
end K01

/-! the law k01: books that are drawn, odd rows -/
namespace K01
open PySem PySem.Spec PyProof.Rows L2 Dl
theorem cutD_mem {es : List PyData} {lo hi : Option Int} {x : PyData} (h : x ∈ Dl.cutD es lo hi) : x ∈ es := List.mem_of_mem_drop (List.mem_of_mem_take h)
theorem cutD_len {es : List PyData} {lo hi : Option Int} : (Dl.cutD es lo hi).length ≤ es.length := by
  unfold Dl.cutD
  rw [List.length_take, List.length_drop]
  omega
theorem m_set {A : List Addr} {Δ : List Sl} {i : Nat} {t : Addr} {ds ds' : List PyData} (h : Δ[i]? = some (.m t ds)) (hm : ∀ (k : Nat) t ds, Δ[k]? = some (Sl.m t ds) → t ∈ A) : ∀ (k : Nat) t' es, (Δ.set i (.m t ds'))[k]? = some (Sl.m t' es) → t' ∈ A := fun k t' es e => by
  rw [List.getElem?_set] at e
  by_cases hk : i = k
  · rw [if_pos hk] at e
    split at e
    · cases e
      exact hm i t ds h
    · cases e
  · rw [if_neg hk] at e
    exact hm k t' es e
section
variable {P : Program} {w : World} {K : PySem.W.Frag} {mg : Str → Option Value} {base : Heap} {f : Addr} {fd : FuncData} {k : Nat}
abbrev C_book (ds : List PyData) : Prop := ∃ c r : Int, ds = [.int c, .int r] ∧ 1 ≤ c ∧ c ≤ 8 ∧ 0 ≤ r ∧ r ≤ 8
def R_book : List PyData → PyData → Prop
  | [.int c, .int r], d => ∃ m rows, d = .tuple [.int m, .tuple rows] ∧ 1 ≤ m ∧ m ≤ c ∧ ((rows.length : Nat) : Int) ≤ r ∧ ∀ x ∈ rows, rowOk m x = true
  | _, _ => False
theorem ok__law_book (F : Fun K "_law_book" "_law_book" s__law_book f fd) (g : Gb mg) (h__law_draw : Has P w K mg base 1 "_law_draw" p__law_draw (PS C_draw R_draw)) (h__law_pick : Has P w K mg base 2 "_law_pick" p__law_pick (PS C_pick R_pick))
    (h__law_row : Has P w K mg base 3 "_law_row" p__law_row (PS C_drow R_drow)) : FnOk P w K mg base CX0 4 f fd p__law_book (PS C_book R_book) := by
  obtain ⟨m_isinstance, m_int, m_bool, m_tuple, m_len, m_all, m_enumerate, m_sum, m_range, m_list, m_str, m_repr, c_MAX_CELLS, c_MAX_ROWS, c_MAX_ITEM⟩ := g
  have nd := sc__law_book.nd
  refine F.ok sc__law_book (ps_len fun ds ⟨c, r, e, _⟩ => by rw [e]; rfl) fun cdv A outer sh H vs Q E hr h => ⟨_, (pss_cons (ps_set (i := 3) nd rfl (Or.inl rfl) (pe_op op_add pe_int (pe_h h__law_draw (hr.mono (by decide)) (by rfl) (pa_cons (pv 0) (pa_cons (pv 1) pa_nil)))))
      (pss_cons (ps_par (i := 4) (j := 5) rfl nd rfl rfl (by decide) rfl rfl (pa_cons (pe_lst pa_nil) (pa_cons (pe_callTy call_tuple_of (by rfl) m_tuple (by decide +kernel) (pa_cons (pe_lc (own := [("cell", 9)]) (g := gName 9) (tt := tYes) rfl nd (pi_range1 (by rfl) m_range (pa_cons (pv 3) pa_nil)) (blkOk_by (N := N__law_book) (sc := defScope s__law_book) (by decide +kernel)) (fun _ _ _ _ _ => (pg_name (i := 9) nd rfl (Or.inl rfl))) (fun _ _ _ _ _ => pts_nil) (fun _ _ _ _ _ => (pe_op op_sub (pe_h h__law_draw (hr.mono (by decide)) (by rfl) (pa_cons (pv 0) (pa_cons pe_int pa_nil))) pe_int))) pa_nil)) pa_nil)) rfl)
      (pss_cons (ps_for PassesOwn.never rfl (pi_range1 (by rfl) m_range (pa_cons (pe_h h__law_draw (hr.mono (by decide)) (by rfl) (pa_cons (pv 0) (pa_cons (pe_op op_add (pv 2) pe_int) pa_nil))) pa_nil)) (pg_name (i := 6) nd rfl (Or.inl rfl))
        (pss_cons (ps_set (i := 7) nd rfl (Or.inr rfl) (pe_op op_sub (pe_h h__law_draw (hr.mono (by decide)) (by rfl) (pa_cons (pv 0) (pa_cons pe_int pa_nil))) pe_int))
        (pss_cons (ps_set (i := 8) nd rfl (Or.inl rfl) (pe_lst (pa_cons (pe_h h__law_row hr (by rfl) (pa_cons (pv 0) (pa_cons (pv 3) pa_nil))) (pa_cons (pe_h h__law_row hr (by rfl) (pa_cons (pv 0) (pa_cons (pv 3) pa_nil))) (pa_cons (pe_callTy call_tuple_of (by rfl) m_tuple (by decide +kernel) (pa_cons (pe_lc (own := [("item", 10)]) (g := gName 10) (tt := tYes) rfl nd (pi_tup (pv 5)) (blkOk_by (N := N__law_book) (sc := defScope s__law_book) (by decide +kernel)) (fun _ _ _ _ _ => (pg_name (i := 10) nd rfl (Or.inl rfl))) (fun _ _ _ _ _ => pts_nil) (fun _ _ _ _ _ => (pe_op op_mul (pv 7) (pv 10)))) pa_nil)) pa_nil)))))
        (pss_one (ps_expr (pe_bm PySem.F.plainAttrs_list PySem.F.slot_list_append PySem.F.type_list_append mt_append (pv 4) (pa_cons (pe_h h__law_pick (hr.mono (by decide)) (by rfl) (pa_cons (pv 0) (pa_cons (pe_op op_cat (pv 8) (pe_slice sl_list (pv 4) (po_some (pe_un un_neg pe_int)) po_none)) pa_nil))) pa_nil)))))))
      (pss_one (ps_ret (pe_tup (pa_cons (pv 3) (pa_cons (pe_callTy call_tuple_of (by rfl) m_tuple (by decide +kernel) (pa_cons (pv 4) pa_nil)) pa_nil)))))))), enterS h fun s g f A ds ⟨c, r, e, c1, c2, r1, r2⟩ => ?_⟩
  subst e
  refine sq_seq <| sq_set <| ev_ii <| ev_int <| ev_callS rfl <| eva_one <| ev_var rfl ⟨⟨c, rfl, by omega, by omega⟩, fun d hd => ?_⟩
  obtain ⟨dr, rfl, d1, d2⟩ := hd
  refine ⟨1, dr, rfl, rfl, ?_⟩
  dsimp only
  generalize hm : (1 : Int) + dr = m
  have m1 : 1 ≤ m := by omega
  have m2 : m ≤ c := by omega
  have rl : (rngD m).length = m.toNat := by
    unfold rngD
    rw [List.length_map, List.length_range]
  refine sq_seq <| sq_parM (by decide) <| evn_lst <| eva_nil ⟨by simp, fun t nt => ev_tupleOf <| eva_one <| EvN.ev <| evn_each (tg_name 9) (by simp) (fun d => isWh (-3) 3 d = true) <| evi_rng1 <| eva_one <| ev_var rfl ⟨m, rfl, by omega, by omega, by rw [rl]; omega, fun d hd p np => ?_, fun ys hy hP => ⟨_, ys, rfl, rfl, ?_⟩⟩⟩
  · obtain ⟨cc, _, rfl⟩ := List.mem_map.mp hd
    refine ⟨_, rfl, ev_ii <| ev_callS rfl <| eva_one <| ev_int ⟨⟨7, rfl, by decide, by decide⟩, fun d hd => ?_⟩⟩
    obtain ⟨y, rfl, y1, y2⟩ := hd
    exact ev_int ⟨_, _, rfl, rfl, isWh_of (by omega) (by omega)⟩
  refine sq_seq <| sq_for (tg_name 6) <| evi_rng1 <| eva_one <| ev_callS rfl <| eva_one <| ev_ii <| ev_var rfl <| ev_int ⟨r, 1, rfl, rfl, ⟨r + 1, rfl, by omega, by omega⟩, fun d hd => ?_⟩
  obtain ⟨n, rfl, n1, n2⟩ := hd
  have nl : (rngD n).length = n.toNat := by
    unfold rngD
    rw [List.length_map, List.length_range]
  refine ⟨n, rfl, by omega, by omega, fun i Δ' => ∃ found, Δ' = [.v (.ref s), .d (.int c), .d (.int r), .d (.int m), .m t found, .d (.tuple ys), .no, .no, .no, .no, .no] ∧ found.length = i ∧ ∀ x ∈ found, rowOk m x = true, ⟨[], rfl, rfl, fun _ z => nomatch z⟩, fun i e Δ' he ⟨found, hΔ, hl, hb⟩ hmm => ?_, fun Δ' ⟨found, hΔ, hl, hb⟩ => ?_⟩
  · subst hΔ
    have hi := (List.getElem?_eq_some_iff.mp he).1
    refine ⟨_, rfl, sq_seq <| sq_set <| ev_ii <| ev_callS rfl <| eva_one <| ev_int ⟨⟨9, rfl, by decide, by decide⟩, fun d hd => ?_⟩⟩
    obtain ⟨tm, rfl, t1, t2⟩ := hd
    refine ev_int ⟨_, _, rfl, rfl, ?_⟩
    refine sq_seq <| sq_set <| ev_lst <| eva_cons <| ev_callS rfl <| eva_one <| ev_var rfl ⟨⟨m, rfl, by omega, by omega⟩, fun ra hra => eva_cons <| ev_callS rfl <| eva_one <| ev_var rfl ⟨⟨m, rfl, by omega, by omega⟩, fun rb hrb => eva_one <| ev_tupleOf <| eva_one <| EvN.ev <| evn_each (tg_name 10) (by simp) (fun d => isWh (-99) 99 d = true) <| evi_tup <| ev_var rfl ⟨ys, rfl, by omega, fun d hd p np => ?_, fun zs hz hQ => ⟨_, zs, rfl, rfl, by simp, ?_⟩⟩⟩⟩
    · obtain ⟨y, rfl, y1, y2⟩ := isWh_int (hP d hd)
      refine ⟨_, rfl, ev_iic <| ev_var rfl <| ev_var rfl ⟨_, _, rfl, rfl, .inl ⟨by omega, by omega⟩, isWh_of ?_ ?_⟩⟩
      · have : -12 ≤ (tm - 4) * y := by
          rcases (show tm = 0 ∨ tm = 1 ∨ tm = 2 ∨ tm = 3 ∨ tm = 4 ∨ tm = 5 ∨ tm = 6 ∨ tm = 7 ∨ tm = 8 by omega) with h | h | h | h | h | h | h | h | h <;> subst h <;> omega
        omega
      · have : (tm - 4) * y ≤ 12 := by
          rcases (show tm = 0 ∨ tm = 1 ∨ tm = 2 ∨ tm = 3 ∨ tm = 4 ∨ tm = 5 ∨ tm = 6 ∨ tm = 7 ∨ tm = 8 by omega) with h | h | h | h | h | h | h | h | h <;> subst h <;> omega
        omega
    have hz' : rowOk m (.tuple zs) = true := rowOk_of (by omega) hQ
    refine sq_append (t := t) (ds := found) rfl <| ev_callS rfl <| eva_one <| EvN.ev <| evn_cat <| ev_var rfl <| EvN.ev <| evn_slM (fun _ _ _ _ _ h => h) (t := t) (ds := found) rfl <| evo_some <| ev_neg <| ev_int ⟨1, rfl, _, rfl, evo_none ⟨_, _, rfl, rfl, ?_, ⟨_, _, rfl, rfl, by simp, ?_⟩, fun d hd => ⟨by omega, ?_⟩⟩⟩
    · have := cutD_len (es := found) (lo := some (-1)) (hi := none)
      simp
      omega
    · have := cutD_len (es := found) (lo := some (-1)) (hi := none)
      simp
      omega
    · obtain ⟨es, ee, hd⟩ := hd
      cases ee
      have hok : rowOk m d = true := by
        rcases List.mem_append.mp hd with hd | hd
        · simp only [List.mem_cons, List.not_mem_nil, or_false] at hd
          rcases hd with rfl | rfl | rfl
          · exact hra
          · exact hrb
          · exact hz'
        · exact hb d (cutD_mem hd)
      refine back0 (A' := t :: A) (Δ0 := [.v (.ref s), .d (.int c), .d (.int r), .d (.int m), .m t (found ++ [d]), .d (.tuple ys), .no, .no, .no, .no, .no]) ?_ (m_set (Δ := [.v (.ref s), .d (.int c), .d (.int r), .d (.int m), .m t found, .d (.tuple ys), .no, .no, .no, .no, .no]) (i := 4) rfl hmm) ⟨found ++ [d], rfl, by rw [List.length_append, hl] <;> rfl, fun x hx => ?_⟩
      · exact .set (Δ := [.v (.ref s), .d (.int c), .d (.int r), .d (.int m), .m t (found ++ [d]), .d (.tuple ys), .d e, .d (.int (tm - 4)), .no, .no, .no]) (j := 8) (.set (Δ := [.v (.ref s), .d (.int c), .d (.int r), .d (.int m), .m t (found ++ [d]), .d (.tuple ys), .d e, .no, .no, .no, .no]) (j := 7) (.set (Δ := [.v (.ref s), .d (.int c), .d (.int r), .d (.int m), .m t (found ++ [d]), .d (.tuple ys), .no, .no, .no, .no, .no]) (j := 6) (.refl _) (.inl rfl)) (.inl rfl)) (.inl rfl)
      · rcases List.mem_append.mp hx with hx | hx
        · exact hb x hx
        · rw [List.mem_singleton.mp hx]
          exact hok
  · subst hΔ
    refine sq_ret <| ev_tup <| eva_cons <| ev_var rfl <| eva_one <| ev_tupleOfM (t := t) (ds := found) rfl ⟨by simp, m, found, rfl, m1, m2, by rw [hl, nl]; omega, hb⟩
end
end K01

/-! the law k01: odd rows -/
namespace K01
open PySem PySem.Spec PyProof.Rows L2 Dl
section
variable {P : Program} {w : World} {K : PySem.W.Frag} {mg : Str → Option Value} {base : Heap} {f : Addr} {fd : FuncData} {k : Nat}
abbrev C_odd (ds : List PyData) : Prop := ∃ xs, ds = [.tuple xs] ∧ 1 ≤ xs.length ∧ xs.length ≤ 8 ∧ ∀ x ∈ xs, Sm 0 x
def R_odd : List PyData → PyData → Prop := fun _ r => Sm 2 r
theorem ok__law_odd_row (F : Fun K "_law_odd_row" "_law_odd_row" s__law_odd_row f fd) (g : Gb mg) (h__law_draw : Has P w K mg base 1 "_law_draw" p__law_draw (PS C_draw R_draw)) (h__law_pick : Has P w K mg base 2 "_law_pick" p__law_pick (PS C_pick R_pick)) :
    FnOk P w K mg base CX0 3 f fd p__law_odd_row (PS C_odd R_odd) := by
  obtain ⟨m_isinstance, m_int, m_bool, m_tuple, m_len, m_all, m_enumerate, m_sum, m_range, m_list, m_str, m_repr, c_MAX_CELLS, c_MAX_ROWS, c_MAX_ITEM⟩ := g
  have nd := sc__law_odd_row.nd
  refine F.ok sc__law_odd_row (ps_len fun ds ⟨xs, e, _⟩ => by rw [e]; rfl) fun cdv A outer sh H vs Q E hr h => ⟨_, (pss_cons (ps_set (i := 2) nd rfl (Or.inr rfl) (pe_h h__law_draw (hr.mono (by decide)) (by rfl) (pa_cons (pv 0) (pa_cons (pe_callB (show CallR _ _ (rLenK K) from call_len_seq) (by rfl) m_len PySem.boot_len (pa_cons (pv 1) pa_nil)) pa_nil))))
      (pss_cons (ps_set (i := 3) nd rfl (Or.inl rfl) (pe_lst (pa_cons pe_int (pa_cons (pe_un un_neg pe_int) (pa_cons pe_int (pa_cons (pe_un un_neg pe_int) (pa_cons pe_bl (pa_cons pe_bl (pa_cons pe_non (pa_cons pe_str (pa_cons (pe_tup (pa_cons pe_int pa_nil)) (pa_cons (pe_op op_pow pe_int pe_int) (pa_cons pe_int (pa_cons (pe_lst (pa_cons pe_int pa_nil)) pa_nil))))))))))))))
      (pss_cons (ps_setLc (i := 4) (own := [("item", 5)]) (g := gName 5) (tt := tYes) rfl nd rfl rfl (sw_true rfl rfl rfl (by decide +kernel)) (pi_list (pv 3)) (blkOk_by (N := N__law_odd_row) (sc := defScope s__law_odd_row) (by decide +kernel)) (fun _ _ _ _ _ => (pg_name (i := 5) nd rfl (Or.inl rfl))) (fun _ _ _ _ _ => pts_nil) (fun _ _ _ _ _ => (pe_op (show OpR _ _ (rCatA K) from op_catA) (pe_op (show OpR _ _ (rCatA K) from op_catA) (pe_slice (show SlR _ (rSlA K) from sl_tupA) (pv 1) po_none (po_some (pv 2))) (pe_tup (pa_cons (pv 5) pa_nil))) (pe_slice (show SlR _ (rSlA K) from sl_tupA) (pv 1) (po_some (pe_op op_add (pv 2) pe_int)) po_none))))
      (pss_one (ps_ret (pe_h h__law_pick hr (by rfl) (pa_cons (pv 0) (pa_cons (pe_op op_cat (pv 4) (pe_lst (pa_cons (pe_slice (show SlR _ (rSlA K) from sl_tupA) (pv 1) (po_some pe_int) po_none) (pa_cons (pe_op (show OpR _ _ (rCatA K) from op_catA) (pv 1) (pe_tup (pa_cons pe_int pa_nil))) (pa_cons (pe_callTy call_list_of (by rfl) m_list (by decide +kernel) (pa_cons (pv 1) pa_nil)) (pa_cons (pe_tup pa_nil) (pa_cons pe_non (pa_cons (pe_ix (show IxR _ (fun x y H Q => rIxL K x y H Q ∨ rIxT K x y H Q) from ix_list.or ix_tup) (pv 1) (pv 2) (fun _ _ => rfl)) (pa_cons pe_dnewK (pa_cons pe_str (pa_cons (pe_tup (pa_cons (pv 1) pa_nil)) pa_nil))))))))))) pa_nil)))))))), enterS h fun s g f A ds ⟨xs, e, l1, l2, hx⟩ => ?_⟩
  subst e
  have hx1 : ∀ x ∈ xs, Sm 1 x := fun x h => (hx x h).up (by decide)
  refine sq_seq <| sq_set <| ev_callS rfl <| eva_one <| ev_len <| eva_one <| ev_var rfl ⟨_, xs, rfl, rfl, ⟨_, rfl, by omega, by omega⟩, fun d hd => ?_⟩
  obtain ⟨i, rfl, i1, i2⟩ := hd
  have ei : i = ((i.toNat : Nat) : Int) := by omega
  have hi : i.toNat < xs.length := by omega
  refine sq_seq <| sq_set <| ev_lst <| eva_cons <| ev_int <| eva_cons <| ev_neg <| ev_int ⟨99, rfl, eva_cons <| ev_int <| eva_cons <| ev_neg <| ev_int ⟨100, rfl, eva_cons <| ev_bl <| eva_cons <| ev_bl <| eva_cons <| ev_non <| eva_cons <| ev_str <| eva_cons <| ev_tup <| eva_one <| ev_int ⟨by simp, eva_cons <| ev_iic <| ev_int <| ev_int ⟨10, 60, rfl, rfl, ⟨by decide, by decide, by decide⟩, eva_cons <| ev_int <| eva_one <| ev_lst <| eva_one <| ev_int ⟨by simp, by simp, ?_⟩⟩⟩⟩⟩
  generalize hits : ([_, _, _, _, _, _, _, _, _, _, _, _] : List PyData) = its
  have hI : its.length = 12 ∧ ∀ x ∈ its, Sm 1 x := by
    subst hits
    refine ⟨rfl, fun x hm => ?_⟩
    simp only [List.mem_cons, List.not_mem_nil, or_false] at hm
    rcases hm with rfl | rfl | rfl | rfl | rfl | rfl | rfl | rfl | rfl | rfl | rfl | rfl
    · exact .int (by decide) (by decide)
    · exact .int (by decide) (by decide)
    · exact .int (by decide) (by decide)
    · exact .int (by decide) (by decide)
    · exact .bl _
    · exact .bl _
    · exact .non
    · exact .leaf (by simp only [PyData.depth]) (by decide) (by decide +kernel)
    · exact .tup (by simp) fun x hm => by
        rw [List.mem_singleton.mp hm]
        exact .int (by decide) (by decide)
    · exact .int (by decide +kernel) (by decide +kernel)
    · exact .int (by decide) (by decide)
    · exact .lst (by simp) fun x hm => by
        rw [List.mem_singleton.mp hm]
        exact .int (by decide) (by decide)
  refine sq_seq <| sq_set <| EvN.ev <| evn_each (tg_name 5) (by simp) (Sm 2) <| evi_list <| ev_var rfl ⟨its, rfl, by omega, fun d hd p np => ?_, fun ys hy hP => ?_⟩
  · have c1 := cutD_len (es := xs) (lo := none) (hi := some i)
    have c2 := cutD_len (es := xs) (lo := some (i + 1)) (hi := none)
    refine ⟨_, rfl, ev_catT <| ev_catT <| ev_slT <| ev_var rfl <| evo_none <| evo_some <| ev_var rfl ⟨i, rfl, xs, rfl, ev_tup <| eva_one <| ev_var rfl ⟨by simp, _, _, rfl, rfl, by simp; omega, ev_slT <| ev_var rfl <| evo_some <| ev_ii <| ev_var rfl <| ev_int ⟨i, 1, rfl, rfl, _, rfl, evo_none ⟨xs, rfl, _, _, rfl, rfl, ?_, ?_⟩⟩⟩⟩⟩
    · skip
      rw [List.length_append]
      simp
      omega
    · skip
      refine .tup ?_ fun x hm => ?_
      · rw [List.length_append, List.length_append]
        simp
        have q : (Dl.cutD xs none (some i)).length + (Dl.cutD xs (some (i + 1)) none).length ≤ 16 := by omega
        omega
      · rcases List.mem_append.mp hm with hm | hm
        · rcases List.mem_append.mp hm with hm | hm
          · exact hx1 x (cutD_mem hm)
          · rw [List.mem_singleton.mp hm]
            exact hI.2 d hd
        · exact hx1 x (cutD_mem hm)
  have c1 := cutD_len (es := xs) (lo := some 1) (hi := none)
  refine sq_ret <| ev_callS rfl <| eva_one <| EvN.ev <| evn_cat <| ev_var rfl <| ev_lst <| eva_cons <| ev_slT <| ev_var rfl <| evo_some <| ev_int ⟨1, rfl, evo_none ⟨xs, rfl, eva_cons <| ev_catT <| ev_var rfl <| ev_tup <| eva_one <| ev_int ⟨by simp, xs, _, rfl, rfl, by simp; omega, eva_cons <| EvN.ev <| evn_listOf <| eva_one <| ev_var rfl ⟨_, xs, rfl, rfl, eva_cons <| ev_tup <| eva_nil ⟨by simp, eva_cons <| ev_non <| eva_cons <| ev_ix <| ev_var rfl <| ev_var rfl ⟨xs, i, xs[i.toNat], rfl, rfl, ?_, eva_cons <| ev_dict <| eva_cons <| ev_str <| eva_one <| ev_tup <| eva_one <| ev_var rfl ⟨by simp, by simp, _, _, rfl, rfl, ?_, ⟨_, _, rfl, rfl, by simp, ?_⟩, fun d hd => ?_⟩⟩⟩⟩⟩⟩⟩
  · have q := atD_nat (List.getElem?_eq_getElem hi)
    rw [← ei] at q
    exact q
  · simp
    omega
  · simp
    omega
  · obtain ⟨es, ee, hd⟩ := hd
    cases ee
    rcases List.mem_append.mp hd with hd | hd
    · exact hP d hd
    · simp only [List.mem_cons, List.not_mem_nil, or_false] at hd
      rcases hd with rfl | rfl | rfl | rfl | rfl | rfl | rfl | rfl | rfl
      · exact .tup (by omega) fun x hm => hx1 x (cutD_mem hm)
      · exact .tup (by simp; omega) fun x hm => by
          rcases List.mem_append.mp hm with hm | hm
          · exact hx1 x hm
          · rw [List.mem_singleton.mp hm]
            exact .int (by decide) (by decide)
      · exact .lst (by omega) hx1
      · exact .tup (by simp) fun _ z => nomatch z
      · exact .non
      · exact (hx _ (List.getElem_mem hi)).up (by decide)
      · exact .dct
      · exact .leaf (by simp only [PyData.depth]) (by decide) (by decide +kernel)
      · exact .tup (by simp) fun x hm => by
          rw [List.mem_singleton.mp hm]
          exact .tup (by omega) fun x hm => hx x hm
end
end K01

/-! the law k01: the law itself -/
namespace K01
open PySem PySem.Spec PyProof.Rows L2 Dl
theorem Weak.nil : Dl.Weak [] [] := .refl []
theorem Weak.cons {Δ Δ0 : List Sl} {x : Sl} (w : Dl.Weak Δ Δ0) : Dl.Weak (x :: Δ) (x :: Δ0) := ⟨by rw [List.length_cons, List.length_cons, w.1], fun i s e => by
  cases i with
  | zero => exact .inr e
  | succ i => exact w.2 i s e⟩
theorem Weak.no {Δ Δ0 : List Sl} {x : Sl} (w : Dl.Weak Δ Δ0) : Dl.Weak (x :: Δ) (.no :: Δ0) := ⟨by rw [List.length_cons, List.length_cons, w.1], fun i s e => by
  cases i with
  | zero => cases e; exact .inl rfl
  | succ i => exact w.2 i s e⟩
theorem sm_num {k : Nat} {d : PyData} (h : isWh (-99) 99 d = true) : Sm k d := by
  obtain ⟨i, rfl, h1, h2⟩ := isWh_int h
  exact .int (by have : (99 : Int) ≤ 10 ^ 60 := by decide +kernel
                 omega) (by have : (99 : Int) ≤ 10 ^ 60 := by decide +kernel
                            omega)
theorem sm_small {k : Nat} {i : Int} (h1 : -1000 ≤ i) (h2 : i ≤ 1000) : Sm k (.int i) :=
  .int (by have : (1000 : Int) ≤ 10 ^ 60 := by decide +kernel
           omega) (by have : (1000 : Int) ≤ 10 ^ 60 := by decide +kernel
                      omega)
theorem sm_row {m : Int} {d : PyData} (hm : m ≤ 8) (h : rowOk m d = true) : Sm 1 d := by
  obtain ⟨xs, rfl, hl, hx⟩ := rowOk_inv h
  exact .tup (by omega) fun x hm => sm_num (hx x hm)
theorem odd_row {m : Int} {d : PyData} (m1 : 1 ≤ m) (hm : m ≤ 8) (h : rowOk m d = true) : C_odd [d] := by
  obtain ⟨xs, rfl, hl, hx⟩ := rowOk_inv h
  exact ⟨xs, rfl, by omega, by omega, fun x hm => sm_num (hx x hm)⟩
theorem err_sm (d : PyData) : Sm 1 (errD d) := by
  have hf : Sm 1 (.str "form") := .leaf (by simp only [PyData.depth]) (by decide) (by decide +kernel)
  have hr : Sm 0 (.str "row") := .leaf (by simp only [PyData.depth]) (by decide) (by decide +kernel)
  unfold errD
  split
  · rename_i m rows
    split
    · rename_i hb
      obtain ⟨m', rows', e, m1, m2, hl⟩ := form_inv hb
      cases e
      unfold rowsErr
      split
      · rename_i i q
        obtain ⟨hi, _⟩ := List.findIdx?_eq_some_iff_getElem.mp q
        refine .tup (by simp) fun x hx => ?_
        simp only [List.mem_cons, List.not_mem_nil, or_false] at hx
        rcases hx with rfl | rfl
        · exact hr
        · exact sm_small (by omega) (by omega)
      · exact .non
    · exact hf
  · exact hf
theorem err_shw (d : PyData) : Shw (errD d) := ((err_sm d).up (by decide)).shw
theorem sm_strN {k : Nat} {m : Int} (m1 : 1 ≤ m) (m2 : m ≤ 8) : Sm k (.str (Str.ofString (toString m))) := by
  rcases (show m = 1 ∨ m = 2 ∨ m = 3 ∨ m = 4 ∨ m = 5 ∨ m = 6 ∨ m = 7 ∨ m = 8 by omega) with h | h | h | h | h | h | h | h <;> subst h <;> exact .leaf (by simp only [PyData.depth]) (by decide +kernel) (by decide +kernel)
theorem two_sm {k : Nat} {a b : PyData} (ha : Sm k a) (hb : Sm k b) : Sm (k + 1) (.tuple [a, b]) := .tup (by simp) fun x hx => by
  simp only [List.mem_cons, List.not_mem_nil, or_false] at hx
  rcases hx with rfl | rfl
  · exact ha
  · exact hb
theorem cut8 {m : Int} {rows : List PyData} (h : ∀ x ∈ rows, rowOk m x = true) : (Dl.cutD rows none (some 8)).length = min 8 rows.length ∧ ∀ x ∈ Dl.cutD rows none (some 8), rowOk m x = true := by
  refine ⟨?_, fun x hx => h x (cutD_mem hx)⟩
  unfold Dl.cutD
  rw [HT.sIx_none, show HT.sIx rows.length rows.length (some 8) = min 8 rows.length from HT.sIx_nat _ _ 8, List.drop_zero, Nat.sub_zero, List.length_take]
  omega
theorem cut_to {es : List PyData} {a : Int} (h : 0 ≤ a) : (Dl.cutD es none (some a)).length = min a.toNat es.length := by
  obtain ⟨n, rfl⟩ := Int.eq_ofNat_of_zero_le h
  unfold Dl.cutD
  rw [HT.sIx_none, HT.sIx_nat, List.drop_zero, Nat.sub_zero, List.length_take, Int.toNat_natCast]
  omega
theorem cut_from {es : List PyData} {a : Int} (h : 0 ≤ a) : (Dl.cutD es (some a) none).length = es.length - a.toNat := by
  obtain ⟨n, rfl⟩ := Int.eq_ofNat_of_zero_le h
  unfold Dl.cutD
  rw [HT.sIx_none, HT.sIx_nat, List.length_take, List.length_drop, Int.toNat_natCast]
  omega
theorem mem_rep {es : List PyData} {x : PyData} : ∀ n : Nat, x ∈ (List.replicate n es).flatten → x ∈ es := fun n h => by
  obtain ⟨l, hl, hx⟩ := List.mem_flatten.mp h
  rw [List.eq_of_mem_replicate hl] at hx
  exact hx
theorem at_int {es : List PyData} {i : Int} (h1 : 0 ≤ i) (h2 : i < ((es.length : Nat) : Int)) : ∃ d, atD es i = some d ∧ d ∈ es := by
  have hi : i.toNat < es.length := by omega
  have q := atD_nat (List.getElem?_eq_getElem hi)
  rw [show ((i.toNat : Nat) : Int) = i by omega] at q
  exact ⟨_, q, List.getElem_mem hi⟩
section
variable {P : Program} {w : World} {K : PySem.W.Frag} {mg : Str → Option Value} {base : Heap} {f : Addr} {fd : FuncData} {k : Nat}
theorem ok_law (F : Fun K "law" "law" s_law f fd) (g : Gb mg) (h__law_draw : Has P w K mg base 1 "_law_draw" p__law_draw (PS C_draw R_draw)) (h__law_stock : Has P w K mg base 1 "_law_stock" p__law_stock (spStock K))
    (h__law_book : Has P w K mg base 4 "_law_book" p__law_book (PS C_book R_book)) (h__law_odd_row : Has P w K mg base 3 "_law_odd_row" p__law_odd_row (PS C_odd R_odd)) (h__law_due : Has P w K mg base 2 "_law_due" p__law_due (PF (fun ds => ∃ d, ds = [d]) R_err))
    (h_book_error : Has P w K mg base 4 "book_error" p_book_error (PF (fun ds => ∃ d, ds = [d]) R_err)) (hk_book_error : HasK P w K mg base 4 "book_error" p_book_error ["value"] (fun us ws => us ++ ws) (PF (fun ds => ∃ d, ds = [d]) R_err)) :
    FnG P w K mg base 5 f fd p_law (spLaw K 63) := by
  obtain ⟨m_isinstance, m_int, m_bool, m_tuple, m_len, m_all, m_enumerate, m_sum, m_range, m_list, m_str, m_repr, c_MAX_CELLS, c_MAX_ROWS, c_MAX_ITEM⟩ := g
  have nd := sc_law.nd
  refine fng F sc_law (fun vs H Q E ⟨a, ns, e, _⟩ => by rw [e]; rfl) fun cdv A outer sh H vs Q hgd hr h => ⟨_, (pss_cons (ps_set (i := 1) nd rfl (Or.inl rfl) (pe_h h__law_stock (hr.mono (by decide)) (by rfl) (pa_cons (pv 0) pa_nil)))
      (pss_cons (ps_for PassesOwn.never rfl (pi_range1 (by rfl) m_range (pa_cons pe_int pa_nil)) (pg_name (i := 2) nd rfl (Or.inl rfl))
        (pss_cons (ps_asg (pe_h h__law_book hr (by rfl) (pa_cons (pv 1) (pa_cons pe_int (pa_cons pe_int pa_nil)))) (pg_tup rfl (pgs_cons (pg_name (i := 3) nd rfl (Or.inl rfl)) (pgs_cons (pg_name (i := 4) nd rfl (Or.inr rfl)) pgs_nil))))
        (pss_cons (ps_set (i := 4) nd rfl (Or.inr rfl) (pe_slice (show SlR _ (rSlA K) from sl_tupA) (pe_op (show OpR _ _ (rCatA K) from op_catA) (pv 4) (pe_tup (pa_cons (pe_op op_repA (pe_tup (pa_cons pe_int pa_nil)) (pv 3)) pa_nil))) po_none (po_some pe_int)))
        (pss_cons (ps_set (i := 5) nd rfl (Or.inl rfl) (pe_slice (show SlR _ (rSlA K) from sl_tupA) (pe_op op_repA (pv 4) pe_int) po_none (po_some pe_int)))
        (pss_cons (ps_set (i := 6) nd rfl (Or.inl rfl) (pe_lst (pa_cons (pe_tup (pa_cons (pv 3) (pa_cons (pv 4) pa_nil))) (pa_cons (pe_tup (pa_cons (pv 3) (pa_cons (pv 5) pa_nil))) (pa_cons (pe_tup (pa_cons (pv 3) (pa_cons (pe_op (show OpR _ _ (rCatA K) from op_catA) (pv 5) (pe_slice (show SlR _ (rSlA K) from sl_tupA) (pv 4) po_none (po_some pe_int))) pa_nil))) (pa_cons (pe_tup (pa_cons (pv 3) (pa_cons (pe_tup pa_nil) pa_nil))) (pa_cons (pe_tup (pa_cons (pv 3) (pa_cons (pe_callTy call_list_of (by rfl) m_list (by decide +kernel) (pa_cons (pv 4) pa_nil)) pa_nil))) (pa_cons (pe_lst (pa_cons (pv 3) (pa_cons (pv 4) pa_nil))) pa_nil))))))))
        (pss_cons (ps_set (i := 7) nd rfl (Or.inl rfl) (pe_lst (pa_cons pe_int (pa_cons pe_int (pa_cons (pe_op op_add (pv 3) pe_int) (pa_cons (pe_op op_sub (pv 3) pe_int) (pa_cons pe_bl (pa_cons pe_bl (pa_cons (pe_callTy call_str_int (by rfl) m_str (by decide +kernel) (pa_cons (pv 3) pa_nil)) (pa_cons pe_non (pa_cons (pe_un un_neg (pv 3)) (pa_cons (pe_lst (pa_cons (pv 3) pa_nil)) (pa_cons pe_dnewK pa_nil)))))))))))))
        (pss_cons (ps_set (i := 6) nd rfl (Or.inl rfl) (pe_op op_cat (pv 6) (pe_lc (own := [("count", 16)]) (g := gName 16) (tt := tYes) rfl nd (pi_list (pv 7)) (blkOk_by (N := N_law) (sc := defScope s_law) (by decide +kernel)) (fun _ _ _ _ _ => (pg_name (i := 16) nd rfl (Or.inl rfl))) (fun _ _ _ _ _ => pts_nil) (fun _ _ _ _ _ => (pe_tup (pa_cons (pv 16) (pa_cons (pv 4) pa_nil)))))))
        (pss_cons (ps_set (i := 6) nd rfl (Or.inl rfl) (pe_op op_cat (pv 6) (pe_lst (pa_cons (pe_tup (pa_cons (pv 3) pa_nil)) (pa_cons (pe_tup (pa_cons (pv 3) (pa_cons (pv 4) (pa_cons (pe_tup pa_nil) pa_nil)))) (pa_cons (pe_tup (pa_cons (pv 4) (pa_cons (pv 3) pa_nil))) (pa_cons (pv 4) (pa_cons (pv 3) (pa_cons pe_dnewK (pa_cons (pe_tup (pa_cons (pv 3) (pa_cons pe_non pa_nil))) (pa_cons (pe_tup (pa_cons pe_int (pa_cons (pe_tup (pa_cons (pe_tup (pa_cons (pv 3) pa_nil)) pa_nil)) pa_nil))) (pa_cons pe_non pa_nil))))))))))))
        (pss_cons (ps_for PassesOwn.never rfl (pi_range1 (by rfl) m_range (pa_cons pe_int pa_nil)) (pg_name (i := 8) nd rfl (Or.inl rfl))
          (pss_cons (ps_par (i := 9) (j := 10) rfl nd rfl rfl (by decide) rfl rfl (pa_cons (pe_h h__law_draw (hr.mono (by decide)) (by rfl) (pa_cons (pv 1) (pa_cons (pe_callB (show CallR _ _ (rLenK K) from call_len_seq) (by rfl) m_len PySem.boot_len (pa_cons (pv 4) pa_nil)) pa_nil))) (pa_cons (pe_h h__law_draw (hr.mono (by decide)) (by rfl) (pa_cons (pv 1) (pa_cons (pe_callB (show CallR _ _ (rLenK K) from call_len_seq) (by rfl) m_len PySem.boot_len (pa_cons (pv 4) pa_nil)) pa_nil))) pa_nil)) rfl)
          (pss_cons (ps_set (i := 11) nd rfl (Or.inl rfl) (pe_op (show OpR _ _ (rCatA K) from op_catA) (pe_op (show OpR _ _ (rCatA K) from op_catA) (pe_slice (show SlR _ (rSlA K) from sl_tupA) (pv 4) po_none (po_some (pv 9))) (pe_tup (pa_cons (pe_h h__law_odd_row (hr.mono (by decide)) (by rfl) (pa_cons (pv 1) (pa_cons (pe_ix (show IxR _ (fun x y H Q => rIxL K x y H Q ∨ rIxT K x y H Q) from ix_list.or ix_tup) (pv 4) (pv 9) (fun _ _ => rfl)) pa_nil))) pa_nil))) (pe_slice (show SlR _ (rSlA K) from sl_tupA) (pv 4) (po_some (pe_op op_add (pv 9) pe_int)) po_none)))
          (pss_cons (ps_expr (pe_bm PySem.F.plainAttrs_list PySem.F.slot_list_append PySem.F.type_list_append mt_append (pv 6) (pa_cons (pe_tup (pa_cons (pv 3) (pa_cons (pv 11) pa_nil))) pa_nil)))
          (pss_cons (ps_expr (pe_bm PySem.F.plainAttrs_list PySem.F.slot_list_append PySem.F.type_list_append mt_append (pv 6) (pa_cons (pe_tup (pa_cons (pv 3) (pa_cons (pe_op (show OpR _ _ (rCatA K) from op_catA) (pe_op (show OpR _ _ (rCatA K) from op_catA) (pe_slice (show SlR _ (rSlA K) from sl_tupA) (pv 11) po_none (po_some (pv 10))) (pe_tup (pa_cons (pe_h h__law_odd_row (hr.mono (by decide)) (by rfl) (pa_cons (pv 1) (pa_cons (pe_ix (show IxR _ (fun x y H Q => rIxL K x y H Q ∨ rIxT K x y H Q) from ix_list.or ix_tup) (pv 4) (pv 10) (fun _ _ => rfl)) pa_nil))) pa_nil))) (pe_slice (show SlR _ (rSlA K) from sl_tupA) (pv 11) (po_some (pe_op op_add (pv 10) pe_int)) po_none)) pa_nil))) pa_nil)))
          (pss_cons (ps_expr (pe_bm PySem.F.plainAttrs_list PySem.F.slot_list_append PySem.F.type_list_append mt_append (pv 6) (pa_cons (pe_tup (pa_cons (pv 3) (pa_cons (pe_op (show OpR _ _ (rCatA K) from op_catA) (pe_slice (show SlR _ (rSlA K) from sl_tupA) (pv 5) po_none (po_some pe_int)) (pe_tup (pa_cons (pe_h h__law_odd_row (hr.mono (by decide)) (by rfl) (pa_cons (pv 1) (pa_cons (pe_ix (show IxR _ (fun x y H Q => rIxL K x y H Q ∨ rIxT K x y H Q) from ix_list.or ix_tup) (pv 5) pe_int (fun _ _ => rfl)) pa_nil))) pa_nil))) pa_nil))) pa_nil)))
          (pss_one (ps_expr (pe_bm PySem.F.plainAttrs_list PySem.F.slot_list_append PySem.F.type_list_append mt_append (pv 6) (pa_cons (pe_tup (pa_cons (pv 3) (pa_cons (pe_op (show OpR _ _ (rCatA K) from op_catA) (pe_op (show OpR _ _ (rCatA K) from op_catA) (pe_slice (show SlR _ (rSlA K) from sl_tupA) (pv 5) po_none (po_some (pv 9))) (pe_tup (pa_cons (pe_h h__law_odd_row (hr.mono (by decide)) (by rfl) (pa_cons (pv 1) (pa_cons (pe_ix (show IxR _ (fun x y H Q => rIxL K x y H Q ∨ rIxT K x y H Q) from ix_list.or ix_tup) (pv 5) (pv 9) (fun _ _ => rfl)) pa_nil))) pa_nil))) (pe_slice (show SlR _ (rSlA K) from sl_tupA) (pv 5) (po_some (pv 9)) po_none)) pa_nil))) pa_nil))))))))))
        (pss_one (ps_for PassesOwn.never rfl (pi_enum (by rfl) m_enumerate (pa_cons (pv 6) pa_nil)) (pg_tup rfl (pgs_cons (pg_name (i := 8) nd rfl (Or.inl rfl)) (pgs_cons (pg_name (i := 12) nd rfl (Or.inl rfl)) pgs_nil)))
          (pss_cons (ps_par (i := 13) (j := 14) rfl nd rfl rfl (by decide) rfl rfl (pa_cons (pe_callB (call_repD hgd (Nat.lt_of_le_of_lt (Nat.add_le_add_left (by decide) _) hr.un)) (by rfl) m_repr (by decide +kernel) (pa_cons (pv 12) pa_nil)) (pa_cons (pe_callB (call_repD hgd (Nat.lt_of_le_of_lt (Nat.add_le_add_left (by decide) _) hr.un)) (by rfl) m_repr (by decide +kernel) (pa_cons (pe_h h__law_due (hr.mono (by decide)) (by rfl) (pa_cons (pv 12) pa_nil)) pa_nil)) pa_nil)) rfl)
          (pss_cons (ps_set (i := 15) nd rfl (Or.inl rfl) (pe_ifExp (pt_cmpR op_eq (pe_op op_mod (pv 8) pe_int) pe_int (nomark _)) (pe_hk hk_book_error hr (by rfl) (pk_cons (pv 12) pk_nil)) (pe_h h_book_error hr (by rfl) (pa_cons (pv 12) pa_nil))))
          (pss_one (ps_if (PW.pt (pw_or (pt_cmpR op_ne (pe_callB (call_repD hgd (Nat.lt_of_le_of_lt (Nat.add_le_add_left (by decide) _) hr.un)) (by rfl) m_repr (by decide +kernel) (pa_cons (pv 15) pa_nil)) (pv 14) (nomark _)) (pw_or (pt_cmpR op_ne (pe_callB (call_repD hgd (Nat.lt_of_le_of_lt (Nat.add_le_add_left (by decide) _) hr.un)) (by rfl) m_repr (by decide +kernel) (pa_cons (pe_h h_book_error hr (by rfl) (pa_cons (pv 12) pa_nil)) pa_nil)) (pv 14) (nomark _)) (pw_or1 (pt_cmpR op_ne (pe_callB (call_repD hgd (Nat.lt_of_le_of_lt (Nat.add_le_add_left (by decide) _) hr.un)) (by rfl) m_repr (by decide +kernel) (pa_cons (pv 12) pa_nil)) (pv 13) (nomark _))))))
            (pss_one (ps_ret pe_bl))
            pss_nil)))))))))))))))
      (pss_one (ps_ret (pe_cmpR (show OpR _ _ (rEqD K) from op_eqD hr.units) (pe_h h_book_error hr (by rfl) (pa_cons (pe_tup (pa_cons pe_int (pa_cons (pe_tup (pa_cons (pe_tup (pa_cons pe_int (pa_cons pe_int pa_nil))) (pa_cons (pe_tup (pa_cons pe_int pa_nil)) pa_nil))) pa_nil))) pa_nil)) (pe_tup (pa_cons pe_str (pa_cons pe_int pa_nil))) (nomark _)))))), ?_⟩
  obtain ⟨a, ns, rfl, hS, hl, z⟩ := h
  refine ⟨.ref a, rfl, a, ns, rfl, hS, by omega, fun s g f H' sm stk => ?_⟩
  obtain ⟨big, flat, tot, trn, k1, k2, k3, k4⟩ := stk
  have stk : Stk s g f H' := ⟨big, flat, tot, trn, k1, k2, k3, k4⟩
  have st : S (FS s g f) H' [s, g, f] [.no, .v (.ref s), .no, .no, .no, .no, .no, .no, .no, .no, .no, .no, .no, .no, .no, .no, .no] ((L2.start N_law [.ref a]).set 1 (some (.ref s))) H' := by
    refine ⟨.refl _, stk, fun _ h => h, fun b hb => ?_, trivial, rfl, fun i x e => ?_, fun i j t es fs h1 h2 => ?_⟩
    · simp only [List.mem_cons, List.not_mem_nil, or_false] at hb
      rcases hb with rfl | rfl | rfl
      · rw [k1]; exact fun z => nomatch z
      · rw [k2]; exact fun z => nomatch z
      · rw [k3]; exact fun z => nomatch z
    · match i, e with
      | 1, e => cases e; exact ⟨_, rfl, rfl⟩
      | 0, e | 2, e | 3, e | 4, e | 5, e | 6, e | 7, e | 8, e | 9, e | 10, e | 11, e | 12, e | 13, e | 14, e | 15, e | 16, e => cases e; exact ⟨_, rfl, trivial⟩
    · have nm := no_m (A := []) (Δ := [.no, .v (.ref s), .no, .no, .no, .no, .no, .no, .no, .no, .no, .no, .no, .no, .no, .no, .no]) rfl i t es h1
      exact nomatch nm
  have use : ∀ {X : L2.St → Hp → Prop} {ts : TS} {D : Ends}, X = ts D → D.rt = Q → Sq (FS s g f) [s, g, f] [.no, .v (.ref s), .no, .no, .no, .no, .no, .no, .no, .no, .no, .no, .no, .no, .no, .no, .no] ts { nx := fun _ _ => False, rt := fun d => d = .bool true } → gName 1 (.ref s) (L2.start N_law [.ref a]) H' X := fun {X ts D} hX hD hs => by
    subst hX
    exact hs H' _ H' st D (fun _ _ _ _ _ h => h.elim) (fun _ v d H2 _ _ _ dt hd => by
      subst hd
      cases dt
      rw [hD]
      exact z H2) (fun _ _ _ _ _ h => h.elim) (fun _ _ _ _ _ h => h.elim)
  dsimp only
  refine use (X := _) (by exact rfl) (by exact rfl) ?_
  refine sq_seq <| sq_for (tg_name 2) <| evi_rng1 <| eva_one <| ev_int ⟨4, rfl, by decide, by decide, fun _ Δ' => Δ' = [.no, .v (.ref s), .no, .no, .no, .no, .no, .no, .no, .no, .no, .no, .no, .no, .no, .no, .no], rfl, fun i e Δ' he hΔ hmm => ?_, fun Δ' hΔ => ?_⟩
  · subst hΔ
    refine ⟨_, rfl, ?_⟩
    refine sq_seq <| sq_asg (tg_two 3 4) <| ev_callS rfl <| eva_cons <| ev_int <| eva_one <| ev_int ⟨⟨8, 8, rfl, by decide, by decide, by decide, by decide⟩, fun d hd => ?_⟩
    obtain ⟨m, rows, rfl, m1, m2, rl, rok⟩ := hd
    refine ⟨_, rfl, ?_⟩
    refine sq_seq <| sq_set <| ev_slT <| ev_catT <| ev_var rfl <| ev_tup <| eva_one <| ev_repT <| ev_tup <| eva_one <| ev_int ⟨by simp, ev_var rfl ⟨[.int 0], m, rfl, rfl, by simp, m1, by omega, by simp, by simp, _, _, rfl, rfl, by simp; omega, evo_none <| evo_some <| ev_int ⟨8, rfl, _, rfl, ?_⟩⟩⟩
    rw [rep_flat]
    obtain ⟨rs, ers⟩ : ∃ rs, Dl.cutD (rows ++ [PyData.tuple (List.replicate m.toNat (.int 0))]) none (some 8) = rs := ⟨_, rfl⟩
    have rs0 := cut8 (m := m) (rows := rows ++ [PyData.tuple (List.replicate m.toNat (.int 0))]) fun x hx => by
      rcases List.mem_append.mp hx with hx | hx
      · exact rok x hx
      · rw [List.mem_singleton.mp hx]
        refine rowOk_of (by rw [List.length_replicate]; omega) fun x hx => ?_
        rw [List.eq_of_mem_replicate hx]
        rfl
    rw [ers, List.length_append] at rs0
    rw [ers]
    obtain ⟨rsl, rsk⟩ := rs0
    have rs1 : 1 ≤ rs.length := by rw [rsl, List.length_singleton]; omega
    have rs8 : rs.length ≤ 8 := by omega
    clear rsl ers rl rok
    refine sq_seq <| sq_set <| ev_slT <| ev_repT <| ev_var rfl <| ev_int ⟨rs, 9, rfl, rfl, by intro e; rw [e] at rs1; simp at rs1, by decide, by decide, by omega, evo_none <| evo_some <| ev_int ⟨8, rfl, _, rfl, ?_⟩⟩
    obtain ⟨ff, eff⟩ : ∃ ff, Dl.cutD (List.replicate (9 : Int).toNat rs).flatten none (some 8) = ff := ⟨_, rfl⟩
    have ff0 := cut8 (m := m) (rows := (List.replicate (9 : Int).toNat rs).flatten) fun x hx => rsk x (mem_rep _ hx)
    rw [eff] at ff0
    rw [eff]
    obtain ⟨ffl, ffk⟩ := ff0
    have ff8 : ff.length = 8 := by
      rw [ffl, List.length_flatten, List.map_replicate, List.sum_replicate_nat]
      have : (9 : Int).toNat = 9 := rfl
      rw [this]
      omega
    clear eff ffl
    have smN : ∀ {k : Nat}, Sm k (.int m) := sm_small (by omega) (by omega)
    have smR : Sm 2 (.tuple rs) := .tup (by omega) fun x hx => sm_row m2 (rsk x hx)
    have smF : Sm 2 (.tuple ff) := .tup (by omega) fun x hx => sm_row m2 (ffk x hx)
    have c1 := cutD_len (es := rs) (lo := none) (hi := some 1)
    refine sq_seq <| sq_set <| ev_lst <| eva_cons <| ev_tup <| eva_cons <| ev_var rfl <| eva_one <| ev_var rfl ⟨by simp, eva_cons <| ev_tup <| eva_cons <| ev_var rfl <| eva_one <| ev_var rfl ⟨by simp, eva_cons <| ev_tup <| eva_cons <| ev_var rfl <| eva_one <| ev_catT <| ev_var rfl <| ev_slT <| ev_var rfl <| evo_none <| evo_some <| ev_int ⟨1, rfl, rs, rfl, _, _, rfl, rfl, by omega, by simp, eva_cons <| ev_tup <| eva_cons <| ev_var rfl <| eva_one <| ev_tup <| eva_nil ⟨by simp, by simp, eva_cons <| ev_tup <| eva_cons <| ev_var rfl <| eva_one <| EvN.ev <| evn_listOf <| eva_one <| ev_var rfl ⟨_, rs, rfl, rfl, by simp, eva_one <| ev_lst <| eva_cons <| ev_var rfl <| eva_one <| ev_var rfl ⟨by simp, by simp, ?_⟩⟩⟩⟩⟩⟩
    generalize hts : ([_, _, _, _, _, _] : List PyData) = ts
    have hT : ts.length = 6 ∧ ∀ x ∈ ts, Sm 4 x := by
      subst hts
      refine ⟨rfl, fun x hm => Sm.up (k := 3) ?_ (by decide)⟩
      simp only [List.mem_cons, List.not_mem_nil, or_false] at hm
      rcases hm with rfl | rfl | rfl | rfl | rfl | rfl
      · exact two_sm smN smR
      · exact two_sm smN smF
      · refine two_sm smN (.tup (by rw [List.length_append]; omega) fun x hx => ?_)
        rcases List.mem_append.mp hx with hx | hx
        · exact sm_row m2 (ffk x hx)
        · exact sm_row m2 (rsk x (cutD_mem hx))
      · exact two_sm smN (.tup (by simp) fun _ z => nomatch z)
      · exact two_sm smN (.lst (by omega) fun x hx => sm_row m2 (rsk x hx))
      · refine .lst (by simp) fun x hx => ?_
        simp only [List.mem_cons, List.not_mem_nil, or_false] at hx
        rcases hx with rfl | rfl
        · exact smN
        · exact smR
    clear hts
    have smC : ∀ {k : Nat} {i : Int}, -1000 ≤ i → i ≤ 1000 → Sm k (.int i) := sm_small
    refine sq_seq <| sq_set <| ev_lst <| eva_cons <| ev_int <| eva_cons <| ev_int <| eva_cons <| ev_ii <| ev_var rfl <| ev_int ⟨m, 1, rfl, rfl, eva_cons <| ev_ii <| ev_var rfl <| ev_int ⟨m, 1, rfl, rfl, eva_cons <| ev_bl <| eva_cons <| ev_bl <| eva_cons <| ev_strOf <| eva_one <| ev_var rfl ⟨m, rfl, ?_, eva_cons <| ev_non <| eva_cons <| ev_neg <| ev_var rfl ⟨m, rfl, eva_cons <| ev_lst <| eva_one <| ev_var rfl ⟨by simp, eva_one <| ev_dict ⟨by simp, ?_⟩⟩⟩⟩⟩⟩
    · exact Nat.lt_of_le_of_lt (Nat.log2_le_self _) (by omega)
    generalize hcs : ([_, _, _, _, _, _, _, _, _, _, _] : List PyData) = cs
    have hC : cs.length = 11 ∧ ∀ x ∈ cs, Sm 1 x := by
      subst hcs
      refine ⟨rfl, fun x hm => ?_⟩
      simp only [List.mem_cons, List.not_mem_nil, or_false] at hm
      rcases hm with rfl | rfl | rfl | rfl | rfl | rfl | rfl | rfl | rfl | rfl | rfl
      · exact smC (by omega) (by omega)
      · exact smC (by omega) (by omega)
      · exact smC (by omega) (by omega)
      · exact smC (by omega) (by omega)
      · exact .bl _
      · exact .bl _
      · exact sm_strN m1 m2
      · exact .non
      · exact smC (by omega) (by omega)
      · exact .lst (by simp) fun x hx => by
          rw [List.mem_singleton.mp hx]
          exact smN
      · exact .dct
    clear hcs
    refine sq_seq <| sq_set <| EvN.ev <| evn_cat <| ev_var rfl <| EvN.ev <| evn_each (tg_name 16) (by simp) (Sm 4) <| evi_list <| ev_var rfl ⟨cs, rfl, by omega, fun d hd p np => ?_, fun ys hy hP => ⟨ts, ys, rfl, rfl, by omega, ?_⟩⟩
    · exact ⟨_, rfl, ev_tup <| eva_cons <| ev_var rfl <| eva_one <| ev_var rfl ⟨by simp, (two_sm ((hC.2 d hd).up (by decide)) smR).up (by decide)⟩⟩
    have hT2 : (ts ++ ys).length = 17 ∧ ∀ x ∈ ts ++ ys, Sm 4 x := ⟨by rw [List.length_append]; omega, fun x hx => (List.mem_append.mp hx).elim (hT.2 x) (hP x)⟩
    generalize ts ++ ys = ts at hT2
    refine sq_seq <| sq_setM <| evn_cat <| ev_var rfl <| ev_lst <| eva_cons <| ev_tup <| eva_one <| ev_var rfl ⟨by simp, eva_cons <| ev_tup <| eva_cons <| ev_var rfl <| eva_cons <| ev_var rfl <| eva_one <| ev_tup <| eva_nil ⟨by simp, by simp, eva_cons <| ev_tup <| eva_cons <| ev_var rfl <| eva_one <| ev_var rfl ⟨by simp, eva_cons <| ev_var rfl <| eva_cons <| ev_var rfl <| eva_cons <| ev_dict <| eva_cons <| ev_tup <| eva_cons <| ev_var rfl <| eva_one <| ev_non ⟨by simp, eva_cons <| ev_tup <| eva_cons <| ev_int <| eva_one <| ev_tup <| eva_one <| ev_tup <| eva_one <| ev_var rfl ⟨by simp, by simp, by simp, eva_one <| ev_non ⟨by simp, ts, _, rfl, rfl, by simp; omega, fun t nt => ?_⟩⟩⟩⟩⟩⟩
    generalize hus : ([_, _, _, _, _, _, _, _, _] : List PyData) = us
    have hU : us.length = 9 ∧ ∀ x ∈ us, Sm 4 x := by
      subst hus
      refine ⟨rfl, fun x hm => Sm.up (k := 3) ?_ (by decide)⟩
      simp only [List.mem_cons, List.not_mem_nil, or_false] at hm
      rcases hm with rfl | rfl | rfl | rfl | rfl | rfl | rfl | rfl | rfl
      · exact .tup (by simp) fun x hx => by
          rw [List.mem_singleton.mp hx]
          exact smN
      · refine .tup (by simp) fun x hx => ?_
        simp only [List.mem_cons, List.not_mem_nil, or_false] at hx
        rcases hx with rfl | rfl | rfl
        · exact smN
        · exact smR
        · exact .tup (by simp) fun _ z => nomatch z
      · exact two_sm smR smN
      · exact smR.up (by decide)
      · exact smN
      · exact .dct
      · exact two_sm smN .non
      · refine two_sm (smC (by omega) (by omega)) (.tup (by simp) fun x hx => ?_)
        rw [List.mem_singleton.mp hx]
        exact .tup (by simp) fun x hx => by
          rw [List.mem_singleton.mp hx]
          exact smN
      · exact .non
    clear hus
    have hT3 : (ts ++ us).length = 26 ∧ ∀ x ∈ ts ++ us, Sm 4 x := ⟨by rw [List.length_append]; omega, fun x hx => (List.mem_append.mp hx).elim (hT2.2 x) (hU.2 x)⟩
    generalize ts ++ us = ts at hT3
    refine sq_seq <| sq_for (tg_name 8) <| evi_rng1 <| eva_one <| ev_int ⟨10, rfl, by decide, by decide, fun j Δ' => ∃ ths : List PyData, Δ' = [.no, .v (.ref s), .d e, .d (.int m), .d (.tuple rs), .d (.tuple ff), .m t ths, .d (.list cs), .no, .no, .no, .no, .no, .no, .no, .no, .no] ∧ ths.length = 26 + 4 * j ∧ ∀ x ∈ ths, Sm 4 x, ⟨ts, rfl, hT3⟩, fun j e2 Δ' he2 ⟨ths, hΔ, hl2, hb⟩ hmm2 => ?_, fun Δ' ⟨ths, hΔ, hl2, hb⟩ => ?_⟩
    · subst hΔ
      have hj := (List.getElem?_eq_some_iff.mp he2).1
      have nl : (rngD 10).length = 10 := by
        unfold rngD
        rw [List.length_map, List.length_range] <;> rfl
      refine ⟨_, rfl, sq_seq <| sq_par <| eva_cons <| ev_callS rfl <| eva_one <| ev_len <| eva_one <| ev_var rfl ⟨_, rs, rfl, rfl, ⟨_, rfl, by omega, by omega⟩, fun d1 hd1 => eva_one <| ev_callS rfl <| eva_one <| ev_len <| eva_one <| ev_var rfl ⟨_, rs, rfl, rfl, ⟨_, rfl, by omega, by omega⟩, fun d2 hd2 => ⟨_, _, rfl, ?_⟩⟩⟩⟩
      obtain ⟨at_, rfl, a1, a2⟩ := hd1
      obtain ⟨to_, rfl, o1, o2⟩ := hd2
      obtain ⟨ra, rae, ram⟩ := at_int a1 a2
      obtain ⟨rb, rbe, rbm⟩ := at_int o1 o2
      obtain ⟨fa, fae, fam⟩ := at_int (es := ff) (i := at_) a1 (by omega)
      obtain ⟨f7, f7e, f7m⟩ := at_int (es := ff) (i := 7) (by omega) (by omega)
      have cl := fun (es : List PyData) lo hi => cutD_len (es := es) (lo := lo) (hi := hi)
      refine sq_seq <| sq_set <| ev_catT <| ev_catT <| ev_slT <| ev_var rfl <| evo_none <| evo_some <| ev_var rfl ⟨at_, rfl, rs, rfl, ev_tup <| eva_one <| ev_callS rfl <| eva_one <| ev_ix <| ev_var rfl <| ev_var rfl ⟨rs, at_, ra, rfl, rfl, rae, odd_row m1 m2 (rsk ra ram), fun x1 hx1 => ⟨by simp, _, _, rfl, rfl, ?_, ev_slT <| ev_var rfl <| evo_some <| ev_ii <| ev_var rfl <| ev_int ⟨at_, 1, rfl, rfl, _, rfl, evo_none ⟨rs, rfl, _, _, rfl, rfl, ?_, ?_⟩⟩⟩⟩⟩
      · rw [cut_to a1, List.length_singleton]
        omega
      · rw [List.length_append, cut_to a1, cut_from (by omega), List.length_singleton]
        omega
      have hx1' : Sm 2 x1 := hx1
      obtain ⟨once, eon⟩ : ∃ once, Dl.cutD rs none (some at_) ++ [x1] ++ Dl.cutD rs (some (at_ + 1)) none = once := ⟨_, rfl⟩
      have on0 : once.length ≤ 9 ∧ ∀ x ∈ once, Sm 2 x := by
        subst eon
        refine ⟨by rw [List.length_append, List.length_append, cut_to a1, cut_from (by omega), List.length_singleton]; omega, fun x hx => ?_⟩
        rcases List.mem_append.mp hx with hx | hx
        · rcases List.mem_append.mp hx with hx | hx
          · exact (sm_row m2 (rsk x (cutD_mem hx))).up (by decide)
          · rw [List.mem_singleton.mp hx]
            exact hx1'
        · exact (sm_row m2 (rsk x (cutD_mem hx))).up (by decide)
      rw [eon]
      have smO : Sm 4 (.tuple [.int m, .tuple once]) := two_sm smN (.tup (by omega) on0.2)
      clear eon
      refine sq_seq <| sq_append (t := t) (ds := ths) rfl <| ev_tup <| eva_cons <| ev_var rfl <| eva_one <| ev_var rfl ⟨by simp, by omega, ?_⟩
      refine sq_seq <| sq_append (t := t) (ds := ths ++ [_]) rfl <| ev_tup <| eva_cons <| ev_var rfl <| eva_one <| ev_catT <| ev_catT <| ev_slT <| ev_var rfl <| evo_none <| evo_some <| ev_var rfl ⟨to_, rfl, once, rfl, ev_tup <| eva_one <| ev_callS rfl <| eva_one <| ev_ix <| ev_var rfl <| ev_var rfl ⟨rs, to_, rb, rfl, rfl, rbe, odd_row m1 m2 (rsk rb rbm), fun x2 hx2 => ⟨by simp, _, _, rfl, rfl, ?_, ev_slT <| ev_var rfl <| evo_some <| ev_ii <| ev_var rfl <| ev_int ⟨to_, 1, rfl, rfl, _, rfl, evo_none ⟨once, rfl, _, _, rfl, rfl, ?_, by simp, ?_, ?_⟩⟩⟩⟩⟩
      · rw [cut_to o1, List.length_singleton]
        omega
      · rw [List.length_append, cut_to o1, cut_from (by omega), List.length_singleton]
        omega
      · rw [List.length_append, List.length_singleton]
        omega
      have hx2' : Sm 2 x2 := hx2
      have smP : Sm 4 (.tuple [.int m, .tuple (Dl.cutD once none (some to_) ++ [x2] ++ Dl.cutD once (some (to_ + 1)) none)]) := by
        refine two_sm smN (.tup (by rw [List.length_append, List.length_append, cut_to o1, cut_from (by omega), List.length_singleton]; omega) fun x hx => ?_)
        rcases List.mem_append.mp hx with hx | hx
        · rcases List.mem_append.mp hx with hx | hx
          · exact on0.2 x (cutD_mem hx)
          · rw [List.mem_singleton.mp hx]
            exact hx2'
        · exact on0.2 x (cutD_mem hx)
      generalize PyData.tuple [.int m, .tuple (Dl.cutD once none (some to_) ++ [x2] ++ Dl.cutD once (some (to_ + 1)) none)] = th2 at smP
      refine sq_seq <| sq_append (t := t) (ds := ths ++ [_] ++ [_]) rfl <| ev_tup <| eva_cons <| ev_var rfl <| eva_one <| ev_catT <| ev_slT <| ev_var rfl <| evo_none <| evo_some <| ev_int ⟨7, rfl, ff, rfl, ev_tup <| eva_one <| ev_callS rfl <| eva_one <| ev_ix <| ev_var rfl <| ev_int ⟨ff, 7, f7, rfl, rfl, f7e, odd_row m1 m2 (ffk f7 f7m), fun x3 hx3 => ⟨by simp, _, _, rfl, rfl, ?_, by simp, ?_, ?_⟩⟩⟩
      · rw [cut_to (by decide), List.length_singleton]
        omega
      · rw [List.length_append, List.length_append, List.length_singleton, List.length_singleton]
        omega
      have hx3' : Sm 2 x3 := hx3
      have smQ : Sm 4 (.tuple [.int m, .tuple (Dl.cutD ff none (some 7) ++ [x3])]) := by
        refine two_sm smN (.tup (by rw [List.length_append, cut_to (by decide), List.length_singleton]; omega) fun x hx => ?_)
        rcases List.mem_append.mp hx with hx | hx
        · exact (sm_row m2 (ffk x (cutD_mem hx))).up (by decide)
        · rw [List.mem_singleton.mp hx]
          exact hx3'
      generalize PyData.tuple [.int m, .tuple (Dl.cutD ff none (some 7) ++ [x3])] = th3 at smQ
      refine sq_append (t := t) (ds := ths ++ [_] ++ [_] ++ [_]) rfl <| ev_tup <| eva_cons <| ev_var rfl <| eva_one <| ev_catT <| ev_catT <| ev_slT <| ev_var rfl <| evo_none <| evo_some <| ev_var rfl ⟨at_, rfl, ff, rfl, ev_tup <| eva_one <| ev_callS rfl <| eva_one <| ev_ix <| ev_var rfl <| ev_var rfl ⟨ff, at_, fa, rfl, rfl, fae, odd_row m1 m2 (ffk fa fam), fun x4 hx4 => ⟨by simp, _, _, rfl, rfl, ?_, ev_slT <| ev_var rfl <| evo_some <| ev_var rfl ⟨at_, rfl, evo_none ⟨ff, rfl, _, _, rfl, rfl, ?_, by simp, ?_, ?_⟩⟩⟩⟩⟩
      · rw [cut_to a1, List.length_singleton]
        omega
      · rw [List.length_append, cut_to a1, cut_from a1, List.length_singleton]
        omega
      · rw [List.length_append, List.length_append, List.length_append, List.length_singleton, List.length_singleton, List.length_singleton]
        omega
      have hx4' : Sm 2 x4 := hx4
      have smV : Sm 4 (.tuple [.int m, .tuple (Dl.cutD ff none (some at_) ++ [x4] ++ Dl.cutD ff (some at_) none)]) := by
        refine two_sm smN (.tup (by rw [List.length_append, List.length_append, cut_to a1, cut_from a1, List.length_singleton]; omega) fun x hx => ?_)
        rcases List.mem_append.mp hx with hx | hx
        · rcases List.mem_append.mp hx with hx | hx
          · exact (sm_row m2 (ffk x (cutD_mem hx))).up (by decide)
          · rw [List.mem_singleton.mp hx]
            exact hx4'
        · exact (sm_row m2 (ffk x (cutD_mem hx))).up (by decide)
      generalize PyData.tuple [.int m, .tuple (Dl.cutD ff none (some at_) ++ [x4] ++ Dl.cutD ff (some at_) none)] = th4 at smV
      refine back0 (A' := t :: [s, g, f]) (Δ0 := [.no, .v (.ref s), .d e, .d (.int m), .d (.tuple rs), .d (.tuple ff), .m t (ths ++ [.tuple [.int m, .tuple once]] ++ [th2] ++ [th3] ++ [th4]), .d (.list cs), .no, .no, .no, .no, .no, .no, .no, .no, .no]) ?_ (m_set (Δ := [.no, .v (.ref s), .d e, .d (.int m), .d (.tuple rs), .d (.tuple ff), .m t ths, .d (.list cs), .no, .no, .no, .no, .no, .no, .no, .no, .no]) (i := 6) rfl hmm2) ⟨_, rfl, ?_, fun x hx => ?_⟩
      · repeat first | exact Weak.nil | refine Weak.no ?_ | refine Weak.cons ?_
      · rw [List.length_append, List.length_append, List.length_append, List.length_append, List.length_singleton, List.length_singleton, List.length_singleton, List.length_singleton]
        omega
      · rcases List.mem_append.mp hx with hx | hx
        · rcases List.mem_append.mp hx with hx | hx
          · rcases List.mem_append.mp hx with hx | hx
            · rcases List.mem_append.mp hx with hx | hx
              · exact hb x hx
              · rw [List.mem_singleton.mp hx]
                exact smO
            · rw [List.mem_singleton.mp hx]
              exact smP
          · rw [List.mem_singleton.mp hx]
            exact smQ
        · rw [List.mem_singleton.mp hx]
          exact smV
    · subst hΔ
      refine sq_forEnumM (t := t) (ds := ths) (tg_two 8 12) rfl (fun _ Δ' => Δ' = [.no, .v (.ref s), .d e, .d (.int m), .d (.tuple rs), .d (.tuple ff), .m t ths, .d (.list cs), .no, .no, .no, .no, .no, .no, .no, .no, .no]) rfl (fun _ Δ' h => by rw [h]; rfl) (fun j th Δ' hth hΔ hmm2 => ?_) fun Δ' hΔ => ?_
      · subst hΔ
        have shT : Shw th := (hb th (List.mem_of_getElem? hth)).shw
        have shE : Shw (errD th) := err_shw th
        refine ⟨_, rfl, sq_seq <| sq_par <| eva_cons <| ev_repr <| eva_one <| ev_var rfl ⟨th, rfl, shT, eva_one <| ev_repr <| eva_one <| ev_callF <| eva_one <| ev_var rfl ⟨⟨th, rfl⟩, fun r hr => ⟨r, rfl, ?_, _, _, rfl, ?_⟩⟩⟩⟩
        · rw [show r = errD th from hr]
          exact shE
        obtain rfl : r = errD th := hr
        refine sq_seq <| sq_set <| ev_if <| evt_val <| ev_eq <| ev_iic <| ev_var rfl <| ev_int ⟨_, _, rfl, rfl, by decide, ev_int ⟨_, rfl, _, rfl, fun _ => ev_callKF (gD := fun ds es => ds ++ es) (fun h1 h2 => h1.append h2) <| eva_nil <| eva_one <| ev_var rfl ⟨⟨th, rfl⟩, fun r hr => ?_⟩, fun _ => ev_callF <| eva_one <| ev_var rfl ⟨⟨th, rfl⟩, fun r hr => ?_⟩⟩⟩
        all_goals obtain rfl : r = errD th := hr
        all_goals
          refine sq_if <| evt_or <| evt_val <| ev_ne <| ev_repr <| eva_one <| ev_var rfl ⟨_, rfl, shE, ev_var rfl ⟨_, rfl, _, rfl, fun hz => ?_, fun _ => evt_or <| evt_val <| ev_ne <| ev_repr <| eva_one <| ev_callF <| eva_one <| ev_var rfl ⟨⟨th, rfl⟩, fun r hr => ⟨r, rfl, ?_, ev_var rfl ⟨_, rfl, _, rfl, fun hz => ?_, fun _ => evt_val <| ev_ne <| ev_repr <| eva_one <| ev_var rfl ⟨th, rfl, shT, ev_var rfl ⟨_, rfl, _, rfl, fun hz => ?_, fun _ => ?_⟩⟩⟩⟩⟩⟩⟩
        all_goals first
          | (exfalso; simp at hz; done)
          | (exfalso; rw [show r = errD th from hr] at hz; simp at hz; done)
          | (rw [show r = errD th from hr]; exact shE)
          | skip
        all_goals
          refine sq_next <| back0 (A' := t :: [s, g, f]) (Δ0 := [.no, .v (.ref s), .d e, .d (.int m), .d (.tuple rs), .d (.tuple ff), .m t ths, .d (.list cs), .no, .no, .no, .no, .no, .no, .no, .no, .no]) ?_ hmm2 rfl
          repeat first | exact Weak.nil | refine Weak.no ?_ | refine Weak.cons ?_
      · subst hΔ
        refine back0 (A' := t :: [s, g, f]) (Δ0 := [.no, .v (.ref s), .no, .no, .no, .no, .no, .no, .no, .no, .no, .no, .no, .no, .no, .no, .no]) ?_ hmm rfl
        repeat first | exact Weak.nil | refine Weak.no ?_ | refine Weak.cons ?_
  · subst hΔ
    refine sq_ret <| ev_eqD <| ev_callF <| eva_one <| ev_tup <| eva_cons <| ev_int <| eva_one <| ev_tup <| eva_cons <| ev_tup <| eva_cons <| ev_int <| eva_one <| ev_int ⟨by simp, eva_one <| ev_tup <| eva_one <| ev_int ⟨by simp, by simp, by simp, ⟨_, rfl⟩, fun r hr => ev_tup <| eva_cons <| ev_str <| eva_one <| ev_int ⟨by simp, ?_⟩⟩⟩
    have hr' : r = errD (.tuple [.int 2, .tuple [.tuple [.int 1, .int 1], .tuple [.int 1]]]) := hr
    have e : errD (.tuple [.int 2, .tuple [.tuple [.int 1, .int 1], .tuple [.int 1]]]) = .tuple [.str "row", .int 1] := by rfl
    rw [e] at hr'
    subst hr'
    have hs : SeqAt.shaped (.tuple [.str "row", .int 1]) = true := by simp [SeqAt.shaped, PyData.canLay0, PyData.canLayAll0, PyData.depth, PyData.depthAll]; decide +kernel
    refine ⟨hs, hs, ?_⟩
    show PyData.bool _ = .bool true
    simp [PyData.eqv, PyData.eqvAll]
end
end K01

/-! the law k01_what_is_a_book: what its top has written, the head -/
namespace K01
open PySem PySem.Spec PyProof.Rows L2 Dl
theorem all_mk {l : PySem.W.OpenLaw} {w : World} {K : PySem.W.Frag} {h : Heap} {mg : Str → Option Value} {fa : Addr} (X : K.In h) (G : h.Ns mainGlobals mg) (hfa : mg "law" = some (.ref fa))
    {f0 : Addr} {od0 an0 : Option Addr} {sl0 : Array (Option Value)} {oc0 kV0 dc0 pm0 cd0 ct0 : Value} (a0 : PySem.W.nsIn K mainGlobals "is_number" = some (some (.ref f0))) (l0 : K.lookup f0 = some ⟨oc0, od0, .func (PySem.W.fnOf "is_number" "is_number" (defArgs s_is_number) (defBody s_is_number) (defScope s_is_number) .none kV0 dc0 pm0 an0 cd0 ct0), sl0⟩) (c0 : PySem.W.codeIn K cd0 "is_number" = true) (k0 : PySem.W.keepIn K (.ref f0) = true)
    {f1 : Addr} {od1 an1 : Option Addr} {sl1 : Array (Option Value)} {oc1 kV1 dc1 pm1 cd1 ct1 : Value} (a1 : PySem.W.nsIn K mainGlobals "is_within" = some (some (.ref f1))) (l1 : K.lookup f1 = some ⟨oc1, od1, .func (PySem.W.fnOf "is_within" "is_within" (defArgs s_is_within) (defBody s_is_within) (defScope s_is_within) .none kV1 dc1 pm1 an1 cd1 ct1), sl1⟩) (c1 : PySem.W.codeIn K cd1 "is_within" = true) (k1 : PySem.W.keepIn K (.ref f1) = true)
    {f2 : Addr} {od2 an2 : Option Addr} {sl2 : Array (Option Value)} {oc2 kV2 dc2 pm2 cd2 ct2 : Value} (a2 : PySem.W.nsIn K mainGlobals "is_tuple_of" = some (some (.ref f2))) (l2 : K.lookup f2 = some ⟨oc2, od2, .func (PySem.W.fnOf "is_tuple_of" "is_tuple_of" (defArgs s_is_tuple_of) (defBody s_is_tuple_of) (defScope s_is_tuple_of) .none kV2 dc2 pm2 an2 cd2 ct2), sl2⟩) (c2 : PySem.W.codeIn K cd2 "is_tuple_of" = true) (k2 : PySem.W.keepIn K (.ref f2) = true)
    {f3 : Addr} {od3 an3 : Option Addr} {sl3 : Array (Option Value)} {oc3 kV3 dc3 pm3 cd3 ct3 : Value} (a3 : PySem.W.nsIn K mainGlobals "_has_book_form" = some (some (.ref f3))) (l3 : K.lookup f3 = some ⟨oc3, od3, .func (PySem.W.fnOf "_has_book_form" "_has_book_form" (defArgs s__has_book_form) (defBody s__has_book_form) (defScope s__has_book_form) .none kV3 dc3 pm3 an3 cd3 ct3), sl3⟩) (c3 : PySem.W.codeIn K cd3 "_has_book_form" = true) (k3 : PySem.W.keepIn K (.ref f3) = true)
    {f4 : Addr} {od4 an4 : Option Addr} {sl4 : Array (Option Value)} {oc4 kV4 dc4 pm4 cd4 ct4 : Value} (a4 : PySem.W.nsIn K mainGlobals "is_tuple_within" = some (some (.ref f4))) (l4 : K.lookup f4 = some ⟨oc4, od4, .func (PySem.W.fnOf "is_tuple_within" "is_tuple_within" (defArgs s_is_tuple_within) (defBody s_is_tuple_within) (defScope s_is_tuple_within) .none kV4 dc4 pm4 an4 cd4 ct4), sl4⟩) (c4 : PySem.W.codeIn K cd4 "is_tuple_within" = true) (k4 : PySem.W.keepIn K (.ref f4) = true)
    {f5 : Addr} {od5 an5 : Option Addr} {sl5 : Array (Option Value)} {oc5 kV5 dc5 pm5 cd5 ct5 : Value} (a5 : PySem.W.nsIn K mainGlobals "book_error" = some (some (.ref f5))) (l5 : K.lookup f5 = some ⟨oc5, od5, .func (PySem.W.fnOf "book_error" "book_error" (defArgs s_book_error) (defBody s_book_error) (defScope s_book_error) .none kV5 dc5 pm5 an5 cd5 ct5), sl5⟩) (c5 : PySem.W.codeIn K cd5 "book_error" = true) (k5 : PySem.W.keepIn K (.ref f5) = true)
    {f6 : Addr} {od6 an6 : Option Addr} {sl6 : Array (Option Value)} {oc6 kV6 dc6 pm6 cd6 ct6 : Value} (a6 : PySem.W.nsIn K mainGlobals "_law_stock" = some (some (.ref f6))) (l6 : K.lookup f6 = some ⟨oc6, od6, .func (PySem.W.fnOf "_law_stock" "_law_stock" (defArgs s__law_stock) (defBody s__law_stock) (defScope s__law_stock) .none kV6 dc6 pm6 an6 cd6 ct6), sl6⟩) (c6 : PySem.W.codeIn K cd6 "_law_stock" = true) (k6 : PySem.W.keepIn K (.ref f6) = true)
    {f7 : Addr} {od7 an7 : Option Addr} {sl7 : Array (Option Value)} {oc7 kV7 dc7 pm7 cd7 ct7 : Value} (a7 : PySem.W.nsIn K mainGlobals "_law_draw" = some (some (.ref f7))) (l7 : K.lookup f7 = some ⟨oc7, od7, .func (PySem.W.fnOf "_law_draw" "_law_draw" (defArgs s__law_draw) (defBody s__law_draw) (defScope s__law_draw) .none kV7 dc7 pm7 an7 cd7 ct7), sl7⟩) (c7 : PySem.W.codeIn K cd7 "_law_draw" = true) (k7 : PySem.W.keepIn K (.ref f7) = true)
    {f8 : Addr} {od8 an8 : Option Addr} {sl8 : Array (Option Value)} {oc8 kV8 dc8 pm8 cd8 ct8 : Value} (a8 : PySem.W.nsIn K mainGlobals "_law_pick" = some (some (.ref f8))) (l8 : K.lookup f8 = some ⟨oc8, od8, .func (PySem.W.fnOf "_law_pick" "_law_pick" (defArgs s__law_pick) (defBody s__law_pick) (defScope s__law_pick) .none kV8 dc8 pm8 an8 cd8 ct8), sl8⟩) (c8 : PySem.W.codeIn K cd8 "_law_pick" = true) (k8 : PySem.W.keepIn K (.ref f8) = true)
    {f9 : Addr} {od9 an9 : Option Addr} {sl9 : Array (Option Value)} {oc9 kV9 dc9 pm9 cd9 ct9 : Value} (a9 : PySem.W.nsIn K mainGlobals "_law_row" = some (some (.ref f9))) (l9 : K.lookup f9 = some ⟨oc9, od9, .func (PySem.W.fnOf "_law_row" "_law_row" (defArgs s__law_row) (defBody s__law_row) (defScope s__law_row) .none kV9 dc9 pm9 an9 cd9 ct9), sl9⟩) (c9 : PySem.W.codeIn K cd9 "_law_row" = true) (k9 : PySem.W.keepIn K (.ref f9) = true)
    {f10 : Addr} {od10 an10 : Option Addr} {sl10 : Array (Option Value)} {oc10 kV10 dc10 pm10 cd10 ct10 : Value} (a10 : PySem.W.nsIn K mainGlobals "_law_book" = some (some (.ref f10))) (l10 : K.lookup f10 = some ⟨oc10, od10, .func (PySem.W.fnOf "_law_book" "_law_book" (defArgs s__law_book) (defBody s__law_book) (defScope s__law_book) .none kV10 dc10 pm10 an10 cd10 ct10), sl10⟩) (c10 : PySem.W.codeIn K cd10 "_law_book" = true) (k10 : PySem.W.keepIn K (.ref f10) = true)
    {f11 : Addr} {od11 an11 : Option Addr} {sl11 : Array (Option Value)} {oc11 kV11 dc11 pm11 cd11 ct11 : Value} (a11 : PySem.W.nsIn K mainGlobals "_law_is_whole" = some (some (.ref f11))) (l11 : K.lookup f11 = some ⟨oc11, od11, .func (PySem.W.fnOf "_law_is_whole" "_law_is_whole" (defArgs s__law_is_whole) (defBody s__law_is_whole) (defScope s__law_is_whole) .none kV11 dc11 pm11 an11 cd11 ct11), sl11⟩) (c11 : PySem.W.codeIn K cd11 "_law_is_whole" = true) (k11 : PySem.W.keepIn K (.ref f11) = true)
    {f12 : Addr} {od12 an12 : Option Addr} {sl12 : Array (Option Value)} {oc12 kV12 dc12 pm12 cd12 ct12 : Value} (a12 : PySem.W.nsIn K mainGlobals "_law_due" = some (some (.ref f12))) (l12 : K.lookup f12 = some ⟨oc12, od12, .func (PySem.W.fnOf "_law_due" "_law_due" (defArgs s__law_due) (defBody s__law_due) (defScope s__law_due) .none kV12 dc12 pm12 an12 cd12 ct12), sl12⟩) (c12 : PySem.W.codeIn K cd12 "_law_due" = true) (k12 : PySem.W.keepIn K (.ref f12) = true)
    {f13 : Addr} {od13 an13 : Option Addr} {sl13 : Array (Option Value)} {oc13 kV13 dc13 pm13 cd13 ct13 : Value} (a13 : PySem.W.nsIn K mainGlobals "_law_odd_row" = some (some (.ref f13))) (l13 : K.lookup f13 = some ⟨oc13, od13, .func (PySem.W.fnOf "_law_odd_row" "_law_odd_row" (defArgs s__law_odd_row) (defBody s__law_odd_row) (defScope s__law_odd_row) .none kV13 dc13 pm13 an13 cd13 ct13), sl13⟩) (c13 : PySem.W.codeIn K cd13 "_law_odd_row" = true) (k13 : PySem.W.keepIn K (.ref f13) = true)
    {f14 : Addr} {od14 an14 : Option Addr} {sl14 : Array (Option Value)} {oc14 kV14 dc14 pm14 cd14 ct14 : Value} (a14 : PySem.W.nsIn K mainGlobals "law" = some (some (.ref f14))) (l14 : K.lookup f14 = some ⟨oc14, od14, .func (PySem.W.fnOf "law" "law" (defArgs s_law) (defBody s_law) (defScope s_law) .none kV14 dc14 pm14 an14 cd14 ct14), sl14⟩) (c14 : PySem.W.codeIn K cd14 "law" = true) (k14 : PySem.W.keepIn K (.ref f14) = true)
    (z_isinstance : PySem.W.nsIn K mainGlobals "isinstance" = some none)
    (z_int : PySem.W.nsIn K mainGlobals "int" = some none)
    (z_bool : PySem.W.nsIn K mainGlobals "bool" = some none)
    (z_tuple : PySem.W.nsIn K mainGlobals "tuple" = some none)
    (z_len : PySem.W.nsIn K mainGlobals "len" = some none)
    (z_all : PySem.W.nsIn K mainGlobals "all" = some none)
    (z_enumerate : PySem.W.nsIn K mainGlobals "enumerate" = some none)
    (z_sum : PySem.W.nsIn K mainGlobals "sum" = some none)
    (z_range : PySem.W.nsIn K mainGlobals "range" = some none)
    (z_list : PySem.W.nsIn K mainGlobals "list" = some none)
    (z_str : PySem.W.nsIn K mainGlobals "str" = some none)
    (z_repr : PySem.W.nsIn K mainGlobals "repr" = some none)
    {t_MAX_CELLS : Tok} (y_MAX_CELLS : PySem.W.nsIn K mainGlobals "MAX_CELLS" = some (some (.int 8 t_MAX_CELLS)))
    {t_MAX_ROWS : Tok} (y_MAX_ROWS : PySem.W.nsIn K mainGlobals "MAX_ROWS" = some (some (.int 8 t_MAX_ROWS)))
    {t_MAX_ITEM : Tok} (y_MAX_ITEM : PySem.W.nsIn K mainGlobals "MAX_ITEM" = some (some (.int 99 t_MAX_ITEM)))
    : ∃ fd : FuncData, (∀ (s : Shared) (v : Value), BindsTo s fd ⟨[v], []⟩ [("script", v)]) ∧ ∀ base : Heap, K.In base → base.Ns mainGlobals mg → FnG l.prog w K mg base 5 fa fd ["script"] (spLaw K 63) := by
  have e := hfa.symm.trans (PySem.W.mg_of X G a14)
  cases e
  have g : Gb mg := ⟨PySem.W.mg_none_of X G z_isinstance, PySem.W.mg_none_of X G z_int, PySem.W.mg_none_of X G z_bool, PySem.W.mg_none_of X G z_tuple, PySem.W.mg_none_of X G z_len, PySem.W.mg_none_of X G z_all, PySem.W.mg_none_of X G z_enumerate, PySem.W.mg_none_of X G z_sum, PySem.W.mg_none_of X G z_range, PySem.W.mg_none_of X G z_list, PySem.W.mg_none_of X G z_str, PySem.W.mg_none_of X G z_repr, ⟨_, PySem.W.mg_of X G y_MAX_CELLS⟩, ⟨_, PySem.W.mg_of X G y_MAX_ROWS⟩, ⟨_, PySem.W.mg_of X G y_MAX_ITEM⟩⟩
  have F0 := fun_mk (st := s_is_number) l0 c0 k0
  have F1 := fun_mk (st := s_is_within) l1 c1 k1
  have F2 := fun_mk (st := s_is_tuple_of) l2 c2 k2
  have F3 := fun_mk (st := s__has_book_form) l3 c3 k3
  have F4 := fun_mk (st := s_is_tuple_within) l4 c4 k4
  have F5 := fun_mk (st := s_book_error) l5 c5 k5
  have F6 := fun_mk (st := s__law_stock) l6 c6 k6
  have F7 := fun_mk (st := s__law_draw) l7 c7 k7
  have F8 := fun_mk (st := s__law_pick) l8 c8 k8
  have F9 := fun_mk (st := s__law_row) l9 c9 k9
  have F10 := fun_mk (st := s__law_book) l10 c10 k10
  have F11 := fun_mk (st := s__law_is_whole) l11 c11 k11
  have F12 := fun_mk (st := s__law_due) l12 c12 k12
  have F13 := fun_mk (st := s__law_odd_row) l13 c13 k13
  have F14 := fun_mk (st := s_law) l14 c14 k14
  have b0 := F0.binds (ps := p_is_number) fun _ _ _ _ _ _ us hl => match us, hl with | [_], _ => rfl
  have b1 := F1.binds (ps := p_is_within) fun _ _ _ _ _ _ us hl => match us, hl with | [_, _, _], _ => rfl
  have b2 := F2.binds (ps := p_is_tuple_of) fun _ _ _ _ _ _ us hl => match us, hl with | [_, _], _ => rfl
  have b3 := F3.binds (ps := p__has_book_form) fun _ _ _ _ _ _ us hl => match us, hl with | [_], _ => rfl
  have b4 := F4.binds (ps := p_is_tuple_within) fun _ _ _ _ _ _ us hl => match us, hl with | [_, _, _], _ => rfl
  have b5 := F5.binds (ps := p_book_error) fun _ _ _ _ _ _ us hl => match us, hl with | [_], _ => rfl
  have b6 := F6.binds (ps := p__law_stock) fun _ _ _ _ _ _ us hl => match us, hl with | [_], _ => rfl
  have b7 := F7.binds (ps := p__law_draw) fun _ _ _ _ _ _ us hl => match us, hl with | [_, _], _ => rfl
  have b8 := F8.binds (ps := p__law_pick) fun _ _ _ _ _ _ us hl => match us, hl with | [_, _], _ => rfl
  have b9 := F9.binds (ps := p__law_row) fun _ _ _ _ _ _ us hl => match us, hl with | [_, _], _ => rfl
  have b10 := F10.binds (ps := p__law_book) fun _ _ _ _ _ _ us hl => match us, hl with | [_, _, _], _ => rfl
  have b11 := F11.binds (ps := p__law_is_whole) fun _ _ _ _ _ _ us hl => match us, hl with | [_, _, _], _ => rfl
  have b12 := F12.binds (ps := p__law_due) fun _ _ _ _ _ _ us hl => match us, hl with | [_], _ => rfl
  have b13 := F13.binds (ps := p__law_odd_row) fun _ _ _ _ _ _ us hl => match us, hl with | [_, _], _ => rfl
  refine ⟨PySem.W.fnOf "law" "law" (defArgs s_law) (defBody s_law) (defScope s_law) .none kV14 dc14 pm14 an14 cd14 ct14, fun s v => .of_eq rfl, fun base _ _ => ?_⟩
  have h_is_number : Has l.prog w K mg base 1 "is_number" p_is_number (PF (fun ds => ∃ d, ds = [d]) R_num) := ⟨⟨f0, _, ok_is_number (k := 0) F0 g , PySem.W.mg_of X G a0, k0, b0⟩⟩
  have h_is_within : Has l.prog w K mg base 2 "is_within" p_is_within (PF C_within R_within) := ⟨⟨f1, _, ok_is_within F1 g h_is_number, PySem.W.mg_of X G a1, k1, b1⟩⟩
  have h_is_tuple_of : Has l.prog w K mg base 1 "is_tuple_of" p_is_tuple_of (PF C_tupn R_tupn) := ⟨⟨f2, _, ok_is_tuple_of F2 g , PySem.W.mg_of X G a2, k2, b2⟩⟩
  have h__has_book_form : Has l.prog w K mg base 3 "_has_book_form" p__has_book_form (PF (fun ds => ∃ d, ds = [d]) R_form) := ⟨⟨f3, _, ok__has_book_form F3 g h_is_tuple_of h_is_within, PySem.W.mg_of X G a3, k3, b3⟩⟩
  have h_is_tuple_within : Has l.prog w K mg base 3 "is_tuple_within" p_is_tuple_within (PF C_row R_row) := ⟨⟨f4, _, ok_is_tuple_within F4 g h_is_tuple_of h_is_within, PySem.W.mg_of X G a4, k4, b4⟩⟩
  have h_book_error : Has l.prog w K mg base 4 "book_error" p_book_error (PF (fun ds => ∃ d, ds = [d]) R_err) := ⟨⟨f5, _, ok_book_error F5 g h__has_book_form h_is_tuple_within, PySem.W.mg_of X G a5, k5, b5⟩⟩
  have h__law_stock : Has l.prog w K mg base 1 "_law_stock" p__law_stock (spStock K) := ⟨⟨f6, _, ok__law_stock F6 g , PySem.W.mg_of X G a6, k6, b6⟩⟩
  have h__law_draw : Has l.prog w K mg base 1 "_law_draw" p__law_draw (Dl.PS C_draw R_draw) := ⟨⟨f7, _, ok__law_draw F7 g , PySem.W.mg_of X G a7, k7, b7⟩⟩
  have h__law_pick : Has l.prog w K mg base 2 "_law_pick" p__law_pick (Dl.PS C_pick R_pick) := ⟨⟨f8, _, ok__law_pick F8 g h__law_draw, PySem.W.mg_of X G a8, k8, b8⟩⟩
  have h__law_row : Has l.prog w K mg base 3 "_law_row" p__law_row (Dl.PS C_drow R_drow) := ⟨⟨f9, _, ok__law_row F9 g h__law_draw h__law_pick, PySem.W.mg_of X G a9, k9, b9⟩⟩
  have h__law_book : Has l.prog w K mg base 4 "_law_book" p__law_book (Dl.PS C_book R_book) := ⟨⟨f10, _, ok__law_book F10 g h__law_draw h__law_pick h__law_row, PySem.W.mg_of X G a10, k10, b10⟩⟩
  have h__law_is_whole : Has l.prog w K mg base 1 "_law_is_whole" p__law_is_whole (PF C_within R_within) := ⟨⟨f11, _, ok__law_is_whole F11 g , PySem.W.mg_of X G a11, k11, b11⟩⟩
  have h__law_due : Has l.prog w K mg base 2 "_law_due" p__law_due (PF (fun ds => ∃ d, ds = [d]) R_err) := ⟨⟨f12, _, ok__law_due F12 g h__law_is_whole, PySem.W.mg_of X G a12, k12, b12⟩⟩
  have h__law_odd_row : Has l.prog w K mg base 3 "_law_odd_row" p__law_odd_row (Dl.PS C_odd R_odd) := ⟨⟨f13, _, ok__law_odd_row F13 g h__law_draw h__law_pick, PySem.W.mg_of X G a13, k13, b13⟩⟩
  have hk_book_error : HasK l.prog w K mg base 4 "book_error" p_book_error ["value"] (fun us ws => us ++ ws) (PF (fun ds => ∃ d, ds = [d]) R_err) := by
    refine ⟨⟨f5, _, fun us ws => us ++ ws, ok_book_error F5 g h__has_book_form h_is_tuple_within, PySem.W.mg_of X G a5, k5, ⟨fun s us ws _ hl => ?_, fun r rz => r.append rz⟩⟩⟩
    match us, ws, hl with
    | [u], [], _ => exact .of_eq rfl
    | [], [u], _ => exact .of_eq rfl
    | [], [], hl => cases hl
    | _ :: _ :: _, _, hl => simp at hl
    | _ :: _, _ :: _, hl => simp at hl
    | [], _ :: _ :: _, hl => simp at hl
  exact ok_law F14 g h__law_draw h__law_stock h__law_book h__law_odd_row h__law_due h_book_error hk_book_error
end K01

open PySem PySem.W PyProof.Rows in
set_option maxRecDepth 100000 in
set_option maxHeartbeats 0 in
theorem PySem.Challenge.cw_passingsums_k01_what_is_a_book_holds : PySem.Challenge.rw_passingsums_k01_what_is_a_book.Holds := by
  w_on; o_law; k_head; (case hw => w_witness2)
  k_fill
  refine Dl.walk_g (l := PySem.Challenge.rw_passingsums_k01_what_is_a_book) (n := 63) (k := 5) (x := "script") rfl (by decide) rfl ⟨rfl, by decide, by decide⟩ (fun w h Y => PySem.W.kIn_of Y) ?F
  case F =>
    intro w mg fa h KX G hmg
    refine' K01.all_mk KX G hmg ?a0 ?l0 ?c0 ?k0 ?a1 ?l1 ?c1 ?k1 ?a2 ?l2 ?c2 ?k2 ?a3 ?l3 ?c3 ?k3 ?a4 ?l4 ?c4 ?k4 ?a5 ?l5 ?c5 ?k5 ?a6 ?l6 ?c6 ?k6 ?a7 ?l7 ?c7 ?k7 ?a8 ?l8 ?c8 ?k8 ?a9 ?l9 ?c9 ?k9 ?a10 ?l10 ?c10 ?k10 ?a11 ?l11 ?c11 ?k11 ?a12 ?l12 ?c12 ?k12 ?a13 ?l13 ?c13 ?k13 ?a14 ?l14 ?c14 ?k14 ?z_isinstance ?z_int ?z_bool ?z_tuple ?z_len ?z_all ?z_enumerate ?z_sum ?z_range ?z_list ?z_str ?z_repr ?y_MAX_CELLS ?y_MAX_ROWS ?y_MAX_ITEM
    (case a0 => k_is)
    (case l0 => k_is)
    (case c0 => k_is)
    (case k0 => k_is)
    (case a1 => k_is)
    (case l1 => k_is)
    (case c1 => k_is)
    (case k1 => k_is)
    (case a2 => k_is)
    (case l2 => k_is)
    (case c2 => k_is)
    (case k2 => k_is)
    (case a3 => k_is)
    (case l3 => k_is)
    (case c3 => k_is)
    (case k3 => k_is)
    (case a4 => k_is)
    (case l4 => k_is)
    (case c4 => k_is)
    (case k4 => k_is)
    (case a5 => k_is)
    (case l5 => k_is)
    (case c5 => k_is)
    (case k5 => k_is)
    (case a6 => k_is)
    (case l6 => k_is)
    (case c6 => k_is)
    (case k6 => k_is)
    (case a7 => k_is)
    (case l7 => k_is)
    (case c7 => k_is)
    (case k7 => k_is)
    (case a8 => k_is)
    (case l8 => k_is)
    (case c8 => k_is)
    (case k8 => k_is)
    (case a9 => k_is)
    (case l9 => k_is)
    (case c9 => k_is)
    (case k9 => k_is)
    (case a10 => k_is)
    (case l10 => k_is)
    (case c10 => k_is)
    (case k10 => k_is)
    (case a11 => k_is)
    (case l11 => k_is)
    (case c11 => k_is)
    (case k11 => k_is)
    (case a12 => k_is)
    (case l12 => k_is)
    (case c12 => k_is)
    (case k12 => k_is)
    (case a13 => k_is)
    (case l13 => k_is)
    (case c13 => k_is)
    (case k13 => k_is)
    (case a14 => k_is)
    (case l14 => k_is)
    (case c14 => k_is)
    (case k14 => k_is)
    (case z_isinstance => k_is)
    (case z_int => k_is)
    (case z_bool => k_is)
    (case z_tuple => k_is)
    (case z_len => k_is)
    (case z_all => k_is)
    (case z_enumerate => k_is)
    (case z_sum => k_is)
    (case z_range => k_is)
    (case z_list => k_is)
    (case z_str => k_is)
    (case z_repr => k_is)
    (case y_MAX_CELLS => k_is)
    (case y_MAX_ROWS => k_is)
    (case y_MAX_ITEM => k_is)

