/-
  Contract of the document's Read, by one Lean function of the text; the world below stays as it was.
-/
import Derived.Test.YtjklbnakgkffnaaDoorT6
import Derived.Test.YtjklbnakgkffnaaDoorT8
namespace Go.Proofs.YtjklbnakgkffnaaDoor.Texts
open Go.RowKit
open Go.Proofs.YtjklbnakgkffnaaDoor.Whole
open Go.Proofs.YtjklbnakgkffnaaDoor.Frac
set_option linter.unusedVariables false
set_option linter.unusedSimpArgs false

/-! ### What is left of a text is an end of it -/

theorem digRun_suf : ∀ (l r : List UInt8) (acc n : Nat), digRun acc l = some (n, r) → r <:+ l
  | [], r, acc, n, h => by
    simp only [digRun, Option.some.injEq, Prod.mk.injEq] at h
    rw [← h.2]; exact List.suffix_refl _
  | c :: l, r, acc, n, h => by
    simp only [digRun] at h
    split at h
    · split at h
      · simp at h
      · exact (digRun_suf l r _ n h).trans (List.suffix_cons c l)
    · simp only [Option.some.injEq, Prod.mk.injEq] at h
      rw [← h.2]; exact List.suffix_refl _
theorem unsign_suf (l : List UInt8) : (unsign l).2 <:+ l := by
  unfold unsign
  split
  · exact List.suffix_refl _
  · split
    · exact List.suffix_cons _ _
    · exact List.suffix_refl _
theorem readA_suf (l r : List UInt8) (h : (readA l).r = some r) : r <:+ l := by
  unfold readA readL at h
  cases hd : digRun 0 (unsign l).2 with
  | none => rw [hd] at h; simp at h
  | some p =>
    obtain ⟨n, q⟩ := p
    rw [hd] at h
    simp only at h
    by_cases hl : q.length = (unsign l).2.length
    · rw [if_pos hl] at h; simp at h
    · rw [if_neg hl] at h
      simp only [Option.some.injEq] at h
      rw [← h]
      exact (digRun_suf _ _ _ _ hd).trans (unsign_suf l)

/-- Where a reader stands: nowhere, at the end, or at a byte. -/
inductive Stand (s : List UInt8) (x : At) : Prop where
  | no (h : x.r = none) (p : placeA s x = -1)
  | fin (h : x.r = some []) (p : placeA s x = s.length)
  | byte (j : Nat) (hj : j < s.length) (h : x.r = some (s[j] :: s.drop (j + 1))) (p : placeA s x = j)
theorem stand (s : List UInt8) (k : Nat) : Stand s (readA (s.drop k)) := by
  cases h : (readA (s.drop k)).r with
  | none => exact .no h (by unfold placeA; rw [h])
  | some r =>
    have hs : r <:+ s := (readA_suf _ _ h).trans (List.drop_suffix k s)
    have hl := hs.length_le
    have hr : r = s.drop (s.length - r.length) := List.suffix_iff_eq_drop.1 hs
    cases r with
    | nil => exact .fin h (by unfold placeA; rw [h]; simp)
    | cons b q =>
      simp only [List.length_cons] at hl hr
      have hj : s.length - (q.length + 1) < s.length := by omega
      have hd := List.drop_eq_getElem_cons hj
      rw [← hr] at hd
      refine .byte (s.length - (q.length + 1)) hj (by rw [h, hd]) ?_
      unfold placeA
      rw [h]
      simp only [List.length_cons]
      omega
theorem readA_nil : (readA []).r = none := rfl

/-! ### Rows of cells -/

def Row (v : World) (b : Nat) (l : List Value) : Prop := (∀ (j : Nat) (u : Value), l[j]? = some u → v.cell? ⟨b, j, none⟩ = some u) ∧ (∀ j, v.frozen? ⟨b, j, none⟩ = false) ∧ b < v.heap.size
theorem Row.below {v v' : World} {b B : Nat} {l : List Value} (h : Row v b l) (hb : Below B v v') (hB : b < B) : Row v' b l :=
  ⟨fun j u hu => (hb.cell (p := ⟨b, j, none⟩) hB).trans (h.1 j u hu), fun j => (hb.frozen (p := ⟨b, j, none⟩) hB).trans (h.2.1 j), by have := hb.size; have := h.2.2; omega⟩
theorem Row.go {v v' : World} {b : Nat} {l : List Value} (h : Row v b l) (hb : Below v.heap.size v v') : Row v' b l := h.below hb h.2.2
theorem Row.set {v : World} {b : Nat} {l : List Value} (h : Row v b l) (i : Nat) (u : Value) (hi : i < l.length) : Row (v.setCell ⟨b, i, none⟩ u) b (l.set i u) := by
  refine ⟨fun j x hx => ?_, fun j => (World.frozen?_setCell _ _ _ _).trans (h.2.1 j), by rw [World.size_setCell]; exact h.2.2⟩
  by_cases e : i = j
  · subst e
    rw [List.getElem?_set_self hi] at hx
    injection hx with hx
    subst hx
    exact World.cell?_setCell_same _ _ _ (h.1 i l[i] (List.getElem?_eq_getElem hi))
  · rw [List.getElem?_set_ne e] at hx
    rw [World.cell?_setCell_other _ _ _ _ (by intro q; injection q with q1 q2; exact e q2)]
    exact h.1 j x hx
theorem Row.other {v : World} {b : Nat} {l : List Value} (h : Row v b l) (b' i : Nat) (u : Value) (hn : b ≠ b') : Row (v.setCell ⟨b', i, none⟩ u) b l := by
  refine ⟨fun j x hx => ?_, fun j => (World.frozen?_setCell _ _ _ _).trans (h.2.1 j), by rw [World.size_setCell]; exact h.2.2⟩
  rw [World.cell?_setCell_other _ _ _ _ (by intro q; injection q with q1 q2; exact hn q1.symm)]
  exact h.1 j x hx

/-- How the world stands within Read: room for the answer, the frac, where it stands. -/
def RdAt (w v : World) (X : Nat) (a0 a1 a2 x0 x1 : Int) : Prop := Below w.heap.size w v ∧ Row v w.heap.size [.int .i64 0, .int .i64 0, .int .i64 0, .int .i64 0] ∧ Row v (w.heap.size + 1) [.int .i64 a0, .int .i64 a1, .int .i64 a2] ∧ Row v X [.int .i64 x0, .int .i64 x1] ∧ w.heap.size + 1 < X
theorem RdAt.go {w v v' : World} {X : Nat} {a0 a1 a2 x0 x1 : Int} (h : RdAt w v X a0 a1 a2 x0 x1) (hb : Below v.heap.size v v') : RdAt w v' X a0 a1 a2 x0 x1 :=
  ⟨Below.go h.1 hb, h.2.1.go hb, h.2.2.1.go hb, h.2.2.2.1.go hb, h.2.2.2.2⟩
theorem RdAt.set0 {w v : World} {X : Nat} {a0 a1 a2 x0 x1 : Int} (h : RdAt w v X a0 a1 a2 x0 x1) (y : Int) : RdAt w (v.setCell ⟨w.heap.size + 1, 0, none⟩ (.int .i64 y)) X y a1 a2 x0 x1 :=
  ⟨h.1.setCell (p := ⟨w.heap.size + 1, 0, none⟩) (Nat.le_succ _) _, h.2.1.other _ _ _ (by omega), h.2.2.1.set 0 _ (by simp), h.2.2.2.1.other _ _ _ (by have := h.2.2.2.2; omega), h.2.2.2.2⟩
theorem RdAt.set1 {w v : World} {X : Nat} {a0 a1 a2 x0 x1 : Int} (h : RdAt w v X a0 a1 a2 x0 x1) (y : Int) : RdAt w (v.setCell ⟨w.heap.size + 1, 1, none⟩ (.int .i64 y)) X a0 y a2 x0 x1 :=
  ⟨h.1.setCell (p := ⟨w.heap.size + 1, 1, none⟩) (Nat.le_succ _) _, h.2.1.other _ _ _ (by omega), h.2.2.1.set 1 _ (by simp), h.2.2.2.1.other _ _ _ (by have := h.2.2.2.2; omega), h.2.2.2.2⟩
theorem RdAt.set2 {w v : World} {X : Nat} {a0 a1 a2 x0 x1 : Int} (h : RdAt w v X a0 a1 a2 x0 x1) (y : Int) : RdAt w (v.setCell ⟨w.heap.size + 1, 2, none⟩ (.int .i64 y)) X a0 a1 y x0 x1 :=
  ⟨h.1.setCell (p := ⟨w.heap.size + 1, 2, none⟩) (Nat.le_succ _) _, h.2.1.other _ _ _ (by omega), h.2.2.1.set 2 _ (by simp), h.2.2.2.1.other _ _ _ (by have := h.2.2.2.2; omega), h.2.2.2.2⟩
theorem RdAt.setX {w v : World} {X : Nat} {a0 a1 a2 x0 x1 : Int} (h : RdAt w v X a0 a1 a2 x0 x1) (y z : Int) : RdAt w ((v.setCell ⟨X, 0, none⟩ (.int .i64 y)).setCell ⟨X, 1, none⟩ (.int .i64 z)) X a0 a1 a2 y z :=
  have hX := h.2.2.2.2
  ⟨(h.1.setCell (p := ⟨X, 0, none⟩) (by show w.heap.size ≤ X; omega) _).setCell (p := ⟨X, 1, none⟩) (by show w.heap.size ≤ X; omega) _, (h.2.1.other _ _ _ (by omega)).other _ _ _ (by omega), (h.2.2.1.other _ _ _ (by omega)).other _ _ _ (by omega), (h.2.2.2.1.set 0 _ (by simp)).set 1 _ (by simp), hX⟩
theorem RdAt.cells {w v : World} {X : Nat} {a0 a1 a2 x0 x1 : Int} (h : RdAt w v X a0 a1 a2 x0 x1) : v.cell? ⟨w.heap.size + 1, 0, none⟩ = some (.int .i64 a0) ∧ v.cell? ⟨w.heap.size + 1, 1, none⟩ = some (.int .i64 a1) ∧ v.cell? ⟨w.heap.size + 1, 2, none⟩ = some (.int .i64 a2) ∧ v.cell? ⟨X, 0, none⟩ = some (.int .i64 x0) ∧ v.cell? ⟨X, 1, none⟩ = some (.int .i64 x1) ∧ (∀ j, v.frozen? ⟨w.heap.size + 1, j, none⟩ = false) ∧ (∀ j, v.frozen? ⟨X, j, none⟩ = false) ∧ (¬ w.heap.size + 1 = X) ∧ (¬ X = w.heap.size + 1) :=
  ⟨h.2.2.1.1 0 _ rfl, h.2.2.1.1 1 _ rfl, h.2.2.1.1 2 _ rfl, h.2.2.2.1.1 0 _ rfl, h.2.2.2.1.1 1 _ rfl, h.2.2.1.2.1, h.2.2.2.1.2.1, by have := h.2.2.2.2; omega, by have := h.2.2.2.2; omega⟩
theorem RdAt.room {w v : World} {X : Nat} {a0 a1 a2 x0 x1 : Int} (h : RdAt w v X a0 a1 a2 x0 x1) : v.cell? ⟨w.heap.size, 0, none⟩ = some (.int .i64 0) ∧ v.cell? ⟨w.heap.size, 1, none⟩ = some (.int .i64 0) ∧ v.cell? ⟨w.heap.size, 2, none⟩ = some (.int .i64 0) ∧ v.cell? ⟨w.heap.size, 3, none⟩ = some (.int .i64 0) ∧ (∀ j, v.frozen? ⟨w.heap.size, j, none⟩ = false) :=
  ⟨h.2.1.1 0 _ rfl, h.2.1.1 1 _ rfl, h.2.1.1 2 _ rfl, h.2.1.1 3 _ rfl, h.2.1.2.1⟩

end Go.Proofs.YtjklbnakgkffnaaDoor.Texts
