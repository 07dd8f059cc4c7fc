/-
  The walk of AtomsApart.
-/
import Derived.Test.YtfgnmghkeccncaaDoorAZ
namespace Go.Proofs.YtfgnmghkeccncaaDoor.Atoms
open Go.RowKit Go.Shelf
set_option linter.unusedVariables false
set_option linter.unusedSimpArgs false

def apartB (l : List C5) : Bool := (List.range l.length).all fun a => (List.range l.length).all fun b => (List.range 5).all fun c =>
  a == b || (((l.getD a ⟨[], [], [], [], []⟩).get c).isEmpty || !((l.getD a ⟨[], [], [], [], []⟩).get c == (l.getD b ⟨[], [], [], [], []⟩).get c))
def firstB (l : List C5) : Bool := (List.range l.length).all fun a => !((l.getD a ⟨[], [], [], [], []⟩).get 0).isEmpty
theorem apart_A : apartB (tableRs.map Row.c5) = true := by decide +kernel
theorem apart_P : apartB (tablePs.map Pre.c5) = true := by decide +kernel
theorem first_A : firstB (tableRs.map Row.c5) = true := by decide +kernel
theorem first_P : firstB (tablePs.map Pre.c5) = true := by decide +kernel
theorem apart_of {l : List C5} (h : apartB l = true) (a b c : Nat) (ha : a < l.length) (hb : b < l.length) (hc : c < 5) :
    a = b ∨ (a ≠ b ∧ (l.getD a ⟨[], [], [], [], []⟩).get c = []) ∨ (a ≠ b ∧ (l.getD a ⟨[], [], [], [], []⟩).get c ≠ [] ∧ (l.getD a ⟨[], [], [], [], []⟩).get c ≠ (l.getD b ⟨[], [], [], [], []⟩).get c) := by
  have h1 := List.all_eq_true.1 h a (by simpa using ha)
  have h2 := List.all_eq_true.1 h1 b (by simpa using hb)
  have h3 := List.all_eq_true.1 h2 c (by simpa using hc)
  by_cases e : a = b
  · exact .inl e
  · by_cases e2 : (l.getD a ⟨[], [], [], [], []⟩).get c = []
    · exact .inr (.inl ⟨e, e2⟩)
    · refine .inr (.inr ⟨e, e2, ?_⟩)
      have e1 : (a == b) = false := by simpa using e
      have e3 : ((l.getD a ⟨[], [], [], [], []⟩).get c).isEmpty = false := by
        cases hh : (l.getD a ⟨[], [], [], [], []⟩).get c with
        | nil => exact absurd hh e2
        | cons x y => rfl
      rw [e1, e3] at h3
      simp only [Bool.false_or, Bool.not_eq_true', beq_eq_false_iff_ne] at h3
      exact h3
theorem first_of {l : List C5} (h : firstB l = true) (a : Nat) (ha : a < l.length) : (l.getD a ⟨[], [], [], [], []⟩).get 0 ≠ [] := by
  have h1 := List.all_eq_true.1 h a (by simpa using ha)
  intro e
  rw [e] at h1
  simp at h1
theorem c5A (a : Nat) : (tableRs.map Row.c5).getD a ⟨[], [], [], [], []⟩ = (tableRs.getD a default).c5 := by
  rw [List.getD_eq_getElem?_getD, List.getD_eq_getElem?_getD, List.getElem?_map]
  cases tableRs[a]? <;> rfl
theorem c5P (a : Nat) : (tablePs.map Pre.c5).getD a ⟨[], [], [], [], []⟩ = (tablePs.getD a default).c5 := by
  rw [List.getD_eq_getElem?_getD, List.getD_eq_getElem?_getD, List.getElem?_map]
  cases tablePs[a]? <;> rfl
theorem code_cell {V : World} {b n : Nat} {rows : List Row} {S : Nat → Value} (hg : Grid V b 12 n (cellA rows S)) (k : Nat) (hk : k < n) (c : Nat) (hc : c < 5) : V.cell? ⟨b, k * 12 + c, none⟩ = some (.string (bs ((rows.getD k default).c5.get c))) := by
  have := hg.1 k hk c (by omega)
  rw [this]
  match c, hc with
  | 0, _ => rfl
  | 1, _ => rfl
  | 2, _ => rfl
  | 3, _ => rfl
  | 4, _ => rfl
theorem pre_cell {V : World} {b n : Nat} {ps : List Pre} (hg : Grid V b 6 n (cellP ps)) (k : Nat) (hk : k < n) (c : Nat) (hc : c < 5) : V.cell? ⟨b, k * 6 + c, none⟩ = some (.string (bs ((ps.getD k default).c5.get c))) := by
  have := hg.1 k hk c (by omega)
  rw [this]
  match c, hc with
  | 0, _ => rfl
  | 1, _ => rfl
  | 2, _ => rfl
  | 3, _ => rfl
  | 4, _ => rfl
theorem bs_ne {x y : List UInt8} (h : x ≠ y) : ((bs x).toList == (bs y).toList) = false := by
  rw [bs_toList, bs_toList]
  simpa using h

attribute [local irreducible] tableRs tablePs

set_option maxRecDepth 100000 in
set_option maxHeartbeats 8000000 in
theorem apart_walk (i k n : Int) (w : World) (hT : Frac.OfTen w) :
    Calls Tryd.prog 5 #[.int .i64 i, .int .i64 k, .int .i64 n] w fun e w' => e = .returned (.bool true) ∧ Below w.heap.size w w' := by
  obtain ⟨a, ha⟩ : ∃ a, restN i 48 = a := ⟨_, rfl⟩
  obtain ⟨b, hb⟩ : ∃ b, restN k 48 = b := ⟨_, rfl⟩
  obtain ⟨p, hp⟩ : ∃ p, restN i 20 = p := ⟨_, rfl⟩
  obtain ⟨q, hq⟩ : ∃ q, restN k 20 = q := ⟨_, rfl⟩
  obtain ⟨c, hc⟩ : ∃ c, restN n 5 = c := ⟨_, rfl⟩
  have a48 : a < 48 := by rw [← ha]; exact restN_lt i 48 (by omega)
  have b48 : b < 48 := by rw [← hb]; exact restN_lt k 48 (by omega)
  have p20 : p < 20 := by rw [← hp]; exact restN_lt i 20 (by omega)
  have q20 : q < 20 := by rw [← hq]; exact restN_lt k 20 (by omega)
  have c5 : c < 5 := by rw [← hc]; exact restN_lt n 5 (by omega)
  have ra := fun W => rest_any i 48 W (by omega) (by omega)
  have rb := fun W => rest_any k 48 W (by omega) (by omega)
  have rp := fun W => rest_any i 20 W (by omega) (by omega)
  have rq := fun W => rest_any k 20 W (by omega) (by omega)
  have rc := fun W => rest_any n 5 W (by omega) (by omega)
  rw [ha] at ra
  rw [hb] at rb
  rw [hp] at rp
  rw [hq] at rq
  rw [hc] at rc
  clear ha hb hp hq hc
  have fA := apart_of apart_A a b c (by rw [List.length_map, len_T]; exact a48) (by rw [List.length_map, len_T]; exact b48) c5
  have fP := apart_of apart_P p q c (by rw [List.length_map, len_P]; exact p20) (by rw [List.length_map, len_P]; exact q20) c5
  have gA := first_of first_A a (by rw [List.length_map, len_T]; exact a48)
  have gP := first_of first_P p (by rw [List.length_map, len_P]; exact p20)
  rw [c5A] at gA
  rw [c5P] at gP
  rw [c5A, c5A] at fA
  rw [c5P, c5P] at fP
  have FA := Lib.hid fA
  have FP := Lib.hid fP
  have eA := bs_some gA
  have eP := bs_some gP
  clear fA fP gA gP
  go_enter Tryd.func5, Tryd.ntmps5
  go_wp2_with fail
  refine (awake_yes w hT).mono ?_
  rintro e w1 ⟨rfl, hb1⟩
  go_wp2_with fail
  refine (table_any w1).mono ?_
  rintro e w2 ⟨sa, sp, S, rfl, hTab, hb2⟩
  obtain ⟨ba, ca, rfl, hcA, hsA, hg⟩ := SliceAt.atoms hTab.atoms (by rw [len_T]; omega)
  obtain ⟨bp, cp, rfl, hgp⟩ : ∃ p c2, sp = .slice (some ⟨p, 0, none⟩) tablePs.length c2 ∧ Grid w2 p 6 tablePs.length (cellP tablePs) := by
    rcases hTab.prefs with ⟨h0, _⟩ | ⟨p, c2, hs, _, _, hgp⟩
    · rw [len_P] at h0; omega
    · exact ⟨p, c2, hs, hgp⟩
  have hlt := len_T
  have hlp := len_P
  rw [hlt] at hg
  rw [hlp] at hgp
  rw [hlt, hlp]
  have hB := hb1.trans (hb2.mono hb1.size)
  have hu : Below w2.heap.size w2 (w2.alloc (.cells #[.slice (some ⟨ba, 0, none⟩) 48 ca, .slice (some ⟨bp, 0, none⟩) 20 cp] 27)) := by go_grown
  have hx0 : (w2.alloc (.cells #[.slice (some ⟨ba, 0, none⟩) 48 ca, .slice (some ⟨bp, 0, none⟩) 20 cp] 27)).cell? ⟨w2.heap.size, 0, none⟩ = some (.slice (some ⟨ba, 0, none⟩) 48 ca) := by simp [go_sem]
  have hx1 : (w2.alloc (.cells #[.slice (some ⟨ba, 0, none⟩) 48 ca, .slice (some ⟨bp, 0, none⟩) 20 cp] 27)).cell? ⟨w2.heap.size, 1, none⟩ = some (.slice (some ⟨bp, 0, none⟩) 20 cp) := by simp [go_sem]
  replace hg := hg.go hu
  replace hgp := hgp.go hu
  replace hB := hB.trans (hu.mono hB.size)
  have hBV := hB
  clear hTab hb1 hb2 hlt hlp
  have e0 := code_cell hg a a48 c c5
  have e1 := code_cell hg b b48 c c5
  have e2 := pre_cell hgp p p20 c c5
  have e3 := pre_cell hgp q q20 c c5
  have e4 := code_cell hg a a48 0 (by omega)
  have e5 := pre_cell hgp p p20 0 (by omega)
  rw [Nat.add_zero] at e4 e5
  clear hg hgp hu
  generalize (tableRs.getD a default).c5.get c = xa at *
  generalize (tableRs.getD b default).c5.get c = xb at *
  generalize (tablePs.getD p default).c5.get c = yp at *
  generalize (tablePs.getD q default).c5.get c = yq at *
  generalize (tableRs.getD a default).c5.get 0 = xa0 at *
  generalize (tablePs.getD p default).c5.get 0 = yp0 at *
  generalize hV : w2.alloc (.cells #[.slice (some ⟨ba, 0, none⟩) 48 ca, .slice (some ⟨bp, 0, none⟩) 20 cp] 27) = V at hx0 hx1 e0 e1 e2 e3 e4 e5 hBV
  have ia : (a : Int) < 48 := by omega
  have ib : (b : Int) < 48 := by omega
  have ip : (p : Int) < 20 := by omega
  have iq : (q : Int) < 20 := by omega
  have ic : (c : Int) < 5 := by omega
  clear hsA hcA
  go_wp2_with fail
  refine (ra _).mono ?_
  rintro e w' ⟨rfl, rfl⟩
  go_wp2_with fail
  refine (rb _).mono ?_
  rintro e w' ⟨rfl, rfl⟩
  go_wp2_with fail
  refine (rp _).mono ?_
  rintro e w' ⟨rfl, rfl⟩
  go_wp2_with fail
  refine (rq _).mono ?_
  rintro e w' ⟨rfl, rfl⟩
  go_wp2_with fail
  refine (rc _).mono ?_
  rintro e w' ⟨rfl, rfl⟩
  clear ra rb rp rq rc hV
  rcases FA.out with h1 | ⟨h1, h2⟩ | ⟨h1, h2, h3⟩
  · have s1 : ((a : Int) != (b : Int)) = false := by simp [h1]
    clear h1
    rcases FP.out with k1 | ⟨k1, k2⟩ | ⟨k1, k2, k3⟩
    · have s2 : ((p : Int) != (q : Int)) = false := by simp [k1]
      clear k1
      go_wp2
      go_ret
      exact ⟨rfl, hBV⟩
    · have s2 : ((p : Int) != (q : Int)) = true := by rw [bne_iff_ne]; omega
      have s3 : (bs yp).toList.isEmpty = true := by rw [k2]; exact bs_none
      clear k1 k2
      go_wp2
      go_ret
      exact ⟨rfl, hBV⟩
    · have s2 : ((p : Int) != (q : Int)) = true := by rw [bne_iff_ne]; omega
      have s3 := bs_some k2
      have s4 := bs_ne k3
      clear k1 k2 k3
      go_wp2
      go_ret
      exact ⟨rfl, hBV⟩
  · have s1 : ((a : Int) != (b : Int)) = true := by rw [bne_iff_ne]; omega
    have r1 : (bs xa).toList.isEmpty = true := by rw [h2]; exact bs_none
    clear h1 h2
    rcases FP.out with k1 | ⟨k1, k2⟩ | ⟨k1, k2, k3⟩
    · have s2 : ((p : Int) != (q : Int)) = false := by simp [k1]
      clear k1
      go_wp2
      go_ret
      exact ⟨rfl, hBV⟩
    · have s2 : ((p : Int) != (q : Int)) = true := by rw [bne_iff_ne]; omega
      have s3 : (bs yp).toList.isEmpty = true := by rw [k2]; exact bs_none
      clear k1 k2
      go_wp2
      go_ret
      exact ⟨rfl, hBV⟩
    · have s2 : ((p : Int) != (q : Int)) = true := by rw [bne_iff_ne]; omega
      have s3 := bs_some k2
      have s4 := bs_ne k3
      clear k1 k2 k3
      go_wp2
      go_ret
      exact ⟨rfl, hBV⟩
  · have s1 : ((a : Int) != (b : Int)) = true := by rw [bne_iff_ne]; omega
    have r1 := bs_some h2
    have r2 := bs_ne h3
    clear h1 h2 h3
    rcases FP.out with k1 | ⟨k1, k2⟩ | ⟨k1, k2, k3⟩
    · have s2 : ((p : Int) != (q : Int)) = false := by simp [k1]
      clear k1
      go_wp2
      go_ret
      exact ⟨rfl, hBV⟩
    · have s2 : ((p : Int) != (q : Int)) = true := by rw [bne_iff_ne]; omega
      have s3 : (bs yp).toList.isEmpty = true := by rw [k2]; exact bs_none
      clear k1 k2
      go_wp2
      go_ret
      exact ⟨rfl, hBV⟩
    · have s2 : ((p : Int) != (q : Int)) = true := by rw [bne_iff_ne]; omega
      have s3 := bs_some k2
      have s4 := bs_ne k3
      clear k1 k2 k3
      go_wp2
      go_ret
      exact ⟨rfl, hBV⟩

theorem apart_law (i k n : Int) (w : World) (hT : Frac.OfTen w) (_ : -9223372036854775808 ≤ i ∧ i ≤ 9223372036854775807) (_ : -9223372036854775808 ≤ k ∧ k ≤ 9223372036854775807) (_ : -9223372036854775808 ≤ n ∧ n ≤ 9223372036854775807) :
    Calls Tryd.prog 5 #[.int .i64 i, .int .i64 k, .int .i64 n] w fun e w' => e = .returned (.bool true) ∧ Below w.heap.size w w' := apart_walk i k n w hT

end Go.Proofs.YtfgnmghkeccncaaDoor.Atoms
