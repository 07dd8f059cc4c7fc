/-
  Contract of drachmref05.Table: the document's table.
-/
import Derived.Test.YtgbhfhdhmkmpcaaC1
namespace Go.Proofs.Ytgbhfhdhmkmpcaa.Atoms
open Go.RowKit Go.Shelf
set_option linter.unusedVariables false
set_option linter.unusedSimpArgs false

theorem Src.atoms {w : World} {s : Value} {rows : List Row} {S : Nat → Value} (h : AtomsSl w s rows S) {i : TypeInfo} (hi : i.size = 12) : Src Try.prog i.size 54 s rows.length (flat 12 rows.length (cellA rows S)) w := SliceAt.src h.1 (cell_one h.2) hi
/-- Two rows of atoms, one behind the other, in a new block. -/
theorem append_grow {w : World} {o1 : Option Addr} {c1 : Nat} {s2 : Value} {A B : List Row} {T S : Nat → Value} (hA : AtomsSl w (.slice o1 A.length c1) A T) (hB : AtomsSl w s2 B S) (hg : c1 < A.length + B.length) (hn : A.length + B.length ≤ 1000) (hc : A.length ≤ c1) :
    ∃ V cap, (∀ ty, (Builtin.append_ #[54, 54] ty #[.slice o1 A.length c1, s2]).run Try.prog w = .ok (.slice (some ⟨w.heap.size, 0, none⟩) (A.length + B.length) cap) V) ∧ AtomsSl V (.slice (some ⟨w.heap.size, 0, none⟩) (A.length + B.length) cap) (A ++ B) (catS A.length T S) ∧ Below w.heap.size w V := by
  obtain ⟨i, hi, hk12, hby, z, hz, hzs⟩ := info_ca
  have hs1 := Src.atoms hA hk12
  have hs2 := Src.atoms hB hk12
  have hrun := fun ty => run_append_grow_src w 54 54 ty _ i z u_ca hi hz o1 A.length c1 _ hs1.cellsD s2 B.length _ hs2 hg (by omega) (by
    rw [hby]
    unfold Builtin.nextslicecap
    by_cases h1 : A.length + B.length > 2 * c1
    · rw [if_pos h1]; omega
    · rw [if_neg h1]
      by_cases h2 : c1 < 256
      · rw [if_pos h2]; omega
      · rw [if_neg h2]
        have hb : ∀ r c, c ≤ 100000 - 25000 * r → r ≤ 4 → Builtin.growBy (A.length + B.length) r c ≤ 100000 := by
          intro r
          induction r with
          | zero => intro c hc _; show c ≤ _; omega
          | succ r ih =>
            intro c hc hr
            show (if c ≥ A.length + B.length then c else Builtin.growBy (A.length + B.length) r (c + (c + 768) / 4)) ≤ _
            split
            · omega
            · exact ih _ (by omega) (by omega)
        have hgrow : ∀ r c, c ≤ 1000 → Builtin.growBy (A.length + B.length) r c ≤ 100000 := by
          intro r
          induction r with
          | zero => intro c hc; show c ≤ _; omega
          | succ r ih =>
            intro c hc
            show (if c ≥ A.length + B.length then c else Builtin.growBy (A.length + B.length) r (c + (c + 768) / 4)) ≤ _
            split
            · omega
            · rename_i hlt
              by_cases hh : c + (c + 768) / 4 ≤ 1000
              · exact ih _ hh
              · have hge : c + (c + 768) / 4 ≥ A.length + B.length := by omega
                cases r with
                | zero => show c + (c + 768) / 4 ≤ _; omega
                | succ r =>
                  show (if c + (c + 768) / 4 ≥ A.length + B.length then c + (c + 768) / 4 else _) ≤ _
                  rw [if_pos hge]; omega
        have := hgrow 4 c1 (by omega)
        omega)
  have hl1 := flat_length 12 A.length (cellA A T)
  have hl2 := flat_length 12 B.length (cellA B S)
  have hge := grownCap_ge w (A.length + B.length) c1 73
  generalize hcap : grownCap w (A.length + B.length) c1 73 = cap at hrun hge
  have hh := World.alloc_heap_new w.drew (.cells ((flat 12 A.length (cellA A T) ++ flat 12 B.length (cellA B S)).toArray ++ Builtin.zeroCells z.cells (cap - (A.length + B.length))) 73)
  rw [show w.drew.heap.size = w.heap.size from rfl] at hh
  have hbel : Below w.heap.size w (w.drew.alloc (.cells ((flat 12 A.length (cellA A T) ++ flat 12 B.length (cellA B S)).toArray ++ Builtin.zeroCells z.cells (cap - (A.length + B.length))) 73)) := (Below.refl _ _).drew.alloc (Nat.le_refl _) _
  refine ⟨_, _, hrun, ⟨.inr ⟨w.heap.size, cap, by rw [List.length_append], by rw [List.length_append]; exact hge, ?_, ?_⟩, (cat_terms hA.2 hB.2).go hbel⟩, hbel⟩
  · have := Spare.of_cells hh
    refine fun j hj => this j ?_
    simp only [Array.size_append, List.size_toArray, List.length_append, hl1, hl2, Builtin.zeroCells, Array.size_map, Array.size_range, hzs]
    rw [← Nat.add_mul, ← Nat.add_mul, Nat.add_sub_cancel' hge]
    exact hj
  · rw [List.length_append]
    refine Grid.old hh fun i' hi' j hj => ?_
    rw [← cat_cells A B T S i' hi' j hj, Array.getElem?_append_left (by
      rw [List.size_toArray, List.length_append, hl1, hl2, ← Nat.add_mul]
      have : (i' + 1) * 12 ≤ (A.length + B.length) * 12 := Nat.mul_le_mul_right 12 hi'
      omega), List.getElem?_toArray]
    by_cases h : i' < A.length
    · rw [if_pos h, List.getElem?_append_left (by
        rw [hl1]
        have : (i' + 1) * 12 ≤ A.length * 12 := Nat.mul_le_mul_right 12 h
        omega)]
      exact flat_at h hj
    · rw [if_neg h, List.getElem?_append_right (by rw [hl1]; omega), hl1]
      have e : i' * 12 + j - A.length * 12 = (i' - A.length) * 12 + j := by omega
      rw [e]
      exact flat_at (by omega) hj
theorem len_F : rowsF.length = 24 := by kernel_rfl
theorem len_R : rowsR.length = 24 := by kernel_rfl
theorem catS_above {B : Nat} {n m : Nat} {T S : Nat → Value} (hT : ∀ i, i < n → Above B (T i)) (hS : ∀ i, i < m → Above B (S i)) : ∀ i, i < n + m → Above B (catS n T S i) := by
  intro i hi
  unfold catS
  split
  · exact hT i (by omega)
  · exact hS _ (by omega)

theorem TermsAt.texts {s : Value} {ts : List (Int × Int)} {b : Nat} {x : ByteArray} : ∀ (vs : List Value) (o : Nat) (w : World), TermsAt w s ts → w.cell? ⟨b, 0, none⟩ = some (.string x) → 0 < o → TermsAt (w.setCells b o vs) s ts
  | [], _, _, h, _, _ => h
  | v :: r, o, w, h, hx, ho => TermsAt.texts r (o + 1) _ (h.text hx o v) (by
      rw [World.cell?_setCell_other _ _ _ _ (by intro hh; injection hh with e1 e2; omega)]
      exact hx) (by omega)
/-- How an append ends: in its own block, or in a new one. -/
structure Appended (B0 : Nat) (w V : World) (o1 : Option Addr) (s : Value) (rows : List Row) (S : Nat → Value) : Prop where
  at_ : AtomsSl V s rows S
  above : Above B0 s
  below : Below B0 w V
theorem append_atoms {w : World} {o1 : Option Addr} {c1 B0 : Nat} {s2 : Value} {A B : List Row} {T S : Nat → Value} (hA : AtomsSl w (.slice o1 A.length c1) A T) (hB : AtomsSl w s2 B S) (h0 : 0 < A.length) (hn : A.length + B.length ≤ 1000) (hab : Above B0 (.slice o1 A.length c1)) (hB0 : B0 ≤ w.heap.size) :
    ∃ V s, (∀ ty, (Builtin.append_ #[54, 54] ty #[.slice o1 A.length c1, s2]).run Try.prog w = .ok s V) ∧ Appended B0 w V o1 s (A ++ B) (catS A.length T S) := by
  obtain ⟨b, rfl, hc, hsp, hg⟩ : ∃ b, o1 = some ⟨b, 0, none⟩ ∧ A.length ≤ c1 ∧ Spare w b (c1 * 12) ∧ Grid w b 12 A.length (cellA A T) := by
    rcases hA.1 with ⟨hh, _⟩ | ⟨b, c, he, hc, hsp, hg⟩
    · omega
    · injection he with e1 e2 e3
      subst e3
      exact ⟨b, e1, hc, hsp, hg⟩
  have hbB : B0 ≤ b := hab _ _ _ rfl
  by_cases hroom : A.length + B.length ≤ c1
  · obtain ⟨i, hi, hk12, hby, z, hz, hzs⟩ := info_ca
    have hx : w.cell? ⟨b, 0, none⟩ = some (.string (bs (A.getD 0 default).c0)) := hg.1 0 h0 0 (by omega)
    have hO := only_cells b (flat 12 B.length (cellA B S)) (A.length * 12) w w (Only.refl _ _)
    have hmul : (A.length + B.length) * 12 ≤ c1 * 12 := Nat.mul_le_mul_right 12 hroom
    refine ⟨w.setCells b (A.length * 12) (flat 12 B.length (cellA B S)), _, fun ty => ?_, ⟨⟨.inr ⟨b, c1, rfl, by rw [List.length_append]; exact hroom, hsp.cells _ _ _, ?_⟩, ?_⟩, ?_, hO.below hbB⟩⟩
    · have := run_append_room_src w _ _ ty _ i u_ca hi b 0 A.length c1 s2 B.length _ (Src.atoms hB hk12) hroom (fun j' hj' => hsp _ (by
        rw [flat_length] at hj'
        rw [hk12]
        omega)) (fun j' _ => hg.2.1 _)
      rw [hk12, Nat.zero_add] at this
      rw [this, List.length_append]
    · rw [List.length_append]
      exact (hg.append (m := B.length) (g := cellA B S) (by omega) (fun j' hj' => hsp j' (by omega))).ext (cat_cells _ _ _ _)
    · intro i' hi'
      exact TermsAt.texts _ _ _ (cat_terms hA.2 hB.2 i' hi') hx (by omega)
    · intro a m c' e
      injection e with e1
      injection e1 with e1
      rw [← e1]
      exact hbB
  · obtain ⟨V, cap, hr, hsl, hb⟩ := append_grow hA hB (by omega) hn hc
    refine ⟨V, _, hr, ⟨hsl, ?_, hb.mono hB0⟩⟩
    intro a m c' e
    injection e with e1
    injection e1 with e1
    rw [← e1]
    exact hB0

attribute [local irreducible] rowsF rowsR tableRs tablePs

set_option maxRecDepth 100000 in
set_option maxHeartbeats 4000000 in
theorem refTable_any (w : World) : Calls Try.prog 38 #[] w (TableEnd tableRs tablePs w) := by
  have hu0 : Below w.heap.size w (w.alloc (.cells #[.slice none 0 0, .slice none 0 0] 57)) := by go_grown
  have hr0 : (w.alloc (.cells #[.slice none 0 0, .slice none 0 0] 57)).cell? ⟨w.heap.size, 0, none⟩ = some (.slice none 0 0) := by simp [go_sem]
  have hr1 : (w.alloc (.cells #[.slice none 0 0, .slice none 0 0] 57)).cell? ⟨w.heap.size, 1, none⟩ = some (.slice none 0 0) := by simp [go_sem]
  have hfz : ∀ j, (w.alloc (.cells #[.slice none 0 0, .slice none 0 0] 57)).frozen? ⟨w.heap.size, j, none⟩ = false := fun j => by simp [go_sem]
  have hzz : (w.alloc (.cells #[.slice none 0 0, .slice none 0 0] 57)).heap.size = w.heap.size + 1 := World.size_alloc _ _
  go_enter Try.func38, Try.ntmps38
  go_wp2_with fail
  generalize w.alloc (.cells #[.slice none 0 0, .slice none 0 0] 57) = w0 at *
  refine (first_any w0).mono ?_
  rintro e w1 ⟨s1, S1, rfl, hA1, ha1, ht1, hb1⟩
  obtain ⟨o1, c1, rfl⟩ := SliceAt.slice hA1.1
  go_wp2_with fail
  refine (refrest_any w1).mono ?_
  rintro e w2 ⟨s2, S2, rfl, hA2, ha2, ht2, hb2⟩
  obtain ⟨o2, n2, c2, hq2⟩ : ∃ o n c, s2 = Value.slice o n c := by obtain ⟨o, c, h⟩ := SliceAt.slice hA2.1; exact ⟨o, _, c, h⟩
  subst hq2
  have hz1 := hb1.size
  have hz2 := hb2.size
  obtain ⟨V, s3, happ, hsl, hab, hbl⟩ := append_atoms (B0 := w0.heap.size) (hA1.go hb2) hA2 (by rw [len_F]; omega) (by rw [len_F, len_R]; omega) ha1 (by omega)
  rw [table_doc] at hsl
  have hTa : ∀ i, i < tableRs.length → Above w0.heap.size (catS rowsF.length S1 S2 i) := by
    intro i hi
    rw [← table_doc, List.length_append] at hi
    exact catS_above ht1 (fun j hj => (ht2 j hj).mono hz1) i hi
  generalize catS rowsF.length S1 S2 = T at hsl hTa
  obtain ⟨o3, n3, c3, rfl⟩ : ∃ o n c, s3 = Value.slice o n c := by obtain ⟨o, c, h⟩ := SliceAt.slice hsl.1; exact ⟨o, _, c, h⟩
  have hBA : Below w0.heap.size w0 V := (hb1.trans (hb2.mono hz1)).trans hbl
  generalize rowsF.length = nF at happ
  clear hA1 hA2 ha1 ha2 ht1 ht2 hb1 hb2 hbl
  go_wp2_with (first | (at_builtin; refine wpList_app rfl _ _ 54 54 rfl happ ?_) | fail)
  refine (refprefs_any V).mono ?_
  rintro e w5 ⟨sp, rfl, hP, hPa, hb5⟩
  obtain ⟨o6, n6, c6, rfl⟩ : ∃ o n c, sp = Value.slice o n c := by obtain ⟨o, c, h⟩ := SliceAt.slice hP; exact ⟨o, _, c, h⟩
  have hB5 : Below w0.heap.size w0 w5 := hBA.trans (hb5.mono hBA.size)
  have q0 : w5.cell? ⟨w.heap.size, 0, none⟩ = some (.slice none 0 0) := (hB5.cell (p := ⟨w.heap.size, 0, none⟩) (cell_lt hr0)).trans hr0
  have q1 : w5.cell? ⟨w.heap.size, 1, none⟩ = some (.slice none 0 0) := (hB5.cell (p := ⟨w.heap.size, 1, none⟩) (cell_lt hr1)).trans hr1
  have qf : ∀ j, w5.frozen? ⟨w.heap.size, j, none⟩ = false := fun j => (hB5.frozen (p := ⟨w.heap.size, j, none⟩) (cell_lt hr0)).trans (hfz j)
  replace hsl := hsl.go hb5
  replace hPa : Above w0.heap.size (.slice o6 n6 c6) := hPa.mono hBA.size
  clear hb5 hr0 hr1 hfz hBA happ
  have hlt : w.heap.size < w0.heap.size := by omega
  have hle : w.heap.size ≤ w0.heap.size := by omega
  have HR : Hid (TableEnd tableRs tablePs w (.returned (.agg #[.slice o3 n3 c3, .slice o6 n6 c6])) ((w5.setCell ⟨w.heap.size, 0, none⟩ (.slice o3 n3 c3)).setCell ⟨w.heap.size, 1, none⟩ (.slice o6 n6 c6))) := by
    have hP0 : PrefsSl w5 (.slice o6 n6 c6) tablePs := hP
    refine ⟨_, _, T, rfl, ⟨⟨?_, ?_⟩, ?_, hab.mono hle, hPa.mono hle, fun i hi => (hTa i hi).mono hle⟩, ?_⟩
    · exact SliceAt.other (SliceAt.other hsl.1 hab hlt _ _) hab hlt _ _
    · intro i hi
      have ha := hTa i hi
      exact SliceAt.other (SliceAt.other (hsl.2 i hi) ha hlt _ _) ha hlt _ _
    · exact SliceAt.other (SliceAt.other hP0 hPa hlt _ _) hPa hlt _ _
    · exact ((hu0.trans (hB5.mono hle)).setCell (p := ⟨w.heap.size, 0, none⟩) (Nat.le_refl _) _).setCell (p := ⟨w.heap.size, 1, none⟩) (Nat.le_refl _) _
  clear hsl hP hPa hTa hab hB5
  go_wp2
  exact bodyPost_ret (v := .agg #[.slice o3 n3 c3, .slice o6 n6 c6]) (by simp [results, Try.results38, go_sem, q0, q1]) rfl HR.out

end Go.Proofs.Ytgbhfhdhmkmpcaa.Atoms
