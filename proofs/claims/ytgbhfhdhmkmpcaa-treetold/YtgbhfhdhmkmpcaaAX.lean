/-
  Contracts of atoms.Table, drachmlaw05.awake.
-/
import Derived.Test.YtgbhfhdhmkmpcaaAW
import Derived.Test.YtgbhfhdhmkmpcaaAU
namespace Go.Proofs.Ytgbhfhdhmkmpcaa.Atoms
open Go.RowKit Go.Shelf
set_option linter.unusedVariables false
set_option linter.unusedSimpArgs false

theorem SliceAt.other {w : World} {s : Value} {k n : Nat} {f : Nat → Nat → Value} (h : SliceAt w s k n f) {B : Nat} (ha : Above B s) {b' : Nat} (hb : b' < B) (i : Nat) (u : Value) : SliceAt (w.setCell ⟨b', i, none⟩ u) s k n f := by
  rcases h with h | ⟨b, c, hs, hc, hm, hg⟩
  · exact .inl h
  · have := ha _ _ _ hs
    exact .inr ⟨b, c, hs, hc, hm.set _ _ _, hg.other _ _ _ (by show b' ≠ b; have : B ≤ b := this; omega)⟩
/-- A table in memory. -/
structure TableAt (B : Nat) (w : World) (sa sp : Value) (rows : List Row) (S : Nat → Value) (ps : List Pre) : Prop where
  atoms : AtomsSl w sa rows S
  prefs : PrefsSl w sp ps
  aa : Above B sa
  ap : Above B sp
  at_ : ∀ i, i < rows.length → Above B (S i)
theorem TableAt.go {B : Nat} {w w' : World} {sa sp : Value} {rows : List Row} {S : Nat → Value} {ps : List Pre} (h : TableAt B w sa sp rows S ps) (hb : Below w.heap.size w w') : TableAt B w' sa sp rows S ps :=
  ⟨h.atoms.go hb, SliceAt.go h.prefs hb, h.aa, h.ap, h.at_⟩
/-- How Table ends. -/
def TableEnd (rows : List Row) (ps : List Pre) (w : World) (e : Ending) (w' : World) : Prop := ∃ sa sp S, e = .returned (.agg #[sa, sp]) ∧ TableAt w.heap.size w' sa sp rows S ps ∧ Below w.heap.size w w'
theorem table_is : ([rowsB, rowsD.map fillR, rowsO.map fillR] : List (List Row)).flatten = tableRs := by simp [tableRs]

theorem len_all : (rowsB ++ (rowsD.map fillR ++ (rowsO.map fillR ++ []))).length = 48 := by kernel_rfl

attribute [local irreducible] rowsB rowsD rowsO tableRs tablePs fillR

set_option maxRecDepth 100000 in
set_option maxHeartbeats 4000000 in
theorem table_any (w : World) : Calls Try.prog 20 #[] w (TableEnd tableRs tablePs w) := by
  have hu0 : Below w.heap.size w (w.alloc (.cells #[.slice none 0 0, .slice none 0 0] 57)) := by go_grown
  have hr0 : (w.alloc (.cells #[.slice none 0 0, .slice none 0 0] 57)).cell? ⟨w.heap.size, 0, none⟩ = some (.slice none 0 0) := by simp [go_sem]
  have hr1 : (w.alloc (.cells #[.slice none 0 0, .slice none 0 0] 57)).cell? ⟨w.heap.size, 1, none⟩ = some (.slice none 0 0) := by simp [go_sem]
  have hfz : ∀ j, (w.alloc (.cells #[.slice none 0 0, .slice none 0 0] 57)).frozen? ⟨w.heap.size, j, none⟩ = false := fun j => by simp [go_sem]
  have hzz : (w.alloc (.cells #[.slice none 0 0, .slice none 0 0] 57)).heap.size = w.heap.size + 1 := World.size_alloc _ _
  go_enter Try.func20, Try.ntmps20
  go_wp2_with fail
  generalize w.alloc (.cells #[.slice none 0 0, .slice none 0 0] 57) = w0 at *
  refine (bases_any w0).mono ?_
  rintro e w1 ⟨s1, S1, rfl, hA1, ha1, ht1, hb1⟩
  obtain ⟨o1, n1, c1, rfl⟩ : ∃ o n c, s1 = Value.slice o n c := by obtain ⟨o, c, h⟩ := SliceAt.slice hA1.1; exact ⟨o, _, c, h⟩
  go_wp2_with fail
  refine (derived_any w1).mono ?_
  rintro e w2 ⟨s2, S2, rfl, hA2, ha2, ht2, hb2⟩
  obtain ⟨o2, n2, c2, rfl⟩ : ∃ o n c, s2 = Value.slice o n c := by obtain ⟨o, c, h⟩ := SliceAt.slice hA2.1; exact ⟨o, _, c, h⟩
  go_wp2_with fail
  refine (others_any w2).mono ?_
  rintro e w3 ⟨s3, S3, rfl, hA3, ha3, ht3, hb3⟩
  obtain ⟨o3, n3, c3, rfl⟩ : ∃ o n c, s3 = Value.slice o n c := by obtain ⟨o, c, h⟩ := SliceAt.slice hA3.1; exact ⟨o, _, c, h⟩
  have hz1 := hb1.size
  have hz2 := hb2.size
  have hz3 := hb3.size
  have hu4 : Below w3.heap.size w3 (w3.alloc (.cells #[.slice o1 n1 c1, .slice o2 n2 c2, .slice o3 n3 c3] 54)) := (Below.refl _ _).alloc (Nat.le_refl _) _
  have hcon := concat_any [⟨.slice o1 n1 c1, rowsB, S1⟩, ⟨.slice o2 n2 c2, rowsD.map fillR, S2⟩, ⟨.slice o3 n3 c3, rowsO.map fillR, S3⟩] w3.heap.size 3 (w3.alloc (.cells #[.slice o1 n1 c1, .slice o2 n2 c2, .slice o3 n3 c3] 54)) (by
    intro j p hp
    match j, hp with
    | 0, hp =>
      simp only [List.getElem?_cons_zero, Option.some.injEq] at hp
      subst hp
      exact ⟨(((hA1.go hb2).go hb3).go hu4), by simp [go_sem]⟩
    | 1, hp =>
      simp only [List.getElem?_cons_succ, List.getElem?_cons_zero, Option.some.injEq] at hp
      subst hp
      exact ⟨((hA2.go hb3).go hu4), by simp [go_sem]⟩
    | 2, hp =>
      simp only [List.getElem?_cons_succ, List.getElem?_cons_zero, Option.some.injEq] at hp
      subst hp
      exact ⟨hA3.go hu4, by simp [go_sem]⟩
    | j + 3, hp => simp at hp) (by simp only [List.flatMap_cons, List.flatMap_nil]; rw [len_all]; decide) (by simp only [List.flatMap_cons, List.flatMap_nil]; rw [len_all]; decide) (by simp)
  go_wp2_with fail
  refine hcon.mono ?_
  rintro e w4 ⟨b, c, T, rfl, hc, hI⟩
  generalize hL : ([⟨.slice o1 n1 c1, rowsB, S1⟩, ⟨.slice o2 n2 c2, rowsD.map fillR, S2⟩, ⟨.slice o3 n3 c3, rowsO.map fillR, S3⟩] : List Piece) = L at *
  have hrows : L.flatMap (·.rows) = tableRs := by rw [← hL, ← table_is]; simp
  have hLl : L.length = 3 := by rw [← hL]; rfl
  have hpS : ∀ p ∈ L, ∀ i, i < p.rows.length → Above w0.heap.size (p.S i) := by
    intro p hp i hi
    rw [← hL] at hp
    simp only [List.mem_cons, List.not_mem_nil, or_false] at hp
    rcases hp with rfl | rfl | rfl
    · exact ht1 i hi
    · exact (ht2 i hi).mono (by omega)
    · exact (ht3 i hi).mono (by omega)
  have hb4 := hI.below
  have hsl : AtomsSl w4 (.slice (some ⟨b, 0, none⟩) tableRs.length c) tableRs T := by
    have hg := hI.grid
    have ht := hI.terms.go (hI.below.mono (Nat.le_refl _))
    rw [rowsTo_end, hrows] at hg ht
    rw [hrows] at hc
    exact ⟨.inr ⟨b, c, rfl, hc, hI.spare, hg⟩, ht⟩
  have hTa : ∀ i, i < tableRs.length → Above w0.heap.size (T i) := by
    intro i hi
    have := hI.above
    rw [rowsTo_end, hrows] at this
    obtain ⟨p, hp, i', hi', e⟩ := this i hi
    rw [e]
    exact hpS p hp i' hi'
  have hbw : w0.heap.size ≤ b := by
    have := hI.b
    rw [World.size_alloc] at this
    omega
  rw [hrows]
  have hBA : Below w0.heap.size w0 w4 := ((hb1.trans (hb2.mono hb1.size)).trans ((hb3.mono hz2).mono hz1)).trans (((hu4.trans (hb4.mono hu4.size)).mono hz3).mono (by omega))
  clear hL hpS hI hA1 hA2 hA3 ha1 ha2 ha3 ht1 ht2 ht3 hcon hb1 hb2 hb3 hb4 hu4 hrows hLl
  generalize hn : tableRs.length = n at *
  have HN := Lib.hid hn
  clear hn
  go_wp2_with fail
  refine (prefixes_any w4).mono ?_
  rintro e w5 ⟨sp, rfl, hP, hPa, hb5⟩
  obtain ⟨o6, n6, c6, rfl⟩ : ∃ o n c, sp = Value.slice o n c := by obtain ⟨o, c, h⟩ := SliceAt.slice hP; exact ⟨o, _, c, h⟩
  have hB5 : Below w0.heap.size w0 w5 := hBA.trans (hb5.mono hBA.size)
  have q0 : w5.cell? ⟨w.heap.size, 0, none⟩ = some (.slice none 0 0) := (hB5.cell (p := ⟨w.heap.size, 0, none⟩) (cell_lt hr0)).trans hr0
  have q1 : w5.cell? ⟨w.heap.size, 1, none⟩ = some (.slice none 0 0) := (hB5.cell (p := ⟨w.heap.size, 1, none⟩) (cell_lt hr1)).trans hr1
  have qf : ∀ j, w5.frozen? ⟨w.heap.size, j, none⟩ = false := fun j => (hB5.frozen (p := ⟨w.heap.size, j, none⟩) (cell_lt hr0)).trans (hfz j)
  replace hsl := hsl.go hb5
  replace hPa : Above w0.heap.size (.slice o6 n6 c6) := hPa.mono hBA.size
  clear hb5 hr0 hr1 hfz hBA
  go_wp2
  refine bodyPost_ret (v := .agg #[.slice (some ⟨b, 0, none⟩) n c, .slice o6 n6 c6]) (by simp [results, Try.results20, go_sem, q0, q1]) rfl ?_
  have hab : Above w0.heap.size (.slice (some ⟨b, 0, none⟩) n c) := by
    intro a m c' e
    injection e with e1
    injection e1 with e1
    rw [← e1]
    exact hbw
  have hlt : w.heap.size < w0.heap.size := by omega
  have hle : w.heap.size ≤ w0.heap.size := by omega
  have hP0 : PrefsSl w5 (.slice o6 n6 c6) tablePs := hP
  refine ⟨_, _, T, rfl, ⟨⟨?_, ?_⟩, ?_, hab.mono hle, hPa.mono hle, fun i hi => (hTa i (by rw [← HN.out]; exact hi)).mono hle⟩, ?_⟩
  · exact SliceAt.other (SliceAt.other hsl.1 hab hlt _ _) hab hlt _ _
  · intro i hi
    have ha := hTa i (by rw [← HN.out]; exact hi)
    exact SliceAt.other (SliceAt.other (hsl.2 i hi) ha hlt _ _) ha hlt _ _
  · exact SliceAt.other (SliceAt.other hP0 hPa hlt _ _) hPa hlt _ _
  · exact ((hu0.trans (hB5.mono hle)).setCell (p := ⟨w.heap.size, 0, none⟩) (Nat.le_refl _) _).setCell (p := ⟨w.heap.size, 1, none⟩) (Nat.le_refl _) _

end Go.Proofs.Ytgbhfhdhmkmpcaa.Atoms
