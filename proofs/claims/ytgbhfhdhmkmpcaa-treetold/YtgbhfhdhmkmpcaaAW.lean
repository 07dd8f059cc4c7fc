/-
  Contracts of slices.Grow, slices.Concat of atoms.
-/
import Derived.Test.YtgbhfhdhmkmpcaaAV
import Derived.Lib.AppendZeros
namespace Go.Proofs.Ytgbhfhdhmkmpcaa.Atoms
open Go.RowKit Go.Shelf
set_option linter.unusedVariables false
set_option linter.unusedSimpArgs false

/-- Room for so many atoms, from w's end on. -/
structure RoomFor (w w' : World) (b c n : Nat) : Prop where
  n : n ≤ c
  spare : Spare w' b (c * 12)
  thaw : ∀ j, w'.frozen? ⟨b, j, none⟩ = false
  lt : b < w'.heap.size
  b : w.heap.size ≤ b
  below : Below w.heap.size w w'
def GrowEnd (w : World) (n : Nat) (e : Ending) (w' : World) : Prop := ∃ b c, e = .returned (.slice (some ⟨b, 0, none⟩) 0 c) ∧ RoomFor w w' b c n

set_option maxRecDepth 100000 in
set_option maxHeartbeats 4000000 in
theorem grow_any (n : Nat) (w : World) (h0 : 0 < n) (hn : n ≤ 1000000) :
    Calls Try.prog 40 #[.slice none 0 0, .int .i64 n] w (GrowEnd w n) := by
  obtain ⟨c, V, happ, hR⟩ : ∃ c V, (∀ ty, (Builtin.append_ #[54, 3] ty #[.slice none 0 0, .int .i64 n]).run Try.prog w = .ok (.slice (some ⟨w.heap.size, 0, none⟩) n c) V) ∧ RoomFor w V w.heap.size c n := by
    obtain ⟨i, hi, hk12, hby, z, hz, hzs⟩ := info_ca
    refine ⟨_, _, fun ty => Lib.run_append_nil_zeros w _ _ ty _ i z .i64 .i64 u_ca (by kernel_rfl) hi hz n h0 (by omega) (by omega) (by rw [hby]; omega), ?_⟩
    have hh : (w.drew.alloc (.cells (Builtin.zeroCells z.cells n ++ Builtin.zeroCells z.cells (grownCap w n 0 73 - n)) 73)).heap[w.heap.size]? = some (.cells (Builtin.zeroCells z.cells n ++ Builtin.zeroCells z.cells (grownCap w n 0 73 - n)) 73) := World.alloc_heap_new w.drew _
    have hge := grownCap_ge w n 0 73
    refine ⟨hge, ?_, ?_, (Array.getElem?_eq_some_iff.1 hh).1, Nat.le_refl _, (Below.refl _ _).drew.alloc (Nat.le_refl _) _⟩
    · have := Spare.of_cells hh
      refine fun j hj => this j ?_
      simp only [Array.size_append, Builtin.zeroCells, Array.size_map, Array.size_range, hzs]
      generalize grownCap w n 0 73 = g at *
      rw [← Nat.add_mul, Nat.add_sub_cancel' hge]
      exact hj
    · exact (Grid.old (k := 1) (n := 0) (f := fun _ _ => undef) hh (fun i hi => absurd hi (by omega))).2.1
  have hnn : (0 : Int) < n := by omega
  have hcap := hR.n
  go_enter Try.func40, Try.ntmps40
  go_wp2_with (at_builtin; refine wpList_app rfl _ _ 54 3 rfl happ ?_)
  go_ret
  exact ⟨_, _, rfl, hR⟩

/-- What is put behind one another: slices, their atoms, the slices of their terms. -/
structure Piece where
  s : Value
  rows : List Row
  S : Nat → Value
def rowsTo (L : List Piece) (j : Nat) : List Row := (L.take j).flatMap (·.rows)
theorem rowsTo_succ (L : List Piece) (j : Nat) (p : Piece) (h : L[j]? = some p) : rowsTo L (j + 1) = rowsTo L j ++ p.rows := by
  obtain ⟨hj, hp⟩ := List.getElem?_eq_some_iff.1 h
  unfold rowsTo
  rw [List.take_succ_eq_append_getElem hj, List.flatMap_append, hp]
  simp
theorem rowsTo_le (L : List Piece) (j : Nat) : (rowsTo L j).length ≤ (L.flatMap (·.rows)).length := by
  have h : L.flatMap (·.rows) = rowsTo L j ++ (L.drop j).flatMap (·.rows) := by
    unfold rowsTo
    rw [← List.flatMap_append, List.take_append_drop]
  rw [h, List.length_append]; omega
theorem SliceAt.src {w : World} {s : Value} {n : Nat} {f : Nat → Nat → Value} (h : SliceAt w s 12 n f) (h1 : ∀ i, i < n → ∀ j, j < 12 → (f i j).oneCell' = true) {i : TypeInfo} (hi : i.size = 12) : Src Try.prog i.size 54 s n (Atoms.flat 12 n f) w := by
  rcases h with ⟨rfl, rfl⟩ | ⟨b, c, rfl, hc, hm, hg⟩
  · have : Atoms.flat 12 0 f = [] := by simp [Atoms.flat]
    rw [this]
    exact Src.ofNil w u_ca 0
  · refine Src.ofSlice w u_ca _ n c _ (by rw [hi, flat_length]) (fun j u hu => ?_) (fun u hu => ?_)
    · rw [Addr.add_mid, Nat.zero_add]
      exact hg.flat (by omega) j u hu
    · obtain ⟨t, ht⟩ := List.getElem?_of_mem hu
      have hlt : t < n * 12 := by have := (List.getElem?_eq_some_iff.1 ht).1; rwa [flat_length] at this
      rw [flat_get hlt] at ht
      injection ht with ht
      rw [← ht]
      exact h1 _ ((Nat.div_lt_iff_lt_mul (by omega)).2 hlt) _ (Nat.mod_lt _ (by omega))
/-- Slices of terms, one row behind the other. -/
def catS (n : Nat) (T S : Nat → Value) : Nat → Value := fun i => if i < n then T i else S (i - n)
theorem cat_getD (A B : List Row) (i : Nat) : (A ++ B).getD i default = if i < A.length then A.getD i default else B.getD (i - A.length) default := by
  rw [List.getD_eq_getElem?_getD, List.getD_eq_getElem?_getD, List.getD_eq_getElem?_getD]
  by_cases h : i < A.length
  · rw [if_pos h, List.getElem?_append_left h]
  · rw [if_neg h, List.getElem?_append_right (by omega)]
theorem cat_cells (A B : List Row) (T S : Nat → Value) : ∀ i, i < A.length + B.length → ∀ j, j < 12 → (if i < A.length then cellA A T i j else cellA B S (i - A.length) j) = cellA (A ++ B) (catS A.length T S) i j := by
  intro i hi j hj
  unfold cellA catS
  rw [cat_getD]
  by_cases h : i < A.length
  · simp only [if_pos h]
  · simp only [if_neg h]
theorem cat_terms {w : World} {A B : List Row} {T S : Nat → Value} (hA : TermsAll w A T) (hB : TermsAll w B S) : TermsAll w (A ++ B) (catS A.length T S) := by
  intro i hi
  rw [List.length_append] at hi
  unfold catS
  rw [cat_getD]
  by_cases h : i < A.length
  · rw [if_pos h, if_pos h]; exact hA i h
  · rw [if_neg h, if_neg h]; exact hB _ (by omega)
/-- How the world stands while the pieces are put behind one another. -/
structure ConcatI (w wr : World) (b c : Nat) (L : List Piece) (j : Nat) (T : Nat → Value) : Prop where
  grid : Grid wr b 12 (rowsTo L j).length (cellA (rowsTo L j) T)
  terms : TermsAll w (rowsTo L j) T
  above : ∀ i, i < (rowsTo L j).length → ∃ p ∈ L, ∃ i', i' < p.rows.length ∧ T i = p.S i'
  spare : Spare wr b (c * 12)
  b : w.heap.size ≤ b
  below : Below w.heap.size w wr
theorem ConcatI.step {w wr : World} {b c : Nat} {L : List Piece} {j : Nat} {T : Nat → Value} (h : ConcatI w wr b c L j T) {p : Piece} (hp : L[j]? = some p) (hA : AtomsSl w p.s p.rows p.S) (hc : (L.flatMap (·.rows)).length ≤ c) :
    ∃ V, (∀ ty, (Builtin.append_ #[54, 54] ty #[.slice (some ⟨b, 0, none⟩) (rowsTo L j).length c, p.s]).run Try.prog wr = .ok (.slice (some ⟨b, 0, none⟩) (rowsTo L (j + 1)).length c) V) ∧ ConcatI w V b c L (j + 1) (catS (rowsTo L j).length T p.S) := by
  obtain ⟨i, hi, hk12, hby, z, hz, hzs⟩ := info_ca
  have hA2 := hA.go h.below
  have hle := rowsTo_le L (j + 1)
  have hsu := rowsTo_succ L j p hp
  have hlen : (rowsTo L (j + 1)).length = (rowsTo L j).length + p.rows.length := by rw [hsu, List.length_append]
  refine ⟨wr.setCells b ((rowsTo L j).length * 12) (flat 12 p.rows.length (cellA p.rows p.S)), fun ty => ?_, ?_⟩
  · have := run_append_room_src wr _ _ ty _ i u_ca hi b 0 (rowsTo L j).length c p.s p.rows.length _ (SliceAt.src hA2.1 (cell_one hA2.2) hk12) (by omega) (fun j' hj' => h.spare _ (by
      rw [flat_length] at hj'
      rw [hk12]
      have : ((rowsTo L j).length + p.rows.length) * 12 ≤ c * 12 := Nat.mul_le_mul_right 12 (by omega)
      omega)) (fun j' _ => h.grid.2.1 _)
    rw [hk12, Nat.zero_add] at this
    rw [this, hlen]
  · have hO := only_cells b (flat 12 p.rows.length (cellA p.rows p.S)) ((rowsTo L j).length * 12) wr wr (Only.refl _ _)
    have hB : Below w.heap.size w (wr.setCells b ((rowsTo L j).length * 12) (flat 12 p.rows.length (cellA p.rows p.S))) := h.below.trans (hO.below h.b)
    refine ⟨?_, ?_, ?_, h.spare.cells _ _ _, h.b, hB⟩
    · rw [hsu, List.length_append]
      exact (h.grid.append (m := p.rows.length) (g := cellA p.rows p.S) (by omega) (fun j' hj' => h.spare j' (by
        have : ((rowsTo L j).length + p.rows.length) * 12 ≤ c * 12 := Nat.mul_le_mul_right 12 (by omega)
        omega))).ext (cat_cells _ _ _ _)
    · rw [hsu]
      exact cat_terms h.terms hA.2
    · intro i' hi'
      rw [hsu, List.length_append] at hi'
      unfold catS
      by_cases hlt : i' < (rowsTo L j).length
      · rw [if_pos hlt]; exact h.above i' hlt
      · rw [if_neg hlt]
        exact ⟨p, List.mem_of_getElem? hp, i' - (rowsTo L j).length, by omega, rfl⟩

/-- How Concat ends. -/
def ConcatEnd (w : World) (L : List Piece) (e : Ending) (w' : World) : Prop :=
  ∃ b c T, e = .returned (.slice (some ⟨b, 0, none⟩) (L.flatMap (·.rows)).length c) ∧ (L.flatMap (·.rows)).length ≤ c ∧ ConcatI w w' b c L L.length T
theorem rowsTo_end (L : List Piece) : rowsTo L L.length = L.flatMap (·.rows) := by unfold rowsTo; rw [List.take_length]
theorem rowsTo_zero (L : List Piece) : rowsTo L 0 = [] := rfl

set_option maxRecDepth 100000 in
set_option maxHeartbeats 4000000 in
theorem concat_any (L : List Piece) (sb cs : Nat) (w : World) (hL : ∀ j p, L[j]? = some p → AtomsSl w p.s p.rows p.S ∧ w.cell? ⟨sb, j, none⟩ = some p.s) (h0 : 0 < (L.flatMap (·.rows)).length) (hn : (L.flatMap (·.rows)).length ≤ 1000000) (hll : L.length ≤ 100) :
    Calls Try.prog 30 #[.slice (some ⟨sb, 0, none⟩) L.length cs] w (ConcatEnd w L) := by
  have HL := Lib.hid hL
  clear hL
  go_enter Try.func30, Try.ntmps30
  go_wp2
  go_loopw [3, 11] (fun x y wr => ∃ j : Nat, x = .int .i64 ((rowsTo L j).length : Nat) ∧ y = .int .i64 j ∧ j ≤ L.length ∧ w = wr) (fun _ y _ => (L.length - intOf y).toNat)
  case atStart => exact ⟨0, rfl, rfl, by omega, rfl⟩
  case round =>
    obtain ⟨j, rfl, rfl, hj, rfl⟩ := hrel
    by_cases hjl : j < L.length
    · have hji : (j : Int) < (L.length : Int) := by omega
      obtain ⟨p, hp⟩ : ∃ p, L[j]? = some p := ⟨_, List.getElem?_eq_getElem hjl⟩
      obtain ⟨hA, hc⟩ := HL.out j p hp
      obtain ⟨o, c, hs⟩ := SliceAt.slice hA.1
      rw [hs] at hc
      have hsu := congrArg List.length (rowsTo_succ L j p hp)
      rw [List.length_append] at hsu
      have hle := rowsTo_le L (j + 1)
      have hz : ((rowsTo L (j + 1)).length : Int) = ((rowsTo L j).length : Int) + (p.rows.length : Int) := by omega
      have HZ := Lib.hid hz
      have b1 : ((rowsTo L j).length : Int) + (p.rows.length : Int) ≤ 1000000 := by omega
      clear hA hs hp hsu hle hz
      go_wp2
      go_roundw
      case rel => exact ⟨j + 1, by rw [HZ.out], rfl, by omega, trivial⟩
      case measure => simp only [intOf]; omega
    · have hje : j = L.length := by omega
      subst hje
      have hre := congrArg List.length (rowsTo_end L)
      rw [hre]
      have hgr := grow_any (L.flatMap (·.rows)).length w h0 hn
      generalize hnn : (L.flatMap (·.rows)).length = n at *
      have HNN := Lib.hid hnn
      clear hnn hre
      go_wp2_with fail
      refine hgr.mono ?_
      rintro e w1 ⟨b, c, rfl, hR⟩
      have hc := hR.n
      have hI : ConcatI w w1 b c L 0 (fun _ => undef) := ⟨⟨fun i hi => absurd hi (by rw [rowsTo_zero]; simp), hR.thaw, hR.lt⟩, fun i hi => absurd hi (by rw [rowsTo_zero]; simp), fun i hi => absurd hi (by rw [rowsTo_zero]; simp), hR.spare, hR.b, hR.below⟩
      have HC : Hid ((L.flatMap (·.rows)).length ≤ c) := by show _ ≤ _; rw [HNN.out]; exact hc
      clear hR hgr
      go_wp2
      go_loopw [6, 27] (fun x y wr => ∃ (j : Nat) (T : Nat → Value), x = .slice (some ⟨b, 0, none⟩) (rowsTo L j).length c ∧ y = .int .i64 j ∧ j ≤ L.length ∧ ConcatI w wr b c L j T) (fun _ y _ => (L.length - intOf y).toNat)
      case atStart => exact ⟨0, _, rfl, rfl, by omega, hI⟩
      case round =>
        clear hI
        obtain ⟨j, T, rfl, rfl, hj, hI⟩ := hrel
        by_cases hjl : j < L.length
        · have hji : (j : Int) < (L.length : Int) := by omega
          obtain ⟨p, hp⟩ : ∃ p, L[j]? = some p := ⟨_, List.getElem?_eq_getElem hjl⟩
          obtain ⟨hA, hcl⟩ := HL.out j p hp
          obtain ⟨V, happ, hI2⟩ := hI.step hp hA HC.out
          have hc1 := (hI.below.cell (p := ⟨sb, j, none⟩) (cell_lt hcl)).trans hcl
          generalize p.s = ps at happ hc1
          generalize catS (rowsTo L j).length T p.S = T2 at hI2
          clear hA hcl hp hI hc
          go_wp2_with (at_builtin; refine wpList_app rfl _ _ 54 54 rfl happ ?_)
          go_roundw
          case rel => exact ⟨j + 1, _, rfl, rfl, by omega, hI2⟩
          case measure => simp only [intOf]; omega
        · have hje : j = L.length := by omega
          subst hje
          go_wp2
          go_ret
          exact ⟨b, c, T, by rw [rowsTo_end]; rfl, HC.out, hI⟩

end Go.Proofs.Ytgbhfhdhmkmpcaa.Atoms
