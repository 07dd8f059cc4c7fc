/-
  The document's table: what drachmref05.first, rest and prefixes lay, run by the kernel.
-/
import Derived.Test.YtgbhfhdhmkmpcaaAX
namespace Go.Proofs.Ytgbhfhdhmkmpcaa.Atoms
open Go.RowKit Go.Shelf
set_option linter.unusedVariables false
set_option linter.unusedSimpArgs false

set_option maxRecDepth 100000 in
set_option maxHeartbeats 1000000 in
theorem atom_any (r : Row) (s : Value) (w : World) (hs : ∃ o n c, s = .slice o n c) :
    Calls Try.prog 46 #[.agg r.c5.cs, .bool r.m, .int .i64 r.tag, .int .i64 r.base, .int .i64 r.num, .int .i64 r.den, .int .i64 r.ten, s] w fun e w' => e = .returned (.agg (r.cs s)) ∧ w' = (w.alloc (.cells r.c5.cs 70)).alloc (.cells (r.cs s) 73) := by
  obtain ⟨o, n, c, rfl⟩ := hs
  simp only [Row.cs, C5.cs, Row.c5]
  go_enter Try.func46, Try.ntmps46
  go_wp2
  refine bodyPost_ret (v := .agg #[.string (bs r.c0), .string (bs r.c1), .string (bs r.c2), .string (bs r.c3), .string (bs r.c4), .bool r.m, .int .i64 r.tag, .int .i64 r.base, .int .i64 r.num, .int .i64 r.den, .int .i64 r.ten, .slice o n c]) (by simp [results, Try.results46, go_sem]) rfl ⟨rfl, rfl⟩
/-- Five texts. -/
def texts5 : List Value → Option (ByteArray × ByteArray × ByteArray × ByteArray × ByteArray)
  | [.string c0, .string c1, .string c2, .string c3, .string c4] => some (c0, c1, c2, c3, c4)
  | _ => none
theorem texts5_some {l : List Value} {c0 c1 c2 c3 c4 : ByteArray} (h : texts5 l = some (c0, c1, c2, c3, c4)) : l = [.string c0, .string c1, .string c2, .string c3, .string c4] := by
  unfold texts5 at h
  split at h
  · simp only [Option.some.injEq, Prod.mk.injEq] at h
    obtain ⟨rfl, rfl, rfl, rfl, rfl⟩ := h
    rfl
  · cases h
/-- What atom answers. -/
def knowAtom (f : FuncId) (args : Array Value) : Option (Value × List Obj) :=
  match f == 46, args.toList with
  | true, [.agg cs, .bool m, .int .i64 tag, .int .i64 base, .int .i64 num, .int .i64 den, .int .i64 ten, .slice o n c] =>
    match texts5 cs.toList with
    | some (c0, c1, c2, c3, c4) => some (.agg #[.string c0, .string c1, .string c2, .string c3, .string c4, .bool m, .int .i64 tag, .int .i64 base, .int .i64 num, .int .i64 den, .int .i64 ten, .slice o n c],
      [.cells #[.string c0, .string c1, .string c2, .string c3, .string c4] 70, .cells #[.string c0, .string c1, .string c2, .string c3, .string c4, .bool m, .int .i64 tag, .int .i64 base, .int .i64 num, .int .i64 den, .int .i64 ten, .slice o n c] 73])
    | none => none
  | _, _ => none
theorem known_atom : Known Try.prog knowAtom := by
  intro f args v os h w
  unfold knowAtom at h
  split at h
  · rename_i cs m tag base num den ten o n c hf hl
    split at h
    · rename_i c0 c1 c2 c3 c4 ht
      have hcs := texts5_some ht
      obtain rfl : cs = #[.string c0, .string c1, .string c2, .string c3, .string c4] := by cases cs; simp_all
      simp only [Option.some.injEq, Prod.mk.injEq] at h
      obtain ⟨rfl, rfl⟩ := h
      have hf' : f = 46 := by simpa using hf
      subst hf'
      obtain rfl : args = #[.agg #[.string c0, .string c1, .string c2, .string c3, .string c4], .bool m, .int .i64 tag, .int .i64 base, .int .i64 num, .int .i64 den, .int .i64 ten, .slice o n c] := by cases args; simp_all
      have := atom_any ⟨c0.data.toList, c1.data.toList, c2.data.toList, c3.data.toList, c4.data.toList, m, tag, base, num, den, ten, []⟩ (.slice o n c) w ⟨_, _, _, rfl⟩
      simp only [Row.cs, C5.cs, Row.c5, bs_of] at this
      refine this.mono ?_
      rintro e w' ⟨rfl, rfl⟩
      refine ⟨rfl, ?_⟩
      rw [laid_alloc' w, laid_alloc]
      rfl
    · cases h
  · cases h

/-! ### What is laid -/

def slice2 (n off : Nat) (r : Row) : Value := if r.ts.isEmpty then .slice none 0 0 else .slice (some ⟨n + off, 0, none⟩) r.ts.length r.ts.length
def layRow2 (n off : Nat) (r : Row) : List Obj := (if r.ts.isEmpty then [] else [.cells (termsC r.ts) 85]) ++ [.cells r.c5.cs 70, .cells (r.cs (slice2 n off r)) 73]
def len2 (r : Row) : Nat := if r.ts.isEmpty then 2 else 3
def lay2 (n : Nat) : Nat → List Row → List Obj
  | _, [] => []
  | off, r :: rs => layRow2 n off r ++ lay2 n (off + len2 r) rs
def off2 (rows : List Row) (i : Nat) : Nat := ((rows.take i).map len2).sum
def slices2 (n : Nat) (rows : List Row) (i : Nat) : Value := slice2 n (off2 rows i) (rows.getD i default)
def layR (n : Nat) (rows : List Row) : List Obj := lay2 n 0 rows ++ [.cells (flat 12 rows.length (cellA rows (slices2 n rows))).toArray 73]
theorem layRow2_len (n off : Nat) (r : Row) : (layRow2 n off r).length = len2 r := by
  unfold layRow2 len2
  split <;> simp
theorem lay2_at (n : Nat) : ∀ (rows : List Row) (off i : Nat), i < rows.length → ∀ k, k < len2 (rows.getD i default) → (lay2 n off rows)[off2 rows i + k]? = (layRow2 n (off + off2 rows i) (rows.getD i default))[k]?
  | [], _, i, hi, _, _ => absurd hi (by simp)
  | r :: rs, off, 0, _, k, hk => by
    show (layRow2 n off r ++ lay2 n (off + len2 r) rs)[off2 (r :: rs) 0 + k]? = _
    have h0 : off2 (r :: rs) 0 = 0 := rfl
    rw [h0, Nat.zero_add, Nat.add_zero, List.getElem?_append_left (by rw [layRow2_len]; exact hk)]
    rfl
  | r :: rs, off, i + 1, hi, k, hk => by
    show (layRow2 n off r ++ lay2 n (off + len2 r) rs)[off2 (r :: rs) (i + 1) + k]? = _
    have h1 : off2 (r :: rs) (i + 1) = len2 r + off2 rs i := by simp [off2]
    have h2 : (r :: rs).getD (i + 1) default = rs.getD i default := rfl
    rw [h1, h2] at *
    rw [List.getElem?_append_right (by rw [layRow2_len]; omega), layRow2_len]
    have := lay2_at n rs (off + len2 r) i (by simpa using hi) k hk
    rw [show len2 r + off2 rs i + k - len2 r = off2 rs i + k by omega, this, Nat.add_assoc]
theorem rowsR_end (w : World) (rows : List Row) : RowsEnd w rows (.returned (.slice (some ⟨w.heap.size + (lay2 w.heap.size 0 rows).length, 0, none⟩) rows.length rows.length)) (laid w (layR w.heap.size rows)) := by
  have hb : (laid w (layR w.heap.size rows)).heap[w.heap.size + (lay2 w.heap.size 0 rows).length]? = some (.cells (flat 12 rows.length (cellA rows (slices2 w.heap.size rows))).toArray 73) := by
    rw [laid_get]
    unfold layR
    rw [List.getElem?_append_right (by omega)]
    simp
  refine ⟨_, slices2 w.heap.size rows, rfl, ⟨.inr ⟨_, _, rfl, Nat.le_refl _, ?_, ?_⟩, ?_⟩, ?_, ?_, laid_below w _⟩
  · have := Spare.of_cells hb
    have hs : (flat 12 rows.length (cellA rows (slices2 w.heap.size rows))).toArray.size = rows.length * 12 := by rw [List.size_toArray, flat_length]
    exact fun j hj => this j (by rw [hs]; exact hj)
  · refine Grid.old hb fun i hi j hj => ?_
    rw [List.getElem?_toArray]
    exact flat_at hi hj
  · intro i hi
    unfold slices2 slice2
    by_cases h : (rows.getD i default).ts.isEmpty = true
    · rw [if_pos h]
      have h0 : (rows.getD i default).ts = [] := by simpa using h
      rw [h0]
      exact .inl ⟨rfl, rfl⟩
    · rw [if_neg h]
      have hlt : 0 < len2 (rows.getD i default) := by unfold len2; split <;> omega
      have hat := lay2_at w.heap.size rows 0 i hi 0 hlt
      have hl0 : (layRow2 w.heap.size (0 + off2 rows i) (rows.getD i default))[0]? = some (.cells (termsC (rows.getD i default).ts) 85) := by
        unfold layRow2
        rw [if_neg h]
        rfl
      rw [hl0, Nat.add_zero] at hat
      have hbt : (laid w (layR w.heap.size rows)).heap[w.heap.size + off2 rows i]? = some (.cells (termsC (rows.getD i default).ts) 85) := by
        rw [laid_get]
        unfold layR
        rw [List.getElem?_append_left ((List.getElem?_eq_some_iff.1 hat).1), hat]
      refine .inr ⟨_, _, rfl, Nat.le_refl _, ?_, ?_⟩
      · have := Spare.of_cells hbt
        have hs : (termsC (rows.getD i default).ts).size = (rows.getD i default).ts.length * 2 := by unfold termsC; rw [List.size_toArray, flat_length]
        rwa [hs] at this
      · refine Grid.old hbt fun i' hi' j hj => ?_
        unfold termsC
        rw [List.getElem?_toArray]
        exact flat_at hi' hj
  · intro a m c e
    injection e with e1
    injection e1 with e1
    rw [← e1]
    show w.heap.size ≤ w.heap.size + _
    omega
  · intro i _ a m c e
    unfold slices2 slice2 at e
    split at e
    · cases e
    · injection e with e1
      injection e1 with e1
      rw [← e1]
      show w.heap.size ≤ w.heap.size + _
      omega

/-- The document's rows. -/
def rowsF : List Row := [
  ⟨[109], [77], [109], [77], [109], true, 0, 0, 1, 1, 0, []⟩,
  ⟨[115], [83], [115], [83], [115], true, 0, 1, 1, 1, 0, []⟩,
  ⟨[103], [71], [103], [71], [103], true, 0, 2, 1, 1, 0, []⟩,
  ⟨[114, 97, 100], [82, 65, 68], [114, 97, 100], [82, 65, 68], [114, 97, 100], true, 0, 3, 1, 1, 0, []⟩,
  ⟨[75], [75], [75], [75], [75], true, 0, 4, 1, 1, 0, []⟩,
  ⟨[67], [67], [67], [67], [67], true, 0, 5, 1, 1, 0, []⟩,
  ⟨[99, 100], [67, 68], [99, 100], [67, 68], [99, 100], true, 0, 6, 1, 1, 0, []⟩,
  ⟨[37], [37], [37], [], [37], false, 0, (-1), 1, 1, (-2), []⟩,
  ⟨[109, 111, 108], [77, 79, 76], [109, 111, 108], [77, 79, 76], [109, 111, 108], true, 0, (-1), 602214076, 1, 15, []⟩,
  ⟨[115, 114], [83, 82], [115, 114], [83, 82], [115, 114], true, 0, (-1), 1, 1, 0, [(3, 2)]⟩,
  ⟨[72, 122], [72, 90], [72, 122], [72, 90], [72, 122], true, 0, (-1), 1, 1, 0, [(1, (-1))]⟩,
  ⟨[78], [78], [78], [78], [78], true, 0, (-1), 1, 1, 3, [(2, 1), (0, 1), (1, (-2))]⟩,
  ⟨[80, 97], [80, 65, 76], [80, 97], [80, 65], [80, 97], true, 0, (-1), 1, 1, 0, [(11, 1), (0, (-2))]⟩,
  ⟨[74], [74], [74], [74], [74], true, 0, (-1), 1, 1, 0, [(11, 1), (0, 1)]⟩,
  ⟨[87], [87], [87], [87], [87], true, 0, (-1), 1, 1, 0, [(13, 1), (1, (-1))]⟩,
  ⟨[65], [65], [65], [65], [65], true, 0, (-1), 1, 1, 0, [(5, 1), (1, (-1))]⟩,
  ⟨[86], [86], [86], [86], [86], true, 0, (-1), 1, 1, 0, [(13, 1), (5, (-1))]⟩,
  ⟨[70], [70], [70], [70], [70], true, 0, (-1), 1, 1, 0, [(5, 1), (16, (-1))]⟩,
  ⟨[79, 104, 109], [79, 72, 77], [79, 104, 109], [79, 72, 77], [111, 104, 109], true, 0, (-1), 1, 1, 0, [(16, 1), (15, (-1))]⟩,
  ⟨[83], [83, 73, 69], [83], [83, 73, 69], [83], true, 0, (-1), 1, 1, 0, [(18, (-1))]⟩,
  ⟨[87, 98], [87, 66], [87, 98], [87, 66], [87, 98], true, 0, (-1), 1, 1, 0, [(16, 1), (1, 1)]⟩,
  ⟨[67, 101, 108], [67, 69, 76], [91, 111, 67, 93], [67, 69, 76], [], true, 1, (-1), 1, 1, 0, [(4, 1)]⟩,
  ⟨[84], [84], [84], [84], [84], true, 0, (-1), 1, 1, 0, [(20, 1), (0, (-2))]⟩,
  ⟨[72], [72], [72], [72], [72], true, 0, (-1), 1, 1, 0, [(20, 1), (15, (-1))]⟩]
def rowsR : List Row := [
  ⟨[108, 109], [76, 77], [108, 109], [76, 77], [108, 109], true, 0, (-1), 1, 1, 0, [(6, 1), (9, 1)]⟩,
  ⟨[108, 120], [76, 88], [108, 120], [76, 88], [108, 120], true, 0, (-1), 1, 1, 0, [(24, 1), (0, (-2))]⟩,
  ⟨[66, 113], [66, 81], [66, 113], [66, 81], [66, 113], true, 0, (-1), 1, 1, 0, [(1, (-1))]⟩,
  ⟨[71, 121], [71, 89], [71, 121], [71, 89], [71, 121], true, 0, (-1), 1, 1, (-3), [(13, 1), (2, (-1))]⟩,
  ⟨[83, 118], [83, 86], [83, 118], [83, 86], [83, 118], true, 0, (-1), 1, 1, (-3), [(13, 1), (2, (-1))]⟩,
  ⟨[108], [76], [76], [76], [108], true, 0, (-1), 1, 1, (-3), [(0, 3)]⟩,
  ⟨[97, 114], [65, 82], [97], [65, 82, 69], [97], true, 0, (-1), 1, 1, 2, [(0, 2)]⟩,
  ⟨[109, 105, 110], [77, 73, 78], [109, 105, 110], [77, 73, 78], [109, 105, 110], false, 0, (-1), 6, 1, 1, [(1, 1)]⟩,
  ⟨[104], [72, 82], [104], [72, 82], [104, 114], false, 0, (-1), 36, 1, 2, [(1, 1)]⟩,
  ⟨[100], [68], [100], [68], [100], false, 0, (-1), 24, 1, 0, [(32, 1)]⟩,
  ⟨[97], [65, 78, 78], [121, 114], [65, 78, 78], [121, 114], false, 0, (-1), 36525, 1, (-2), [(33, 1)]⟩,
  ⟨[116], [84, 78, 69], [116], [84, 78, 69], [116], true, 0, (-1), 1, 1, 6, [(2, 1)]⟩,
  ⟨[98, 97, 114], [66, 65, 82], [98, 97, 114], [66, 65, 82], [98, 97, 114], true, 0, (-1), 1, 1, 5, [(12, 1)]⟩,
  ⟨[91, 105, 110, 95, 105, 93], [91, 73, 78, 95, 73, 93], [105, 110], [73, 78], [105, 110], false, 0, (-1), 254, 1, (-4), [(0, 1)]⟩,
  ⟨[91, 108, 98, 95, 97, 118, 93], [91, 76, 66, 95, 65, 86, 93], [108, 98], [76, 66], [108, 98], false, 0, (-1), 45359237, 1, (-5), [(2, 1)]⟩,
  ⟨[91, 112, 72, 93], [91, 80, 72, 93], [112, 72], [], [], false, 2, (-1), 1, 1, 0, [(8, 1), (29, (-1))]⟩,
  ⟨[66], [66], [66], [], [], true, 3, (-1), 1, 1, 0, []⟩,
  ⟨[91, 105, 85, 93], [91, 73, 85, 93], [73, 85], [], [73, 85], true, 0, (-1), 1, 1, 0, []⟩,
  ⟨[101, 113], [69, 81], [101, 113], [69, 81], [101, 113], true, 0, (-1), 1, 1, 0, [(8, 1)]⟩,
  ⟨[111, 115, 109], [79, 83, 77], [111, 115, 109], [79, 83, 77], [111, 115, 109], true, 0, (-1), 1, 1, 0, [(8, 1)]⟩,
  ⟨[107, 97, 116], [75, 65, 84], [107, 97, 116], [75, 65, 84], [107, 97, 116], true, 0, (-1), 1, 1, 0, [(8, 1), (1, (-1))]⟩,
  ⟨[117], [65, 77, 85], [117], [85], [117], true, 0, (-1), 16605390666, 1, (-34), [(2, 1)]⟩,
  ⟨[101, 86], [69, 86], [101, 86], [69, 86], [101, 86], true, 0, (-1), 1602176634, 1, (-28), [(13, 1)]⟩,
  ⟨[91, 100, 114, 95, 97, 118, 93], [91, 68, 82, 95, 65, 86, 93], [100, 114], [], [100, 114], false, 0, (-1), 1, 256, 0, [(38, 1)]⟩]
/-- THE TABLE IS THE DOCUMENT's. -/
theorem table_doc : rowsF ++ rowsR = tableRs := by kernel_rfl

set_option maxRecDepth 1000000 in
set_option maxHeartbeats 4000000 in
theorem first_any (w : World) : Calls Try.prog 43 #[] w (RowsEnd w rowsF) := by
  go_enter Try.func43, Try.ntmps43
  refine wp_seq (wp_region_list ?_)
  refine wpList_plain rfl fun K hK => hK _ _ ?_
  show Code.wp _ _ _ _ _
  refine wp_seq (wp_region_list ?_)
  refine wpList_run known_atom w 92 _ _ 0 92 (.slice (some ⟨w.heap.size + (lay2 w.heap.size 0 rowsF).length, 0, none⟩) rowsF.length rowsF.length) (layR w.heap.size rowsF) (by kernel_rfl) ?_
  intro a' hs hN hd
  refine wpList_nil (wp_ret ?_)
  refine bodyPost_ret (v := .slice (some ⟨w.heap.size + (lay2 w.heap.size 0 rowsF).length, 0, none⟩) rowsF.length rowsF.length) ?_ hd (rowsR_end w rowsF)
  rw [← hs]
  exact results_tmp rfl _ _ _

set_option maxRecDepth 1000000 in
set_option maxHeartbeats 4000000 in
theorem refrest_any (w : World) : Calls Try.prog 44 #[] w (RowsEnd w rowsR) := by
  go_enter Try.func44, Try.ntmps44
  refine wp_seq (wp_region_list ?_)
  refine wpList_plain rfl fun K hK => hK _ _ ?_
  show Code.wp _ _ _ _ _
  refine wp_seq (wp_region_list ?_)
  refine wpList_run known_atom w 100 _ _ 0 100 (.slice (some ⟨w.heap.size + (lay2 w.heap.size 0 rowsR).length, 0, none⟩) rowsR.length rowsR.length) (layR w.heap.size rowsR) (by kernel_rfl) ?_
  intro a' hs hN hd
  refine wpList_nil (wp_ret ?_)
  refine bodyPost_ret (v := .slice (some ⟨w.heap.size + (lay2 w.heap.size 0 rowsR).length, 0, none⟩) rowsR.length rowsR.length) ?_ hd (rowsR_end w rowsR)
  rw [← hs]
  exact results_tmp rfl _ _ _

set_option maxRecDepth 1000000 in
set_option maxHeartbeats 4000000 in
theorem refprefs_any (w : World) : Calls Try.prog 45 #[] w (PrefsEnd w tablePs) := by
  go_enter Try.func45, Try.ntmps45
  refine wp_seq (wp_region_list ?_)
  refine wpList_plain rfl fun K hK => hK _ _ ?_
  show Code.wp _ _ _ _ _
  refine wp_seq (wp_region_list ?_)
  refine wpList_run known_none w 42 _ _ 0 42 (.slice (some ⟨w.heap.size + 0, 0, none⟩) tablePs.length tablePs.length) (layPs tablePs) (by kernel_rfl) ?_
  intro a' hs hN hd
  refine wpList_nil (wp_ret ?_)
  refine bodyPost_ret (v := .slice (some ⟨w.heap.size + 0, 0, none⟩) tablePs.length tablePs.length) ?_ hd (prefs_end w tablePs)
  rw [← hs]
  exact results_tmp rfl _ _ _

end Go.Proofs.Ytgbhfhdhmkmpcaa.Atoms
