/-
  The document's table: what drachmref05.first, rest and prefixes lay, run by the kernel. Contract of drachmref05.Table: the document's table.
-/
import Derived.Test.YthofogokpolhdaaGreatDoorAFX
namespace Go.Proofs.YthofogokpolhdaaGreatDoor.Atoms
open Go.RowKit Go.Shelf
set_option linter.unusedVariables false
set_option linter.unusedSimpArgs false

set_option maxRecDepth 100000 in
set_option maxHeartbeats 1000000 in
theorem atom_any (r : Row) (s : Value) (w : World) (hs : ∃ o n c, s = .slice o n c) :
    Calls Tryz.prog 107 #[.agg r.c5.cs, .bool r.m, .int .i64 r.tag, .int .i64 r.base, .int .i64 r.num, .int .i64 r.den, .int .i64 r.ten, s] w fun e w' => e = .returned (.agg (r.cs s)) ∧ w' = (w.alloc (.cells r.c5.cs 131)).alloc (.cells (r.cs s) 134) := by
  obtain ⟨o, n, c, rfl⟩ := hs
  simp only [Row.cs, C5.cs, Row.c5]
  go_enter Tryz.func107, Tryz.ntmps107
  go_wp2
  refine bodyPost_ret (v := .agg #[.string (bs r.c0), .string (bs r.c1), .string (bs r.c2), .string (bs r.c3), .string (bs r.c4), .bool r.m, .int .i64 r.tag, .int .i64 r.base, .int .i64 r.num, .int .i64 r.den, .int .i64 r.ten, .slice o n c]) (by simp [results, Tryz.results107, go_sem]) rfl ⟨rfl, rfl⟩
/-- Five texts. -/
def texts5 : List Value → Option (ByteArray × ByteArray × ByteArray × ByteArray × ByteArray)
  | [.string c0, .string c1, .string c2, .string c3, .string c4] => some (c0, c1, c2, c3, c4)
  | _ => none
theorem texts5_some {l : List Value} {c0 c1 c2 c3 c4 : ByteArray} (h : texts5 l = some (c0, c1, c2, c3, c4)) : l = [.string c0, .string c1, .string c2, .string c3, .string c4] := by
  unfold texts5 at h
  split at h
  · simp only [Option.some.injEq, Prod.mk.injEq] at h
    obtain ⟨rfl, rfl, rfl, rfl, rfl⟩ := h
    rfl
  · cases h
/-- What atom answers. -/
def knowAtom (f : FuncId) (args : Array Value) : Option (Value × List Obj) :=
  match f == 107, args.toList with
  | true, [.agg cs, .bool m, .int .i64 tag, .int .i64 base, .int .i64 num, .int .i64 den, .int .i64 ten, .slice o n c] =>
    match texts5 cs.toList with
    | some (c0, c1, c2, c3, c4) => some (.agg #[.string c0, .string c1, .string c2, .string c3, .string c4, .bool m, .int .i64 tag, .int .i64 base, .int .i64 num, .int .i64 den, .int .i64 ten, .slice o n c],
      [.cells #[.string c0, .string c1, .string c2, .string c3, .string c4] 131, .cells #[.string c0, .string c1, .string c2, .string c3, .string c4, .bool m, .int .i64 tag, .int .i64 base, .int .i64 num, .int .i64 den, .int .i64 ten, .slice o n c] 134])
    | none => none
  | _, _ => none
theorem known_atom : Known Tryz.prog knowAtom := by
  intro f args v os h w
  unfold knowAtom at h
  split at h
  · rename_i cs m tag base num den ten o n c hf hl
    split at h
    · rename_i c0 c1 c2 c3 c4 ht
      have hcs := texts5_some ht
      obtain rfl : cs = #[.string c0, .string c1, .string c2, .string c3, .string c4] := by cases cs; simp_all
      simp only [Option.some.injEq, Prod.mk.injEq] at h
      obtain ⟨rfl, rfl⟩ := h
      have hf' : f = 107 := by simpa using hf
      subst hf'
      obtain rfl : args = #[.agg #[.string c0, .string c1, .string c2, .string c3, .string c4], .bool m, .int .i64 tag, .int .i64 base, .int .i64 num, .int .i64 den, .int .i64 ten, .slice o n c] := by cases args; simp_all
      have := atom_any ⟨c0.data.toList, c1.data.toList, c2.data.toList, c3.data.toList, c4.data.toList, m, tag, base, num, den, ten, []⟩ (.slice o n c) w ⟨_, _, _, rfl⟩
      simp only [Row.cs, C5.cs, Row.c5, bs_of] at this
      refine this.mono ?_
      rintro e w' ⟨rfl, rfl⟩
      refine ⟨rfl, ?_⟩
      rw [laid_alloc' w, laid_alloc]
      rfl
    · cases h
  · cases h

/-! ### What is laid -/

def slice2 (n off : Nat) (r : Row) : Value := if r.ts.isEmpty then .slice none 0 0 else .slice (some ⟨n + off, 0, none⟩) r.ts.length r.ts.length
def layRow2 (n off : Nat) (r : Row) : List Obj := (if r.ts.isEmpty then [] else [.cells (termsC r.ts) 147]) ++ [.cells r.c5.cs 131, .cells (r.cs (slice2 n off r)) 134]
def len2 (r : Row) : Nat := if r.ts.isEmpty then 2 else 3
def lay2 (n : Nat) : Nat → List Row → List Obj
  | _, [] => []
  | off, r :: rs => layRow2 n off r ++ lay2 n (off + len2 r) rs
def off2 (rows : List Row) (i : Nat) : Nat := ((rows.take i).map len2).sum
def slices2 (n : Nat) (rows : List Row) (i : Nat) : Value := slice2 n (off2 rows i) (rows.getD i default)
def layR (n : Nat) (rows : List Row) : List Obj := lay2 n 0 rows ++ [.cells (flat 12 rows.length (cellA rows (slices2 n rows))).toArray 134]
theorem layRow2_len (n off : Nat) (r : Row) : (layRow2 n off r).length = len2 r := by
  unfold layRow2 len2
  split <;> simp
theorem lay2_at (n : Nat) : ∀ (rows : List Row) (off i : Nat), i < rows.length → ∀ k, k < len2 (rows.getD i default) → (lay2 n off rows)[off2 rows i + k]? = (layRow2 n (off + off2 rows i) (rows.getD i default))[k]?
  | [], _, i, hi, _, _ => absurd hi (by simp)
  | r :: rs, off, 0, _, k, hk => by
    show (layRow2 n off r ++ lay2 n (off + len2 r) rs)[off2 (r :: rs) 0 + k]? = _
    have h0 : off2 (r :: rs) 0 = 0 := rfl
    rw [h0, Nat.zero_add, Nat.add_zero, List.getElem?_append_left (by rw [layRow2_len]; exact hk)]
    rfl
  | r :: rs, off, i + 1, hi, k, hk => by
    show (layRow2 n off r ++ lay2 n (off + len2 r) rs)[off2 (r :: rs) (i + 1) + k]? = _
    have h1 : off2 (r :: rs) (i + 1) = len2 r + off2 rs i := by simp [off2]
    have h2 : (r :: rs).getD (i + 1) default = rs.getD i default := rfl
    rw [h1, h2] at *
    rw [List.getElem?_append_right (by rw [layRow2_len]; omega), layRow2_len]
    have := lay2_at n rs (off + len2 r) i (by simpa using hi) k hk
    rw [show len2 r + off2 rs i + k - len2 r = off2 rs i + k by omega, this, Nat.add_assoc]
theorem rowsR_end (w : World) (rows : List Row) : RowsEnd w rows (.returned (.slice (some ⟨w.heap.size + (lay2 w.heap.size 0 rows).length, 0, none⟩) rows.length rows.length)) (laid w (layR w.heap.size rows)) := by
  have hb : (laid w (layR w.heap.size rows)).heap[w.heap.size + (lay2 w.heap.size 0 rows).length]? = some (.cells (flat 12 rows.length (cellA rows (slices2 w.heap.size rows))).toArray 134) := by
    rw [laid_get]
    unfold layR
    rw [List.getElem?_append_right (by omega)]
    simp
  refine ⟨_, slices2 w.heap.size rows, rfl, ⟨.inr ⟨_, _, rfl, Nat.le_refl _, ?_, ?_⟩, ?_⟩, ?_, ?_, laid_below w _⟩
  · have := Spare.of_cells hb
    have hs : (flat 12 rows.length (cellA rows (slices2 w.heap.size rows))).toArray.size = rows.length * 12 := by rw [List.size_toArray, flat_length]
    exact fun j hj => this j (by rw [hs]; exact hj)
  · refine Grid.old hb fun i hi j hj => ?_
    rw [List.getElem?_toArray]
    exact flat_at hi hj
  · intro i hi
    unfold slices2 slice2
    by_cases h : (rows.getD i default).ts.isEmpty = true
    · rw [if_pos h]
      have h0 : (rows.getD i default).ts = [] := by simpa using h
      rw [h0]
      exact .inl ⟨rfl, rfl⟩
    · rw [if_neg h]
      have hlt : 0 < len2 (rows.getD i default) := by unfold len2; split <;> omega
      have hat := lay2_at w.heap.size rows 0 i hi 0 hlt
      have hl0 : (layRow2 w.heap.size (0 + off2 rows i) (rows.getD i default))[0]? = some (.cells (termsC (rows.getD i default).ts) 147) := by
        unfold layRow2
        rw [if_neg h]
        rfl
      rw [hl0, Nat.add_zero] at hat
      have hbt : (laid w (layR w.heap.size rows)).heap[w.heap.size + off2 rows i]? = some (.cells (termsC (rows.getD i default).ts) 147) := by
        rw [laid_get]
        unfold layR
        rw [List.getElem?_append_left ((List.getElem?_eq_some_iff.1 hat).1), hat]
      refine .inr ⟨_, _, rfl, Nat.le_refl _, ?_, ?_⟩
      · have := Spare.of_cells hbt
        have hs : (termsC (rows.getD i default).ts).size = (rows.getD i default).ts.length * 2 := by unfold termsC; rw [List.size_toArray, flat_length]
        rwa [hs] at this
      · refine Grid.old hbt fun i' hi' j hj => ?_
        unfold termsC
        rw [List.getElem?_toArray]
        exact flat_at hi' hj
  · intro a m c e
    injection e with e1
    injection e1 with e1
    rw [← e1]
    show w.heap.size ≤ w.heap.size + _
    omega
  · intro i _ a m c e
    unfold slices2 slice2 at e
    split at e
    · cases e
    · injection e with e1
      injection e1 with e1
      rw [← e1]
      show w.heap.size ≤ w.heap.size + _
      omega

/-- The document's rows. -/
def rowsF : List Row := [
  ⟨[109], [77], [109], [77], [109], true, 0, 0, 1, 1, 0, []⟩,
  ⟨[115], [83], [115], [83], [115], true, 0, 1, 1, 1, 0, []⟩,
  ⟨[103], [71], [103], [71], [103], true, 0, 2, 1, 1, 0, []⟩,
  ⟨[114, 97, 100], [82, 65, 68], [114, 97, 100], [82, 65, 68], [114, 97, 100], true, 0, 3, 1, 1, 0, []⟩,
  ⟨[75], [75], [75], [75], [75], true, 0, 4, 1, 1, 0, []⟩,
  ⟨[67], [67], [67], [67], [67], true, 0, 5, 1, 1, 0, []⟩,
  ⟨[99, 100], [67, 68], [99, 100], [67, 68], [99, 100], true, 0, 6, 1, 1, 0, []⟩,
  ⟨[37], [37], [37], [], [37], false, 0, (-1), 1, 1, (-2), []⟩,
  ⟨[109, 111, 108], [77, 79, 76], [109, 111, 108], [77, 79, 76], [109, 111, 108], true, 0, (-1), 602214076, 1, 15, []⟩,
  ⟨[115, 114], [83, 82], [115, 114], [83, 82], [115, 114], true, 0, (-1), 1, 1, 0, [(3, 2)]⟩,
  ⟨[72, 122], [72, 90], [72, 122], [72, 90], [72, 122], true, 0, (-1), 1, 1, 0, [(1, (-1))]⟩,
  ⟨[78], [78], [78], [78], [78], true, 0, (-1), 1, 1, 3, [(2, 1), (0, 1), (1, (-2))]⟩,
  ⟨[80, 97], [80, 65, 76], [80, 97], [80, 65], [80, 97], true, 0, (-1), 1, 1, 0, [(11, 1), (0, (-2))]⟩,
  ⟨[74], [74], [74], [74], [74], true, 0, (-1), 1, 1, 0, [(11, 1), (0, 1)]⟩,
  ⟨[87], [87], [87], [87], [87], true, 0, (-1), 1, 1, 0, [(13, 1), (1, (-1))]⟩,
  ⟨[65], [65], [65], [65], [65], true, 0, (-1), 1, 1, 0, [(5, 1), (1, (-1))]⟩,
  ⟨[86], [86], [86], [86], [86], true, 0, (-1), 1, 1, 0, [(13, 1), (5, (-1))]⟩,
  ⟨[70], [70], [70], [70], [70], true, 0, (-1), 1, 1, 0, [(5, 1), (16, (-1))]⟩,
  ⟨[79, 104, 109], [79, 72, 77], [79, 104, 109], [79, 72, 77], [111, 104, 109], true, 0, (-1), 1, 1, 0, [(16, 1), (15, (-1))]⟩,
  ⟨[83], [83, 73, 69], [83], [83, 73, 69], [83], true, 0, (-1), 1, 1, 0, [(18, (-1))]⟩,
  ⟨[87, 98], [87, 66], [87, 98], [87, 66], [87, 98], true, 0, (-1), 1, 1, 0, [(16, 1), (1, 1)]⟩,
  ⟨[67, 101, 108], [67, 69, 76], [91, 111, 67, 93], [67, 69, 76], [], true, 1, (-1), 1, 1, 0, [(4, 1)]⟩,
  ⟨[84], [84], [84], [84], [84], true, 0, (-1), 1, 1, 0, [(20, 1), (0, (-2))]⟩,
  ⟨[72], [72], [72], [72], [72], true, 0, (-1), 1, 1, 0, [(20, 1), (15, (-1))]⟩]
def rowsR : List Row := [
  ⟨[108, 109], [76, 77], [108, 109], [76, 77], [108, 109], true, 0, (-1), 1, 1, 0, [(6, 1), (9, 1)]⟩,
  ⟨[108, 120], [76, 88], [108, 120], [76, 88], [108, 120], true, 0, (-1), 1, 1, 0, [(24, 1), (0, (-2))]⟩,
  ⟨[66, 113], [66, 81], [66, 113], [66, 81], [66, 113], true, 0, (-1), 1, 1, 0, [(1, (-1))]⟩,
  ⟨[71, 121], [71, 89], [71, 121], [71, 89], [71, 121], true, 0, (-1), 1, 1, (-3), [(13, 1), (2, (-1))]⟩,
  ⟨[83, 118], [83, 86], [83, 118], [83, 86], [83, 118], true, 0, (-1), 1, 1, (-3), [(13, 1), (2, (-1))]⟩,
  ⟨[108], [76], [76], [76], [108], true, 0, (-1), 1, 1, (-3), [(0, 3)]⟩,
  ⟨[97, 114], [65, 82], [97], [65, 82, 69], [97], true, 0, (-1), 1, 1, 2, [(0, 2)]⟩,
  ⟨[109, 105, 110], [77, 73, 78], [109, 105, 110], [77, 73, 78], [109, 105, 110], false, 0, (-1), 6, 1, 1, [(1, 1)]⟩,
  ⟨[104], [72, 82], [104], [72, 82], [104, 114], false, 0, (-1), 36, 1, 2, [(1, 1)]⟩,
  ⟨[100], [68], [100], [68], [100], false, 0, (-1), 24, 1, 0, [(32, 1)]⟩,
  ⟨[97], [65, 78, 78], [121, 114], [65, 78, 78], [121, 114], false, 0, (-1), 36525, 1, (-2), [(33, 1)]⟩,
  ⟨[116], [84, 78, 69], [116], [84, 78, 69], [116], true, 0, (-1), 1, 1, 6, [(2, 1)]⟩,
  ⟨[98, 97, 114], [66, 65, 82], [98, 97, 114], [66, 65, 82], [98, 97, 114], true, 0, (-1), 1, 1, 5, [(12, 1)]⟩,
  ⟨[91, 105, 110, 95, 105, 93], [91, 73, 78, 95, 73, 93], [105, 110], [73, 78], [105, 110], false, 0, (-1), 254, 1, (-4), [(0, 1)]⟩,
  ⟨[91, 108, 98, 95, 97, 118, 93], [91, 76, 66, 95, 65, 86, 93], [108, 98], [76, 66], [108, 98], false, 0, (-1), 45359237, 1, (-5), [(2, 1)]⟩,
  ⟨[91, 112, 72, 93], [91, 80, 72, 93], [112, 72], [], [], false, 2, (-1), 1, 1, 0, [(8, 1), (29, (-1))]⟩,
  ⟨[66], [66], [66], [], [], true, 3, (-1), 1, 1, 0, []⟩,
  ⟨[91, 105, 85, 93], [91, 73, 85, 93], [73, 85], [], [73, 85], true, 0, (-1), 1, 1, 0, []⟩,
  ⟨[101, 113], [69, 81], [101, 113], [69, 81], [101, 113], true, 0, (-1), 1, 1, 0, [(8, 1)]⟩,
  ⟨[111, 115, 109], [79, 83, 77], [111, 115, 109], [79, 83, 77], [111, 115, 109], true, 0, (-1), 1, 1, 0, [(8, 1)]⟩,
  ⟨[107, 97, 116], [75, 65, 84], [107, 97, 116], [75, 65, 84], [107, 97, 116], true, 0, (-1), 1, 1, 0, [(8, 1), (1, (-1))]⟩,
  ⟨[117], [65, 77, 85], [117], [85], [117], true, 0, (-1), 16605390666, 1, (-34), [(2, 1)]⟩,
  ⟨[101, 86], [69, 86], [101, 86], [69, 86], [101, 86], true, 0, (-1), 1602176634, 1, (-28), [(13, 1)]⟩,
  ⟨[91, 100, 114, 95, 97, 118, 93], [91, 68, 82, 95, 65, 86, 93], [100, 114], [], [100, 114], false, 0, (-1), 1, 256, 0, [(38, 1)]⟩]
/-- THE TABLE IS THE DOCUMENT's. -/
theorem table_doc : rowsF ++ rowsR = tableRs := by kernel_rfl

set_option maxRecDepth 1000000 in
set_option maxHeartbeats 4000000 in
theorem first_any (w : World) : Calls Tryz.prog 88 #[] w (RowsEnd w rowsF) := by
  go_enter Tryz.func88, Tryz.ntmps88
  refine wp_seq (wp_region_list ?_)
  refine wpList_plain rfl fun K hK => hK _ _ ?_
  show Code.wp _ _ _ _ _
  refine wp_seq (wp_region_list ?_)
  refine wpList_run known_atom w 92 _ _ 0 92 (.slice (some ⟨w.heap.size + (lay2 w.heap.size 0 rowsF).length, 0, none⟩) rowsF.length rowsF.length) (layR w.heap.size rowsF) (by kernel_rfl) ?_
  intro a' hs hN hd
  refine wpList_nil (wp_ret ?_)
  refine bodyPost_ret (v := .slice (some ⟨w.heap.size + (lay2 w.heap.size 0 rowsF).length, 0, none⟩) rowsF.length rowsF.length) ?_ hd (rowsR_end w rowsF)
  rw [← hs]
  exact results_tmp rfl _ _ _

set_option maxRecDepth 1000000 in
set_option maxHeartbeats 4000000 in
theorem refrest_any (w : World) : Calls Tryz.prog 89 #[] w (RowsEnd w rowsR) := by
  go_enter Tryz.func89, Tryz.ntmps89
  refine wp_seq (wp_region_list ?_)
  refine wpList_plain rfl fun K hK => hK _ _ ?_
  show Code.wp _ _ _ _ _
  refine wp_seq (wp_region_list ?_)
  refine wpList_run known_atom w 100 _ _ 0 100 (.slice (some ⟨w.heap.size + (lay2 w.heap.size 0 rowsR).length, 0, none⟩) rowsR.length rowsR.length) (layR w.heap.size rowsR) (by kernel_rfl) ?_
  intro a' hs hN hd
  refine wpList_nil (wp_ret ?_)
  refine bodyPost_ret (v := .slice (some ⟨w.heap.size + (lay2 w.heap.size 0 rowsR).length, 0, none⟩) rowsR.length rowsR.length) ?_ hd (rowsR_end w rowsR)
  rw [← hs]
  exact results_tmp rfl _ _ _

set_option maxRecDepth 1000000 in
set_option maxHeartbeats 4000000 in
theorem refprefs_any (w : World) : Calls Tryz.prog 90 #[] w (PrefsEnd w tablePs) := by
  go_enter Tryz.func90, Tryz.ntmps90
  refine wp_seq (wp_region_list ?_)
  refine wpList_plain rfl fun K hK => hK _ _ ?_
  show Code.wp _ _ _ _ _
  refine wp_seq (wp_region_list ?_)
  refine wpList_run known_none w 42 _ _ 0 42 (.slice (some ⟨w.heap.size + 0, 0, none⟩) tablePs.length tablePs.length) (layPs tablePs) (by kernel_rfl) ?_
  intro a' hs hN hd
  refine wpList_nil (wp_ret ?_)
  refine bodyPost_ret (v := .slice (some ⟨w.heap.size + 0, 0, none⟩) tablePs.length tablePs.length) ?_ hd (prefs_end w tablePs)
  rw [← hs]
  exact results_tmp rfl _ _ _

end Go.Proofs.YthofogokpolhdaaGreatDoor.Atoms

namespace Go.Proofs.YthofogokpolhdaaGreatDoor.Atoms
open Go.RowKit Go.Shelf
set_option linter.unusedVariables false
set_option linter.unusedSimpArgs false

theorem Src.atoms {w : World} {s : Value} {rows : List Row} {S : Nat → Value} (h : AtomsSl w s rows S) {i : TypeInfo} (hi : i.size = 12) : Src Tryz.prog i.size 86 s rows.length (flat 12 rows.length (cellA rows S)) w := SliceAt.src h.1 (cell_one h.2) hi
/-- Two rows of atoms, one behind the other, in a new block. -/
theorem append_grow {w : World} {o1 : Option Addr} {c1 : Nat} {s2 : Value} {A B : List Row} {T S : Nat → Value} (hA : AtomsSl w (.slice o1 A.length c1) A T) (hB : AtomsSl w s2 B S) (hg : c1 < A.length + B.length) (hn : A.length + B.length ≤ 1000) (hc : A.length ≤ c1) :
    ∃ V cap, (∀ ty, (Builtin.append_ #[86, 86] ty #[.slice o1 A.length c1, s2]).run Tryz.prog w = .ok (.slice (some ⟨w.heap.size, 0, none⟩) (A.length + B.length) cap) V) ∧ AtomsSl V (.slice (some ⟨w.heap.size, 0, none⟩) (A.length + B.length) cap) (A ++ B) (catS A.length T S) ∧ Below w.heap.size w V := by
  obtain ⟨i, hi, hk12, hby, z, hz, hzs⟩ := info_ca
  have hs1 := Src.atoms hA hk12
  have hs2 := Src.atoms hB hk12
  have hrun := fun ty => run_append_grow_src w 86 86 ty _ i z u_ca hi hz o1 A.length c1 _ hs1.cellsD s2 B.length _ hs2 hg (by omega) (by
    rw [hby]
    unfold Builtin.nextslicecap
    by_cases h1 : A.length + B.length > 2 * c1
    · rw [if_pos h1]; omega
    · rw [if_neg h1]
      by_cases h2 : c1 < 256
      · rw [if_pos h2]; omega
      · rw [if_neg h2]
        have hb : ∀ r c, c ≤ 100000 - 25000 * r → r ≤ 4 → Builtin.growBy (A.length + B.length) r c ≤ 100000 := by
          intro r
          induction r with
          | zero => intro c hc _; show c ≤ _; omega
          | succ r ih =>
            intro c hc hr
            show (if c ≥ A.length + B.length then c else Builtin.growBy (A.length + B.length) r (c + (c + 768) / 4)) ≤ _
            split
            · omega
            · exact ih _ (by omega) (by omega)
        have hgrow : ∀ r c, c ≤ 1000 → Builtin.growBy (A.length + B.length) r c ≤ 100000 := by
          intro r
          induction r with
          | zero => intro c hc; show c ≤ _; omega
          | succ r ih =>
            intro c hc
            show (if c ≥ A.length + B.length then c else Builtin.growBy (A.length + B.length) r (c + (c + 768) / 4)) ≤ _
            split
            · omega
            · rename_i hlt
              by_cases hh : c + (c + 768) / 4 ≤ 1000
              · exact ih _ hh
              · have hge : c + (c + 768) / 4 ≥ A.length + B.length := by omega
                cases r with
                | zero => show c + (c + 768) / 4 ≤ _; omega
                | succ r =>
                  show (if c + (c + 768) / 4 ≥ A.length + B.length then c + (c + 768) / 4 else _) ≤ _
                  rw [if_pos hge]; omega
        have := hgrow 4 c1 (by omega)
        omega)
  have hl1 := flat_length 12 A.length (cellA A T)
  have hl2 := flat_length 12 B.length (cellA B S)
  have hge := grownCap_ge w (A.length + B.length) c1 134
  generalize hcap : grownCap w (A.length + B.length) c1 134 = cap at hrun hge
  have hh := World.alloc_heap_new w.drew (.cells ((flat 12 A.length (cellA A T) ++ flat 12 B.length (cellA B S)).toArray ++ Builtin.zeroCells z.cells (cap - (A.length + B.length))) 134)
  rw [show w.drew.heap.size = w.heap.size from rfl] at hh
  have hbel : Below w.heap.size w (w.drew.alloc (.cells ((flat 12 A.length (cellA A T) ++ flat 12 B.length (cellA B S)).toArray ++ Builtin.zeroCells z.cells (cap - (A.length + B.length))) 134)) := (Below.refl _ _).drew.alloc (Nat.le_refl _) _
  refine ⟨_, _, hrun, ⟨.inr ⟨w.heap.size, cap, by rw [List.length_append], by rw [List.length_append]; exact hge, ?_, ?_⟩, (cat_terms hA.2 hB.2).go hbel⟩, hbel⟩
  · have := Spare.of_cells hh
    refine fun j hj => this j ?_
    simp only [Array.size_append, List.size_toArray, List.length_append, hl1, hl2, Builtin.zeroCells, Array.size_map, Array.size_range, hzs]
    rw [← Nat.add_mul, ← Nat.add_mul, Nat.add_sub_cancel' hge]
    exact hj
  · rw [List.length_append]
    refine Grid.old hh fun i' hi' j hj => ?_
    rw [← cat_cells A B T S i' hi' j hj, Array.getElem?_append_left (by
      rw [List.size_toArray, List.length_append, hl1, hl2, ← Nat.add_mul]
      have : (i' + 1) * 12 ≤ (A.length + B.length) * 12 := Nat.mul_le_mul_right 12 hi'
      omega), List.getElem?_toArray]
    by_cases h : i' < A.length
    · rw [if_pos h, List.getElem?_append_left (by
        rw [hl1]
        have : (i' + 1) * 12 ≤ A.length * 12 := Nat.mul_le_mul_right 12 h
        omega)]
      exact flat_at h hj
    · rw [if_neg h, List.getElem?_append_right (by rw [hl1]; omega), hl1]
      have e : i' * 12 + j - A.length * 12 = (i' - A.length) * 12 + j := by omega
      rw [e]
      exact flat_at (by omega) hj
theorem len_F : rowsF.length = 24 := by kernel_rfl
theorem len_R : rowsR.length = 24 := by kernel_rfl
theorem catS_above {B : Nat} {n m : Nat} {T S : Nat → Value} (hT : ∀ i, i < n → Above B (T i)) (hS : ∀ i, i < m → Above B (S i)) : ∀ i, i < n + m → Above B (catS n T S i) := by
  intro i hi
  unfold catS
  split
  · exact hT i (by omega)
  · exact hS _ (by omega)

theorem TermsAt.texts {s : Value} {ts : List (Int × Int)} {b : Nat} {x : ByteArray} : ∀ (vs : List Value) (o : Nat) (w : World), TermsAt w s ts → w.cell? ⟨b, 0, none⟩ = some (.string x) → 0 < o → TermsAt (w.setCells b o vs) s ts
  | [], _, _, h, _, _ => h
  | v :: r, o, w, h, hx, ho => TermsAt.texts r (o + 1) _ (h.text hx o v) (by
      rw [World.cell?_setCell_other _ _ _ _ (by intro hh; injection hh with e1 e2; omega)]
      exact hx) (by omega)
/-- How an append ends: in its own block, or in a new one. -/
structure Appended (B0 : Nat) (w V : World) (o1 : Option Addr) (s : Value) (rows : List Row) (S : Nat → Value) : Prop where
  at_ : AtomsSl V s rows S
  above : Above B0 s
  below : Below B0 w V
theorem append_atoms {w : World} {o1 : Option Addr} {c1 B0 : Nat} {s2 : Value} {A B : List Row} {T S : Nat → Value} (hA : AtomsSl w (.slice o1 A.length c1) A T) (hB : AtomsSl w s2 B S) (h0 : 0 < A.length) (hn : A.length + B.length ≤ 1000) (hab : Above B0 (.slice o1 A.length c1)) (hB0 : B0 ≤ w.heap.size) :
    ∃ V s, (∀ ty, (Builtin.append_ #[86, 86] ty #[.slice o1 A.length c1, s2]).run Tryz.prog w = .ok s V) ∧ Appended B0 w V o1 s (A ++ B) (catS A.length T S) := by
  obtain ⟨b, rfl, hc, hsp, hg⟩ : ∃ b, o1 = some ⟨b, 0, none⟩ ∧ A.length ≤ c1 ∧ Spare w b (c1 * 12) ∧ Grid w b 12 A.length (cellA A T) := by
    rcases hA.1 with ⟨hh, _⟩ | ⟨b, c, he, hc, hsp, hg⟩
    · omega
    · injection he with e1 e2 e3
      subst e3
      exact ⟨b, e1, hc, hsp, hg⟩
  have hbB : B0 ≤ b := hab _ _ _ rfl
  by_cases hroom : A.length + B.length ≤ c1
  · obtain ⟨i, hi, hk12, hby, z, hz, hzs⟩ := info_ca
    have hx : w.cell? ⟨b, 0, none⟩ = some (.string (bs (A.getD 0 default).c0)) := hg.1 0 h0 0 (by omega)
    have hO := only_cells b (flat 12 B.length (cellA B S)) (A.length * 12) w w (Only.refl _ _)
    have hmul : (A.length + B.length) * 12 ≤ c1 * 12 := Nat.mul_le_mul_right 12 hroom
    refine ⟨w.setCells b (A.length * 12) (flat 12 B.length (cellA B S)), _, fun ty => ?_, ⟨⟨.inr ⟨b, c1, rfl, by rw [List.length_append]; exact hroom, hsp.cells _ _ _, ?_⟩, ?_⟩, ?_, hO.below hbB⟩⟩
    · have := run_append_room_src w _ _ ty _ i u_ca hi b 0 A.length c1 s2 B.length _ (Src.atoms hB hk12) hroom (fun j' hj' => hsp _ (by
        rw [flat_length] at hj'
        rw [hk12]
        omega)) (fun j' _ => hg.2.1 _)
      rw [hk12, Nat.zero_add] at this
      rw [this, List.length_append]
    · rw [List.length_append]
      exact (hg.append (m := B.length) (g := cellA B S) (by omega) (fun j' hj' => hsp j' (by omega))).ext (cat_cells _ _ _ _)
    · intro i' hi'
      exact TermsAt.texts _ _ _ (cat_terms hA.2 hB.2 i' hi') hx (by omega)
    · intro a m c' e
      injection e with e1
      injection e1 with e1
      rw [← e1]
      exact hbB
  · obtain ⟨V, cap, hr, hsl, hb⟩ := append_grow hA hB (by omega) hn hc
    refine ⟨V, _, hr, ⟨hsl, ?_, hb.mono hB0⟩⟩
    intro a m c' e
    injection e with e1
    injection e1 with e1
    rw [← e1]
    exact hB0

attribute [local irreducible] rowsF rowsR tableRs tablePs

set_option maxRecDepth 100000 in
set_option maxHeartbeats 4000000 in
theorem refTable_any (w : World) : Calls Tryz.prog 56 #[] w (TableEnd tableRs tablePs w) := by
  have hu0 : Below w.heap.size w (w.alloc (.cells #[.slice none 0 0, .slice none 0 0] 89)) := by go_grown
  have hr0 : (w.alloc (.cells #[.slice none 0 0, .slice none 0 0] 89)).cell? ⟨w.heap.size, 0, none⟩ = some (.slice none 0 0) := by simp [go_sem]
  have hr1 : (w.alloc (.cells #[.slice none 0 0, .slice none 0 0] 89)).cell? ⟨w.heap.size, 1, none⟩ = some (.slice none 0 0) := by simp [go_sem]
  have hfz : ∀ j, (w.alloc (.cells #[.slice none 0 0, .slice none 0 0] 89)).frozen? ⟨w.heap.size, j, none⟩ = false := fun j => by simp [go_sem]
  have hzz : (w.alloc (.cells #[.slice none 0 0, .slice none 0 0] 89)).heap.size = w.heap.size + 1 := World.size_alloc _ _
  go_enter Tryz.func56, Tryz.ntmps56
  go_wp2_with fail
  generalize w.alloc (.cells #[.slice none 0 0, .slice none 0 0] 89) = w0 at *
  refine (first_any w0).mono ?_
  rintro e w1 ⟨s1, S1, rfl, hA1, ha1, ht1, hb1⟩
  obtain ⟨o1, c1, rfl⟩ := SliceAt.slice hA1.1
  go_wp2_with fail
  refine (refrest_any w1).mono ?_
  rintro e w2 ⟨s2, S2, rfl, hA2, ha2, ht2, hb2⟩
  obtain ⟨o2, n2, c2, hq2⟩ : ∃ o n c, s2 = Value.slice o n c := by obtain ⟨o, c, h⟩ := SliceAt.slice hA2.1; exact ⟨o, _, c, h⟩
  subst hq2
  have hz1 := hb1.size
  have hz2 := hb2.size
  obtain ⟨V, s3, happ, hsl, hab, hbl⟩ := append_atoms (B0 := w0.heap.size) (hA1.go hb2) hA2 (by rw [len_F]; omega) (by rw [len_F, len_R]; omega) ha1 (by omega)
  rw [table_doc] at hsl
  have hTa : ∀ i, i < tableRs.length → Above w0.heap.size (catS rowsF.length S1 S2 i) := by
    intro i hi
    rw [← table_doc, List.length_append] at hi
    exact catS_above ht1 (fun j hj => (ht2 j hj).mono hz1) i hi
  generalize catS rowsF.length S1 S2 = T at hsl hTa
  obtain ⟨o3, n3, c3, rfl⟩ : ∃ o n c, s3 = Value.slice o n c := by obtain ⟨o, c, h⟩ := SliceAt.slice hsl.1; exact ⟨o, _, c, h⟩
  have hBA : Below w0.heap.size w0 V := (hb1.trans (hb2.mono hz1)).trans hbl
  generalize rowsF.length = nF at happ
  clear hA1 hA2 ha1 ha2 ht1 ht2 hb1 hb2 hbl
  go_wp2_with (first | (at_builtin; refine wpList_app rfl _ _ 86 86 rfl happ ?_) | fail)
  refine (refprefs_any V).mono ?_
  rintro e w5 ⟨sp, rfl, hP, hPa, hb5⟩
  obtain ⟨o6, n6, c6, rfl⟩ : ∃ o n c, sp = Value.slice o n c := by obtain ⟨o, c, h⟩ := SliceAt.slice hP; exact ⟨o, _, c, h⟩
  have hB5 : Below w0.heap.size w0 w5 := hBA.trans (hb5.mono hBA.size)
  have q0 : w5.cell? ⟨w.heap.size, 0, none⟩ = some (.slice none 0 0) := (hB5.cell (p := ⟨w.heap.size, 0, none⟩) (cell_lt hr0)).trans hr0
  have q1 : w5.cell? ⟨w.heap.size, 1, none⟩ = some (.slice none 0 0) := (hB5.cell (p := ⟨w.heap.size, 1, none⟩) (cell_lt hr1)).trans hr1
  have qf : ∀ j, w5.frozen? ⟨w.heap.size, j, none⟩ = false := fun j => (hB5.frozen (p := ⟨w.heap.size, j, none⟩) (cell_lt hr0)).trans (hfz j)
  replace hsl := hsl.go hb5
  replace hPa : Above w0.heap.size (.slice o6 n6 c6) := hPa.mono hBA.size
  clear hb5 hr0 hr1 hfz hBA happ
  have hlt : w.heap.size < w0.heap.size := by omega
  have hle : w.heap.size ≤ w0.heap.size := by omega
  have HR : Hid (TableEnd tableRs tablePs w (.returned (.agg #[.slice o3 n3 c3, .slice o6 n6 c6])) ((w5.setCell ⟨w.heap.size, 0, none⟩ (.slice o3 n3 c3)).setCell ⟨w.heap.size, 1, none⟩ (.slice o6 n6 c6))) := by
    have hP0 : PrefsSl w5 (.slice o6 n6 c6) tablePs := hP
    refine ⟨_, _, T, rfl, ⟨⟨?_, ?_⟩, ?_, hab.mono hle, hPa.mono hle, fun i hi => (hTa i hi).mono hle⟩, ?_⟩
    · exact SliceAt.other (SliceAt.other hsl.1 hab hlt _ _) hab hlt _ _
    · intro i hi
      have ha := hTa i hi
      exact SliceAt.other (SliceAt.other (hsl.2 i hi) ha hlt _ _) ha hlt _ _
    · exact SliceAt.other (SliceAt.other hP0 hPa hlt _ _) hPa hlt _ _
    · exact ((hu0.trans (hB5.mono hle)).setCell (p := ⟨w.heap.size, 0, none⟩) (Nat.le_refl _) _).setCell (p := ⟨w.heap.size, 1, none⟩) (Nat.le_refl _) _
  clear hsl hP hPa hTa hab hB5
  go_wp2
  exact bodyPost_ret (v := .agg #[.slice o3 n3 c3, .slice o6 n6 c6]) (by simp [results, Tryz.results56, go_sem, q0, q1]) rfl HR.out

end Go.Proofs.YthofogokpolhdaaGreatDoor.Atoms

