/-
  The stack of shapes: plain mathematics, and as a row in memory.
-/
import Derived.Test.YteakgagjacjhiaaUL
import Derived.Test.YteakgagjacjhiaaUH
import Derived.Test.YteakgagjacjhiaaUJ
namespace Go.Proofs.Yteakgagjacjhiaa.Trees
open Go.RowKit Go.Shelf
open Go.Proofs.Yteakgagjacjhiaa.Style (bs bs_size bs_at getD_at bs_of)
open Go.Proofs.Yteakgagjacjhiaa.Toks (cell_lt cell_same Grid SliceAt Spare Above append_any Elem elem_of flat flat_length flat_get wpList_app one_slice)
set_option linter.unusedVariables false
set_option linter.unusedSimpArgs false

/-- One step on the stack, as it lies: the last one last. -/
def pushZ (op : Int) (M : List (Int × Nat)) : List (Int × Nat) := M.take (M.length - takesZ op) ++ [(op, upD op (M.drop (M.length - takesZ op)) (M.drop (M.length - takesZ op)).length)]
theorem push_shapes (x : Stp) (M : List (Int × Nat)) (h : takesZ x.op ≤ M.length) : shapesZ [x] M.reverse = (pushZ x.op M).reverse := by
  have ht := takes_le x.op
  rcases (by omega : takesZ x.op = 0 ∨ takesZ x.op = 1 ∨ takesZ x.op = 2) with e | e | e
  · unfold pushZ
    simp only [shapesZ, e, Nat.sub_zero, List.drop_length, List.take_length, List.length_nil, up_none, List.reverse_append, List.reverse_cons, List.reverse_nil, List.nil_append, List.cons_append]
  · rcases List.eq_nil_or_concat M with rfl | ⟨M', a, rfl⟩
    · simp [e] at h
    · rw [List.concat_eq_append]
      unfold pushZ
      rw [e]
      have h1 : (M' ++ [a]).length - 1 = M'.length := by simp
      rw [h1, List.drop_left', List.take_left']
      · simp only [shapesZ, e, List.length_cons, List.length_nil, List.reverse_append, List.reverse_cons, List.reverse_nil, List.nil_append, List.cons_append, Nat.zero_add, Nat.reduceAdd, up_one]
      · rfl
      · rfl
  · obtain ⟨M', a, b, rfl⟩ := last_two M (by omega)
    unfold pushZ
    rw [e]
    have h1 : (M' ++ [a, b]).length - 2 = M'.length := by simp
    rw [h1, List.drop_left', List.take_left']
    · simp only [shapesZ, e, List.length_cons, List.length_nil, List.reverse_append, List.reverse_cons, List.reverse_nil, List.nil_append, List.cons_append, Nat.zero_add, Nat.reduceAdd, up_two]
    · rfl
    · rfl
theorem up_le (op : Int) (S : List (Int × Nat)) (B : Nat) (h : ∀ x ∈ S, x.2 ≤ B) : ∀ k, k ≤ S.length → upD op S k ≤ B + 1
  | 0, _ => by simp [upD]
  | k + 1, hk => by
    have h1 := up_le op S B h k (by omega)
    have h2 : (S.getD k (0, 0)).2 ≤ B := h _ (by rw [List.getD_eq_getElem?_getD, List.getElem?_eq_getElem (by omega)]; exact List.getElem_mem _)
    have h3 : inZ op (S.getD k (0, 0)).1 ≤ 1 := by unfold inZ; split <;> omega
    simp only [upD, sideZ]
    split <;> omega
theorem push_le (op : Int) (M : List (Int × Nat)) (B : Nat) (h : ∀ x ∈ M, x.2 ≤ B) : ∀ x ∈ pushZ op M, x.2 ≤ B + 1 := by
  intro x hx
  unfold pushZ at hx
  rcases List.mem_append.1 hx with h1 | h1
  · have := h x (List.mem_of_mem_take h1); omega
  · simp only [List.mem_cons, List.not_mem_nil, or_false] at h1
    subst h1
    exact up_le op _ B (fun y hy => h y (List.mem_of_mem_drop hy)) _ (Nat.le_refl _)
theorem push_length (op : Int) (M : List (Int × Nat)) (h : takesZ op ≤ M.length) : (pushZ op M).length = M.length - takesZ op + 1 := by
  unfold pushZ
  rw [List.length_append, List.length_take]
  simp only [List.length_cons, List.length_nil]
  omega

def cellH (M : List (Int × Nat)) (i j : Nat) : Value := if j = 0 then .int .i64 (M.getD i (0, 0)).1 else .int .i64 ((M.getD i (0, 0)).2 : Int)
theorem elem_shape : Elem 66 68 2 := elem_of (b := 16) (by omega) (by omega) (by kernel_rfl) (by kernel_rfl)
theorem cell_oneH (M : List (Int × Nat)) : ∀ i, i < M.length → ∀ j, j < 2 → (cellH M i j).oneCell' = true := by
  intro i hi j hj
  unfold cellH
  split <;> rfl
/-- The slice s holds these shapes, apart from what was there. -/
structure StkI (B : Nat) (w1 : World) (s : Value) (M : List (Int × Nat)) (W : World) : Prop where
  at_ : SliceAt W s 2 M.length (cellH M)
  above : Above B s
  below : Below B w1 W
theorem StkI.go {B : Nat} {w1 : World} {s : Value} {M : List (Int × Nat)} {W W' : World} (h : StkI B w1 s M W) (hB : B ≤ W.heap.size) (hb : Below W.heap.size W W') : StkI B w1 s M W' := ⟨SliceAt.go h.at_ hb, h.above, h.below.trans (hb.mono hB)⟩
/-- What stands from a place on, as it is read. -/
theorem StkI.part {B : Nat} {w1 : World} {o : Option Addr} {c n k : Nat} {M : List (Int × Nat)} {W : World} (h : StkI B w1 (.slice o n c) M W) (hn : M.length = n) (hk : k ≤ n) :
    ShView W (.slice (if c = k then o else o.map (·.add (k * 2))) (n - k) (c - k)) (M.drop k) := by
  have hl : (M.drop k).length = n - k := by rw [List.length_drop, hn]
  rcases h.at_ with ⟨h0, e⟩ | ⟨b, c', e, hc, hm, hg⟩
  · injection e with e1 e2 e3
    refine ⟨_, _, by rw [hl], by rw [hl]; omega, fun i hi => ?_⟩
    rw [hl] at hi; omega
  · injection e with e1 e2 e3
    subst e1 e3
    refine ⟨_, _, by rw [hl], by rw [hl]; omega, fun i hi => ?_⟩
    rw [hl] at hi
    rw [if_neg (by omega)]
    refine ⟨b, k * 2, by simp [Addr.add_mid], ?_⟩
    have hd : (M.drop k).getD i (0, 0) = M.getD (k + i) (0, 0) := by rw [List.getD_eq_getElem?_getD, List.getD_eq_getElem?_getD, List.getElem?_drop]
    have g := hg.1 (k + i) (by omega)
    rw [hd]
    have g0 := g 0 (by omega)
    have g1 := g 1 (by omega)
    rw [Nat.add_mul] at g0 g1
    exact ⟨g0, g1⟩
/-- One comes in the place of the last ones. -/
theorem StkI.push {B : Nat} {w1 : World} {o : Option Addr} {c k : Nat} {M : List (Int × Nat)} {W : World} (h : StkI B w1 (.slice o M.length c) M W) (hB : B ≤ W.heap.size) (hl : M.length ≤ 1000) (hk : k ≤ M.length) (x : Int × Nat) :
    ∃ V o' c', (∀ ty, (Builtin.append_ #[66, 66] ty #[.slice o k c, .slice (some ⟨W.heap.size, 0, none⟩) 1 1]).run Try.prog (W.alloc (.cells #[.int .i64 x.1, .int .i64 (x.2 : Int)] 68)) = .ok (.slice o' (k + 1) c') V) ∧ StkI B w1 (.slice o' (k + 1) c') (M.take k ++ [x]) V ∧ (∀ D, D < W.heap.size → (∀ a, o = some a → a.block ≠ D) → V.heap[D]? = W.heap[D]?) := by
  have hu : Below W.heap.size W (W.alloc (.cells #[.int .i64 x.1, .int .i64 (x.2 : Int)] 68)) := (Below.refl _ _).alloc (Nat.le_refl _) _
  have hzz : (W.alloc (.cells #[.int .i64 x.1, .int .i64 (x.2 : Int)] 68)).heap.size = W.heap.size + 1 := World.size_alloc _ _
  have hlk : (M.take k).length = k := by rw [List.length_take]; omega
  have hA : SliceAt W (.slice o k c) 2 k (cellH (M.take k)) := by
    have hgd : ∀ i, i < k → (M.take k).getD i (0, 0) = M.getD i (0, 0) := fun i hi => by rw [List.getD_eq_getElem?_getD, List.getD_eq_getElem?_getD, List.getElem?_take_of_lt hi]
    rcases h.at_ with ⟨h0, e⟩ | ⟨b, c', e, hc, hm, hg⟩
    · injection e with e1 e2 e3
      have : k = 0 := by omega
      subst this
      exact .inl ⟨rfl, by rw [e1, e3]⟩
    · injection e with e1 e2 e3
      subst e1 e3
      exact .inr ⟨b, c, rfl, by omega, hm, (hg.short hk).ext (fun i hi j hj => by unfold cellH; rw [hgd i hi])⟩
  have hcs : ∀ j, j < 2 → (#[.int .i64 x.1, .int .i64 (x.2 : Int)] : Array Value)[j]? = some (cellH [x] 0 j) := by
    intro j hj
    match j, hj with
    | 0, _ => rfl
    | 1, _ => rfl
  obtain ⟨V, s, hr, hj⟩ := append_any (w := W.alloc (.cells #[.int .i64 x.1, .int .i64 (x.2 : Int)] 68)) elem_shape (SliceAt.go hA hu) (fun i hi j hj => cell_oneH (M.take k) i (by rw [hlk]; exact hi) j hj) (Toks.SliceAt.source elem_shape (one_slice W 68 2 _ (cellH [x]) hcs rfl) (cell_oneH [x])) (by omega) (.inl (by omega))
  have hat : SliceAt V s 2 (M.take k ++ [x]).length (cellH (M.take k ++ [x])) := by
    rw [List.length_append, hlk]
    refine Toks.SliceAt.ext hj.rows (fun i hi j hj => ?_)
    unfold Toks.both cellH
    by_cases h1 : i < k
    · rw [if_pos h1, List.getD_eq_getElem?_getD (l := M.take k ++ [x]), List.getElem?_append_left (by rw [hlk]; exact h1), ← List.getD_eq_getElem?_getD]
    · rw [if_neg h1, List.getD_eq_getElem?_getD (l := M.take k ++ [x]), List.getElem?_append_right (by rw [hlk]; omega), hlk, ← List.getD_eq_getElem?_getD]
  rcases hj.way with ⟨c', rfl, hb⟩ | ⟨b, c', e1, rfl, rfl⟩
  · refine ⟨V, _, _, hr, ⟨hat, ?_, h.below.trans ((hu.trans (hb.mono (by omega))).mono hB)⟩, fun D hD _ => (hb.block D (by omega)).trans (hu.block D hD)⟩
    intro a n c e
    injection e with e
    injection e with e
    subst e
    show B ≤ (W.alloc (.cells #[.int .i64 x.1, .int .i64 (x.2 : Int)] 68)).heap.size
    omega
  · injection e1 with e1 e2 e3
    subst e1
    have hab : B ≤ b := h.above _ _ _ rfl
    refine ⟨_, _, _, hr, ⟨hat, ?_, h.below.trans ((hu.mono hB).trans ((Toks.only_cells b _ _ _ _ (Toks.Only.refl _ _)).below hab))⟩, fun D hD hn => ((Toks.only_cells b _ _ _ _ (Toks.Only.refl b _)).block D (fun e => hn _ rfl e.symm)).trans (hu.block D hD)⟩
    intro a n c e
    injection e with e
    injection e with e
    subst e
    exact hab

end Go.Proofs.Yteakgagjacjhiaa.Trees
