/-
  How far two texts lie apart: steps, the least number of them, and rows. No program in this text.
-/
namespace Go.Proofs.Ytlfpfijhimngmaa.Edits
set_option linter.unusedVariables false

/-- So many steps (not more than n) make b of a. -/
inductive Way : Nat → List UInt8 → List UInt8 → Prop
  | none : Way 0 [] []
  | keep {n a b} (x) : Way n a b → Way n (x :: a) (x :: b)
  | put {n a b} (x) : Way n a b → Way (n + 1) a (x :: b)
  | out {n a b} (x) : Way n a b → Way (n + 1) (x :: a) b
  | turn {n a b} (x y) : Way n a b → Way (n + 1) (x :: a) (y :: b)

theorem Way.same (a : List UInt8) : Way 0 a a := by
  induction a with
  | nil => exact .none
  | cons x a ih => exact .keep x ih
theorem Way.symm {n a b} (h : Way n a b) : Way n b a := by
  induction h with
  | none => exact .none
  | keep x _ ih => exact .keep x ih
  | put x _ ih => exact .out x ih
  | out x _ ih => exact .put x ih
  | turn x y _ ih => exact .turn y x ih
theorem Way.app {n a b m c d} (h : Way n a b) (k : Way m c d) : Way (n + m) (a ++ c) (b ++ d) := by
  induction h with
  | none => simpa using k
  | keep x _ ih => exact .keep x ih
  | put x _ ih => rw [Nat.add_right_comm]; exact .put x ih
  | out x _ ih => rw [Nat.add_right_comm]; exact .out x ih
  | turn x y _ ih => rw [Nat.add_right_comm]; exact .turn x y ih
theorem Way.turned {n a b} (h : Way n a b) : Way n a.reverse b.reverse := by
  induction h with
  | none => exact .none
  | keep x _ ih => simpa using ih.app (.keep x .none)
  | put x _ ih => simpa using ih.app (.put x .none)
  | out x _ ih => simpa using ih.app (.out x .none)
  | turn x y _ ih => simpa using ih.app (.turn x y .none)
theorem Way.len {n a b} (h : Way n a b) : a.length ≤ b.length + n ∧ b.length ≤ a.length + n := by
  induction h with
  | none => simp
  | keep x _ ih => simp only [List.length_cons]; omega
  | put x _ ih => simp only [List.length_cons]; omega
  | out x _ ih => simp only [List.length_cons]; omega
  | turn x y _ ih => simp only [List.length_cons]; omega
theorem Way.zero {a b} (h : Way 0 a b) : a = b := by
  have key : ∀ n a b, Way n a b → n = 0 → a = b := by
    intro n a b h
    induction h with
    | none => intro _; rfl
    | keep x _ ih => intro hn; rw [ih hn]
    | put x _ ih => intro hn; omega
    | out x _ ih => intro hn; omega
    | turn x y _ ih => intro hn; omega
  exact key 0 a b h rfl
/-- Ways one behind the other. -/
theorem Way.trans {n a b} (h : Way n a b) : ∀ {m c}, Way m b c → ∃ k, k ≤ n + m ∧ Way k a c := by
  induction h with
  | none => intro m c k; exact ⟨m, by omega, k⟩
  | @out n a b x _ ih => intro m c k; obtain ⟨j, hj, hk⟩ := ih k; exact ⟨j + 1, by omega, .out x hk⟩
  | @keep n a b x h ih =>
    intro m c k
    generalize hB : x :: b = B at k
    have := k
    clear this
    revert hB
    induction k with
    | none => intro hB; exact absurd hB (by simp)
    | @keep m b' c' y k _ => intro hB; obtain ⟨rfl, rfl⟩ := List.cons.inj hB; obtain ⟨j, hj, hk⟩ := ih k; exact ⟨j, hj, .keep x hk⟩
    | @put m b' c' y k ih2 => intro hB; obtain ⟨j, hj, hk⟩ := ih2 hB; exact ⟨j + 1, by omega, .put y hk⟩
    | @out m b' c' y k _ => intro hB; obtain ⟨rfl, rfl⟩ := List.cons.inj hB; obtain ⟨j, hj, hk⟩ := ih k; exact ⟨j + 1, by omega, .out x hk⟩
    | @turn m b' c' y z k _ => intro hB; obtain ⟨rfl, rfl⟩ := List.cons.inj hB; obtain ⟨j, hj, hk⟩ := ih k; exact ⟨j + 1, by omega, .turn x z hk⟩
  | @turn n a b x x' h ih =>
    intro m c k
    generalize hB : x' :: b = B at k
    revert hB
    induction k with
    | none => intro hB; exact absurd hB (by simp)
    | @keep m b' c' y k _ => intro hB; obtain ⟨rfl, rfl⟩ := List.cons.inj hB; obtain ⟨j, hj, hk⟩ := ih k; exact ⟨j + 1, by omega, .turn x x' hk⟩
    | @put m b' c' y k ih2 => intro hB; obtain ⟨j, hj, hk⟩ := ih2 hB; exact ⟨j + 1, by omega, .put y hk⟩
    | @out m b' c' y k _ => intro hB; obtain ⟨rfl, rfl⟩ := List.cons.inj hB; obtain ⟨j, hj, hk⟩ := ih k; exact ⟨j + 1, by omega, .out x hk⟩
    | @turn m b' c' y z k _ => intro hB; obtain ⟨rfl, rfl⟩ := List.cons.inj hB; obtain ⟨j, hj, hk⟩ := ih k; exact ⟨j + 1, by omega, .turn x z hk⟩
  | @put n a b x h ih =>
    intro m c k
    generalize hB : x :: b = B at k
    revert hB
    induction k with
    | none => intro hB; exact absurd hB (by simp)
    | @keep m b' c' y k _ => intro hB; obtain ⟨rfl, rfl⟩ := List.cons.inj hB; obtain ⟨j, hj, hk⟩ := ih k; exact ⟨j + 1, by omega, .put x hk⟩
    | @put m b' c' y k ih2 => intro hB; obtain ⟨j, hj, hk⟩ := ih2 hB; exact ⟨j + 1, by omega, .put y hk⟩
    | @out m b' c' y k _ => intro hB; obtain ⟨rfl, rfl⟩ := List.cons.inj hB; obtain ⟨j, hj, hk⟩ := ih k; exact ⟨j, by omega, hk⟩
    | @turn m b' c' y z k _ => intro hB; obtain ⟨rfl, rfl⟩ := List.cons.inj hB; obtain ⟨j, hj, hk⟩ := ih k; exact ⟨j + 1, by omega, .put z hk⟩

/-! ### The least number -/

def off (x y : UInt8) : Nat := if x = y then 0 else 1
/-- How far two texts lie apart (by what their first bytes become). -/
def lev : List UInt8 → List UInt8 → Nat
  | [], b => b.length
  | x :: a, [] => (x :: a).length
  | x :: a, y :: b => min (lev a b + off x y) (min (lev a (y :: b) + 1) (lev (x :: a) b + 1))
termination_by a b => a.length + b.length
theorem lev_nil (b : List UInt8) : lev [] b = b.length := by simp [lev]
theorem lev_nil' (a : List UInt8) : lev a [] = a.length := by cases a <;> simp [lev]
theorem lev_cons (x y : UInt8) (a b : List UInt8) : lev (x :: a) (y :: b) = min (lev a b + off x y) (min (lev a (y :: b) + 1) (lev (x :: a) b + 1)) := by rw [lev]
theorem lev_put (a : List UInt8) (y : UInt8) (b : List UInt8) : lev a (y :: b) ≤ lev a b + 1 := by
  cases a with
  | nil => simp [lev_nil]
  | cons x a => rw [lev_cons]; omega
theorem lev_out (x : UInt8) (a b : List UInt8) : lev (x :: a) b ≤ lev a b + 1 := by
  cases b with
  | nil => simp [lev_nil']
  | cons y b => rw [lev_cons]; omega
theorem lev_turn (x y : UInt8) (a b : List UInt8) : lev (x :: a) (y :: b) ≤ lev a b + off x y := by rw [lev_cons]; omega
theorem Way.puts (b : List UInt8) : Way b.length [] b := by
  induction b with
  | nil => exact .none
  | cons x b ih => exact .put x ih
theorem lev_way : ∀ (n : Nat) (a b : List UInt8), a.length + b.length = n → Way (lev a b) a b := by
  intro n
  induction n using Nat.strongRecOn with
  | ind n ih =>
    intro a b hn
    cases a with
    | nil => rw [lev_nil]; exact Way.puts b
    | cons x a =>
      cases b with
      | nil => rw [lev_nil']; exact (Way.puts _).symm
      | cons y b =>
        simp only [List.length_cons] at hn
        have h1 := ih (a.length + b.length) (by omega) a b rfl
        have h2 := ih (a.length + (y :: b).length) (by simp only [List.length_cons]; omega) a (y :: b) rfl
        have h3 := ih ((x :: a).length + b.length) (by simp only [List.length_cons]; omega) (x :: a) b rfl
        rw [lev_cons]
        by_cases c1 : lev a b + off x y ≤ min (lev a (y :: b) + 1) (lev (x :: a) b + 1)
        · rw [Nat.min_eq_left c1]
          unfold off
          by_cases hx : x = y
          · rw [if_pos hx]; subst hx; exact .keep x h1
          · rw [if_neg hx]; exact .turn x y h1
        · rw [Nat.min_eq_right (by omega)]
          by_cases c2 : lev a (y :: b) + 1 ≤ lev (x :: a) b + 1
          · rw [Nat.min_eq_left c2]; exact .out x h2
          · rw [Nat.min_eq_right (by omega)]; exact .put y h3
theorem lev_is (a b : List UInt8) : Way (lev a b) a b := lev_way _ a b rfl
theorem lev_least {n a b} (h : Way n a b) : lev a b ≤ n := by
  induction h with
  | none => simp [lev_nil]
  | keep x _ ih => refine Nat.le_trans (lev_turn _ _ _ _) ?_; simp only [off, if_true]; omega
  | put x _ ih => exact Nat.le_trans (lev_put _ _ _) (by omega)
  | out x _ ih => exact Nat.le_trans (lev_out _ _ _) (by omega)
  | turn x y _ ih => refine Nat.le_trans (lev_turn _ _ _ _) ?_; unfold off; split <;> omega
theorem lev_symm (a b : List UInt8) : lev a b = lev b a := Nat.le_antisymm (lev_least (lev_is b a).symm) (lev_least (lev_is a b).symm)
theorem lev_turned (a b : List UInt8) : lev a.reverse b.reverse = lev a b := by
  apply Nat.le_antisymm
  · exact lev_least (lev_is a b).turned
  · have := lev_least (lev_is a.reverse b.reverse).turned; simpa using this
theorem lev_zero (a b : List UInt8) : lev a b = 0 ↔ a = b := by
  constructor
  · intro h; exact (h ▸ lev_is a b : Way 0 a b).zero
  · rintro rfl; exact Nat.le_zero.mp (lev_least (Way.same a))
theorem lev_third (a b c : List UInt8) : lev a c ≤ lev a b + lev b c := by
  obtain ⟨k, hk, h⟩ := (lev_is a b).trans (lev_is b c)
  exact Nat.le_trans (lev_least h) hk
theorem lev_low (a b : List UInt8) : a.length ≤ b.length + lev a b ∧ b.length ≤ a.length + lev a b := (lev_is a b).len
theorem lev_high (a b : List UInt8) : lev a b ≤ max a.length b.length := by
  induction a generalizing b with
  | nil => rw [lev_nil]; simp
  | cons x a ih =>
    cases b with
    | nil => rw [lev_nil']; simp
    | cons y b =>
      refine Nat.le_trans (lev_turn x y a b) ?_
      have := ih b
      have h1 : off x y ≤ 1 := by unfold off; split <;> omega
      simp only [List.length_cons]
      omega
theorem lev_ahead (x a b : List UInt8) : lev (x ++ a) (x ++ b) ≤ lev a b := by
  have := (Way.same x).app (lev_is a b)
  rw [Nat.zero_add] at this
  exact lev_least this
theorem lev_behind (x a b : List UInt8) : lev (a ++ x) (b ++ x) ≤ lev a b := by
  have := (lev_is a b).app (Way.same x)
  rw [Nat.add_zero] at this
  exact lev_least this

/-! ### By the last bytes -/

theorem lev_last (a b : List UInt8) (x y : UInt8) : lev (a ++ [x]) (b ++ [y]) = min (lev a b + off x y) (min (lev a (b ++ [y]) + 1) (lev (a ++ [x]) b + 1)) := by
  have h := lev_cons x y a.reverse b.reverse
  rw [lev_turned] at h
  have e1 : x :: a.reverse = (a ++ [x]).reverse := by simp
  have e2 : y :: b.reverse = (b ++ [y]).reverse := by simp
  rw [e1, e2, lev_turned, lev_turned, lev_turned] at h
  exact h

/-! ### Rows -/

/-- What stands behind the number o at a row's place, for those that follow: p was at the place less one. -/
def nextR (c : UInt8) : List UInt8 → Int → Int → List Int → List Int
  | x :: w, p, o, r :: rs => min (p + (off x c : Nat)) (min (r + 1) (o + 1)) :: nextR c w r (min (p + (off x c : Nat)) (min (r + 1) (o + 1))) rs
  | _, _, _, _ => []
def nextL (w : List UInt8) (row : List Int) (c : UInt8) : List Int :=
  match row with
  | [] => []
  | r :: rs => if rs.length = w.length then (r + 1) :: nextR c w r (r + 1) rs else []
/-- The row of w behind s. -/
def rowL (w s : List UInt8) : List Int := (List.range (w.length + 1)).map fun i => ((lev (w.take i) s : Nat) : Int)
theorem rowL_len (w s : List UInt8) : (rowL w s).length = w.length + 1 := by simp [rowL]
theorem nextR_len (c : UInt8) : ∀ (w : List UInt8) (p o : Int) (rs : List Int), rs.length = w.length → (nextR c w p o rs).length = w.length := by
  intro w
  induction w with
  | nil => intro p o rs h; cases rs <;> simp_all [nextR]
  | cons x w ih =>
    intro p o rs h
    cases rs with
    | nil => simp at h
    | cons r rs => simp only [List.length_cons, Nat.add_right_cancel_iff] at h; simp only [nextR, List.length_cons, ih _ _ _ h]
theorem nextL_len (w : List UInt8) (row : List Int) (c : UInt8) (h : row.length = w.length + 1) : (nextL w row c).length = w.length + 1 := by
  cases row with
  | nil => simp at h
  | cons r rs => simp only [List.length_cons, Nat.add_right_cancel_iff] at h; simp only [nextL, if_pos h, List.length_cons, nextR_len c w r _ rs h]
theorem nextL_none (w : List UInt8) (row : List Int) (c : UInt8) (h : row.length ≠ w.length + 1) : nextL w row c = [] := by
  cases row with
  | nil => rfl
  | cons r rs => simp only [List.length_cons] at h; simp only [nextL]; rw [if_neg (by omega)]

/-- What the numbers behind place k of w's row are, for a part of w that is left. -/
def tailL (u v s : List UInt8) : List Int := (List.range v.length).map fun i => ((lev (u ++ v.take (i + 1)) s : Nat) : Int)
theorem tail_cons (u : List UInt8) (x : UInt8) (v s : List UInt8) : tailL u (x :: v) s = ((lev (u ++ [x]) s : Nat) : Int) :: tailL (u ++ [x]) v s := by
  unfold tailL
  rw [List.length_cons, List.range_succ_eq_map, List.map_cons, List.map_map]
  congr 1
  apply List.map_congr_left
  intro i _
  simp [Function.comp, List.append_assoc]
theorem row_tail (w s : List UInt8) : rowL w s = ((s.length : Nat) : Int) :: tailL [] w s := by
  unfold rowL tailL
  rw [List.range_succ_eq_map, List.map_cons, List.map_map]
  congr 1
  · simp [lev_nil]
theorem cast_min (a b : Nat) : ((min a b : Nat) : Int) = min (a : Int) (b : Int) := by omega
theorem next_tail (s : List UInt8) (c : UInt8) : ∀ (v u : List UInt8), nextR c v (lev u s : Nat) (lev u (s ++ [c]) : Nat) (tailL u v s) = tailL u v (s ++ [c]) := by
  intro v
  induction v with
  | nil => intro u; simp [nextR, tailL]
  | cons x v ih =>
    intro u
    rw [tail_cons, tail_cons]
    simp only [nextR]
    have e : min (((lev u s : Nat) : Int) + (off x c : Nat)) (min (((lev (u ++ [x]) s : Nat) : Int) + 1) (((lev u (s ++ [c]) : Nat) : Int) + 1)) = ((lev (u ++ [x]) (s ++ [c]) : Nat) : Int) := by
      rw [lev_last]
      rw [cast_min, cast_min]
      omega
    rw [e, ih (u ++ [x])]
theorem next_row (w s : List UInt8) (c : UInt8) : nextL w (rowL w s) c = rowL w (s ++ [c]) := by
  have hl : (tailL [] w s).length = w.length := by simp [tailL]
  rw [row_tail, row_tail]
  simp only [nextL]
  rw [if_pos hl]
  have := next_tail s c w []
  rw [lev_nil, lev_nil] at this
  have e : ((s.length : Nat) : Int) + 1 = (((s ++ [c]).length : Nat) : Int) := by simp
  rw [e, this]
/-- The row behind nothing. -/
theorem row_start (w : List UInt8) : rowL w [] = (List.range (w.length + 1)).map fun i => ((i : Nat) : Int) := by
  unfold rowL
  apply List.map_congr_left
  intro i hi
  rw [lev_nil']
  have := List.mem_range.mp hi
  simp only [List.length_take]
  omega
theorem row_fold (w : List UInt8) (s : List UInt8) : s.foldl (nextL w) (rowL w []) = rowL w s := by
  have key : ∀ (s u : List UInt8), s.foldl (nextL w) (rowL w u) = rowL w (u ++ s) := by
    intro s
    induction s with
    | nil => intro u; simp
    | cons c s ih => intro u; rw [List.foldl_cons, next_row, ih]; simp
  simpa using key s []
theorem row_at (w s : List UInt8) (i : Nat) (h : i < (rowL w s).length) : (rowL w s)[i] = ((lev (w.take i) s : Nat) : Int) := by simp [rowL]
theorem row_last (w s : List UInt8) (h : w.length < (rowL w s).length) : (rowL w s)[w.length] = ((lev w s : Nat) : Int) := by rw [row_at, List.take_length]

/-! ### The least of a row -/

def leastL : List Int → Int
  | [] => 0
  | [x] => x
  | x :: y :: l => min x (leastL (y :: l))
theorem least_mem : ∀ (l : List Int), l ≠ [] → leastL l ∈ l := by
  intro l
  induction l with
  | nil => intro h; exact absurd rfl h
  | cons x l ih =>
    intro _
    cases l with
    | nil => simp [leastL]
    | cons y l =>
      have := ih (by simp)
      simp only [leastL]
      by_cases c : x ≤ leastL (y :: l)
      · rw [Int.min_eq_left c]; simp
      · rw [Int.min_eq_right (by omega)]; exact List.mem_cons_of_mem _ this
theorem least_le : ∀ (l : List Int) (x : Int), x ∈ l → leastL l ≤ x := by
  intro l
  induction l with
  | nil => intro x h; simp at h
  | cons y l ih =>
    intro x h
    cases l with
    | nil => simp at h; subst h; simp [leastL]
    | cons z l =>
      simp only [leastL]
      rcases List.mem_cons.mp h with rfl | h
      · omega
      · have := ih x h; omega
theorem least_all (l : List Int) (m : Int) (hm : m ∈ l) (h : ∀ x, x ∈ l → m ≤ x) : leastL l = m :=
  Int.le_antisymm (least_le l m hm) (h _ (least_mem l (List.ne_nil_of_mem hm)))
theorem least_fold (x : Int) (l : List Int) : l.foldl min x = leastL (x :: l) := by
  induction l generalizing x with
  | nil => rfl
  | cons y l ih =>
    rw [List.foldl_cons, ih]
    cases l with
    | nil => rfl
    | cons z l => simp only [leastL]; omega
/-- What is not below the least of a row isn't below it behind a byte. -/
theorem nextR_low (c : UInt8) (m : Int) : ∀ (w : List UInt8) (p o : Int) (rs : List Int), m ≤ p → m ≤ o → (∀ x, x ∈ rs → m ≤ x) → ∀ x, x ∈ nextR c w p o rs → m ≤ x := by
  intro w
  induction w with
  | nil => intro p o rs hp ho hr x hx; cases rs <;> simp [nextR] at hx
  | cons y w ih =>
    intro p o rs hp ho hr x hx
    cases rs with
    | nil => simp [nextR] at hx
    | cons r rs =>
      have hr0 := hr r List.mem_cons_self
      simp only [nextR, List.mem_cons] at hx
      have hv : m ≤ min (p + (off y c : Nat)) (min (r + 1) (o + 1)) := by omega
      rcases hx with rfl | hx
      · exact hv
      · exact ih _ _ _ hr0 hv (fun z hz => hr z (List.mem_cons_of_mem _ hz)) x hx
theorem next_low (w : List UInt8) (row : List Int) (c : UInt8) (h : row.length = w.length + 1) : leastL row ≤ leastL (nextL w row c) := by
  have hl := nextL_len w row c h
  have hne : nextL w row c ≠ [] := by intro e; rw [e] at hl; simp at hl
  have hm := least_mem _ hne
  cases row with
  | nil => simp at h
  | cons r rs =>
    simp only [List.length_cons, Nat.add_right_cancel_iff] at h
    have h0 := least_le (r :: rs) r List.mem_cons_self
    revert hm
    simp only [nextL, if_pos h]
    intro hm
    rcases List.mem_cons.mp hm with e | hm
    · rw [e]; omega
    · exact nextR_low c _ w r (r + 1) rs h0 (by omega) (fun x hx => least_le _ _ (List.mem_cons_of_mem _ hx)) _ hm
theorem row_low (w s t : List UInt8) : leastL (rowL w s) ≤ leastL (rowL w (s ++ t)) := by
  induction t generalizing s with
  | nil => simp
  | cons c t ih =>
    have h1 := next_low w (rowL w s) c (rowL_len w s)
    rw [next_row] at h1
    have h2 := ih (s ++ [c])
    rw [List.append_assoc] at h2
    exact Int.le_trans h1 h2
/-- Beyond the least of a row the distance doesn't come. -/
theorem row_far (w s t : List UInt8) : leastL (rowL w s) ≤ ((lev w (s ++ t) : Nat) : Int) := by
  have hl := rowL_len w (s ++ t)
  have h := least_le (rowL w (s ++ t)) _ (List.getElem_mem (by omega : w.length < (rowL w (s ++ t)).length))
  rw [row_last] at h
  exact Int.le_trans (row_low w s t) h

/-! ### One step -/

theorem lev_one {s t : List UInt8} (h : Way 1 s t) : lev s t = if s = t then 0 else 1 := by
  have h1 := lev_least h
  by_cases e : s = t
  · rw [if_pos e, (lev_zero s t).mpr e]
  · rw [if_neg e]
    have : lev s t ≠ 0 := fun k => e ((lev_zero s t).mp k)
    omega
theorem ahead_one {s t : List UInt8} (x : List UInt8) (h : Way 1 s t) : lev (x ++ s) (x ++ t) = if s = t then 0 else 1 := by
  have k := lev_one (by simpa using (Way.same x).app h : Way 1 (x ++ s) (x ++ t))
  rw [k]
  by_cases e : s = t
  · rw [if_pos e, if_pos (by rw [e])]
  · rw [if_neg e, if_neg (fun k => e (List.append_cancel_left k))]
theorem behind_one {s t : List UInt8} (x : List UInt8) (h : Way 1 s t) : lev (s ++ x) (t ++ x) = if s = t then 0 else 1 := by
  have k := lev_one (by simpa using h.app (Way.same x) : Way 1 (s ++ x) (t ++ x))
  rw [k]
  by_cases e : s = t
  · rw [if_pos e, if_pos (by rw [e])]
  · rw [if_neg e, if_neg (fun k => e (List.append_cancel_right k))]
theorem way_out (s : List UInt8) (k : Nat) (h : k < s.length) : Way 1 s (s.take k ++ s.drop (k + 1)) := by
  have e : s = s.take k ++ (s[k] :: s.drop (k + 1)) := by rw [← List.drop_eq_getElem_cons h, List.take_append_drop]
  have w : Way (0 + (0 + 1)) (s.take k ++ (s[k] :: s.drop (k + 1))) (s.take k ++ s.drop (k + 1)) := (Way.same _).app (.out _ (Way.same _))
  rw [← e] at w
  exact w
theorem way_put (s : List UInt8) (k : Nat) (c : UInt8) : Way 1 s (s.take k ++ ([c] ++ s.drop k)) := by
  have e : s = s.take k ++ s.drop k := by rw [List.take_append_drop]
  have w : Way (0 + (0 + 1)) (s.take k ++ s.drop k) (s.take k ++ (c :: s.drop k)) := (Way.same _).app (.put _ (Way.same _))
  rw [← e] at w
  exact w
theorem way_turn (s : List UInt8) (k : Nat) (c : UInt8) (h : k < s.length) : Way 1 s (s.take k ++ ([c] ++ s.drop (k + 1))) := by
  have e : s = s.take k ++ (s[k] :: s.drop (k + 1)) := by rw [← List.drop_eq_getElem_cons h, List.take_append_drop]
  have w : Way (0 + (0 + 1)) (s.take k ++ (s[k] :: s.drop (k + 1))) (s.take k ++ (c :: s.drop (k + 1))) := (Way.same _).app (.turn _ _ (Way.same _))
  rw [← e] at w
  exact w
theorem way_none (s : List UInt8) : Way 1 s s ∨ lev s s = 0 := .inr ((lev_zero s s).mpr rfl)

/-! ### Rows, filled in part -/

/-- The row behind one more byte, from a row f of a text w. -/
def fillF (w : Nat → UInt8) (f : Nat → Int) (c : UInt8) : Nat → Int
  | 0 => f 0 + 1
  | i + 1 => min (min (f (i + 1) + 1) (fillF w f c i + 1)) (f i + (off (w i) c : Nat))
theorem fillF_low (w : Nat → UInt8) (f : Nat → Int) (c : UInt8) (m : Int) : ∀ i, (∀ j, j ≤ i → m ≤ f j) → m ≤ fillF w f c i := by
  intro i
  induction i with
  | zero => intro h; have := h 0 (Nat.le_refl _); simp only [fillF]; omega
  | succ i ih =>
    intro h
    have h1 := h (i + 1) (Nat.le_refl _)
    have h2 := h i (Nat.le_succ _)
    have h3 := ih fun j hj => h j (by omega)
    simp only [fillF]
    omega
theorem fillF_high (w : Nat → UInt8) (f : Nat → Int) (c : UInt8) (i : Nat) : fillF w f c i ≤ f i + 1 := by
  cases i with
  | zero => simp [fillF]
  | succ i => simp only [fillF]; omega
theorem fillF_ext {w w' : Nat → UInt8} {f f' : Nat → Int} (c : UInt8) : ∀ i, (∀ j, j < i → w j = w' j) → (∀ j, j ≤ i → f j = f' j) → fillF w f c i = fillF w' f' c i := by
  intro i
  induction i with
  | zero => intro _ h; simp only [fillF, h 0 (Nat.le_refl _)]
  | succ i ih =>
    intro h1 h2
    simp only [fillF, h2 (i + 1) (Nat.le_refl _), h2 i (Nat.le_succ _), h1 i (Nat.lt_succ_self _), ih (fun j hj => h1 j (by omega)) (fun j hj => h2 j (by omega))]
/-- The row behind one more byte is that. -/
theorem nextR_at (c : UInt8) : ∀ (v : List UInt8) (w : Nat → UInt8) (f : Nat → Int) (o : Int) (u : Nat) (rs : List Int), (∀ j, j < v.length → v.getD j 0 = w (u + j)) → rs.length = v.length → (∀ j, j < v.length → rs.getD j 0 = f (u + j + 1)) → o = fillF w f c u →
    ∀ j, j < v.length → (nextR c v (f u) o rs).getD j 0 = fillF w f c (u + j + 1) := by
  intro v
  induction v with
  | nil => intro _ _ _ _ _ _ _ _ _ j hj; exact absurd hj (Nat.not_lt_zero _)
  | cons x v ih =>
    intro w f o u rs hv hl hr ho j hj
    cases rs with
    | nil => simp at hl
    | cons r rs =>
      simp only [List.length_cons, Nat.add_right_cancel_iff] at hl
      have hx : x = w u := by simpa using hv 0 (by simp)
      have hr0 : r = f (u + 1) := by simpa using hr 0 (by simp)
      have hval : min (f u + (off x c : Nat)) (min (r + 1) (o + 1)) = fillF w f c (u + 1) := by
        simp only [fillF]
        rw [ho, hx, hr0]
        omega
      cases j with
      | zero => simp only [nextR, List.getD_cons_zero, Nat.add_zero]; exact hval
      | succ j =>
        simp only [nextR, List.getD_cons_succ]
        have hr1 : ∀ i, i < v.length → rs.getD i 0 = f (u + 1 + i + 1) := by
          intro i hi
          have := hr (i + 1) (by simp; omega)
          rw [List.getD_cons_succ] at this
          rw [this]; congr 1; omega
        have hv1 : ∀ i, i < v.length → v.getD i 0 = w (u + 1 + i) := by
          intro i hi
          have := hv (i + 1) (by simp; omega)
          rw [List.getD_cons_succ] at this
          rw [this]; congr 1; omega
        have hj' : j < v.length := by simpa using hj
        have := ih w f (min (f u + (off x c : Nat)) (min (r + 1) (o + 1))) (u + 1) rs hv1 hl hr1 hval j hj'
        rw [← hr0] at this
        rw [this]
        congr 1; omega
theorem nextL_at (w : List UInt8) (row : List Int) (c : UInt8) (h : row.length = w.length + 1) (j : Nat) (hj : j ≤ w.length) : (nextL w row c).getD j 0 = fillF (fun i => w.getD i 0) (fun i => row.getD i 0) c j := by
  cases row with
  | nil => simp at h
  | cons r rs =>
    simp only [List.length_cons, Nat.add_right_cancel_iff] at h
    simp only [nextL, if_pos h]
    cases j with
    | zero => simp [fillF]
    | succ j =>
      rw [List.getD_cons_succ]
      have := nextR_at c w (fun i => w.getD i 0) (fun i => (r :: rs).getD i 0) (r + 1) 0 rs (fun i _ => by simp) h (fun i _ => by simp) (by simp [fillF]) j (by omega)
      simpa using this

/-- How far the first i bytes of w lie from s. -/
def levI (w s : List UInt8) (i : Nat) : Int := ((lev (w.take i) s : Nat) : Int)
theorem levI_row (w s : List UInt8) (i : Nat) (h : i ≤ w.length) : (rowL w s).getD i 0 = levI w s i := by
  have hl := rowL_len w s
  rw [List.getD_eq_getElem?_getD, List.getElem?_eq_getElem (by omega), Option.getD_some, row_at]
  rfl
theorem levI_zero (w s : List UInt8) : levI w s 0 = s.length := by simp [levI, lev_nil]
theorem levI_diff (w s : List UInt8) (i : Nat) (h : i ≤ w.length) : (s.length : Int) ≤ i + levI w s i ∧ (i : Int) ≤ s.length + levI w s i := by
  have := lev_low (w.take i) s
  have hl : (w.take i).length = i := by rw [List.length_take]; omega
  rw [hl] at this
  unfold levI
  omega
theorem levI_next (w s : List UInt8) (c : UInt8) (i : Nat) (h : i ≤ w.length) : levI w (s ++ [c]) i = fillF (fun i => w.getD i 0) (levI w s) c i := by
  rw [← levI_row _ _ _ h, ← next_row, nextL_at _ _ _ (rowL_len w s) _ h]
  exact fillF_ext c i (fun _ _ => rfl) fun j hj => levI_row _ _ _ (by omega)

/-- What the rows hold: the first s bytes have been gone through. -/
structure Band (w a : List UInt8) (k s : Nat) (f g : Nat → Int) : Prop where
  near : ∀ i, i ≤ w.length → s ≤ i + k → min (f i) (k + 1) = min (levI w (a.take s) i) (k + 1)
  rest : ∀ i, i ≤ w.length → s + k < i → f i = i
  other : ∀ i, i ≤ w.length → s + k ≤ i → g i = i
  fb : ∀ i, i ≤ w.length → 0 ≤ f i ∧ f i ≤ w.length + s
  gb : ∀ i, i ≤ w.length → 0 ≤ g i ∧ g i ≤ w.length + s
theorem Band.start (w a : List UInt8) (k : Nat) : Band w a k 0 (fun i => i) (fun i => i) := by
  refine ⟨fun i hi _ => ?_, fun i _ _ => rfl, fun i _ _ => rfl, fun i hi => show (0 : Int) ≤ (i : Int) ∧ (i : Int) ≤ (w.length : Int) + (0 : Nat) from ⟨by omega, by omega⟩, fun i hi => show (0 : Int) ≤ (i : Int) ∧ (i : Int) ≤ (w.length : Int) + (0 : Nat) from ⟨by omega, by omega⟩⟩
  have : levI w (a.take 0) i = i := by
    unfold levI
    rw [List.take_zero, lev_nil', List.length_take, Nat.min_eq_left hi]
  rw [this]
/-- The band's ends. -/
def fromN (k s : Nat) : Nat := s - k
def toN (n k s : Nat) : Nat := min n (s + 1 + k)
/-- The row that is filled. -/
def stepF (w : List UInt8) (k s : Nat) (f g : Nat → Int) (c : UInt8) : Nat → Int := fun i =>
  if fromN k s ≤ i ∧ i ≤ toN w.length k s then fillF (fun j => w.getD (fromN k s + j) 0) (fun j => f (fromN k s + j)) c (i - fromN k s) else g i
theorem take_next (a : List UInt8) (s : Nat) (h : s < a.length) : a.take (s + 1) = a.take s ++ [a.getD s 0] := by
  rw [List.take_add_one, List.getD_eq_getElem?_getD, List.getElem?_eq_getElem h]
  rfl
theorem cap_add (x c k : Int) (hc : 0 ≤ c) : min (x + c) k = min (min x k + c) k := by omega
theorem cap_two (x y k : Int) : min (min x y) k = min (min x k) (min y k) := by omega
theorem cap_three {k x x' y y' z z' o : Int} (ho : 0 ≤ o) (hx : min x k = min x' k) (hy : min y k = min y' k) (hz : min z k = min z' k) : min (min (min (x + 1) (y + 1)) (z + o)) k = min (min (min (x' + 1) (y' + 1)) (z' + o)) k := by
  have e : ∀ a b c : Int, min (min (min (a + 1) (b + 1)) (c + o)) k = min (min (min (min a k + 1) (min b k + 1)) (min c k + o)) k := by
    intro a b c
    rw [cap_two (min (a + 1) (b + 1)) (c + o) k, cap_two (a + 1) (b + 1) k, cap_add a 1 k (by decide), cap_add b 1 k (by decide), cap_add c o k ho, ← cap_two (min a k + 1) (min b k + 1) k, ← cap_two (min (min a k + 1) (min b k + 1)) (min c k + o) k]
  rw [e x y z, e x' y' z', hx, hy, hz]
theorem Band.near_all {w a : List UInt8} {k s : Nat} {f g : Nat → Int} (h : Band w a k s f g) (hs : s < a.length) : ∀ j, fromN k s + j ≤ toN w.length k s →
    min (fillF (fun j => w.getD (fromN k s + j) 0) (fun j => f (fromN k s + j)) (a.getD s 0) j) (k + 1) = min (levI w (a.take (s + 1)) (fromN k s + j)) (k + 1) := by
  have hlen : (a.take s).length = s := by rw [List.length_take]; omega
  intro j
  induction j with
  | zero =>
    intro hj
    have hle : fromN k s ≤ w.length := by unfold toN at hj; omega
    have h1 := h.near (fromN k s) hle (by unfold fromN; omega)
    have h2 := levI_diff w (a.take s) (fromN k s) hle
    have h3 := levI_diff w (a.take (s + 1)) (fromN k s) hle
    have hl1 : (a.take (s + 1)).length = s + 1 := by rw [List.length_take]; omega
    rw [hlen] at h2
    rw [hl1] at h3
    simp only [fillF, Nat.add_zero]
    by_cases h0 : s ≤ k
    · have e : fromN k s = 0 := by unfold fromN; omega
      rw [e] at h1 h2 h3 ⊢
      have e1 := levI_zero w (a.take s)
      have e2 := levI_zero w (a.take (s + 1))
      rw [hlen] at e1
      rw [hl1] at e2
      omega
    · have e : fromN k s = s - k := rfl
      rw [e] at h1 h2 h3 ⊢
      omega
  | succ j ih =>
    intro hj
    have ih := ih (by omega)
    have hle : fromN k s + (j + 1) ≤ w.length := by unfold toN at hj; omega
    have h1 := h.near (fromN k s + j) (by omega) (by unfold fromN; omega)
    have h2 := h.near (fromN k s + (j + 1)) hle (by unfold fromN; omega)
    have e := levI_next w (a.take s) (a.getD s 0) (fromN k s + (j + 1)) hle
    rw [← take_next a s hs] at e
    have e' := levI_next w (a.take s) (a.getD s 0) (fromN k s + j) (by omega)
    rw [← take_next a s hs] at e'
    rw [← Nat.add_assoc] at e h2
    simp only [fillF] at e
    rw [← e'] at e
    rw [← Nat.add_assoc, e]
    simp only [fillF]
    rw [← Nat.add_assoc]
    exact cap_three (Int.natCast_nonneg _) h2 ih h1
theorem Band.step {w a : List UInt8} {k s : Nat} {f g : Nat → Int} (h : Band w a k s f g) (hs : s < a.length) : Band w a k (s + 1) (stepF w k s f g (a.getD s 0)) f := by
  have hl1 : (a.take (s + 1)).length = s + 1 := by rw [List.length_take]; omega
  have hin := h.near_all hs
  refine ⟨fun i hi hk => ?_, fun i hi hk => ?_, fun i hi hk => h.rest i hi (by omega), fun i hi => ?_, fun i hi => ?_⟩
  · by_cases hc : fromN k s ≤ i ∧ i ≤ toN w.length k s
    · have := hin (i - fromN k s) (by omega)
      rw [Nat.add_sub_cancel' hc.1] at this
      unfold stepF
      rw [if_pos hc]
      exact this
    · have hf : fromN k s ≤ i := by unfold fromN; omega
      have ht : s + 1 + k < i := by unfold toN at hc; omega
      unfold stepF
      rw [if_neg hc, h.other i hi (by omega)]
      have := levI_diff w (a.take (s + 1)) i hi
      rw [hl1] at this
      omega
  · unfold stepF
    rw [if_neg (by unfold toN; omega)]
    exact h.other i hi (by omega)
  · unfold stepF
    by_cases hc : fromN k s ≤ i ∧ i ≤ toN w.length k s
    · rw [if_pos hc]
      refine ⟨fillF_low _ _ _ _ _ fun j hj => (h.fb _ (by omega)).1, ?_⟩
      refine Int.le_trans (fillF_high _ _ _ _) ?_
      show f (fromN k s + (i - fromN k s)) + 1 ≤ _
      rw [Nat.add_sub_cancel' hc.1]
      have := (h.fb i hi).2
      omega
    · rw [if_neg hc]
      have := h.gb i hi
      omega
  · have := h.fb i hi
    omega
/-- Where all that was filled is above k, the distance is. -/
theorem Band.far {w a : List UInt8} {k s : Nat} {f g : Nat → Int} (h : Band w a k s f g) (hs : s < a.length) (hall : ∀ i, fromN k s ≤ i → i ≤ toN w.length k s → (k : Int) < stepF w k s f g (a.getD s 0) i) : (k : Int) < ((lev a w : Nat) : Int) := by
  have hl1 : (a.take (s + 1)).length = s + 1 := by rw [List.length_take]; omega
  have hs' := h.step hs
  have hall2 : ∀ i, i ≤ w.length → (k : Int) + 1 ≤ levI w (a.take (s + 1)) i := by
    intro i hi
    have hd := levI_diff w (a.take (s + 1)) i hi
    rw [hl1] at hd
    by_cases hc : fromN k s ≤ i ∧ i ≤ toN w.length k s
    · have h1 := hall i hc.1 hc.2
      by_cases hk : s + 1 ≤ i + k
      · have := hs'.near i hi hk
        omega
      · omega
    · have : i < fromN k s ∨ toN w.length k s < i := by omega
      unfold fromN toN at this
      omega
  have hne : rowL w (a.take (s + 1)) ≠ [] := by intro e; have := rowL_len w (a.take (s + 1)); rw [e] at this; simp at this
  have hm := least_mem _ hne
  obtain ⟨i, hi, he⟩ := List.mem_iff_getElem.mp hm
  rw [rowL_len] at hi
  have h2 := hall2 i (by omega)
  rw [row_at] at he
  have h3 := row_far w (a.take (s + 1)) (a.drop (s + 1))
  rw [List.take_append_drop, lev_symm] at h3
  unfold levI at h2
  omega
/-- At the end. -/
theorem Band.done {w a : List UInt8} {k : Nat} {f g : Nat → Int} (h : Band w a k a.length f g) (hk : a.length ≤ w.length + k) : min (f w.length) (k + 1) = min ((lev a w : Nat) : Int) (k + 1) := by
  have := h.near w.length (Nat.le_refl _) hk
  unfold levI at this
  rw [List.take_length, List.take_length, lev_symm] at this
  exact this
theorem lev_gap (a b : List UInt8) : ((max a.length b.length : Nat) : Int) - ((min a.length b.length : Nat) : Int) ≤ ((lev a b : Nat) : Int) := by
  have := lev_low a b
  omega

end Go.Proofs.Ytlfpfijhimngmaa.Edits
