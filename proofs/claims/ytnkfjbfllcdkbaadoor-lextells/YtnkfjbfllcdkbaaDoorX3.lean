/-
  Contract of lex.tokenAt.
-/
import Derived.Test.YtnkfjbfllcdkbaaDoorX2
namespace Go.Proofs.YtnkfjbfllcdkbaaDoor.Toks
open Go.RowKit
open Go.Proofs.YtnkfjbfllcdkbaaDoor.Style
open Go.Proofs.YtnkfjbfllcdkbaaDoor.Texts (val isDig val_nil val_cons val_le)
set_option linter.unusedVariables false
set_option linter.unusedSimpArgs false

/-- The text of what may be a token. -/
def candT (n : Int) (c : UInt8) (r : List UInt8) : List UInt8 := (c :: r).take (farN n (kd n c) r)
theorem getD_last (l : List UInt8) (x : UInt8) : (l ++ [x]).getD ((l ++ [x]).length - 1) 0 = x := by
  rw [List.getD_eq_getElem?_getD, List.length_append]; simp
/-- What is made of it is the token, just if there is one. -/
theorem made_next (n : Int) (c : UInt8) (r : List UInt8) :
    (∀ g, nextT n (c :: r) = some g → madeT n (kd n c) (candT n c r) = (⟨g.kind, 0, g.text, g.num⟩, true) ∧ farN n (kd n c) r = g.len) ∧ (nextT n (c :: r) = none → (madeT n (kd n c) (candT n c r)).2 = false) := by
  unfold candT madeT farN
  simp only [nextT]
  by_cases h0 : kd n c = 0 ∨ kd n c = 10
  · rw [if_pos h0, if_pos h0]
    exact ⟨fun g h => (by cases h), fun _ => rfl⟩
  rw [if_neg h0, if_neg h0]
  by_cases h1 : kd n c = 1
  · have e : goL n 1 (c :: r) = goL n 1 r + 1 := run_yes r (isK_yes h1)
    rw [if_pos h1, if_pos h1, h1, if_pos (show (1 : Int) = 1 ∨ (1 : Int) = 2 from .inl rfl), e]
    exact ⟨fun g h => (by injection h with h; subst h; exact ⟨rfl, rfl⟩), fun h => (by cases h)⟩
  rw [if_neg h1, if_neg h1]
  by_cases h2 : kd n c = 2
  · have e : goL n 2 (c :: r) = goL n 2 r + 1 := run_yes r (isK_yes h2)
    rw [if_pos h2, if_pos h2, h2, if_pos (show (2 : Int) = 1 ∨ (2 : Int) = 2 from .inr rfl), e]
    generalize (c :: r).take (goL n 2 r + 1) = t
    by_cases hv : val 0 t ≤ 9223372036854775807
    · rw [if_pos hv, if_pos hv, decide_eq_true hv]
      exact ⟨fun g h => (by injection h with h; subst h; exact ⟨rfl, rfl⟩), fun h => (by cases h)⟩
    · rw [if_neg hv, decide_eq_false hv]
      exact ⟨fun g h => (by cases h), fun _ => rfl⟩
  rw [if_neg h2, if_neg h2]
  by_cases h9 : kd n c = 9
  · rw [if_pos h9, if_pos h9, h9, if_neg (show ¬ ((9 : Int) = 1 ∨ (9 : Int) = 2) by omega), if_pos (rfl : (9 : Int) = 9)]
    by_cases ho : offL n r < r.length
    · rw [if_pos ho]
      obtain ⟨d, r', hd⟩ : ∃ d r', r.drop (offL n r) = d :: r' := by
        cases h : r.drop (offL n r) with
        | nil =>
          have : (r.drop (offL n r)).length = 0 := by rw [h]; rfl
          rw [List.length_drop] at this
          omega
        | cons d r' => exact ⟨d, r', rfl⟩
      have hk : kd n d = 10 := by
        have := run_stop (noC n) r d r' hd
        unfold noC at this
        simpa using this
      have ht : (c :: r).take (offL n r + 2) = (c :: r.take (offL n r)) ++ [d] := by
        have e1 : r = r.take (offL n r) ++ d :: r' := by rw [← hd, List.take_append_drop]
        have e2 : (r.take (offL n r)).length = offL n r := by rw [List.length_take]; omega
        have : (c :: r).take (offL n r + 2) = c :: r.take (offL n r + 1) := rfl
        rw [this, List.cons_append]
        congr 1
        rw [List.take_succ_eq_append_getElem ho]
        congr 1
        have e3 : r[offL n r] = d := by
          have := List.drop_eq_getElem_cons ho
          rw [hd] at this
          injection this with this _
          exact this.symm
        rw [e3]
      have hb : betT n ((c :: r).take (offL n r + 2)) = (r.take (offL n r), plainL (stZ n) (r.take (offL n r))) := by
        unfold betT
        rw [ht, getD_last, if_pos hk]
        have : (((c :: r.take (offL n r)) ++ [d]).take (((c :: r.take (offL n r)) ++ [d]).length - 1)).drop 1 = r.take (offL n r) := by
          rw [List.length_append, show (c :: r.take (offL n r)).length + [d].length - 1 = (c :: r.take (offL n r)).length by simp, List.take_left']
          · rfl
          · rfl
        rw [this]
      rw [hb]
      cases hp : plainL (stZ n) (r.take (offL n r)) with
      | true =>
        rw [if_pos ⟨ho, rfl⟩]
        exact ⟨fun g h => (by injection h with h; subst h; exact ⟨rfl, rfl⟩), fun h => (by cases h)⟩
      | false =>
        rw [if_neg (fun h => by cases h.2)]
        exact ⟨fun g h => (by cases h), fun _ => rfl⟩
    · rw [if_neg ho, if_neg (fun h => ho h.1)]
      refine ⟨fun g h => (by cases h), fun _ => ?_⟩
      have hol : offL n r = r.length := by have := run_le (noC n) r; unfold offL at ho ⊢; omega
      have ht : (c :: r).take (offL n r + 1) = c :: r := by rw [List.take_of_length_le]; rw [hol]; simp
      rw [ht]
      unfold betT
      rw [if_neg]
      show kd n ((c :: r).getD ((c :: r).length - 1) 0) ≠ 10
      have hm : (c :: r).getD ((c :: r).length - 1) 0 ∈ c :: r := by
        rw [getD_at _ _ (by simp)]
        exact List.getElem_mem _
      rcases List.mem_cons.1 hm with e | e
      · rw [e, h9]; omega
      · have := run_all (noC n) r _ (by
          show _ ∈ r.take (offL n r)
          rw [hol, List.take_length]; exact e)
        unfold noC at this
        simpa using this
  rw [if_neg h9, if_neg h9, if_neg (show ¬ (kd n c = 1 ∨ kd n c = 2) by omega), if_neg h9]
  exact ⟨fun g h => (by injection h with h; subst h; exact ⟨rfl, rfl⟩), fun h => (by cases h)⟩
theorem cand_len (n : Int) (c : UInt8) (r : List UInt8) : (candT n c r).length = farN n (kd n c) r := by
  unfold candT
  have := far_le n (kd n c) r
  rw [List.length_take, List.length_cons]; omega
theorem cand_dig (n : Int) (c : UInt8) (r : List UInt8) (h : kd n c = 2) : ∀ d ∈ candT n c r, isDig d := by
  intro d hd
  unfold candT farN at hd
  rw [h, if_pos (.inr rfl), show goL n 2 r + 1 = runL (isK n 2) (c :: r) from (run_yes (p := isK n 2) r (isK_yes h)).symm] at hd
  exact dig_of (isK_of (run_all (isK n 2) (c :: r) d hd))
theorem drop_cons (s : List UInt8) (p : Nat) (h : p < s.length) : s.drop p = s.getD p 0 :: s.drop (p + 1) := by
  rw [getD_at s p h]; exact List.drop_eq_getElem_cons h

theorem TokBox.at_ {V : World} {b : Nat} {x : Tok} (h : TokBox V b x) (p : Nat) : TokBox (V.setCell ⟨b, 1, none⟩ (.int .i64 (p : Int))) b ⟨x.kind, p, x.text, x.num⟩ := by
  have g := Grid.set h 0 1 (by omega) (by omega) (.int .i64 (p : Int))
  refine Grid.ext g fun i hi j hj => ?_
  have : i = 0 := by omega
  subst this
  match j, hj with
  | 0, _ => rfl
  | 1, _ => rfl
  | 2, _ => rfl
  | 3, _ => rfl
/-- The boxes of tokenAt. -/
structure TkI (w W : World) (b : Nat) (n : Int) (s : List UInt8) (p : Nat) : Prop where
  x3 : W.cell? ⟨b, 0, none⟩ = some (.int .i64 n)
  x2 : W.cell? ⟨b + 1, 0, none⟩ = some (.string (bs s))
  x1 : W.cell? ⟨b + 1 + 1, 0, none⟩ = some (.int .i64 (p : Int))
  tk : TokBox W (b + 1 + 1 + 1) ⟨0, 0, [], 0⟩
  env : Env W
  below : Below b w W
theorem TkI.go {w W W' : World} {b : Nat} {n : Int} {s : List UInt8} {p : Nat} (h : TkI w W b n s p) (hb : Below W.heap.size W W') (hz : b ≤ W.heap.size) : TkI w W' b n s p :=
  ⟨(hb.cell (p := ⟨b, 0, none⟩) (cell_lt h.x3)).trans h.x3, (hb.cell (p := ⟨b + 1, 0, none⟩) (cell_lt h.x2)).trans h.x2, (hb.cell (p := ⟨b + 1 + 1, 0, none⟩) (cell_lt h.x1)).trans h.x1, h.tk.go hb, h.env.go hb, h.below.trans (hb.mono hz)⟩
theorem TkI.size {w W : World} {b : Nat} {n : Int} {s : List UInt8} {p : Nat} (h : TkI w W b n s p) : b + 1 + 1 + 1 < W.heap.size := h.tk.2.2
theorem TkI.drew {w W : World} {b : Nat} {n : Int} {s : List UInt8} {p : Nat} (h : TkI w W b n s p) : TkI w W.drew b n s p := h.go (Below.refl _ _).drew (by have := h.size; omega)
theorem TkI.set {w W : World} {b : Nat} {n : Int} {s : List UInt8} {p : Nat} (h : TkI w W b n s p) (bk : Nat) (u : Value) (hb : b + 1 + 1 + 1 < bk) (hg : 3 ≤ b) : TkI w (W.setCell ⟨bk, 0, none⟩ u) b n s p := by
  have hk : ∀ k, k ≠ bk → (W.setCell ⟨bk, 0, none⟩ u).heap[k]? = W.heap[k]? := fun k hk => Below.heap_setCell W ⟨bk, 0, none⟩ u k hk
  refine ⟨cell_same h.x3 (hk _ (by omega)), cell_same h.x2 (hk _ (by omega)), cell_same h.x1 (hk _ (by omega)), Grid.other h.tk bk 0 u (by omega), ?_, h.below.setCell (p := ⟨bk, 0, none⟩) (show b ≤ bk by omega) u⟩
  exact h.env.same (by rw [World.size_setCell]; exact Nat.le_refl _) (fun k h3 => hk k (by omega))
theorem TkI.new (w : World) (n : Int) (s : List UInt8) (p : Nat) (hE : Env w) (t1 t2 t3 t4 : TypeId) : TkI w ((((w.alloc (.cells #[.int .i64 n] t1)).alloc (.cells #[.string (bs s)] t2)).alloc (.cells #[.int .i64 (p : Int)] t3)).alloc (.cells #[.int .i64 0, .int .i64 0, .string ⟨#[]⟩, .int .i64 0] t4)) w.heap.size n s p := by
  have hu : Below w.heap.size w ((((w.alloc (.cells #[.int .i64 n] t1)).alloc (.cells #[.string (bs s)] t2)).alloc (.cells #[.int .i64 (p : Int)] t3)).alloc (.cells #[.int .i64 0, .int .i64 0, .string ⟨#[]⟩, .int .i64 0] t4)) := by go_grown
  refine ⟨by simp [go_sem], by simp [go_sem], by simp [go_sem], ?_, hE.go hu, hu⟩
  have := TokBox.new (((w.alloc (.cells #[.int .i64 n] t1)).alloc (.cells #[.string (bs s)] t2)).alloc (.cells #[.int .i64 (p : Int)] t3)) ⟨0, 0, [], 0⟩ t4
  rwa [World.size_alloc, World.size_alloc, World.size_alloc] at this

theorem below_join {w X w2 : World} (h : Below w.heap.size w X) (hb : Below X.heap.size X w2) : Below w.heap.size w w2 := h.trans (hb.mono h.size)
theorem box1_keep {X w2 : World} {a : Value} {t : TypeId} (hb : Below (X.alloc (.cells #[a] t)).heap.size (X.alloc (.cells #[a] t)) w2) : w2.cell? ⟨X.heap.size, 0, none⟩ = some a ∧ w2.frozen? ⟨X.heap.size, 0, none⟩ = false := by
  have hz : X.heap.size < (X.alloc (.cells #[a] t)).heap.size := by rw [World.size_alloc]; omega
  exact ⟨(hb.cell (p := ⟨X.heap.size, 0, none⟩) hz).trans (by simp [go_sem]), (hb.frozen (p := ⟨X.heap.size, 0, none⟩) hz).trans (by simp [go_sem])⟩

set_option maxRecDepth 100000 in
set_option maxHeartbeats 4000000 in
theorem tokenAt_any (n : Int) (s : List UInt8) (p : Nat) (w : World) (hE : Env w) (hp : p < s.length) (hl : s.length ≤ 1000) (k : Int) (m : Nat) (t : List UInt8) (x : Tok) (b : Bool) (hk : kd n (s.getD p 0) = k) (hm : farN n k (s.drop (p + 1)) = m) (ht : candT n (s.getD p 0) (s.drop (p + 1)) = t) (hx : madeT n k t = (x, b)) :
    Calls Tryd.prog 18 #[.int .i64 n, .string (bs s), .int .i64 (p : Int)] w fun e w' => e = .returned (.tuple #[Tok.v ⟨x.kind, p, x.text, x.num⟩, .int .i64 ((p + m : Nat) : Int), .bool b]) ∧ Below w.heap.size w w' := by
  have hzi : ((bs s).size : Int) = (s.length : Int) := by rw [bs_size]
  have hli : (s.length : Int) ≤ 1000 := by omega
  have hpi : (p : Int) < s.length := by omega
  have hpb : p < (bs s).size := by rw [bs_size]; exact hp
  have hml := far_le n k (s.drop (p + 1))
  rw [hm, List.length_drop] at hml
  have hF := fun b1 b2 b3 b4 W (h : Styles W) (hf : FarI W b1 b2 b3 b4 p s n k) => far_any b1 b2 b3 b4 p s n k W h hf hp hl
  rw [hm] at hF
  have hx1 : (bs s).extract p (p + m) = bs t := by
    rw [bs_extract s p (p + m) (by omega), ← ht]
    unfold candT
    rw [hk, hm, ← drop_cons s p hp, List.drop_take]
    congr 2; omega
  have hM := fun W (h : Env W) => made_any n k t W h (by
      intro e
      have := cand_len n (s.getD p 0) (s.drop (p + 1))
      rw [ht, e, hk, hm] at this
      simp at this; omega) (by
      have := cand_len n (s.getD p 0) (s.drop (p + 1))
      rw [ht, hk, hm] at this
      omega) (by
      intro e
      rw [← ht]
      exact cand_dig n _ _ (hk.trans e)) (by
      intro e he
      have := cand_len n (s.getD p 0) (s.drop (p + 1))
      rw [ht, he, hk, hm] at this
      rw [← ht]
      unfold candT
      rw [hk, hm, ← this]
      show kd n (s.getD p 0) ≠ 10
      rw [hk]; omega)
  rw [hx] at hM
  obtain ⟨c, hc⟩ : ∃ c, s.getD p 0 = c := ⟨_, rfl⟩
  have hcb : (bs s)[p] = c := (bs_at s p hpb).trans hc
  have hc1 : (c.toNat : Int) ≤ 255 := by have := c.toNat_lt; omega
  have hK := fun W (h : Styles W) => kind_any n (c.toNat : Int) W h (by omega) hc1
  rw [hc] at hk
  rw [show kindZ n (c.toNat : Int) = k from hk] at hK
  clear hk hm ht hx hc
  obtain ⟨xk, xp, xt, xn⟩ := x
  simp only [Tok.v] at hM ⊢
  have hE3 : 3 ≤ w.heap.size := hE.err.1
  have hI := TkI.new w n s p hE 3 9 3 33
  have hs0 : Hid (((((w.alloc (.cells #[.int .i64 n] 3)).alloc (.cells #[.string (bs s)] 9)).alloc (.cells #[.int .i64 (p : Int)] 3)).alloc (.cells #[.int .i64 0, .int .i64 0, .string ⟨#[]⟩, .int .i64 0] 33)).heap.size = w.heap.size + 1 + 1 + 1 + 1) := by show _ = _; simp only [World.size_alloc]
  go_enter Tryd.func18, Tryd.ntmps18
  go_wp2_with fail
  generalize ((((w.alloc (.cells #[.int .i64 n] 3)).alloc (.cells #[.string (bs s)] 9)).alloc (.cells #[.int .i64 (p : Int)] 3)).alloc (.cells #[.int .i64 0, .int .i64 0, .string ⟨#[]⟩, .int .i64 0] 33)) = W0 at *
  have x1 := hI.x1
  have x2 := hI.x2
  have x3 := hI.x3
  have hS0 := hI.env.sts
  have n1 := World.new_ne W0 _ x1
  have n2 := World.new_ne W0 _ x2
  have n3 := World.new_ne W0 _ x3
  go_region_held3 (fun v => v.cell? ⟨w.heap.size, 0, none⟩ = some (.int .i64 n) ∧ v.cell? ⟨w.heap.size + 1, 0, none⟩ = some (.string (bs s)) ∧ v.cell? ⟨w.heap.size + 1 + 1, 0, none⟩ = some (.int .i64 (p : Int)))
    (first | go_keep)
    (first | (go_at_call_of 25 (Value.int IntKind.u8 (c.toNat : Int)); (refine (hK _ (hS0.go (by first | exact (Below.refl _ _).drew | exact (Below.refl _ _).drew.alloc (Nat.le_refl _) _ | exact ((Below.refl _ _).alloc (Nat.le_refl _) _).drew))).mono ?_); rintro e u ⟨rfl, hb⟩; have hB := below_join (w := W0) (by first | exact (Below.refl _ _).drew | exact (Below.refl _ _).drew.alloc (Nat.le_refl _) _ | exact ((Below.refl _ _).alloc (Nat.le_refl _) _).drew) hb; have hI1 := hI.go hB (by have := hI.size; omega); have x1' := hI1.x1; have x2' := hI1.x2; have x3' := hI1.x3; have m1 := World.new_ne u _ x1'; have m2 := World.new_ne u _ x2'; have m3 := World.new_ne u _ x3'; (try (have hk0 := box1_keep (below_join (Below.refl _ _).drew hb); have hkc : u.cell? ⟨W0.heap.size, 0, none⟩ = some (.int .i64 0) := hk0.1; have hkf : u.frozen? ⟨W0.heap.size, 0, none⟩ = false := hk0.2))))
  all_goals clear x1 x2 x3 n1 n2 n3 x1' x2' x3' m1 m2 m3
  all_goals first
    | (have hJ := hI1.set W0.heap.size (.int .i64 k) (by have := hI.size; omega) hE3
       have hkk : (u.setCell ⟨W0.heap.size, 0, none⟩ (.int .i64 k)).cell? ⟨W0.heap.size, 0, none⟩ = some (.int .i64 k) := World.cell?_setCell_same _ _ _ hkc
       have hbk : w.heap.size + 1 + 1 + 1 ≠ W0.heap.size := by have := hI.size; omega
       clear hkc hkf hk0 hb hB hI1 hI hs0 hS0
       generalize u.setCell ⟨W0.heap.size, 0, none⟩ (.int .i64 k) = V at *
       generalize W0.heap.size = bk at *)
    | (have hJ := hI1.go (W' := u.alloc (.cells #[.int .i64 k] 3)) ((Below.refl _ _).alloc (Nat.le_refl _) _) (by have := hI1.size; omega)
       have hkk : (u.alloc (.cells #[.int .i64 k] 3)).cell? ⟨u.heap.size, 0, none⟩ = some (.int .i64 k) := by simp [go_sem]
       have hbk : w.heap.size + 1 + 1 + 1 ≠ u.heap.size := by have := hI1.size; omega
       clear hb hB hI1 hI hs0 hS0
       generalize u.alloc (.cells #[.int .i64 k] 3) = V at *
       generalize u.heap.size = bk at *)
  all_goals
    have x1 := hJ.x1
    have x2 := hJ.x2
    have x3 := hJ.x3
    have hFr := hF (w.heap.size + 1 + 1) (w.heap.size + 1) w.heap.size bk V hJ.env.sts ⟨x1, x2, x3, hkk⟩
    go_wp2_with fail
    refine hFr.mono ?_
    rintro e w2 ⟨rfl, hb2⟩
    have hkk2 := (hb2.cell (p := ⟨bk, 0, none⟩) (cell_lt hkk)).trans hkk
    have hJ2 := hJ.go hb2 (by have := hJ.size; omega)
    clear hFr hb2 hJ hkk x1 x2 x3 hF hK
    have x1 := hJ2.x1
    have x2 := hJ2.x2
    have x3 := hJ2.x3
    have hpm : (p : Int) ≤ ((p + m : Nat) : Int) := by omega
    have hpm2 : ((p + m : Nat) : Int) ≤ s.length := by omega
    generalize hq : p + m = q at *
    have HQ := Lib.hid hq
    clear hq
    have hne0 : w.heap.size + 1 + 1 + 1 ≠ w.heap.size := by omega
    have hne1 : w.heap.size + 1 + 1 ≠ w.heap.size := by omega
    go_upto_region 4 with fail
    go_region_held3 (fun v => v.cell? ⟨w.heap.size, 0, none⟩ = some (.int .i64 n) ∧ v.cell? ⟨w.heap.size + 1, 0, none⟩ = some (.string (bs s)) ∧ v.cell? ⟨w.heap.size + 1 + 1, 0, none⟩ = some (.int .i64 (p : Int)) ∧ v.cell? ⟨bk, 0, none⟩ = some (.int .i64 k))
      (first | go_keep)
      (first | (go_at_call_of 27 (Value.int IntKind.i64 k); (refine (hM _ (hJ2.env.go (by first | exact (Below.refl _ _).drew | exact Below.refl _ _))).mono ?_); rintro e u ⟨rfl, hb⟩; have hB := below_join (w := w2) (by first | exact (Below.refl _ _).drew | exact Below.refl _ _) hb; have hJ3 := hJ2.go hB (by have := hJ2.size; omega); have hkk3 := (hB.cell (p := ⟨bk, 0, none⟩) (cell_lt hkk2)).trans hkk2; have x1' := hJ3.x1; have x2' := hJ3.x2; have x3' := hJ3.x3; obtain ⟨y0, y1, y2, y3⟩ := hJ3.tk.cells; obtain ⟨f0, f1, f2, f3⟩ := hJ3.tk.fz))
    rename_i hHeld
    obtain ⟨_, _, xx1, _⟩ := hHeld
    have hP := hJ3.tk.put ⟨xk, xp, xt, xn⟩
    have hBe := below_put hJ3.below (show w.heap.size ≤ w.heap.size + 1 + 1 + 1 by omega) ⟨xk, xp, xt, xn⟩
    simp only at hP hBe
    clear hJ3 hJ2 hkk3 hkk2 x1 x2 x3 x1' x2' x3' y0 y1 y2 y3 f0 f1 f2 f3 hb hB hM
    generalize ((((u.setCell ⟨w.heap.size + 1 + 1 + 1, 0, none⟩ (.int .i64 xk)).setCell ⟨w.heap.size + 1 + 1 + 1, 1, none⟩ (.int .i64 (xp : Int))).setCell ⟨w.heap.size + 1 + 1 + 1, 2, none⟩ (.string (bs xt))).setCell ⟨w.heap.size + 1 + 1 + 1, 3, none⟩ (.int .i64 xn)) = V3 at *
    obtain ⟨y0, y1, y2, y3⟩ := hP.cells
    obtain ⟨f0, f1, f2, f3⟩ := hP.fz
    obtain ⟨z0, z1, z2, z3⟩ := (hP.at_ p).cells
    simp only at z0 z1 z2 z3
    go_wp2
    refine bodyPost_ret (v := .tuple #[.agg #[.int .i64 xk, .int .i64 (p : Int), .string (bs xt), .int .i64 xn], .int .i64 (q : Int), .bool b]) (by simp [results, Tryd.results18, go_sem, z0, z1, z2, z3]) rfl ⟨by rw [show ((p : Int) + (m : Int)) = (q : Int) by have := HQ.out; omega], ?_⟩
    exact below_put (hBe.setCell (p := ⟨w.heap.size + 1 + 1 + 1, 1, none⟩) (show w.heap.size ≤ w.heap.size + 1 + 1 + 1 by omega) _) (show w.heap.size ≤ w.heap.size + 1 + 1 + 1 by omega) ⟨xk, p, xt, xn⟩

theorem tokenAt_yes (n : Int) (s : List UInt8) (p : Nat) (w : World) (hE : Env w) (hp : p < s.length) (hl : s.length ≤ 1000) (g : Got) (hg : nextT n (s.drop p) = some g) :
    Calls Tryd.prog 18 #[.int .i64 n, .string (bs s), .int .i64 (p : Int)] w fun e w' => e = .returned (.tuple #[Tok.v ⟨g.kind, p, g.text, g.num⟩, .int .i64 ((p + g.len : Nat) : Int), .bool true]) ∧ Below w.heap.size w w' := by
  rw [drop_cons s p hp] at hg
  obtain ⟨h1, h2⟩ := (made_next n (s.getD p 0) (s.drop (p + 1))).1 g hg
  have := tokenAt_any n s p w hE hp hl _ _ _ _ _ rfl rfl rfl h1
  rw [h2] at this
  exact this
theorem tokenAt_no (n : Int) (s : List UInt8) (p : Nat) (w : World) (hE : Env w) (hp : p < s.length) (hl : s.length ≤ 1000) (hg : nextT n (s.drop p) = none) :
    Calls Tryd.prog 18 #[.int .i64 n, .string (bs s), .int .i64 (p : Int)] w fun e w' => (∃ x m, e = .returned (.tuple #[Tok.v x, .int .i64 m, .bool false])) ∧ Below w.heap.size w w' := by
  rw [drop_cons s p hp] at hg
  have h1 := (made_next n (s.getD p 0) (s.drop (p + 1))).2 hg
  refine (tokenAt_any n s p w hE hp hl _ _ _ (madeT n (kd n (s.getD p 0)) (candT n (s.getD p 0) (s.drop (p + 1)))).1 false rfl rfl rfl (Prod.ext rfl h1)).mono ?_
  rintro e w1 ⟨rfl, hb⟩
  exact ⟨⟨_, _, rfl⟩, hb⟩

end Go.Proofs.YtnkfjbfllcdkbaaDoor.Toks
