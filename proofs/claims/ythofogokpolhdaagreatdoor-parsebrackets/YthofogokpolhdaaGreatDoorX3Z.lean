/-
  Contract of lex.tokenAt. Contracts of lex.spans, of the function that it hands back, of lex.Lex. Contract of lex.Lex. Contracts of drachmlaw08.rest, short, awake. Contracts of lex.Each, of the function that it hands back, of drachmlaw08.each. Contracts of slices.AppendSeq and slices.Collect over lex.Each's function.
-/
import Derived.Test.YthofogokpolhdaaGreatDoorX1X
import Derived.Test.YthofogokpolhdaaGreatDoorARX
import Derived.RangeFuncBound
import Derived.RangeFuncFrom
import Derived.RangeFuncBox
import Derived.OwnWalkIn
import Derived.TacticsInMore
import Derived.LoopNIn
import Derived.LoopIn
import Derived.Stop.RegionWithIn
namespace Go.Proofs.YthofogokpolhdaaGreatDoor.Toks
open Go.RowKit
open Go.Proofs.YthofogokpolhdaaGreatDoor.Style
open Go.Proofs.YthofogokpolhdaaGreatDoor.Texts (val isDig val_nil val_cons val_le)
set_option linter.unusedVariables false
set_option linter.unusedSimpArgs false

/-- The text of what may be a token. -/
def candT (n : Int) (c : UInt8) (r : List UInt8) : List UInt8 := (c :: r).take (farN n (kd n c) r)
theorem getD_last (l : List UInt8) (x : UInt8) : (l ++ [x]).getD ((l ++ [x]).length - 1) 0 = x := by
  rw [List.getD_eq_getElem?_getD, List.length_append]; simp
/-- What is made of it is the token, just if there is one. -/
theorem made_next (n : Int) (c : UInt8) (r : List UInt8) :
    (∀ g, nextT n (c :: r) = some g → madeT n (kd n c) (candT n c r) = (⟨g.kind, 0, g.text, g.num⟩, true) ∧ farN n (kd n c) r = g.len) ∧ (nextT n (c :: r) = none → (madeT n (kd n c) (candT n c r)).2 = false) := by
  unfold candT madeT farN
  simp only [nextT]
  by_cases h0 : kd n c = 0 ∨ kd n c = 10
  · rw [if_pos h0, if_pos h0]
    exact ⟨fun g h => (by cases h), fun _ => rfl⟩
  rw [if_neg h0, if_neg h0]
  by_cases h1 : kd n c = 1
  · have e : goL n 1 (c :: r) = goL n 1 r + 1 := run_yes r (isK_yes h1)
    rw [if_pos h1, if_pos h1, h1, if_pos (show (1 : Int) = 1 ∨ (1 : Int) = 2 from .inl rfl), e]
    exact ⟨fun g h => (by injection h with h; subst h; exact ⟨rfl, rfl⟩), fun h => (by cases h)⟩
  rw [if_neg h1, if_neg h1]
  by_cases h2 : kd n c = 2
  · have e : goL n 2 (c :: r) = goL n 2 r + 1 := run_yes r (isK_yes h2)
    rw [if_pos h2, if_pos h2, h2, if_pos (show (2 : Int) = 1 ∨ (2 : Int) = 2 from .inr rfl), e]
    generalize (c :: r).take (goL n 2 r + 1) = t
    by_cases hv : val 0 t ≤ 9223372036854775807
    · rw [if_pos hv, if_pos hv, decide_eq_true hv]
      exact ⟨fun g h => (by injection h with h; subst h; exact ⟨rfl, rfl⟩), fun h => (by cases h)⟩
    · rw [if_neg hv, decide_eq_false hv]
      exact ⟨fun g h => (by cases h), fun _ => rfl⟩
  rw [if_neg h2, if_neg h2]
  by_cases h9 : kd n c = 9
  · rw [if_pos h9, if_pos h9, h9, if_neg (show ¬ ((9 : Int) = 1 ∨ (9 : Int) = 2) by omega), if_pos (rfl : (9 : Int) = 9)]
    by_cases ho : offL n r < r.length
    · rw [if_pos ho]
      obtain ⟨d, r', hd⟩ : ∃ d r', r.drop (offL n r) = d :: r' := by
        cases h : r.drop (offL n r) with
        | nil =>
          have : (r.drop (offL n r)).length = 0 := by rw [h]; rfl
          rw [List.length_drop] at this
          omega
        | cons d r' => exact ⟨d, r', rfl⟩
      have hk : kd n d = 10 := by
        have := run_stop (noC n) r d r' hd
        unfold noC at this
        simpa using this
      have ht : (c :: r).take (offL n r + 2) = (c :: r.take (offL n r)) ++ [d] := by
        have e1 : r = r.take (offL n r) ++ d :: r' := by rw [← hd, List.take_append_drop]
        have e2 : (r.take (offL n r)).length = offL n r := by rw [List.length_take]; omega
        have : (c :: r).take (offL n r + 2) = c :: r.take (offL n r + 1) := rfl
        rw [this, List.cons_append]
        congr 1
        rw [List.take_succ_eq_append_getElem ho]
        congr 1
        have e3 : r[offL n r] = d := by
          have := List.drop_eq_getElem_cons ho
          rw [hd] at this
          injection this with this _
          exact this.symm
        rw [e3]
      have hb : betT n ((c :: r).take (offL n r + 2)) = (r.take (offL n r), plainL (stZ n) (r.take (offL n r))) := by
        unfold betT
        rw [ht, getD_last, if_pos hk]
        have : (((c :: r.take (offL n r)) ++ [d]).take (((c :: r.take (offL n r)) ++ [d]).length - 1)).drop 1 = r.take (offL n r) := by
          rw [List.length_append, show (c :: r.take (offL n r)).length + [d].length - 1 = (c :: r.take (offL n r)).length by simp, List.take_left']
          · rfl
          · rfl
        rw [this]
      rw [hb]
      cases hp : plainL (stZ n) (r.take (offL n r)) with
      | true =>
        rw [if_pos ⟨ho, rfl⟩]
        exact ⟨fun g h => (by injection h with h; subst h; exact ⟨rfl, rfl⟩), fun h => (by cases h)⟩
      | false =>
        rw [if_neg (fun h => by cases h.2)]
        exact ⟨fun g h => (by cases h), fun _ => rfl⟩
    · rw [if_neg ho, if_neg (fun h => ho h.1)]
      refine ⟨fun g h => (by cases h), fun _ => ?_⟩
      have hol : offL n r = r.length := by have := run_le (noC n) r; unfold offL at ho ⊢; omega
      have ht : (c :: r).take (offL n r + 1) = c :: r := by rw [List.take_of_length_le]; rw [hol]; simp
      rw [ht]
      unfold betT
      rw [if_neg]
      show kd n ((c :: r).getD ((c :: r).length - 1) 0) ≠ 10
      have hm : (c :: r).getD ((c :: r).length - 1) 0 ∈ c :: r := by
        rw [getD_at _ _ (by simp)]
        exact List.getElem_mem _
      rcases List.mem_cons.1 hm with e | e
      · rw [e, h9]; omega
      · have := run_all (noC n) r _ (by
          show _ ∈ r.take (offL n r)
          rw [hol, List.take_length]; exact e)
        unfold noC at this
        simpa using this
  rw [if_neg h9, if_neg h9, if_neg (show ¬ (kd n c = 1 ∨ kd n c = 2) by omega), if_neg h9]
  exact ⟨fun g h => (by injection h with h; subst h; exact ⟨rfl, rfl⟩), fun h => (by cases h)⟩
theorem cand_len (n : Int) (c : UInt8) (r : List UInt8) : (candT n c r).length = farN n (kd n c) r := by
  unfold candT
  have := far_le n (kd n c) r
  rw [List.length_take, List.length_cons]; omega
theorem cand_dig (n : Int) (c : UInt8) (r : List UInt8) (h : kd n c = 2) : ∀ d ∈ candT n c r, isDig d := by
  intro d hd
  unfold candT farN at hd
  rw [h, if_pos (.inr rfl), show goL n 2 r + 1 = runL (isK n 2) (c :: r) from (run_yes (p := isK n 2) r (isK_yes h)).symm] at hd
  exact dig_of (isK_of (run_all (isK n 2) (c :: r) d hd))
theorem drop_cons (s : List UInt8) (p : Nat) (h : p < s.length) : s.drop p = s.getD p 0 :: s.drop (p + 1) := by
  rw [getD_at s p h]; exact List.drop_eq_getElem_cons h

theorem TokBox.at_ {V : World} {b : Nat} {x : Tok} (h : TokBox V b x) (p : Nat) : TokBox (V.setCell ⟨b, 1, none⟩ (.int .i64 (p : Int))) b ⟨x.kind, p, x.text, x.num⟩ := by
  have g := Grid.set h 0 1 (by omega) (by omega) (.int .i64 (p : Int))
  refine Grid.ext g fun i hi j hj => ?_
  have : i = 0 := by omega
  subst this
  match j, hj with
  | 0, _ => rfl
  | 1, _ => rfl
  | 2, _ => rfl
  | 3, _ => rfl
/-- The boxes of tokenAt. -/
structure TkI (w W : World) (b : Nat) (n : Int) (s : List UInt8) (p : Nat) : Prop where
  x3 : W.cell? ⟨b, 0, none⟩ = some (.int .i64 n)
  x2 : W.cell? ⟨b + 1, 0, none⟩ = some (.string (bs s))
  x1 : W.cell? ⟨b + 1 + 1, 0, none⟩ = some (.int .i64 (p : Int))
  tk : TokBox W (b + 1 + 1 + 1) ⟨0, 0, [], 0⟩
  env : Env W
  below : Below b w W
theorem TkI.go {w W W' : World} {b : Nat} {n : Int} {s : List UInt8} {p : Nat} (h : TkI w W b n s p) (hb : Below W.heap.size W W') (hz : b ≤ W.heap.size) : TkI w W' b n s p :=
  ⟨(hb.cell (p := ⟨b, 0, none⟩) (cell_lt h.x3)).trans h.x3, (hb.cell (p := ⟨b + 1, 0, none⟩) (cell_lt h.x2)).trans h.x2, (hb.cell (p := ⟨b + 1 + 1, 0, none⟩) (cell_lt h.x1)).trans h.x1, h.tk.go hb, h.env.go hb, h.below.trans (hb.mono hz)⟩
theorem TkI.size {w W : World} {b : Nat} {n : Int} {s : List UInt8} {p : Nat} (h : TkI w W b n s p) : b + 1 + 1 + 1 < W.heap.size := h.tk.2.2
theorem TkI.drew {w W : World} {b : Nat} {n : Int} {s : List UInt8} {p : Nat} (h : TkI w W b n s p) : TkI w W.drew b n s p := h.go (Below.refl _ _).drew (by have := h.size; omega)
theorem TkI.set {w W : World} {b : Nat} {n : Int} {s : List UInt8} {p : Nat} (h : TkI w W b n s p) (bk : Nat) (u : Value) (hb : b + 1 + 1 + 1 < bk) (hg : 3 ≤ b) : TkI w (W.setCell ⟨bk, 0, none⟩ u) b n s p := by
  have hk : ∀ k, k ≠ bk → (W.setCell ⟨bk, 0, none⟩ u).heap[k]? = W.heap[k]? := fun k hk => Below.heap_setCell W ⟨bk, 0, none⟩ u k hk
  refine ⟨cell_same h.x3 (hk _ (by omega)), cell_same h.x2 (hk _ (by omega)), cell_same h.x1 (hk _ (by omega)), Grid.other h.tk bk 0 u (by omega), ?_, h.below.setCell (p := ⟨bk, 0, none⟩) (show b ≤ bk by omega) u⟩
  exact h.env.same (by rw [World.size_setCell]; exact Nat.le_refl _) (fun k h3 => hk k (by omega))
theorem TkI.new (w : World) (n : Int) (s : List UInt8) (p : Nat) (hE : Env w) (t1 t2 t3 t4 : TypeId) : TkI w ((((w.alloc (.cells #[.int .i64 n] t1)).alloc (.cells #[.string (bs s)] t2)).alloc (.cells #[.int .i64 (p : Int)] t3)).alloc (.cells #[.int .i64 0, .int .i64 0, .string ⟨#[]⟩, .int .i64 0] t4)) w.heap.size n s p := by
  have hu : Below w.heap.size w ((((w.alloc (.cells #[.int .i64 n] t1)).alloc (.cells #[.string (bs s)] t2)).alloc (.cells #[.int .i64 (p : Int)] t3)).alloc (.cells #[.int .i64 0, .int .i64 0, .string ⟨#[]⟩, .int .i64 0] t4)) := by go_grown
  refine ⟨by simp [go_sem], by simp [go_sem], by simp [go_sem], ?_, hE.go hu, hu⟩
  have := TokBox.new (((w.alloc (.cells #[.int .i64 n] t1)).alloc (.cells #[.string (bs s)] t2)).alloc (.cells #[.int .i64 (p : Int)] t3)) ⟨0, 0, [], 0⟩ t4
  rwa [World.size_alloc, World.size_alloc, World.size_alloc] at this

theorem below_join {w X w2 : World} (h : Below w.heap.size w X) (hb : Below X.heap.size X w2) : Below w.heap.size w w2 := h.trans (hb.mono h.size)
theorem box1_keep {X w2 : World} {a : Value} {t : TypeId} (hb : Below (X.alloc (.cells #[a] t)).heap.size (X.alloc (.cells #[a] t)) w2) : w2.cell? ⟨X.heap.size, 0, none⟩ = some a ∧ w2.frozen? ⟨X.heap.size, 0, none⟩ = false := by
  have hz : X.heap.size < (X.alloc (.cells #[a] t)).heap.size := by rw [World.size_alloc]; omega
  exact ⟨(hb.cell (p := ⟨X.heap.size, 0, none⟩) hz).trans (by simp [go_sem]), (hb.frozen (p := ⟨X.heap.size, 0, none⟩) hz).trans (by simp [go_sem])⟩

set_option maxRecDepth 100000 in
set_option maxHeartbeats 4000000 in
theorem tokenAt_any (n : Int) (s : List UInt8) (p : Nat) (w : World) (hE : Env w) (hp : p < s.length) (hl : s.length ≤ 1000) (k : Int) (m : Nat) (t : List UInt8) (x : Tok) (b : Bool) (hk : kd n (s.getD p 0) = k) (hm : farN n k (s.drop (p + 1)) = m) (ht : candT n (s.getD p 0) (s.drop (p + 1)) = t) (hx : madeT n k t = (x, b)) :
    Calls Tryz.prog 82 #[.int .i64 n, .string (bs s), .int .i64 (p : Int)] w fun e w' => e = .returned (.tuple #[Tok.v ⟨x.kind, p, x.text, x.num⟩, .int .i64 ((p + m : Nat) : Int), .bool b]) ∧ Below w.heap.size w w' := by
  have hzi : ((bs s).size : Int) = (s.length : Int) := by rw [bs_size]
  have hli : (s.length : Int) ≤ 1000 := by omega
  have hpi : (p : Int) < s.length := by omega
  have hpb : p < (bs s).size := by rw [bs_size]; exact hp
  have hml := far_le n k (s.drop (p + 1))
  rw [hm, List.length_drop] at hml
  have hF := fun b1 b2 b3 b4 W (h : Styles W) (hf : FarI W b1 b2 b3 b4 p s n k) => far_any b1 b2 b3 b4 p s n k W h hf hp hl
  rw [hm] at hF
  have hx1 : (bs s).extract p (p + m) = bs t := by
    rw [bs_extract s p (p + m) (by omega), ← ht]
    unfold candT
    rw [hk, hm, ← drop_cons s p hp, List.drop_take]
    congr 2; omega
  have hM := fun W (h : Env W) => made_any n k t W h (by
      intro e
      have := cand_len n (s.getD p 0) (s.drop (p + 1))
      rw [ht, e, hk, hm] at this
      simp at this; omega) (by
      have := cand_len n (s.getD p 0) (s.drop (p + 1))
      rw [ht, hk, hm] at this
      omega) (by
      intro e
      rw [← ht]
      exact cand_dig n _ _ (hk.trans e)) (by
      intro e he
      have := cand_len n (s.getD p 0) (s.drop (p + 1))
      rw [ht, he, hk, hm] at this
      rw [← ht]
      unfold candT
      rw [hk, hm, ← this]
      show kd n (s.getD p 0) ≠ 10
      rw [hk]; omega)
  rw [hx] at hM
  obtain ⟨c, hc⟩ : ∃ c, s.getD p 0 = c := ⟨_, rfl⟩
  have hcb : (bs s)[p] = c := (bs_at s p hpb).trans hc
  have hc1 : (c.toNat : Int) ≤ 255 := by have := c.toNat_lt; omega
  have hK := fun W (h : Styles W) => kind_any n (c.toNat : Int) W h (by omega) hc1
  rw [hc] at hk
  rw [show kindZ n (c.toNat : Int) = k from hk] at hK
  clear hk hm ht hx hc
  obtain ⟨xk, xp, xt, xn⟩ := x
  simp only [Tok.v] at hM ⊢
  have hE3 : 3 ≤ w.heap.size := hE.err.1
  have hI := TkI.new w n s p hE 3 9 3 71
  have hs0 : Hid (((((w.alloc (.cells #[.int .i64 n] 3)).alloc (.cells #[.string (bs s)] 9)).alloc (.cells #[.int .i64 (p : Int)] 3)).alloc (.cells #[.int .i64 0, .int .i64 0, .string ⟨#[]⟩, .int .i64 0] 71)).heap.size = w.heap.size + 1 + 1 + 1 + 1) := by show _ = _; simp only [World.size_alloc]
  go_enter Tryz.func82, Tryz.ntmps82
  go_wp2_with fail
  generalize ((((w.alloc (.cells #[.int .i64 n] 3)).alloc (.cells #[.string (bs s)] 9)).alloc (.cells #[.int .i64 (p : Int)] 3)).alloc (.cells #[.int .i64 0, .int .i64 0, .string ⟨#[]⟩, .int .i64 0] 71)) = W0 at *
  have x1 := hI.x1
  have x2 := hI.x2
  have x3 := hI.x3
  have hS0 := hI.env.sts
  have n1 := World.new_ne W0 _ x1
  have n2 := World.new_ne W0 _ x2
  have n3 := World.new_ne W0 _ x3
  go_region_held3 (fun v => v.cell? ⟨w.heap.size, 0, none⟩ = some (.int .i64 n) ∧ v.cell? ⟨w.heap.size + 1, 0, none⟩ = some (.string (bs s)) ∧ v.cell? ⟨w.heap.size + 1 + 1, 0, none⟩ = some (.int .i64 (p : Int)))
    (first | go_keep)
    (first | (go_at_call_of 100 (Value.int IntKind.u8 (c.toNat : Int)); (refine (hK _ (hS0.go (by first | exact (Below.refl _ _).drew | exact (Below.refl _ _).drew.alloc (Nat.le_refl _) _ | exact ((Below.refl _ _).alloc (Nat.le_refl _) _).drew))).mono ?_); rintro e u ⟨rfl, hb⟩; have hB := below_join (w := W0) (by first | exact (Below.refl _ _).drew | exact (Below.refl _ _).drew.alloc (Nat.le_refl _) _ | exact ((Below.refl _ _).alloc (Nat.le_refl _) _).drew) hb; have hI1 := hI.go hB (by have := hI.size; omega); have x1' := hI1.x1; have x2' := hI1.x2; have x3' := hI1.x3; have m1 := World.new_ne u _ x1'; have m2 := World.new_ne u _ x2'; have m3 := World.new_ne u _ x3'; (try (have hk0 := box1_keep (below_join (Below.refl _ _).drew hb); have hkc : u.cell? ⟨W0.heap.size, 0, none⟩ = some (.int .i64 0) := hk0.1; have hkf : u.frozen? ⟨W0.heap.size, 0, none⟩ = false := hk0.2))))
  all_goals clear x1 x2 x3 n1 n2 n3 x1' x2' x3' m1 m2 m3
  all_goals first
    | (have hJ := hI1.set W0.heap.size (.int .i64 k) (by have := hI.size; omega) hE3
       have hkk : (u.setCell ⟨W0.heap.size, 0, none⟩ (.int .i64 k)).cell? ⟨W0.heap.size, 0, none⟩ = some (.int .i64 k) := World.cell?_setCell_same _ _ _ hkc
       have hbk : w.heap.size + 1 + 1 + 1 ≠ W0.heap.size := by have := hI.size; omega
       clear hkc hkf hk0 hb hB hI1 hI hs0 hS0
       generalize u.setCell ⟨W0.heap.size, 0, none⟩ (.int .i64 k) = V at *
       generalize W0.heap.size = bk at *)
    | (have hJ := hI1.go (W' := u.alloc (.cells #[.int .i64 k] 3)) ((Below.refl _ _).alloc (Nat.le_refl _) _) (by have := hI1.size; omega)
       have hkk : (u.alloc (.cells #[.int .i64 k] 3)).cell? ⟨u.heap.size, 0, none⟩ = some (.int .i64 k) := by simp [go_sem]
       have hbk : w.heap.size + 1 + 1 + 1 ≠ u.heap.size := by have := hI1.size; omega
       clear hb hB hI1 hI hs0 hS0
       generalize u.alloc (.cells #[.int .i64 k] 3) = V at *
       generalize u.heap.size = bk at *)
  all_goals
    have x1 := hJ.x1
    have x2 := hJ.x2
    have x3 := hJ.x3
    have hFr := hF (w.heap.size + 1 + 1) (w.heap.size + 1) w.heap.size bk V hJ.env.sts ⟨x1, x2, x3, hkk⟩
    go_wp2_with fail
    refine hFr.mono ?_
    rintro e w2 ⟨rfl, hb2⟩
    have hkk2 := (hb2.cell (p := ⟨bk, 0, none⟩) (cell_lt hkk)).trans hkk
    have hJ2 := hJ.go hb2 (by have := hJ.size; omega)
    clear hFr hb2 hJ hkk x1 x2 x3 hF hK
    have x1 := hJ2.x1
    have x2 := hJ2.x2
    have x3 := hJ2.x3
    have hpm : (p : Int) ≤ ((p + m : Nat) : Int) := by omega
    have hpm2 : ((p + m : Nat) : Int) ≤ s.length := by omega
    generalize hq : p + m = q at *
    have HQ := Lib.hid hq
    clear hq
    have hne0 : w.heap.size + 1 + 1 + 1 ≠ w.heap.size := by omega
    have hne1 : w.heap.size + 1 + 1 ≠ w.heap.size := by omega
    go_upto_region 4 with fail
    go_region_held3 (fun v => v.cell? ⟨w.heap.size, 0, none⟩ = some (.int .i64 n) ∧ v.cell? ⟨w.heap.size + 1, 0, none⟩ = some (.string (bs s)) ∧ v.cell? ⟨w.heap.size + 1 + 1, 0, none⟩ = some (.int .i64 (p : Int)) ∧ v.cell? ⟨bk, 0, none⟩ = some (.int .i64 k))
      (first | go_keep)
      (first | (go_at_call_of 102 (Value.int IntKind.i64 k); (refine (hM _ (hJ2.env.go (by first | exact (Below.refl _ _).drew | exact Below.refl _ _))).mono ?_); rintro e u ⟨rfl, hb⟩; have hB := below_join (w := w2) (by first | exact (Below.refl _ _).drew | exact Below.refl _ _) hb; have hJ3 := hJ2.go hB (by have := hJ2.size; omega); have hkk3 := (hB.cell (p := ⟨bk, 0, none⟩) (cell_lt hkk2)).trans hkk2; have x1' := hJ3.x1; have x2' := hJ3.x2; have x3' := hJ3.x3; obtain ⟨y0, y1, y2, y3⟩ := hJ3.tk.cells; obtain ⟨f0, f1, f2, f3⟩ := hJ3.tk.fz))
    rename_i hHeld
    obtain ⟨_, _, xx1, _⟩ := hHeld
    have hP := hJ3.tk.put ⟨xk, xp, xt, xn⟩
    have hBe := below_put hJ3.below (show w.heap.size ≤ w.heap.size + 1 + 1 + 1 by omega) ⟨xk, xp, xt, xn⟩
    simp only at hP hBe
    clear hJ3 hJ2 hkk3 hkk2 x1 x2 x3 x1' x2' x3' y0 y1 y2 y3 f0 f1 f2 f3 hb hB hM
    generalize ((((u.setCell ⟨w.heap.size + 1 + 1 + 1, 0, none⟩ (.int .i64 xk)).setCell ⟨w.heap.size + 1 + 1 + 1, 1, none⟩ (.int .i64 (xp : Int))).setCell ⟨w.heap.size + 1 + 1 + 1, 2, none⟩ (.string (bs xt))).setCell ⟨w.heap.size + 1 + 1 + 1, 3, none⟩ (.int .i64 xn)) = V3 at *
    obtain ⟨y0, y1, y2, y3⟩ := hP.cells
    obtain ⟨f0, f1, f2, f3⟩ := hP.fz
    obtain ⟨z0, z1, z2, z3⟩ := (hP.at_ p).cells
    simp only at z0 z1 z2 z3
    go_wp2
    refine bodyPost_ret (v := .tuple #[.agg #[.int .i64 xk, .int .i64 (p : Int), .string (bs xt), .int .i64 xn], .int .i64 (q : Int), .bool b]) (by simp [results, Tryz.results82, go_sem, z0, z1, z2, z3]) rfl ⟨by rw [show ((p : Int) + (m : Int)) = (q : Int) by have := HQ.out; omega], ?_⟩
    exact below_put (hBe.setCell (p := ⟨w.heap.size + 1 + 1 + 1, 1, none⟩) (show w.heap.size ≤ w.heap.size + 1 + 1 + 1 by omega) _) (show w.heap.size ≤ w.heap.size + 1 + 1 + 1 by omega) ⟨xk, p, xt, xn⟩

theorem tokenAt_yes (n : Int) (s : List UInt8) (p : Nat) (w : World) (hE : Env w) (hp : p < s.length) (hl : s.length ≤ 1000) (g : Got) (hg : nextT n (s.drop p) = some g) :
    Calls Tryz.prog 82 #[.int .i64 n, .string (bs s), .int .i64 (p : Int)] w fun e w' => e = .returned (.tuple #[Tok.v ⟨g.kind, p, g.text, g.num⟩, .int .i64 ((p + g.len : Nat) : Int), .bool true]) ∧ Below w.heap.size w w' := by
  rw [drop_cons s p hp] at hg
  obtain ⟨h1, h2⟩ := (made_next n (s.getD p 0) (s.drop (p + 1))).1 g hg
  have := tokenAt_any n s p w hE hp hl _ _ _ _ _ rfl rfl rfl h1
  rw [h2] at this
  exact this
theorem tokenAt_no (n : Int) (s : List UInt8) (p : Nat) (w : World) (hE : Env w) (hp : p < s.length) (hl : s.length ≤ 1000) (hg : nextT n (s.drop p) = none) :
    Calls Tryz.prog 82 #[.int .i64 n, .string (bs s), .int .i64 (p : Int)] w fun e w' => (∃ x m, e = .returned (.tuple #[Tok.v x, .int .i64 m, .bool false])) ∧ Below w.heap.size w w' := by
  rw [drop_cons s p hp] at hg
  have h1 := (made_next n (s.getD p 0) (s.drop (p + 1))).2 hg
  refine (tokenAt_any n s p w hE hp hl _ _ _ (madeT n (kd n (s.getD p 0)) (candT n (s.getD p 0) (s.drop (p + 1)))).1 false rfl rfl rfl (Prod.ext rfl h1)).mono ?_
  rintro e w1 ⟨rfl, hb⟩
  exact ⟨⟨_, _, rfl⟩, hb⟩

end Go.Proofs.YthofogokpolhdaaGreatDoor.Toks

namespace Go.Proofs.YthofogokpolhdaaGreatDoor.Toks
open Go.RowKit Go.Shelf Go.Proofs.YthofogokpolhdaaGreatDoor.Ranges
open Go.Proofs.YthofogokpolhdaaGreatDoor.Style
attribute [local go_sem] Oper.semAt_some
set_option linter.unusedVariables false
set_option linter.unusedSimpArgs false

def encS (x : Tok × Nat) : Array Value := #[x.1.v, .int .i64 (x.2 : Int)]
/-- What comes next. -/
def GuardT (n : Int) (s : List UInt8) (pre : List (Tok × Nat)) (x : Tok × Nat) (V : World) : Prop := ∃ post, lexL n 0 s = pre ++ x :: post
/-- The boxes of a notation and a text. -/
structure SpI (lo : Nat) (V : World) (b1 b2 : Nat) (n : Int) (s : List UInt8) : Prop where
  x1 : V.cell? ⟨b1, 0, none⟩ = some (.string (bs s))
  x2 : V.cell? ⟨b2, 0, none⟩ = some (.int .i64 n)
  o1 : One V b1
  o2 : One V b2
  l1 : lo ≤ b1
  l2 : lo ≤ b2
  env : Env V
theorem SpI.kept {lo l : Nat} {V V' : World} {b1 b2 : Nat} {n : Int} {s : List UInt8} (h : SpI lo V b1 b2 n s) (hk : Kept lo l V V') : SpI lo V' b1 b2 n s := by
  have k1 := hk.one b1 h.l1 h.o1
  have k2 := hk.one b2 h.l2 h.o2
  exact ⟨cell_same h.x1 k1, cell_same h.x2 k2, h.o1.same k1, h.o2.same k2, h.l1, h.l2, h.env.kept hk⟩

set_option maxRecDepth 100000 in
set_option maxHeartbeats 4000000 in
theorem spans1_in (N l b1 b2 lo : Nat) (n : Int) (s : List UInt8) (V0 : World) (hN : 1 ≤ N) (hl : s.length ≤ 1000) (hC : SpI lo V0 b1 b2 n s)
    (J Jx : List (Tok × Nat) → World → Prop) (hJ : ∀ pre, Stays (J pre)) (hJx : ∀ pre, Stays (Jx pre))
    (hY : ∀ pre x V, J pre V → GuardT n s pre x V → YieldAt Fence.wide (N - 1) Tryz.prog l (encS x) V (RoundL J Jx (Kept lo l) pre x V))
    (W : World) (hW : Below V0.heap.size V0 W) (h0 : J [] W) :
    CallsIn Fence.wide N Tryz.prog 81 #[.func (.yield l) #[] #[], .pointer (some ⟨b1, 0, none⟩), .pointer (some ⟨b2, 0, none⟩)] W
      (Ended (fun xs => xs = lexL n 0 s) (fun pre => ∃ post, lexL n 0 s = pre ++ post) J Jx) := by
  have hK0 : Kept lo l V0 W := Kept.of hW
  have hCW := hC.kept hK0
  have x1 := hCW.x1
  have x2 := hCW.x2
  have HY := Lib.hid hY
  clear hY
  have hzi : ((bs s).size : Int) = (s.length : Int) := by rw [bs_size]
  have hli : (s.length : Int) ≤ 1000 := by omega
  have hA0 := At.start n s
  refine callsIn_of_wp Tryz.func81 rfl trivial ?_ rfl
  simp only [Tryz.ntmps81, List.size_toArray, List.length_cons, List.length_nil, Nat.reduceAdd, Nat.reduceSub, Array.replicate_succ, Array.replicate_zero, List.push_toArray, List.append_toArray, List.nil_append, List.cons_append]
  gi_wp2
  clear x1 x2
  gi_loopw [4] (fun x wr => ∃ (pre : List (Tok × Nat)) (p : Nat), x = .int .i64 (p : Int) ∧ At n s pre p ∧ J pre wr ∧ Kept lo l V0 wr)
    (fun x _ => (s.length - intOf x).toNat)
  case atStart => exact ⟨[], 0, rfl, hA0, h0, hK0⟩
  case round =>
    clear hK0 h0 hW hCW hA0
    obtain ⟨pre, p, rfl, hA, hj, hK⟩ := hrel
    have hCr := hC.kept hK
    have x1 := hCr.x1
    have x2 := hCr.x2
    have hpl := hA.le
    by_cases hpn : p < s.length
    · have hpi : (p : Int) < s.length := by omega
      cases hg : nextT n (s.drop p) with
      | none =>
        have hcl := tokenAt_no n s p wr hCr.env hpn hl hg
        have HS := Lib.hid (hA.stop hg)
        clear hg
        gi_wp2
        refine ⟨trivial, (callsIn_wide.2 hcl).mono ?_⟩
        rintro e W2 ⟨⟨x, m, rfl⟩, hb2⟩
        simp only [Tok.v]
        gi_wp2
        refine ⟨fun _ h => (by cases h), ?_⟩
        gi_wp2
        refine bodyPost_ret (results_none rfl _ _ _) rfl ?_
        exact ⟨⟨_, rfl⟩, .inl ⟨pre, HS.out.symm, hJ _ _ _ hj (hb2.alloc hb2.size _)⟩⟩
      | some g =>
        have hcl := tokenAt_yes n s p wr hCr.env hpn hl g hg
        have hA2 := hA.step hg
        have hgl := next_len hg
        rw [List.length_drop] at hgl
        have HG : Hid (GuardT n s pre (⟨g.kind, p, g.text, g.num⟩, p + g.len) wr) := ⟨_, by rw [hA.eq, lexL_some hg]⟩
        clear hg
        obtain ⟨q, hq⟩ : ∃ q, p + g.len = q := ⟨_, rfl⟩
        rw [hq] at hcl hA2 HG
        have HQ : Hid (p < q ∧ q ≤ s.length) := ⟨by omega, by omega⟩
        clear hq hgl
        obtain ⟨gk, gt, gn, gl⟩ := g
        simp only [Tok.v] at hcl hA2 HG
        gi_wp2
        refine ⟨trivial, (callsIn_wide.2 hcl).mono ?_⟩
        rintro e W2 ⟨rfl, hb2⟩
        have hB3 : Below wr.heap.size wr (W2.alloc (.cells #[.int .i64 gk, .int .i64 (p : Int), .string (bs gt), .int .i64 gn] 71)) := hb2.alloc hb2.size _
        obtain ⟨fn, tmps, assign, body, hy, hR⟩ := HY.out pre (⟨gk, p, gt, gn⟩, q) _ (hJ pre _ _ hj hB3) HG.out
        unfold encS at hy
        simp only [Tok.v] at hy
        have HR := Lib.hid hR
        clear hR
        gi_wp2
        refine HR.out.mono ?_
        rintro e W3 (⟨rfl, hJ3, hK3⟩ | ⟨rfl, hJx3, _⟩)
        · gi_wp2
          go_roundw
          case rel => exact ⟨_, q, rfl, hA2, hJ3, (hK.trans (Kept.of hB3)).trans hK3⟩
          case measure => simp only [intOf]; have := HQ.out; omega
        · gi_wp2
          refine bodyPost_ret (results_none rfl _ _ _) rfl ?_
          exact ⟨⟨_, rfl⟩, .inr ⟨_, ⟨_, hA2.eq⟩, hJx3⟩⟩
    · have hpe : p = s.length := by omega
      have hpi : ¬ (p : Int) < s.length := by omega
      subst hpe
      have HS := Lib.hid hA.done
      gi_wp2
      go_end0
      exact ⟨⟨_, rfl⟩, .inl ⟨pre, HS.out.symm, hj⟩⟩

/-- A function that tells tokens, in a world. -/
def SeqS (enc : Tok × Nat → Array Value) (g : Nat) (lb : Array Value) (n : Int) (s : List UInt8) (lo : Nat) (w : World) : Prop :=
  ∀ N, 2 ≤ N → SeqL Fence.wide N Tryz.prog g lb enc (GuardT n s) (Kept lo) (fun xs => xs = lexL n 0 s) (fun pre => ∃ post, lexL n 0 s = pre ++ post) w
theorem seq_spans {lo : Nat} {V : World} {b1 b2 : Nat} {n : Int} {s : List UInt8} (hl : s.length ≤ 1000) (h : SpI lo V b1 b2 n s) : SeqS encS 81 #[.pointer (some ⟨b1, 0, none⟩), .pointer (some ⟨b2, 0, none⟩)] n s lo V :=
  fun N hN l J Jx W hW _ hJ hJx _ _ hY h0 => spans1_in N l b1 b2 lo n s V (by omega) hl h J Jx hJ hJx hY W hW h0

set_option maxRecDepth 100000 in
theorem spans_any (n : Int) (s : List UInt8) (w : World) (hE : Env w) :
    Calls Tryz.prog 47 #[.int .i64 n, .string (bs s)] w fun e w' => e = .returned (.func (.func 81) #[] #[.pointer (some ⟨w.heap.size + 1, 0, none⟩), .pointer (some ⟨w.heap.size, 0, none⟩)]) ∧ Below w.heap.size w w' ∧ SpI w.heap.size w' (w.heap.size + 1) w.heap.size n s := by
  have hu : Below w.heap.size w ((w.alloc (.cells #[.int .i64 n] 3)).alloc (.cells #[.string (bs s)] 9)) := by go_grown
  have hE2 := hE.go hu
  go_enter Tryz.func47, Tryz.ntmps47
  go_wp2
  go_ret
  refine ⟨rfl, hu, ⟨by simp [go_sem], by simp [go_sem], ⟨by simp [go_sem], by simp [go_sem]⟩, ⟨by simp [go_sem], by simp [go_sem]⟩, by omega, by omega, hE2⟩⟩

/-- What Lex tells. -/
def lexErr (n : Int) (s : List UInt8) : Int := if isN n = false then 1 else if 255 < s.length then 12 else if endL 0 (lexL n 0 s) < s.length then 14 else 0
def lexAt (n : Int) (s : List UInt8) : Nat := if isN n = false ∨ 255 < s.length then 0 else endL 0 (lexL n 0 s)
def toks (n : Int) (s : List UInt8) : List Tok := (lexL n 0 s).map Prod.fst
def lexToks (n : Int) (s : List UInt8) : List Tok := if lexErr n s = 0 then toks n s else []
structure LexEnd (n : Int) (s : List UInt8) (w : World) (e : Ending) (w' : World) : Prop where
  out : ∃ o c, e = .returned (.tuple #[.slice o (lexToks n s).length c, .int .i64 (lexAt n s : Int), .int .i64 (lexErr n s)]) ∧ ToksAt w' (.slice o (lexToks n s).length c) (lexToks n s) ∧ Above w.heap.size (.slice o (lexToks n s).length c)
  below : Below w.heap.size w w'

set_option maxRecDepth 100000 in
set_option maxHeartbeats 2000000 in
theorem lex_none (n : Int) (s : List UInt8) (w : World) (hE : Env w) (hn : isN n = false) : Calls Tryz.prog 29 #[.int .i64 n, .string (bs s)] w (LexEnd n s w) := by
  have he : lexErr n s = 1 := by unfold lexErr; rw [if_pos hn]
  have ha : lexAt n s = 0 := by unfold lexAt; rw [if_pos (.inl hn)]
  have ht : lexToks n s = [] := by unfold lexToks; rw [he]; rfl
  have hO := of_any n w hE.sts
  rw [hn] at hO
  have HF : Hid (∀ w', Below w.heap.size w w' → LexEnd n s w (.returned (.tuple #[.slice none 0 0, .int .i64 0, .int .i64 1])) w') := by
    intro w' hb
    refine ⟨⟨none, 0, ?_, ?_, ?_⟩, hb⟩
    · rw [ht, ha, he]; rfl
    · rw [ht]; exact .inl ⟨rfl, rfl⟩
    · intro a m c e; cases e
  generalize stZ n = x at *
  obtain ⟨f, m, d, p, op, cl⟩ := x
  simp only [St.v] at hO
  clear he ha ht hn
  go_enter Tryz.func29, Tryz.ntmps29
  go_wp2_with fail
  refine hO.mono ?_
  rintro e w1 ⟨rfl, hb1⟩
  go_wp2
  refine bodyPost_ret (v := .tuple #[.slice none 0 0, .int .i64 0, .int .i64 1]) (by simp [results, Tryz.results29, go_sem]) rfl (HF.out _ (hb1.alloc hb1.size _))

set_option maxRecDepth 100000 in
set_option maxHeartbeats 2000000 in
theorem lex_long (n : Int) (s : List UInt8) (w : World) (hE : Env w) (hn : isN n = true) (hl : 255 < s.length) (hl2 : s.length ≤ 1000) : Calls Tryz.prog 29 #[.int .i64 n, .string (bs s)] w (LexEnd n s w) := by
  have he : lexErr n s = 12 := by unfold lexErr; rw [if_neg (by rw [hn]; simp), if_pos hl]
  have ha : lexAt n s = 0 := by unfold lexAt; rw [if_pos (.inr hl)]
  have ht : lexToks n s = [] := by unfold lexToks; rw [he]; rfl
  have hzi : ((bs s).size : Int) = (s.length : Int) := by rw [bs_size]
  have hli : (255 : Int) < s.length := by omega
  have hO := of_any n w hE.sts
  rw [hn] at hO
  have HF : Hid (∀ w', Below w.heap.size w w' → LexEnd n s w (.returned (.tuple #[.slice none 0 0, .int .i64 0, .int .i64 12])) w') := by
    intro w' hb
    refine ⟨⟨none, 0, ?_, ?_, ?_⟩, hb⟩
    · rw [ht, ha, he]; rfl
    · rw [ht]; exact .inl ⟨rfl, rfl⟩
    · intro a m c e; cases e
  generalize stZ n = x at *
  obtain ⟨f, m, d, p, op, cl⟩ := x
  simp only [St.v] at hO
  clear he ha ht hn
  go_enter Tryz.func29, Tryz.ntmps29
  go_wp2_with fail
  refine hO.mono ?_
  rintro e w1 ⟨rfl, hb1⟩
  go_wp2
  refine bodyPost_ret (v := .tuple #[.slice none 0 0, .int .i64 0, .int .i64 12]) (by simp [results, Tryz.results29, go_sem]) rfl (HF.out _ (hb1.alloc hb1.size _))

theorem SliceAt.putObj {W : World} {s : Value} {k n : Nat} {f : Nat → Nat → Value} (h : SliceAt W s k n f) (hk : 0 < k) (hz : n = 0 → s = .slice none 0 0) {l : Nat} {o : Obj} (o' : Obj) (hl : W.heap[l]? = some o) (ho : o.isCells = false) : SliceAt (W.putObj l o') s k n f := by
  rcases h with h | ⟨b, c, hs, hc, hm, hg⟩
  · exact .inl h
  · by_cases h0 : n = 0
    · exact .inl ⟨h0, hz h0⟩
    · have hc0 := hg.1 0 (by omega) 0 hk
      obtain ⟨_, hbl⟩ := cell_put (o' := o') hc0 hl ho
      exact .inr ⟨b, c, hs, hc, hm.block hbl, hg.block (by simp [World.putObj]) hbl⟩
theorem SliceAt.setFar {W : World} {s : Value} {k n B : Nat} {f : Nat → Nat → Value} (h : SliceAt W s k n f) (ha : Above B s) (b i : Nat) (hb : b < B) (u : Value) : SliceAt (W.setCell ⟨b, i, none⟩ u) s k n f := by
  rcases h with h | ⟨b', c, hs, hc, hm, hg⟩
  · exact .inl h
  · have hbb : B ≤ b' := ha _ _ _ hs
    exact .inr ⟨b', c, hs, hc, hm.set _ _ _, hg.other b i u (by omega)⟩

theorem book_none {W : World} {k j : Nat} {o : Obj} (h : W.heap[k]? = some o) (ho : o.isCells = false) : W.cell? ⟨k, j, none⟩ = none := by
  cases hc : W.cell? ⟨k, j, none⟩ with
  | none => rfl
  | some v => exact absurd rfl (cell_put (o' := o) hc h ho).1
/-- Boxes of a row of tokens, and of a number, while a range goes; V: the world where it began. -/
structure LxI (w V : World) (b : Nat) (o : Option Addr) (c : Nat) (L : List Tok) (r : Value) (W : World) : Prop where
  x1 : W.cell? ⟨b, 0, none⟩ = some (.slice o L.length c)
  x2 : W.cell? ⟨b + 1, 0, none⟩ = some r
  f1 : W.frozen? ⟨b, 0, none⟩ = false
  f2 : W.frozen? ⟨b + 1, 0, none⟩ = false
  at_ : ToksAt W (.slice o L.length c) L
  above : Above V.heap.size (.slice o L.length c)
  nz : L.length = 0 → Value.slice o L.length c = .slice none 0 0
  below : Below w.heap.size w W
  size : V.heap.size ≤ W.heap.size
  lo : w.heap.size ≤ b ∧ b + 1 < V.heap.size
theorem LxI.go {w V : World} {b : Nat} {o : Option Addr} {c : Nat} {L : List Tok} {r : Value} {W W' : World} (h : LxI w V b o c L r W) (hb : Below W.heap.size W W') : LxI w V b o c L r W' := by
  have hz := h.size
  have hlo := h.lo
  exact ⟨(hb.cell (p := ⟨b, 0, none⟩) (cell_lt h.x1)).trans h.x1, (hb.cell (p := ⟨b + 1, 0, none⟩) (cell_lt h.x2)).trans h.x2, (hb.frozen (p := ⟨b, 0, none⟩) (cell_lt h.x1)).trans h.f1, (hb.frozen (p := ⟨b + 1, 0, none⟩) (cell_lt h.x2)).trans h.f2, h.at_.go hb, h.above, h.nz, h.below.trans (hb.mono h.below.size), Nat.le_trans hz hb.size, hlo⟩
theorem LxI.put {w V : World} {b : Nat} {o : Option Addr} {c : Nat} {L : List Tok} {r : Value} {W : World} (h : LxI w V b o c L r W) {l : Nat} {ob ob' : Obj} (hl : W.heap[l]? = some ob) (ho : ob.isCells = false) (hv : V.heap.size ≤ l) : LxI w V b o c L r (W.putObj l ob') := by
  have hlo := h.lo
  have k1 := (cell_put (o' := ob') h.x1 hl ho).2
  have k2 := (cell_put (o' := ob') h.x2 hl ho).2
  exact ⟨cell_same h.x1 k1, cell_same h.x2 k2, (frozen_of_block k1 0).trans h.f1, (frozen_of_block k2 0).trans h.f2, SliceAt.putObj h.at_ (by omega) h.nz _ hl ho, h.above, h.nz, below_putObj h.below l (by omega) _, by have := h.size; simp [World.putObj]; omega, hlo⟩
/-- What a round does to the row's box: the world behind the append, then the two stores. -/
theorem LxI.more {w V : World} {b : Nat} {o : Option Addr} {c : Nat} {L : List Tok} {r : Value} {W : World} (h : LxI w V b o c L r W) (hl : L.length ≤ 1000) (q : Tok) :
    ∃ X o' c', (∀ ty, (Builtin.append_ #[58, 58] ty #[.slice o L.length c, .slice (some ⟨W.heap.size, 0, none⟩) 1 1]).run Tryz.prog (W.alloc (.cells #[.int .i64 q.kind, .int .i64 (q.pos : Int), .string (bs q.text), .int .i64 q.num] 71)) = .ok (.slice o' (L.length + 1) c') X) ∧ X.cell? ⟨b, 0, none⟩ = some (.slice o L.length c) ∧ X.frozen? ⟨b, 0, none⟩ = false ∧ X.cell? ⟨b + 1, 0, none⟩ = some r ∧ X.frozen? ⟨b + 1, 0, none⟩ = false ∧ LxI w V b o' c' (L ++ [q]) r (X.setCell ⟨b, 0, none⟩ (.slice o' (L.length + 1) c')) ∧ KeepsFrom V.heap.size W (X.setCell ⟨b, 0, none⟩ (.slice o' (L.length + 1) c')) ∧ ∀ lo, b + 1 ≤ lo → 3 ≤ b → Kept lo (V.heap.size + 1) W (X.setCell ⟨b, 0, none⟩ (.slice o' (L.length + 1) c')) := by
  have hlo := h.lo
  have hz := h.size
  have hti : TI V.heap.size W (.slice o L.length c) L W := ⟨h.at_, h.above, Below.refl _ _⟩
  obtain ⟨X, sl, hr, ⟨o', c', rfl⟩, hT, hsz, hk⟩ := hti.more hz hl q
  have y1 := (hT.below.cell (p := ⟨b, 0, none⟩) (show b < V.heap.size by omega)).trans h.x1
  have y2 := (hT.below.cell (p := ⟨b + 1, 0, none⟩) hlo.2).trans h.x2
  have g1 := (hT.below.frozen (p := ⟨b, 0, none⟩) (show b < V.heap.size by omega)).trans h.f1
  have g2 := (hT.below.frozen (p := ⟨b + 1, 0, none⟩) hlo.2).trans h.f2
  refine ⟨X, o', c', hr, y1, g1, y2, g2, ⟨?_, ?_, ?_, ?_, ?_, ?_, ?_, ?_, ?_, hlo⟩, ⟨?_, ?_⟩, ?_⟩
  · rw [List.length_append]; exact World.cell?_setCell_same _ _ _ y1
  · rw [World.cell?_setCell_other _ _ _ _ (by intro hh; injection hh with e1 e2; omega)]; exact y2
  · rw [World.frozen?_setCell]; exact g1
  · rw [World.frozen?_setCell]; exact g2
  · have := SliceAt.setFar hT.at_ hT.above b 0 (by omega) (.slice o' (L.length + 1) c')
    rw [List.length_append]
    show SliceAt _ _ _ (L ++ [q]).length _
    exact this
  · rw [List.length_append]; exact hT.above
  · intro e; rw [List.length_append] at e; simp at e
  · exact (h.below.trans (hT.below.mono (by omega))).setCell (p := ⟨b, 0, none⟩) hlo.1 _
  · rw [World.size_setCell]; omega
  · rw [World.size_setCell]; omega
  · intro k ob hB hkk ho
    exact (Below.heap_setCell X ⟨b, 0, none⟩ _ k (by show k ≠ b; omega)).trans ((hk k (Array.getElem?_eq_some_iff.1 hkk).1 (book_none hkk ho)).trans hkk)
  · intro lo hlo2 h3
    refine ⟨by rw [World.size_setCell]; omega, fun k h1 h2 => ?_, fun k h1 h2 => ?_, fun k ob h1 h2 h4 => ?_⟩
    · exact (Below.heap_setCell X ⟨b, 0, none⟩ _ k (by show k ≠ b; omega)).trans (hT.below.block k (by omega))
    · exact (Below.heap_setCell X ⟨b, 0, none⟩ _ k (by show k ≠ b; omega)).trans (hk k h2.lt h2.2)
    · exact (Below.heap_setCell X ⟨b, 0, none⟩ _ k (by show k ≠ b; omega)).trans ((hk k (Array.getElem?_eq_some_iff.1 h2).1 (book_none h2 h4)).trans h2)
/-- The number's box is written. -/
theorem LxI.set {w V : World} {b : Nat} {o : Option Addr} {c : Nat} {L : List Tok} {r : Value} {W : World} (h : LxI w V b o c L r W) (u : Value) : LxI w V b o c L u (W.setCell ⟨b + 1, 0, none⟩ u) ∧ (∀ W0, KeepsFrom V.heap.size W0 W → KeepsFrom V.heap.size W0 (W.setCell ⟨b + 1, 0, none⟩ u)) ∧ ∀ lo W0, b + 2 ≤ lo → 3 ≤ b → Kept lo (V.heap.size + 1) W0 W → Kept lo (V.heap.size + 1) W0 (W.setCell ⟨b + 1, 0, none⟩ u) := by
  have hlo := h.lo
  refine ⟨⟨?_, World.cell?_setCell_same _ _ _ h.x2, ?_, ?_, SliceAt.setFar h.at_ h.above (b + 1) 0 (by omega) u, h.above, h.nz, h.below.setCell (p := ⟨b + 1, 0, none⟩) (show w.heap.size ≤ b + 1 by omega) u, by rw [World.size_setCell]; exact h.size, hlo⟩, ?_, ?_⟩
  · rw [World.cell?_setCell_other _ _ _ _ (by intro hh; injection hh with e1 e2; omega)]; exact h.x1
  · rw [World.frozen?_setCell]; exact h.f1
  · rw [World.frozen?_setCell]; exact h.f2
  · intro W0 hk
    refine ⟨by rw [World.size_setCell]; exact hk.size, fun k ob hB hkk ho => (Below.heap_setCell W ⟨b + 1, 0, none⟩ u k (by show k ≠ b + 1; omega)).trans (hk.same k ob hB hkk ho)⟩
  · intro lo W0 hl h3 hk
    exact ⟨by rw [World.size_setCell]; exact hk.size, fun k h1 h2 => (Below.heap_setCell W ⟨b + 1, 0, none⟩ u k (by show k ≠ b + 1; omega)).trans (hk.glob k h1 h2), fun k h1 h2 => (Below.heap_setCell W ⟨b + 1, 0, none⟩ u k (by show k ≠ b + 1; omega)).trans (hk.one k h1 h2), fun k ob h1 h2 h4 => (Below.heap_setCell W ⟨b + 1, 0, none⟩ u k (by show k ≠ b + 1; omega)).trans (hk.book k ob h1 h2 h4)⟩

end Go.Proofs.YthofogokpolhdaaGreatDoor.Toks

namespace Go.Proofs.YthofogokpolhdaaGreatDoor.Toks
open Go.RowKit Go.Shelf Go.Proofs.YthofogokpolhdaaGreatDoor.Ranges
open Go.Proofs.YthofogokpolhdaaGreatDoor.Style
attribute [local go_sem] Oper.semAt_some
set_option linter.unusedVariables false
set_option linter.unusedSimpArgs false

theorem wpListIn_app {F : Fence} {n : Nat} {P : Program} {w : World} {ops : Array Oper} {rest : List Oper} {o : Oper} {a : Act} {Q : Exit → Act → World → Prop} (hg : o.guard = none) (s x : Operand) (t tx : TypeId)
    (ho : o.op = .call { callee := .builtin .append, args := #[s, x], argTypes := #[t, tx] }) {v : Value} {V : World} (hr : ∀ ty, (Builtin.append_ #[t, tx] ty #[a.eval s, a.eval x]).run P w = .ok v V)
    (h : wpListIn F n P ops Q rest (a.put o.dst v) V) : wpListIn F n P ops Q (o :: rest) a w := by
  refine wpListIn_plain hg fun K hK' => ?_
  unfold Oper.wpIn
  refine ⟨?_, ?_⟩
  · simp [Oper.about, ho, resolve, Target.leads, Sem.run_pure]
  · rw [Oper.semAt_plain F _ _ (by rw [ho]; intro c hc'; cases hc')]
    simp [execOp, ho, resolve, invoke, builtin, hr, Result.andThen]
    exact hK' _ _ h
/-- A piece of code that does not panic. -/
theorem wpIn_calm {F : Fence} {n : Nat} {P : Program} {c : Code} {Q : Exit → Act → World → Prop} {a : Act} {w : World} (h : c.wpIn F n P (Exit.then (fun a' w' => Q .normal a' w') (fun _ _ _ => False)) a w) : c.wpIn F n P Q a w :=
  wpIn_mono h (by intro e a' w' hh; cases e <;> first | exact hh | exact hh.elim)
theorem TokBox.bears (B b : Nat) (x : Tok) : Bears B (fun W => TokBox W b x) := fun W l o o' h hl ho hc _ => by
  have k := (cell_put (o' := o') h.cells.1 ho hc).2
  exact Grid.block h (by simp [World.putObj]) k
theorem guard_len {n : Int} {s : List UInt8} {pre : List (Tok × Nat)} {x : Tok × Nat} {V : World} (h : GuardT n s pre x V) : pre.length < s.length := by
  obtain ⟨post, h⟩ := h
  have := lex_len n s
  rw [h, List.length_append, List.length_cons] at this
  omega

set_option maxRecDepth 100000 in
set_option maxHeartbeats 4000000 in
theorem lex_in (n : Int) (s : List UInt8) (w : World) (hE : Env w) (hn : isN n = true) (hl : s.length ≤ 255) : CallsIn Fence.wide 9 Tryz.prog 29 #[.int .i64 n, .string (bs s)] w (LexEnd n s w) := by
  have hzi : ((bs s).size : Int) = (s.length : Int) := by rw [bs_size]
  have hli : (s.length : Int) ≤ 255 := by omega
  have hO := of_any n w hE.sts
  rw [hn] at hO
  generalize stZ n = x at *
  obtain ⟨f, m, d, p, op, cl⟩ := x
  simp only [St.v] at hO
  refine callsIn_of_wp_marks Tryz.func29 rfl trivial ?_ rfl
  simp only [Tryz.ntmps29, List.size_toArray, List.length_cons, List.length_nil, Nat.reduceAdd, Nat.reduceSub, Array.replicate_succ, Array.replicate_zero, List.push_toArray, List.append_toArray, List.nil_append, List.cons_append]
  gi_wp2
  refine ⟨trivial, (callsIn_wide.2 hO).mono ?_⟩
  rintro e w1 ⟨rfl, hb1⟩
  gi_wp2
  have hu : Below w.heap.size w (((w1.alloc (.cells #[.bool f, .int .u8 m, .int .u8 d, .int .u8 p, .int .u8 op, .int .u8 cl] 43)).alloc (.cells #[.slice none 0 0] 58)).alloc (.cells #[.int .i64 0] 3)) := ((hb1.alloc hb1.size _).alloc (by rw [World.size_alloc]; have := hb1.size; omega) _).alloc (by rw [World.size_alloc, World.size_alloc]; have := hb1.size; omega) _
  have c1 : (((w1.alloc (.cells #[.bool f, .int .u8 m, .int .u8 d, .int .u8 p, .int .u8 op, .int .u8 cl] 43)).alloc (.cells #[.slice none 0 0] 58)).alloc (.cells #[.int .i64 0] 3)).cell? ⟨w1.heap.size + 1, 0, none⟩ = some (.slice none 0 0) := by simp [go_sem]
  have c2 : (((w1.alloc (.cells #[.bool f, .int .u8 m, .int .u8 d, .int .u8 p, .int .u8 op, .int .u8 cl] 43)).alloc (.cells #[.slice none 0 0] 58)).alloc (.cells #[.int .i64 0] 3)).cell? ⟨w1.heap.size + 1 + 1, 0, none⟩ = some (.int .i64 0) := by simp [go_sem]
  have d1 : (((w1.alloc (.cells #[.bool f, .int .u8 m, .int .u8 d, .int .u8 p, .int .u8 op, .int .u8 cl] 43)).alloc (.cells #[.slice none 0 0] 58)).alloc (.cells #[.int .i64 0] 3)).frozen? ⟨w1.heap.size + 1, 0, none⟩ = false := by simp [go_sem]
  have d2 : (((w1.alloc (.cells #[.bool f, .int .u8 m, .int .u8 d, .int .u8 p, .int .u8 op, .int .u8 cl] 43)).alloc (.cells #[.slice none 0 0] 58)).alloc (.cells #[.int .i64 0] 3)).frozen? ⟨w1.heap.size + 1 + 1, 0, none⟩ = false := by simp [go_sem]
  have hsz : (((w1.alloc (.cells #[.bool f, .int .u8 m, .int .u8 d, .int .u8 p, .int .u8 op, .int .u8 cl] 43)).alloc (.cells #[.slice none 0 0] 58)).alloc (.cells #[.int .i64 0] 3)).heap.size ≤ w1.heap.size + 1 + 1 + 1 ∧ w1.heap.size + 1 + 1 < (((w1.alloc (.cells #[.bool f, .int .u8 m, .int .u8 d, .int .u8 p, .int .u8 op, .int .u8 cl] 43)).alloc (.cells #[.slice none 0 0] 58)).alloc (.cells #[.int .i64 0] 3)).heap.size := by simp only [World.size_alloc]; omega
  generalize (((w1.alloc (.cells #[.bool f, .int .u8 m, .int .u8 d, .int .u8 p, .int .u8 op, .int .u8 cl] 43)).alloc (.cells #[.slice none 0 0] 58)).alloc (.cells #[.int .i64 0] 3)) = W1 at *
  refine ⟨trivial, (callsIn_wide.2 (spans_any n s W1 (hE.go hu))).mono ?_⟩
  rintro e V ⟨rfl, hbV, hSp⟩
  have hw1 := hb1.size
  have hE3 : 3 ≤ w.heap.size := hE.err.1
  have hVs := hbV.size
  have hI0 : LxI w V (w1.heap.size + 1) none 0 [] (.int .i64 0) V := ⟨(hbV.cell (p := ⟨w1.heap.size + 1, 0, none⟩) (cell_lt c1)).trans c1, (hbV.cell (p := ⟨w1.heap.size + 1 + 1, 0, none⟩) (cell_lt c2)).trans c2, (hbV.frozen (p := ⟨w1.heap.size + 1, 0, none⟩) (cell_lt c1)).trans d1, (hbV.frozen (p := ⟨w1.heap.size + 1 + 1, 0, none⟩) (cell_lt c2)).trans d2, .inl ⟨rfl, rfl⟩, fun a m c e => (by cases e), fun _ => rfl, hu.trans (hbV.mono hu.size), Nat.le_refl _, ⟨by omega, by omega⟩⟩
  have hseq := (seq_spans (by omega) hSp) 8 (by omega)
  generalize hbx : w1.heap.size + 1 = bx at *
  have HBX := Lib.hid hbx
  clear hbx c1 c2 d1 d2 hO
  gi_wp2
  have eg := enters_of Tryz.func81 (by kernel_rfl) rfl
  have hbz : 3 ≤ bx := by have := HBX.out; omega
  refine range_own rfl (by omega) (gf := 81) (lb := #[.pointer (some ⟨W1.heap.size + 1, 0, none⟩), .pointer (some ⟨W1.heap.size, 0, none⟩)]) rfl trivial eg hseq (fun _ => rfl) (fun h k => h.trans k)
    (fun W o o' ho hc => Kept.put W _ o' (Nat.le_refl _) (by omega) ho hc) (fun W W' hs hb => Kept.of hb)
    (fun pre x W W' h hb => h) (fun pre x W l o o' h _ _ _ _ => h)
    (fun pre W => ∃ o c, LxI w V bx o c (pre.map Prod.fst) (.int .i64 (endL 0 pre : Int)) W)
    (fun cd pre W => False)
    (fun pre W W' h hb => by obtain ⟨o, c, h⟩ := h; exact ⟨o, c, h.go hb⟩)
    (fun pre W l o o' h hl hob hc _ => by obtain ⟨o1, c, h⟩ := h; exact ⟨o1, c, h.put hob hc hl⟩)
    (fun cd pre W W' h hb => h.elim) (fun cd pre W l o o' h _ _ _ _ => h.elim)
    ⟨none, 0, hI0⟩
    (fun x W0 => { tmps := #[.int .i64 n, .string (bs s), undef, undef, .slice none 0 0, .int .i64 0, .int .i64 0, .pointer (some ⟨w1.heap.size, 0, none⟩), .bool true, .pointer (some ⟨bx, 0, none⟩), .pointer (some ⟨bx + 1, 0, none⟩), .pointer (some ⟨W0.heap.size, 0, none⟩), .int .i64 (x.2 : Int),
      .tuple #[.agg #[.bool f, .int .u8 m, .int .u8 d, .int .u8 p, .int .u8 op, .int .u8 cl], .bool true], .int .i64 n, .tuple #[.agg #[.bool f, .int .u8 m, .int .u8 d, .int .u8 p, .int .u8 op, .int .u8 cl], .bool true], .agg #[.bool f, .int .u8 m, .int .u8 d, .int .u8 p, .int .u8 op, .int .u8 cl],
      .bool true, .bool true, .bool false, .string (bs s), .int .i64 (s.length : Int), .bool (decide (255 < (s.length : Int))), .int .i64 n, .string (bs s), .func (.func 81) #[] #[.pointer (some ⟨W1.heap.size + 1, 0, none⟩), .pointer (some ⟨W1.heap.size, 0, none⟩)], x.1.v, .int .i64 (x.2 : Int),
      undef, undef, undef, undef, undef, undef, undef, undef, undef, undef, undef, undef], defers := [] })
    (fun x W0 W => TokBox W W0.heap.size x.1) (fun x W0 => TokBox.bears _ _ _) ?assign ?body ?done ?stop
  case assign =>
    rintro l pre ⟨⟨k, q, tx, v⟩, en⟩ W KK hI hG hK
    have HK := hK (W.alloc (.cells #[.int .i64 k, .int .i64 (q : Int), .string (bs tx), .int .i64 v] 71)) ((Below.refl _ _).alloc (Nat.le_refl _) _) (TokBox.new W ⟨k, q, tx, v⟩ _)
    clear hK hI hG
    simp only [encS, Tok.v] at HK ⊢
    gi_wp2
    exact HK
  case body =>
    rintro l pre ⟨⟨k, q, tx, v⟩, en⟩ W0 W hs0 ⟨o, c, hI⟩ hG hR
    have hgl := guard_len hG
    have HP : Hid (endL 0 (pre ++ [((⟨k, q, tx, v⟩ : Tok), en)]) = en) := endL_app _ _ _
    have HM : Hid ((pre ++ [((⟨k, q, tx, v⟩ : Tok), en)]).map Prod.fst = pre.map Prod.fst ++ [⟨k, q, tx, v⟩]) := by show _ = _; rw [List.map_append]; rfl
    have hpl : (pre.map Prod.fst).length ≤ 1000 := by rw [List.length_map]; omega
    clear hG hgl
    generalize pre.map Prod.fst = L at *
    dsimp only at hR
    obtain ⟨y0, y1, y2, y3⟩ := hR.cells
    dsimp only at y0 y1 y2 y3
    have x1 := hI.x1
    obtain ⟨X, o', c', happ, z1, g1, z2, g2, hL2, hkf, hkp⟩ := hI.more hpl ⟨k, q, tx, v⟩
    dsimp only at happ
    obtain ⟨hL3, hkf3, hkp3⟩ := hL2.set (.int .i64 (en : Int))
    have hkf4 := hkf3 _ hkf
    have hkp4 := hkp3 W1.heap.size W (by omega) hbz (hkp _ (by omega) hbz)
    have q2 := hL2.x2
    have qf2 := hL2.f2
    dsimp only [Tok.v]
    gi_wp2_with (first | (gi_at_builtin; refine wpListIn_app rfl _ _ 58 58 rfl happ ?_))
    refine ⟨hkf4, hkp4, o', c', ?_⟩
    rw [HM.out, HP.out]
    exact hL3
  case done =>
    intro xs V' hSx hI hD
    obtain ⟨o, c, hI⟩ := hI
    subst hSx
    have hD2 : V'.drew.heap[V.heap.size]? = some (.deferred (some [])) := hD
    have hI2 := (hI.go (Below.refl _ _).drew).put (ob' := .deferred none) hD2 rfl (Nat.le_refl _)
    have hen := lex_end n s
    have x1 := hI.x1
    have x2 := hI.x2
    have HT : Hid (toks n s = (lexL n 0 s).map Prod.fst) := rfl
    have HA : Hid (lexAt n s = endL 0 (lexL n 0 s)) := by
      show _ = _
      unfold lexAt; rw [if_neg (by rw [hn]; simp; omega)]
    by_cases hlt : endL 0 (lexL n 0 s) < s.length
    · have HE : Hid (lexErr n s = 14) := by
        show _ = _
        unfold lexErr; rw [if_neg (by rw [hn]; simp), if_neg (by omega), if_pos hlt]
      have HL : Hid (lexToks n s = []) := by
        show _ = _
        unfold lexToks; rw [HE.out]; rfl
      have hlti : ((endL 0 (lexL n 0 s) : Nat) : Int) < s.length := by omega
      have hF : LexEnd n s w (.returned (.tuple #[.slice none 0 0, .int .i64 (endL 0 (lexL n 0 s) : Int), .int .i64 14])) (V'.drew.putObj V.heap.size (.deferred none)) := by
        refine ⟨⟨none, 0, ?_, ?_, ?_⟩, hI2.below⟩
        · rw [HL.out, HA.out, HE.out]; rfl
        · rw [HL.out]; exact .inl ⟨rfl, rfl⟩
        · intro a m c e; cases e
      have HF := Lib.hid hF
      clear hF HA HE HL HT hI0 hI hI2 hseq eg
      generalize endL 0 (lexL n 0 s) = en at *
      gi_wp2
      refine wpIn_calm ?_
      gi_region_with (fail)
      all_goals
        gi_wp2
        refine ⟨by simp, .inl ⟨_, _, rfl, run_takeDeferred hD2, ?_⟩⟩
        exact ⟨.tuple #[.slice none 0 0, .int .i64 (en : Int), .int .i64 14], by simp [results, Tryz.f29, go_sem], HF.out⟩
    · have HE : Hid (lexErr n s = 0) := by
        show _ = _
        unfold lexErr; rw [if_neg (by rw [hn]; simp), if_neg (by omega), if_neg hlt]
      have HL : Hid (lexToks n s = (lexL n 0 s).map Prod.fst) := by
        show _ = _
        unfold lexToks; rw [HE.out]; rfl
      have hlti : ¬ ((endL 0 (lexL n 0 s) : Nat) : Int) < s.length := by omega
      have hF : LexEnd n s w (.returned (.tuple #[.slice o ((lexL n 0 s).map Prod.fst).length c, .int .i64 (endL 0 (lexL n 0 s) : Int), .int .i64 0])) (V'.drew.putObj V.heap.size (.deferred none)) := by
        refine ⟨⟨o, c, ?_, ?_, ?_⟩, hI2.below⟩
        · rw [HL.out, HA.out, HE.out]
        · rw [HL.out]; exact hI2.at_
        · rw [HL.out]; exact hI2.above.mono (by have := hI2.lo; omega)
      have HF := Lib.hid hF
      clear hF HA HE HL HT hI0 hI hI2 hseq eg
      generalize ((lexL n 0 s).map Prod.fst).length = ll at *
      generalize endL 0 (lexL n 0 s) = en at *
      gi_wp2
      refine wpIn_calm ?_
      gi_region_with (fail)
      all_goals
        gi_wp2
        refine ⟨by simp, .inl ⟨_, _, rfl, run_takeDeferred hD2, ?_⟩⟩
        exact ⟨.tuple #[.slice o ll c, .int .i64 (en : Int), .int .i64 0], by simp [results, Tryz.f29, go_sem], HF.out⟩
  case stop =>
    intro cd pre V' _ h _
    exact h.elim

theorem lex_any (n : Int) (s : List UInt8) (w : World) (hE : Env w) (hl : s.length ≤ 1000) : Calls Tryz.prog 29 #[.int .i64 n, .string (bs s)] w (LexEnd n s w) := by
  cases hn : isN n with
  | false => exact lex_none n s w hE hn
  | true =>
    by_cases h : 255 < s.length
    · exact lex_long n s w hE hn h hl
    · exact callsIn_wide.1 (lex_in n s w hE hn (by omega))

end Go.Proofs.YthofogokpolhdaaGreatDoor.Toks

namespace Go.Proofs.YthofogokpolhdaaGreatDoor.Toks
open Go.RowKit
open Go.Proofs.YthofogokpolhdaaGreatDoor.Style
set_option linter.unusedVariables false
set_option linter.unusedSimpArgs false

theorem ex_one : lexErr 1 [109, 109, 111, 108, 47, 108, 123, 120, 32, 121, 125] = 0 ∧ lexAt 1 [109, 109, 111, 108, 47, 108, 123, 120, 32, 121, 125] = 11 ∧ lexToks 1 [109, 109, 111, 108, 47, 108, 123, 120, 32, 121, 125] = [⟨1, 0, [109, 109, 111, 108], 0⟩, ⟨5, 4, [47], 0⟩, ⟨1, 5, [108], 0⟩, ⟨9, 6, [120, 32, 121], 0⟩] := by decide +kernel
theorem ex_two : lexErr 1 [109, 32] = 14 ∧ lexAt 1 [109, 32] = 1 ∧ lexToks 1 [109, 32] = [] := by decide +kernel

end Go.Proofs.YthofogokpolhdaaGreatDoor.Toks

namespace Go.Proofs.YthofogokpolhdaaGreatDoor.Toks
open Go.RowKit Go.Shelf Go.Proofs.YthofogokpolhdaaGreatDoor.Ranges
open Go.Proofs.YthofogokpolhdaaGreatDoor.Style
attribute [local go_sem] Oper.semAt_some
set_option linter.unusedVariables false
set_option linter.unusedSimpArgs false

def encE (x : Tok × Nat) : Array Value := #[x.1.v]
/-- A round's contract holds at every depth, and inside another round. -/
theorem round_wide {m m' : Nat} {P : Program} {l l' : Nat} {f : FuncId} {tmps : Array Value} {assign body : Code} {w : World} {R : Ending → World → Prop} (h : RoundIn Fence.wide m P l f tmps assign body w R) : RoundIn (Fence.wide.inRound l') m' P l f tmps assign body w R :=
  ⟨h.1, fun c cs _ => h.2 c cs (room_wide _)⟩

set_option maxRecDepth 100000 in
set_option maxHeartbeats 4000000 in
theorem each1_at (N l b1 b2 lo lo0 : Nat) (n : Int) (s : List UInt8) (V0 : World) (hN : 2 ≤ N) (hl : s.length ≤ 1000) (hC : SpI lo0 V0 b1 b2 n s) (hlo : lo ≤ V0.heap.size)
    (J Jx : List (Tok × Nat) → World → Prop) (hJ : ∀ pre, Stays (J pre)) (hJx : ∀ pre, Stays (Jx pre)) (hO : ∀ pre, Over l (J pre)) (hOx : ∀ pre, Over l (Jx pre))
    (hY : ∀ pre x V, J pre V → GuardT n s pre x V → YieldAt Fence.wide (N - 1) Tryz.prog l (encE x) V (RoundL J Jx (Kept lo l) pre x V))
    (W : World) (hW : Below V0.heap.size V0 W) (hlW : l < W.heap.size) (h0 : J [] W) :
    CallsIn Fence.wide N Tryz.prog 52 #[.func (.yield l) #[] #[], .pointer (some ⟨b2, 0, none⟩), .pointer (some ⟨b1, 0, none⟩)] W
      (Ended (fun xs => xs = lexL n 0 s) (fun pre => ∃ post, lexL n 0 s = pre ++ post) J Jx) := by
  have hK0 : Kept lo0 l V0 W := Kept.of hW
  have hWs := hW.size
  have hCW := hC.kept hK0
  have x1 := hCW.x1
  have x2 := hCW.x2
  have hE := hCW.env
  have hE3 : 3 ≤ W.heap.size := hE.err.1
  have hu : Below W.heap.size W (W.alloc (.cells #[.func (.yield l) #[] #[]] 107)) := (Below.refl _ _).alloc (Nat.le_refl _) _
  have y1 := (hu.cell (p := ⟨b1, 0, none⟩) (cell_lt x1)).trans x1
  have y2 := (hu.cell (p := ⟨b2, 0, none⟩) (cell_lt x2)).trans x2
  have yv : (W.alloc (.cells #[.func (.yield l) #[] #[]] 107)).cell? ⟨W.heap.size, 0, none⟩ = some (.func (.yield l) #[] #[]) := by simp [go_sem]
  have yo : One (W.alloc (.cells #[.func (.yield l) #[] #[]] 107)) W.heap.size := ⟨by simp [go_sem], by simp [go_sem]⟩
  have hz1 : W.heap.size < (W.alloc (.cells #[.func (.yield l) #[] #[]] 107)).heap.size := by rw [World.size_alloc]; omega
  refine callsIn_of_wp_marks Tryz.func52 rfl trivial ?_ rfl
  simp only [Tryz.ntmps52, List.size_toArray, List.length_cons, List.length_nil, Nat.reduceAdd, Nat.reduceSub, Array.replicate_succ, Array.replicate_zero, List.push_toArray, List.append_toArray, List.nil_append, List.cons_append]
  clear x1 x2
  gi_wp2
  generalize W.alloc (.cells #[.func (.yield l) #[] #[]] 107) = Wa at *
  refine ⟨trivial, fun _ => by omega, (callsIn_wide.2 (spans_any n s Wa (hE.go hu))).mono ?_⟩
  rintro e V1 ⟨rfl, hbV, hSp⟩
  have hVs := hbV.size
  have yv1 := (hbV.cell (p := ⟨W.heap.size, 0, none⟩) hz1).trans yv
  have yo1 := yo.same (hbV.block W.heap.size hz1)
  have hJ0 := hJ [] _ _ (hJ [] _ _ h0 hu) hbV
  have HY := Lib.hid hY
  clear hY hE h0 hCW hK0 y1 y2 yv yo
  gi_wp2
  have eg := enters_of Tryz.func81 (by kernel_rfl) rfl
  refine range_own rfl (by omega) (gf := 81) (lb := #[.pointer (some ⟨Wa.heap.size + 1, 0, none⟩), .pointer (some ⟨Wa.heap.size, 0, none⟩)]) rfl trivial eg (Kp := Kept Wa.heap.size) (S := fun xs => xs = lexL n 0 s) (Sp := fun pre => ∃ post, lexL n 0 s = pre ++ post) (encs := encS) (G := GuardT n s)
    (fun l' J' Jx' W' hW' _ hJ' hJx' _ _ hY' h0' => spans1_in (N - 1) l' _ _ Wa.heap.size n s V1 (by omega) hl hSp J' Jx' hJ' hJx' hY' W' hW' h0') (fun _ => rfl) (fun h k => h.trans k)
    (fun W o o' ho hc => Kept.put W _ o' (Nat.le_refl _) (by omega) ho hc) (fun W W' hs hb => Kept.of hb)
    (fun pre x W W' h hb => h) (fun pre x W l o o' h _ _ _ _ => h)
    (fun pre Wr => J pre Wr ∧ Wr.cell? ⟨W.heap.size, 0, none⟩ = some (.func (.yield l) #[] #[]) ∧ One Wr W.heap.size)
    (fun cd pre Wr => cd = .ret ∧ Jx pre Wr)
    (fun pre X X' h hb => ⟨hJ pre X X' h.1 hb, (hb.cell (p := ⟨W.heap.size, 0, none⟩) (cell_lt h.2.1)).trans h.2.1, h.2.2.same (hb.block _ (cell_lt h.2.1))⟩)
    (fun pre X k o o' h hk ho hc hc' => ⟨hO pre X k o o' h.1 (by omega) ho hc hc', cell_same h.2.1 (cell_put h.2.1 ho hc).2, h.2.2.same (cell_put h.2.1 ho hc).2⟩)
    (fun cd pre X X' h hb => ⟨h.1, hJx pre X X' h.2 hb⟩) (fun cd pre X k o o' h hk ho hc hc' => ⟨h.1, hOx pre X k o o' h.2 (by omega) ho hc hc'⟩)
    ⟨hJ0, yv1, yo1⟩
    (fun x W0 => { tmps := #[.func (.yield l) #[] #[], .pointer (some ⟨b2, 0, none⟩), .pointer (some ⟨b1, 0, none⟩), .pointer (some ⟨W.heap.size, 0, none⟩), .pointer (some ⟨W0.heap.size, 0, none⟩), .int .i64 n, .string (bs s), .func (.func 81) #[] #[.pointer (some ⟨Wa.heap.size + 1, 0, none⟩), .pointer (some ⟨Wa.heap.size, 0, none⟩)], x.1.v, .int .i64 (x.2 : Int), undef, undef, undef, undef], defers := [] })
    (fun x W0 W => TokBox W W0.heap.size x.1) (fun x W0 => TokBox.bears _ _ _) ?assign ?body ?done ?stop
  case assign =>
    rintro l' pre ⟨⟨k, q, tx, v⟩, en⟩ X KK hI hG hK
    have HK := hK (X.alloc (.cells #[.int .i64 k, .int .i64 (q : Int), .string (bs tx), .int .i64 v] 71)) ((Below.refl _ _).alloc (Nat.le_refl _) _) (TokBox.new X ⟨k, q, tx, v⟩ _)
    clear hK hI hG
    simp only [encS, Tok.v] at HK ⊢
    gi_wp2
    exact HK
  case body =>
    rintro l' pre ⟨⟨k, q, tx, v⟩, en⟩ W0 X hs0 ⟨hI, c1, c2⟩ hG hR
    obtain ⟨fn, tmps, assign, body, hy, hRd⟩ := HY.out pre (⟨k, q, tx, v⟩, en) X hI hG
    dsimp only at hR
    obtain ⟨y0, y1, y2, y3⟩ := hR.cells
    dsimp only at y0 y1 y2 y3
    simp only [encE, Tok.v] at hy ⊢
    have HRd := Lib.hid hRd
    clear hRd
    gi_wp2
    refine ⟨fun h => (by cases h), (round_wide HRd.out).mono ?_⟩
    have hb1 : ∀ W3, Kept lo l X W3 → KeepsFrom V1.heap.size X W3 := fun W3 h => ⟨h.size, fun k o hB hk ho => h.book k o (by omega) hk ho⟩
    rintro e W3 (⟨rfl, hJ3, hK3⟩ | ⟨rfl, hJx3, hK3⟩)
    · have hkf := hb1 _ hK3
      have hc1 := cell_same c1 (hK3.one _ (by omega) c2)
      have hc2 := c2.same (hK3.one _ (by omega) c2)
      gi_wp2
      exact ⟨hkf, hK3.narrow (by omega) (by omega), hJ3, hc1, hc2⟩
    · have hkf := hb1 _ hK3
      gi_wp2
      exact ⟨hkf, hK3.narrow (by omega) (by omega), rfl, hJx3⟩
  case done =>
    intro xs V' hSx hI hD
    gi_wp2
    refine ⟨by simp, .inl ⟨_, _, rfl, run_takeDeferred hD, ?_⟩⟩
    exact ⟨_, results_none rfl _ _ _, ⟨⟨_, rfl⟩, .inl ⟨xs, hSx, hO xs _ _ _ _ hI.1 (by omega) hD rfl rfl⟩⟩⟩
  case stop =>
    intro cd pre V' hSp' hI hD
    obtain ⟨rfl, hI⟩ := hI
    gi_wp2
    refine ⟨by simp, .inl ⟨_, _, rfl, run_takeDeferred hD, ?_⟩⟩
    exact ⟨_, results_none rfl _ _ _, ⟨⟨_, rfl⟩, .inr ⟨pre, hSp', hOx pre _ _ _ _ hI (by omega) hD rfl rfl⟩⟩⟩

/-- Rounds may write boxes that stand behind lo0, as long as those from lo on stay. -/
theorem seq_each_at {lo lo0 : Nat} {V : World} {b1 b2 : Nat} {n : Int} {s : List UInt8} (hl : s.length ≤ 1000) (h : SpI lo0 V b1 b2 n s) (hlo : lo ≤ V.heap.size) : SeqS encE 52 #[.pointer (some ⟨b2, 0, none⟩), .pointer (some ⟨b1, 0, none⟩)] n s lo V :=
  fun N hN l J Jx W hW hlW hJ hJx hO hOx hY h0 => each1_at N l b1 b2 lo lo0 n s V hN hl h hlo J Jx hJ hJx hO hOx hY W hW hlW h0

theorem seq_each {lo : Nat} {V : World} {b1 b2 : Nat} {n : Int} {s : List UInt8} (hl : s.length ≤ 1000) (h : SpI lo V b1 b2 n s) : SeqS encE 52 #[.pointer (some ⟨b2, 0, none⟩), .pointer (some ⟨b1, 0, none⟩)] n s lo V :=
  fun N hN l J Jx W hW hlW hJ hJx hO hOx hY h0 => each1_at N l b1 b2 lo lo n s V hN hl h (by have := h.l1; have := h.o1.lt; omega) J Jx hJ hJx hO hOx hY W hW hlW h0

set_option maxRecDepth 100000 in
theorem each_any (n : Int) (s : List UInt8) (w : World) (hE : Env w) :
    Calls Tryz.prog 32 #[.int .i64 n, .string (bs s)] w fun e w' => e = .returned (.func (.func 52) #[] #[.pointer (some ⟨w.heap.size, 0, none⟩), .pointer (some ⟨w.heap.size + 1, 0, none⟩)]) ∧ Below w.heap.size w w' ∧ SpI w.heap.size w' (w.heap.size + 1) w.heap.size n s ∧ w'.frozen? ⟨w.heap.size, 0, none⟩ = false := by
  have hu : Below w.heap.size w ((w.alloc (.cells #[.int .i64 n] 3)).alloc (.cells #[.string (bs s)] 9)) := by go_grown
  have hE2 := hE.go hu
  go_enter Tryz.func32, Tryz.ntmps32
  go_wp2
  go_ret
  refine ⟨rfl, hu, ⟨by simp [go_sem], by simp [go_sem], ⟨by simp [go_sem], by simp [go_sem]⟩, ⟨by simp [go_sem], by simp [go_sem]⟩, by omega, by omega, hE2⟩, by simp [go_sem]⟩

theorem not_fn (lb : Array Value) (V : World) : (binOp BinOp.eql 73 (.func (.func 52) #[] lb) .nilFunc).run Tryz.prog V = .ok (.bool false) V := by kernel_rfl

/-- What the law's each tells. -/
structure EachEnd (n : Int) (s : List UInt8) (w : World) (e : Ending) (w' : World) : Prop where
  out : ∃ o c, e = .returned (.slice o (toks n s).length c) ∧ ToksAt w' (.slice o (toks n s).length c) (toks n s) ∧ Above w.heap.size (.slice o (toks n s).length c)
  below : Below w.heap.size w w'

end Go.Proofs.YthofogokpolhdaaGreatDoor.Toks

namespace Go.Proofs.YthofogokpolhdaaGreatDoor.Toks
open Go.RowKit Go.Shelf Go.Proofs.YthofogokpolhdaaGreatDoor.Ranges
open Go.Proofs.YthofogokpolhdaaGreatDoor.Style
attribute [local go_sem] Oper.semAt_some
set_option linter.unusedVariables false
set_option linter.unusedSimpArgs false

/-- The box of a row of tokens, while a range goes; V: the world where it began. -/
structure RwI (w V : World) (b : Nat) (o : Option Addr) (c : Nat) (L : List Tok) (W : World) : Prop where
  x1 : W.cell? ⟨b, 0, none⟩ = some (.slice o L.length c)
  f1 : W.frozen? ⟨b, 0, none⟩ = false
  at_ : ToksAt W (.slice o L.length c) L
  above : Above V.heap.size (.slice o L.length c)
  nz : L.length = 0 → Value.slice o L.length c = .slice none 0 0
  below : Below w.heap.size w W
  size : V.heap.size ≤ W.heap.size
  lo : w.heap.size ≤ b ∧ b < V.heap.size
theorem RwI.go {w V : World} {b : Nat} {o : Option Addr} {c : Nat} {L : List Tok} {W W' : World} (h : RwI w V b o c L W) (hb : Below W.heap.size W W') : RwI w V b o c L W' := by
  have hz := h.size
  have hlo := h.lo
  exact ⟨(hb.cell (p := ⟨b, 0, none⟩) (cell_lt h.x1)).trans h.x1, (hb.frozen (p := ⟨b, 0, none⟩) (cell_lt h.x1)).trans h.f1, h.at_.go hb, h.above, h.nz, h.below.trans (hb.mono h.below.size), Nat.le_trans hz hb.size, hlo⟩
theorem RwI.put {w V : World} {b : Nat} {o : Option Addr} {c : Nat} {L : List Tok} {W : World} (h : RwI w V b o c L W) {l : Nat} {ob ob' : Obj} (hl : W.heap[l]? = some ob) (ho : ob.isCells = false) (hv : V.heap.size ≤ l) : RwI w V b o c L (W.putObj l ob') := by
  have hlo := h.lo
  have k1 := (cell_put (o' := ob') h.x1 hl ho).2
  exact ⟨cell_same h.x1 k1, (frozen_of_block k1 0).trans h.f1, SliceAt.putObj h.at_ (by omega) h.nz _ hl ho, h.above, h.nz, below_putObj h.below l (by omega) _, by have := h.size; simp [World.putObj]; omega, hlo⟩
theorem RwI.more {w V : World} {b : Nat} {o : Option Addr} {c : Nat} {L : List Tok} {W : World} (h : RwI w V b o c L W) (hl : L.length ≤ 1000) (q : Tok) :
    ∃ X o' c', (∀ ty, (Builtin.append_ #[58, 58] ty #[.slice o L.length c, .slice (some ⟨W.heap.size, 0, none⟩) 1 1]).run Tryz.prog (W.alloc (.cells #[.int .i64 q.kind, .int .i64 (q.pos : Int), .string (bs q.text), .int .i64 q.num] 71)) = .ok (.slice o' (L.length + 1) c') X) ∧ X.cell? ⟨b, 0, none⟩ = some (.slice o L.length c) ∧ X.frozen? ⟨b, 0, none⟩ = false ∧ RwI w V b o' c' (L ++ [q]) (X.setCell ⟨b, 0, none⟩ (.slice o' (L.length + 1) c')) ∧ KeepsFrom V.heap.size W (X.setCell ⟨b, 0, none⟩ (.slice o' (L.length + 1) c')) ∧ ∀ lo, b + 1 ≤ lo → 3 ≤ b → Kept lo (V.heap.size + 1) W (X.setCell ⟨b, 0, none⟩ (.slice o' (L.length + 1) c')) := by
  have hlo := h.lo
  have hz := h.size
  have hti : TI V.heap.size W (.slice o L.length c) L W := ⟨h.at_, h.above, Below.refl _ _⟩
  obtain ⟨X, sl, hr, ⟨o', c', rfl⟩, hT, hsz, hk⟩ := hti.more hz hl q
  have y1 := (hT.below.cell (p := ⟨b, 0, none⟩) hlo.2).trans h.x1
  have g1 := (hT.below.frozen (p := ⟨b, 0, none⟩) hlo.2).trans h.f1
  refine ⟨X, o', c', hr, y1, g1, ⟨?_, ?_, ?_, ?_, ?_, ?_, ?_, hlo⟩, ⟨?_, ?_⟩, ?_⟩
  · rw [List.length_append]; exact World.cell?_setCell_same _ _ _ y1
  · rw [World.frozen?_setCell]; exact g1
  · have := SliceAt.setFar hT.at_ hT.above b 0 (by omega) (.slice o' (L.length + 1) c')
    rw [List.length_append]
    show SliceAt _ _ _ (L ++ [q]).length _
    exact this
  · rw [List.length_append]; exact hT.above
  · intro e; rw [List.length_append] at e; simp at e
  · exact (h.below.trans (hT.below.mono (by omega))).setCell (p := ⟨b, 0, none⟩) hlo.1 _
  · rw [World.size_setCell]; omega
  · rw [World.size_setCell]; omega
  · intro k ob hB hkk ho
    exact (Below.heap_setCell X ⟨b, 0, none⟩ _ k (by show k ≠ b; omega)).trans ((hk k (Array.getElem?_eq_some_iff.1 hkk).1 (book_none hkk ho)).trans hkk)
  · intro lo hlo2 h3
    refine ⟨by rw [World.size_setCell]; omega, fun k h1 h2 => ?_, fun k h1 h2 => ?_, fun k ob h1 h2 h4 => ?_⟩
    · exact (Below.heap_setCell X ⟨b, 0, none⟩ _ k (by show k ≠ b; omega)).trans (hT.below.block k (by omega))
    · exact (Below.heap_setCell X ⟨b, 0, none⟩ _ k (by show k ≠ b; omega)).trans (hk k h2.lt h2.2)
    · exact (Below.heap_setCell X ⟨b, 0, none⟩ _ k (by show k ≠ b; omega)).trans ((hk k (Array.getElem?_eq_some_iff.1 h2).1 (book_none h2 h4)).trans h2)

set_option maxRecDepth 100000 in
set_option maxHeartbeats 4000000 in
theorem appendSeq_in (n : Int) (s : List UInt8) (w : World) (b1 b2 lo0 : Nat) (hSp0 : SpI lo0 w b1 b2 n s) (hl : s.length ≤ 1000) :
    CallsIn Fence.wide 9 Tryz.prog 51 #[.slice none 0 0, .func (.func 52) #[] #[.pointer (some ⟨b2, 0, none⟩), .pointer (some ⟨b1, 0, none⟩)]] w (EachEnd n s w) := by
  have hE := hSp0.env
  have hE3 : 3 ≤ w.heap.size := hE.err.1
  have hu : Below w.heap.size w (w.alloc (.cells #[.slice none 0 0] 58)) := (Below.refl _ _).alloc (Nat.le_refl _) _
  have c1 : (w.alloc (.cells #[.slice none 0 0] 58)).cell? ⟨w.heap.size, 0, none⟩ = some (.slice none 0 0) := by simp [go_sem]
  have d1 : (w.alloc (.cells #[.slice none 0 0] 58)).frozen? ⟨w.heap.size, 0, none⟩ = false := by simp [go_sem]
  have hsz : (w.alloc (.cells #[.slice none 0 0] 58)).heap.size = w.heap.size + 1 := by rw [World.size_alloc]
  have hSp : SpI lo0 (w.alloc (.cells #[.slice none 0 0] 58)) b1 b2 n s := hSp0.kept (l := 0) (Kept.of hu)
  have hnf := not_fn
  refine callsIn_of_wp_marks Tryz.func51 rfl trivial ?_ rfl
  simp only [Tryz.ntmps51, List.size_toArray, List.length_cons, List.length_nil, Nat.reduceAdd, Nat.reduceSub, Array.replicate_succ, Array.replicate_zero, List.push_toArray, List.append_toArray, List.nil_append, List.cons_append]
  gi_wp2
  generalize w.alloc (.cells #[.slice none 0 0] 58) = V at *
  have hI0 : RwI w V w.heap.size none 0 [] V := ⟨c1, d1, .inl ⟨rfl, rfl⟩, fun a m c e => (by cases e), fun _ => rfl, hu, Nat.le_refl _, ⟨Nat.le_refl _, by omega⟩⟩
  have hseq := (seq_each_at hl hSp (Nat.le_refl V.heap.size)) 8 (by omega)
  have eg := enters_of Tryz.func52 (by kernel_rfl) rfl
  clear c1 d1
  refine range_own rfl (by omega) (gf := 52) (lb := #[.pointer (some ⟨b2, 0, none⟩), .pointer (some ⟨b1, 0, none⟩)]) rfl trivial eg hseq (fun _ => rfl) (fun h k => h.trans k)
    (fun W o o' ho hc => Kept.put W _ o' (Nat.le_refl _) (by omega) ho hc) (fun W W' hs hb => Kept.of hb)
    (fun pre x W W' h hb => h) (fun pre x W l o o' h _ _ _ _ => h)
    (fun pre W => ∃ o c, RwI w V w.heap.size o c (pre.map Prod.fst) W)
    (fun cd pre W => False)
    (fun pre W W' h hb => by obtain ⟨o, c, h⟩ := h; exact ⟨o, c, h.go hb⟩)
    (fun pre W l o o' h hl hob hc _ => by obtain ⟨o1, c, h⟩ := h; exact ⟨o1, c, h.put hob hc hl⟩)
    (fun cd pre W W' h hb => h.elim) (fun cd pre W l o o' h _ _ _ _ => h.elim)
    ⟨none, 0, hI0⟩
    (fun x W0 => { tmps := #[.slice none 0 0, .func (.func 52) #[] #[.pointer (some ⟨b2, 0, none⟩), .pointer (some ⟨b1, 0, none⟩)], .pointer (some ⟨w.heap.size, 0, none⟩), undef, .slice none 0 0, .pointer (some ⟨W0.heap.size, 0, none⟩),
      .func (.func 52) #[] #[.pointer (some ⟨b2, 0, none⟩), .pointer (some ⟨b1, 0, none⟩)], x.1.v, undef, undef, undef, undef, undef], defers := [] })
    (fun x W0 W => TokBox W W0.heap.size x.1) (fun x W0 => TokBox.bears _ _ _) ?assign ?body ?done ?stop
  case assign =>
    rintro l pre ⟨⟨k, q, tx, v⟩, en⟩ W KK hI hG hK
    have HK := hK (W.alloc (.cells #[.int .i64 k, .int .i64 (q : Int), .string (bs tx), .int .i64 v] 71)) ((Below.refl _ _).alloc (Nat.le_refl _) _) (TokBox.new W ⟨k, q, tx, v⟩ _)
    clear hK hI hG
    simp only [encE, Tok.v] at HK ⊢
    gi_wp2
    exact HK
  case body =>
    rintro l pre ⟨⟨k, q, tx, v⟩, en⟩ W0 W hs0 ⟨o, c, hI⟩ hG hR
    have hgl := guard_len hG
    have HM : Hid ((pre ++ [((⟨k, q, tx, v⟩ : Tok), en)]).map Prod.fst = pre.map Prod.fst ++ [⟨k, q, tx, v⟩]) := by show _ = _; rw [List.map_append]; rfl
    have hpl : (pre.map Prod.fst).length ≤ 1000 := by rw [List.length_map]; omega
    clear hG hgl
    generalize pre.map Prod.fst = L at *
    dsimp only at hR
    obtain ⟨y0, y1, y2, y3⟩ := hR.cells
    dsimp only at y0 y1 y2 y3
    have x1 := hI.x1
    obtain ⟨X, o', c', happ, z1, g1, hL2, hkf, hkp⟩ := hI.more hpl ⟨k, q, tx, v⟩
    dsimp only at happ
    have hkp4 := hkp V.heap.size (by omega) hE3
    dsimp only [Tok.v]
    gi_wp2_with (first | (gi_at_builtin; refine wpListIn_app rfl _ _ 58 58 rfl happ ?_))
    refine ⟨hkf, hkp4, o', c', ?_⟩
    rw [HM.out]
    exact hL2
  case done =>
    intro xs V' hSx hI hD
    obtain ⟨o, c, hI⟩ := hI
    subst hSx
    have hI2 := hI.put (ob' := .deferred none) hD rfl (Nat.le_refl _)
    have x1 := hI.x1
    have hF : EachEnd n s w (.returned (.slice o ((lexL n 0 s).map Prod.fst).length c)) (V'.putObj V.heap.size (.deferred none)) :=
      ⟨⟨o, c, rfl, hI2.at_, hI2.above.mono (by have := hI2.lo; omega)⟩, hI2.below⟩
    have HF := Lib.hid hF
    clear hF hI0 hI hI2 hseq eg
    generalize ((lexL n 0 s).map Prod.fst).length = ll at *
    gi_wp2
    refine ⟨by simp, .inl ⟨_, _, rfl, run_takeDeferred hD, ?_⟩⟩
    exact ⟨.slice o ll c, by simp [results, Tryz.f51, go_sem], HF.out⟩
  case stop =>
    intro cd pre V' _ h _
    exact h.elim

set_option maxRecDepth 100000 in
theorem collect_any (n : Int) (s : List UInt8) (w : World) (b1 b2 lo0 : Nat) (hSp0 : SpI lo0 w b1 b2 n s) (hl : s.length ≤ 1000) :
    Calls Tryz.prog 31 #[.func (.func 52) #[] #[.pointer (some ⟨b2, 0, none⟩), .pointer (some ⟨b1, 0, none⟩)]] w (EachEnd n s w) := by
  have hA := callsIn_wide.1 (appendSeq_in n s w b1 b2 lo0 hSp0 hl)
  go_enter Tryz.func31, Tryz.ntmps31
  go_wp2_with fail
  refine hA.mono ?_
  rintro e w1 ⟨⟨o, c, rfl, hT, hab⟩, hb⟩
  have HF := Lib.hid (show EachEnd n s w (.returned (.slice o (toks n s).length c)) w1 from ⟨⟨o, c, rfl, hT, hab⟩, hb⟩)
  clear hT hab hb hA
  generalize (toks n s).length = ll at *
  go_wp2_with fail
  refine bodyPost_ret (v := .slice o ll c) (by simp [results, Tryz.results31, go_sem]) rfl HF.out

end Go.Proofs.YthofogokpolhdaaGreatDoor.Toks

