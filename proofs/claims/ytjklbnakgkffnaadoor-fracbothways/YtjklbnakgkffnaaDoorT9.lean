/-
  The walk of FracBothWays' own function: it tells true.
-/
import Derived.Test.YtjklbnakgkffnaaDoorT8
import Derived.Test.YtjklbnakgkffnaaDoorF9
import Derived.RegionTactic
import Derived.BigRegion
import Derived.ChangeAlike
namespace Go.Proofs.YtjklbnakgkffnaaDoor.Texts
open Go.RowKit
open Go.Proofs.YtjklbnakgkffnaaDoor.Whole
open Go.Proofs.YtjklbnakgkffnaaDoor.Frac
set_option linter.unusedVariables false
set_option linter.unusedSimpArgs false

/-- A string of one byte, of a slice whose cell holds it. -/
theorem byte_of (u : World) (b : Nat) (x : Int) (h : u.cell? ⟨b, 0, none⟩ = some (.int .u8 x)) : (convert 79 9 (.slice (some ⟨b, 0, none⟩) 1 1)).run Tryd.prog u = .ok (.string (bs [UInt8.ofNat x.toNat])) u := by
  refine run_convert_bytes_arg _ 79 5 (by kernel_rfl) (by kernel_rfl) b 0 1 1 [x] rfl ?_ 9 (by kernel_rfl)
  intro i hi
  have h0 : i = 0 := by omega
  subst h0
  exact h

theorem text_len (n d t : Int) (h1 : n ≤ 9223372036854775807) (h2 : d ≤ 9223372036854775807) (r : rightB n d t = true) : (textL n d t).length ≤ 100 := by
  obtain ⟨x1, x2, x3, x4, x5⟩ := right_fine h1 h2 r
  have a := Lib.itoa_length_le n (by omega) (by omega)
  have b := Lib.itoa_length_le d (by omega) (by omega)
  have c := Lib.itoa_length_le t (by omega) (by omega)
  unfold textL
  rw [List.length_append, List.length_append]
  split <;> split <;> simp only [List.length_nil, List.length_cons] <;> omega

/-- What is read without an error is told again as the same text. -/
theorem readG_e (s : List UInt8) (h : (readG s).e = 0) : textF (readG s).n (readG s).d (readG s).t = s := by
  unfold readG at h ⊢
  by_cases hc : textF (cand s).1 (cand s).2.1 (cand s).2.2 = s
  · rw [if_pos hc]; exact hc
  · rw [if_neg hc] at h; simp at h
theorem readG_le (s : List UInt8) : (readG s).n ≤ 9223372036854775807 ∧ (readG s).d ≤ 9223372036854775807 := by
  unfold readG
  split
  · exact ⟨numI_le _, numI_le _⟩
  · exact ⟨by decide, by decide⟩

set_option maxRecDepth 100000 in
set_option maxHeartbeats 2000000 in
theorem both_short (n d t : Int) (s : List UInt8) (p : Int) (c : Int) (w : World) (hE : Env w) (h1 : n ≤ 9223372036854775807) (h2 : d ≤ 9223372036854775807) (r : rightB n d t = true) (hs : s.length ≤ 60) (hp0 : -9223372036854775808 ≤ p) (hp1 : p ≤ 9223372036854775807) (hc0 : 0 ≤ c) (hc1 : c ≤ 255) :
    Calls Tryd.prog 17 #[.agg #[.int .i64 n, .int .i64 d, .int .i64 t], .string (bs s), .int .i64 p, .int .u8 c] w fun e w' => e = .returned (.bool true) ∧ Below w.heap.size w w' := by
  have hA := BoxAt.new w n d t
  have HF : Hid (textF n d t = textL n d t) := by show textF n d t = _; unfold textF; rw [if_pos r]
  have HG : Hid (readG (textL n d t) = ⟨n, d, t, 0⟩) := (read_right n d t h1 h2 r).1
  have HN : Hid (textL n d t ≠ []) := text_ne n d t
  have hl : (textL n d t).length ≤ 100 := text_len n d t h1 h2 r
  have hl0 : 0 < (textL n d t).length := List.length_pos_iff.2 HN.out
  have hz : (bs (textL n d t)).size = (textL n d t).length := bs_size _
  go_enter Tryd.func17, Tryd.ntmps17
  go_wp2_with fail
  refine (awake2_yes _ (hE.below hA.1).1).mono ?_
  rintro e w1 ⟨rfl, hb⟩
  replace hA := hA.below hb
  clear hb
  obtain ⟨hB, c0, c1, c2, cz⟩ := id hA
  go_wp2_with fail
  refine (text_any n d t _ (hE.below hA.1) h1 h2).mono ?_
  rintro e w2 ⟨rfl, hb⟩
  rw [HF.out]
  replace hA := hA.below hb
  clear hb hB c0 c1 c2 cz HF
  generalize textL n d t = T at *
  obtain ⟨hB, c0, c1, c2, cz⟩ := id hA
  go_wp2_with fail
  refine (read_any T _ (hE.below hA.1) (by omega)).mono ?_
  rintro e w3 ⟨rfl, hb⟩
  rw [HG.out]; unfold Got.v
  replace hA := hA.below hb
  have hA0 := hA
  have lB := LiesF.new w3 n d t
  have hZ := hA.2.2.2.2
  replace hA := hA.below (v' := w3.alloc (.cells #[.int .i64 n, .int .i64 d, .int .i64 t] 24)) (by go_grown)
  clear hb hB c0 c1 c2 cz hA0
  obtain ⟨hB, c0, c1, c2, cz⟩ := id hA
  obtain ⟨b0, b1, b2, bz⟩ := id lB
  have hL : (0 : Int) < (T.length : Int) := by omega
  have m1 : -(T.length : Int) < p.tmod T.length := Int.lt_tmod_of_pos p hL
  have m2 : p.tmod T.length < (T.length : Int) := Int.tmod_lt_of_pos p hL
  obtain ⟨k, hk, hkl⟩ : ∃ k : Nat, (p.tmod T.length + T.length).tmod T.length = (k : Int) ∧ k < T.length := by
    have a1 := Int.tmod_nonneg (b := (T.length : Int)) (a := p.tmod T.length + T.length) (by omega)
    have a2 := Int.tmod_lt_of_pos (p.tmod T.length + T.length) hL
    exact ⟨((p.tmod T.length + T.length).tmod T.length).toNat, by omega, by omega⟩
  have ob := one_byte
  have ob2 : ∀ (v : World) (x : Int), (convert 79 9 (.slice (some ⟨v.heap.size, 0, none⟩) 1 1)).run Tryd.prog (v.alloc (.cells #[.int .u8 x] 5)).drew = .ok (.string (bs [UInt8.ofNat x.toNat])) (v.alloc (.cells #[.int .u8 x] 5)).drew := fun v x => byte_of _ _ _ (by simp [go_sem])
  go_wp2_with fail
  try rw [hk]
  clear hk m1 m2
  have e1 : (bs T).extract 0 k = bs (T.take k) := by rw [bs_extract]; simp
  have e2 : (bs T).extract (k + 1) T.length = bs (T.drop (k + 1)) := by rw [bs_extract]; simp
  have z1 : (bs (T.take k)).size ≤ 100 := by rw [bs_size, List.length_take]; omega
  have z2 : (bs (T.drop (k + 1))).size ≤ 100 := by rw [bs_size, List.length_drop]; omega
  have z3 : ∀ x, (bs [x]).size = 1 := fun x => rfl
  clear hB c0 c1 c2 cz b0 b1 b2 bz lB hZ
  have k1 : (k : Int) + 1 ≤ (T.length : Int) := by omega
  have k2 : k + 1 ≤ T.length := by omega
  have k3 : k + 1 ≤ (bs T).size := by omega
  have k4 : ((k : Int) + 1).toNat = k + 1 := by omega
  have k5 : (k : Int) ≤ (T.length : Int) := by omega
  have k6 : (0 : Int) ≤ (k : Int) + 1 := by omega
  have k7 : k ≤ T.length := by omega
  have z4 : (bs (T.take k) ++ bs [UInt8.ofNat c.toNat]).size ≤ 101 := by rw [ByteArray.size_append, z3]; omega
  generalize w3.alloc (.cells #[.int .i64 n, .int .i64 d, .int .i64 t] 24) = W at *
  go_region
  rw [bs_app, bs_app]
  have lO : (T.take k ++ [UInt8.ofNat c.toNat] ++ T.drop (k + 1)).length ≤ 102 := by
    simp only [List.length_append, List.length_take, List.length_drop, List.length_cons, List.length_nil]
    omega
  have nO : T.take k ++ [UInt8.ofNat c.toNat] ++ T.drop (k + 1) ≠ [] := by simp
  generalize T.take k ++ [UInt8.ofNat c.toNat] ++ T.drop (k + 1) = O at *
  have hB : Below w.heap.size w (W.alloc (.cells #[.int .u8 c] 5)).drew := Below.go hA.1 (by go_grown)
  clear e1 e2 z1 z2 z3 z4 k1 k2 k3 k4 k5 k6 k7 ob ob2 hA
  generalize (W.alloc (.cells #[.int .u8 c] 5)).drew = U at *
  have rO := read_any O
  have rS := read_any s
  have eO : (readG O).e = 0 → O ≠ [] → textF (readG O).n (readG O).d (readG O).t = O ∧ rightB (readG O).n (readG O).d (readG O).t = true := fun h hn => ⟨readG_e O h, (textF_some (by rw [readG_e O h]; exact hn)).1⟩
  have eS0 := readG_e s
  have bO := readG_le O
  have bS := readG_le s
  generalize readG O = X at *
  generalize readG s = Y at *
  unfold Got.v at rO rS
  have zs : (bs s).size = s.length := bs_size s
  have zl : ¬ (60 : Int) < (s.length : Int) := by omega
  go_wp2_with fail
  refine (rO _ (hE.below hB) (by omega)).mono ?_
  rintro e w4 ⟨rfl, hb⟩
  have lX := LiesF.new w4 X.n X.d X.t
  replace hB : Below w.heap.size w (w4.alloc (.cells #[.int .i64 X.n, .int .i64 X.d, .int .i64 X.t] 24)) := Below.go (Below.go hB hb) (by go_grown)
  clear hb
  go_wp2_with fail
  generalize w4.alloc (.cells #[.int .i64 X.n, .int .i64 X.d, .int .i64 X.t] 24) = V at *
  refine (rS _ (hE.below hB) (by omega)).mono ?_
  rintro e w5 ⟨rfl, hb⟩
  have lY := LiesF.new w5 Y.n Y.d Y.t
  replace lX := (lX.go hb).put (.cells #[.int .i64 Y.n, .int .i64 Y.d, .int .i64 Y.t] 24)
  replace hB : Below w.heap.size w (w5.alloc (.cells #[.int .i64 Y.n, .int .i64 Y.d, .int .i64 Y.t] 24)) := Below.go (Below.go hB hb) (by go_grown)
  clear hb
  have tl : ∀ l : List UInt8, (bs l).toList = l := bs_toList
  have tX := text_any X.n X.d X.t
  have tY := text_any Y.n Y.d Y.t
  have rX := right_any X.n X.d X.t
  have he : ∀ z : Int, z ≠ 0 → (z == 0) = false ∧ (z != 0) = true := fun z h => ⟨by simpa using h, by simpa using h⟩
  obtain ⟨x0, x1, x2, xz⟩ := id lX
  obtain ⟨y0, y1, y2, yz⟩ := id lY
  by_cases hX : X.e = 0
  · obtain ⟨q1, q2⟩ := eO hX nO
    rw [q1] at tX
    rw [q2] at rX
    have f1 : (X.e == 0) = true := by simp [hX]
    have f2 : (X.e != 0) = false := by simp [hX]
    clear eO hX
    go_wp2_with fail
    generalize hU : w5.alloc (.cells #[.int .i64 Y.n, .int .i64 Y.d, .int .i64 Y.t] 24) = R at *
    refine (tX _ (hE.below hB) bO.1 bO.2).mono ?_
    rintro e w6 ⟨rfl, hb⟩
    replace lX := lX.go hb
    replace lY := lY.go hb
    replace hB := Below.go hB hb
    clear hb x0 x1 x2 xz y0 y1 y2 yz
    obtain ⟨x0, x1, x2, xz⟩ := id lX
    go_wp2_with fail
    refine (rX _ (hE.below hB).1 bO.1 bO.2).mono ?_
    rintro e w7 ⟨rfl, hb⟩
    replace lY := lY.go hb
    replace hB := Below.go hB hb
    clear hb x0 x1 x2 xz
    obtain ⟨y0, y1, y2, yz⟩ := id lY
    by_cases hY : Y.e = 0
    · have q3 := eS0 hY
      rw [q3] at tY
      have g1 : (Y.e == 0) = true := by simp [hY]
      have g2 : (Y.e != 0) = false := by simp [hY]
      clear hY
      go_wp2_with fail
      refine (tY _ (hE.below hB) bS.1 bS.2).mono ?_
      rintro e w8 ⟨rfl, hb⟩
      replace hB := Below.go hB hb
      clear hb
      go_wp2
      go_ret
      exact ⟨rfl, hB⟩
    · obtain ⟨g1, g2⟩ := he _ hY
      clear hY
      go_wp2
      go_ret
      exact ⟨rfl, hB⟩
  · obtain ⟨f1, f2⟩ := he _ hX
    clear hX
    by_cases hY : Y.e = 0
    · have q3 := eS0 hY
      rw [q3] at tY
      have g1 : (Y.e == 0) = true := by simp [hY]
      have g2 : (Y.e != 0) = false := by simp [hY]
      clear hY
      go_wp2_with fail
      refine (tY _ (hE.below hB) bS.1 bS.2).mono ?_
      rintro e w8 ⟨rfl, hb⟩
      replace hB := Below.go hB hb
      clear hb
      go_wp2
      go_ret
      exact ⟨rfl, hB⟩
    · obtain ⟨g1, g2⟩ := he _ hY
      clear hY
      go_wp2
      go_ret
      exact ⟨rfl, hB⟩

set_option maxRecDepth 100000 in
set_option maxHeartbeats 2000000 in
theorem both_long (n d t : Int) (s S : List UInt8) (p : Int) (c : Int) (w : World) (hE : Env w) (h1 : n ≤ 9223372036854775807) (h2 : d ≤ 9223372036854775807) (r : rightB n d t = true) (hs : 60 < s.length) (hS : S = s.take 60) (hp0 : -9223372036854775808 ≤ p) (hp1 : p ≤ 9223372036854775807) (hc0 : 0 ≤ c) (hc1 : c ≤ 255) :
    Calls Tryd.prog 17 #[.agg #[.int .i64 n, .int .i64 d, .int .i64 t], .string (bs s), .int .i64 p, .int .u8 c] w fun e w' => e = .returned (.bool true) ∧ Below w.heap.size w w' := by
  have hA := BoxAt.new w n d t
  have HF : Hid (textF n d t = textL n d t) := by show textF n d t = _; unfold textF; rw [if_pos r]
  have HG : Hid (readG (textL n d t) = ⟨n, d, t, 0⟩) := (read_right n d t h1 h2 r).1
  have HN : Hid (textL n d t ≠ []) := text_ne n d t
  have hl : (textL n d t).length ≤ 100 := text_len n d t h1 h2 r
  have hl0 : 0 < (textL n d t).length := List.length_pos_iff.2 HN.out
  have hz : (bs (textL n d t)).size = (textL n d t).length := bs_size _
  go_enter Tryd.func17, Tryd.ntmps17
  go_wp2_with fail
  refine (awake2_yes _ (hE.below hA.1).1).mono ?_
  rintro e w1 ⟨rfl, hb⟩
  replace hA := hA.below hb
  clear hb
  obtain ⟨hB, c0, c1, c2, cz⟩ := id hA
  go_wp2_with fail
  refine (text_any n d t _ (hE.below hA.1) h1 h2).mono ?_
  rintro e w2 ⟨rfl, hb⟩
  rw [HF.out]
  replace hA := hA.below hb
  clear hb hB c0 c1 c2 cz HF
  generalize textL n d t = T at *
  obtain ⟨hB, c0, c1, c2, cz⟩ := id hA
  go_wp2_with fail
  refine (read_any T _ (hE.below hA.1) (by omega)).mono ?_
  rintro e w3 ⟨rfl, hb⟩
  rw [HG.out]; unfold Got.v
  replace hA := hA.below hb
  have hA0 := hA
  have lB := LiesF.new w3 n d t
  have hZ := hA.2.2.2.2
  replace hA := hA.below (v' := w3.alloc (.cells #[.int .i64 n, .int .i64 d, .int .i64 t] 24)) (by go_grown)
  clear hb hB c0 c1 c2 cz hA0
  obtain ⟨hB, c0, c1, c2, cz⟩ := id hA
  obtain ⟨b0, b1, b2, bz⟩ := id lB
  have hL : (0 : Int) < (T.length : Int) := by omega
  have m1 : -(T.length : Int) < p.tmod T.length := Int.lt_tmod_of_pos p hL
  have m2 : p.tmod T.length < (T.length : Int) := Int.tmod_lt_of_pos p hL
  obtain ⟨k, hk, hkl⟩ : ∃ k : Nat, (p.tmod T.length + T.length).tmod T.length = (k : Int) ∧ k < T.length := by
    have a1 := Int.tmod_nonneg (b := (T.length : Int)) (a := p.tmod T.length + T.length) (by omega)
    have a2 := Int.tmod_lt_of_pos (p.tmod T.length + T.length) hL
    exact ⟨((p.tmod T.length + T.length).tmod T.length).toNat, by omega, by omega⟩
  have ob := one_byte
  have ob2 : ∀ (v : World) (x : Int), (convert 79 9 (.slice (some ⟨v.heap.size, 0, none⟩) 1 1)).run Tryd.prog (v.alloc (.cells #[.int .u8 x] 5)).drew = .ok (.string (bs [UInt8.ofNat x.toNat])) (v.alloc (.cells #[.int .u8 x] 5)).drew := fun v x => byte_of _ _ _ (by simp [go_sem])
  go_wp2_with fail
  try rw [hk]
  clear hk m1 m2
  have e1 : (bs T).extract 0 k = bs (T.take k) := by rw [bs_extract]; simp
  have e2 : (bs T).extract (k + 1) T.length = bs (T.drop (k + 1)) := by rw [bs_extract]; simp
  have z1 : (bs (T.take k)).size ≤ 100 := by rw [bs_size, List.length_take]; omega
  have z2 : (bs (T.drop (k + 1))).size ≤ 100 := by rw [bs_size, List.length_drop]; omega
  have z3 : ∀ x, (bs [x]).size = 1 := fun x => rfl
  clear hB c0 c1 c2 cz b0 b1 b2 bz lB hZ
  have k1 : (k : Int) + 1 ≤ (T.length : Int) := by omega
  have k2 : k + 1 ≤ T.length := by omega
  have k3 : k + 1 ≤ (bs T).size := by omega
  have k4 : ((k : Int) + 1).toNat = k + 1 := by omega
  have k5 : (k : Int) ≤ (T.length : Int) := by omega
  have k6 : (0 : Int) ≤ (k : Int) + 1 := by omega
  have k7 : k ≤ T.length := by omega
  have z4 : (bs (T.take k) ++ bs [UInt8.ofNat c.toNat]).size ≤ 101 := by rw [ByteArray.size_append, z3]; omega
  generalize w3.alloc (.cells #[.int .i64 n, .int .i64 d, .int .i64 t] 24) = W at *
  go_region
  rw [bs_app, bs_app]
  have lO : (T.take k ++ [UInt8.ofNat c.toNat] ++ T.drop (k + 1)).length ≤ 102 := by
    simp only [List.length_append, List.length_take, List.length_drop, List.length_cons, List.length_nil]
    omega
  have nO : T.take k ++ [UInt8.ofNat c.toNat] ++ T.drop (k + 1) ≠ [] := by simp
  generalize T.take k ++ [UInt8.ofNat c.toNat] ++ T.drop (k + 1) = O at *
  have hB : Below w.heap.size w (W.alloc (.cells #[.int .u8 c] 5)).drew := Below.go hA.1 (by go_grown)
  clear e1 e2 z1 z2 z3 z4 k1 k2 k3 k4 k5 k6 k7 ob ob2 hA
  generalize (W.alloc (.cells #[.int .u8 c] 5)).drew = U at *
  have rO := read_any O
  have rS := read_any S
  have eO : (readG O).e = 0 → O ≠ [] → textF (readG O).n (readG O).d (readG O).t = O ∧ rightB (readG O).n (readG O).d (readG O).t = true := fun h hn => ⟨readG_e O h, (textF_some (by rw [readG_e O h]; exact hn)).1⟩
  have eS0 := readG_e S
  have bO := readG_le O
  have bS := readG_le S
  generalize readG O = X at *
  generalize readG S = Y at *
  unfold Got.v at rO rS
  have zs : (bs s).size = s.length := bs_size s
  have zl : (60 : Int) < (s.length : Int) := by omega
  have zl2 : (60 : Int) ≤ (s.length : Int) := by omega
  have zl3 : 60 ≤ s.length := by omega
  have zS : S.length ≤ 60 := by rw [hS, List.length_take]; omega
  have ex : (bs s).extract 0 60 = bs S := by rw [bs_extract, hS]; simp
  clear hS
  go_wp2_with fail
  refine (rO _ (hE.below hB) (by omega)).mono ?_
  rintro e w4 ⟨rfl, hb⟩
  have lX := LiesF.new w4 X.n X.d X.t
  replace hB : Below w.heap.size w (w4.alloc (.cells #[.int .i64 X.n, .int .i64 X.d, .int .i64 X.t] 24)) := Below.go (Below.go hB hb) (by go_grown)
  clear hb
  go_wp2_with fail
  generalize w4.alloc (.cells #[.int .i64 X.n, .int .i64 X.d, .int .i64 X.t] 24) = V at *
  refine (rS _ (hE.below hB) (by omega)).mono ?_
  rintro e w5 ⟨rfl, hb⟩
  have lY := LiesF.new w5 Y.n Y.d Y.t
  replace lX := (lX.go hb).put (.cells #[.int .i64 Y.n, .int .i64 Y.d, .int .i64 Y.t] 24)
  replace hB : Below w.heap.size w (w5.alloc (.cells #[.int .i64 Y.n, .int .i64 Y.d, .int .i64 Y.t] 24)) := Below.go (Below.go hB hb) (by go_grown)
  clear hb
  have tl : ∀ l : List UInt8, (bs l).toList = l := bs_toList
  have tX := text_any X.n X.d X.t
  have tY := text_any Y.n Y.d Y.t
  have rX := right_any X.n X.d X.t
  have he : ∀ z : Int, z ≠ 0 → (z == 0) = false ∧ (z != 0) = true := fun z h => ⟨by simpa using h, by simpa using h⟩
  obtain ⟨x0, x1, x2, xz⟩ := id lX
  obtain ⟨y0, y1, y2, yz⟩ := id lY
  by_cases hX : X.e = 0
  · obtain ⟨q1, q2⟩ := eO hX nO
    rw [q1] at tX
    rw [q2] at rX
    have f1 : (X.e == 0) = true := by simp [hX]
    have f2 : (X.e != 0) = false := by simp [hX]
    clear eO hX
    go_wp2_with fail
    generalize hU : w5.alloc (.cells #[.int .i64 Y.n, .int .i64 Y.d, .int .i64 Y.t] 24) = R at *
    refine (tX _ (hE.below hB) bO.1 bO.2).mono ?_
    rintro e w6 ⟨rfl, hb⟩
    replace lX := lX.go hb
    replace lY := lY.go hb
    replace hB := Below.go hB hb
    clear hb x0 x1 x2 xz y0 y1 y2 yz
    obtain ⟨x0, x1, x2, xz⟩ := id lX
    go_wp2_with fail
    refine (rX _ (hE.below hB).1 bO.1 bO.2).mono ?_
    rintro e w7 ⟨rfl, hb⟩
    replace lY := lY.go hb
    replace hB := Below.go hB hb
    clear hb x0 x1 x2 xz
    obtain ⟨y0, y1, y2, yz⟩ := id lY
    by_cases hY : Y.e = 0
    · have q3 := eS0 hY
      rw [q3] at tY
      have g1 : (Y.e == 0) = true := by simp [hY]
      have g2 : (Y.e != 0) = false := by simp [hY]
      clear hY
      go_wp2_with fail
      refine (tY _ (hE.below hB) bS.1 bS.2).mono ?_
      rintro e w8 ⟨rfl, hb⟩
      replace hB := Below.go hB hb
      clear hb
      go_wp2
      go_ret
      exact ⟨rfl, hB⟩
    · obtain ⟨g1, g2⟩ := he _ hY
      clear hY
      go_wp2
      go_ret
      exact ⟨rfl, hB⟩
  · obtain ⟨f1, f2⟩ := he _ hX
    clear hX
    by_cases hY : Y.e = 0
    · have q3 := eS0 hY
      rw [q3] at tY
      have g1 : (Y.e == 0) = true := by simp [hY]
      have g2 : (Y.e != 0) = false := by simp [hY]
      clear hY
      go_wp2_with fail
      refine (tY _ (hE.below hB) bS.1 bS.2).mono ?_
      rintro e w8 ⟨rfl, hb⟩
      replace hB := Below.go hB hb
      clear hb
      go_wp2
      go_ret
      exact ⟨rfl, hB⟩
    · obtain ⟨g1, g2⟩ := he _ hY
      clear hY
      go_wp2
      go_ret
      exact ⟨rfl, hB⟩

theorem both_walk (n d t : Int) (s : List UInt8) (p : Int) (c : Int) (w : World) (hE : Env w) (h1 : n ≤ 9223372036854775807) (h2 : d ≤ 9223372036854775807) (r : rightB n d t = true) (hp0 : -9223372036854775808 ≤ p) (hp1 : p ≤ 9223372036854775807) (hc0 : 0 ≤ c) (hc1 : c ≤ 255) :
    Calls Tryd.prog 17 #[.agg #[.int .i64 n, .int .i64 d, .int .i64 t], .string (bs s), .int .i64 p, .int .u8 c] w fun e w' => e = .returned (.bool true) ∧ Below w.heap.size w w' := by
  by_cases h : s.length ≤ 60
  · exact both_short n d t s p c w hE h1 h2 r h hp0 hp1 hc0 hc1
  · exact both_long n d t s (s.take 60) p c w hE h1 h2 r (by omega) rfl hp0 hp1 hc0 hc1

end Go.Proofs.YtjklbnakgkffnaaDoor.Texts
