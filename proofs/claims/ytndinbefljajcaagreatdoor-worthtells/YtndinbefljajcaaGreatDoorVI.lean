/-
  Contract of the document's Text of worths; the world below stays as it was.
-/
import Derived.Test.YtndinbefljajcaaGreatDoorVG
import Derived.Test.YtndinbefljajcaaGreatDoorQ4
import Derived.Laws.BytesArg
namespace Go.Proofs.YtndinbefljajcaaGreatDoor.Worth
open Go.RowKit Go.Shelf
open Go.Proofs.YtndinbefljajcaaGreatDoor.Frac (Got OfTen Room specG)
open Go.Proofs.YtndinbefljajcaaGreatDoor.Dims (D7 dZero dOf Lies7 get_of)
open Go.Proofs.YtndinbefljajcaaGreatDoor.Texts (bs bs_app bs_size)
set_option linter.unusedVariables false
set_option linter.unusedSimpArgs false

theorem two_byte (w : World) (x y : Int) : (convert 88 9 (.slice (some ⟨w.heap.size, 0, none⟩) 2 2)).run Tryz.prog (w.alloc (.cells #[.int .u8 x, .int .u8 y] 5)) = .ok (.string (bs [UInt8.ofNat x.toNat, UInt8.ofNat y.toNat])) (w.alloc (.cells #[.int .u8 x, .int .u8 y] 5)) := by
  refine run_convert_bytes_arg _ 88 5 (by kernel_rfl) (by kernel_rfl) w.heap.size 0 2 2 [x, y] rfl ?_ 9 (by kernel_rfl)
  intro i hi
  match i, hi with
  | 0, _ => simp [go_sem]
  | 1, _ => simp [go_sem]
theorem itoa1 (g : Int) (h0 : 0 ≤ g) (h1 : g < 10) : Lib.itoa g = [UInt8.ofNat (48 + g).toNat] := by
  obtain ⟨n, rfl⟩ := Int.eq_ofNat_of_zero_le h0
  rw [Lib.itoa_nonneg, Lib.decDigits_one (by omega)]
  congr 2
theorem itoa2 (g : Int) (h0 : 10 ≤ g) (h1 : g ≤ 99) : Lib.itoa g = [UInt8.ofNat (48 + g / 10).toNat, UInt8.ofNat (48 + g % 10).toNat] := by
  obtain ⟨n, rfl⟩ := Int.eq_ofNat_of_zero_le (show 0 ≤ g by omega)
  rw [Lib.itoa_nonneg, Lib.decDigits, dif_neg (by omega), Lib.decDigits_one (by omega)]
  show [_, _] = _
  congr 2

set_option maxRecDepth 100000 in
set_option maxHeartbeats 2000000 in
theorem rtext_no (a : Wo) (w : World) (hf : a.Fine) (r : rightW a = false) :
    Calls Tryz.prog 21 #[a.v] w fun e w' => e = .returned (.string (bs (textW a))) ∧ Below w.heap.size w w' := by
  have hA := OneAt.new w a
  have rA := fun V => rright_any a V hf
  have R := Lib.hid r
  have HT : Hid (textW a = []) := by show _ = _; unfold textW; rw [r]; rfl
  clear r
  simp only [Wo.v, Wo.cs] at rA hA ⊢
  obtain ⟨c0, c1, c2, c3, c4, c5, c6, c7, c8, c9, c10⟩ := hA.2.cells
  go_enter Tryz.func21, Tryz.ntmps21
  go_wp2_with fail
  refine (rA _).mono ?_
  rintro e w1 ⟨rfl, hb⟩
  rw [R.out]
  replace hA := hA.go hb
  clear hb c0 c1 c2 c3 c4 c5 c6 c7 c8 c9 c10
  have hB := hA.1
  go_wp2
  refine bodyPost_ret (v := .string (bs [])) (by simp [results, Tryz.results21, go_sem, bs]) rfl ⟨by rw [HT.out], hB⟩

set_option maxRecDepth 100000 in
set_option maxHeartbeats 2000000 in
theorem rtext_np (a : Wo) (w : World) (hf : a.Fine) (r : rightW a = true) (hd : Dims.textL a.D = []) (hg : a.g = 0) :
    Calls Tryz.prog 21 #[a.v] w fun e w' => e = .returned (.string (bs (textW a))) ∧ Below w.heap.size w w' := by
  have hA := OneAt.new w a
  have rA := fun V => rright_any a V hf
  have R := Lib.hid r
  obtain ⟨rF, rD, g0, g1⟩ := (rightW_iff a).1 r
  obtain ⟨x1, x2, x3, x4, x5⟩ := Frac.right_fine hf.n hf.d rF
  have HT : Hid (bs (Texts.textL a.n a.d a.t) = bs (textW a)) := by
    show _ = _
    unfold textW textR dimL tagL
    rw [if_pos r]
    rw [if_pos hd, if_pos hg]
    simp [bs_app, List.append_assoc]
  have tF : ∀ W, Calls Tryz.prog 57 #[.agg #[.int .i64 a.n, .int .i64 a.d, .int .i64 a.t]] W fun e w' => e = .returned (.string (bs (Texts.textL a.n a.d a.t))) ∧ Below W.heap.size W w' := by
    intro W
    have h := Texts.rtext_any a.n a.d a.t W hf.n hf.d
    unfold Texts.textF at h
    rw [if_pos rF] at h
    exact h
  have tD : ∀ W, Calls Tryz.prog 58 #[a.D.v] W fun e w' => e = .returned (.string (bs (Dims.textL a.D))) ∧ Below W.heap.size W w' := by
    intro W
    have h := Dims.rtext_any a.D W hf.D
    rw [Dims.text_right rD] at h
    exact h
  have l1 : (bs (Texts.textL a.n a.d a.t)).size ≤ 70 := by rw [bs_size]; exact fracText_len _ _ _ x1 x2 x3 x4 x5
  have l2 : (bs (Dims.textL a.D)).size ≤ 154 := by rw [bs_size]; exact Dims.text_len a.D hf.D
  have s1 : (ByteArray.mk #[32]).size = 1 := rfl
  have s2 : (ByteArray.mk #[32, 35]).size = 2 := rfl
  have s3 : ∀ x, (bs [x]).size = 1 := fun _ => rfl
  have s4 : ∀ x y, (bs [x, y]).size = 2 := fun _ _ => rfl
  have L1 : (bs (Texts.textL a.n a.d a.t) ++ ByteArray.mk #[32]).size ≤ 71 := by rw [ByteArray.size_append, s1]; omega
  have L2 : (bs (Texts.textL a.n a.d a.t) ++ ByteArray.mk #[32] ++ bs (Dims.textL a.D)).size ≤ 225 := by rw [ByteArray.size_append]; omega
  have L3 : (bs (Texts.textL a.n a.d a.t) ++ ByteArray.mk #[32, 35]).size ≤ 72 := by rw [ByteArray.size_append, s2]; omega
  have L4 : (bs (Texts.textL a.n a.d a.t) ++ ByteArray.mk #[32] ++ bs (Dims.textL a.D) ++ ByteArray.mk #[32, 35]).size ≤ 227 := by rw [ByteArray.size_append, s2]; omega
  have E1 : (bs (Dims.textL a.D)).toList.isEmpty = true := by rw [show (bs (Dims.textL a.D)).toList = Dims.textL a.D from by rw [ByteArray.toList_eq]; rfl]; simp [hd]
  have ob := Texts.one_byte
  have tb := two_byte
  have G1 : (a.g != 0) = false := by simp [hg]
  clear hg
  clear r rF rD hd
  generalize Texts.textL a.n a.d a.t = T1 at *
  generalize Dims.textL a.D = T2 at *
  simp only [Wo.v, Wo.cs, D7.v] at rA tD hA ⊢
  obtain ⟨c0, c1, c2, c3, c4, c5, c6, c7, c8, c9, c10⟩ := hA.2.cells
  go_enter Tryz.func21, Tryz.ntmps21
  go_wp2_with fail
  refine (rA _).mono ?_
  rintro e w1 ⟨rfl, hb⟩
  rw [R.out]
  replace hA := hA.go hb
  clear hb c0 c1 c2 c3 c4 c5 c6 c7 c8 c9 c10
  obtain ⟨c0, c1, c2, c3, c4, c5, c6, c7, c8, c9, c10⟩ := hA.2.cells
  go_wp2_with fail
  refine (tF _).mono ?_
  rintro e w2 ⟨rfl, hb⟩
  replace hA := hA.go hb
  clear hb c0 c1 c2 c3 c4 c5 c6 c7 c8 c9 c10
  obtain ⟨c0, c1, c2, c3, c4, c5, c6, c7, c8, c9, c10⟩ := hA.2.cells
  go_wp2_with fail
  refine (tD _).mono ?_
  rintro e w3 ⟨rfl, hb⟩
  replace hA := hA.go hb
  clear hb c0 c1 c2 c3 c4 c5 c6 c7 c8 c9 c10
  obtain ⟨c0, c1, c2, c3, c4, c5, c6, c7, c8, c9, c10⟩ := hA.2.cells
  have hB := hA.1
  have hz := hB.size
  go_wp2
  refine bodyPost_ret (v := .string (bs T1)) (by simp [results, Tryz.results21, go_sem]) rfl ⟨by first | (rw [← HT.out]; done) | (rw [← HT.out]; rfl), ?_⟩
  go_grown

set_option maxRecDepth 100000 in
set_option maxHeartbeats 2000000 in
theorem rtext_nt (a : Wo) (w : World) (hf : a.Fine) (r : rightW a = true) (hd : Dims.textL a.D = []) (h1 : 1 ≤ a.g) (h2 : a.g < 10) :
    Calls Tryz.prog 21 #[a.v] w fun e w' => e = .returned (.string (bs (textW a))) ∧ Below w.heap.size w w' := by
  have hA := OneAt.new w a
  have rA := fun V => rright_any a V hf
  have R := Lib.hid r
  obtain ⟨rF, rD, g0, g1⟩ := (rightW_iff a).1 r
  obtain ⟨x1, x2, x3, x4, x5⟩ := Frac.right_fine hf.n hf.d rF
  have HT : Hid (bs (Texts.textL a.n a.d a.t) ++ bs [32, 35] ++ bs [UInt8.ofNat (48 + a.g).toNat] = bs (textW a)) := by
    show _ = _
    unfold textW textR dimL tagL
    rw [if_pos r]
    rw [if_pos hd, if_neg (by omega), itoa1 a.g (by omega) (by omega)]
    simp [bs_app, List.append_assoc]
  have tF : ∀ W, Calls Tryz.prog 57 #[.agg #[.int .i64 a.n, .int .i64 a.d, .int .i64 a.t]] W fun e w' => e = .returned (.string (bs (Texts.textL a.n a.d a.t))) ∧ Below W.heap.size W w' := by
    intro W
    have h := Texts.rtext_any a.n a.d a.t W hf.n hf.d
    unfold Texts.textF at h
    rw [if_pos rF] at h
    exact h
  have tD : ∀ W, Calls Tryz.prog 58 #[a.D.v] W fun e w' => e = .returned (.string (bs (Dims.textL a.D))) ∧ Below W.heap.size W w' := by
    intro W
    have h := Dims.rtext_any a.D W hf.D
    rw [Dims.text_right rD] at h
    exact h
  have l1 : (bs (Texts.textL a.n a.d a.t)).size ≤ 70 := by rw [bs_size]; exact fracText_len _ _ _ x1 x2 x3 x4 x5
  have l2 : (bs (Dims.textL a.D)).size ≤ 154 := by rw [bs_size]; exact Dims.text_len a.D hf.D
  have s1 : (ByteArray.mk #[32]).size = 1 := rfl
  have s2 : (ByteArray.mk #[32, 35]).size = 2 := rfl
  have s3 : ∀ x, (bs [x]).size = 1 := fun _ => rfl
  have s4 : ∀ x y, (bs [x, y]).size = 2 := fun _ _ => rfl
  have L1 : (bs (Texts.textL a.n a.d a.t) ++ ByteArray.mk #[32]).size ≤ 71 := by rw [ByteArray.size_append, s1]; omega
  have L2 : (bs (Texts.textL a.n a.d a.t) ++ ByteArray.mk #[32] ++ bs (Dims.textL a.D)).size ≤ 225 := by rw [ByteArray.size_append]; omega
  have L3 : (bs (Texts.textL a.n a.d a.t) ++ ByteArray.mk #[32, 35]).size ≤ 72 := by rw [ByteArray.size_append, s2]; omega
  have L4 : (bs (Texts.textL a.n a.d a.t) ++ ByteArray.mk #[32] ++ bs (Dims.textL a.D) ++ ByteArray.mk #[32, 35]).size ≤ 227 := by rw [ByteArray.size_append, s2]; omega
  have E1 : (bs (Dims.textL a.D)).toList.isEmpty = true := by rw [show (bs (Dims.textL a.D)).toList = Dims.textL a.D from by rw [ByteArray.toList_eq]; rfl]; simp [hd]
  have ob := Texts.one_byte
  have tb := two_byte
  have G1 : (a.g != 0) = true := by simp; omega
  clear r rF rD hd
  generalize Texts.textL a.n a.d a.t = T1 at *
  generalize Dims.textL a.D = T2 at *
  simp only [Wo.v, Wo.cs, D7.v] at rA tD hA ⊢
  obtain ⟨c0, c1, c2, c3, c4, c5, c6, c7, c8, c9, c10⟩ := hA.2.cells
  go_enter Tryz.func21, Tryz.ntmps21
  go_wp2_with fail
  refine (rA _).mono ?_
  rintro e w1 ⟨rfl, hb⟩
  rw [R.out]
  replace hA := hA.go hb
  clear hb c0 c1 c2 c3 c4 c5 c6 c7 c8 c9 c10
  obtain ⟨c0, c1, c2, c3, c4, c5, c6, c7, c8, c9, c10⟩ := hA.2.cells
  go_wp2_with fail
  refine (tF _).mono ?_
  rintro e w2 ⟨rfl, hb⟩
  replace hA := hA.go hb
  clear hb c0 c1 c2 c3 c4 c5 c6 c7 c8 c9 c10
  obtain ⟨c0, c1, c2, c3, c4, c5, c6, c7, c8, c9, c10⟩ := hA.2.cells
  go_wp2_with fail
  refine (tD _).mono ?_
  rintro e w3 ⟨rfl, hb⟩
  replace hA := hA.go hb
  clear hb c0 c1 c2 c3 c4 c5 c6 c7 c8 c9 c10
  obtain ⟨c0, c1, c2, c3, c4, c5, c6, c7, c8, c9, c10⟩ := hA.2.cells
  have hB := hA.1
  have hz := hB.size
  go_wp2
  refine bodyPost_ret (v := .string (bs T1 ++ ByteArray.mk #[32, 35] ++ bs [UInt8.ofNat (48 + a.g).toNat])) (by simp [results, Tryz.results21, go_sem]) rfl ⟨by first | (rw [← HT.out]; done) | (rw [← HT.out]; rfl), ?_⟩
  go_grown

set_option maxRecDepth 100000 in
set_option maxHeartbeats 2000000 in
theorem rtext_nu (a : Wo) (w : World) (hf : a.Fine) (r : rightW a = true) (hd : Dims.textL a.D = []) (h1 : 10 ≤ a.g) (h2 : a.g ≤ 99) :
    Calls Tryz.prog 21 #[a.v] w fun e w' => e = .returned (.string (bs (textW a))) ∧ Below w.heap.size w w' := by
  have hA := OneAt.new w a
  have rA := fun V => rright_any a V hf
  have R := Lib.hid r
  obtain ⟨rF, rD, g0, g1⟩ := (rightW_iff a).1 r
  obtain ⟨x1, x2, x3, x4, x5⟩ := Frac.right_fine hf.n hf.d rF
  have HT : Hid (bs (Texts.textL a.n a.d a.t) ++ bs [32, 35] ++ bs [UInt8.ofNat (48 + a.g / 10).toNat, UInt8.ofNat (48 + a.g % 10).toNat] = bs (textW a)) := by
    show _ = _
    unfold textW textR dimL tagL
    rw [if_pos r]
    rw [if_pos hd, if_neg (by omega), itoa2 a.g (by omega) (by omega)]
    simp [bs_app, List.append_assoc]
  have tF : ∀ W, Calls Tryz.prog 57 #[.agg #[.int .i64 a.n, .int .i64 a.d, .int .i64 a.t]] W fun e w' => e = .returned (.string (bs (Texts.textL a.n a.d a.t))) ∧ Below W.heap.size W w' := by
    intro W
    have h := Texts.rtext_any a.n a.d a.t W hf.n hf.d
    unfold Texts.textF at h
    rw [if_pos rF] at h
    exact h
  have tD : ∀ W, Calls Tryz.prog 58 #[a.D.v] W fun e w' => e = .returned (.string (bs (Dims.textL a.D))) ∧ Below W.heap.size W w' := by
    intro W
    have h := Dims.rtext_any a.D W hf.D
    rw [Dims.text_right rD] at h
    exact h
  have l1 : (bs (Texts.textL a.n a.d a.t)).size ≤ 70 := by rw [bs_size]; exact fracText_len _ _ _ x1 x2 x3 x4 x5
  have l2 : (bs (Dims.textL a.D)).size ≤ 154 := by rw [bs_size]; exact Dims.text_len a.D hf.D
  have s1 : (ByteArray.mk #[32]).size = 1 := rfl
  have s2 : (ByteArray.mk #[32, 35]).size = 2 := rfl
  have s3 : ∀ x, (bs [x]).size = 1 := fun _ => rfl
  have s4 : ∀ x y, (bs [x, y]).size = 2 := fun _ _ => rfl
  have L1 : (bs (Texts.textL a.n a.d a.t) ++ ByteArray.mk #[32]).size ≤ 71 := by rw [ByteArray.size_append, s1]; omega
  have L2 : (bs (Texts.textL a.n a.d a.t) ++ ByteArray.mk #[32] ++ bs (Dims.textL a.D)).size ≤ 225 := by rw [ByteArray.size_append]; omega
  have L3 : (bs (Texts.textL a.n a.d a.t) ++ ByteArray.mk #[32, 35]).size ≤ 72 := by rw [ByteArray.size_append, s2]; omega
  have L4 : (bs (Texts.textL a.n a.d a.t) ++ ByteArray.mk #[32] ++ bs (Dims.textL a.D) ++ ByteArray.mk #[32, 35]).size ≤ 227 := by rw [ByteArray.size_append, s2]; omega
  have E1 : (bs (Dims.textL a.D)).toList.isEmpty = true := by rw [show (bs (Dims.textL a.D)).toList = Dims.textL a.D from by rw [ByteArray.toList_eq]; rfl]; simp [hd]
  have ob := Texts.one_byte
  have tb := two_byte
  have G1 : (a.g != 0) = true := by simp; omega
  clear r rF rD hd
  generalize Texts.textL a.n a.d a.t = T1 at *
  generalize Dims.textL a.D = T2 at *
  simp only [Wo.v, Wo.cs, D7.v] at rA tD hA ⊢
  obtain ⟨c0, c1, c2, c3, c4, c5, c6, c7, c8, c9, c10⟩ := hA.2.cells
  go_enter Tryz.func21, Tryz.ntmps21
  go_wp2_with fail
  refine (rA _).mono ?_
  rintro e w1 ⟨rfl, hb⟩
  rw [R.out]
  replace hA := hA.go hb
  clear hb c0 c1 c2 c3 c4 c5 c6 c7 c8 c9 c10
  obtain ⟨c0, c1, c2, c3, c4, c5, c6, c7, c8, c9, c10⟩ := hA.2.cells
  go_wp2_with fail
  refine (tF _).mono ?_
  rintro e w2 ⟨rfl, hb⟩
  replace hA := hA.go hb
  clear hb c0 c1 c2 c3 c4 c5 c6 c7 c8 c9 c10
  obtain ⟨c0, c1, c2, c3, c4, c5, c6, c7, c8, c9, c10⟩ := hA.2.cells
  go_wp2_with fail
  refine (tD _).mono ?_
  rintro e w3 ⟨rfl, hb⟩
  replace hA := hA.go hb
  clear hb c0 c1 c2 c3 c4 c5 c6 c7 c8 c9 c10
  obtain ⟨c0, c1, c2, c3, c4, c5, c6, c7, c8, c9, c10⟩ := hA.2.cells
  have hB := hA.1
  have hz := hB.size
  go_wp2
  refine bodyPost_ret (v := .string (bs T1 ++ ByteArray.mk #[32, 35] ++ bs [UInt8.ofNat (48 + a.g / 10).toNat, UInt8.ofNat (48 + a.g % 10).toNat])) (by simp [results, Tryz.results21, go_sem]) rfl ⟨by first | (rw [← HT.out]; done) | (rw [← HT.out]; rfl), ?_⟩
  go_grown

set_option maxRecDepth 100000 in
set_option maxHeartbeats 2000000 in
theorem rtext_dp (a : Wo) (w : World) (hf : a.Fine) (r : rightW a = true) (hd : Dims.textL a.D ≠ []) (hg : a.g = 0) :
    Calls Tryz.prog 21 #[a.v] w fun e w' => e = .returned (.string (bs (textW a))) ∧ Below w.heap.size w w' := by
  have hA := OneAt.new w a
  have rA := fun V => rright_any a V hf
  have R := Lib.hid r
  obtain ⟨rF, rD, g0, g1⟩ := (rightW_iff a).1 r
  obtain ⟨x1, x2, x3, x4, x5⟩ := Frac.right_fine hf.n hf.d rF
  have HT : Hid (bs (Texts.textL a.n a.d a.t) ++ bs [32] ++ bs (Dims.textL a.D) = bs (textW a)) := by
    show _ = _
    unfold textW textR dimL tagL
    rw [if_pos r]
    rw [if_neg hd, if_pos hg]
    simp [bs_app, List.append_assoc]
  have tF : ∀ W, Calls Tryz.prog 57 #[.agg #[.int .i64 a.n, .int .i64 a.d, .int .i64 a.t]] W fun e w' => e = .returned (.string (bs (Texts.textL a.n a.d a.t))) ∧ Below W.heap.size W w' := by
    intro W
    have h := Texts.rtext_any a.n a.d a.t W hf.n hf.d
    unfold Texts.textF at h
    rw [if_pos rF] at h
    exact h
  have tD : ∀ W, Calls Tryz.prog 58 #[a.D.v] W fun e w' => e = .returned (.string (bs (Dims.textL a.D))) ∧ Below W.heap.size W w' := by
    intro W
    have h := Dims.rtext_any a.D W hf.D
    rw [Dims.text_right rD] at h
    exact h
  have l1 : (bs (Texts.textL a.n a.d a.t)).size ≤ 70 := by rw [bs_size]; exact fracText_len _ _ _ x1 x2 x3 x4 x5
  have l2 : (bs (Dims.textL a.D)).size ≤ 154 := by rw [bs_size]; exact Dims.text_len a.D hf.D
  have s1 : (ByteArray.mk #[32]).size = 1 := rfl
  have s2 : (ByteArray.mk #[32, 35]).size = 2 := rfl
  have s3 : ∀ x, (bs [x]).size = 1 := fun _ => rfl
  have s4 : ∀ x y, (bs [x, y]).size = 2 := fun _ _ => rfl
  have L1 : (bs (Texts.textL a.n a.d a.t) ++ ByteArray.mk #[32]).size ≤ 71 := by rw [ByteArray.size_append, s1]; omega
  have L2 : (bs (Texts.textL a.n a.d a.t) ++ ByteArray.mk #[32] ++ bs (Dims.textL a.D)).size ≤ 225 := by rw [ByteArray.size_append]; omega
  have L3 : (bs (Texts.textL a.n a.d a.t) ++ ByteArray.mk #[32, 35]).size ≤ 72 := by rw [ByteArray.size_append, s2]; omega
  have L4 : (bs (Texts.textL a.n a.d a.t) ++ ByteArray.mk #[32] ++ bs (Dims.textL a.D) ++ ByteArray.mk #[32, 35]).size ≤ 227 := by rw [ByteArray.size_append, s2]; omega
  have E1 : (bs (Dims.textL a.D)).toList.isEmpty = false := by rw [show (bs (Dims.textL a.D)).toList = Dims.textL a.D from by rw [ByteArray.toList_eq]; rfl]; simpa using hd
  have ob := Texts.one_byte
  have tb := two_byte
  have G1 : (a.g != 0) = false := by simp [hg]
  clear hg
  clear r rF rD hd
  generalize Texts.textL a.n a.d a.t = T1 at *
  generalize Dims.textL a.D = T2 at *
  simp only [Wo.v, Wo.cs, D7.v] at rA tD hA ⊢
  obtain ⟨c0, c1, c2, c3, c4, c5, c6, c7, c8, c9, c10⟩ := hA.2.cells
  go_enter Tryz.func21, Tryz.ntmps21
  go_wp2_with fail
  refine (rA _).mono ?_
  rintro e w1 ⟨rfl, hb⟩
  rw [R.out]
  replace hA := hA.go hb
  clear hb c0 c1 c2 c3 c4 c5 c6 c7 c8 c9 c10
  obtain ⟨c0, c1, c2, c3, c4, c5, c6, c7, c8, c9, c10⟩ := hA.2.cells
  go_wp2_with fail
  refine (tF _).mono ?_
  rintro e w2 ⟨rfl, hb⟩
  replace hA := hA.go hb
  clear hb c0 c1 c2 c3 c4 c5 c6 c7 c8 c9 c10
  obtain ⟨c0, c1, c2, c3, c4, c5, c6, c7, c8, c9, c10⟩ := hA.2.cells
  go_wp2_with fail
  refine (tD _).mono ?_
  rintro e w3 ⟨rfl, hb⟩
  replace hA := hA.go hb
  clear hb c0 c1 c2 c3 c4 c5 c6 c7 c8 c9 c10
  obtain ⟨c0, c1, c2, c3, c4, c5, c6, c7, c8, c9, c10⟩ := hA.2.cells
  have hB := hA.1
  have hz := hB.size
  go_wp2
  refine bodyPost_ret (v := .string (bs T1 ++ ByteArray.mk #[32] ++ bs T2)) (by simp [results, Tryz.results21, go_sem]) rfl ⟨by first | (rw [← HT.out]; done) | (rw [← HT.out]; rfl), ?_⟩
  go_grown

set_option maxRecDepth 100000 in
set_option maxHeartbeats 2000000 in
theorem rtext_dt (a : Wo) (w : World) (hf : a.Fine) (r : rightW a = true) (hd : Dims.textL a.D ≠ []) (h1 : 1 ≤ a.g) (h2 : a.g < 10) :
    Calls Tryz.prog 21 #[a.v] w fun e w' => e = .returned (.string (bs (textW a))) ∧ Below w.heap.size w w' := by
  have hA := OneAt.new w a
  have rA := fun V => rright_any a V hf
  have R := Lib.hid r
  obtain ⟨rF, rD, g0, g1⟩ := (rightW_iff a).1 r
  obtain ⟨x1, x2, x3, x4, x5⟩ := Frac.right_fine hf.n hf.d rF
  have HT : Hid (bs (Texts.textL a.n a.d a.t) ++ bs [32] ++ bs (Dims.textL a.D) ++ bs [32, 35] ++ bs [UInt8.ofNat (48 + a.g).toNat] = bs (textW a)) := by
    show _ = _
    unfold textW textR dimL tagL
    rw [if_pos r]
    rw [if_neg hd, if_neg (by omega), itoa1 a.g (by omega) (by omega)]
    simp [bs_app, List.append_assoc]
  have tF : ∀ W, Calls Tryz.prog 57 #[.agg #[.int .i64 a.n, .int .i64 a.d, .int .i64 a.t]] W fun e w' => e = .returned (.string (bs (Texts.textL a.n a.d a.t))) ∧ Below W.heap.size W w' := by
    intro W
    have h := Texts.rtext_any a.n a.d a.t W hf.n hf.d
    unfold Texts.textF at h
    rw [if_pos rF] at h
    exact h
  have tD : ∀ W, Calls Tryz.prog 58 #[a.D.v] W fun e w' => e = .returned (.string (bs (Dims.textL a.D))) ∧ Below W.heap.size W w' := by
    intro W
    have h := Dims.rtext_any a.D W hf.D
    rw [Dims.text_right rD] at h
    exact h
  have l1 : (bs (Texts.textL a.n a.d a.t)).size ≤ 70 := by rw [bs_size]; exact fracText_len _ _ _ x1 x2 x3 x4 x5
  have l2 : (bs (Dims.textL a.D)).size ≤ 154 := by rw [bs_size]; exact Dims.text_len a.D hf.D
  have s1 : (ByteArray.mk #[32]).size = 1 := rfl
  have s2 : (ByteArray.mk #[32, 35]).size = 2 := rfl
  have s3 : ∀ x, (bs [x]).size = 1 := fun _ => rfl
  have s4 : ∀ x y, (bs [x, y]).size = 2 := fun _ _ => rfl
  have L1 : (bs (Texts.textL a.n a.d a.t) ++ ByteArray.mk #[32]).size ≤ 71 := by rw [ByteArray.size_append, s1]; omega
  have L2 : (bs (Texts.textL a.n a.d a.t) ++ ByteArray.mk #[32] ++ bs (Dims.textL a.D)).size ≤ 225 := by rw [ByteArray.size_append]; omega
  have L3 : (bs (Texts.textL a.n a.d a.t) ++ ByteArray.mk #[32, 35]).size ≤ 72 := by rw [ByteArray.size_append, s2]; omega
  have L4 : (bs (Texts.textL a.n a.d a.t) ++ ByteArray.mk #[32] ++ bs (Dims.textL a.D) ++ ByteArray.mk #[32, 35]).size ≤ 227 := by rw [ByteArray.size_append, s2]; omega
  have E1 : (bs (Dims.textL a.D)).toList.isEmpty = false := by rw [show (bs (Dims.textL a.D)).toList = Dims.textL a.D from by rw [ByteArray.toList_eq]; rfl]; simpa using hd
  have ob := Texts.one_byte
  have tb := two_byte
  have G1 : (a.g != 0) = true := by simp; omega
  clear r rF rD hd
  generalize Texts.textL a.n a.d a.t = T1 at *
  generalize Dims.textL a.D = T2 at *
  simp only [Wo.v, Wo.cs, D7.v] at rA tD hA ⊢
  obtain ⟨c0, c1, c2, c3, c4, c5, c6, c7, c8, c9, c10⟩ := hA.2.cells
  go_enter Tryz.func21, Tryz.ntmps21
  go_wp2_with fail
  refine (rA _).mono ?_
  rintro e w1 ⟨rfl, hb⟩
  rw [R.out]
  replace hA := hA.go hb
  clear hb c0 c1 c2 c3 c4 c5 c6 c7 c8 c9 c10
  obtain ⟨c0, c1, c2, c3, c4, c5, c6, c7, c8, c9, c10⟩ := hA.2.cells
  go_wp2_with fail
  refine (tF _).mono ?_
  rintro e w2 ⟨rfl, hb⟩
  replace hA := hA.go hb
  clear hb c0 c1 c2 c3 c4 c5 c6 c7 c8 c9 c10
  obtain ⟨c0, c1, c2, c3, c4, c5, c6, c7, c8, c9, c10⟩ := hA.2.cells
  go_wp2_with fail
  refine (tD _).mono ?_
  rintro e w3 ⟨rfl, hb⟩
  replace hA := hA.go hb
  clear hb c0 c1 c2 c3 c4 c5 c6 c7 c8 c9 c10
  obtain ⟨c0, c1, c2, c3, c4, c5, c6, c7, c8, c9, c10⟩ := hA.2.cells
  have hB := hA.1
  have hz := hB.size
  go_wp2
  refine bodyPost_ret (v := .string (bs T1 ++ ByteArray.mk #[32] ++ bs T2 ++ ByteArray.mk #[32, 35] ++ bs [UInt8.ofNat (48 + a.g).toNat])) (by simp [results, Tryz.results21, go_sem]) rfl ⟨by first | (rw [← HT.out]; done) | (rw [← HT.out]; rfl), ?_⟩
  go_grown

set_option maxRecDepth 100000 in
set_option maxHeartbeats 2000000 in
theorem rtext_du (a : Wo) (w : World) (hf : a.Fine) (r : rightW a = true) (hd : Dims.textL a.D ≠ []) (h1 : 10 ≤ a.g) (h2 : a.g ≤ 99) :
    Calls Tryz.prog 21 #[a.v] w fun e w' => e = .returned (.string (bs (textW a))) ∧ Below w.heap.size w w' := by
  have hA := OneAt.new w a
  have rA := fun V => rright_any a V hf
  have R := Lib.hid r
  obtain ⟨rF, rD, g0, g1⟩ := (rightW_iff a).1 r
  obtain ⟨x1, x2, x3, x4, x5⟩ := Frac.right_fine hf.n hf.d rF
  have HT : Hid (bs (Texts.textL a.n a.d a.t) ++ bs [32] ++ bs (Dims.textL a.D) ++ bs [32, 35] ++ bs [UInt8.ofNat (48 + a.g / 10).toNat, UInt8.ofNat (48 + a.g % 10).toNat] = bs (textW a)) := by
    show _ = _
    unfold textW textR dimL tagL
    rw [if_pos r]
    rw [if_neg hd, if_neg (by omega), itoa2 a.g (by omega) (by omega)]
    simp [bs_app, List.append_assoc]
  have tF : ∀ W, Calls Tryz.prog 57 #[.agg #[.int .i64 a.n, .int .i64 a.d, .int .i64 a.t]] W fun e w' => e = .returned (.string (bs (Texts.textL a.n a.d a.t))) ∧ Below W.heap.size W w' := by
    intro W
    have h := Texts.rtext_any a.n a.d a.t W hf.n hf.d
    unfold Texts.textF at h
    rw [if_pos rF] at h
    exact h
  have tD : ∀ W, Calls Tryz.prog 58 #[a.D.v] W fun e w' => e = .returned (.string (bs (Dims.textL a.D))) ∧ Below W.heap.size W w' := by
    intro W
    have h := Dims.rtext_any a.D W hf.D
    rw [Dims.text_right rD] at h
    exact h
  have l1 : (bs (Texts.textL a.n a.d a.t)).size ≤ 70 := by rw [bs_size]; exact fracText_len _ _ _ x1 x2 x3 x4 x5
  have l2 : (bs (Dims.textL a.D)).size ≤ 154 := by rw [bs_size]; exact Dims.text_len a.D hf.D
  have s1 : (ByteArray.mk #[32]).size = 1 := rfl
  have s2 : (ByteArray.mk #[32, 35]).size = 2 := rfl
  have s3 : ∀ x, (bs [x]).size = 1 := fun _ => rfl
  have s4 : ∀ x y, (bs [x, y]).size = 2 := fun _ _ => rfl
  have L1 : (bs (Texts.textL a.n a.d a.t) ++ ByteArray.mk #[32]).size ≤ 71 := by rw [ByteArray.size_append, s1]; omega
  have L2 : (bs (Texts.textL a.n a.d a.t) ++ ByteArray.mk #[32] ++ bs (Dims.textL a.D)).size ≤ 225 := by rw [ByteArray.size_append]; omega
  have L3 : (bs (Texts.textL a.n a.d a.t) ++ ByteArray.mk #[32, 35]).size ≤ 72 := by rw [ByteArray.size_append, s2]; omega
  have L4 : (bs (Texts.textL a.n a.d a.t) ++ ByteArray.mk #[32] ++ bs (Dims.textL a.D) ++ ByteArray.mk #[32, 35]).size ≤ 227 := by rw [ByteArray.size_append, s2]; omega
  have E1 : (bs (Dims.textL a.D)).toList.isEmpty = false := by rw [show (bs (Dims.textL a.D)).toList = Dims.textL a.D from by rw [ByteArray.toList_eq]; rfl]; simpa using hd
  have ob := Texts.one_byte
  have tb := two_byte
  have G1 : (a.g != 0) = true := by simp; omega
  clear r rF rD hd
  generalize Texts.textL a.n a.d a.t = T1 at *
  generalize Dims.textL a.D = T2 at *
  simp only [Wo.v, Wo.cs, D7.v] at rA tD hA ⊢
  obtain ⟨c0, c1, c2, c3, c4, c5, c6, c7, c8, c9, c10⟩ := hA.2.cells
  go_enter Tryz.func21, Tryz.ntmps21
  go_wp2_with fail
  refine (rA _).mono ?_
  rintro e w1 ⟨rfl, hb⟩
  rw [R.out]
  replace hA := hA.go hb
  clear hb c0 c1 c2 c3 c4 c5 c6 c7 c8 c9 c10
  obtain ⟨c0, c1, c2, c3, c4, c5, c6, c7, c8, c9, c10⟩ := hA.2.cells
  go_wp2_with fail
  refine (tF _).mono ?_
  rintro e w2 ⟨rfl, hb⟩
  replace hA := hA.go hb
  clear hb c0 c1 c2 c3 c4 c5 c6 c7 c8 c9 c10
  obtain ⟨c0, c1, c2, c3, c4, c5, c6, c7, c8, c9, c10⟩ := hA.2.cells
  go_wp2_with fail
  refine (tD _).mono ?_
  rintro e w3 ⟨rfl, hb⟩
  replace hA := hA.go hb
  clear hb c0 c1 c2 c3 c4 c5 c6 c7 c8 c9 c10
  obtain ⟨c0, c1, c2, c3, c4, c5, c6, c7, c8, c9, c10⟩ := hA.2.cells
  have hB := hA.1
  have hz := hB.size
  go_wp2
  refine bodyPost_ret (v := .string (bs T1 ++ ByteArray.mk #[32] ++ bs T2 ++ ByteArray.mk #[32, 35] ++ bs [UInt8.ofNat (48 + a.g / 10).toNat, UInt8.ofNat (48 + a.g % 10).toNat])) (by simp [results, Tryz.results21, go_sem]) rfl ⟨by first | (rw [← HT.out]; done) | (rw [← HT.out]; rfl), ?_⟩
  go_grown

/-- What the document's Text tells. -/
theorem rtext_any (a : Wo) (w : World) (hf : a.Fine) :
    Calls Tryz.prog 21 #[a.v] w fun e w' => e = .returned (.string (bs (textW a))) ∧ Below w.heap.size w w' := by
  by_cases r : rightW a = true
  · obtain ⟨_, _, g0, g1⟩ := (rightW_iff a).1 r
    by_cases hd : Dims.textL a.D = []
    · by_cases hg : a.g = 0
      · exact rtext_np a w hf r hd hg
      · by_cases h10 : a.g < 10
        · exact rtext_nt a w hf r hd (by omega) h10
        · exact rtext_nu a w hf r hd (by omega) g1
    · by_cases hg : a.g = 0
      · exact rtext_dp a w hf r hd hg
      · by_cases h10 : a.g < 10
        · exact rtext_dt a w hf r hd (by omega) h10
        · exact rtext_du a w hf r hd (by omega) g1
  · exact rtext_no a w hf (by simpa using r)

end Go.Proofs.YtndinbefljajcaaGreatDoor.Worth
