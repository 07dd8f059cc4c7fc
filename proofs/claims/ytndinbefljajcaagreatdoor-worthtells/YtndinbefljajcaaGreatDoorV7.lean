/-
  Contract of worth.Text: the text of any worth; the world below stays as it was.
-/
import Derived.Test.YtndinbefljajcaaGreatDoorVX
import Derived.Test.YtndinbefljajcaaGreatDoorTB
import Derived.Test.YtndinbefljajcaaGreatDoorD6
namespace Go.Proofs.YtndinbefljajcaaGreatDoor.Worth
open Go.RowKit Go.Shelf
open Go.Proofs.YtndinbefljajcaaGreatDoor.Frac (Got OfTen Room)
open Go.Proofs.YtndinbefljajcaaGreatDoor.Dims (D7 dZero Lies7)
open Go.Proofs.YtndinbefljajcaaGreatDoor.Texts (bs bs_app bs_size)
set_option linter.unusedVariables false
set_option linter.unusedSimpArgs false

/-- What the package variables hold that telling a worth reads. -/
def EnvW (w : World) : Prop := OfTen w ∧ Texts.Tab w ∧ Dims.Letters w
theorem EnvW.below {w w' : World} (h : EnvW w) (hb : Below w.heap.size w w') : EnvW w' := ⟨h.1.below hb, h.2.1.below hb, h.2.2.below hb⟩
theorem EnvW.f {w : World} (h : EnvW w) : Texts.EnvT w := ⟨h.1, h.2.1, trivial⟩
theorem EnvW.d {w : World} (h : EnvW w) : Dims.EnvT w := ⟨h.2.2, h.2.1, trivial⟩

/-- What stands behind the number. -/
def dimL (p : List UInt8) : List UInt8 := if p = [] then [] else 32 :: p
def tagL (g : Int) : List UInt8 := if g = 0 then [] else 32 :: 35 :: Lib.itoa g
/-- The text of a right worth. -/
noncomputable def textR (a : Wo) : List UInt8 := Texts.textL a.n a.d a.t ++ (dimL (Dims.textL a.D) ++ tagL a.g)
noncomputable def textW (a : Wo) : List UInt8 := if rightW a = true then textR a else []

theorem fracText_len (n d t : Int) (h1 : n.natAbs ≤ 9223372036854775807) (h2 : 1 ≤ d) (h3 : d ≤ 9223372036854775807) (h4 : -1000 ≤ t) (h5 : t ≤ 1000) : (Texts.textL n d t).length ≤ 70 := by
  have l1 := Lib.itoa_length_le n (by omega) (by omega)
  have l2 := Lib.itoa_length_le d (by omega) (by omega)
  have l3 := Lib.itoa_length_le t (by omega) (by omega)
  unfold Texts.textL
  simp only [List.length_append]
  have q1 : (if d = 1 then [] else (47 :: Lib.itoa d : List UInt8)).length ≤ 22 := by split <;> simp <;> omega
  have q2 : (if t = 0 then [] else (101 :: Lib.itoa t : List UInt8)).length ≤ 22 := by split <;> simp <;> omega
  omega

set_option maxRecDepth 100000 in
set_option maxHeartbeats 2000000 in
theorem text_no (a : Wo) (w : World) (hE : EnvW w) (hf : a.Fine) (r : rightW a = false) :
    Calls Tryz.prog 10 #[a.v] w fun e w' => e = .returned (.string (bs (textW a))) ∧ Below w.heap.size w w' := by
  have hA := OneAt.new w a
  have rA := right_any a
  have R := Lib.hid r
  have HT : Hid (textW a = []) := by show _ = _; unfold textW; rw [r]; rfl
  clear r
  simp only [Wo.v, Wo.cs] at rA hA ⊢
  obtain ⟨c0, c1, c2, c3, c4, c5, c6, c7, c8, c9, c10⟩ := hA.2.cells
  go_enter Tryz.func10, Tryz.ntmps10
  go_wp2_with fail
  refine (rA _ (hE.below hA.1).1 hf).mono ?_
  rintro e w1 ⟨rfl, hb⟩
  rw [R.out]
  replace hA := hA.go hb
  clear hb c0 c1 c2 c3 c4 c5 c6 c7 c8 c9 c10
  have hB := hA.1
  go_wp2
  refine bodyPost_ret (v := .string (bs [])) (by simp [results, Tryz.results10, go_sem, bs]) rfl ⟨by rw [HT.out], hB⟩

set_option maxRecDepth 100000 in
set_option maxHeartbeats 2000000 in
theorem text_np (a : Wo) (w : World) (hE : EnvW w) (hf : a.Fine) (r : rightW a = true) (hd : Dims.textL a.D = []) (hg : a.g = 0) :
    Calls Tryz.prog 10 #[a.v] w fun e w' => e = .returned (.string (bs (textW a))) ∧ Below w.heap.size w w' := by
  have hA := OneAt.new w a
  have rA := right_any a
  have R := Lib.hid r
  obtain ⟨rF, rD, g0, g1⟩ := (rightW_iff a).1 r
  obtain ⟨x1, x2, x3, x4, x5⟩ := Frac.right_fine hf.n hf.d rF
  have HT : Hid (bs (Texts.textL a.n a.d a.t) = bs (textW a)) := by
    show _ = _
    unfold textW textR dimL tagL
    rw [if_pos r]
    rw [if_pos hd, if_pos hg]
    simp [bs_app, List.append_assoc]
  have tF : ∀ W, EnvW W → Calls Tryz.prog 27 #[.agg #[.int .i64 a.n, .int .i64 a.d, .int .i64 a.t]] W fun e w' => e = .returned (.string (bs (Texts.textL a.n a.d a.t))) ∧ Below W.heap.size W w' := by
    intro W hW
    have h := Texts.text_anyT a.n a.d a.t W hW.f hf.n hf.d
    unfold Texts.textF at h
    rw [if_pos rF] at h
    exact h
  have tD : ∀ W, EnvW W → Calls Tryz.prog 28 #[a.D.v] W fun e w' => e = .returned (.string (bs (Dims.textL a.D))) ∧ Below W.heap.size W w' := fun W hW => Dims.text_yesT a.D W hW.d rD
  have pA := plain_any a
  have PA : Hid ((a.g == 0) = true) := by show _ = _; simp [hg]
  have l1 : (bs (Texts.textL a.n a.d a.t)).size ≤ 70 := by rw [bs_size]; exact fracText_len _ _ _ x1 x2 x3 x4 x5
  have l2 : (bs (Dims.textL a.D)).size ≤ 154 := by rw [bs_size]; exact Dims.text_len a.D hf.D
  have l3 : (bs (Lib.itoa a.g)).size ≤ 21 := Texts.itoa_size a.g hf.g0 hf.g1
  have s1 : (ByteArray.mk #[32]).size = 1 := rfl
  have s2 : (ByteArray.mk #[32, 35]).size = 2 := rfl
  have L1 : (ByteArray.mk #[32] ++ bs (Dims.textL a.D)).size ≤ 155 := by rw [ByteArray.size_append, s1]; omega
  have L2 : (ByteArray.mk #[32, 35] ++ bs (Lib.itoa a.g)).size ≤ 23 := by rw [ByteArray.size_append, s2]; omega
  have L3 : (bs (Texts.textL a.n a.d a.t) ++ (ByteArray.mk #[32] ++ bs (Dims.textL a.D))).size ≤ 225 := by rw [ByteArray.size_append]; omega
  have E1 : (bs (Dims.textL a.D)).toList.isEmpty = true := by rw [show (bs (Dims.textL a.D)).toList = Dims.textL a.D from by rw [ByteArray.toList_eq]; rfl]; simp [hd]
  clear r rF rD hd hg
  generalize Texts.textL a.n a.d a.t = T1 at *
  generalize Dims.textL a.D = T2 at *
  clear L2 l3
  simp only [Wo.v, Wo.cs, D7.v] at rA pA tD hA ⊢
  obtain ⟨c0, c1, c2, c3, c4, c5, c6, c7, c8, c9, c10⟩ := hA.2.cells
  go_enter Tryz.func10, Tryz.ntmps10
  go_wp2_with fail
  refine (rA _ (hE.below hA.1).1 hf).mono ?_
  rintro e w1 ⟨rfl, hb⟩
  rw [R.out]
  replace hA := hA.go hb
  clear hb c0 c1 c2 c3 c4 c5 c6 c7 c8 c9 c10
  obtain ⟨c0, c1, c2, c3, c4, c5, c6, c7, c8, c9, c10⟩ := hA.2.cells
  go_wp2_with fail
  refine (tF _ (hE.below hA.1)).mono ?_
  rintro e w2 ⟨rfl, hb⟩
  replace hA := hA.go hb
  clear hb c0 c1 c2 c3 c4 c5 c6 c7 c8 c9 c10
  obtain ⟨c0, c1, c2, c3, c4, c5, c6, c7, c8, c9, c10⟩ := hA.2.cells
  go_wp2_with fail
  refine (tD _ (hE.below hA.1)).mono ?_
  rintro e w3 ⟨rfl, hb⟩
  replace hA := hA.go hb
  clear hb c0 c1 c2 c3 c4 c5 c6 c7 c8 c9 c10
  obtain ⟨c0, c1, c2, c3, c4, c5, c6, c7, c8, c9, c10⟩ := hA.2.cells
  go_wp2_with fail
  refine (pA _).mono ?_
  rintro e w4 ⟨rfl, hb⟩
  rw [PA.out]
  replace hA := hA.go hb
  clear hb c0 c1 c2 c3 c4 c5 c6 c7 c8 c9 c10
  obtain ⟨c0, c1, c2, c3, c4, c5, c6, c7, c8, c9, c10⟩ := hA.2.cells
  have hB := hA.1
  go_wp2
  refine bodyPost_ret (v := .string (bs (T1))) (by simp [results, Tryz.results10, go_sem]) rfl ⟨by first | (rw [← HT.out]; done) | (rw [← HT.out]; rfl), hB⟩

set_option maxRecDepth 100000 in
set_option maxHeartbeats 2000000 in
theorem text_nt (a : Wo) (w : World) (hE : EnvW w) (hf : a.Fine) (r : rightW a = true) (hd : Dims.textL a.D = []) (hg : a.g ≠ 0) :
    Calls Tryz.prog 10 #[a.v] w fun e w' => e = .returned (.string (bs (textW a))) ∧ Below w.heap.size w w' := by
  have hA := OneAt.new w a
  have rA := right_any a
  have R := Lib.hid r
  obtain ⟨rF, rD, g0, g1⟩ := (rightW_iff a).1 r
  obtain ⟨x1, x2, x3, x4, x5⟩ := Frac.right_fine hf.n hf.d rF
  have HT : Hid ((bs (Texts.textL a.n a.d a.t) ++ (bs [32, 35] ++ bs (Lib.itoa a.g))) = bs (textW a)) := by
    show _ = _
    unfold textW textR dimL tagL
    rw [if_pos r]
    rw [if_pos hd, if_neg hg]
    simp [bs_app, List.append_assoc]
  have tF : ∀ W, EnvW W → Calls Tryz.prog 27 #[.agg #[.int .i64 a.n, .int .i64 a.d, .int .i64 a.t]] W fun e w' => e = .returned (.string (bs (Texts.textL a.n a.d a.t))) ∧ Below W.heap.size W w' := by
    intro W hW
    have h := Texts.text_anyT a.n a.d a.t W hW.f hf.n hf.d
    unfold Texts.textF at h
    rw [if_pos rF] at h
    exact h
  have tD : ∀ W, EnvW W → Calls Tryz.prog 28 #[a.D.v] W fun e w' => e = .returned (.string (bs (Dims.textL a.D))) ∧ Below W.heap.size W w' := fun W hW => Dims.text_yesT a.D W hW.d rD
  have pA := plain_any a
  have PA : Hid ((a.g == 0) = false) := by show _ = _; simpa using hg
  have l1 : (bs (Texts.textL a.n a.d a.t)).size ≤ 70 := by rw [bs_size]; exact fracText_len _ _ _ x1 x2 x3 x4 x5
  have l2 : (bs (Dims.textL a.D)).size ≤ 154 := by rw [bs_size]; exact Dims.text_len a.D hf.D
  have l3 : (bs (Lib.itoa a.g)).size ≤ 21 := Texts.itoa_size a.g hf.g0 hf.g1
  have s1 : (ByteArray.mk #[32]).size = 1 := rfl
  have s2 : (ByteArray.mk #[32, 35]).size = 2 := rfl
  have L1 : (ByteArray.mk #[32] ++ bs (Dims.textL a.D)).size ≤ 155 := by rw [ByteArray.size_append, s1]; omega
  have L2 : (ByteArray.mk #[32, 35] ++ bs (Lib.itoa a.g)).size ≤ 23 := by rw [ByteArray.size_append, s2]; omega
  have L3 : (bs (Texts.textL a.n a.d a.t) ++ (ByteArray.mk #[32] ++ bs (Dims.textL a.D))).size ≤ 225 := by rw [ByteArray.size_append]; omega
  have E1 : (bs (Dims.textL a.D)).toList.isEmpty = true := by rw [show (bs (Dims.textL a.D)).toList = Dims.textL a.D from by rw [ByteArray.toList_eq]; rfl]; simp [hd]
  clear r rF rD hd hg
  generalize Texts.textL a.n a.d a.t = T1 at *
  generalize Dims.textL a.D = T2 at *
  generalize hI : Lib.itoa a.g = T3 at *
  have HI := Lib.hid hI
  clear hI
  simp only [Wo.v, Wo.cs, D7.v] at rA pA tD hA ⊢
  obtain ⟨c0, c1, c2, c3, c4, c5, c6, c7, c8, c9, c10⟩ := hA.2.cells
  go_enter Tryz.func10, Tryz.ntmps10
  go_wp2_with fail
  refine (rA _ (hE.below hA.1).1 hf).mono ?_
  rintro e w1 ⟨rfl, hb⟩
  rw [R.out]
  replace hA := hA.go hb
  clear hb c0 c1 c2 c3 c4 c5 c6 c7 c8 c9 c10
  obtain ⟨c0, c1, c2, c3, c4, c5, c6, c7, c8, c9, c10⟩ := hA.2.cells
  go_wp2_with fail
  refine (tF _ (hE.below hA.1)).mono ?_
  rintro e w2 ⟨rfl, hb⟩
  replace hA := hA.go hb
  clear hb c0 c1 c2 c3 c4 c5 c6 c7 c8 c9 c10
  obtain ⟨c0, c1, c2, c3, c4, c5, c6, c7, c8, c9, c10⟩ := hA.2.cells
  go_wp2_with fail
  refine (tD _ (hE.below hA.1)).mono ?_
  rintro e w3 ⟨rfl, hb⟩
  replace hA := hA.go hb
  clear hb c0 c1 c2 c3 c4 c5 c6 c7 c8 c9 c10
  obtain ⟨c0, c1, c2, c3, c4, c5, c6, c7, c8, c9, c10⟩ := hA.2.cells
  go_wp2_with fail
  refine (pA _).mono ?_
  rintro e w4 ⟨rfl, hb⟩
  rw [PA.out]
  replace hA := hA.go hb
  clear hb c0 c1 c2 c3 c4 c5 c6 c7 c8 c9 c10
  obtain ⟨c0, c1, c2, c3, c4, c5, c6, c7, c8, c9, c10⟩ := hA.2.cells
  go_wp2_with fail
  refine (Texts.dec_any a.g _ (hE.below hA.1).2.1 hf.g0 hf.g1).mono ?_
  rintro e w5 ⟨rfl, hb⟩
  replace hA := hA.go hb
  clear hb c0 c1 c2 c3 c4 c5 c6 c7 c8 c9 c10
  obtain ⟨c0, c1, c2, c3, c4, c5, c6, c7, c8, c9, c10⟩ := hA.2.cells
  rw [HI.out]
  have hB := hA.1
  go_wp2
  refine bodyPost_ret (v := .string (bs (T1) ++ (ByteArray.mk #[32, 35] ++ bs (T3)))) (by simp [results, Tryz.results10, go_sem]) rfl ⟨by first | (rw [← HT.out]; done) | (rw [← HT.out]; rfl), hB⟩

set_option maxRecDepth 100000 in
set_option maxHeartbeats 2000000 in
theorem text_dp (a : Wo) (w : World) (hE : EnvW w) (hf : a.Fine) (r : rightW a = true) (hd : Dims.textL a.D ≠ []) (hg : a.g = 0) :
    Calls Tryz.prog 10 #[a.v] w fun e w' => e = .returned (.string (bs (textW a))) ∧ Below w.heap.size w w' := by
  have hA := OneAt.new w a
  have rA := right_any a
  have R := Lib.hid r
  obtain ⟨rF, rD, g0, g1⟩ := (rightW_iff a).1 r
  obtain ⟨x1, x2, x3, x4, x5⟩ := Frac.right_fine hf.n hf.d rF
  have HT : Hid ((bs (Texts.textL a.n a.d a.t) ++ (bs [32] ++ bs (Dims.textL a.D))) = bs (textW a)) := by
    show _ = _
    unfold textW textR dimL tagL
    rw [if_pos r]
    rw [if_neg hd, if_pos hg]
    simp [bs_app, List.append_assoc]
  have tF : ∀ W, EnvW W → Calls Tryz.prog 27 #[.agg #[.int .i64 a.n, .int .i64 a.d, .int .i64 a.t]] W fun e w' => e = .returned (.string (bs (Texts.textL a.n a.d a.t))) ∧ Below W.heap.size W w' := by
    intro W hW
    have h := Texts.text_anyT a.n a.d a.t W hW.f hf.n hf.d
    unfold Texts.textF at h
    rw [if_pos rF] at h
    exact h
  have tD : ∀ W, EnvW W → Calls Tryz.prog 28 #[a.D.v] W fun e w' => e = .returned (.string (bs (Dims.textL a.D))) ∧ Below W.heap.size W w' := fun W hW => Dims.text_yesT a.D W hW.d rD
  have pA := plain_any a
  have PA : Hid ((a.g == 0) = true) := by show _ = _; simp [hg]
  have l1 : (bs (Texts.textL a.n a.d a.t)).size ≤ 70 := by rw [bs_size]; exact fracText_len _ _ _ x1 x2 x3 x4 x5
  have l2 : (bs (Dims.textL a.D)).size ≤ 154 := by rw [bs_size]; exact Dims.text_len a.D hf.D
  have l3 : (bs (Lib.itoa a.g)).size ≤ 21 := Texts.itoa_size a.g hf.g0 hf.g1
  have s1 : (ByteArray.mk #[32]).size = 1 := rfl
  have s2 : (ByteArray.mk #[32, 35]).size = 2 := rfl
  have L1 : (ByteArray.mk #[32] ++ bs (Dims.textL a.D)).size ≤ 155 := by rw [ByteArray.size_append, s1]; omega
  have L2 : (ByteArray.mk #[32, 35] ++ bs (Lib.itoa a.g)).size ≤ 23 := by rw [ByteArray.size_append, s2]; omega
  have L3 : (bs (Texts.textL a.n a.d a.t) ++ (ByteArray.mk #[32] ++ bs (Dims.textL a.D))).size ≤ 225 := by rw [ByteArray.size_append]; omega
  have E1 : (bs (Dims.textL a.D)).toList.isEmpty = false := by rw [show (bs (Dims.textL a.D)).toList = Dims.textL a.D from by rw [ByteArray.toList_eq]; rfl]; simpa using hd
  clear r rF rD hd hg
  generalize Texts.textL a.n a.d a.t = T1 at *
  generalize Dims.textL a.D = T2 at *
  clear L2 l3
  simp only [Wo.v, Wo.cs, D7.v] at rA pA tD hA ⊢
  obtain ⟨c0, c1, c2, c3, c4, c5, c6, c7, c8, c9, c10⟩ := hA.2.cells
  go_enter Tryz.func10, Tryz.ntmps10
  go_wp2_with fail
  refine (rA _ (hE.below hA.1).1 hf).mono ?_
  rintro e w1 ⟨rfl, hb⟩
  rw [R.out]
  replace hA := hA.go hb
  clear hb c0 c1 c2 c3 c4 c5 c6 c7 c8 c9 c10
  obtain ⟨c0, c1, c2, c3, c4, c5, c6, c7, c8, c9, c10⟩ := hA.2.cells
  go_wp2_with fail
  refine (tF _ (hE.below hA.1)).mono ?_
  rintro e w2 ⟨rfl, hb⟩
  replace hA := hA.go hb
  clear hb c0 c1 c2 c3 c4 c5 c6 c7 c8 c9 c10
  obtain ⟨c0, c1, c2, c3, c4, c5, c6, c7, c8, c9, c10⟩ := hA.2.cells
  go_wp2_with fail
  refine (tD _ (hE.below hA.1)).mono ?_
  rintro e w3 ⟨rfl, hb⟩
  replace hA := hA.go hb
  clear hb c0 c1 c2 c3 c4 c5 c6 c7 c8 c9 c10
  obtain ⟨c0, c1, c2, c3, c4, c5, c6, c7, c8, c9, c10⟩ := hA.2.cells
  go_wp2_with fail
  refine (pA _).mono ?_
  rintro e w4 ⟨rfl, hb⟩
  rw [PA.out]
  replace hA := hA.go hb
  clear hb c0 c1 c2 c3 c4 c5 c6 c7 c8 c9 c10
  obtain ⟨c0, c1, c2, c3, c4, c5, c6, c7, c8, c9, c10⟩ := hA.2.cells
  have hB := hA.1
  go_wp2
  refine bodyPost_ret (v := .string (bs (T1) ++ (ByteArray.mk #[32] ++ bs (T2)))) (by simp [results, Tryz.results10, go_sem]) rfl ⟨by first | (rw [← HT.out]; done) | (rw [← HT.out]; rfl), hB⟩

set_option maxRecDepth 100000 in
set_option maxHeartbeats 2000000 in
theorem text_dt (a : Wo) (w : World) (hE : EnvW w) (hf : a.Fine) (r : rightW a = true) (hd : Dims.textL a.D ≠ []) (hg : a.g ≠ 0) :
    Calls Tryz.prog 10 #[a.v] w fun e w' => e = .returned (.string (bs (textW a))) ∧ Below w.heap.size w w' := by
  have hA := OneAt.new w a
  have rA := right_any a
  have R := Lib.hid r
  obtain ⟨rF, rD, g0, g1⟩ := (rightW_iff a).1 r
  obtain ⟨x1, x2, x3, x4, x5⟩ := Frac.right_fine hf.n hf.d rF
  have HT : Hid (((bs (Texts.textL a.n a.d a.t) ++ (bs [32] ++ bs (Dims.textL a.D))) ++ (bs [32, 35] ++ bs (Lib.itoa a.g))) = bs (textW a)) := by
    show _ = _
    unfold textW textR dimL tagL
    rw [if_pos r]
    rw [if_neg hd, if_neg hg]
    simp [bs_app, List.append_assoc]
  have tF : ∀ W, EnvW W → Calls Tryz.prog 27 #[.agg #[.int .i64 a.n, .int .i64 a.d, .int .i64 a.t]] W fun e w' => e = .returned (.string (bs (Texts.textL a.n a.d a.t))) ∧ Below W.heap.size W w' := by
    intro W hW
    have h := Texts.text_anyT a.n a.d a.t W hW.f hf.n hf.d
    unfold Texts.textF at h
    rw [if_pos rF] at h
    exact h
  have tD : ∀ W, EnvW W → Calls Tryz.prog 28 #[a.D.v] W fun e w' => e = .returned (.string (bs (Dims.textL a.D))) ∧ Below W.heap.size W w' := fun W hW => Dims.text_yesT a.D W hW.d rD
  have pA := plain_any a
  have PA : Hid ((a.g == 0) = false) := by show _ = _; simpa using hg
  have l1 : (bs (Texts.textL a.n a.d a.t)).size ≤ 70 := by rw [bs_size]; exact fracText_len _ _ _ x1 x2 x3 x4 x5
  have l2 : (bs (Dims.textL a.D)).size ≤ 154 := by rw [bs_size]; exact Dims.text_len a.D hf.D
  have l3 : (bs (Lib.itoa a.g)).size ≤ 21 := Texts.itoa_size a.g hf.g0 hf.g1
  have s1 : (ByteArray.mk #[32]).size = 1 := rfl
  have s2 : (ByteArray.mk #[32, 35]).size = 2 := rfl
  have L1 : (ByteArray.mk #[32] ++ bs (Dims.textL a.D)).size ≤ 155 := by rw [ByteArray.size_append, s1]; omega
  have L2 : (ByteArray.mk #[32, 35] ++ bs (Lib.itoa a.g)).size ≤ 23 := by rw [ByteArray.size_append, s2]; omega
  have L3 : (bs (Texts.textL a.n a.d a.t) ++ (ByteArray.mk #[32] ++ bs (Dims.textL a.D))).size ≤ 225 := by rw [ByteArray.size_append]; omega
  have E1 : (bs (Dims.textL a.D)).toList.isEmpty = false := by rw [show (bs (Dims.textL a.D)).toList = Dims.textL a.D from by rw [ByteArray.toList_eq]; rfl]; simpa using hd
  clear r rF rD hd hg
  generalize Texts.textL a.n a.d a.t = T1 at *
  generalize Dims.textL a.D = T2 at *
  generalize hI : Lib.itoa a.g = T3 at *
  have HI := Lib.hid hI
  clear hI
  simp only [Wo.v, Wo.cs, D7.v] at rA pA tD hA ⊢
  obtain ⟨c0, c1, c2, c3, c4, c5, c6, c7, c8, c9, c10⟩ := hA.2.cells
  go_enter Tryz.func10, Tryz.ntmps10
  go_wp2_with fail
  refine (rA _ (hE.below hA.1).1 hf).mono ?_
  rintro e w1 ⟨rfl, hb⟩
  rw [R.out]
  replace hA := hA.go hb
  clear hb c0 c1 c2 c3 c4 c5 c6 c7 c8 c9 c10
  obtain ⟨c0, c1, c2, c3, c4, c5, c6, c7, c8, c9, c10⟩ := hA.2.cells
  go_wp2_with fail
  refine (tF _ (hE.below hA.1)).mono ?_
  rintro e w2 ⟨rfl, hb⟩
  replace hA := hA.go hb
  clear hb c0 c1 c2 c3 c4 c5 c6 c7 c8 c9 c10
  obtain ⟨c0, c1, c2, c3, c4, c5, c6, c7, c8, c9, c10⟩ := hA.2.cells
  go_wp2_with fail
  refine (tD _ (hE.below hA.1)).mono ?_
  rintro e w3 ⟨rfl, hb⟩
  replace hA := hA.go hb
  clear hb c0 c1 c2 c3 c4 c5 c6 c7 c8 c9 c10
  obtain ⟨c0, c1, c2, c3, c4, c5, c6, c7, c8, c9, c10⟩ := hA.2.cells
  go_wp2_with fail
  refine (pA _).mono ?_
  rintro e w4 ⟨rfl, hb⟩
  rw [PA.out]
  replace hA := hA.go hb
  clear hb c0 c1 c2 c3 c4 c5 c6 c7 c8 c9 c10
  obtain ⟨c0, c1, c2, c3, c4, c5, c6, c7, c8, c9, c10⟩ := hA.2.cells
  go_wp2_with fail
  refine (Texts.dec_any a.g _ (hE.below hA.1).2.1 hf.g0 hf.g1).mono ?_
  rintro e w5 ⟨rfl, hb⟩
  replace hA := hA.go hb
  clear hb c0 c1 c2 c3 c4 c5 c6 c7 c8 c9 c10
  obtain ⟨c0, c1, c2, c3, c4, c5, c6, c7, c8, c9, c10⟩ := hA.2.cells
  rw [HI.out]
  have hB := hA.1
  go_wp2
  refine bodyPost_ret (v := .string (bs (T1) ++ (ByteArray.mk #[32] ++ bs (T2)) ++ (ByteArray.mk #[32, 35] ++ bs (T3)))) (by simp [results, Tryz.results10, go_sem]) rfl ⟨by first | (rw [← HT.out]; done) | (rw [← HT.out]; rfl), hB⟩

/-- What Text tells. -/
theorem text_any (a : Wo) (w : World) (hE : EnvW w) (hf : a.Fine) :
    Calls Tryz.prog 10 #[a.v] w fun e w' => e = .returned (.string (bs (textW a))) ∧ Below w.heap.size w w' := by
  by_cases r : rightW a = true
  · by_cases hd : Dims.textL a.D = []
    · by_cases hg : a.g = 0
      · exact text_np a w hE hf r hd hg
      · exact text_nt a w hE hf r hd hg
    · by_cases hg : a.g = 0
      · exact text_dp a w hE hf r hd hg
      · exact text_dt a w hE hf r hd hg
  · exact text_no a w hE hf (by simpa using r)

end Go.Proofs.YtndinbefljajcaaGreatDoor.Worth
