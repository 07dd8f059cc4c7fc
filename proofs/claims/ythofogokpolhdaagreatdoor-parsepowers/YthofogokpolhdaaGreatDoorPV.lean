/-
  The walk of ParsePowers.
-/
import Derived.Test.YthofogokpolhdaaGreatDoorPY
import Derived.Test.YthofogokpolhdaaGreatDoorY6
namespace Go.Proofs.YthofogokpolhdaaGreatDoor.Parses
open Go.RowKit Go.Shelf
open Go.Proofs.YthofogokpolhdaaGreatDoor.Trees (Stp StepsAt cellS But)
open Go.Proofs.YthofogokpolhdaaGreatDoor.Toks (Tok ToksAt cell_lt cell_same SliceAt Above Grid Env kd)
open Go.Proofs.YthofogokpolhdaaGreatDoor.Style (bs bs_size bs_app bs_toList isN Styles stZ St rof_any)
open Go.Proofs.YthofogokpolhdaaGreatDoor.Texts (val val_nil val_cons val_app digOf)
set_option linter.unusedVariables false
set_option linter.unusedSimpArgs false

/-! ### The law's numbers -/

def zeros (z : Nat) : List UInt8 := List.replicate z 48
def dig3 (m : Nat) : List UInt8 := [UInt8.ofNat (48 + m / 100), UInt8.ofNat (48 + m / 10 % 10), UInt8.ofNat (48 + m % 10)]
def digs (z m : Nat) : List UInt8 := zeros z ++ dig3 m
theorem val_zeros : ∀ z, val 0 (zeros z) = 0
  | 0 => val_nil 0
  | z + 1 => by
    show val 0 (48 :: zeros z) = 0
    rw [val_cons]
    exact val_zeros z
theorem val_digs (z m : Nat) (hm : m ≤ 200) : val 0 (digs z m) = m := by
  unfold digs dig3
  rw [val_app, val_zeros]
  simp only [val_cons, val_nil]
  rw [digOf _ (by omega), digOf _ (by omega), digOf _ (by omega)]
  omega
theorem digs_ne (z m : Nat) : digs z m ≠ [] := by
  unfold digs dig3
  intro h
  have := congrArg List.length h
  simp at this
theorem digs_len (z m : Nat) : (digs z m).length = z + 3 := by
  unfold digs dig3 zeros
  rw [List.length_append, List.length_replicate]; rfl
theorem digs_kd {k : Nat} (hk : k < 5) (z m : Nat) (hm : m ≤ 200) : ∀ c ∈ digs z m, kd ((k : Int) + 1) c = 2 := by
  intro c hc
  unfold digs dig3 zeros at hc
  rcases List.mem_append.1 hc with h | h
  · rw [List.mem_replicate] at h
    rw [h.2]
    exact kd_digit hk 0 (by omega)
  · simp only [List.mem_cons, List.not_mem_nil, or_false] at h
    rcases h with rfl | rfl | rfl
    · exact kd_digit hk _ (by omega)
    · exact kd_digit hk _ (by omega)
    · exact kd_digit hk _ (by omega)
def sgOf (r : Nat) : List UInt8 := if r = 0 then [] else if r = 1 then [43] else [45]
theorem sg_is (r : Nat) : isSg (sgOf r) := by
  unfold sgOf isSg
  split
  · exact .inl rfl
  · split
    · exact .inr (.inl rfl)
    · exact .inr (.inr rfl)

theorem sign_at (r : Nat) (hr : r < 3) (W : World) : (Instr.index 50 (.agg #[.string ⟨#[]⟩, .string ⟨#[43]⟩, .string ⟨#[45]⟩]) (.int .i64 (r : Int))).run Tryz.prog W = .ok (.string (bs (sgOf r))) W := by
  rcases (by omega : r = 0 ∨ r = 1 ∨ r = 2) with rfl | rfl | rfl <;> kernel_rfl

theorem dig3_int (m : Nat) : [UInt8.ofNat (48 + (m : Int) / 100).toNat, UInt8.ofNat (48 + (m : Int) / 10 % 10).toNat, UInt8.ofNat (48 + (m : Int) % 10).toNat] = dig3 m := by
  have a : (48 + (m : Int) / 100).toNat = 48 + m / 100 := by omega
  have b : (48 + (m : Int) / 10 % 10).toNat = 48 + m / 10 % 10 := by omega
  have c : (48 + (m : Int) % 10).toNat = 48 + m % 10 := by omega
  rw [a, b, c]; rfl
theorem u8_in (n : Int) (h : 0 ≤ n ∧ n ≤ 255) : IntKind.u8.wrap n = n := by
  show n % 256 = n
  omega
theorem fld3 (a b c d e f : Value) (w : World) : (Instr.field 43 (.agg #[a, b, c, d, e, f]) 3).run Tryz.prog w = .ok d w := by kernel_rfl
/-- A box of four cells. -/
structure Box4 (W : World) (b : Nat) (v0 v1 v2 v3 : Value) : Prop where
  c0 : W.cell? ⟨b, 0, none⟩ = some v0
  c1 : W.cell? ⟨b, 1, none⟩ = some v1
  c2 : W.cell? ⟨b, 2, none⟩ = some v2
  c3 : W.cell? ⟨b, 3, none⟩ = some v3
  fz : ∀ j, W.frozen? ⟨b, j, none⟩ = false
theorem Box4.new (W : World) (v0 v1 v2 v3 : Value) : Box4 (W.alloc (.cells #[v0, v1, v2, v3] 37)) W.heap.size v0 v1 v2 v3 := ⟨by simp [go_sem], by simp [go_sem], by simp [go_sem], by simp [go_sem], fun j => by simp [go_sem]⟩
theorem Box4.go {W W' : World} {b : Nat} {v0 v1 v2 v3 : Value} (h : Box4 W b v0 v1 v2 v3) (hb : Below W.heap.size W W') : Box4 W' b v0 v1 v2 v3 :=
  ⟨(hb.cell (p := ⟨b, 0, none⟩) (cell_lt h.c0)).trans h.c0, (hb.cell (p := ⟨b, 1, none⟩) (cell_lt h.c0)).trans h.c1, (hb.cell (p := ⟨b, 2, none⟩) (cell_lt h.c0)).trans h.c2, (hb.cell (p := ⟨b, 3, none⟩) (cell_lt h.c0)).trans h.c3, fun j => (hb.frozen (p := ⟨b, j, none⟩) (cell_lt h.c0)).trans (h.fz j)⟩
/-- A string of three bytes, of a slice that was just made. -/
theorem three_bytes (w : World) (x y z : Int) : (convert 45 9 (.slice (some ⟨w.heap.size, 0, none⟩) 3 3)).run Tryz.prog (w.alloc (.cells #[.int .u8 x, .int .u8 y, .int .u8 z] 5)) = .ok (.string (bs [UInt8.ofNat x.toNat, UInt8.ofNat y.toNat, UInt8.ofNat z.toNat])) (w.alloc (.cells #[.int .u8 x, .int .u8 y, .int .u8 z] 5)) := by
  refine run_convert_bytes_arg _ 45 5 (by kernel_rfl) (by kernel_rfl) w.heap.size 0 3 3 [x, y, z] rfl ?_ 9 (by kernel_rfl)
  intro i hi
  rcases (by omega : i = 0 ∨ i = 1 ∨ i = 2) with rfl | rfl | rfl <;> simp [go_sem]
theorem three_drew (w : World) (x y z : Int) : (convert 45 9 (.slice (some ⟨w.heap.size, 0, none⟩) 3 3)).run Tryz.prog (w.alloc (.cells #[.int .u8 x, .int .u8 y, .int .u8 z] 5)).drew = .ok (.string (bs [UInt8.ofNat x.toNat, UInt8.ofNat y.toNat, UInt8.ofNat z.toNat])) (w.alloc (.cells #[.int .u8 x, .int .u8 y, .int .u8 z] 5)).drew := by
  refine run_convert_bytes_arg _ 45 5 (by kernel_rfl) (by kernel_rfl) w.heap.size 0 3 3 [x, y, z] rfl ?_ 9 (by kernel_rfl)
  intro i hi
  rcases (by omega : i = 0 ∨ i = 1 ∨ i = 2) with rfl | rfl | rfl <;> simp [go_sem]
theorem noughts_at (z : Nat) (hz : z < 4) (W : World) : (Instr.slice 9 (.string ⟨#[48, 48, 48]⟩) none (some (.int .i64 (z : Int))) none).run Tryz.prog W = .ok (.string (bs (zeros z))) W := by
  rcases (by omega : z = 0 ∨ z = 1 ∨ z = 2 ∨ z = 3) with rfl | rfl | rfl | rfl <;> kernel_rfl

set_option maxRecDepth 100000 in
set_option maxHeartbeats 4000000 in
theorem powers_walk (n power q0 q1 : Int) (w : World) (hE : Env w) (hn : -9223372036854775808 ≤ n ∧ n ≤ 9223372036854775807) (hp : -9223372036854775808 ≤ power ∧ power ≤ 9223372036854775807) (h0 : -9223372036854775808 ≤ q0 ∧ q0 ≤ 9223372036854775807) (h1 : -9223372036854775808 ≤ q1 ∧ q1 ≤ 9223372036854775807) :
    Calls Tryz.prog 7 #[.int .i64 n, .int .i64 power, .agg #[.int .i64 q0, .int .i64 q1]] w fun e w' => e = .returned (.bool true) ∧ Below w.heap.size w w' := by
  have hR := rest_any n 5
  have hk := restN_lt n 5 (by omega)
  generalize restN n 5 = k at hR hk
  have hRm := rest_any power 201
  have hm := restN_lt power 201 (by omega)
  generalize restN power 201 = m at hRm hm
  have hRs := rest_any q0 3
  have hs := restN_lt q0 3 (by omega)
  generalize restN q0 3 = r at hRs hs
  have hRz := rest_any q1 4
  have hz := restN_lt q1 4 (by omega)
  generalize restN q1 4 = z at hRz hz
  have hki : (k : Int) < 5 := by omega
  have hmi : (m : Int) ≤ 200 := by omega
  have hu0 := alloc_own w (.cells #[.int .i64 q0, .int .i64 q1] 49)
  have c0 : (w.alloc (.cells #[.int .i64 q0, .int .i64 q1] 49)).cell? ⟨w.heap.size, 0, none⟩ = some (.int .i64 q0) := by simp [go_sem]
  have c1 : (w.alloc (.cells #[.int .i64 q0, .int .i64 q1] 49)).cell? ⟨w.heap.size, 1, none⟩ = some (.int .i64 q1) := by simp [go_sem]
  have hE0 := hE.go hu0
  go_enter Tryz.func7, Tryz.ntmps7
  go_wp2_with fail
  generalize w.alloc (.cells #[.int .i64 q0, .int .i64 q1] 49) = W0 at *
  refine (awake_yes W0 hE0).mono ?_
  rintro e w1 ⟨rfl, hb1⟩
  have hE1 := hE0.go hb1
  have d0 := (hb1.cell (p := ⟨w.heap.size, 0, none⟩) (cell_lt c0)).trans c0
  have d1 := (hb1.cell (p := ⟨w.heap.size, 1, none⟩) (cell_lt c1)).trans c1
  have hB1 := hu0.trans (hb1.mono hu0.size)
  clear hE hE0 hu0 hb1 c0 c1
  go_wp2_with fail
  refine (hR w1 (by omega) (by omega)).mono ?_
  rintro e w2 ⟨rfl, rfl⟩
  go_wp2_with fail
  refine (hRm w1 (by omega) (by omega)).mono ?_
  rintro e w2 ⟨rfl, rfl⟩
  go_wp2_with fail
  refine (hRs w1 (by omega) (by omega)).mono ?_
  rintro e w2 ⟨rfl, rfl⟩
  have hix := sign_at r hs
  have hSg := Lib.hid (sg_is r)
  generalize sgOf r = S at *
  go_wp2_with fail
  have hno := noughts_at z hz
  have k1 : IntKind.i64.wrap ((m : Int) / 100) = (m : Int) / 100 := IntWalk.i64_in _ ⟨by omega, by omega⟩
  have k2 : IntKind.i64.wrap (48 + (m : Int) / 100) = 48 + (m : Int) / 100 := IntWalk.i64_in _ ⟨by omega, by omega⟩
  have k3 : IntKind.u8.wrap (48 + (m : Int) / 100) = 48 + (m : Int) / 100 := u8_in _ ⟨by omega, by omega⟩
  have k4 : IntKind.i64.wrap ((m : Int) / 10) = (m : Int) / 10 := IntWalk.i64_in _ ⟨by omega, by omega⟩
  have k5 : ((m : Int) / 10).tmod 10 = (m : Int) / 10 % 10 := Int.tmod_eq_emod_of_nonneg (by omega)
  have k6 : IntKind.i64.wrap (48 + (m : Int) / 10 % 10) = 48 + (m : Int) / 10 % 10 := IntWalk.i64_in _ ⟨by omega, by omega⟩
  have k7 : IntKind.u8.wrap (48 + (m : Int) / 10 % 10) = 48 + (m : Int) / 10 % 10 := u8_in _ ⟨by omega, by omega⟩
  have k8 : ((m : Int)).tmod 10 = (m : Int) % 10 := Int.tmod_eq_emod_of_nonneg (by omega)
  have k9 : IntKind.i64.wrap (48 + (m : Int) % 10) = 48 + (m : Int) % 10 := IntWalk.i64_in _ ⟨by omega, by omega⟩
  have kA : IntKind.u8.wrap (48 + (m : Int) % 10) = 48 + (m : Int) % 10 := u8_in _ ⟨by omega, by omega⟩
  have ob : ∀ W : World, (convert 45 9 (.slice (some ⟨W.heap.size, 0, none⟩) 3 3)).run Tryz.prog (W.alloc (.cells #[.int .u8 (48 + (m : Int) / 100), .int .u8 (48 + (m : Int) / 10 % 10), .int .u8 (48 + (m : Int) % 10)] 5)) = .ok (.string (bs (dig3 m))) (W.alloc (.cells #[.int .u8 (48 + (m : Int) / 100), .int .u8 (48 + (m : Int) / 10 % 10), .int .u8 (48 + (m : Int) % 10)] 5)) := fun W => (three_bytes W _ _ _).trans (by rw [dig3_int])
  have od : ∀ W : World, (convert 45 9 (.slice (some ⟨W.heap.size, 0, none⟩) 3 3)).run Tryz.prog (W.alloc (.cells #[.int .u8 (48 + (m : Int) / 100), .int .u8 (48 + (m : Int) / 10 % 10), .int .u8 (48 + (m : Int) % 10)] 5)).drew = .ok (.string (bs (dig3 m))) (W.alloc (.cells #[.int .u8 (48 + (m : Int) / 100), .int .u8 (48 + (m : Int) / 10 % 10), .int .u8 (48 + (m : Int) % 10)] 5)).drew := fun W => (three_drew W _ _ _).trans (by rw [dig3_int])
  have hs1 : (bs (zeros z)).size ≤ 1000 := by rw [bs_size]; unfold zeros; rw [List.length_replicate]; omega
  have hs2 : (bs (dig3 m)).size ≤ 1000 := by rw [bs_size]; exact (by decide : (3 : Nat) ≤ 1000)
  have HD := Lib.hid (show digs z m = zeros z ++ dig3 m from rfl)
  generalize hDg : dig3 m = Dg at *
  have hz1 := cell_lt d1
  have hcd : w1.drew.cell? ⟨w.heap.size, 1, none⟩ = some (.int .i64 q1) := d1
  have hca : ∀ o, (w1.alloc o).drew.cell? ⟨w.heap.size, 1, none⟩ = some (.int .i64 q1) := fun o => cell_same d1 (Below.heap_alloc w1 o _ hz1)
  have hcb : ∀ o, (w1.alloc o).cell? ⟨w.heap.size, 1, none⟩ = some (.int .i64 q1) := fun o => cell_same d1 (Below.heap_alloc w1 o _ hz1)
  have hRz' := fun W => hRz W (by omega) (by omega)
  clear hDg
  generalize hZ : zeros z = Z at *
  clear hZ
  have hcat : ¬ 9223372036854775807 < (bs Z).size + (bs Dg).size := by omega
  go_cut [11] from 20 (fun x wx => x = .string (bs Z ++ bs Dg) ∧ wx = (w1.alloc (.cells #[.int .u8 (48 + (m : Int) / 100), .int .u8 (48 + (m : Int) / 10 % 10), .int .u8 (48 + (m : Int) % 10)] 5)).drew)
  case first =>
    go_region_with (first | (go_at_call 11; refine (hRz' _).mono ?_; rintro e w' ⟨rfl, rfl⟩))
    all_goals
      go_wp2_with fail
      go_meet
      exact ⟨rfl, rfl⟩
  case rest =>
    obtain ⟨rfl, rfl⟩ := hcut
    have hbX : Below w1.heap.size w1 (w1.alloc (.cells #[.int .u8 (48 + (m : Int) / 100), .int .u8 (48 + (m : Int) / 10 % 10), .int .u8 (48 + (m : Int) % 10)] 5)).drew := ((Below.refl _ _).alloc (Nat.le_refl _) _).drew
    have hEX := hE1.go hbX
    have hBX := hB1.trans (hbX.mono hB1.size)
    clear hcat hs1 hs2 hRz' hcb hca hcd hz1 od ob k1 k2 k3 k4 k5 k6 k7 k8 k9 kA hno hix d0 d1 hB1 hE1 hbX hR hRm hRs hRz
    generalize (w1.alloc (.cells #[.int .u8 (48 + (m : Int) / 100), .int .u8 (48 + (m : Int) / 10 % 10), .int .u8 (48 + (m : Int) % 10)] 5)).drew = X at *
    rw [bs_app, ← HD.out]
    have hDv := val_digs z m (by omega)
    have hDn := digs_ne z m
    have hDl := digs_len z m
    have hDk := digs_kd hk z m (by omega)
    clear HD
    generalize digs z m = D at *
    have hSl : S.length ≤ 1 := by rcases hSg.out with rfl | rfl | rfl <;> simp
    have hP : ∀ (s : List UInt8) (W : World), Env W → s.length ≤ 255 → Calls Tryz.prog 17 #[.int .i64 (1 + (k : Int)), .string (bs s)] W (TreeEnd k (pToks ((k : Int) + 1) s) (s.length : Int) W) := fun s W hW hl => by
      have h := parse_any k s W hW hk hl
      rw [show 1 + (k : Int) = (k : Int) + 1 by omega]
      exact h
    have hO : Calls Tryz.prog 20 #[.int .i64 (1 + (k : Int))] X fun e w' => e = .returned (stZ ((k : Int) + 1)).v ∧ Below X.heap.size X w' := by
      rw [show 1 + (k : Int) = (k : Int) + 1 by omega]
      exact rof_any _ X
    have hWr := Lib.hid (wrong_end hk hSg.out hDn hDk (by omega))
    have hRi := Lib.hid (right_end hk hSg.out hDn hDk (by omega))
    have hAl := Lib.hid (alone_end hk)
    have hpw : powN k = ((stZ ((k : Int) + 1)).pow != 0) := rfl
    generalize stZ ((k : Int) + 1) = y at *
    obtain ⟨yf, ym, yd, yp, yo, yc⟩ := y
    simp only [St.v] at hO hpw
    rw [hDv] at hRi
    have z1 : (bs S).size ≤ 1 := by rw [bs_size]; exact hSl
    have z2 : (bs D).size ≤ 10 := by rw [bs_size]; omega
    have hXz := hEX.err.1
    have hf3 := fld3
    have eW : (⟨#[109, 94]⟩ : ByteArray) ++ bs S ++ bs D = bs (withT S D) := by
      show bs [109, 94] ++ bs S ++ bs D = _
      rw [bs_app, bs_app]; rfl
    have eL : (⟨#[109]⟩ : ByteArray) ++ bs S ++ bs D = bs (lessT S D) := by
      show bs [109] ++ bs S ++ bs D = _
      rw [bs_app, bs_app]; rfl
    have lW : (withT S D).length ≤ 255 := by unfold withT; simp only [List.length_cons, List.length_append]; omega
    have lL : (lessT S D).length ≤ 255 := by unfold lessT; simp only [List.length_cons, List.length_append]; omega
    go_wp2_with fail
    refine hO.mono ?_
    rintro e X1 ⟨rfl, hbX1⟩
    have hE1 := hEX.go hbX1
    have hB1 := hBX.trans (hbX1.mono hBX.size)
    clear hO hbX1 hBX hEX
    by_cases hp : powN k = true
    · by_cases h9 : m ≤ 99
      · have hyp : ¬ yp = 0 := by rw [hp] at hpw; intro e; rw [e] at hpw; cases hpw
        have hW1 : ∀ size, treeAll k (pToks ((k : Int) + 1) (lessT S D)) size = .error (14, 1, 0) := fun size => by have h := hWr.out size; unfold wrongT at h; rw [if_pos hp] at h; exact h
        have hR1 : ∀ size, treeAll k (pToks ((k : Int) + 1) (withT S D) ) size = .ok [mStep k (pwr S m)] := fun size => by have h := hRi.out size; unfold rightT atZ at h; rw [if_pos hp, if_pos hp] at h; rw [if_pos h9] at h; exact h
        have hmz : (m : Int) ≤ 99 := by omega
        have hA1 := hAl.out 1
        clear hWr hRi hAl hpw
        go_wp2_with fail
        refine (hP (withT S D) X1 hE1 lW).mono ?_
        rintro e X2 he
        obtain ⟨o2, c2, rfl, hS2, -, ha2⟩ := end_ok he (hR1 _)
        obtain ⟨b2, rfl, hg2⟩ := steps_in hS2 (by simp)
        obtain ⟨ln2, hln2⟩ : ∃ z : Int, (((withT S D).length : Nat) : Int) = z := ⟨_, rfl⟩
        rw [hln2]
        clear hS2 hln2
        have hu2 := alloc_own X2 (.cells #[.slice (some ⟨b2, 0, none⟩) 1 c2, .int .i64 0, .int .i64 ln2, .int .i64 0] 37)
        have hb2 := ha2.trans (hu2.mono ha2.size)
        have hE2 := hE1.go hb2
        have hB2 := hB1.trans (hb2.mono hB1.size)
        have hx2 : Box4 (X2.alloc (.cells #[.slice (some ⟨b2, 0, none⟩) 1 c2, .int .i64 0, .int .i64 ln2, .int .i64 0] 37)) X2.heap.size (.slice (some ⟨b2, 0, none⟩) 1 c2) (.int .i64 0) (.int .i64 ln2) (.int .i64 0) := Box4.new _ _ _ _ _
        replace hg2 := hg2.go hu2
        clear he
        go_wp2_with fail
        generalize X2.alloc (.cells #[.slice (some ⟨b2, 0, none⟩) 1 c2, .int .i64 0, .int .i64 ln2, .int .i64 0] 37) = Y2 at *
        refine (hP (lessT S D) Y2 hE2 lL).mono ?_
        rintro e X3 he
        obtain ⟨rfl, ha3⟩ := end_err he (hW1 _)
        have hu3 := alloc_own X3 (.cells #[.slice none 0 0, .int .i64 14, .int .i64 1, .int .i64 0] 37)
        have hb3 := ha3.trans (hu3.mono ha3.size)
        have hE3 := hE2.go hb3
        have hB3 := hB2.trans (hb3.mono hB2.size)
        have hx3 : Box4 (X3.alloc (.cells #[.slice none 0 0, .int .i64 14, .int .i64 1, .int .i64 0] 37)) X3.heap.size (.slice none 0 0) (.int .i64 14) (.int .i64 1) (.int .i64 0) := Box4.new _ _ _ _ _
        replace hx2 := hx2.go hb3
        clear he
        go_wp2_with fail
        generalize X3.alloc (.cells #[.slice none 0 0, .int .i64 14, .int .i64 1, .int .i64 0] 37) = Y3 at *
        have hg := hg2.go hb3
        refine (hP ([109] : List UInt8) Y3 hE3 (by decide)).mono ?_
        rintro e X4 he
        obtain ⟨o4, c4, rfl, hS4, -, ha4⟩ := end_ok he hA1
        obtain ⟨b4, rfl, hg4⟩ := steps_in hS4 (by simp)
        obtain ⟨ln4, hln4⟩ : ∃ z : Int, ((([109] : List UInt8).length : Nat) : Int) = z := ⟨_, rfl⟩
        rw [hln4]
        clear hS4 hln4
        have hu4 := alloc_own X4 (.cells #[.slice (some ⟨b4, 0, none⟩) 1 c4, .int .i64 0, .int .i64 ln4, .int .i64 0] 37)
        have hb4 := ha4.trans (hu4.mono ha4.size)
        have hE4 := hE3.go hb4
        have hB4 := hB3.trans (hb4.mono hB3.size)
        have hx4 : Box4 (X4.alloc (.cells #[.slice (some ⟨b4, 0, none⟩) 1 c4, .int .i64 0, .int .i64 ln4, .int .i64 0] 37)) X4.heap.size (.slice (some ⟨b4, 0, none⟩) 1 c4) (.int .i64 0) (.int .i64 ln4) (.int .i64 0) := Box4.new _ _ _ _ _
        replace hg4 := hg4.go hu4
        replace hx2 := hx2.go hb4
        replace hx3 := hx3.go hb4
        clear he
        replace hg := hg.go hb4
        have g3 := hg.1 0 (by simp) 3 (by omega)
        have gv : cellS [mStep k (pwr S m)] 0 3 = .int .i64 (pwr S m) := rfl
        rw [gv] at g3
        simp only [Nat.reduceMul, Nat.reduceAdd] at g3
        clear hg gv
        clear hR1 hW1 hA1 hP hb2 hb3 hb4 ha2 ha3 hu2 hu3 hu4 hg4 hB1 hB2 hE1 hE2 hE3 hE4 eW eL lW lL hDk hDn hDl hf3 hp h9 z1 z2 hSl
        have hq2 := cell_lt hx2.c0
        have p20 := hx2.c0
        have p21 := hx2.c1
        have p22 := hx2.c2
        have p23 := hx2.c3
        have hq3 := cell_lt hx3.c0
        have p30 := hx3.c0
        have p31 := hx3.c1
        have p32 := hx3.c2
        have p33 := hx3.c3
        have hq4 := cell_lt hx4.c0
        have p40 := hx4.c0
        have p41 := hx4.c1
        have p42 := hx4.c2
        have p43 := hx4.c3
        have hqb := cell_lt g3
        have e20 := fun o => cell_same p20 (Below.heap_alloc (X4.alloc (.cells #[.slice (some ⟨b4, 0, none⟩) 1 c4, .int .i64 0, .int .i64 ln4, .int .i64 0] 37)) o _ hq2)
        have e21 := fun o => cell_same p21 (Below.heap_alloc (X4.alloc (.cells #[.slice (some ⟨b4, 0, none⟩) 1 c4, .int .i64 0, .int .i64 ln4, .int .i64 0] 37)) o _ hq2)
        have e22 := fun o => cell_same p22 (Below.heap_alloc (X4.alloc (.cells #[.slice (some ⟨b4, 0, none⟩) 1 c4, .int .i64 0, .int .i64 ln4, .int .i64 0] 37)) o _ hq2)
        have e23 := fun o => cell_same p23 (Below.heap_alloc (X4.alloc (.cells #[.slice (some ⟨b4, 0, none⟩) 1 c4, .int .i64 0, .int .i64 ln4, .int .i64 0] 37)) o _ hq2)
        have e30 := fun o => cell_same p30 (Below.heap_alloc (X4.alloc (.cells #[.slice (some ⟨b4, 0, none⟩) 1 c4, .int .i64 0, .int .i64 ln4, .int .i64 0] 37)) o _ hq3)
        have e31 := fun o => cell_same p31 (Below.heap_alloc (X4.alloc (.cells #[.slice (some ⟨b4, 0, none⟩) 1 c4, .int .i64 0, .int .i64 ln4, .int .i64 0] 37)) o _ hq3)
        have e32 := fun o => cell_same p32 (Below.heap_alloc (X4.alloc (.cells #[.slice (some ⟨b4, 0, none⟩) 1 c4, .int .i64 0, .int .i64 ln4, .int .i64 0] 37)) o _ hq3)
        have e33 := fun o => cell_same p33 (Below.heap_alloc (X4.alloc (.cells #[.slice (some ⟨b4, 0, none⟩) 1 c4, .int .i64 0, .int .i64 ln4, .int .i64 0] 37)) o _ hq3)
        go_upto_if 71 with fail
        have hA1 := alloc_own (X4.alloc (.cells #[.slice (some ⟨b4, 0, none⟩) 1 c4, .int .i64 0, .int .i64 ln4, .int .i64 0] 37)) (.cells #[.slice none 0 0, .int .i64 14, .int .i64 1, .int .i64 0] 37)
        have hA2 := alloc_own ((X4.alloc (.cells #[.slice (some ⟨b4, 0, none⟩) 1 c4, .int .i64 0, .int .i64 ln4, .int .i64 0] 37)).alloc (.cells #[.slice none 0 0, .int .i64 14, .int .i64 1, .int .i64 0] 37)) (.cells #[.slice (some ⟨b2, 0, none⟩) 1 c2, .int .i64 0, .int .i64 ln2, .int .i64 0] 37)
        have hr : Box4 ((X4.alloc (.cells #[.slice (some ⟨b4, 0, none⟩) 1 c4, .int .i64 0, .int .i64 ln4, .int .i64 0] 37)).alloc (.cells #[.slice none 0 0, .int .i64 14, .int .i64 1, .int .i64 0] 37)) (X4.alloc (.cells #[.slice (some ⟨b4, 0, none⟩) 1 c4, .int .i64 0, .int .i64 ln4, .int .i64 0] 37)).heap.size (.slice none 0 0) (.int .i64 14) (.int .i64 1) (.int .i64 0) := Box4.new _ _ _ _ _
        have hw : Box4 (((X4.alloc (.cells #[.slice (some ⟨b4, 0, none⟩) 1 c4, .int .i64 0, .int .i64 ln4, .int .i64 0] 37)).alloc (.cells #[.slice none 0 0, .int .i64 14, .int .i64 1, .int .i64 0] 37)).alloc (.cells #[.slice (some ⟨b2, 0, none⟩) 1 c2, .int .i64 0, .int .i64 ln2, .int .i64 0] 37)) ((X4.alloc (.cells #[.slice (some ⟨b4, 0, none⟩) 1 c4, .int .i64 0, .int .i64 ln4, .int .i64 0] 37)).alloc (.cells #[.slice none 0 0, .int .i64 14, .int .i64 1, .int .i64 0] 37)).heap.size (.slice (some ⟨b2, 0, none⟩) 1 c2) (.int .i64 0) (.int .i64 ln2) (.int .i64 0) := Box4.new _ _ _ _ _
        replace hr := hr.go hA2
        replace hx2 := (hx2.go hA1).go hA2
        replace hx3 := (hx3.go hA1).go hA2
        replace hx4 := (hx4.go hA1).go hA2
        replace g3 := (hA1.cell (p := ⟨b2, 3, none⟩) (cell_lt g3)).trans g3
        replace g3 := (hA2.cell (p := ⟨b2, 3, none⟩) (cell_lt g3)).trans g3
        have hB6 := (hB4.trans (hA1.mono hB4.size)).trans (hA2.mono (hB4.trans (hA1.mono hB4.size)).size)
        simp only [World.size_alloc] at hr hw
        generalize ((X4.alloc (.cells #[.slice (some ⟨b4, 0, none⟩) 1 c4, .int .i64 0, .int .i64 ln4, .int .i64 0] 37)).alloc (.cells #[.slice none 0 0, .int .i64 14, .int .i64 1, .int .i64 0] 37)).alloc (.cells #[.slice (some ⟨b2, 0, none⟩) 1 c2, .int .i64 0, .int .i64 ln2, .int .i64 0] 37) = Z at *
        generalize hRb : X4.heap.size + 1 = Rb at *
        generalize hWb : Rb + 1 = Wb at *
        simp only [World.size_alloc, hRb] at hq2 hq3 hq4
        simp only [World.size_alloc, hRb] at hqb
        have n1 : ¬ X2.heap.size = Rb := by omega
        have n2 : ¬ X2.heap.size = Wb := by omega
        have n3 : ¬ X3.heap.size = Rb := by omega
        have n4 : ¬ X3.heap.size = Wb := by omega
        have n5 : ¬ X4.heap.size = Rb := by omega
        have n6 : ¬ X4.heap.size = Wb := by omega
        have n7 : ¬ Rb = Wb := by omega
        have n7' : ¬ Wb = Rb := by omega
        have n8 : ¬ b2 = Rb := by omega
        have n9 : ¬ b2 = Wb := by omega
        obtain ⟨p20, p21, p22, p23, -⟩ := hx2
        obtain ⟨p30, p31, p32, p33, -⟩ := hx3
        obtain ⟨p40, p41, p42, p43, -⟩ := hx4
        obtain ⟨r0, r1, r2, r3, rf⟩ := hr
        obtain ⟨s0, s1, s2, s3, sf⟩ := hw
        have rf0 := rf 0
        have sf0 := sf 0
        have rf1 := rf 1
        have sf1 := sf 1
        have rf2 := rf 2
        have sf2 := sf 2
        have rf3 := rf 3
        have sf3 := sf 3
        clear rf sf hA1 hA2
        have hsz : w.heap.size ≤ X4.heap.size := by have := hB3.size; have := ha4.size; omega
        have HRz : Hid (w.heap.size ≤ Rb ∧ w.heap.size ≤ Wb) := ⟨by omega, by omega⟩
        clear hsz
        have HB6 := Lib.hid hB6
        clear hB6 hB3 hB4 ha4 hRb hWb hq2 hq3 hq4 hqb
        rcases hSg.out with rfl | rfl | rfl
        all_goals
          first | (have gp : pwr [] m = (m : Int) := rfl; rw [gp] at g3; clear gp) | (have gp : pwr [43] m = (m : Int) := rfl; rw [gp] at g3; clear gp) | (have gp : pwr [45] m = 0 - (m : Int) := rfl; rw [gp] at g3; clear gp)
          have hj1 : ((bs []).toList == [45]) = false := by rw [bs_toList]; rfl
          have hj2 : ((bs [43]).toList == [45]) = false := by rw [bs_toList]; rfl
          have hj3 : ((bs [45]).toList == [45]) = true := by rw [bs_toList]; rfl
          go_wp2_with fail
          refine bodyPost_ret (v := .bool true) (by simp [results, Tryz.results7, go_sem]) rfl ⟨rfl, ?_⟩
          exact (((((((HB6.out.setCell (p := ⟨Rb, 0, none⟩) HRz.out.1 _).setCell (p := ⟨Rb, 1, none⟩) HRz.out.1 _).setCell (p := ⟨Rb, 2, none⟩) HRz.out.1 _).setCell (p := ⟨Rb, 3, none⟩) HRz.out.1 _).setCell (p := ⟨Wb, 0, none⟩) HRz.out.2 _).setCell (p := ⟨Wb, 1, none⟩) HRz.out.2 _).setCell (p := ⟨Wb, 2, none⟩) HRz.out.2 _).setCell (p := ⟨Wb, 3, none⟩) HRz.out.2 _
      · have hyp : ¬ yp = 0 := by rw [hp] at hpw; intro e; rw [e] at hpw; cases hpw
        have hW1 : ∀ size, treeAll k (pToks ((k : Int) + 1) (lessT S D)) size = .error (14, 1, 0) := fun size => by have h := hWr.out size; unfold wrongT at h; rw [if_pos hp] at h; exact h
        have hR1 : ∀ size, treeAll k (pToks ((k : Int) + 1) (withT S D) ) size = .error (14, 2 + (S.length : Int), 0) := fun size => by have h := hRi.out size; unfold rightT atZ at h; rw [if_pos hp, if_pos hp] at h; rw [if_neg h9] at h; exact h
        have hmz : ¬ (m : Int) ≤ 99 := by omega
        have hA1 := hAl.out 1
        clear hWr hRi hAl hpw
        go_wp2_with fail
        refine (hP (withT S D) X1 hE1 lW).mono ?_
        rintro e X2 he
        obtain ⟨rfl, ha2⟩ := end_err he (hR1 _)
        have hu2 := alloc_own X2 (.cells #[.slice none 0 0, .int .i64 14, .int .i64 (2 + (S.length : Int)), .int .i64 0] 37)
        have hb2 := ha2.trans (hu2.mono ha2.size)
        have hE2 := hE1.go hb2
        have hB2 := hB1.trans (hb2.mono hB1.size)
        have hx2 : Box4 (X2.alloc (.cells #[.slice none 0 0, .int .i64 14, .int .i64 (2 + (S.length : Int)), .int .i64 0] 37)) X2.heap.size (.slice none 0 0) (.int .i64 14) (.int .i64 (2 + (S.length : Int))) (.int .i64 0) := Box4.new _ _ _ _ _
        clear he
        go_wp2_with fail
        generalize X2.alloc (.cells #[.slice none 0 0, .int .i64 14, .int .i64 (2 + (S.length : Int)), .int .i64 0] 37) = Y2 at *
        refine (hP (lessT S D) Y2 hE2 lL).mono ?_
        rintro e X3 he
        obtain ⟨rfl, ha3⟩ := end_err he (hW1 _)
        have hu3 := alloc_own X3 (.cells #[.slice none 0 0, .int .i64 14, .int .i64 1, .int .i64 0] 37)
        have hb3 := ha3.trans (hu3.mono ha3.size)
        have hE3 := hE2.go hb3
        have hB3 := hB2.trans (hb3.mono hB2.size)
        have hx3 : Box4 (X3.alloc (.cells #[.slice none 0 0, .int .i64 14, .int .i64 1, .int .i64 0] 37)) X3.heap.size (.slice none 0 0) (.int .i64 14) (.int .i64 1) (.int .i64 0) := Box4.new _ _ _ _ _
        replace hx2 := hx2.go hb3
        clear he
        go_wp2_with fail
        generalize X3.alloc (.cells #[.slice none 0 0, .int .i64 14, .int .i64 1, .int .i64 0] 37) = Y3 at *
        refine (hP ([109] : List UInt8) Y3 hE3 (by decide)).mono ?_
        rintro e X4 he
        obtain ⟨o4, c4, rfl, hS4, -, ha4⟩ := end_ok he hA1
        obtain ⟨b4, rfl, hg4⟩ := steps_in hS4 (by simp)
        obtain ⟨ln4, hln4⟩ : ∃ z : Int, ((([109] : List UInt8).length : Nat) : Int) = z := ⟨_, rfl⟩
        rw [hln4]
        clear hS4 hln4
        have hu4 := alloc_own X4 (.cells #[.slice (some ⟨b4, 0, none⟩) 1 c4, .int .i64 0, .int .i64 ln4, .int .i64 0] 37)
        have hb4 := ha4.trans (hu4.mono ha4.size)
        have hE4 := hE3.go hb4
        have hB4 := hB3.trans (hb4.mono hB3.size)
        have hx4 : Box4 (X4.alloc (.cells #[.slice (some ⟨b4, 0, none⟩) 1 c4, .int .i64 0, .int .i64 ln4, .int .i64 0] 37)) X4.heap.size (.slice (some ⟨b4, 0, none⟩) 1 c4) (.int .i64 0) (.int .i64 ln4) (.int .i64 0) := Box4.new _ _ _ _ _
        replace hg4 := hg4.go hu4
        replace hx2 := hx2.go hb4
        replace hx3 := hx3.go hb4
        clear he
        clear hR1 hW1 hA1 hP hb2 hb3 hb4 ha2 ha3 hu2 hu3 hu4 hg4 hB1 hB2 hE1 hE2 hE3 hE4 eW eL lW lL hDk hDn hDl hf3 hp h9 z1 z2
        have hq2 := cell_lt hx2.c0
        have p20 := hx2.c0
        have p21 := hx2.c1
        have p22 := hx2.c2
        have p23 := hx2.c3
        have hq3 := cell_lt hx3.c0
        have p30 := hx3.c0
        have p31 := hx3.c1
        have p32 := hx3.c2
        have p33 := hx3.c3
        have hq4 := cell_lt hx4.c0
        have p40 := hx4.c0
        have p41 := hx4.c1
        have p42 := hx4.c2
        have p43 := hx4.c3
        have e20 := fun o => cell_same p20 (Below.heap_alloc (X4.alloc (.cells #[.slice (some ⟨b4, 0, none⟩) 1 c4, .int .i64 0, .int .i64 ln4, .int .i64 0] 37)) o _ hq2)
        have e21 := fun o => cell_same p21 (Below.heap_alloc (X4.alloc (.cells #[.slice (some ⟨b4, 0, none⟩) 1 c4, .int .i64 0, .int .i64 ln4, .int .i64 0] 37)) o _ hq2)
        have e22 := fun o => cell_same p22 (Below.heap_alloc (X4.alloc (.cells #[.slice (some ⟨b4, 0, none⟩) 1 c4, .int .i64 0, .int .i64 ln4, .int .i64 0] 37)) o _ hq2)
        have e23 := fun o => cell_same p23 (Below.heap_alloc (X4.alloc (.cells #[.slice (some ⟨b4, 0, none⟩) 1 c4, .int .i64 0, .int .i64 ln4, .int .i64 0] 37)) o _ hq2)
        have e30 := fun o => cell_same p30 (Below.heap_alloc (X4.alloc (.cells #[.slice (some ⟨b4, 0, none⟩) 1 c4, .int .i64 0, .int .i64 ln4, .int .i64 0] 37)) o _ hq3)
        have e31 := fun o => cell_same p31 (Below.heap_alloc (X4.alloc (.cells #[.slice (some ⟨b4, 0, none⟩) 1 c4, .int .i64 0, .int .i64 ln4, .int .i64 0] 37)) o _ hq3)
        have e32 := fun o => cell_same p32 (Below.heap_alloc (X4.alloc (.cells #[.slice (some ⟨b4, 0, none⟩) 1 c4, .int .i64 0, .int .i64 ln4, .int .i64 0] 37)) o _ hq3)
        have e33 := fun o => cell_same p33 (Below.heap_alloc (X4.alloc (.cells #[.slice (some ⟨b4, 0, none⟩) 1 c4, .int .i64 0, .int .i64 ln4, .int .i64 0] 37)) o _ hq3)
        go_upto_if 71 with fail
        have hA1 := alloc_own (X4.alloc (.cells #[.slice (some ⟨b4, 0, none⟩) 1 c4, .int .i64 0, .int .i64 ln4, .int .i64 0] 37)) (.cells #[.slice none 0 0, .int .i64 14, .int .i64 1, .int .i64 0] 37)
        have hA2 := alloc_own ((X4.alloc (.cells #[.slice (some ⟨b4, 0, none⟩) 1 c4, .int .i64 0, .int .i64 ln4, .int .i64 0] 37)).alloc (.cells #[.slice none 0 0, .int .i64 14, .int .i64 1, .int .i64 0] 37)) (.cells #[.slice none 0 0, .int .i64 14, .int .i64 (2 + (S.length : Int)), .int .i64 0] 37)
        have hr : Box4 ((X4.alloc (.cells #[.slice (some ⟨b4, 0, none⟩) 1 c4, .int .i64 0, .int .i64 ln4, .int .i64 0] 37)).alloc (.cells #[.slice none 0 0, .int .i64 14, .int .i64 1, .int .i64 0] 37)) (X4.alloc (.cells #[.slice (some ⟨b4, 0, none⟩) 1 c4, .int .i64 0, .int .i64 ln4, .int .i64 0] 37)).heap.size (.slice none 0 0) (.int .i64 14) (.int .i64 1) (.int .i64 0) := Box4.new _ _ _ _ _
        have hw : Box4 (((X4.alloc (.cells #[.slice (some ⟨b4, 0, none⟩) 1 c4, .int .i64 0, .int .i64 ln4, .int .i64 0] 37)).alloc (.cells #[.slice none 0 0, .int .i64 14, .int .i64 1, .int .i64 0] 37)).alloc (.cells #[.slice none 0 0, .int .i64 14, .int .i64 (2 + (S.length : Int)), .int .i64 0] 37)) ((X4.alloc (.cells #[.slice (some ⟨b4, 0, none⟩) 1 c4, .int .i64 0, .int .i64 ln4, .int .i64 0] 37)).alloc (.cells #[.slice none 0 0, .int .i64 14, .int .i64 1, .int .i64 0] 37)).heap.size (.slice none 0 0) (.int .i64 14) (.int .i64 (2 + (S.length : Int))) (.int .i64 0) := Box4.new _ _ _ _ _
        replace hr := hr.go hA2
        replace hx2 := (hx2.go hA1).go hA2
        replace hx3 := (hx3.go hA1).go hA2
        replace hx4 := (hx4.go hA1).go hA2
        have hB6 := (hB4.trans (hA1.mono hB4.size)).trans (hA2.mono (hB4.trans (hA1.mono hB4.size)).size)
        simp only [World.size_alloc] at hr hw
        generalize ((X4.alloc (.cells #[.slice (some ⟨b4, 0, none⟩) 1 c4, .int .i64 0, .int .i64 ln4, .int .i64 0] 37)).alloc (.cells #[.slice none 0 0, .int .i64 14, .int .i64 1, .int .i64 0] 37)).alloc (.cells #[.slice none 0 0, .int .i64 14, .int .i64 (2 + (S.length : Int)), .int .i64 0] 37) = Z at *
        generalize hRb : X4.heap.size + 1 = Rb at *
        generalize hWb : Rb + 1 = Wb at *
        simp only [World.size_alloc, hRb] at hq2 hq3 hq4
        have n1 : ¬ X2.heap.size = Rb := by omega
        have n2 : ¬ X2.heap.size = Wb := by omega
        have n3 : ¬ X3.heap.size = Rb := by omega
        have n4 : ¬ X3.heap.size = Wb := by omega
        have n5 : ¬ X4.heap.size = Rb := by omega
        have n6 : ¬ X4.heap.size = Wb := by omega
        have n7 : ¬ Rb = Wb := by omega
        have n7' : ¬ Wb = Rb := by omega
        obtain ⟨p20, p21, p22, p23, -⟩ := hx2
        obtain ⟨p30, p31, p32, p33, -⟩ := hx3
        obtain ⟨p40, p41, p42, p43, -⟩ := hx4
        obtain ⟨r0, r1, r2, r3, rf⟩ := hr
        obtain ⟨s0, s1, s2, s3, sf⟩ := hw
        have rf0 := rf 0
        have sf0 := sf 0
        have rf1 := rf 1
        have sf1 := sf 1
        have rf2 := rf 2
        have sf2 := sf 2
        have rf3 := rf 3
        have sf3 := sf 3
        clear rf sf hA1 hA2
        have hsz : w.heap.size ≤ X4.heap.size := by have := hB3.size; have := ha4.size; omega
        have HRz : Hid (w.heap.size ≤ Rb ∧ w.heap.size ≤ Wb) := ⟨by omega, by omega⟩
        clear hsz
        have HB6 := Lib.hid hB6
        clear hB6 hB3 hB4 ha4 hRb hWb hq2 hq3 hq4
        have hszi : ((bs S).size : Int) = (S.length : Int) := by rw [bs_size]
        have hsl1 : (S.length : Int) ≤ 1 := by omega
        clear hSl hSg
        all_goals
          go_wp2_with fail
          refine bodyPost_ret (v := .bool true) (by simp [results, Tryz.results7, go_sem]) rfl ⟨rfl, ?_⟩
          exact (((((((HB6.out.setCell (p := ⟨Rb, 0, none⟩) HRz.out.1 _).setCell (p := ⟨Rb, 1, none⟩) HRz.out.1 _).setCell (p := ⟨Rb, 2, none⟩) HRz.out.1 _).setCell (p := ⟨Rb, 3, none⟩) HRz.out.1 _).setCell (p := ⟨Wb, 0, none⟩) HRz.out.2 _).setCell (p := ⟨Wb, 1, none⟩) HRz.out.2 _).setCell (p := ⟨Wb, 2, none⟩) HRz.out.2 _).setCell (p := ⟨Wb, 3, none⟩) HRz.out.2 _
    · by_cases h9 : m ≤ 99
      · have hyp : yp = 0 := by rw [Bool.not_eq_true] at hp; rw [hp] at hpw; have := hpw.symm; simpa using this
        have hW1 : ∀ size, treeAll k (pToks ((k : Int) + 1) (withT S D)) size = .error (14, 1, 0) := fun size => by have h := hWr.out size; unfold wrongT at h; rw [if_neg hp] at h; exact h
        have hR1 : ∀ size, treeAll k (pToks ((k : Int) + 1) (lessT S D)) size = .ok [mStep k (pwr S m)] := fun size => by have h := hRi.out size; unfold rightT atZ at h; rw [if_neg hp, if_neg hp] at h; rw [if_pos h9] at h; exact h
        subst hyp
        have hmz : (m : Int) ≤ 99 := by omega
        have hA1 := hAl.out 1
        clear hWr hRi hAl hpw
        go_wp2_with fail
        refine (hP (withT S D) X1 hE1 lW).mono ?_
        rintro e X2 he
        obtain ⟨rfl, ha2⟩ := end_err he (hW1 _)
        have hu2 := alloc_own X2 (.cells #[.slice none 0 0, .int .i64 14, .int .i64 1, .int .i64 0] 37)
        have hb2 := ha2.trans (hu2.mono ha2.size)
        have hE2 := hE1.go hb2
        have hB2 := hB1.trans (hb2.mono hB1.size)
        have hx2 : Box4 (X2.alloc (.cells #[.slice none 0 0, .int .i64 14, .int .i64 1, .int .i64 0] 37)) X2.heap.size (.slice none 0 0) (.int .i64 14) (.int .i64 1) (.int .i64 0) := Box4.new _ _ _ _ _
        clear he
        go_wp2_with fail
        generalize X2.alloc (.cells #[.slice none 0 0, .int .i64 14, .int .i64 1, .int .i64 0] 37) = Y2 at *
        refine (hP (lessT S D) Y2 hE2 lL).mono ?_
        rintro e X3 he
        obtain ⟨o3, c3, rfl, hS3, -, ha3⟩ := end_ok he (hR1 _)
        obtain ⟨b3, rfl, hg3⟩ := steps_in hS3 (by simp)
        obtain ⟨ln3, hln3⟩ : ∃ z : Int, (((lessT S D).length : Nat) : Int) = z := ⟨_, rfl⟩
        rw [hln3]
        clear hS3 hln3
        have hu3 := alloc_own X3 (.cells #[.slice (some ⟨b3, 0, none⟩) 1 c3, .int .i64 0, .int .i64 ln3, .int .i64 0] 37)
        have hb3 := ha3.trans (hu3.mono ha3.size)
        have hE3 := hE2.go hb3
        have hB3 := hB2.trans (hb3.mono hB2.size)
        have hx3 : Box4 (X3.alloc (.cells #[.slice (some ⟨b3, 0, none⟩) 1 c3, .int .i64 0, .int .i64 ln3, .int .i64 0] 37)) X3.heap.size (.slice (some ⟨b3, 0, none⟩) 1 c3) (.int .i64 0) (.int .i64 ln3) (.int .i64 0) := Box4.new _ _ _ _ _
        replace hg3 := hg3.go hu3
        replace hx2 := hx2.go hb3
        clear he
        go_wp2_with fail
        generalize X3.alloc (.cells #[.slice (some ⟨b3, 0, none⟩) 1 c3, .int .i64 0, .int .i64 ln3, .int .i64 0] 37) = Y3 at *
        have hg := hg3
        refine (hP ([109] : List UInt8) Y3 hE3 (by decide)).mono ?_
        rintro e X4 he
        obtain ⟨o4, c4, rfl, hS4, -, ha4⟩ := end_ok he hA1
        obtain ⟨b4, rfl, hg4⟩ := steps_in hS4 (by simp)
        obtain ⟨ln4, hln4⟩ : ∃ z : Int, ((([109] : List UInt8).length : Nat) : Int) = z := ⟨_, rfl⟩
        rw [hln4]
        clear hS4 hln4
        have hu4 := alloc_own X4 (.cells #[.slice (some ⟨b4, 0, none⟩) 1 c4, .int .i64 0, .int .i64 ln4, .int .i64 0] 37)
        have hb4 := ha4.trans (hu4.mono ha4.size)
        have hE4 := hE3.go hb4
        have hB4 := hB3.trans (hb4.mono hB3.size)
        have hx4 : Box4 (X4.alloc (.cells #[.slice (some ⟨b4, 0, none⟩) 1 c4, .int .i64 0, .int .i64 ln4, .int .i64 0] 37)) X4.heap.size (.slice (some ⟨b4, 0, none⟩) 1 c4) (.int .i64 0) (.int .i64 ln4) (.int .i64 0) := Box4.new _ _ _ _ _
        replace hg4 := hg4.go hu4
        replace hx2 := hx2.go hb4
        replace hx3 := hx3.go hb4
        clear he
        replace hg := hg.go hb4
        have g3 := hg.1 0 (by simp) 3 (by omega)
        have gv : cellS [mStep k (pwr S m)] 0 3 = .int .i64 (pwr S m) := rfl
        rw [gv] at g3
        simp only [Nat.reduceMul, Nat.reduceAdd] at g3
        clear hg gv
        clear hR1 hW1 hA1 hP hb2 hb3 hb4 ha2 ha3 hu2 hu3 hu4 hg4 hB1 hB2 hE1 hE2 hE3 hE4 eW eL lW lL hDk hDn hDl hf3 hp h9 z1 z2 hSl
        have hq2 := cell_lt hx2.c0
        have p20 := hx2.c0
        have p21 := hx2.c1
        have p22 := hx2.c2
        have p23 := hx2.c3
        have hq3 := cell_lt hx3.c0
        have p30 := hx3.c0
        have p31 := hx3.c1
        have p32 := hx3.c2
        have p33 := hx3.c3
        have hq4 := cell_lt hx4.c0
        have p40 := hx4.c0
        have p41 := hx4.c1
        have p42 := hx4.c2
        have p43 := hx4.c3
        have hqb := cell_lt g3
        have e20 := fun o => cell_same p20 (Below.heap_alloc (X4.alloc (.cells #[.slice (some ⟨b4, 0, none⟩) 1 c4, .int .i64 0, .int .i64 ln4, .int .i64 0] 37)) o _ hq2)
        have e21 := fun o => cell_same p21 (Below.heap_alloc (X4.alloc (.cells #[.slice (some ⟨b4, 0, none⟩) 1 c4, .int .i64 0, .int .i64 ln4, .int .i64 0] 37)) o _ hq2)
        have e22 := fun o => cell_same p22 (Below.heap_alloc (X4.alloc (.cells #[.slice (some ⟨b4, 0, none⟩) 1 c4, .int .i64 0, .int .i64 ln4, .int .i64 0] 37)) o _ hq2)
        have e23 := fun o => cell_same p23 (Below.heap_alloc (X4.alloc (.cells #[.slice (some ⟨b4, 0, none⟩) 1 c4, .int .i64 0, .int .i64 ln4, .int .i64 0] 37)) o _ hq2)
        have e30 := fun o => cell_same p30 (Below.heap_alloc (X4.alloc (.cells #[.slice (some ⟨b4, 0, none⟩) 1 c4, .int .i64 0, .int .i64 ln4, .int .i64 0] 37)) o _ hq3)
        have e31 := fun o => cell_same p31 (Below.heap_alloc (X4.alloc (.cells #[.slice (some ⟨b4, 0, none⟩) 1 c4, .int .i64 0, .int .i64 ln4, .int .i64 0] 37)) o _ hq3)
        have e32 := fun o => cell_same p32 (Below.heap_alloc (X4.alloc (.cells #[.slice (some ⟨b4, 0, none⟩) 1 c4, .int .i64 0, .int .i64 ln4, .int .i64 0] 37)) o _ hq3)
        have e33 := fun o => cell_same p33 (Below.heap_alloc (X4.alloc (.cells #[.slice (some ⟨b4, 0, none⟩) 1 c4, .int .i64 0, .int .i64 ln4, .int .i64 0] 37)) o _ hq3)
        go_upto_if 71 with fail
        have hA1 := alloc_own (X4.alloc (.cells #[.slice (some ⟨b4, 0, none⟩) 1 c4, .int .i64 0, .int .i64 ln4, .int .i64 0] 37)) (.cells #[.slice (some ⟨b3, 0, none⟩) 1 c3, .int .i64 0, .int .i64 ln3, .int .i64 0] 37)
        have hA2 := alloc_own ((X4.alloc (.cells #[.slice (some ⟨b4, 0, none⟩) 1 c4, .int .i64 0, .int .i64 ln4, .int .i64 0] 37)).alloc (.cells #[.slice (some ⟨b3, 0, none⟩) 1 c3, .int .i64 0, .int .i64 ln3, .int .i64 0] 37)) (.cells #[.slice none 0 0, .int .i64 14, .int .i64 1, .int .i64 0] 37)
        have hr : Box4 ((X4.alloc (.cells #[.slice (some ⟨b4, 0, none⟩) 1 c4, .int .i64 0, .int .i64 ln4, .int .i64 0] 37)).alloc (.cells #[.slice (some ⟨b3, 0, none⟩) 1 c3, .int .i64 0, .int .i64 ln3, .int .i64 0] 37)) (X4.alloc (.cells #[.slice (some ⟨b4, 0, none⟩) 1 c4, .int .i64 0, .int .i64 ln4, .int .i64 0] 37)).heap.size (.slice (some ⟨b3, 0, none⟩) 1 c3) (.int .i64 0) (.int .i64 ln3) (.int .i64 0) := Box4.new _ _ _ _ _
        have hw : Box4 (((X4.alloc (.cells #[.slice (some ⟨b4, 0, none⟩) 1 c4, .int .i64 0, .int .i64 ln4, .int .i64 0] 37)).alloc (.cells #[.slice (some ⟨b3, 0, none⟩) 1 c3, .int .i64 0, .int .i64 ln3, .int .i64 0] 37)).alloc (.cells #[.slice none 0 0, .int .i64 14, .int .i64 1, .int .i64 0] 37)) ((X4.alloc (.cells #[.slice (some ⟨b4, 0, none⟩) 1 c4, .int .i64 0, .int .i64 ln4, .int .i64 0] 37)).alloc (.cells #[.slice (some ⟨b3, 0, none⟩) 1 c3, .int .i64 0, .int .i64 ln3, .int .i64 0] 37)).heap.size (.slice none 0 0) (.int .i64 14) (.int .i64 1) (.int .i64 0) := Box4.new _ _ _ _ _
        replace hr := hr.go hA2
        replace hx2 := (hx2.go hA1).go hA2
        replace hx3 := (hx3.go hA1).go hA2
        replace hx4 := (hx4.go hA1).go hA2
        replace g3 := (hA1.cell (p := ⟨b3, 3, none⟩) (cell_lt g3)).trans g3
        replace g3 := (hA2.cell (p := ⟨b3, 3, none⟩) (cell_lt g3)).trans g3
        have hB6 := (hB4.trans (hA1.mono hB4.size)).trans (hA2.mono (hB4.trans (hA1.mono hB4.size)).size)
        simp only [World.size_alloc] at hr hw
        generalize ((X4.alloc (.cells #[.slice (some ⟨b4, 0, none⟩) 1 c4, .int .i64 0, .int .i64 ln4, .int .i64 0] 37)).alloc (.cells #[.slice (some ⟨b3, 0, none⟩) 1 c3, .int .i64 0, .int .i64 ln3, .int .i64 0] 37)).alloc (.cells #[.slice none 0 0, .int .i64 14, .int .i64 1, .int .i64 0] 37) = Z at *
        generalize hRb : X4.heap.size + 1 = Rb at *
        generalize hWb : Rb + 1 = Wb at *
        simp only [World.size_alloc, hRb] at hq2 hq3 hq4
        simp only [World.size_alloc, hRb] at hqb
        have n1 : ¬ X2.heap.size = Rb := by omega
        have n2 : ¬ X2.heap.size = Wb := by omega
        have n3 : ¬ X3.heap.size = Rb := by omega
        have n4 : ¬ X3.heap.size = Wb := by omega
        have n5 : ¬ X4.heap.size = Rb := by omega
        have n6 : ¬ X4.heap.size = Wb := by omega
        have n7 : ¬ Rb = Wb := by omega
        have n7' : ¬ Wb = Rb := by omega
        have n8 : ¬ b3 = Rb := by omega
        have n9 : ¬ b3 = Wb := by omega
        obtain ⟨p20, p21, p22, p23, -⟩ := hx2
        obtain ⟨p30, p31, p32, p33, -⟩ := hx3
        obtain ⟨p40, p41, p42, p43, -⟩ := hx4
        obtain ⟨r0, r1, r2, r3, rf⟩ := hr
        obtain ⟨s0, s1, s2, s3, sf⟩ := hw
        clear rf sf hA1 hA2
        have HB6 := Lib.hid hB6
        clear hB6 hB3 hB4 ha4 hRb hWb hq2 hq3 hq4 hqb
        rcases hSg.out with rfl | rfl | rfl
        all_goals
          first | (have gp : pwr [] m = (m : Int) := rfl; rw [gp] at g3; clear gp) | (have gp : pwr [43] m = (m : Int) := rfl; rw [gp] at g3; clear gp) | (have gp : pwr [45] m = 0 - (m : Int) := rfl; rw [gp] at g3; clear gp)
          have hj1 : ((bs []).toList == [45]) = false := by rw [bs_toList]; rfl
          have hj2 : ((bs [43]).toList == [45]) = false := by rw [bs_toList]; rfl
          have hj3 : ((bs [45]).toList == [45]) = true := by rw [bs_toList]; rfl
          go_wp2_with fail
          refine bodyPost_ret (v := .bool true) (by simp [results, Tryz.results7, go_sem]) rfl ⟨rfl, ?_⟩
          exact HB6.out
      · have hyp : yp = 0 := by rw [Bool.not_eq_true] at hp; rw [hp] at hpw; have := hpw.symm; simpa using this
        have hW1 : ∀ size, treeAll k (pToks ((k : Int) + 1) (withT S D)) size = .error (14, 1, 0) := fun size => by have h := hWr.out size; unfold wrongT at h; rw [if_neg hp] at h; exact h
        have hR1 : ∀ size, treeAll k (pToks ((k : Int) + 1) (lessT S D)) size = .error (14, 1 + (S.length : Int), 0) := fun size => by have h := hRi.out size; unfold rightT atZ at h; rw [if_neg hp, if_neg hp] at h; rw [if_neg h9] at h; exact h
        subst hyp
        have hmz : ¬ (m : Int) ≤ 99 := by omega
        have hA1 := hAl.out 1
        clear hWr hRi hAl hpw
        go_wp2_with fail
        refine (hP (withT S D) X1 hE1 lW).mono ?_
        rintro e X2 he
        obtain ⟨rfl, ha2⟩ := end_err he (hW1 _)
        have hu2 := alloc_own X2 (.cells #[.slice none 0 0, .int .i64 14, .int .i64 1, .int .i64 0] 37)
        have hb2 := ha2.trans (hu2.mono ha2.size)
        have hE2 := hE1.go hb2
        have hB2 := hB1.trans (hb2.mono hB1.size)
        have hx2 : Box4 (X2.alloc (.cells #[.slice none 0 0, .int .i64 14, .int .i64 1, .int .i64 0] 37)) X2.heap.size (.slice none 0 0) (.int .i64 14) (.int .i64 1) (.int .i64 0) := Box4.new _ _ _ _ _
        clear he
        go_wp2_with fail
        generalize X2.alloc (.cells #[.slice none 0 0, .int .i64 14, .int .i64 1, .int .i64 0] 37) = Y2 at *
        refine (hP (lessT S D) Y2 hE2 lL).mono ?_
        rintro e X3 he
        obtain ⟨rfl, ha3⟩ := end_err he (hR1 _)
        have hu3 := alloc_own X3 (.cells #[.slice none 0 0, .int .i64 14, .int .i64 (1 + (S.length : Int)), .int .i64 0] 37)
        have hb3 := ha3.trans (hu3.mono ha3.size)
        have hE3 := hE2.go hb3
        have hB3 := hB2.trans (hb3.mono hB2.size)
        have hx3 : Box4 (X3.alloc (.cells #[.slice none 0 0, .int .i64 14, .int .i64 (1 + (S.length : Int)), .int .i64 0] 37)) X3.heap.size (.slice none 0 0) (.int .i64 14) (.int .i64 (1 + (S.length : Int))) (.int .i64 0) := Box4.new _ _ _ _ _
        replace hx2 := hx2.go hb3
        clear he
        go_wp2_with fail
        generalize X3.alloc (.cells #[.slice none 0 0, .int .i64 14, .int .i64 (1 + (S.length : Int)), .int .i64 0] 37) = Y3 at *
        refine (hP ([109] : List UInt8) Y3 hE3 (by decide)).mono ?_
        rintro e X4 he
        obtain ⟨o4, c4, rfl, hS4, -, ha4⟩ := end_ok he hA1
        obtain ⟨b4, rfl, hg4⟩ := steps_in hS4 (by simp)
        obtain ⟨ln4, hln4⟩ : ∃ z : Int, ((([109] : List UInt8).length : Nat) : Int) = z := ⟨_, rfl⟩
        rw [hln4]
        clear hS4 hln4
        have hu4 := alloc_own X4 (.cells #[.slice (some ⟨b4, 0, none⟩) 1 c4, .int .i64 0, .int .i64 ln4, .int .i64 0] 37)
        have hb4 := ha4.trans (hu4.mono ha4.size)
        have hE4 := hE3.go hb4
        have hB4 := hB3.trans (hb4.mono hB3.size)
        have hx4 : Box4 (X4.alloc (.cells #[.slice (some ⟨b4, 0, none⟩) 1 c4, .int .i64 0, .int .i64 ln4, .int .i64 0] 37)) X4.heap.size (.slice (some ⟨b4, 0, none⟩) 1 c4) (.int .i64 0) (.int .i64 ln4) (.int .i64 0) := Box4.new _ _ _ _ _
        replace hg4 := hg4.go hu4
        replace hx2 := hx2.go hb4
        replace hx3 := hx3.go hb4
        clear he
        clear hR1 hW1 hA1 hP hb2 hb3 hb4 ha2 ha3 hu2 hu3 hu4 hg4 hB1 hB2 hE1 hE2 hE3 hE4 eW eL lW lL hDk hDn hDl hf3 hp h9 z1 z2
        have hq2 := cell_lt hx2.c0
        have p20 := hx2.c0
        have p21 := hx2.c1
        have p22 := hx2.c2
        have p23 := hx2.c3
        have hq3 := cell_lt hx3.c0
        have p30 := hx3.c0
        have p31 := hx3.c1
        have p32 := hx3.c2
        have p33 := hx3.c3
        have hq4 := cell_lt hx4.c0
        have p40 := hx4.c0
        have p41 := hx4.c1
        have p42 := hx4.c2
        have p43 := hx4.c3
        have e20 := fun o => cell_same p20 (Below.heap_alloc (X4.alloc (.cells #[.slice (some ⟨b4, 0, none⟩) 1 c4, .int .i64 0, .int .i64 ln4, .int .i64 0] 37)) o _ hq2)
        have e21 := fun o => cell_same p21 (Below.heap_alloc (X4.alloc (.cells #[.slice (some ⟨b4, 0, none⟩) 1 c4, .int .i64 0, .int .i64 ln4, .int .i64 0] 37)) o _ hq2)
        have e22 := fun o => cell_same p22 (Below.heap_alloc (X4.alloc (.cells #[.slice (some ⟨b4, 0, none⟩) 1 c4, .int .i64 0, .int .i64 ln4, .int .i64 0] 37)) o _ hq2)
        have e23 := fun o => cell_same p23 (Below.heap_alloc (X4.alloc (.cells #[.slice (some ⟨b4, 0, none⟩) 1 c4, .int .i64 0, .int .i64 ln4, .int .i64 0] 37)) o _ hq2)
        have e30 := fun o => cell_same p30 (Below.heap_alloc (X4.alloc (.cells #[.slice (some ⟨b4, 0, none⟩) 1 c4, .int .i64 0, .int .i64 ln4, .int .i64 0] 37)) o _ hq3)
        have e31 := fun o => cell_same p31 (Below.heap_alloc (X4.alloc (.cells #[.slice (some ⟨b4, 0, none⟩) 1 c4, .int .i64 0, .int .i64 ln4, .int .i64 0] 37)) o _ hq3)
        have e32 := fun o => cell_same p32 (Below.heap_alloc (X4.alloc (.cells #[.slice (some ⟨b4, 0, none⟩) 1 c4, .int .i64 0, .int .i64 ln4, .int .i64 0] 37)) o _ hq3)
        have e33 := fun o => cell_same p33 (Below.heap_alloc (X4.alloc (.cells #[.slice (some ⟨b4, 0, none⟩) 1 c4, .int .i64 0, .int .i64 ln4, .int .i64 0] 37)) o _ hq3)
        go_upto_if 71 with fail
        have hA1 := alloc_own (X4.alloc (.cells #[.slice (some ⟨b4, 0, none⟩) 1 c4, .int .i64 0, .int .i64 ln4, .int .i64 0] 37)) (.cells #[.slice none 0 0, .int .i64 14, .int .i64 (1 + (S.length : Int)), .int .i64 0] 37)
        have hA2 := alloc_own ((X4.alloc (.cells #[.slice (some ⟨b4, 0, none⟩) 1 c4, .int .i64 0, .int .i64 ln4, .int .i64 0] 37)).alloc (.cells #[.slice none 0 0, .int .i64 14, .int .i64 (1 + (S.length : Int)), .int .i64 0] 37)) (.cells #[.slice none 0 0, .int .i64 14, .int .i64 1, .int .i64 0] 37)
        have hr : Box4 ((X4.alloc (.cells #[.slice (some ⟨b4, 0, none⟩) 1 c4, .int .i64 0, .int .i64 ln4, .int .i64 0] 37)).alloc (.cells #[.slice none 0 0, .int .i64 14, .int .i64 (1 + (S.length : Int)), .int .i64 0] 37)) (X4.alloc (.cells #[.slice (some ⟨b4, 0, none⟩) 1 c4, .int .i64 0, .int .i64 ln4, .int .i64 0] 37)).heap.size (.slice none 0 0) (.int .i64 14) (.int .i64 (1 + (S.length : Int))) (.int .i64 0) := Box4.new _ _ _ _ _
        have hw : Box4 (((X4.alloc (.cells #[.slice (some ⟨b4, 0, none⟩) 1 c4, .int .i64 0, .int .i64 ln4, .int .i64 0] 37)).alloc (.cells #[.slice none 0 0, .int .i64 14, .int .i64 (1 + (S.length : Int)), .int .i64 0] 37)).alloc (.cells #[.slice none 0 0, .int .i64 14, .int .i64 1, .int .i64 0] 37)) ((X4.alloc (.cells #[.slice (some ⟨b4, 0, none⟩) 1 c4, .int .i64 0, .int .i64 ln4, .int .i64 0] 37)).alloc (.cells #[.slice none 0 0, .int .i64 14, .int .i64 (1 + (S.length : Int)), .int .i64 0] 37)).heap.size (.slice none 0 0) (.int .i64 14) (.int .i64 1) (.int .i64 0) := Box4.new _ _ _ _ _
        replace hr := hr.go hA2
        replace hx2 := (hx2.go hA1).go hA2
        replace hx3 := (hx3.go hA1).go hA2
        replace hx4 := (hx4.go hA1).go hA2
        have hB6 := (hB4.trans (hA1.mono hB4.size)).trans (hA2.mono (hB4.trans (hA1.mono hB4.size)).size)
        simp only [World.size_alloc] at hr hw
        generalize ((X4.alloc (.cells #[.slice (some ⟨b4, 0, none⟩) 1 c4, .int .i64 0, .int .i64 ln4, .int .i64 0] 37)).alloc (.cells #[.slice none 0 0, .int .i64 14, .int .i64 (1 + (S.length : Int)), .int .i64 0] 37)).alloc (.cells #[.slice none 0 0, .int .i64 14, .int .i64 1, .int .i64 0] 37) = Z at *
        generalize hRb : X4.heap.size + 1 = Rb at *
        generalize hWb : Rb + 1 = Wb at *
        simp only [World.size_alloc, hRb] at hq2 hq3 hq4
        have n1 : ¬ X2.heap.size = Rb := by omega
        have n2 : ¬ X2.heap.size = Wb := by omega
        have n3 : ¬ X3.heap.size = Rb := by omega
        have n4 : ¬ X3.heap.size = Wb := by omega
        have n5 : ¬ X4.heap.size = Rb := by omega
        have n6 : ¬ X4.heap.size = Wb := by omega
        have n7 : ¬ Rb = Wb := by omega
        have n7' : ¬ Wb = Rb := by omega
        obtain ⟨p20, p21, p22, p23, -⟩ := hx2
        obtain ⟨p30, p31, p32, p33, -⟩ := hx3
        obtain ⟨p40, p41, p42, p43, -⟩ := hx4
        obtain ⟨r0, r1, r2, r3, rf⟩ := hr
        obtain ⟨s0, s1, s2, s3, sf⟩ := hw
        clear rf sf hA1 hA2
        have HB6 := Lib.hid hB6
        clear hB6 hB3 hB4 ha4 hRb hWb hq2 hq3 hq4
        have hszi : ((bs S).size : Int) = (S.length : Int) := by rw [bs_size]
        have hsl1 : (S.length : Int) ≤ 1 := by omega
        clear hSl hSg
        all_goals
          go_wp2_with fail
          refine bodyPost_ret (v := .bool true) (by simp [results, Tryz.results7, go_sem]) rfl ⟨rfl, ?_⟩
          exact HB6.out

end Go.Proofs.YthofogokpolhdaaGreatDoor.Parses
