/-
  Contract of atoms.codeOf: a text as a key, and whether it is a code.
-/
import Derived.Test.YtpmibcdmaaagjaaDoorA1
namespace Go.Proofs.YtpmibcdmaaagjaaDoor.Atoms
open Go.RowKit
set_option linter.unusedVariables false
set_option linter.unusedSimpArgs false

/-- A key as far as it is made. -/
def keyPart (n : Int) (s : List UInt8) (k i : Nat) : Int := if i = 0 then n else upto s k (i - 1)
def KeyAt (w : World) (b : Nat) (n : Int) (s : List UInt8) (k : Nat) : Prop := Grid w b 1 9 (fun i _ => .int .u8 (keyPart n s k i))
theorem KeyAt.cells {w : World} {b : Nat} {n : Int} {s : List UInt8} {k : Nat} (h : KeyAt w b n s k) :
    w.cell? ⟨b, 0, none⟩ = some (.int .u8 n) ∧ w.cell? ⟨b, 1, none⟩ = some (.int .u8 (upto s k 0)) ∧ w.cell? ⟨b, 2, none⟩ = some (.int .u8 (upto s k 1)) ∧ w.cell? ⟨b, 3, none⟩ = some (.int .u8 (upto s k 2))
    ∧ w.cell? ⟨b, 4, none⟩ = some (.int .u8 (upto s k 3)) ∧ w.cell? ⟨b, 5, none⟩ = some (.int .u8 (upto s k 4)) ∧ w.cell? ⟨b, 6, none⟩ = some (.int .u8 (upto s k 5)) ∧ w.cell? ⟨b, 7, none⟩ = some (.int .u8 (upto s k 6)) ∧ w.cell? ⟨b, 8, none⟩ = some (.int .u8 (upto s k 7)) :=
  ⟨h.1 0 (by omega) 0 (by omega), h.1 1 (by omega) 0 (by omega), h.1 2 (by omega) 0 (by omega), h.1 3 (by omega) 0 (by omega), h.1 4 (by omega) 0 (by omega), h.1 5 (by omega) 0 (by omega), h.1 6 (by omega) 0 (by omega), h.1 7 (by omega) 0 (by omega), h.1 8 (by omega) 0 (by omega)⟩
theorem KeyAt.set {w : World} {b : Nat} {n : Int} {s : List UInt8} {k : Nat} (h : KeyAt w b n s k) (hk : k < 8) : KeyAt (w.setCell ⟨b, 1 + k, none⟩ (.int .u8 (at0 s k))) b n s (k + 1) := by
  have := Grid.set h (1 + k) 0 (by omega) (by omega) (.int .u8 (at0 s k))
  rw [Nat.mul_one, Nat.add_zero] at this
  refine Grid.ext this fun i hi j hj => ?_
  unfold upd keyPart upto
  by_cases e : i = 1 + k ∧ j = 0
  · rw [if_pos e, if_neg (by omega), if_pos (by omega)]
    congr 2; omega
  · rw [if_neg e]
    show Value.int .u8 (if i = 0 then n else if i - 1 < k then at0 s (i - 1) else 0) = _
    by_cases h0 : i = 0
    · rw [if_pos h0, if_pos h0]
    · rw [if_neg h0, if_neg h0]
      by_cases h1 : i - 1 < k
      · rw [if_pos h1, if_pos (by omega)]
      · rw [if_neg h1, if_neg (by omega)]
theorem upto_end (s : List UInt8) (i : Nat) : upto s s.length i = at0 s i := by
  unfold upto
  split
  · rfl
  · unfold at0
    rw [List.getD_eq_getElem?_getD, List.getElem?_eq_none (by omega)]
    rfl
theorem upto_zero (s : List UInt8) (i : Nat) : upto s 0 i = 0 := by unfold upto; rw [if_neg (by omega)]
theorem at0_in (s : List UInt8) (i : Nat) : 0 ≤ at0 s i ∧ at0 s i ≤ 255 := by
  have : (s.getD i 0).toNat < 256 := UInt8.toNat_lt _
  unfold at0; omega
theorem letters_succ (n : Int) (s : List UInt8) (k : Nat) (hk : k < s.length) : lettersB n (s.take (k + 1)) = (lettersB n (s.take k) && letterZ n (at0 s k)) := by
  unfold lettersB at0
  rw [List.take_succ_eq_append_getElem hk, List.all_append]
  simp [List.getElem?_eq_getElem hk]
theorem letters_stop (n : Int) (s : List UInt8) (k : Nat) (hk : k < s.length) (h : letterZ n (at0 s k) = false) : lettersB n s = false := by
  unfold lettersB
  rw [List.all_eq_false]
  refine ⟨s[k], List.getElem_mem hk, ?_⟩
  unfold at0 at h
  rw [List.getD_eq_getElem?_getD, List.getElem?_eq_getElem hk] at h
  simpa using h
theorem str_at (s : List UInt8) (k : Nat) (hk : k < s.length) (w : World) : (Instr.index 9 (.string (bs s)) (.int .i64 (k : Nat))).run Tryd.prog w = .ok (.int .u8 (at0 s k)) w := by
  have h2 : k < (bs s).size := by rw [bs_size]; exact hk
  rw [run_index_string w _ (bs s) .i64 k Tryd.underlying9, dif_pos (by omega)]
  simp only [Int.toNat_natCast]
  unfold at0
  rw [List.getD_eq_getElem?_getD, List.getElem?_eq_getElem hk]
  rfl
/-- What codeOf answers. -/
def codeV (n : Int) (s : List UInt8) : Value := .tuple #[keyV (if codeB n s then keyOf n s else noKey), .bool (codeB n s)]

set_option maxRecDepth 100000 in
set_option maxHeartbeats 1000000 in
theorem codeOf_short (n : Int) (s : List UInt8) (w : World) (hl : s.length ≤ 9223372036854775807) (h : s.length < 1 ∨ 8 < s.length) :
    Calls Tryd.prog 39 #[.int .i64 n, .string (bs s)] w fun e w' => e = .returned (codeV n s) ∧ Below w.heap.size w w' := by
  have hz := bs_size s
  have e : codeV n s = .tuple #[.agg #[.int .u8 0, .int .u8 0, .int .u8 0, .int .u8 0, .int .u8 0, .int .u8 0, .int .u8 0, .int .u8 0, .int .u8 0], .bool false] := by
    have c : codeB n s = false := by
      unfold codeB
      rcases h with h | h
      · have : decide (1 ≤ s.length) = false := by simpa using h
        rw [this]; rfl
      · have : decide (s.length ≤ 8) = false := by simpa using h
        rw [this]; simp
    unfold codeV
    rw [c]; rfl
  rw [e]; clear e
  have hzi : ((bs s).size : Int) = (s.length : Int) := by rw [hz]
  rcases h with h | h
  · have hlt : (s.length : Int) < 1 := by omega
    clear h hz
    go_enter Tryd.func39, Tryd.ntmps39
    go_wp2
    refine bodyPost_ret (v := .tuple #[.agg #[.int .u8 0, .int .u8 0, .int .u8 0, .int .u8 0, .int .u8 0, .int .u8 0, .int .u8 0, .int .u8 0, .int .u8 0], .bool false]) (by simp [results, Tryd.results39, go_sem]) rfl ⟨rfl, ?_⟩
    go_grown
  · have hlt : (8 : Int) < s.length := by omega
    clear h hz
    go_enter Tryd.func39, Tryd.ntmps39
    go_wp2
    refine bodyPost_ret (v := .tuple #[.agg #[.int .u8 0, .int .u8 0, .int .u8 0, .int .u8 0, .int .u8 0, .int .u8 0, .int .u8 0, .int .u8 0, .int .u8 0], .bool false]) (by simp [results, Tryd.results39, go_sem]) rfl ⟨rfl, ?_⟩
    go_grown

theorem key_end (n : Int) (s : List UInt8) : keyV (keyOf n s) = .agg #[.int .u8 n, .int .u8 (upto s s.length 0), .int .u8 (upto s s.length 1), .int .u8 (upto s s.length 2), .int .u8 (upto s s.length 3), .int .u8 (upto s s.length 4), .int .u8 (upto s s.length 5), .int .u8 (upto s s.length 6), .int .u8 (upto s s.length 7)] := by
  simp only [upto_end]
  rfl

set_option maxRecDepth 100000 in
set_option maxHeartbeats 2000000 in
theorem codeOf_long (n : Int) (s : List UInt8) (w : World) (n0 : 1 ≤ n) (n5 : n ≤ 5) (h1 : 1 ≤ s.length) (h8 : s.length ≤ 8) :
    Calls Tryd.prog 39 #[.int .i64 n, .string (bs s)] w fun e w' => e = .returned (codeV n s) ∧ Below w.heap.size w w' := by
  have hzi : ((bs s).size : Int) = (s.length : Int) := by rw [bs_size]
  have hn : n % 256 = n := by omega
  have hK : KeyAt ((w.alloc (.cells #[.int .u8 0, .int .u8 0, .int .u8 0, .int .u8 0, .int .u8 0, .int .u8 0, .int .u8 0, .int .u8 0, .int .u8 0] 79)).alloc (.cells #[.int .u8 n, .int .u8 0, .int .u8 0, .int .u8 0, .int .u8 0, .int .u8 0, .int .u8 0, .int .u8 0, .int .u8 0] 79)) (w.heap.size + 1) n s 0 := by
    have := Grid.new (w.alloc (.cells #[.int .u8 0, .int .u8 0, .int .u8 0, .int .u8 0, .int .u8 0, .int .u8 0, .int .u8 0, .int .u8 0, .int .u8 0] 79)) 79 1 9 (fun i _ => .int .u8 (keyPart n s 0 i)) #[.int .u8 n, .int .u8 0, .int .u8 0, .int .u8 0, .int .u8 0, .int .u8 0, .int .u8 0, .int .u8 0, .int .u8 0]
      (by
        intro i hi j hj
        have : j = 0 := by omega
        subst this
        simp only [keyPart, upto_zero]
        match i, hi with
        | 0, _ => rfl
        | 1, _ => rfl
        | 2, _ => rfl
        | 3, _ => rfl
        | 4, _ => rfl
        | 5, _ => rfl
        | 6, _ => rfl
        | 7, _ => rfl
        | 8, _ => rfl)
    rw [World.size_alloc] at this
    exact this
  have hB : Below w.heap.size w ((w.alloc (.cells #[.int .u8 0, .int .u8 0, .int .u8 0, .int .u8 0, .int .u8 0, .int .u8 0, .int .u8 0, .int .u8 0, .int .u8 0] 79)).alloc (.cells #[.int .u8 n, .int .u8 0, .int .u8 0, .int .u8 0, .int .u8 0, .int .u8 0, .int .u8 0, .int .u8 0, .int .u8 0] 79)) := by go_grown
  go_enter Tryd.func39, Tryd.ntmps39
  have hO := Grid.new w 79 1 9 (fun _ _ => .int .u8 0) #[.int .u8 0, .int .u8 0, .int .u8 0, .int .u8 0, .int .u8 0, .int .u8 0, .int .u8 0, .int .u8 0, .int .u8 0]
      (by
        intro i hi j hj
        have : j = 0 := by omega
        subst this
        match i, hi with
        | 0, _ => rfl
        | 1, _ => rfl
        | 2, _ => rfl
        | 3, _ => rfl
        | 4, _ => rfl
        | 5, _ => rfl
        | 6, _ => rfl
        | 7, _ => rfl
        | 8, _ => rfl)
  replace hO := hO.alloc (.cells #[.int .u8 n, .int .u8 0, .int .u8 0, .int .u8 0, .int .u8 0, .int .u8 0, .int .u8 0, .int .u8 0, .int .u8 0] 79)
  have HC : Hid (codeB n s = lettersB n s) := by
    show _ = _
    unfold codeB
    simp [h1, h8]
  go_wp2
  go_loopw [22] (fun x wr => ∃ k : Nat, x = .int .i64 k ∧ k ≤ s.length ∧ Hid (lettersB n (s.take k) = true) ∧ KeyAt wr (w.heap.size + 1) n s k ∧ Grid wr w.heap.size 1 9 (fun _ _ => .int .u8 0) ∧ Below w.heap.size w wr) (fun x _ => (8 - intOf x).toNat)
  case atStart => exact ⟨0, rfl, by omega, by show _ = _; simp [lettersB], hK, hO, hB⟩
  case round =>
    clear hK hO hB
    obtain ⟨k, rfl, hk, hL, hK, hO, hB⟩ := hrel
    by_cases hlt : k < s.length
    · have hix := fun V => str_at s k hlt V
      have hlz : (k : Int) < (s.length : Int) := by omega
      have k8 : (k : Int) < 8 := by omega
      have hr := at0_in s k
      have hcell : ∃ u, wr.cell? ⟨w.heap.size + 1, 1 + k, none⟩ = some u := by
        have := hK.1 (1 + k) (by omega) 0 (by omega)
        rw [Nat.mul_one, Nat.add_zero] at this
        exact ⟨_, this⟩
      obtain ⟨u, hcell⟩ := hcell
      have hfr := hK.2.1 (1 + k)
      obtain ⟨v, hv⟩ : ∃ v, letterZ n (at0 s k) = v := ⟨_, rfl⟩
      have hcall := fun V => letter_any n (at0 s k) V hr.1 hr.2
      rw [hv] at hcall
      have HV := Lib.hid hv
      clear hv
      cases v with
      | true =>
        go_wp2_with (go_at_call 45; refine (hcall _).mono ?_; rintro e w' ⟨rfl, rfl⟩)
        go_roundw
        case rel =>
          refine ⟨k + 1, rfl, by omega, ?_, ?_, ?_, ?_⟩
          · show _ = _
            rw [letters_succ n s k hlt, hL.out, HV.out]; rfl
          · exact hK.set (by omega)
          · exact hO.other _ _ _ (by omega)
          · exact hB.setCell (by show w.heap.size ≤ w.heap.size + 1; omega) _
        case measure => simp only [intOf]; omega
      | false =>
        have z := fun (i : Nat) (hi : i < 9) => hO.1 i hi 0 (by omega)
        have z0 := z 0 (by omega)
        have z1 := z 1 (by omega)
        have z2 := z 2 (by omega)
        have z3 := z 3 (by omega)
        have z4 := z 4 (by omega)
        have z5 := z 5 (by omega)
        have z6 := z 6 (by omega)
        have z7 := z 7 (by omega)
        have z8 := z 8 (by omega)
        simp only [Nat.zero_mul, Nat.one_mul, Nat.mul_one, Nat.add_zero] at z0 z1 z2 z3 z4 z5 z6 z7 z8
        have f := hO.2.1
        clear z
        go_wp2_with (go_at_call 45; refine (hcall _).mono ?_; rintro e w' ⟨rfl, rfl⟩)
        have HC' : Hid (codeV n s = .tuple #[.agg #[.int .u8 0, .int .u8 0, .int .u8 0, .int .u8 0, .int .u8 0, .int .u8 0, .int .u8 0, .int .u8 0, .int .u8 0], .bool false]) := by
          show _ = _
          unfold codeV
          rw [HC.out, letters_stop n s k hlt HV.out]; rfl
        refine bodyPost_ret (v := .tuple #[.agg #[.int .u8 0, .int .u8 0, .int .u8 0, .int .u8 0, .int .u8 0, .int .u8 0, .int .u8 0, .int .u8 0, .int .u8 0], .bool false]) (by simp [results, Tryd.results39, go_sem, z0, z1, z2, z3, z4, z5, z6, z7, z8]) rfl ⟨by rw [HC'.out], ?_⟩
        exact (((((((((hB).setCell (p := ⟨w.heap.size, 0, none⟩) (Nat.le_refl _) _).setCell (p := ⟨w.heap.size, 1, none⟩) (Nat.le_refl _) _).setCell (p := ⟨w.heap.size, 2, none⟩) (Nat.le_refl _) _).setCell (p := ⟨w.heap.size, 3, none⟩) (Nat.le_refl _) _).setCell (p := ⟨w.heap.size, 4, none⟩) (Nat.le_refl _) _).setCell (p := ⟨w.heap.size, 5, none⟩) (Nat.le_refl _) _).setCell (p := ⟨w.heap.size, 6, none⟩) (Nat.le_refl _) _).setCell (p := ⟨w.heap.size, 7, none⟩) (Nat.le_refl _) _).setCell (p := ⟨w.heap.size, 8, none⟩) (Nat.le_refl _) _
    · have hke : k = s.length := by omega
      subst hke
      obtain ⟨c0, c1, c2, c3, c4, c5, c6, c7, c8⟩ := hK.cells
      have z := fun (i : Nat) (hi : i < 9) => hO.1 i hi 0 (by omega)
      have z0 := z 0 (by omega)
      have z1 := z 1 (by omega)
      have z2 := z 2 (by omega)
      have z3 := z 3 (by omega)
      have z4 := z 4 (by omega)
      have z5 := z 5 (by omega)
      have z6 := z 6 (by omega)
      have z7 := z 7 (by omega)
      have z8 := z 8 (by omega)
      simp only [Nat.zero_mul, Nat.one_mul, Nat.mul_one, Nat.add_zero] at z0 z1 z2 z3 z4 z5 z6 z7 z8
      have f := hO.2.1
      clear z
      have HK := Lib.hid (key_end n s)
      go_wp2
      have HC' : Hid (codeV n s = .tuple #[.agg #[.int .u8 n, .int .u8 (upto s s.length 0), .int .u8 (upto s s.length 1), .int .u8 (upto s s.length 2), .int .u8 (upto s s.length 3), .int .u8 (upto s s.length 4), .int .u8 (upto s s.length 5), .int .u8 (upto s s.length 6), .int .u8 (upto s s.length 7)], .bool true]) := by
        show _ = _
        have hl := hL.out
        rw [List.take_length] at hl
        unfold codeV
        rw [HC.out, hl, if_pos rfl, HK.out]
      refine bodyPost_ret (v := .tuple #[.agg #[.int .u8 n, .int .u8 (upto s s.length 0), .int .u8 (upto s s.length 1), .int .u8 (upto s s.length 2), .int .u8 (upto s s.length 3), .int .u8 (upto s s.length 4), .int .u8 (upto s s.length 5), .int .u8 (upto s s.length 6), .int .u8 (upto s s.length 7)], .bool true]) (by simp [results, Tryd.results39, go_sem, z0, z1, z2, z3, z4, z5, z6, z7, z8]) rfl ⟨by rw [HC'.out], ?_⟩
      exact (((((((((hB).setCell (p := ⟨w.heap.size, 0, none⟩) (Nat.le_refl _) _).setCell (p := ⟨w.heap.size, 1, none⟩) (Nat.le_refl _) _).setCell (p := ⟨w.heap.size, 2, none⟩) (Nat.le_refl _) _).setCell (p := ⟨w.heap.size, 3, none⟩) (Nat.le_refl _) _).setCell (p := ⟨w.heap.size, 4, none⟩) (Nat.le_refl _) _).setCell (p := ⟨w.heap.size, 5, none⟩) (Nat.le_refl _) _).setCell (p := ⟨w.heap.size, 6, none⟩) (Nat.le_refl _) _).setCell (p := ⟨w.heap.size, 7, none⟩) (Nat.le_refl _) _).setCell (p := ⟨w.heap.size, 8, none⟩) (Nat.le_refl _) _

theorem codeOf_any (n : Int) (s : List UInt8) (w : World) (hl : s.length ≤ 9223372036854775807) (n0 : 1 ≤ n) (n5 : n ≤ 5) :
    Calls Tryd.prog 39 #[.int .i64 n, .string (bs s)] w fun e w' => e = .returned (codeV n s) ∧ Below w.heap.size w w' := by
  by_cases h : s.length < 1 ∨ 8 < s.length
  · exact codeOf_short n s w hl h
  · exact codeOf_long n s w n0 n5 (by omega) (by omega)

end Go.Proofs.YtpmibcdmaaagjaaDoor.Atoms
