/-
  The reader of package parse: those that take a token: left, right, power, operator, end. The reader of package parse: right, power. The reader of package parse: power.
-/
import Derived.Test.YthofogokpolhdaaGreatDoorRLX
import Derived.WalkLawsBesides
namespace Go.Proofs.YthofogokpolhdaaGreatDoor.Parses
open Go.RowKit Go.Shelf
open Go.Proofs.YthofogokpolhdaaGreatDoor.Trees (Stp StepsAt cellS StAt elem_step cell_oneS)
open Go.Proofs.YthofogokpolhdaaGreatDoor.Toks (Tok ToksAt cellK cell_lt cell_same SliceAt Above Grid Spare Elem elem_of append_any both wpList_app)
open Go.Proofs.YthofogokpolhdaaGreatDoor.Style (bs bs_size bs_at getD_at bs_of)
set_option linter.unusedVariables false
set_option linter.unusedSimpArgs false

theorem isK_lt {L : List Tok} {i : Nat} {k : Int} (h : isK L i k = true) : i < L.length := by
  unfold isK at h
  rw [Bool.and_eq_true] at h
  exact of_decide_eq_true h.1

set_option maxRecDepth 100000 in
set_option maxHeartbeats 2000000 in
theorem left_t (i : Nat) (w0 : World) (st : Value) (L : List Tok) (size : Int) (pow : Bool) (vm vw vt : Value) (s : Rd) (w : World) (h : RdM w0 st L size pow vm vw vt s w) (hL : L.length ≤ 1000) (n : Nat) (hn : s.waits.length = n + 1) (hl : n ≤ 32) (ht : s.tree.length ≤ 990) :
    Calls Tryz.prog 119 #[.pointer (some ⟨w0.heap.size, 0, none⟩), .int .i64 (i : Int)] w (Took w0 st L size pow s i w (leftG L i s)) := by
  have hI := RdI.of h
  have hk := is_v i 7 w0 st L size pow vm vw vt s w h hL
  cases hc : isK L i 7 with
  | false =>
    rw [hc] at hk
    have HG : Hid (leftG L i s = .no) := by show _ = _; unfold leftG; simp [hc]
    rw [HG.out]
    have HI := Lib.hid hI
    clear hI h hc HG
    go_enter Tryz.func119, Tryz.ntmps119
    go_wp2_with fail
    refine hk.mono ?_
    rintro e w2 ⟨rfl, rfl⟩
    clear hk
    go_wp2_with fail
    go_ret
    exact ⟨rfl, rfl⟩
  | true =>
    rw [hc] at hk
    have hN := nested_v w0 st L size pow vm vw vt s w h (by omega)
    have hnn : ((s.waits.length : Int) - 1) = (n : Int) := by omega
    rw [hnn] at hN
    have hlI : (n : Int) ≤ 32 := by omega
    by_cases h32 : n = 32
    · have HG : Hid (leftG L i s = .deep) := by show _ = _; unfold leftG; rw [if_pos hc, if_pos (by omega)]
      rw [HG.out]
      have hp := place_v i w0 st L size pow vm vw vt s w h hL
      have HI := Lib.hid hI
      generalize hpl : placeG L size i = pl at *
      have HPL := Lib.hid hpl
      have h32' : ((n : Int) == 32) = true := by rw [h32]; rfl
      clear hI h hc HG hnn hpl h32
      go_enter Tryz.func119, Tryz.ntmps119
      go_wp2_with fail
      refine hk.mono ?_
      rintro e w2 ⟨rfl, rfl⟩
      clear hk
      go_wp2_with fail
      refine hN.mono ?_
      rintro e w2 ⟨rfl, rfl⟩
      clear hN
      go_wp2_with fail
      refine hp.mono ?_
      rintro e w2 ⟨rfl, rfl⟩
      clear hp
      go_wp2_with fail
      refine ⟨rfl, ?_, HI.out⟩
      rw [HPL.out]
      rfl
    · have HG : Hid (leftG L i s = .go (openS s)) := by show _ = _; unfold leftG; rw [if_pos hc, if_neg (by omega)]
      rw [HG.out]
      have ho := open_v w0 st L size pow vm vw vt s w h (by omega)
      have h32' : ((n : Int) == 32) = false := by
        rw [beq_eq_false_iff_ne]; omega
      clear hI h hc HG hnn h32
      go_enter Tryz.func119, Tryz.ntmps119
      go_wp2_with fail
      refine hk.mono ?_
      rintro e w2 ⟨rfl, rfl⟩
      clear hk
      go_wp2_with fail
      refine hN.mono ?_
      rintro e w2 ⟨rfl, rfl⟩
      clear hN
      go_wp2_with fail
      refine ho.mono ?_
      rintro e w2 ⟨rfl, hE⟩
      have HE := Lib.hid hE
      clear ho hE
      go_wp2_with fail
      go_ret
      exact ⟨rfl, HE.out⟩

theorem close_waits (s : Rd) : (closeS s).waits = s.waits ∧ (closeS s).may = s.may ∧ (closeS s).below = s.below ∧ (closeS s).tree.length ≤ s.tree.length + 1 := by
  unfold closeS
  split
  · exact ⟨rfl, rfl, rfl, by omega⟩
  · refine ⟨rfl, rfl, rfl, ?_⟩
    unfold putS
    simp

set_option maxRecDepth 100000 in
set_option maxHeartbeats 2000000 in
theorem end_t (i : Nat) (w0 : World) (st : Value) (L : List Tok) (size : Int) (pow : Bool) (vm vw vt : Value) (s : Rd) (w : World) (h : RdM w0 st L size pow vm vw vt s w) (hL : L.length ≤ 1000) (n : Nat) (hn : s.waits.length = n + 1) (hl : n ≤ 32) (ht : s.tree.length ≤ 990) :
    Calls Tryz.prog 153 #[.pointer (some ⟨w0.heap.size, 0, none⟩), .int .i64 (i : Int)] w (Took w0 st L size pow s i w (endG L i s)) := by
  have hI := RdI.of h
  have hN := nested_v w0 st L size pow vm vw vt s w h (by omega)
  have hnn : ((s.waits.length : Int) - 1) = (n : Int) := by omega
  rw [hnn] at hN
  have hlI : (n : Int) ≤ 32 := by omega
  have hLI : (L.length : Int) ≤ 1000 := by omega
  have c0 := h.c0
  obtain ⟨os, cs, rfl⟩ := SliceAt.slice h.toks
  have hcl := close_v w0 _ L size pow vm vw vt s w h n hn (by omega) (by omega)
  by_cases hi : i < L.length
  · have hiI : (i : Int) < L.length := by omega
    have HG : Hid (endG L i s = .no) := by show _ = _; unfold endG; rw [if_pos (.inl hi)]
    rw [HG.out]
    have HI := Lib.hid hI
    clear hI h hcl hnn HG hN
    go_enter Tryz.func153, Tryz.ntmps153
    go_wp2_with fail
    go_ret
    exact ⟨rfl, rfl⟩
  · have hiI : ¬ (i : Int) < L.length := by omega
    by_cases hn0 : 0 < n
    · have HG : Hid (endG L i s = .no) := by show _ = _; unfold endG; rw [if_pos (.inr (by omega))]
      rw [HG.out]
      have HI := Lib.hid hI
      have hn0I : (0 : Int) < n := by omega
      clear hI h hcl hnn HG
      go_enter Tryz.func153, Tryz.ntmps153
      go_wp2_with fail
      refine hN.mono ?_
      rintro e w2 ⟨rfl, rfl⟩
      clear hN
      go_wp2_with fail
      go_ret
      exact ⟨rfl, rfl⟩
    · have HG : Hid (endG L i s = .go (closeS s)) := by show _ = _; unfold endG; rw [if_neg (by omega)]
      rw [HG.out]
      have hn0I : ¬ (0 : Int) < n := by omega
      clear hI h hnn HG
      go_enter Tryz.func153, Tryz.ntmps153
      go_wp2_with fail
      refine hN.mono ?_
      rintro e w2 ⟨rfl, rfl⟩
      clear hN
      go_wp2_with fail
      refine hcl.mono ?_
      rintro e w2 ⟨rfl, hE⟩
      have HE := Lib.hid hE
      clear hcl hE
      go_wp2_with fail
      go_ret
      exact ⟨rfl, HE.out⟩

set_option maxRecDepth 100000 in
set_option maxHeartbeats 2000000 in
theorem operator_t (i : Nat) (w0 : World) (st : Value) (L : List Tok) (size : Int) (pow : Bool) (vm vw vt : Value) (s : Rd) (w : World) (h : RdM w0 st L size pow vm vw vt s w) (hL : L.length ≤ 1000) (n : Nat) (hn : s.waits.length = n + 1) (hl : n ≤ 32) (ht : s.tree.length ≤ 990) :
    Calls Tryz.prog 151 #[.pointer (some ⟨w0.heap.size, 0, none⟩), .int .i64 (i : Int)] w (Took w0 st L size pow s i w (operatorG L i s)) := by
  have hI := RdI.of h
  have hk4 := is_v i 4 w0 st L size pow vm vw vt s w h hL
  have hk5 := is_v i 5 w0 st L size pow vm vw vt s w h hL
  have hcl := close_v w0 _ L size pow vm vw vt s w h n hn (by omega) (by omega)
  have hw : ∀ op W, RdI w0 st L size pow (closeS s) W → Calls Tryz.prog 131 #[.pointer (some ⟨w0.heap.size, 0, none⟩), .int .i64 op] W fun e w' => e = .returned (.tuple #[]) ∧ RdI w0 st L size pow (waitS (closeS s) op) w' := by
    intro op W hW
    obtain ⟨a, b, c, hM⟩ := hW
    exact wait_v op w0 st L size pow a b c _ W hM n (by rw [(close_waits s).1]; exact hn) (by omega)
  cases hc4 : isK L i 4 with
  | true =>
    rw [hc4] at hk4
    have HG : Hid (operatorG L i s = .go (waitS (closeS s) 3)) := by show _ = _; unfold operatorG; rw [if_pos hc4]
    rw [HG.out]
    clear hI h hk5 HG
    go_enter Tryz.func151, Tryz.ntmps151
    go_wp2_with fail
    refine hk4.mono ?_
    rintro e w2 ⟨rfl, rfl⟩
    clear hk4
    go_wp2_with fail
    refine hcl.mono ?_
    rintro e w2 ⟨rfl, hE⟩
    have hw2 := hw 3 w2 hE
    clear hcl hw hE
    go_wp2_with fail
    refine hw2.mono ?_
    rintro e w3 ⟨rfl, hE⟩
    have HE := Lib.hid hE
    clear hw2 hE
    go_wp2_with fail
    go_ret
    exact ⟨rfl, HE.out⟩
  | false =>
    rw [hc4] at hk4
    cases hc5 : isK L i 5 with
    | true =>
      rw [hc5] at hk5
      have HG : Hid (operatorG L i s = .go (waitS (closeS s) 4)) := by show _ = _; unfold operatorG; rw [if_neg (by rw [hc4]; simp), if_pos hc5]
      rw [HG.out]
      clear hI h HG
      go_enter Tryz.func151, Tryz.ntmps151
      go_wp2_with fail
      refine hk4.mono ?_
      rintro e w2 ⟨rfl, rfl⟩
      clear hk4
      go_wp2_with fail
      refine hk5.mono ?_
      rintro e w2 ⟨rfl, rfl⟩
      clear hk5
      go_wp2_with fail
      refine hcl.mono ?_
      rintro e w2 ⟨rfl, hE⟩
      have hw2 := hw 4 w2 hE
      clear hcl hw hE
      go_wp2_with fail
      refine hw2.mono ?_
      rintro e w3 ⟨rfl, hE⟩
      have HE := Lib.hid hE
      clear hw2 hE
      go_wp2_with fail
      go_ret
      exact ⟨rfl, HE.out⟩
    | false =>
      rw [hc5] at hk5
      have HG : Hid (operatorG L i s = .no) := by show _ = _; unfold operatorG; rw [if_neg (by rw [hc4]; simp), if_neg (by rw [hc5]; simp)]
      rw [HG.out]
      have HI := Lib.hid hI
      clear hI h HG hcl hw
      go_enter Tryz.func151, Tryz.ntmps151
      go_wp2_with fail
      refine hk4.mono ?_
      rintro e w2 ⟨rfl, rfl⟩
      clear hk4
      go_wp2_with fail
      refine hk5.mono ?_
      rintro e w2 ⟨rfl, rfl⟩
      clear hk5
      go_wp2_with fail
      go_ret
      exact ⟨rfl, rfl⟩

end Go.Proofs.YthofogokpolhdaaGreatDoor.Parses

namespace Go.Proofs.YthofogokpolhdaaGreatDoor.Parses
open Go.RowKit Go.Shelf
open Go.Proofs.YthofogokpolhdaaGreatDoor.Trees (Stp StepsAt cellS StAt elem_step cell_oneS)
open Go.Proofs.YthofogokpolhdaaGreatDoor.Toks (Tok ToksAt cellK cell_lt cell_same SliceAt Above Grid Spare Elem elem_of append_any both wpList_app)
open Go.Proofs.YthofogokpolhdaaGreatDoor.Style (bs bs_size bs_at getD_at bs_of)
set_option linter.unusedVariables false
set_option linter.unusedSimpArgs false

theorem slice_ints (b n c m : Nat) (hc : m ≤ c) (W : World) : (Instr.slice 22 (.slice (some ⟨b, 0, none⟩) n c) none (some (.int .i64 (m : Int))) none).run Tryz.prog W = .ok (.slice (some ⟨b, 0, none⟩) m c) W := by
  have hs : (sizeOf (Tryz.prog.elem 22)).run Tryz.prog W = .ok 1 W := by kernel_rfl
  rw [run_slice_h (P := Tryz.prog) (w := W) 22 (some ⟨b, 0, none⟩) n c (by kernel_rfl) .i64 (m : Int) (by omega) (by omega), hs]
  show Result.ok (sliced _ _ _ _ _) W = _
  unfold sliced
  rw [Nat.zero_mul, Nat.sub_zero, Nat.sub_zero, Int.toNat_natCast]
  have h0 : (if c = 0 then some (⟨b, 0, none⟩ : Addr) else (some (⟨b, 0, none⟩ : Addr)).map (·.add 0)) = some ⟨b, 0, none⟩ := by simp [Addr.add_zero']
  rw [h0]
/-- One less waits. -/
theorem RdM.wait_pop {w0 : World} {st : Value} {L : List Tok} {size : Int} {pow : Bool} {vm vw vt : Value} {s : Rd} {W : World} (h : RdM w0 st L size pow vm vw vt s W) {n : Nat} (hn : s.waits.length = n + 1) (h1 : 1 ≤ n) :
    ∃ b c, vw = .slice (some ⟨b, 0, none⟩) (n + 1) c ∧ n + 1 ≤ c ∧ RdM w0 st L size pow vm (.slice (some ⟨b, 0, none⟩) n c) vt { s with waits := s.waits.dropLast } (W.setCell ⟨w0.heap.size, 4, none⟩ (.slice (some ⟨b, 0, none⟩) n c)) := by
  rcases id h.wts with ⟨h0, _⟩ | ⟨b, c, hs, hc, hm, hg⟩
  · omega
  · rw [hn] at hs hc hg
    have hlen : s.waits.dropLast.length = n := by rw [List.length_dropLast, hn]; rfl
    refine ⟨b, c, hs, hc, h.waits _ _ ?_ ?_ ?_ ?_⟩
    · refine .inr ⟨b, c, by rw [hlen], by rw [hlen]; omega, hm, ?_⟩
      rw [hlen]
      refine (hg.short (by omega)).ext (fun i hi j hj => ?_)
      unfold cellI
      rw [List.getD_eq_getElem?_getD, List.getD_eq_getElem?_getD, List.getElem?_dropLast, if_pos (by rw [hn]; omega)]
    · exact fun a m d e => by injection e with e; injection e with e; subst e; exact h.aw _ _ _ hs
    · exact fun a m d a' m' d' e e' => by injection e' with e'; injection e' with e'; subst e'; exact h.mw _ _ _ _ _ _ e hs
    · exact fun a m d a' m' d' e e' => by injection e with e; injection e with e; subst e; exact h.wt _ _ _ _ _ _ hs e'

set_option maxRecDepth 100000 in
set_option maxHeartbeats 2000000 in
theorem right_t (i : Nat) (w0 : World) (st : Value) (L : List Tok) (size : Int) (pow : Bool) (vm vw vt : Value) (s : Rd) (w : World) (h : RdM w0 st L size pow vm vw vt s w) (hL : L.length ≤ 1000) (n : Nat) (hn : s.waits.length = n + 1) (hl : n ≤ 32) (ht : s.tree.length ≤ 990) :
    Calls Tryz.prog 152 #[.pointer (some ⟨w0.heap.size, 0, none⟩), .int .i64 (i : Int)] w (Took w0 st L size pow s i w (rightG L i s)) := by
  have hI := RdI.of h
  have hk := is_v i 8 w0 st L size pow vm vw vt s w h hL
  have hN := nested_v w0 st L size pow vm vw vt s w h (by omega)
  have hnn : ((s.waits.length : Int) - 1) = (n : Int) := by omega
  rw [hnn] at hN
  have hlI : (n : Int) ≤ 32 := by omega
  have hcl := close_v w0 _ L size pow vm vw vt s w h n hn (by omega) (by omega)
  cases hc : isK L i 8 with
  | false =>
    rw [hc] at hk
    have HG : Hid (rightG L i s = .no) := by show _ = _; unfold rightG; simp [hc]
    rw [HG.out]
    have HI := Lib.hid hI
    clear hI h hc HG hN hcl hnn
    go_enter Tryz.func152, Tryz.ntmps152
    go_wp2_with fail
    refine hk.mono ?_
    rintro e w2 ⟨rfl, rfl⟩
    clear hk
    go_wp2_with fail
    go_ret
    exact ⟨rfl, rfl⟩
  | true =>
    rw [hc] at hk
    by_cases hn0 : n = 0
    · have HG : Hid (rightG L i s = .no) := by show _ = _; unfold rightG; rw [if_neg (fun h => h.2 (by omega))]
      rw [HG.out]
      have HI := Lib.hid hI
      have hb0 : ((n : Int) == 0) = true := by rw [hn0]; rfl
      clear hI h hc HG hcl hnn hn0
      go_enter Tryz.func152, Tryz.ntmps152
      go_wp2_with fail
      refine hk.mono ?_
      rintro e w2 ⟨rfl, rfl⟩
      clear hk
      go_wp2_with fail
      refine hN.mono ?_
      rintro e w2 ⟨rfl, rfl⟩
      clear hN
      go_wp2_with fail
      go_ret
      exact ⟨rfl, rfl⟩
    · have HG : Hid (rightG L i s = .go (mayS { closeS s with waits := (closeS s).waits.dropLast } 6)) := by show _ = _; unfold rightG; rw [if_pos ⟨hc, by omega⟩, (close_waits s).1]
      rw [HG.out]
      have hb0 : ((n : Int) == 0) = false := by rw [beq_eq_false_iff_ne]; omega
      have hcw : (closeS s).waits.length = n + 1 := by rw [(close_waits s).1]; exact hn
      generalize closeS s = s2 at *
      clear hI h hc HG hnn
      go_enter Tryz.func152, Tryz.ntmps152
      go_wp2_with fail
      refine hk.mono ?_
      rintro e w2 ⟨rfl, rfl⟩
      clear hk
      go_wp2_with fail
      refine hN.mono ?_
      rintro e w2 ⟨rfl, rfl⟩
      clear hN
      go_wp2_with fail
      refine hcl.mono ?_
      rintro e w2 ⟨rfl, a, b, c, hM⟩
      have hM1 := hM.go (Below.refl _ _).drew
      obtain ⟨bb, cc, rfl, hcc, hE⟩ := hM1.wait_pop hcw (by omega)
      have c4 := hM.c4
      have f4 := hM.fr 4
      have hwr : IntKind.i64.wrap (n : Int) = (n : Int) := by unfold IntKind.wrap; simp [IntKind.bits, IntKind.signed]; omega
      have hsl : ∀ W, (Instr.slice 22 (.slice (some ⟨bb, 0, none⟩) (n + 1) cc) none (some (.int .i64 (IntKind.i64.wrap (n : Int)))) none).run Tryz.prog W = .ok (.slice (some ⟨bb, 0, none⟩) n cc) W := fun W => by rw [hwr]; exact slice_ints bb (n + 1) cc n (by omega) W
      clear hwr
      have hb := behindBase_v w0 st L size pow _ _ _ _ _ hE
      clear hcl hM hM1 hE hcw hb0
      go_upto_region 4 with fail
      go_still_tail 14, (by kernel_rfl)
      change wpList _ _ _ _ _ w2.drew
      go_wp2_with fail
      refine hb.mono ?_
      rintro e w3 ⟨rfl, hE⟩
      have HE := Lib.hid (RdI.of2 hE)
      clear hb hE
      go_wp2_with fail
      go_ret
      exact ⟨rfl, HE.out⟩

/-- The last step's power is put down. -/
theorem RdM.pow_put {w0 : World} {st : Value} {L : List Tok} {size : Int} {pow : Bool} {vm vw vt : Value} {s : Rd} {W : World} (h : RdM w0 st L size pow vm vw vt s W) {m : Nat} (hm1 : s.tree.length = m + 1) (k : Int) :
    ∃ b c, vt = .slice (some ⟨b, 0, none⟩) (m + 1) c ∧ (∃ v, W.cell? ⟨b, m * 6 + 3, none⟩ = some v) ∧ W.frozen? ⟨b, m * 6 + 3, none⟩ = false ∧ RdM w0 st L size pow vm vw vt (powS s k) (W.setCell ⟨b, m * 6 + 3, none⟩ (.int .i64 k)) := by
  rcases id h.tre with ⟨h0, _⟩ | ⟨b, c, hs, hc, hm, hg⟩
  · omega
  · rw [hm1] at hs hc hg
    have hb1 : w0.heap.size + 1 ≤ b := h.at_ _ _ _ hs
    have hbm : ∀ a n' c', vm = .slice (some a) n' c' → a.block ≠ b := fun a n' c' e => h.mt _ _ _ _ _ _ e hs
    have hbw : ∀ a n' c', vw = .slice (some a) n' c' → a.block ≠ b := fun a n' c' e => h.wt _ _ _ _ _ _ e hs
    have c0 := hg.1 m (by omega) 3 (by omega)
    have hO : Toks.Only b W (W.setCell ⟨b, m * 6 + 3, none⟩ (.int .i64 k)) := (Toks.Only.refl b W).set (m * 6 + 3) _
    have hB := hO.below (B := w0.heap.size + 1) hb1
    have hs' : ∀ j u, W.cell? ⟨w0.heap.size, j, none⟩ = some u → (W.setCell ⟨b, m * 6 + 3, none⟩ (.int .i64 k)).cell? ⟨w0.heap.size, j, none⟩ = some u := fun j u hu => (hB.cell (p := ⟨w0.heap.size, j, none⟩) (show w0.heap.size < w0.heap.size + 1 by omega)).trans hu
    have hoth : ∀ {v : Value} {k' m' : Nat} {f : Nat → Nat → Value}, SliceAt W v k' m' f → (∀ a n' c', v = .slice (some a) n' c' → a.block ≠ b) → SliceAt (W.setCell ⟨b, m * 6 + 3, none⟩ (.int .i64 k)) v k' m' f := by
      intro v k' m' f hv hne
      rcases hv with hv | ⟨b', c', hs2, hc2, hm2, hg2⟩
      · exact .inl hv
      · have := hne _ _ _ hs2
        exact .inr ⟨b', c', hs2, hc2, hm2.set _ _ _, hg2.other _ _ _ (Ne.symm this)⟩
    refine ⟨b, c, hs, ⟨_, c0⟩, hg.2.1 _, ⟨h.below.trans (hB.mono (by omega)), hs' _ _ h.c0, hs' _ _ h.c1, hs' _ _ h.c2, hs' _ _ h.c3, hs' _ _ h.c4, hs' _ _ h.c5, hs' _ _ h.c6, fun j => by rw [World.frozen?_setCell]; exact h.fr j, h.toks, hoth h.lay hbm, hoth h.wts hbw, ?_, h.am, h.aw, h.at_, h.mw, h.mt, h.wt⟩⟩
    have hlen : (powS s k).tree.length = m + 1 := by unfold powS; simp [hm1]
    show SliceAt _ vt 6 (powS s k).tree.length (cellS (powS s k).tree)
    have hgs := hg.set m 3 (by omega) (by omega) (.int .i64 k)
    refine .inr ⟨b, c, by rw [hlen]; exact hs, by rw [hlen]; exact hc, hm.set _ _ _, ?_⟩
    rw [hlen]
    refine hgs.ext (fun i hi j hj => ?_)
    unfold Toks.upd cellS powS
    by_cases hin : i < m
    · rw [if_neg (by omega)]
      dsimp only
      rw [List.getD_eq_getElem?_getD (l := _ ++ _), List.getElem?_append_left (by rw [List.length_dropLast, hm1]; omega), List.getElem?_dropLast, if_pos (by rw [hm1]; omega), ← List.getD_eq_getElem?_getD]
    · have : i = m := by omega
      subst this
      have hlast : s.tree.getD i default = s.tree.getLastD default := by
        rw [List.getLastD_eq_getLast?, List.getLast?_eq_getElem?, hm1, List.getD_eq_getElem?_getD]; rfl
      dsimp only
      rw [List.getD_eq_getElem?_getD (l := _ ++ _), List.getElem?_append_right (by rw [List.length_dropLast, hm1]; omega), List.length_dropLast, hm1, hlast]
      generalize s.tree.getLastD default = x
      rw [show i - (i + 1 - 1) = 0 by omega]
      show _ = ({ x with n := k } : Stp).cs[j]?.getD undef
      match j, hj with
      | 0, _ => rw [if_neg (by omega)]; rfl
      | 1, _ => rw [if_neg (by omega)]; rfl
      | 2, _ => rw [if_neg (by omega)]; rfl
      | 3, _ => rw [if_pos ⟨rfl, rfl⟩]; rfl
      | 4, _ => rw [if_neg (by omega)]; rfl
      | 5, _ => rw [if_neg (by omega)]; rfl

end Go.Proofs.YthofogokpolhdaaGreatDoor.Parses

namespace Go.Proofs.YthofogokpolhdaaGreatDoor.Parses
open Go.RowKit Go.Shelf
open Go.Proofs.YthofogokpolhdaaGreatDoor.Trees (Stp StepsAt cellS StAt elem_step cell_oneS)
open Go.Proofs.YthofogokpolhdaaGreatDoor.Toks (Tok ToksAt cellK cell_lt cell_same SliceAt Above Grid Spare Elem elem_of append_any both wpList_app)
open Go.Proofs.YthofogokpolhdaaGreatDoor.Style (bs bs_size bs_at getD_at bs_of)
set_option linter.unusedVariables false
set_option linter.unusedSimpArgs false

set_option maxRecDepth 100000 in
set_option maxHeartbeats 4000000 in
theorem power_t (i : Nat) (w0 : World) (st : Value) (L : List Tok) (size : Int) (pow : Bool) (vm vw vt : Value) (s : Rd) (w : World) (h : RdM w0 st L size pow vm vw vt s w) (hL : L.length ≤ 1000) (m : Nat) (hm : s.tree.length = m + 1) (ht : s.tree.length ≤ 990) :
    Calls Tryz.prog 155 #[.pointer (some ⟨w0.heap.size, 0, none⟩), .int .i64 (i : Int)] w (Took w0 st L size pow s i w (powerG L i s)) := by
  have hI := RdI.of h
  have hk := is_v i 2 w0 st L size pow vm vw vt s w h hL
  have hmI : (m : Int) ≤ 990 := by omega
  cases hc : isK L i 2 with
  | false =>
    rw [hc] at hk
    have HG : Hid (powerG L i s = .no) := by show _ = _; unfold powerG; simp [hc]
    rw [HG.out]
    have HI := Lib.hid hI
    clear hI h hc HG
    go_enter Tryz.func155, Tryz.ntmps155
    go_wp2_with fail
    refine hk.mono ?_
    rintro e w2 ⟨rfl, rfl⟩
    clear hk
    go_wp2_with fail
    go_ret
    exact ⟨rfl, rfl⟩
  | true =>
    rw [hc] at hk
    have hii := isK_lt hc
    obtain ⟨b, c, rfl, t0, t1, t2, t3⟩ := h.tok hii
    have hiI : (i : Int) < L.length := by omega
    have hLI : (L.length : Int) ≤ 1000 := by omega
    have c0 := h.c0
    by_cases hno : (L.getD i default).num < 0 ∨ 99 < (L.getD i default).num
    · have HG : Hid (powerG L i s = .no) := by show _ = _; unfold powerG; rw [if_neg (by omega)]
      rw [HG.out]
      have HI := Lib.hid hI
      generalize (L.getD i default).num = nm at *
      clear hI h hc HG t0 t1 t2
      by_cases h0 : nm < 0
      · clear hno
        go_enter Tryz.func155, Tryz.ntmps155
        go_wp2_with fail
        refine hk.mono ?_
        rintro e w2 ⟨rfl, rfl⟩
        clear hk
        go_wp2_with fail
        go_ret
        exact ⟨rfl, rfl⟩
      · have h99 : 99 < nm := by omega
        clear hno
        go_enter Tryz.func155, Tryz.ntmps155
        go_wp2_with fail
        refine hk.mono ?_
        rintro e w2 ⟨rfl, rfl⟩
        clear hk
        go_wp2_with fail
        go_ret
        exact ⟨rfl, rfl⟩
    · have c5 := h.c5
      have hb := fun (k : Int) W (hW : RdI w0 (.slice (some ⟨b, 0, none⟩) L.length c) L size pow (powS s k) W) => hW
      obtain ⟨bt, ct, rfl, _⟩ : ∃ b' c', vt = .slice (some ⟨b', 0, none⟩) (m + 1) c' ∧ True := by
        obtain ⟨b', c', e, _⟩ := h.pow_put hm 0
        exact ⟨b', c', e, trivial⟩
      have hput : ∀ k : Int, (∃ v, w.drew.cell? ⟨bt, m * 6 + 3, none⟩ = some v) ∧ w.drew.frozen? ⟨bt, m * 6 + 3, none⟩ = false ∧ RdM w0 (.slice (some ⟨b, 0, none⟩) L.length c) L size pow vm vw (.slice (some ⟨bt, 0, none⟩) (m + 1) ct) (powS s k) (w.drew.setCell ⟨bt, m * 6 + 3, none⟩ (.int .i64 k)) := by
        intro k
        obtain ⟨b', c', e, x1, x2, hE⟩ := (h.go (Below.refl _ _).drew).pow_put hm k
        injection e with e1 e2 e3
        injection e1 with e1
        injection e1 with e1
        subst e1
        exact ⟨x1, x2, hE⟩
      have c6 := h.c6
      have HG : Hid (powerG L i s = .go (mayS (powS s (if s.below = true then 0 - (L.getD i default).num else (L.getD i default).num)) 6)) := by show _ = _; unfold powerG; rw [if_pos ⟨hc, by omega, by omega⟩]
      rw [HG.out]
      generalize (L.getD i default).num = nm at *
      have h0 : ¬ nm < 0 := by omega
      have h99 : ¬ 99 < nm := by omega
      clear hI hc HG t0 t1 t2 hno hb
      cases hbl : s.below with
      | false =>
        rw [hbl] at c5
        obtain ⟨⟨ov, x1⟩, x2, hE⟩ := hput nm
        have hbb := behindBase_v w0 _ L size pow _ _ _ _ _ hE
        rw [if_neg (by simp)]
        clear hput hE h
        go_enter Tryz.func155, Tryz.ntmps155
        go_wp2_with fail
        refine hk.mono ?_
        rintro e w2 ⟨rfl, rfl⟩
        clear hk
        go_upto_region 6 with fail
        go_still_tail 11, (by kernel_rfl)
        change wpList _ _ _ _ _ w.drew
        clear t3 c0 c5
        go_wp2_with fail
        refine hbb.mono ?_
        rintro e w3 ⟨rfl, hE⟩
        have HE := Lib.hid (RdI.of2 hE)
        clear hbb hE
        go_wp2_with fail
        go_ret
        exact ⟨rfl, HE.out⟩
      | true =>
        rw [hbl] at c5
        obtain ⟨⟨ov, x1⟩, x2, hE⟩ := hput (0 - nm)
        rw [Int.zero_sub] at hE
        have hbb := behindBase_v w0 _ L size pow _ _ _ _ _ hE
        rw [if_pos rfl, Int.zero_sub]
        clear hput hE h
        go_enter Tryz.func155, Tryz.ntmps155
        go_wp2_with fail
        refine hk.mono ?_
        rintro e w2 ⟨rfl, rfl⟩
        clear hk
        go_upto_region 6 with fail
        go_still_tail 11, (by kernel_rfl)
        change wpList _ _ _ _ _ w.drew
        clear t3 c0 c5
        go_wp2_with fail
        refine hbb.mono ?_
        rintro e w3 ⟨rfl, hE⟩
        have HE := Lib.hid (RdI.of2 hE)
        clear hbb hE
        go_wp2_with fail
        go_ret
        exact ⟨rfl, HE.out⟩

end Go.Proofs.YthofogokpolhdaaGreatDoor.Parses

