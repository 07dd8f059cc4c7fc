/-
  The contract of whole.Parts and of the function that it hands back: the pairs of the number, in their order; or a beginning of them, where a round has said that no more is wanted.
-/
import Derived.Test.YtlpkpmpkbinfoaaR3
import Derived.RangeFuncNested
import Derived.RangeFuncBound
import Derived.RangeFuncCalls
import Derived.RangeFuncLeaves
import Derived.RangeFuncFrom
import Derived.Shelf.Abstract
import Derived.Shelf.RegionOpen
import Derived.OwnWalkIn
import Derived.TacticsInMore
import Derived.LoopNIn
import Derived.LoopIn
namespace Go.Proofs.Ytlpkpmpkbinfoaa.Whole
open Go.RowKit Go.Shelf
attribute [local go_sem] Oper.semAt_some
set_option linter.unusedVariables false

abbrev encP (p : Int × Int) : Array Value := #[.int .i64 p.1, .int .i64 p.2]

/-- A scope through which the run goes without a goto, inside the wide fence. -/
theorem scope_wide {n : Nat} {P : Program} {c : Code} {Q : Exit → Act → World → Prop} {a : Act} {w : World} (h : c.wpIn Fence.wide n P (Exit.noGoto Q) a w) : (Code.scope c).wpIn Fence.wide n P Q a w :=
  wpIn_wide.2 (wp_scope_straight (wpIn_wide.1 h))

/-- How the function ends: it has told all, or a round has left it behind a beginning. -/
def Told (all : List (Int × Int)) (J Jx : List (Int × Int) → World → Prop) (e : Ending) (W' : World) : Prop :=
  (∃ v, e = .returned v) ∧ ((∃ ys, ys = all ∧ J ys W') ∨ (∃ pre, pre <+: all ∧ Jx pre W'))

set_option maxRecDepth 100000 in
set_option maxHeartbeats 1000000 in
theorem parts1_in (n l Bn : Nat) (x : Int) (hn : 1 ≤ n) (J Jx : List (Int × Int) → World → Prop) (hx : x ≠ 0) (hx1 : -9223372036854775807 ≤ x) (hx2 : x ≤ 9223372036854775807)
    (hY : ∀ pre y W, J pre W → pre.length < (partsOf x).length → YieldAt Fence.wide (n - 1) Try.prog l (encP y) W fun e W' =>
      (e = .returned (.bool true) ∧ J (pre ++ [y]) W' ∧ True) ∨ (e = .returned (.bool false) ∧ Jx (pre ++ [y]) W'))
    (W : World) (hBn : W.cell? ⟨Bn, 0, none⟩ = some (.int .i64 x)) (h0 : J [] W) :
    CallsIn Fence.wide n Try.prog 28 #[.func (.yield l) #[] #[], .pointer (some ⟨Bn, 0, none⟩)] W (Told (partsOf x) J Jx) := by
  have e0 : (x == 0) = false := by simpa using hx
  refine callsIn_of_wp Try.func28 rfl trivial ?_ rfl
  simp only [Try.ntmps28, List.size_toArray, List.length_cons, List.length_nil, Nat.reduceAdd, Nat.reduceSub, Array.replicate_succ, Array.replicate_zero, List.push_toArray, List.append_toArray, List.nil_append, List.cons_append]
  refine scope_wide ?_
  gi_wp2_with (first
    | (refine ⟨trivial, ?_⟩; gi_at_call 22; refine (callsIn_wide.2 (fits_yes _ _ hx1)).mono ?_; rintro e w' ⟨rfl, rfl⟩)
    | (refine ⟨trivial, ?_⟩; gi_at_call 25; refine (callsIn_wide.2 (size_any _ _ hx1)).mono ?_; rintro e w' ⟨rfl, rfl⟩))
  refine wpIn_label ?_
  gi_wp2
  have hP : partsOf x = [] ++ pS 2 x.natAbs := by simp [partsOf, hx]
  have b1 : 1 ≤ (x.natAbs : Int) := by omega
  have b2 : (x.natAbs : Int) ≤ 9223372036854775807 := by omega
  generalize (x.natAbs : Int) = y at *
  have HP := Lib.hid hP
  have HY := Lib.hid hY
  clear hP hY
  gi_loopw [3, 4] (fun a b wr => ∃ (left d : Int) (pre : List (Int × Int)), a = .int .i64 left ∧ b = .int .i64 d ∧ 2 ≤ d ∧ d ≤ 1048577 ∧ 1 ≤ left ∧ left ≤ 9223372036854775807 ∧ Hid (partsOf x = pre ++ pS d left) ∧ J pre wr)
    (fun _ b _ => (1048577 - intOf b).toNat)
  case atStart => exact ⟨y, 2, [], rfl, rfl, by omega, by omega, b1, b2, HP, h0⟩
  case round =>
    obtain ⟨left, d, pre, rfl, rfl, d1, d2, l1, l2, hall, hJ⟩ := hrel
    by_cases hd : d ≤ 1048576
    · have q1 : 0 ≤ d * d := Int.mul_nonneg (by omega) (by omega)
      have q2 : d * d ≤ 1048576 * 1048576 := Int.mul_le_mul hd hd (by omega) (by omega)
      have q3 : d * d ≤ 1099511627776 := by omega
      clear q2
      by_cases hdd : d * d ≤ left
      · have ed : (d == 0) = false := by simp; omega
        by_cases hm : left % d = 0
        · have em : (left % d != 0) = false := by simp [hm]
          have hst := pS_step d left hd hdd hm
          have ht := spT_lt left d d1 (by omega) (by omega)
          have hl1 := spL_pos left d d1 (by omega)
          have hl2 := spL_le left d d1 (by omega)
          have hl3 : spL left d ≤ 9223372036854775807 := by omega
          rw [hst] at hall
          obtain ⟨fn, tmps, assign, body, hy, hR⟩ := HY.out pre (d, (spT left d : Int)) wr hJ (by rw [hall.out]; simp)
          dsimp only [encP] at hy
          have HR := Lib.hid hR
          clear hR hst hm hl2
          gi_wp2_with (refine ⟨trivial, ?_⟩; gi_at_call 15; refine (callsIn_wide.2 (split_yes left d _ (by omega) l2 d1 (by omega) (by omega))).mono ?_; rintro e w' ⟨rfl, rfl⟩)
          refine HR.out.mono ?_
          rintro e W3 (⟨rfl, hJ3, _⟩ | ⟨rfl, hJx3⟩)
          · gi_wp2
            go_roundw
            case rel => exact ⟨spL left d, d + 1, pre ++ [(d, (spT left d : Int))], rfl, rfl, by omega, by omega, hl1, hl3, by show _ = _; rw [hall.out]; simp, hJ3⟩
            case measure => simp only [intOf]; omega
          · gi_wp2
            try rw [Exit.noGoto_ret]
            refine bodyPost_ret (results_none rfl _ _ _) rfl ?_
            exact ⟨⟨_, rfl⟩, .inr ⟨pre ++ [(d, (spT left d : Int))], ⟨pS (d + 1) (spL left d), by rw [hall.out]; simp⟩, hJx3⟩⟩
        · have em : (left % d != 0) = true := by simpa using hm
          have hst := pS_skip d left hd hdd hm
          rw [hst] at hall
          clear hst hm
          gi_wp2
          go_roundw
          case rel => exact ⟨left, d + 1, pre, rfl, rfl, by omega, by omega, l1, l2, hall, hJ⟩
          case measure => simp only [intOf]; omega
      · have he := pS_end d left (fun h => hdd h.2)
        rw [he] at hall
        clear he
        by_cases hl : 1 < left
        · obtain ⟨fn, tmps, assign, body, hy, hR⟩ := HY.out pre (left, 1) wr hJ (by rw [hall.out]; simp [rest, hl])
          dsimp only [encP] at hy
          have HR := Lib.hid hR
          clear hR
          gi_wp2
          refine HR.out.mono ?_
          rintro e W3 (⟨rfl, hJ3, _⟩ | ⟨rfl, hJx3⟩)
          · gi_wp2
            try rw [Exit.noGoto_normal]
            go_end0
            exact ⟨⟨_, rfl⟩, .inl ⟨_, by rw [hall.out]; simp [rest, hl], hJ3⟩⟩
          · gi_wp2
            try rw [Exit.noGoto_normal]
            go_end0
            exact ⟨⟨_, rfl⟩, .inr ⟨_, ⟨[], by rw [hall.out]; simp [rest, hl]⟩, hJx3⟩⟩
        · gi_wp2
          try rw [Exit.noGoto_normal]
          go_end0
          exact ⟨⟨_, rfl⟩, .inl ⟨pre, by rw [hall.out]; simp [rest, hl], hJ⟩⟩
    · have he := pS_end d left (fun h => hd h.1)
      rw [he] at hall
      clear he
      by_cases hl : 1 < left
      · obtain ⟨fn, tmps, assign, body, hy, hR⟩ := HY.out pre (left, 1) wr hJ (by rw [hall.out]; simp [rest, hl])
        dsimp only [encP] at hy
        have HR := Lib.hid hR
        clear hR
        gi_wp2
        refine HR.out.mono ?_
        rintro e W3 (⟨rfl, hJ3, _⟩ | ⟨rfl, hJx3⟩)
        · gi_wp2
          try rw [Exit.noGoto_normal]
          go_end0
          exact ⟨⟨_, rfl⟩, .inl ⟨_, by rw [hall.out]; simp [rest, hl], hJ3⟩⟩
        · gi_wp2
          try rw [Exit.noGoto_normal]
          go_end0
          exact ⟨⟨_, rfl⟩, .inr ⟨_, ⟨[], by rw [hall.out]; simp [rest, hl]⟩, hJx3⟩⟩
      · gi_wp2
        try rw [Exit.noGoto_normal]
        go_end0
        exact ⟨⟨_, rfl⟩, .inl ⟨pre, by rw [hall.out]; simp [rest, hl], hJ⟩⟩

set_option maxRecDepth 100000 in
set_option maxHeartbeats 1000000 in
theorem parts0_in (n l Bn : Nat) (J Jx : List (Int × Int) → World → Prop) (W : World) (hBn : W.cell? ⟨Bn, 0, none⟩ = some (.int .i64 0)) (h0 : J [] W) :
    CallsIn Fence.wide n Try.prog 28 #[.func (.yield l) #[] #[], .pointer (some ⟨Bn, 0, none⟩)] W (Told (partsOf 0) J Jx) := by
  refine callsIn_of_wp Try.func28 rfl trivial ?_ rfl
  simp only [Try.ntmps28, List.size_toArray, List.length_cons, List.length_nil, Nat.reduceAdd, Nat.reduceSub, Array.replicate_succ, Array.replicate_zero, List.push_toArray, List.append_toArray, List.nil_append, List.cons_append]
  refine scope_wide ?_
  gi_wp2
  refine ⟨trivial, ?_⟩
  gi_wp2
  try rw [Exit.noGoto_ret]
  refine bodyPost_ret (results_none rfl _ _ _) rfl ?_
  exact ⟨⟨_, rfl⟩, .inl ⟨[], rfl, h0⟩⟩

/-- What Parts hands back tells the pairs of its number. -/
theorem parts_stops (n Bn : Nat) (x : Int) (w : World) (hn : 1 ≤ n) (hx1 : -9223372036854775807 ≤ x) (hx2 : x ≤ 9223372036854775807) (hlt : Bn < w.heap.size) (hBn : w.cell? ⟨Bn, 0, none⟩ = some (.int .i64 x)) :
    SeqStopsK Fence.wide n Try.prog 28 #[.pointer (some ⟨Bn, 0, none⟩)] encP (fun _ _ => True) (fun ys => ys = partsOf x) (fun pre => pre <+: partsOf x) (partsOf x).length w :=
  fun l J Jx W hW _ _ hY h0 => by
    have hc : W.cell? ⟨Bn, 0, none⟩ = some (.int .i64 x) := (hW.cell (p := ⟨Bn, 0, none⟩) hlt).trans hBn
    by_cases hx : x = 0
    · subst hx; exact parts0_in n l Bn J Jx W hc h0
    · exact parts1_in n l Bn x hn J Jx hx hx1 hx2 hY W hc h0

set_option maxHeartbeats 400000 in
theorem parts_call (x : Int) (w : World) :
    Calls Try.prog 17 #[.int .i64 x] w fun e w' => e = .returned (.func (.func 28) #[] #[.pointer (some ⟨w.heap.size, 0, none⟩)]) ∧ w.alloc (.cells #[.int .i64 x] 2) = w' := by
  go_enter Try.func17, Try.ntmps17
  go_wp2
  go_ret
  exact ⟨rfl, rfl⟩
end Go.Proofs.Ytlpkpmpkbinfoaa.Whole
