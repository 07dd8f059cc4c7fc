/-
  The contract of dims.Each and of the function that it hands back: the places of the powers that are not 0, in their order; or a beginning of them, where a round has said that no more is wanted.
-/
import Derived.Test.YtndinbefljajcaaGreatDoorD3
import Derived.RangeFuncNested
import Derived.RangeFuncBound
import Derived.RangeFuncCalls
import Derived.RangeFuncLeaves
import Derived.RangeFuncFrom
import Derived.Shelf.Abstract
import Derived.Shelf.RegionOpen
import Derived.OwnWalkIn
import Derived.TacticsInMore
import Derived.LoopNIn
import Derived.LoopIn
namespace Go.Proofs.YtndinbefljajcaaGreatDoor.Dims
open Go.RowKit Go.Shelf
attribute [local go_sem] Oper.semAt_some
set_option linter.unusedVariables false
set_option linter.unusedSimpArgs false

/-- A place, and its power. -/
abbrev encE (a : D7) (i : Fin 7) : Array Value := #[.int .i64 (i.val : Int), .int .i64 (a.get i.val)]

/-- How the function ends: it has told all, or a round has left it behind a beginning. -/
def Told (all : List (Fin 7)) (J Jx : List (Fin 7) → World → Prop) (e : Ending) (W' : World) : Prop :=
  (∃ v, e = .returned v) ∧ ((∃ ys, ys = all ∧ J ys W') ∨ (∃ pre, pre <+: all ∧ Jx pre W'))

/-- The places from k on. -/
def placesF (a : D7) (k : Nat) : List (Fin 7) := (([0, 1, 2, 3, 4, 5, 6] : List (Fin 7)).drop k).filter (fun i => a.get i.val != 0)
theorem places_start (a : D7) : places a = placesF a 0 := rfl
theorem places_end (a : D7) : placesF a 7 = [] := rfl
theorem drop_seven (k : Nat) (h : k < 7) : ([0, 1, 2, 3, 4, 5, 6] : List (Fin 7)).drop k = ⟨k, h⟩ :: ([0, 1, 2, 3, 4, 5, 6] : List (Fin 7)).drop (k + 1) := by
  match k, h with
  | 0, _ => rfl
  | 1, _ => rfl
  | 2, _ => rfl
  | 3, _ => rfl
  | 4, _ => rfl
  | 5, _ => rfl
  | 6, _ => rfl
theorem places_skip (a : D7) (k : Nat) (h : k < 7) (hz : a.get k = 0) : placesF a k = placesF a (k + 1) := by
  unfold placesF
  rw [drop_seven k h, List.filter_cons]
  simp [hz]
theorem places_one (a : D7) (k : Nat) (h : k < 7) (hz : a.get k ≠ 0) : placesF a k = ⟨k, h⟩ :: placesF a (k + 1) := by
  unfold placesF
  rw [drop_seven k h, List.filter_cons]
  simp [hz]

theorem idx7 (a : D7) (W : World) : ∀ k, k < 7 → (Instr.index 23 (.agg #[.int .i64 a.a0, .int .i64 a.a1, .int .i64 a.a2, .int .i64 a.a3, .int .i64 a.a4, .int .i64 a.a5, .int .i64 a.a6]) (.int .i64 (k : Nat))).run Tryz.prog W = .ok (.int .i64 (a.get k)) W :=
  seven (i0 _ _ _ _ _ _ _ _) (i1 _ _ _ _ _ _ _ _) (i2 _ _ _ _ _ _ _ _) (i3 _ _ _ _ _ _ _ _) (i4 _ _ _ _ _ _ _ _) (i5 _ _ _ _ _ _ _ _) (i6 _ _ _ _ _ _ _ _)

set_option maxRecDepth 100000 in
set_option maxHeartbeats 1000000 in
theorem each1_in (n l B : Nat) (a : D7) (hn : 1 ≤ n) (J Jx : List (Fin 7) → World → Prop)
    (hY : ∀ pre y W, J pre W → pre.length < (places a).length → YieldAt Fence.wide (n - 1) Tryz.prog l (encE a y) W fun e W' =>
      (e = .returned (.bool true) ∧ J (pre ++ [y]) W' ∧ True) ∨ (e = .returned (.bool false) ∧ Jx (pre ++ [y]) W'))
    (W : World) (hB : Lies7 W B a.get) (h0 : J [] W) :
    CallsIn Fence.wide n Tryz.prog 87 #[.func (.yield l) #[] #[], .pointer (some ⟨B, 0, none⟩)] W (Told (places a) J Jx) := by
  obtain ⟨c0, c1, c2, c3, c4, c5, c6⟩ := hB.cells
  simp only [D7.get] at c0 c1 c2 c3 c4 c5 c6
  refine callsIn_of_wp Tryz.func87 rfl trivial ?_ rfl
  simp only [Tryz.ntmps87, List.size_toArray, List.length_cons, List.length_nil, Nat.reduceAdd, Nat.reduceSub, Array.replicate_succ, Array.replicate_zero, List.push_toArray, List.append_toArray, List.nil_append, List.cons_append]
  gi_wp2
  clear c0 c1 c2 c3 c4 c5 c6 hB
  have HP := Lib.hid (places_start a)
  have HY := Lib.hid hY
  clear hY
  gi_loopw [6] (fun x wr => ∃ (k : Nat) (pre : List (Fin 7)), x = .int .i64 k ∧ k ≤ 7 ∧ Hid (places a = pre ++ placesF a k) ∧ J pre wr)
    (fun x _ => (7 - intOf x).toNat)
  case atStart => exact ⟨0, [], rfl, by omega, by show _ = _; rw [HP.out]; rfl, h0⟩
  case round =>
    obtain ⟨k, pre, rfl, hk, hall, hJ⟩ := hrel
    by_cases h7 : k < 7
    · have hix := fun V => idx7 a V k h7
      have k7 : (k : Int) < 7 := by omega
      by_cases hz : a.get k = 0
      · have ez : (a.get k != 0) = false := by simp [hz]
        have hs := places_skip a k h7 hz
        rw [hs] at hall
        clear hs hz
        gi_wp2
        refine ⟨fun f h => (by cases h), ?_⟩
        gi_wp2
        go_roundw
        case rel => exact ⟨k + 1, pre, rfl, by omega, hall, hJ⟩
        case measure => simp only [intOf]; omega
      · have ez : (a.get k != 0) = true := by simpa using hz
        have hs := places_one a k h7 hz
        rw [hs] at hall
        obtain ⟨fn, tmps, assign, body, hy, hR⟩ := HY.out pre ⟨k, h7⟩ wr hJ (by rw [hall.out]; simp)
        dsimp only [encE] at hy
        have HR := Lib.hid hR
        clear hR hs hz
        gi_wp2
        refine HR.out.mono ?_
        rintro e W3 (⟨rfl, hJ3, _⟩ | ⟨rfl, hJx3⟩)
        · gi_wp2
          go_roundw
          case rel => exact ⟨k + 1, pre ++ [⟨k, h7⟩], rfl, by omega, by show _ = _; rw [hall.out]; simp, hJ3⟩
          case measure => simp only [intOf]; omega
        · gi_wp2
          refine bodyPost_ret (results_none rfl _ _ _) rfl ?_
          exact ⟨⟨_, rfl⟩, .inr ⟨pre ++ [⟨k, h7⟩], ⟨placesF a (k + 1), by rw [hall.out]; simp⟩, hJx3⟩⟩
    · have k7 : k = 7 := by omega
      subst k7
      rw [places_end] at hall
      gi_wp2
      go_end0
      exact ⟨⟨_, rfl⟩, .inl ⟨pre, by rw [hall.out]; simp, hJ⟩⟩

/-- What Each hands back tells the places of its dims. -/
theorem each_stops (n B : Nat) (a : D7) (w : World) (hn : 1 ≤ n) (hB : Lies7 w B a.get) :
    SeqStopsK Fence.wide n Tryz.prog 87 #[.pointer (some ⟨B, 0, none⟩)] (encE a) (fun _ _ => True) (fun ys => ys = places a) (fun pre => pre <+: places a) (places a).length w :=
  fun l J Jx W hW _ _ hY h0 => each1_in n l B a hn J Jx hY W (hB.below hW hB.2.2) h0

set_option maxHeartbeats 400000 in
theorem each_call (a : D7) (w : World) :
    Calls Tryz.prog 63 #[a.v] w fun e w' => e = .returned (.func (.func 87) #[] #[.pointer (some ⟨w.heap.size, 0, none⟩)]) ∧ w.alloc (.cells #[.int .i64 a.a0, .int .i64 a.a1, .int .i64 a.a2, .int .i64 a.a3, .int .i64 a.a4, .int .i64 a.a5, .int .i64 a.a6] 23) = w' := by
  simp only [D7.v]
  go_enter Tryz.func63, Tryz.ntmps63
  go_wp2
  go_ret
  exact ⟨rfl, rfl⟩

end Go.Proofs.YtndinbefljajcaaGreatDoor.Dims
