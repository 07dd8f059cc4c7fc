/-
  The contract of the reference's Parts: a slice of its own that holds the pairs of the number; old memory stays.
-/
import Derived.Test.YtlpkpmpkbinfoaaR2
import Derived.Test.YtlpkpmpkbinfoaaPM
import Derived.WalkSmall
import Derived.OwnWalk
import Derived.Maps.AppendAt
import Derived.Laws.AppendOwn
namespace Go.Proofs.Ytlpkpmpkbinfoaa.Whole
open Go.RowKit
set_option linter.unusedVariables false

/-- The pairs of a number. -/
def partsOf (x : Int) : List (Int × Int) := if x = 0 then [] else pS 2 x.natAbs
/-- A row of pairs as cells. -/
def flat (l : List (Int × Int)) : List Value := l.flatMap fun p => [.int .i64 p.1, .int .i64 p.2]
theorem flat_snoc (l : List (Int × Int)) (p : Int × Int) : flat (l ++ [p]) = flat l ++ [.int .i64 p.1, .int .i64 p.2] := by simp [flat]

theorem infoPart : (Try.prog.info? 38).map (fun i => (i.zero, i.size, i.bytes)) = some (some (.agg #[.int .i64 0, .int .i64 0]), 2, 16) := by kernel_rfl

/-- What the reference's Parts leaves. -/
def PartsRow (x : Int) (w : World) (e : Ending) (w' : World) : Prop :=
  ∃ v, e = .returned v ∧ w'.ownsRow w.heap.size 38 2 v (partsOf x).length (flat (partsOf x)) ∧ Below w.heap.size w w'

theorem partsOf_short (x : Int) (hx1 : -9223372036854775807 ≤ x) (hx2 : x ≤ 9223372036854775807) : (partsOf x).length ≤ 1048577 := by
  unfold partsOf
  by_cases h : x = 0
  · rw [if_pos h]; simp
  · rw [if_neg h]; exact pS_short 2 _ (by omega) (by omega) (by omega)

set_option maxHeartbeats 400000 in
theorem rparts_zero (w : World) :
    Calls Try.prog 16 #[.int .i64 0] w (PartsRow 0 w) := by
  go_enter Try.func16, Try.ntmps16
  go_wp2
  go_ret
  exact ⟨_, rfl, World.ownsRow_nil _ _ _ _, Below.refl _ _⟩

/-- The temporary row of an append, behind three blocks of the call's own. -/
theorem news_cells (wr : World) (A B C : Obj) (a b : Value) : ∀ j u, [a, b][j]? = some u → ((((wr.alloc A).alloc B).alloc C).alloc (.cells #[a, b] 38)).cell? ((⟨wr.heap.size + 1 + 1 + 1, 0, none⟩ : Addr).add j) = some u := by
  have h := cell_two_new (((wr.alloc A).alloc B).alloc C) a b 38
  simpa only [World.size_alloc] using h
theorem box_cell (wr : World) (A B S : Obj) (a b : Value) : ((((wr.alloc A).alloc B).alloc (.cells #[a, b] 44)).alloc S).cell? ⟨wr.heap.size + 1 + 1, 1, none⟩ = some b := by
  have h := cell_two_new ((wr.alloc A).alloc B) a b 44 1 b rfl
  simp only [World.size_alloc, Addr.add] at h
  refine (World.cell?_of_block (w := ((wr.alloc A).alloc B).alloc (.cells #[a, b] 44)) (Below.heap_alloc _ S (wr.heap.size + 1 + 1) ?_)).trans h
  simp only [World.size_alloc]; omega
theorem news_cells0 (wr : World) (a b : Value) : ∀ j u, [a, b][j]? = some u → (wr.alloc (.cells #[a, b] 38)).cell? ((⟨wr.heap.size, 0, none⟩ : Addr).add j) = some u := cell_two_new wr a b 38

set_option maxRecDepth 100000 in
set_option maxHeartbeats 1000000 in
theorem rparts_some (x : Int) (w : World) (hx : x ≠ 0) (hx1 : -9223372036854775807 ≤ x) (hx2 : x ≤ 9223372036854775807) :
    Calls Try.prog 16 #[.int .i64 x] w (PartsRow x w) := by
  obtain ⟨i0, hi, hz0, hz1, hz2⟩ := info_parts infoPart
  have e0 : (x == 0) = false := by simpa using hx
  have hP : partsOf x = [] ++ pS 2 x.natAbs := by simp [partsOf, hx]
  have hS := partsOf_short x hx1 hx2
  have HP := Lib.hid hP
  have b1 : 1 ≤ (x.natAbs : Int) := by omega
  have b2 : (x.natAbs : Int) ≤ 9223372036854775807 := by omega
  clear hP
  go_enter Try.func16, Try.ntmps16
  go_wp2_with (first
    | (go_at_call 23; ((with_reducible refine (rfits_yes _ _ hx1).mono ?_); rintro e w' ⟨rfl, rfl⟩))
    | (go_at_call 27; ((with_reducible refine (rsize_any _ _ hx1).mono ?_); rintro e w' ⟨rfl, rfl⟩)))
  generalize (x.natAbs : Int) = y at *
  go_loopw [4, 5, 6] (fun a v b wr => ∃ (left d : Int) (pre : List (Int × Int)), a = .int .i64 left ∧ b = .int .i64 d ∧ 2 ≤ d ∧ d ≤ 1048577 ∧ 1 ≤ left ∧ left ≤ 9223372036854775807 ∧ Hid (partsOf x = pre ++ pS d left) ∧ Hid (wr.ownsRow w.heap.size 38 2 v pre.length (flat pre)) ∧ Hid (Below w.heap.size w wr))
    (fun _ _ b _ => (1048577 - intOf b).toNat)
  case atStart => exact ⟨y, 2, [], rfl, rfl, by omega, by omega, b1, b2, HP, World.ownsRow_nil _ _ _ _, Below.refl _ _⟩
  case round =>
    obtain ⟨left, d, pre, rfl, rfl, d1, d2, l1, l2, hall, hrow, hB⟩ := hrel
    by_cases hd : d ≤ 1048576
    · have q1 : 0 ≤ d * d := Int.mul_nonneg (by omega) (by omega)
      have q2 : d * d ≤ 1048576 * 1048576 := Int.mul_le_mul hd hd (by omega) (by omega)
      have q3 : d * d ≤ 1099511627776 := by omega
      clear q2
      by_cases hdd : d * d ≤ left
      · by_cases hm : left % d = 0
        · have hst := pS_step d left hd hdd hm
          have ht := spT_lt left d d1 (by omega) (by omega)
          have ht1 : 0 < (spT left d : Int) := by have := spT_pos left d d1 (by omega) hm; omega
          have hl1 := spL_pos left d d1 (by omega)
          have hl2 := spL_le left d d1 (by omega)
          have hl3 : spL left d ≤ 9223372036854775807 := by omega
          rw [hst] at hall
          have hlen : pre.length + 1 ≤ 1048577 := by have := hall.out; rw [this] at hS; simp at hS; omega
          clear hst hm hl2
          have hsp := fun W => rsplit_yes left d W (by omega) l2 d1 (by omega) (by omega)
          have HSP := Lib.hid hsp
          clear hsp
          generalize spT left d = t at *
          generalize spL left d = r at *
          go_wp2_with (first
            | (go_at_call 20; ((with_reducible refine (HSP.out _).mono ?_); rintro e w' ⟨rfl, rfl⟩))
            | (at_builtin; go_must (refine wpList_append_own _ rfl _ _ 32 rfl w.heap.size 38 i0 (.agg #[.int .i64 0, .int .i64 0]) 2 16 Try.underlying32 hi hz0 hz1 hz2 rfl (by decide) _ _ _ rfl ((((hrow.out.alloc _).alloc _).alloc _).alloc _) ⟨wr.heap.size + 1 + 1 + 1, 0, none⟩ 1 1 [.int .i64 d, .int .i64 t] rfl rfl (news_cells _ _ _ _ _ _) (fun x hx => by simp at hx; rcases hx with rfl | rfl <;> rfl) (by unfold maxLen; omega) (by omega) (by have := hB.out.size; simp; omega) ?_)
               intro v' w1 hown' hgrow hnil
               go_must (have hcl : w1.cell? ⟨wr.heap.size + 1 + 1, 1, none⟩ = some (.int .i64 r) := hgrow.cell (a := ⟨wr.heap.size + 1 + 1, 1, none⟩) (box_cell _ _ _ _ _ _) (fun h => by have : wr.heap.size + 1 + 1 < wr.heap.size := (hrow.out.lt _ h.symm).2; omega))
               go_must (have hB1 : Below w.heap.size w w1 := ((((hB.out.alloc hB.out.size _).alloc (by have := hB.out.size; simp; omega) _).alloc (by have := hB.out.size; simp; omega) _).alloc (by have := hB.out.size; simp; omega) _).grown hgrow (by have := hB.out.size; simp; omega) (fun k hk => (hrow.out.lt _ hk).1))
               have X := Lib.hid (And.intro hown' hB1)
               clear hown' hgrow hnil hB1))
          go_roundw
          case rel =>
            refine ⟨r, d + 1, pre ++ [(d, (t : Int))], rfl, rfl, by omega, by omega, hl1, hl3, by show _ = _; rw [hall.out]; simp, ?_, X.out.2⟩
            have := X.out.1
            show World.ownsRow _ _ _ _ _ _ _
            rw [flat_snoc, List.length_append]; exact this
          case measure => simp only [intOf]; omega
        · have hst := pS_skip d left hd hdd hm
          obtain ⟨z1, z2⟩ := sp_none left d d1 (by omega) hm
          rw [hst] at hall
          have hsp := fun W => rsplit_yes left d W (by omega) l2 d1 (by omega) (by omega)
          simp only [z1, z2] at hsp
          have HSP := Lib.hid hsp
          clear hsp hst hm z1 z2
          go_wp2_with (go_at_call 20; ((with_reducible refine (HSP.out _).mono ?_); rintro e w' ⟨rfl, rfl⟩))
          go_roundw
          case rel => exact ⟨left, d + 1, pre, rfl, rfl, by omega, by omega, l1, l2, hall, ((hrow.out.alloc _).alloc _).alloc _, ((hB.out.alloc hB.out.size _).alloc (by have := hB.out.size; simp; omega) _).alloc (by have := hB.out.size; simp; omega) _⟩
          case measure => simp only [intOf]; omega
      · have he := pS_end d left (fun h => hdd h.2)
        rw [he] at hall
        clear he
        by_cases hl : 1 < left
        · have hlen : pre.length + 1 ≤ 1048577 := by have := hall.out; rw [this] at hS; simp [rest, hl] at hS; omega
          go_wp2_with (at_builtin; go_must (refine wpList_append_own _ rfl _ _ 32 rfl w.heap.size 38 i0 (.agg #[.int .i64 0, .int .i64 0]) 2 16 Try.underlying32 hi hz0 hz1 hz2 rfl (by decide) _ _ _ rfl (hrow.out.alloc _) ⟨wr.heap.size, 0, none⟩ 1 1 [.int .i64 left, .int .i64 1] rfl rfl (news_cells0 _ _ _) (fun x hx => by simp at hx; rcases hx with rfl | rfl <;> rfl) (by unfold maxLen; omega) (by omega) (by have := hB.out.size; simp; omega) ?_)
                       intro v' w1 hown' hgrow hnil
                       have hB1 : Below w.heap.size w w1 := (hB.out.alloc hB.out.size _).grown hgrow (by have := hB.out.size; simp; omega) (fun k hk => (hrow.out.lt _ hk).1)
                       have X := Lib.hid (And.intro hown' hB1)
                       clear hown' hgrow hnil hB1)
          go_ret
          refine ⟨_, rfl, ?_, X.out.2⟩
          have := X.out.1
          rw [hall.out]
          simp only [rest, hl, if_true]
          rw [flat_snoc, List.length_append]; exact this
        · have hr : rest left = [] := by simp [rest, hl]
          rw [hr, List.append_nil] at hall
          clear hr
          go_wp2
          go_ret
          refine ⟨_, rfl, ?_, hB.out⟩
          rw [hall.out]
          exact hrow.out
    · have he := pS_end d left (fun h => hd h.1)
      rw [he] at hall
      clear he
      by_cases hl : 1 < left
      · have hlen : pre.length + 1 ≤ 1048577 := by have := hall.out; rw [this] at hS; simp [rest, hl] at hS; omega
        go_wp2_with (at_builtin; go_must (refine wpList_append_own _ rfl _ _ 32 rfl w.heap.size 38 i0 (.agg #[.int .i64 0, .int .i64 0]) 2 16 Try.underlying32 hi hz0 hz1 hz2 rfl (by decide) _ _ _ rfl (hrow.out.alloc _) ⟨wr.heap.size, 0, none⟩ 1 1 [.int .i64 left, .int .i64 1] rfl rfl (news_cells0 _ _ _) (fun x hx => by simp at hx; rcases hx with rfl | rfl <;> rfl) (by unfold maxLen; omega) (by omega) (by have := hB.out.size; simp; omega) ?_)
                     intro v' w1 hown' hgrow hnil
                     have hB1 : Below w.heap.size w w1 := (hB.out.alloc hB.out.size _).grown hgrow (by have := hB.out.size; simp; omega) (fun k hk => (hrow.out.lt _ hk).1)
                     have X := Lib.hid (And.intro hown' hB1)
                     clear hown' hgrow hnil hB1)
        go_ret
        refine ⟨_, rfl, ?_, X.out.2⟩
        have := X.out.1
        rw [hall.out]
        simp only [rest, hl, if_true]
        rw [flat_snoc, List.length_append]; exact this
      · have hr : rest left = [] := by simp [rest, hl]
        rw [hr, List.append_nil] at hall
        clear hr
        go_wp2
        go_ret
        refine ⟨_, rfl, ?_, hB.out⟩
        rw [hall.out]
        exact hrow.out

theorem rparts (x : Int) (w : World) (hx1 : -9223372036854775807 ≤ x) (hx2 : x ≤ 9223372036854775807) :
    Calls Try.prog 16 #[.int .i64 x] w (PartsRow x w) := by
  by_cases hx : x = 0
  · subst hx; exact rparts_zero w
  · exact rparts_some x w hx hx1 hx2
end Go.Proofs.Ytlpkpmpkbinfoaa.Whole
