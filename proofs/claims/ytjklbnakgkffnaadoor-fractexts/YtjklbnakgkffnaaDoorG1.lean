/-
  Contracts of the document's answer for exact numbers, first part: drachmref02.of, form; each by one Lean function of the numbers; the world below stays as it was.
-/
import Derived.Test.YtjklbnakgkffnaaDoorF9
import Derived.Test.YtjklbnakgkffnaaDoorGM
namespace Go.Proofs.YtjklbnakgkffnaaDoor.Frac
open Go.RowKit
open Go.Proofs.YtjklbnakgkffnaaDoor.Whole
set_option linter.unusedVariables false
set_option linter.unusedSimpArgs false

def Sp.v (x : Sp) : Value := .agg #[.int .i64 x.s, .int .i64 x.p, .int .i64 x.q, .int .i64 x.two, .int .i64 x.five]
def Got.r (g : Got) : Value := .agg #[.int .i64 g.n, .int .i64 g.d, .int .i64 g.t, .int .i64 g.e]

/-- Without its sign, and the sign. -/
def AbsIs (n A s : Int) : Prop := n < 0 ∧ A = -n ∧ s = -1 ∨ 0 ≤ n ∧ A = n ∧ s = 1

set_option maxRecDepth 100000 in
set_option maxHeartbeats 2000000 in
theorem of_core (num den A B s1 s2 : Int) (w : World) (h1 : AbsIs num A s1) (h2 : AbsIs den B s2) (hA : 1 ≤ A) (hA' : A ≤ 9223372036854775807) (hB : 1 ≤ B) (hB' : B ≤ 9223372036854775807) :
    Calls Tryd.prog 73 #[.int .i64 num, .int .i64 den] w fun e w' => e = .returned (ofA (s1 * s2) A B).v ∧ Below w.heap.size w w' := by
  have a2 := spL_le A 2 (by omega) (by omega)
  have b2 := spL_le B 2 (by omega) (by omega)
  have HA : Hid (A ≠ 0) := by show A ≠ 0; omega
  have HB : Hid (B ≠ 0) := by show B ≠ 0; omega
  have HA2 : Hid (spL A 2 ≠ 0) := spL_ne A 2 (by omega) HA.out
  have HB2 : Hid (spL B 2 ≠ 0) := spL_ne B 2 (by omega) HB.out
  have a5 := spL_le (spL A 2) 5 (by omega) HA2.out
  have b5 := spL_le (spL B 2) 5 (by omega) HB2.out
  have ta := spT_lt A 2 (by omega) HA.out (by omega)
  have tb := spT_lt B 2 (by omega) HB.out (by omega)
  have ta5 := spT_lt (spL A 2) 5 (by omega) HA2.out (by omega)
  have tb5 := spT_lt (spL B 2) 5 (by omega) HB2.out (by omega)
  have g1 := gcd_pos_r (spL (spL A 2) 5) (spL (spL B 2) 5) (odd_pos B hB)
  unfold ofA Sp.v
  generalize hg : ((Int.gcd (spL (spL A 2) 5) (spL (spL B 2) 5) : Nat) : Int) = g at *
  have HG := Lib.hid hg
  clear hg
  have zg : (g == 0) = false := by simp only [beq_eq_false_iff_ne]; omega
  have d1 := tdiv_small (spL (spL A 2) 5) g g1
  have d2 := tdiv_small (spL (spL B 2) 5) g g1
  rcases h1 with ⟨h1, rfl, rfl⟩ | ⟨h1, rfl, rfl⟩ <;> rcases h2 with ⟨h2, rfl, rfl⟩ | ⟨h2, rfl, rfl⟩
  all_goals
    go_enter Tryd.func73, Tryd.ntmps73
    go_wp2_with fail
    refine (rsplit_yes _ _ _ (by omega) (by omega) (by omega) (by omega) HA.out).mono ?_
    rintro e w1 ⟨rfl, rfl⟩
    go_wp2_with fail
    refine (rsplit_yes _ _ _ (by omega) (by omega) (by omega) (by omega) HA2.out).mono ?_
    rintro e w1 ⟨rfl, rfl⟩
    go_wp2_with fail
    refine (rsplit_yes _ _ _ (by omega) (by omega) (by omega) (by omega) HB.out).mono ?_
    rintro e w1 ⟨rfl, rfl⟩
    go_wp2_with fail
    refine (rsplit_yes _ _ _ (by omega) (by omega) (by omega) (by omega) HB2.out).mono ?_
    rintro e w1 ⟨rfl, rfl⟩
    go_wp2_with fail
    refine (rgcd_yes _ _ _ (by omega) (by omega) (by omega) (by omega)).mono ?_
    rintro e w1 ⟨rfl, rfl⟩
    rw [HG.out]
    go_wp2
    go_returns
    refine ⟨rfl, ?_⟩
    go_grown

theorem sign_abs (n : Int) (h : n ≠ 0) : AbsIs n n.natAbs n.sign := by
  rcases Int.lt_or_le n 0 with h' | h'
  · exact .inl ⟨h', by omega, Int.sign_eq_neg_one_of_neg h'⟩
  · exact .inr ⟨h', by omega, Int.sign_eq_one_of_pos (by omega)⟩

theorem of_any (num den : Int) (w : World) (h1 : num.natAbs ≤ 9223372036854775807) (h2 : den.natAbs ≤ 9223372036854775807) (hn : num ≠ 0) (hd : den ≠ 0) :
    Calls Tryd.prog 73 #[.int .i64 num, .int .i64 den] w fun e w' => e = .returned (ofS num den).v ∧ Below w.heap.size w w' :=
  of_core num den _ _ _ _ w (sign_abs num hn) (sign_abs den hd) (by omega) (by omega) (by omega) (by omega)

/-- In the world v the block b holds the document's number taken apart. -/
def LiesS (v : World) (b : Nat) (x : Sp) : Prop := v.cell? ⟨b, 0, none⟩ = some (.int .i64 x.s) ∧ v.cell? ⟨b, 1, none⟩ = some (.int .i64 x.p) ∧ v.cell? ⟨b, 2, none⟩ = some (.int .i64 x.q) ∧ v.cell? ⟨b, 3, none⟩ = some (.int .i64 x.two) ∧ v.cell? ⟨b, 4, none⟩ = some (.int .i64 x.five) ∧ b < v.heap.size

theorem LiesS.below {v v' : World} {b B : Nat} {x : Sp} (h : LiesS v b x) (hb : Below B v v') (hB : b < B) : LiesS v' b x := by
  obtain ⟨h0, h1, h2, h3, h4, hz⟩ := h
  exact ⟨(hb.cell (p := ⟨b, 0, none⟩) hB).trans h0, (hb.cell (p := ⟨b, 1, none⟩) hB).trans h1, (hb.cell (p := ⟨b, 2, none⟩) hB).trans h2, (hb.cell (p := ⟨b, 3, none⟩) hB).trans h3, (hb.cell (p := ⟨b, 4, none⟩) hB).trans h4, by have := hb.size; omega⟩

/-- In the world v the block b is room for the document's answer. -/
def RoomG (v : World) (b : Nat) : Prop :=
  v.cell? ⟨b, 0, none⟩ = some (.int .i64 0) ∧ v.cell? ⟨b, 1, none⟩ = some (.int .i64 0) ∧ v.cell? ⟨b, 2, none⟩ = some (.int .i64 0) ∧ v.cell? ⟨b, 3, none⟩ = some (.int .i64 0) ∧ (∀ j, v.frozen? ⟨b, j, none⟩ = false) ∧ b < v.heap.size

theorem RoomG.below {v v' : World} {b B : Nat} (h : RoomG v b) (hb : Below B v v') (hB : b < B) : RoomG v' b := by
  obtain ⟨h0, h1, h2, h4, h3, hz⟩ := h
  exact ⟨(hb.cell (p := ⟨b, 0, none⟩) hB).trans h0, (hb.cell (p := ⟨b, 1, none⟩) hB).trans h1, (hb.cell (p := ⟨b, 2, none⟩) hB).trans h2, (hb.cell (p := ⟨b, 3, none⟩) hB).trans h4, fun j => (hb.frozen (p := ⟨b, j, none⟩) hB).trans (h3 j), by have := hb.size; omega⟩

/-- How form's world stands: its number in a box, and room for the answer. -/
def FormAt (w v : World) (x : Sp) : Prop := Below w.heap.size w v ∧ LiesS v w.heap.size x ∧ RoomG v (w.heap.size + 1)

theorem FormAt.below {w v v' : World} {x : Sp} (h : FormAt w v x) (hb : Below v.heap.size v v') : FormAt w v' x := by
  obtain ⟨h1, h2, h3⟩ := h
  exact ⟨Below.go h1 hb, h2.below hb h2.2.2.2.2.2, h3.below hb h3.2.2.2.2.2⟩

theorem FormAt.new (w : World) (x : Sp) : FormAt w ((w.alloc (.cells #[.int .i64 x.s, .int .i64 x.p, .int .i64 x.q, .int .i64 x.two, .int .i64 x.five] 105)).alloc (.cells #[.int .i64 0, .int .i64 0, .int .i64 0, .int .i64 0] 30)) x := by
  refine ⟨by go_grown, ⟨?_, ?_, ?_, ?_, ?_, ?_⟩, ⟨?_, ?_, ?_, ?_, fun j => ?_, ?_⟩⟩
  all_goals simp [go_sem]

end Go.Proofs.YtjklbnakgkffnaaDoor.Frac
