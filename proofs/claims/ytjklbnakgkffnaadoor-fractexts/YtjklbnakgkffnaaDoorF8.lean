/-
  Contract of frac.Pow, by one Lean function of the numbers; the world below stays as it was.
-/
import Derived.Test.YtjklbnakgkffnaaDoorF7
namespace Go.Proofs.YtjklbnakgkffnaaDoor.Frac
open Go.RowKit
open Go.Proofs.YtjklbnakgkffnaaDoor.Whole
set_option linter.unusedVariables false
set_option linter.unusedSimpArgs false

/-- How the world stands within Pow: its argument in a box, and room for the result. -/
def OneAt (w v : World) (n d t : Int) : Prop := Below w.heap.size w v ∧ LiesF v w.heap.size n d t ∧ Room v (w.heap.size + 1)

theorem OneAt.below {w v v' : World} {n d t : Int} (h : OneAt w v n d t) (hb : Below v.heap.size v v') : OneAt w v' n d t := by
  obtain ⟨h1, h2, h3⟩ := h
  exact ⟨Below.go h1 hb, h2.below hb h2.2.2.2, h3.below hb h3.2.2.2.2⟩

theorem OneAt.drew {w v : World} {n d t : Int} (h : OneAt w v n d t) : OneAt w v.drew n d t := h.below (by go_grown)

theorem OneAt.new (w : World) (n d t : Int) : OneAt w ((w.alloc (.cells #[.int .i64 n, .int .i64 d, .int .i64 t] 24)).alloc (.cells #[.int .i64 0, .int .i64 0, .int .i64 0] 24)) n d t := by
  refine ⟨by go_grown, ⟨?_, ?_, ?_, ?_⟩, ⟨?_, ?_, ?_, fun j => ?_, ?_⟩⟩
  all_goals simp [go_sem]

theorem OneAt.cells {w v : World} {n d t : Int} (h : OneAt w v n d t) :
    v.cell? ⟨w.heap.size, 0, none⟩ = some (.int .i64 n) ∧ v.cell? ⟨w.heap.size, 1, none⟩ = some (.int .i64 d) ∧ v.cell? ⟨w.heap.size, 2, none⟩ = some (.int .i64 t) := by
  obtain ⟨_, ⟨h1, h2, h3, _⟩, _⟩ := h
  exact ⟨h1, h2, h3⟩

theorem join_int (x y : Pt) (k : Int) (b : Nat) (w : World) (hT : OfTen w) (hy : Lies w b y) (hx : x.Ok 4000) (ho : y.Ok 4000) (hk0 : 0 ≤ k) (hk : k ≤ 99) :
    Calls Tryd.prog 60 #[x.v, .int .i64 k, .func (.func 85) #[] #[.pointer (some ⟨b, 0, none⟩)]] w fun e w' => e = .returned (joinP x k.toNat y).v ∧ Below w.heap.size w w' := by
  obtain ⟨m, rfl⟩ := Int.eq_ofNat_of_zero_le hk0
  exact join_any x y m b w hT hy hx ho (by omega)

end Go.Proofs.YtjklbnakgkffnaaDoor.Frac
