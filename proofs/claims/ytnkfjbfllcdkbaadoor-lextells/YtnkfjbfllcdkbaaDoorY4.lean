/-
  Contract of style.Raise.
-/
import Derived.Test.YtnkfjbfllcdkbaaDoorY3
import Derived.Shelf.Abstract
namespace Go.Proofs.YtnkfjbfllcdkbaaDoor.Style
open Go.RowKit Go.Shelf
set_option linter.unusedVariables false
set_option linter.unusedSimpArgs false

set_option maxRecDepth 100000 in
set_option maxHeartbeats 1000000 in
theorem raise_any (n : Int) (s : List UInt8) (w : World) (hS : Styles w) (hl : s.length ≤ 9223372036854775807) :
    Calls Tryd.prog 32 #[.int .i64 n, .string (bs s)] w fun e w' => e = .returned (.string (bs (upL (stZ n).fold s))) ∧ Below w.heap.size w w' := by
  have hO := of_any n w hS
  generalize isN n = b at hO
  generalize stZ n = x at hO
  obtain ⟨f, m, d, p, op, cl⟩ := x
  simp only [St.v] at hO
  show Calls _ _ _ _ fun e w' => e = .returned (.string (bs (s.map (up1 f)))) ∧ _
  clear hS
  go_enter Tryd.func32, Tryd.ntmps32
  go_wp2_with fail
  refine hO.mono ?_
  rintro e w1 ⟨rfl, hb1⟩
  have hz1 := hb1.size
  clear hO
  go_wp2_with fail
  have hL := (Lies.new w1 ⟨f, m, d, p, op, cl⟩ 43).1
  simp only at hL
  have hbV : Below w.heap.size w (w1.alloc (.cells #[.bool f, .int .u8 m, .int .u8 d, .int .u8 p, .int .u8 op, .int .u8 cl] 43)) := hb1.alloc hz1 _
  have hzV : w1.heap.size < (w1.alloc (.cells #[.bool f, .int .u8 m, .int .u8 d, .int .u8 p, .int .u8 op, .int .u8 cl] 43)).heap.size := by rw [World.size_alloc]; omega
  generalize w1.alloc (.cells #[.bool f, .int .u8 m, .int .u8 d, .int .u8 p, .int .u8 op, .int .u8 cl] 43) = V at *
  refine (through_any s 36 #[.pointer (some ⟨w1.heap.size, 0, none⟩)] (up1 f) (fun W => W.cell? ⟨w1.heap.size, 0, none⟩ = some (.bool f)) V (enters_of Tryd.func36 (by kernel_rfl) rfl)
    (fun W W' h hb => (World.cell?_of_block (a := ⟨w1.heap.size, 0, none⟩) (hb.block _ hzV)).trans h)
    (fun c W h => raise1_any f c w1.heap.size W h) hL hl).mono ?_
  rintro e w2 ⟨rfl, hb2⟩
  go_wp2
  go_ret
  exact ⟨rfl, hbV.trans (hb2.mono hbV.size)⟩

end Go.Proofs.YtnkfjbfllcdkbaaDoor.Style
