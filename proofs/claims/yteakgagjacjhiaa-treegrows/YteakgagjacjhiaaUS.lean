/-
  Contract of the law's awake.
-/
import Derived.Test.YteakgagjacjhiaaUK
import Derived.Test.YteakgagjacjhiaaUR
import Derived.Test.YteakgagjacjhiaaUO
namespace Go.Proofs.Yteakgagjacjhiaa.Trees
open Go.RowKit Go.Shelf
open Go.Proofs.Yteakgagjacjhiaa.Style (bs bs_size bs_at getD_at bs_of)
open Go.Proofs.Yteakgagjacjhiaa.Toks (cell_lt cell_same SliceAt Above Grid Spare)
set_option linter.unusedVariables false
set_option linter.unusedSimpArgs false

theorem cs_size (x : Stp) : x.cs.toList.length = 6 := rfl
theorem flat6 : ∀ (L : List Stp) (i j : Nat), i < L.length → j < 6 → (L.flatMap fun x => x.cs.toList)[i * 6 + j]? = some (cellS L i j)
  | [], i, j, hi, _ => absurd hi (by simp)
  | x :: r, 0, j, _, hj => by
    rw [List.flatMap_cons, Nat.zero_mul, Nat.zero_add, List.getElem?_append_left (by rw [cs_size]; exact hj)]
    unfold cellS
    show _ = some (x.cs[j]?.getD undef)
    rw [Array.getElem?_toList, Array.getElem?_eq_getElem (show j < x.cs.size from hj)]; rfl
  | x :: r, i + 1, j, hi, hj => by
    rw [List.flatMap_cons, List.getElem?_append_right (by rw [cs_size]; omega), cs_size, show (i + 1) * 6 + j - 6 = i * 6 + j by omega, flat6 r i j (by simpa using hi) hj]
    rfl
theorem flat6_size : ∀ L : List Stp, (L.flatMap fun x => x.cs.toList).length = L.length * 6
  | [] => rfl
  | x :: r => by rw [List.flatMap_cons, List.length_append, cs_size, flat6_size r, List.length_cons]; omega
/-- A row of steps that is made. -/
theorem StepsAt.new (w : World) (t : TypeId) (L : List Stp) (cs : Array Value) (h : cs.toList = L.flatMap fun x => x.cs.toList) : StepsAt (w.alloc (.cells cs t)) (.slice (some ⟨w.heap.size, 0, none⟩) L.length L.length) L := by
  have hg : Grid (w.alloc (.cells cs t)) w.heap.size 6 L.length (cellS L) := Grid.new w t 6 L.length _ cs (fun i hi j hj => by
    rw [← Array.getElem?_toList, h]; exact flat6 L i j hi hj)
  refine .inr ⟨_, _, rfl, Nat.le_refl _, ?_, hg⟩
  have hs : cs.size = L.length * 6 := by rw [← Array.length_toList, h, flat6_size]
  rw [← hs]
  exact Toks.Spare.of_cells (World.alloc_heap_new w _)

def mulS : Stp := ⟨3, -1, 0, 0, 0, []⟩
def divS : Stp := ⟨4, -1, 0, 0, 0, []⟩
def upL : List Stp := [symS 0, symS 1, symS 2, mulS, divS]
theorem up_facts : soundZ symT upL = true ∧ partsZ symT upL = ([symS 0], [symS 1, symS 2, mulS]) ∧ nestZ symT upL = 1 := by decide +kernel
theorem up_text : ∀ x ∈ upL, x.text.length ≤ 9223372036854775807 := by
  intro x hx
  have : ∀ x ∈ upL, x.text = [] := by decide
  rw [this x hx]; simp

set_option maxRecDepth 100000 in
set_option maxHeartbeats 4000000 in
theorem awake_yes (w : World) : Calls Try.prog 9 #[] w fun e w' => e = .returned (.bool true) ∧ Below w.heap.size w w' := by
  have hS := fun (a : Int) (W : World) => lsym_any a W
  unfold symS at hS
  simp only [Stp.v] at hS
  have hP := fun s W h => parts_any s upL W h up_text (by decide)
  have hSo := fun s W h => sound_any s upL W h up_text (by decide)
  have hN := fun s W h => nest_any s upL W h up_text (by decide)
  obtain ⟨f1, f2, f3⟩ := up_facts
  rw [f2] at hP
  rw [f1] at hSo
  rw [f3] at hN
  clear f1 f2 f3
  have hNw := fun (W : World) => (StepsAt.new W 35 upL #[.int .i64 2, .int .i64 (-1), .int .i64 0, .int .i64 1, .int .i64 0, .string (bs []), .int .i64 2, .int .i64 (-1), .int .i64 1, .int .i64 1, .int .i64 0, .string (bs []), .int .i64 2, .int .i64 (-1), .int .i64 2, .int .i64 1, .int .i64 0, .string (bs []), .int .i64 3, .int .i64 (-1), .int .i64 0, .int .i64 0, .int .i64 0, .string (bs []), .int .i64 4, .int .i64 (-1), .int .i64 0, .int .i64 0, .int .i64 0, .string (bs [])] rfl).view
  go_enter Try.func9, Try.ntmps9
  go_wp2_with fail
  refine (hS 0 _).mono ?_
  rintro e w1 ⟨rfl, hb1⟩
  go_wp2_with fail
  refine (hS 1 _).mono ?_
  rintro e w2 ⟨rfl, hb2⟩
  go_wp2_with fail
  refine (hS 2 _).mono ?_
  rintro e w3 ⟨rfl, hb3⟩
  have hB3 := (hb1.trans (hb2.mono hb1.size)).trans (hb3.mono (by have := hb1.size; have := hb2.size; omega))
  clear hb1 hb2 hS
  go_wp2_with fail
  have hV : View (w3.alloc (.cells #[.int .i64 2, .int .i64 (-1), .int .i64 0, .int .i64 1, .int .i64 0, .string (bs []), .int .i64 2, .int .i64 (-1), .int .i64 1, .int .i64 1, .int .i64 0, .string (bs []), .int .i64 2, .int .i64 (-1), .int .i64 2, .int .i64 1, .int .i64 0, .string (bs []), .int .i64 3, .int .i64 (-1), .int .i64 0, .int .i64 0, .int .i64 0, .string (bs []), .int .i64 4, .int .i64 (-1), .int .i64 0, .int .i64 0, .int .i64 0, .string (bs [])] 35)) (.slice (some ⟨w3.heap.size, 0, none⟩) 5 5) upL := hNw w3
  have hB4 : Below w.heap.size w (w3.alloc (.cells #[.int .i64 2, .int .i64 (-1), .int .i64 0, .int .i64 1, .int .i64 0, .string (bs []), .int .i64 2, .int .i64 (-1), .int .i64 1, .int .i64 1, .int .i64 0, .string (bs []), .int .i64 2, .int .i64 (-1), .int .i64 2, .int .i64 1, .int .i64 0, .string (bs []), .int .i64 3, .int .i64 (-1), .int .i64 0, .int .i64 0, .int .i64 0, .string (bs []), .int .i64 4, .int .i64 (-1), .int .i64 0, .int .i64 0, .int .i64 0, .string (bs [])] 35)) := hB3.alloc (by have := hB3.size; exact this) _
  change Calls _ _ _ (w3.alloc (.cells #[.int .i64 2, .int .i64 (-1), .int .i64 0, .int .i64 1, .int .i64 0, .string (bs []), .int .i64 2, .int .i64 (-1), .int .i64 1, .int .i64 1, .int .i64 0, .string (bs []), .int .i64 2, .int .i64 (-1), .int .i64 2, .int .i64 1, .int .i64 0, .string (bs []), .int .i64 3, .int .i64 (-1), .int .i64 0, .int .i64 0, .int .i64 0, .string (bs []), .int .i64 4, .int .i64 (-1), .int .i64 0, .int .i64 0, .int .i64 0, .string (bs [])] 35)) _
  generalize w3.alloc (.cells #[.int .i64 2, .int .i64 (-1), .int .i64 0, .int .i64 1, .int .i64 0, .string (bs []), .int .i64 2, .int .i64 (-1), .int .i64 1, .int .i64 1, .int .i64 0, .string (bs []), .int .i64 2, .int .i64 (-1), .int .i64 2, .int .i64 1, .int .i64 0, .string (bs []), .int .i64 3, .int .i64 (-1), .int .i64 0, .int .i64 0, .int .i64 0, .string (bs []), .int .i64 4, .int .i64 (-1), .int .i64 0, .int .i64 0, .int .i64 0, .string (bs [])] 35) = W4 at *
  generalize w3.heap.size = b at *
  clear hNw hB3 hb3
  refine (hP _ W4 hV).mono ?_
  rintro e w5 ⟨⟨s1, s2, rfl, h1, h2⟩, hb5⟩
  have hV5 := hV.go hb5
  have hB5 := hB4.trans (hb5.mono hB4.size)
  obtain ⟨o1, c1, rfl⟩ : ∃ o c, s1 = .slice o 1 c := SliceAt.slice h1
  obtain ⟨o2, c2, rfl⟩ : ∃ o c, s2 = .slice o 3 c := SliceAt.slice h2
  clear h1 h2 hV hB4 hb5 hP
  go_wp2_with fail
  refine (hSo _ w5 hV5).mono ?_
  rintro e w6 ⟨rfl, hb6⟩
  have hV6 := hV5.go hb6
  have hB6 := hB5.trans (hb6.mono hB5.size)
  clear hV5 hB5 hb6 hSo
  go_wp2_with fail
  refine (hN _ w6 hV6).mono ?_
  rintro e w7 ⟨rfl, hb7⟩
  have hB7 := hB6.trans (hb7.mono hB6.size)
  go_wp2_with fail
  go_ret
  exact ⟨rfl, hB7⟩

end Go.Proofs.Yteakgagjacjhiaa.Trees
