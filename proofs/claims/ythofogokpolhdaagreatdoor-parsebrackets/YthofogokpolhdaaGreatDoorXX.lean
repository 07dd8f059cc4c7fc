/-
  Contracts of the document's Each, Lex: the walks.
-/
import Derived.Test.YthofogokpolhdaaGreatDoorXV
namespace Go.Proofs.YthofogokpolhdaaGreatDoor.Toks
open Go.RowKit Go.Shelf
open Go.Proofs.YthofogokpolhdaaGreatDoor.Style
set_option linter.unusedVariables false
set_option linter.unusedSimpArgs false

/-- How far it has gone, off the box. -/
def farOf (b : Nat) (W : World) : Int := match W.cell? ⟨b, 1, none⟩ with
  | some (.int _ p) => p
  | _ => 0

set_option maxRecDepth 100000 in
set_option maxHeartbeats 4000000 in
theorem reach_any (n : Int) (s : List UInt8) (w : World) (hl : s.length ≤ 1000) :
    Calls Tryz.prog 23 #[.int .i64 n, .string (bs s)] w fun e w' => (∃ o c, e = .returned (.agg #[.slice o (toks n s).length c, .int .i64 (endL 0 (lexL n 0 s) : Int)]) ∧ ToksAt w' (.slice o (toks n s).length c) (toks n s) ∧ Above w.heap.size (.slice o (toks n s).length c)) ∧ Below w.heap.size w w' := by
  have hzi : ((bs s).size : Int) = (s.length : Int) := by rw [bs_size]
  have hli : (s.length : Int) ≤ 1000 := by omega
  have hNx := fun (p : Nat) (W : World) (h : p < s.length) => next_any n s p W h hl
  have hI0 := AI.new w
  go_enter Tryz.func23, Tryz.ntmps23
  go_wp2_with fail
  generalize ((w.alloc (.cells #[.slice none 0 0, .int .i64 0] 60)).alloc (.cells #[.slice none 0 0, .int .i64 0] 60)) = W0 at *
  go_loopw [6] (fun x wr => ∃ (pre : List (Tok × Nat)) (p : Nat) (o : Option Addr) (c : Nat), At n s pre p ∧ AI w wr o c (pre.map Prod.fst) p) (fun _ wr => ((s.length : Int) - farOf (w.heap.size + 1) wr).toNat)
  case atStart => exact ⟨[], 0, none, 0, At.start n s, hI0⟩
  case round =>
    obtain ⟨pre, p, o, c, hA, hI⟩ := hrel
    have hmx := hA.many
    have hle := hA.le
    have hfar : farOf (w.heap.size + 1) wr = (p : Int) := by unfold farOf; rw [hI.a1]
    have hpl : (pre.map Prod.fst).length ≤ 1000 := by rw [List.length_map]; omega
    by_cases hps : p < s.length
    · have hpi : (p : Int) < s.length := by omega
      have hN := hNx p wr hps
      cases eN : nextT n (s.drop p) with
      | none =>
        rw [eN] at hN
        simp only [gotV] at hN
        have HE : Hid (toks n s = pre.map Prod.fst ∧ (endL 0 (lexL n 0 s) : Int) = (p : Int)) := by
          have h1 := hA.stop eN
          have h2 := hA.fin
          refine ⟨by unfold toks; rw [h1], by rw [h1, h2]⟩
        clear hA hmx eN hNx hI0
        generalize pre.map Prod.fst = L at *
        have a1 := hI.a1
        go_wp2_with fail
        refine hN.mono ?_
        rintro e w2 ⟨rfl, hb2⟩
        have hI2 := hI.go hb2
        have hz := hI2.size
        have hu3 : Below w2.heap.size w2 (w2.alloc (.cells #[.int .i64 0, .int .i64 0, .string (bs []), .int .i64 0, .int .i64 0] 82)) := (Below.refl _ _).alloc (Nat.le_refl _) _
        have hI3 := hI2.go hu3
        have hG3 := GB.new w2 0 0 0 0 []
        have a0 := hI3.a0
        have a1' := hI3.a1
        have r0 := hI3.r0
        have r1 := hI3.r1
        have f0 := hI3.rf 0
        have f1 := hI3.rf 1
        have g4 := hG3.c4
        clear a1 hI hI2 hb2 hu3 hG3 hN
        go_upto_region 4 with fail
        generalize w2.alloc (.cells #[.int .i64 0, .int .i64 0, .string (bs []), .int .i64 0, .int .i64 0] 82) = W3 at *
        go_wp2_with fail
        obtain ⟨⟨x0, x1⟩, hT, hX⟩ := hI3.done
        generalize (W3.setCell ⟨w.heap.size, 0, none⟩ (.slice o L.length c)).setCell ⟨w.heap.size, 1, none⟩ (.int .i64 (p : Int)) = X at *
        refine bodyPost_ret (v := .agg #[.slice o L.length c, .int .i64 (p : Int)]) (by simp [results, Tryz.results23, go_sem, x0, x1]) rfl ?_
        rw [HE.out.1, HE.out.2]
        exact ⟨⟨o, c, rfl, hT, hI3.above.mono (by omega)⟩, hX⟩
      | some g =>
        rw [eN] at hN
        have hgl := next_len eN
        obtain ⟨gk, gt, gn, gl⟩ := g
        simp only [gotV] at hN
        simp only [List.length_drop] at hgl
        have hst := hA.step eN
        simp only at hst
        have HM : Hid ((pre ++ [((⟨gk, p, gt, gn⟩ : Tok), p + gl)]).map Prod.fst = pre.map Prod.fst ++ [⟨gk, p, gt, gn⟩]) := by show _ = _; rw [List.map_append]; rfl
        have hg0 : ((gl : Int) == 0) = false := by simp; omega
        have hgi : (gl : Int) ≤ 1000 := by omega
        have hg1 : (p : Int) + (gl : Int) ≤ 1000 := by omega
        generalize pre.map Prod.fst = L at *
        have a1 := hI.a1
        clear hNx hI0
        go_wp2_with fail
        refine hN.mono ?_
        rintro e w2 ⟨rfl, hb2⟩
        have hI2 := hI.go hb2
        have hz := hI2.size
        obtain ⟨V, o', c', happ, y0, y1, yf, y4, hne, hI6⟩ := hI2.more hpl gk gn gt gl
        simp only [Int.natCast_add] at hI6
        have yf0 := yf 0
        have yf1 := yf 1
        clear yf
        have hu3 : Below w2.heap.size w2 (w2.alloc (.cells #[.int .i64 gk, .int .i64 (p : Int), .string (bs gt), .int .i64 gn, .int .i64 (gl : Int)] 82)) := (Below.refl _ _).alloc (Nat.le_refl _) _
        have hI3 := hI2.go hu3
        have hG3 := GB.new w2 gk (p : Int) gn (gl : Int) gt
        have hsz3 : (w2.alloc (.cells #[.int .i64 gk, .int .i64 (p : Int), .string (bs gt), .int .i64 gn, .int .i64 (gl : Int)] 82)).heap.size = w2.heap.size + 1 := World.size_alloc _ _
        have a0 := hI3.a0
        have a1' := hI3.a1
        obtain ⟨g0, g1, g2, g3, g4⟩ := hG3
        clear a1 hI hI2 hb2 hu3 hN
        go_upto_region 4 with fail
        generalize w2.alloc (.cells #[.int .i64 gk, .int .i64 (p : Int), .string (bs gt), .int .i64 gn, .int .i64 (gl : Int)] 82) = W3 at *
        go_wp2_with (first | (at_builtin; refine wpList_app rfl _ _ 58 58 rfl happ ?_) | fail)
        refine ⟨⟨_, p + gl, o', c', hst, ?_⟩, ?_⟩
        · rw [HM.out]; exact hI6
        · have hf2 : farOf (w.heap.size + 1) ((V.setCell ⟨w.heap.size + 1, 0, none⟩ (.slice o' (L.length + 1) c')).setCell ⟨w.heap.size + 1, 1, none⟩ (.int .i64 ((p : Int) + (gl : Int)))) = ((p + gl : Nat) : Int) := by unfold farOf; rw [hI6.a1]
          rw [hfar, hf2]
          omega
    · have hpi : ¬ (p : Int) < s.length := by omega
      have hpe : p = s.length := by omega
      subst hpe
      have HE : Hid (toks n s = pre.map Prod.fst ∧ (endL 0 (lexL n 0 s) : Int) = (s.length : Int)) := by
        have h1 := hA.done
        have h2 := hA.fin
        refine ⟨by unfold toks; rw [h1], by rw [h1, h2]⟩
      clear hA hmx hNx hI0
      generalize pre.map Prod.fst = L at *
      have a0 := hI.a0
      have a1 := hI.a1
      have r0 := hI.r0
      have r1 := hI.r1
      have f0 := hI.rf 0
      have f1 := hI.rf 1
      go_wp2_with fail
      obtain ⟨⟨x0, x1⟩, hT, hX⟩ := hI.done
      generalize (wr.setCell ⟨w.heap.size, 0, none⟩ (.slice o L.length c)).setCell ⟨w.heap.size, 1, none⟩ (.int .i64 (s.length : Int)) = X at *
      refine bodyPost_ret (v := .agg #[.slice o L.length c, .int .i64 (s.length : Int)]) (by simp [results, Tryz.results23, go_sem, x0, x1]) rfl ?_
      rw [HE.out.1, HE.out.2]
      exact ⟨⟨o, c, rfl, hT, hI.above.mono (by omega)⟩, hX⟩

end Go.Proofs.YthofogokpolhdaaGreatDoor.Toks
