/-
  Contract of lex.Join.
-/
import Derived.Test.YtmcmmbacehldbaaDoorXW
import Derived.Test.YtmcmmbacehldbaaDoorXN
import Derived.Test.YtmcmmbacehldbaaDoorX8
import Derived.Deep.RegionHeld3
import Derived.Deep.Cut
namespace Go.Proofs.YtmcmmbacehldbaaDoor.Toks
open Go.RowKit Go.Shelf
open Go.Proofs.YtmcmmbacehldbaaDoor.Style
set_option linter.unusedVariables false
set_option linter.unusedSimpArgs false

/-- A token's own bytes. -/
def rawT (x : St) (t : Tok) : List UInt8 := if t.kind = 9 then UInt8.ofNat x.op.toNat :: (t.text ++ [UInt8.ofNat x.cl.toNat]) else t.text
def joinL (x : St) : List Tok → List UInt8
  | [] => []
  | t :: L => rawT x t ++ joinL x L
theorem joinL_app (x : St) : ∀ (A B : List Tok), joinL x (A ++ B) = joinL x A ++ joinL x B
  | [], B => rfl
  | t :: A, B => by simp only [List.cons_append, joinL, joinL_app x A B, List.append_assoc]
theorem joinL_succ (x : St) (L : List Tok) (i : Nat) (h : i < L.length) : joinL x (L.take (i + 1)) = joinL x (L.take i) ++ rawT x (L.getD i default) := by
  rw [List.take_succ_eq_append_getElem h, joinL_app, List.getD_eq_getElem?_getD, List.getElem?_eq_getElem h]
  simp [joinL]
theorem joinL_le (x : St) (L : List Tok) (i : Nat) : (joinL x (L.take i)).length ≤ (joinL x L).length := by
  have : joinL x L = joinL x (L.take i) ++ joinL x (L.drop i) := by rw [← joinL_app, List.take_append_drop]
  rw [this, List.length_append]; omega
theorem cells_app (a b : List UInt8) : Lib.byteCells a ++ Lib.byteCells b = Lib.byteCells (a ++ b) := by
  unfold Lib.byteCells; rw [List.map_append]
theorem cells_one (x : Int) (h0 : 0 ≤ x) (h1 : x ≤ 255) : ([.int .u8 x] : List Value) = Lib.byteCells [UInt8.ofNat x.toNat] := by
  have : (UInt8.ofNat x.toNat).toNat = x.toNat := by rw [UInt8.toNat_ofNat']; exact Nat.mod_eq_of_lt (by omega)
  simp [Lib.byteCells, this]; omega
theorem st_bytes (n : Int) : (0 ≤ (stZ n).op ∧ (stZ n).op ≤ 255) ∧ (0 ≤ (stZ n).cl ∧ (stZ n).cl ≤ 255) := by
  rcases st_cases n with (rfl | rfl | rfl | rfl | rfl) | ⟨_, e, _⟩
  · decide
  · decide
  · decide
  · decide
  · decide
  · rw [e]; decide

/-- How the world stands in Join. -/
structure JoI (w W0 W : World) (b : Nat) (x : St) (o : Option Addr) (c : Nat) (L : List Tok) (done : List UInt8) : Prop where
  bld : Lib.IsBuilderF 57 5 b b (Lib.byteCells done) W
  own : Below b W0 W
  size : b ≤ W.heap.size
theorem JoI.step {w W0 W W' : World} {b : Nat} {x : St} {o : Option Addr} {c : Nat} {L : List Tok} {d e : List UInt8} (h : JoI w W0 W b x o c L d) (hb : Lib.IsBuilderF 57 5 b b (Lib.byteCells d ++ Lib.byteCells e) W') (hB : Below b W W') : JoI w W0 W' b x o c L (d ++ e) :=
  ⟨by rw [cells_app] at hb; exact hb, h.own.trans hB, Nat.le_trans h.size hB.size⟩

set_option maxRecDepth 100000 in
set_option maxHeartbeats 4000000 in
theorem join_any (n : Int) (o : Option Addr) (c : Nat) (L : List Tok) (w : World) (hE : Env w) (hT : ToksAt w (.slice o L.length c) L) (hl : L.length ≤ 1000) (hj : (joinL (stZ n) L).length ≤ 10000) :
    Calls Tryd.prog 15 #[.int .i64 n, .slice o L.length c] w fun e w' => e = .returned (.string (bs (joinL (stZ n) L))) ∧ Below w.heap.size w w' := by
  have hO := of_any n w hE.sts
  have hby := st_bytes n
  have hli : (L.length : Int) ≤ 1000 := by omega
  have HS : Hid (∀ i, i < L.length → joinL (stZ n) (L.take (i + 1)) = joinL (stZ n) (L.take i) ++ rawT (stZ n) (L.getD i default)) := fun i hi => joinL_succ _ L i hi
  have HL : Hid (∀ i, (joinL (stZ n) (L.take i)).length ≤ 10000) := fun i => Nat.le_trans (joinL_le _ L i) hj
  generalize isN n = bn at hO
  generalize stZ n = x at *
  obtain ⟨f, m, d, pw, op, cl⟩ := x
  simp only [St.v] at hO
  simp only at hby
  obtain ⟨⟨o0, o1⟩, ⟨q0, q1⟩⟩ := hby
  go_enter Tryd.func15, Tryd.ntmps15
  go_wp2_with fail
  refine hO.mono ?_
  rintro e w1 ⟨rfl, hb1⟩
  have hz1 := hb1.size
  have hu : Below w.heap.size w ((w1.alloc (.cells #[.bool f, .int .u8 m, .int .u8 d, .int .u8 pw, .int .u8 op, .int .u8 cl] 42)).alloc (.cells #[.pointer none, .slice none 0 0] 57)) := (hb1.alloc hz1 _).alloc (by rw [World.size_alloc]; omega) _
  have s4 : ((w1.alloc (.cells #[.bool f, .int .u8 m, .int .u8 d, .int .u8 pw, .int .u8 op, .int .u8 cl] 42)).alloc (.cells #[.pointer none, .slice none 0 0] 57)).cell? ⟨w1.heap.size, 4, none⟩ = some (.int .u8 op) := by simp [go_sem]
  have s5 : ((w1.alloc (.cells #[.bool f, .int .u8 m, .int .u8 d, .int .u8 pw, .int .u8 op, .int .u8 cl] 42)).alloc (.cells #[.pointer none, .slice none 0 0] 57)).cell? ⟨w1.heap.size, 5, none⟩ = some (.int .u8 cl) := by simp [go_sem]
  have hbl : Lib.IsBuilderF 57 5 (w1.heap.size + 1) (w1.heap.size + 1) (Lib.byteCells []) ((w1.alloc (.cells #[.bool f, .int .u8 m, .int .u8 d, .int .u8 pw, .int .u8 op, .int .u8 cl] 42)).alloc (.cells #[.pointer none, .slice none 0 0] 57)) := by
    have := fresh_builder (w1.alloc (.cells #[.bool f, .int .u8 m, .int .u8 d, .int .u8 pw, .int .u8 op, .int .u8 cl] 42))
    rwa [World.size_alloc] at this
  have hzz : w1.heap.size + 1 ≤ ((w1.alloc (.cells #[.bool f, .int .u8 m, .int .u8 d, .int .u8 pw, .int .u8 op, .int .u8 cl] 42)).alloc (.cells #[.pointer none, .slice none 0 0] 57)).heap.size := by simp only [World.size_alloc]; omega
  go_wp2_with fail
  generalize ((w1.alloc (.cells #[.bool f, .int .u8 m, .int .u8 d, .int .u8 pw, .int .u8 op, .int .u8 cl] 42)).alloc (.cells #[.pointer none, .slice none 0 0] 57)) = W0 at *
  have hJ0 : JoI w W0 W0 (w1.heap.size + 1) ⟨f, m, d, pw, op, cl⟩ o c L [] := ⟨hbl, Below.refl _ _, hzz⟩
  generalize hbx : w1.heap.size = bx at *
  have HBX := Lib.hid hbx
  clear hbx hbl hO
  go_loopw [16] (fun x wr => ∃ i : Nat, x = .int .i64 i ∧ i ≤ L.length ∧ JoI w W0 wr (bx + 1) ⟨f, m, d, pw, op, cl⟩ o c L (joinL ⟨f, m, d, pw, op, cl⟩ (L.take i))) (fun x _ => (L.length - intOf x).toNat)
  case atStart => exact ⟨0, rfl, by omega, hJ0⟩
  case round =>
    clear hJ0
    obtain ⟨i, rfl, hi, hJ⟩ := hrel
    have hBw : Below w.heap.size w wr := hu.trans (hJ.own.mono (by have := HBX.out; omega))
    by_cases hil : i < L.length
    · have hii : (i : Int) < L.length := by omega
      obtain ⟨b, rfl, hg⟩ := grid_at hT (by omega)
      have hS := HS.out i hil
      obtain ⟨t, ht⟩ : ∃ t, L.getD i default = t := ⟨_, rfl⟩
      obtain ⟨x0, x1, x2, x3⟩ := tok_cells (hg.go hBw) i hil t ht
      rw [ht] at hS
      have hl1 := HL.out (i + 1)
      rw [hS, List.length_append] at hl1
      have HJS := Lib.hid hS
      have hgl := hg.2.2
      have hbb : b < bx + 1 := by have := HBX.out; omega
      clear ht hS hg
      generalize joinL ⟨f, m, d, pw, op, cl⟩ (L.take i) = dn at *
      obtain ⟨tk, tp, tt, tn⟩ := t
      simp only at x0 x1 x2 x3
      by_cases k9 : tk = 9
      · subst k9
        have hraw : rawT ⟨f, m, d, pw, op, cl⟩ ⟨9, tp, tt, tn⟩ = [UInt8.ofNat op.toNat] ++ (tt ++ [UInt8.ofNat cl.toNat]) := by unfold rawT; rw [if_pos rfl]; rfl
        rw [hraw] at HJS hl1
        simp only [List.length_append, List.length_cons, List.length_nil] at hl1
        clear hraw
        have y4 := (hJ.own.cell (p := ⟨bx, 4, none⟩) (show bx < bx + 1 by omega)).trans s4
        have hdl : (Lib.byteCells dn).length = dn.length := Lib.byteCells_length dn
        go_wp2_with fail
        refine (byte_any (bx + 1) (bx + 1) (Lib.byteCells dn) op wr hJ.bld (by rw [hdl]; omega) hJ.size).mono ?_
        rintro e w2 ⟨rfl, hbl2, hb2⟩
        rw [cells_one op o0 o1] at hbl2
        have hJ2 := hJ.step hbl2 hb2
        have z2 := (hb2.cell (p := ⟨b, i * 4 + 2, none⟩) hbb).trans x2
        clear hbl2 hb2
        go_wp2_with fail
        refine (write_any (bx + 1) (bx + 1) (Lib.byteCells (dn ++ [UInt8.ofNat op.toNat])) tt w2 hJ2.bld (by rw [Lib.byteCells_length, List.length_append]; simp; omega) hJ2.size).mono ?_
        rintro e w3 ⟨rfl, hbl3, hb3, _⟩
        have hJ3 := hJ2.step hbl3 hb3
        have y5 := (hJ3.own.cell (p := ⟨bx, 5, none⟩) (show bx < bx + 1 by omega)).trans s5
        clear hbl3 hb3
        go_wp2_with fail
        refine (byte_any (bx + 1) (bx + 1) (Lib.byteCells (dn ++ [UInt8.ofNat op.toNat] ++ tt)) cl w3 hJ3.bld (by rw [Lib.byteCells_length, List.length_append, List.length_append]; simp; omega) hJ3.size).mono ?_
        rintro e w4 ⟨rfl, hbl4, hb4⟩
        rw [cells_one cl q0 q1] at hbl4
        have hJ4 := hJ3.step hbl4 hb4
        rw [List.append_assoc, List.append_assoc, ← HJS.out] at hJ4
        clear hbl4 hb4
        go_wp2
        go_roundw
        case rel => exact ⟨i + 1, rfl, by omega, hJ4⟩
        case measure => simp only [intOf]; omega
      · have hraw : rawT ⟨f, m, d, pw, op, cl⟩ ⟨tk, tp, tt, tn⟩ = tt := by unfold rawT; rw [if_neg k9]
        rw [hraw] at HJS hl1
        have k9b : (tk == 9) = false := by simpa using k9
        clear hraw
        go_wp2_with fail
        refine (write_any (bx + 1) (bx + 1) (Lib.byteCells dn) tt wr hJ.bld (by rw [Lib.byteCells_length]; omega) hJ.size).mono ?_
        rintro e w3 ⟨rfl, hbl3, hb3, _⟩
        have hJ3 := hJ.step hbl3 hb3
        rw [← HJS.out] at hJ3
        go_wp2
        go_roundw
        case rel => exact ⟨i + 1, rfl, by omega, hJ3⟩
        case measure => simp only [intOf]; omega
    · have hii : ¬ (i : Int) < L.length := by omega
      have HE : Hid (L.take i = L) := by show _ = _; exact List.take_of_length_le (by omega)
      rw [HE.out] at hJ
      go_wp2_with fail
      refine (Tryd.Builder_String_any_k (bx + 1) (bx + 1) (joinL ⟨f, m, d, pw, op, cl⟩ L) wr hJ.bld hJ.size).mono ?_
      rintro e w2 ⟨rfl, _, hb2, _⟩
      go_wp2
      go_ret
      exact ⟨rfl, hBw.trans (hb2.mono (by have := HBX.out; omega))⟩

end Go.Proofs.YtmcmmbacehldbaaDoor.Toks
