/-
  Contract of (atoms.seen).add: the codes of one more row; all but the map stays as it was.
-/
import Derived.Test.YtpmibcdmaaagjaaDoorA3
namespace Go.Proofs.YtpmibcdmaaagjaaDoor.Atoms
open Go.RowKit
set_option linter.unusedVariables false
set_option linter.unusedSimpArgs false

/-- All but the block M is as it was. -/
structure But (M : Nat) (w w' : World) : Prop where
  os : w'.os = w.os
  tape : w'.tape = w.tape
  output : w'.output = w.output
  size : w.heap.size ≤ w'.heap.size
  block : ∀ k, k < w.heap.size → k ≠ M → w'.heap[k]? = w.heap[k]?
theorem But.refl (M : Nat) (w : World) : But M w w := ⟨rfl, rfl, rfl, Nat.le_refl _, fun _ _ _ => rfl⟩
theorem But.trans {M : Nat} {a b c : World} (h : But M a b) (k : But M b c) : But M a c :=
  ⟨k.os.trans h.os, k.tape.trans h.tape, k.output.trans h.output, Nat.le_trans h.size k.size, fun i hi hM => (k.block i (by have := h.size; omega) hM).trans (h.block i hi hM)⟩
theorem But.of {M : Nat} {w w' : World} (h : Below w.heap.size w w') : But M w w' := ⟨h.os, h.tape, h.output, h.size, fun k hk _ => h.block k hk⟩
theorem But.put (M : Nat) (w : World) (o : Obj) : But M w (w.putObj M o) := ⟨rfl, rfl, rfl, by simp [World.putObj], fun k _ hM => World.putObj_heap_other hM⟩
theorem But.alloc {M : Nat} {w w' : World} (h : But M w w') (o : Obj) : But M w (w'.alloc o) := h.trans (But.of ((Below.refl _ _).alloc (Nat.le_refl _) o))
theorem But.below {M B : Nat} {w w' : World} (h : But M w w') (hB : B ≤ w.heap.size) (hM : B ≤ M) : Below B w w' := ⟨h.os, h.tape, h.output, h.size, fun k hk => h.block k (by omega) (by omega)⟩
theorem But.grid {M : Nat} {w w' : World} (h : But M w w') {b k n : Nat} {f : Nat → Nat → Value} (hg : Grid w b k n f) (hb : b ≠ M) : Grid w' b k n f := hg.block h.size (h.block b hg.2.2 hb)

/-- The five codes. -/
structure C5 where
  c0 : List UInt8
  c1 : List UInt8
  c2 : List UInt8
  c3 : List UInt8
  c4 : List UInt8
def C5.l (c : C5) : List (List UInt8) := [c.c0, c.c1, c.c2, c.c3, c.c4]
def C5.get (c : C5) (i : Nat) : List UInt8 := c.l.getD i []
def C5.cs (c : C5) : Array Value := #[.string (bs c.c0), .string (bs c.c1), .string (bs c.c2), .string (bs c.c3), .string (bs c.c4)]
/-- No text is longer than may be. -/
def C5.Fine (c : C5) : Prop := ∀ i, (c.get i).length ≤ 9223372036854775807
theorem five {p : Nat → Prop} (h0 : p 0) (h1 : p 1) (h2 : p 2) (h3 : p 3) (h4 : p 4) : ∀ i, i < 5 → p i := by
  intro i hi
  match i, hi with
  | 0, _ => exact h0
  | 1, _ => exact h1
  | 2, _ => exact h2
  | 3, _ => exact h3
  | 4, _ => exact h4
theorem s0 (a b c d e : Value) (w : World) : (Instr.index 37 (.agg #[a, b, c, d, e]) (.int .i64 0)).run Tryd.prog w = .ok a w := by kernel_rfl
theorem s1 (a b c d e : Value) (w : World) : (Instr.index 37 (.agg #[a, b, c, d, e]) (.int .i64 1)).run Tryd.prog w = .ok b w := by kernel_rfl
theorem s2 (a b c d e : Value) (w : World) : (Instr.index 37 (.agg #[a, b, c, d, e]) (.int .i64 2)).run Tryd.prog w = .ok c w := by kernel_rfl
theorem s3 (a b c d e : Value) (w : World) : (Instr.index 37 (.agg #[a, b, c, d, e]) (.int .i64 3)).run Tryd.prog w = .ok d w := by kernel_rfl
theorem s4 (a b c d e : Value) (w : World) : (Instr.index 37 (.agg #[a, b, c, d, e]) (.int .i64 4)).run Tryd.prog w = .ok e w := by kernel_rfl
theorem code_at (c : C5) (w : World) : ∀ i, i < 5 → (Instr.index 37 (.agg #[.string (bs c.c0), .string (bs c.c1), .string (bs c.c2), .string (bs c.c3), .string (bs c.c4)]) (.int .i64 (i : Nat))).run Tryd.prog w = .ok (.string (bs (c.get i))) w :=
  five (s0 _ _ _ _ _ _) (s1 _ _ _ _ _ _) (s2 _ _ _ _ _ _) (s3 _ _ _ _ _ _) (s4 _ _ _ _ _ _)
theorem drop5 (c : C5) : ∀ i, i < 5 → c.l.drop i = c.get i :: c.l.drop (i + 1) := five rfl rfl rfl rfl rfl
theorem add_skip (K : List (List Int)) (c : C5) (i : Nat) (hi : i < 5) (h : c.get i = []) : addFrom K ((i : Int) + 1) (c.l.drop i) = addFrom K (((i + 1 : Nat) : Int) + 1) (c.l.drop (i + 1)) := by
  rw [drop5 c i hi]
  show (if c.get i = [] then _ else _) = _
  rw [if_pos h]
  congr 1
theorem add_one (K : List (List Int)) (c : C5) (i : Nat) (hi : i < 5) (h : c.get i ≠ []) (hc : codeB ((i : Int) + 1) (c.get i) = true) (hm : keyOf ((i : Int) + 1) (c.get i) ∉ K) :
    addFrom K ((i : Int) + 1) (c.l.drop i) = addFrom (K ++ [keyOf ((i : Int) + 1) (c.get i)]) (((i + 1 : Nat) : Int) + 1) (c.l.drop (i + 1)) := by
  rw [drop5 c i hi]
  show (if c.get i = [] then _ else _) = _
  rw [if_neg h, if_pos ⟨hc, hm⟩]
  congr 1
theorem add_none (K : List (List Int)) (c : C5) (i : Nat) (hi : i < 5) (h : c.get i ≠ []) (hc : codeB ((i : Int) + 1) (c.get i) = false ∨ keyOf ((i : Int) + 1) (c.get i) ∈ K) : addFrom K ((i : Int) + 1) (c.l.drop i) = none := by
  rw [drop5 c i hi]
  show (if c.get i = [] then _ else _) = _
  rw [if_neg h, if_neg]
  rintro ⟨h1, h2⟩
  rcases hc with hc | hc
  · rw [hc] at h1; cases h1
  · exact h2 hc
theorem key_len (n : Int) (s : List UInt8) : (keyOf n s).length = 9 := rfl

/-- How add ends (function 30). -/
def AddEnd (w : World) (M : Nat) (r : Option (List (List Int))) (e : Ending) (w' : World) : Prop :=
  But M w w' ∧ ((∃ K', r = some K' ∧ e = .returned (.bool true) ∧ MapAt w' M K') ∨ (r = none ∧ e = .returned (.bool false)))

theorem bs_toList (l : List UInt8) : (bs l).toList = l := by rw [ByteArray.toList_eq]; rfl
theorem bs_none : (bs []).toList.isEmpty = true := by rw [bs_toList]; rfl
theorem bs_some {l : List UInt8} (h : l ≠ []) : (bs l).toList.isEmpty = false := by
  rw [bs_toList]
  cases l with
  | nil => exact absurd rfl h
  | cons a l => rfl

set_option maxRecDepth 100000 in
set_option maxHeartbeats 2000000 in
theorem add_first (c : C5) (M : Nat) (K : List (List Int)) (w : World) (h : c.c0 = []) :
    Calls Tryd.prog 30 #[.map (some M), .agg c.cs] w (AddEnd w M (addP K c.l)) := by
  have HN : Hid (addP K c.l = none) := by show _ = _; unfold addP; rw [if_pos (by simpa [C5.l] using h)]
  have e0 := bs_none
  simp only [C5.cs]
  rw [h]
  clear h
  go_enter Tryd.func30, Tryd.ntmps30
  go_wp2
  go_ret
  exact ⟨But.of ((Below.refl _ _).alloc (Nat.le_refl _) _), .inr ⟨HN.out, rfl⟩⟩

set_option maxRecDepth 100000 in
set_option maxHeartbeats 4000000 in
theorem add_rest (c : C5) (M : Nat) (K : List (List Int)) (w : World) (h : c.c0 ≠ []) (hf : c.Fine) (hM : MapAt w M K) :
    Calls Tryd.prog 30 #[.map (some M), .agg c.cs] w (AddEnd w M (addP K c.l)) := by
  have HN : Hid (addP K c.l = addFrom K 1 c.l) := by show _ = _; unfold addP; rw [if_neg (by simpa [C5.l] using h)]
  have e0 := bs_some h
  have hB := But.of (M := M) ((Below.refl w.heap.size w).alloc (Nat.le_refl _) (.cells c.cs 37))
  have hM0 := hM.go ((Below.refl w.heap.size w).alloc (Nat.le_refl _) (.cells c.cs 37))
  simp only [C5.cs] at hB hM0 ⊢
  clear hM h
  go_enter Tryd.func30, Tryd.ntmps30
  go_wp2
  go_loopw [13] (fun x wr => ∃ (k : Nat) (K' : List (List Int)), x = .int .i64 k ∧ k ≤ 5 ∧ Hid (addFrom K 1 c.l = addFrom K' ((k : Int) + 1) (c.l.drop k)) ∧ MapAt wr M K' ∧ But M w wr) (fun x _ => (5 - intOf x).toNat)
  case atStart => exact ⟨0, K, rfl, by omega, rfl, hM0, hB⟩
  case round =>
    clear hM0 hB e0
    obtain ⟨k, K', rfl, hk, hL, hM, hB⟩ := hrel
    by_cases h5 : k < 5
    · have k5 : (k : Int) < 5 := by omega
      have hix := fun V => code_at c V k h5
      have hlen := hf k
      obtain ⟨s, hs⟩ : ∃ s, c.get k = s := ⟨_, rfl⟩
      rw [hs] at hix hlen
      have HS := Lib.hid hs
      clear hs
      by_cases hz : s = []
      · have e1 := bs_none
        have HL2 : Hid (addFrom K 1 c.l = addFrom K' (((k + 1 : Nat) : Int) + 1) (c.l.drop (k + 1))) := by
          show _ = _
          rw [hL.out, add_skip K' c k h5 (by rw [HS.out, hz])]
        rw [hz] at hix
        clear hz
        go_wp2
        go_roundw
        case rel => exact ⟨k + 1, K', rfl, by omega, HL2, hM, hB⟩
        case measure => simp only [intOf]; omega
      · have e1 := bs_some hz
        have HZ := Lib.hid hz
        clear hz
        go_wp2_with fail
        refine (codeOf_any ((k : Int) + 1) s wr hlen (by omega) (by omega)).mono ?_
        rintro e w2 ⟨rfl, hb⟩
        replace hM := hM.go hb
        replace hB := hB.trans (But.of hb)
        clear hb
        obtain ⟨cb, hcb⟩ : ∃ cb, codeB ((k : Int) + 1) s = cb := ⟨_, rfl⟩
        unfold codeV
        rw [hcb]
        have HCB := Lib.hid hcb
        clear hcb
        cases cb with
        | false =>
          have HL2 : Hid (addP K c.l = none) := by
            show _ = _
            rw [HN.out, hL.out]
            exact add_none K' c k h5 (by rw [HS.out]; exact HZ.out) (.inl (by rw [HS.out]; exact HCB.out))
          simp only [Bool.false_eq_true, if_false, keyV, noKey, List.map_cons, List.map_nil]
          go_wp2
          go_ret
          exact ⟨hB.alloc _, .inr ⟨HL2.out, rfl⟩⟩
        | true =>
          have h9 := key_len ((k : Int) + 1) s
          by_cases hm : keyOf ((k : Int) + 1) s ∈ K'
          · have HL2 : Hid (addP K c.l = none) := by
              show _ = _
              rw [HN.out, hL.out]
              exact add_none K' c k h5 (by rw [HS.out]; exact HZ.out) (.inr (by rw [HS.out]; exact hm))
            have hlook := (hM.go ((Below.refl w2.heap.size w2).alloc (Nat.le_refl _) (.cells #[.int .u8 ((k : Int) + 1), .int .u8 (at0 s 0), .int .u8 (at0 s 1), .int .u8 (at0 s 2), .int .u8 (at0 s 3), .int .u8 (at0 s 4), .int .u8 (at0 s 5), .int .u8 (at0 s 6), .int .u8 (at0 s 7)] 79))).look _ h9
            rw [decide_eq_true hm] at hlook
            simp only [if_true, keyV, keyOf, List.map_cons, List.map_nil] at hlook ⊢
            clear hm h9
            go_wp2
            go_ret
            exact ⟨hB.alloc _, .inr ⟨HL2.out, rfl⟩⟩
          · have HL2 : Hid (addFrom K 1 c.l = addFrom (K' ++ [keyOf ((k : Int) + 1) s]) (((k + 1 : Nat) : Int) + 1) (c.l.drop (k + 1))) := by
              show _ = _
              rw [hL.out, add_one K' c k h5 (by rw [HS.out]; exact HZ.out) (by rw [HS.out]; exact HCB.out) (by rw [HS.out]; exact hm), HS.out]
            have hM2 := hM.go ((Below.refl w2.heap.size w2).alloc (Nat.le_refl _) (.cells #[.int .u8 ((k : Int) + 1), .int .u8 (at0 s 0), .int .u8 (at0 s 1), .int .u8 (at0 s 2), .int .u8 (at0 s 3), .int .u8 (at0 s 4), .int .u8 (at0 s 5), .int .u8 (at0 s 6), .int .u8 (at0 s 7)] 79))
            have hlook := hM2.look _ h9
            obtain ⟨o, hst, hM3⟩ := hM2.store _ h9 hm
            rw [decide_eq_false hm] at hlook
            replace hB := (hB.alloc (.cells #[.int .u8 ((k : Int) + 1), .int .u8 (at0 s 0), .int .u8 (at0 s 1), .int .u8 (at0 s 2), .int .u8 (at0 s 3), .int .u8 (at0 s 4), .int .u8 (at0 s 5), .int .u8 (at0 s 6), .int .u8 (at0 s 7)] 79)).trans (But.put M _ o)
            generalize hkk : K' ++ [keyOf ((k : Int) + 1) s] = K2 at HL2 hM3
            clear hkk hM2
            simp only [if_true, keyV, keyOf, List.map_cons, List.map_nil] at hlook hst ⊢
            clear hm h9
            go_wp2
            go_roundw
            case rel => exact ⟨k + 1, K2, rfl, by omega, HL2, hM3, hB⟩
            case measure => simp only [intOf]; omega
    · have k5 : k = 5 := by omega
      subst k5
      go_wp2
      go_ret
      refine ⟨hB, .inl ⟨K', ?_, rfl, hM⟩⟩
      rw [HN.out, hL.out]; rfl

theorem add_any (c : C5) (M : Nat) (K : List (List Int)) (w : World) (hf : c.Fine) (hM : MapAt w M K) :
    Calls Tryd.prog 30 #[.map (some M), .agg c.cs] w (AddEnd w M (addP K c.l)) := by
  by_cases h : c.c0 = []
  · exact add_first c M K w h
  · exact add_rest c M K w h hf hM

end Go.Proofs.YtpmibcdmaaagjaaDoor.Atoms
