/-
  Contract of lex.Lex. Contracts of drachmlaw08.rest, short, awake.
-/
import Derived.Test.YthofogokpolhdaaGreatDoorX3X
namespace Go.Proofs.YthofogokpolhdaaGreatDoor.Toks
open Go.RowKit Go.Shelf Go.Proofs.YthofogokpolhdaaGreatDoor.Ranges
open Go.Proofs.YthofogokpolhdaaGreatDoor.Style
attribute [local go_sem] Oper.semAt_some
set_option linter.unusedVariables false
set_option linter.unusedSimpArgs false

theorem wpListIn_app {F : Fence} {n : Nat} {P : Program} {w : World} {ops : Array Oper} {rest : List Oper} {o : Oper} {a : Act} {Q : Exit → Act → World → Prop} (hg : o.guard = none) (s x : Operand) (t tx : TypeId)
    (ho : o.op = .call { callee := .builtin .append, args := #[s, x], argTypes := #[t, tx] }) {v : Value} {V : World} (hr : ∀ ty, (Builtin.append_ #[t, tx] ty #[a.eval s, a.eval x]).run P w = .ok v V)
    (h : wpListIn F n P ops Q rest (a.put o.dst v) V) : wpListIn F n P ops Q (o :: rest) a w := by
  refine wpListIn_plain hg fun K hK' => ?_
  unfold Oper.wpIn
  refine ⟨?_, ?_⟩
  · simp [Oper.about, ho, resolve, Target.leads, Sem.run_pure]
  · rw [Oper.semAt_plain F _ _ (by rw [ho]; intro c hc'; cases hc')]
    simp [execOp, ho, resolve, invoke, builtin, hr, Result.andThen]
    exact hK' _ _ h
/-- A piece of code that does not panic. -/
theorem wpIn_calm {F : Fence} {n : Nat} {P : Program} {c : Code} {Q : Exit → Act → World → Prop} {a : Act} {w : World} (h : c.wpIn F n P (Exit.then (fun a' w' => Q .normal a' w') (fun _ _ _ => False)) a w) : c.wpIn F n P Q a w :=
  wpIn_mono h (by intro e a' w' hh; cases e <;> first | exact hh | exact hh.elim)
theorem TokBox.bears (B b : Nat) (x : Tok) : Bears B (fun W => TokBox W b x) := fun W l o o' h hl ho hc _ => by
  have k := (cell_put (o' := o') h.cells.1 ho hc).2
  exact Grid.block h (by simp [World.putObj]) k
theorem guard_len {n : Int} {s : List UInt8} {pre : List (Tok × Nat)} {x : Tok × Nat} {V : World} (h : GuardT n s pre x V) : pre.length < s.length := by
  obtain ⟨post, h⟩ := h
  have := lex_len n s
  rw [h, List.length_append, List.length_cons] at this
  omega

set_option maxRecDepth 100000 in
set_option maxHeartbeats 4000000 in
theorem lex_in (n : Int) (s : List UInt8) (w : World) (hE : Env w) (hn : isN n = true) (hl : s.length ≤ 255) : CallsIn Fence.wide 9 Tryz.prog 29 #[.int .i64 n, .string (bs s)] w (LexEnd n s w) := by
  have hzi : ((bs s).size : Int) = (s.length : Int) := by rw [bs_size]
  have hli : (s.length : Int) ≤ 255 := by omega
  have hO := of_any n w hE.sts
  rw [hn] at hO
  generalize stZ n = x at *
  obtain ⟨f, m, d, p, op, cl⟩ := x
  simp only [St.v] at hO
  refine callsIn_of_wp_marks Tryz.func29 rfl trivial ?_ rfl
  simp only [Tryz.ntmps29, List.size_toArray, List.length_cons, List.length_nil, Nat.reduceAdd, Nat.reduceSub, Array.replicate_succ, Array.replicate_zero, List.push_toArray, List.append_toArray, List.nil_append, List.cons_append]
  gi_wp2
  refine ⟨trivial, (callsIn_wide.2 hO).mono ?_⟩
  rintro e w1 ⟨rfl, hb1⟩
  gi_wp2
  have hu : Below w.heap.size w (((w1.alloc (.cells #[.bool f, .int .u8 m, .int .u8 d, .int .u8 p, .int .u8 op, .int .u8 cl] 43)).alloc (.cells #[.slice none 0 0] 58)).alloc (.cells #[.int .i64 0] 3)) := ((hb1.alloc hb1.size _).alloc (by rw [World.size_alloc]; have := hb1.size; omega) _).alloc (by rw [World.size_alloc, World.size_alloc]; have := hb1.size; omega) _
  have c1 : (((w1.alloc (.cells #[.bool f, .int .u8 m, .int .u8 d, .int .u8 p, .int .u8 op, .int .u8 cl] 43)).alloc (.cells #[.slice none 0 0] 58)).alloc (.cells #[.int .i64 0] 3)).cell? ⟨w1.heap.size + 1, 0, none⟩ = some (.slice none 0 0) := by simp [go_sem]
  have c2 : (((w1.alloc (.cells #[.bool f, .int .u8 m, .int .u8 d, .int .u8 p, .int .u8 op, .int .u8 cl] 43)).alloc (.cells #[.slice none 0 0] 58)).alloc (.cells #[.int .i64 0] 3)).cell? ⟨w1.heap.size + 1 + 1, 0, none⟩ = some (.int .i64 0) := by simp [go_sem]
  have d1 : (((w1.alloc (.cells #[.bool f, .int .u8 m, .int .u8 d, .int .u8 p, .int .u8 op, .int .u8 cl] 43)).alloc (.cells #[.slice none 0 0] 58)).alloc (.cells #[.int .i64 0] 3)).frozen? ⟨w1.heap.size + 1, 0, none⟩ = false := by simp [go_sem]
  have d2 : (((w1.alloc (.cells #[.bool f, .int .u8 m, .int .u8 d, .int .u8 p, .int .u8 op, .int .u8 cl] 43)).alloc (.cells #[.slice none 0 0] 58)).alloc (.cells #[.int .i64 0] 3)).frozen? ⟨w1.heap.size + 1 + 1, 0, none⟩ = false := by simp [go_sem]
  have hsz : (((w1.alloc (.cells #[.bool f, .int .u8 m, .int .u8 d, .int .u8 p, .int .u8 op, .int .u8 cl] 43)).alloc (.cells #[.slice none 0 0] 58)).alloc (.cells #[.int .i64 0] 3)).heap.size ≤ w1.heap.size + 1 + 1 + 1 ∧ w1.heap.size + 1 + 1 < (((w1.alloc (.cells #[.bool f, .int .u8 m, .int .u8 d, .int .u8 p, .int .u8 op, .int .u8 cl] 43)).alloc (.cells #[.slice none 0 0] 58)).alloc (.cells #[.int .i64 0] 3)).heap.size := by simp only [World.size_alloc]; omega
  generalize (((w1.alloc (.cells #[.bool f, .int .u8 m, .int .u8 d, .int .u8 p, .int .u8 op, .int .u8 cl] 43)).alloc (.cells #[.slice none 0 0] 58)).alloc (.cells #[.int .i64 0] 3)) = W1 at *
  refine ⟨trivial, (callsIn_wide.2 (spans_any n s W1 (hE.go hu))).mono ?_⟩
  rintro e V ⟨rfl, hbV, hSp⟩
  have hw1 := hb1.size
  have hE3 : 3 ≤ w.heap.size := hE.err.1
  have hVs := hbV.size
  have hI0 : LxI w V (w1.heap.size + 1) none 0 [] (.int .i64 0) V := ⟨(hbV.cell (p := ⟨w1.heap.size + 1, 0, none⟩) (cell_lt c1)).trans c1, (hbV.cell (p := ⟨w1.heap.size + 1 + 1, 0, none⟩) (cell_lt c2)).trans c2, (hbV.frozen (p := ⟨w1.heap.size + 1, 0, none⟩) (cell_lt c1)).trans d1, (hbV.frozen (p := ⟨w1.heap.size + 1 + 1, 0, none⟩) (cell_lt c2)).trans d2, .inl ⟨rfl, rfl⟩, fun a m c e => (by cases e), fun _ => rfl, hu.trans (hbV.mono hu.size), Nat.le_refl _, ⟨by omega, by omega⟩⟩
  have hseq := (seq_spans (by omega) hSp) 8 (by omega)
  generalize hbx : w1.heap.size + 1 = bx at *
  have HBX := Lib.hid hbx
  clear hbx c1 c2 d1 d2 hO
  gi_wp2
  have eg := enters_of Tryz.func81 (by kernel_rfl) rfl
  have hbz : 3 ≤ bx := by have := HBX.out; omega
  refine range_own rfl (by omega) (gf := 81) (lb := #[.pointer (some ⟨W1.heap.size + 1, 0, none⟩), .pointer (some ⟨W1.heap.size, 0, none⟩)]) rfl trivial eg hseq (fun _ => rfl) (fun h k => h.trans k)
    (fun W o o' ho hc => Kept.put W _ o' (Nat.le_refl _) (by omega) ho hc) (fun W W' hs hb => Kept.of hb)
    (fun pre x W W' h hb => h) (fun pre x W l o o' h _ _ _ _ => h)
    (fun pre W => ∃ o c, LxI w V bx o c (pre.map Prod.fst) (.int .i64 (endL 0 pre : Int)) W)
    (fun cd pre W => False)
    (fun pre W W' h hb => by obtain ⟨o, c, h⟩ := h; exact ⟨o, c, h.go hb⟩)
    (fun pre W l o o' h hl hob hc _ => by obtain ⟨o1, c, h⟩ := h; exact ⟨o1, c, h.put hob hc hl⟩)
    (fun cd pre W W' h hb => h.elim) (fun cd pre W l o o' h _ _ _ _ => h.elim)
    ⟨none, 0, hI0⟩
    (fun x W0 => { tmps := #[.int .i64 n, .string (bs s), undef, undef, .slice none 0 0, .int .i64 0, .int .i64 0, .pointer (some ⟨w1.heap.size, 0, none⟩), .bool true, .pointer (some ⟨bx, 0, none⟩), .pointer (some ⟨bx + 1, 0, none⟩), .pointer (some ⟨W0.heap.size, 0, none⟩), .int .i64 (x.2 : Int),
      .tuple #[.agg #[.bool f, .int .u8 m, .int .u8 d, .int .u8 p, .int .u8 op, .int .u8 cl], .bool true], .int .i64 n, .tuple #[.agg #[.bool f, .int .u8 m, .int .u8 d, .int .u8 p, .int .u8 op, .int .u8 cl], .bool true], .agg #[.bool f, .int .u8 m, .int .u8 d, .int .u8 p, .int .u8 op, .int .u8 cl],
      .bool true, .bool true, .bool false, .string (bs s), .int .i64 (s.length : Int), .bool (decide (255 < (s.length : Int))), .int .i64 n, .string (bs s), .func (.func 81) #[] #[.pointer (some ⟨W1.heap.size + 1, 0, none⟩), .pointer (some ⟨W1.heap.size, 0, none⟩)], x.1.v, .int .i64 (x.2 : Int),
      undef, undef, undef, undef, undef, undef, undef, undef, undef, undef, undef, undef], defers := [] })
    (fun x W0 W => TokBox W W0.heap.size x.1) (fun x W0 => TokBox.bears _ _ _) ?assign ?body ?done ?stop
  case assign =>
    rintro l pre ⟨⟨k, q, tx, v⟩, en⟩ W KK hI hG hK
    have HK := hK (W.alloc (.cells #[.int .i64 k, .int .i64 (q : Int), .string (bs tx), .int .i64 v] 71)) ((Below.refl _ _).alloc (Nat.le_refl _) _) (TokBox.new W ⟨k, q, tx, v⟩ _)
    clear hK hI hG
    simp only [encS, Tok.v] at HK ⊢
    gi_wp2
    exact HK
  case body =>
    rintro l pre ⟨⟨k, q, tx, v⟩, en⟩ W0 W hs0 ⟨o, c, hI⟩ hG hR
    have hgl := guard_len hG
    have HP : Hid (endL 0 (pre ++ [((⟨k, q, tx, v⟩ : Tok), en)]) = en) := endL_app _ _ _
    have HM : Hid ((pre ++ [((⟨k, q, tx, v⟩ : Tok), en)]).map Prod.fst = pre.map Prod.fst ++ [⟨k, q, tx, v⟩]) := by show _ = _; rw [List.map_append]; rfl
    have hpl : (pre.map Prod.fst).length ≤ 1000 := by rw [List.length_map]; omega
    clear hG hgl
    generalize pre.map Prod.fst = L at *
    dsimp only at hR
    obtain ⟨y0, y1, y2, y3⟩ := hR.cells
    dsimp only at y0 y1 y2 y3
    have x1 := hI.x1
    obtain ⟨X, o', c', happ, z1, g1, z2, g2, hL2, hkf, hkp⟩ := hI.more hpl ⟨k, q, tx, v⟩
    dsimp only at happ
    obtain ⟨hL3, hkf3, hkp3⟩ := hL2.set (.int .i64 (en : Int))
    have hkf4 := hkf3 _ hkf
    have hkp4 := hkp3 W1.heap.size W (by omega) hbz (hkp _ (by omega) hbz)
    have q2 := hL2.x2
    have qf2 := hL2.f2
    dsimp only [Tok.v]
    gi_wp2_with (first | (gi_at_builtin; refine wpListIn_app rfl _ _ 58 58 rfl happ ?_))
    refine ⟨hkf4, hkp4, o', c', ?_⟩
    rw [HM.out, HP.out]
    exact hL3
  case done =>
    intro xs V' hSx hI hD
    obtain ⟨o, c, hI⟩ := hI
    subst hSx
    have hD2 : V'.drew.heap[V.heap.size]? = some (.deferred (some [])) := hD
    have hI2 := (hI.go (Below.refl _ _).drew).put (ob' := .deferred none) hD2 rfl (Nat.le_refl _)
    have hen := lex_end n s
    have x1 := hI.x1
    have x2 := hI.x2
    have HT : Hid (toks n s = (lexL n 0 s).map Prod.fst) := rfl
    have HA : Hid (lexAt n s = endL 0 (lexL n 0 s)) := by
      show _ = _
      unfold lexAt; rw [if_neg (by rw [hn]; simp; omega)]
    by_cases hlt : endL 0 (lexL n 0 s) < s.length
    · have HE : Hid (lexErr n s = 14) := by
        show _ = _
        unfold lexErr; rw [if_neg (by rw [hn]; simp), if_neg (by omega), if_pos hlt]
      have HL : Hid (lexToks n s = []) := by
        show _ = _
        unfold lexToks; rw [HE.out]; rfl
      have hlti : ((endL 0 (lexL n 0 s) : Nat) : Int) < s.length := by omega
      have hF : LexEnd n s w (.returned (.tuple #[.slice none 0 0, .int .i64 (endL 0 (lexL n 0 s) : Int), .int .i64 14])) (V'.drew.putObj V.heap.size (.deferred none)) := by
        refine ⟨⟨none, 0, ?_, ?_, ?_⟩, hI2.below⟩
        · rw [HL.out, HA.out, HE.out]; rfl
        · rw [HL.out]; exact .inl ⟨rfl, rfl⟩
        · intro a m c e; cases e
      have HF := Lib.hid hF
      clear hF HA HE HL HT hI0 hI hI2 hseq eg
      generalize endL 0 (lexL n 0 s) = en at *
      gi_wp2
      refine wpIn_calm ?_
      gi_region_with (fail)
      all_goals
        gi_wp2
        refine ⟨by simp, .inl ⟨_, _, rfl, run_takeDeferred hD2, ?_⟩⟩
        exact ⟨.tuple #[.slice none 0 0, .int .i64 (en : Int), .int .i64 14], by simp [results, Tryz.f29, go_sem], HF.out⟩
    · have HE : Hid (lexErr n s = 0) := by
        show _ = _
        unfold lexErr; rw [if_neg (by rw [hn]; simp), if_neg (by omega), if_neg hlt]
      have HL : Hid (lexToks n s = (lexL n 0 s).map Prod.fst) := by
        show _ = _
        unfold lexToks; rw [HE.out]; rfl
      have hlti : ¬ ((endL 0 (lexL n 0 s) : Nat) : Int) < s.length := by omega
      have hF : LexEnd n s w (.returned (.tuple #[.slice o ((lexL n 0 s).map Prod.fst).length c, .int .i64 (endL 0 (lexL n 0 s) : Int), .int .i64 0])) (V'.drew.putObj V.heap.size (.deferred none)) := by
        refine ⟨⟨o, c, ?_, ?_, ?_⟩, hI2.below⟩
        · rw [HL.out, HA.out, HE.out]
        · rw [HL.out]; exact hI2.at_
        · rw [HL.out]; exact hI2.above.mono (by have := hI2.lo; omega)
      have HF := Lib.hid hF
      clear hF HA HE HL HT hI0 hI hI2 hseq eg
      generalize ((lexL n 0 s).map Prod.fst).length = ll at *
      generalize endL 0 (lexL n 0 s) = en at *
      gi_wp2
      refine wpIn_calm ?_
      gi_region_with (fail)
      all_goals
        gi_wp2
        refine ⟨by simp, .inl ⟨_, _, rfl, run_takeDeferred hD2, ?_⟩⟩
        exact ⟨.tuple #[.slice o ll c, .int .i64 (en : Int), .int .i64 0], by simp [results, Tryz.f29, go_sem], HF.out⟩
  case stop =>
    intro cd pre V' _ h _
    exact h.elim

theorem lex_any (n : Int) (s : List UInt8) (w : World) (hE : Env w) (hl : s.length ≤ 1000) : Calls Tryz.prog 29 #[.int .i64 n, .string (bs s)] w (LexEnd n s w) := by
  cases hn : isN n with
  | false => exact lex_none n s w hE hn
  | true =>
    by_cases h : 255 < s.length
    · exact lex_long n s w hE hn h hl
    · exact callsIn_wide.1 (lex_in n s w hE hn (by omega))

end Go.Proofs.YthofogokpolhdaaGreatDoor.Toks

namespace Go.Proofs.YthofogokpolhdaaGreatDoor.Toks
open Go.RowKit
open Go.Proofs.YthofogokpolhdaaGreatDoor.Style
set_option linter.unusedVariables false
set_option linter.unusedSimpArgs false

theorem ex_one : lexErr 1 [109, 109, 111, 108, 47, 108, 123, 120, 32, 121, 125] = 0 ∧ lexAt 1 [109, 109, 111, 108, 47, 108, 123, 120, 32, 121, 125] = 11 ∧ lexToks 1 [109, 109, 111, 108, 47, 108, 123, 120, 32, 121, 125] = [⟨1, 0, [109, 109, 111, 108], 0⟩, ⟨5, 4, [47], 0⟩, ⟨1, 5, [108], 0⟩, ⟨9, 6, [120, 32, 121], 0⟩] := by decide +kernel
theorem ex_two : lexErr 1 [109, 32] = 14 ∧ lexAt 1 [109, 32] = 1 ∧ lexToks 1 [109, 32] = [] := by decide +kernel

end Go.Proofs.YthofogokpolhdaaGreatDoor.Toks

