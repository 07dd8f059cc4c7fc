/-
  Contract of package parse's found. A map of texts to what they are as symbols: what a look tells, what a store keeps. Contract of package parse's name.
-/
import Derived.Test.YthofogokpolhdaaGreatDoorRQX
import Derived.Test.YthofogokpolhdaaGreatDoorSCX
import Derived.StringKeys
import Derived.Test.YthofogokpolhdaaGreatDoorUT
import Derived.Deep.RegionHeld3
import Derived.Carry
namespace Go.Proofs.YthofogokpolhdaaGreatDoor.Parses
open Go.RowKit Go.Shelf
open Go.Proofs.YthofogokpolhdaaGreatDoor.Syms (symZ sfind_v)
open Go.Proofs.YthofogokpolhdaaGreatDoor.Trees (Stp StepsAt cellS StAt elem_step cell_oneS)
open Go.Proofs.YthofogokpolhdaaGreatDoor.Toks (Tok ToksAt cellK cell_lt cell_same SliceAt Above Grid Spare Elem elem_of append_any both wpList_app)
open Go.Proofs.YthofogokpolhdaaGreatDoor.Style (bs bs_size bs_at getD_at bs_of)
set_option linter.unusedVariables false
set_option linter.unusedSimpArgs false
attribute [local irreducible] symZ

/-- What a symbol is, or a panic. -/
def FoundEnd (k : Nat) (x : Tok) (w : World) (e : Ending) (w' : World) : Prop :=
  (if (symZ k x.text).2 = -1 then e = .panicked [{ v := refV 15 (x.pos : Int) (x.text.length : Int), recovered := false }] else e = .returned (.agg #[.int .i64 (symZ k x.text).2, .int .i64 (symZ k x.text).1])) ∧ Below w.heap.size w w'

set_option maxRecDepth 100000 in
set_option maxHeartbeats 2000000 in
theorem found_v (n : Int) (k : Nat) (x : Tok) (hk : n = (k : Int) + 1) (hk5 : k < 5) (w : World) (hs : x.text.length ≤ 1000) :
    Calls Tryz.prog 85 #[.int .i64 n, x.v] w (FoundEnd k x w) := by
  obtain ⟨kd, ps, tx, nm⟩ := x
  unfold FoundEnd Tok.v
  dsimp only at hs ⊢
  obtain ⟨a, b, hR⟩ : ∃ a b, symZ k tx = (a, b) := ⟨_, _, rfl⟩
  rw [hR]
  dsimp only
  have hF := fun W ok hok => sfind_v n k tx hk hk5 W hs a b ok hR hok
  have hz : ((bs tx).size : Int) = tx.length := by rw [bs_size]
  have hzn : (bs tx).size = tx.length := bs_size tx
  have hu : Below w.heap.size w ((w.alloc (.cells #[.int .i64 kd, .int .i64 (ps : Int), .string (bs tx), .int .i64 nm] 71)).alloc (.cells #[.int .i64 0, .int .i64 0] 147)) := by go_grown
  have x1 : ((w.alloc (.cells #[.int .i64 kd, .int .i64 (ps : Int), .string (bs tx), .int .i64 nm] 71)).alloc (.cells #[.int .i64 0, .int .i64 0] 147)).cell? ⟨w.heap.size, 1, none⟩ = some (.int .i64 (ps : Int)) := by simp [go_sem]
  have x2 : ((w.alloc (.cells #[.int .i64 kd, .int .i64 (ps : Int), .string (bs tx), .int .i64 nm] 71)).alloc (.cells #[.int .i64 0, .int .i64 0] 147)).cell? ⟨w.heap.size, 2, none⟩ = some (.string (bs tx)) := by simp [go_sem]
  have y0 : ((w.alloc (.cells #[.int .i64 kd, .int .i64 (ps : Int), .string (bs tx), .int .i64 nm] 71)).alloc (.cells #[.int .i64 0, .int .i64 0] 147)).cell? ⟨w.heap.size + 1, 0, none⟩ = some (.int .i64 0) := by simp [go_sem]
  have y1 : ((w.alloc (.cells #[.int .i64 kd, .int .i64 (ps : Int), .string (bs tx), .int .i64 nm] 71)).alloc (.cells #[.int .i64 0, .int .i64 0] 147)).cell? ⟨w.heap.size + 1, 1, none⟩ = some (.int .i64 0) := by simp [go_sem]
  have f0 : ∀ j, ((w.alloc (.cells #[.int .i64 kd, .int .i64 (ps : Int), .string (bs tx), .int .i64 nm] 71)).alloc (.cells #[.int .i64 0, .int .i64 0] 147)).frozen? ⟨w.heap.size + 1, j, none⟩ = false := fun j => by simp [go_sem]
  clear hk hR
  go_enter Tryz.func85, Tryz.ntmps85
  go_wp2_with fail
  generalize (w.alloc (.cells #[.int .i64 kd, .int .i64 (ps : Int), .string (bs tx), .int .i64 nm] 71)).alloc (.cells #[.int .i64 0, .int .i64 0] 147) = W0 at *
  by_cases hb : b = -1
  · have hF2 := hF W0 false (by rw [hb]; rfl)
    have HB := Lib.hid hb
    clear hF hb
    refine hF2.mono ?_
    rintro e w2 ⟨rfl, hb2⟩
    have z1 := (hb2.cell (p := ⟨w.heap.size, 1, none⟩) (cell_lt x1)).trans x1
    have z2 := (hb2.cell (p := ⟨w.heap.size, 2, none⟩) (cell_lt x2)).trans x2
    have HU := Lib.hid (hu.trans (hb2.mono hu.size))
    clear hF2 x1 x2 hb2 hu y0 y1 f0
    go_wp2_with fail
    refine ⟨rfl, ?_, HU.out⟩
    rfl
  · have hF2 := hF W0 true (decide_eq_true hb)
    have HB := Lib.hid hb
    clear hF hb
    refine hF2.mono ?_
    rintro e w2 ⟨rfl, hb2⟩
    have z0 := (hb2.cell (p := ⟨w.heap.size + 1, 0, none⟩) (cell_lt y0)).trans y0
    have z1 := (hb2.cell (p := ⟨w.heap.size + 1, 1, none⟩) (cell_lt y0)).trans y1
    have g0 := (hb2.frozen (p := ⟨w.heap.size + 1, 0, none⟩) (cell_lt y0)).trans (f0 0)
    have g1 := (hb2.frozen (p := ⟨w.heap.size + 1, 1, none⟩) (cell_lt y0)).trans (f0 1)
    have hUU := ((hu.trans (hb2.mono hu.size)).setCell (p := ⟨w.heap.size + 1, 0, none⟩) (show w.heap.size ≤ w.heap.size + 1 by omega) (.int .i64 b)).setCell (p := ⟨w.heap.size + 1, 1, none⟩) (show w.heap.size ≤ w.heap.size + 1 by omega) (.int .i64 a)
    have HU := Lib.hid hUU
    have v0 : ((w2.setCell ⟨w.heap.size + 1, 0, none⟩ (.int .i64 b)).setCell ⟨w.heap.size + 1, 1, none⟩ (.int .i64 a)).cell? ⟨w.heap.size + 1, 0, none⟩ = some (.int .i64 b) := by simp [go_sem, z0, z1]
    have v1 : ((w2.setCell ⟨w.heap.size + 1, 0, none⟩ (.int .i64 b)).setCell ⟨w.heap.size + 1, 1, none⟩ (.int .i64 a)).cell? ⟨w.heap.size + 1, 1, none⟩ = some (.int .i64 a) := by simp [go_sem, z0, z1]
    have HV := Lib.hid (And.intro v0 v1)
    clear hF2 x1 x2 hb2 hu y0 y1 f0 hUU v0 v1
    go_wp2_with fail
    obtain ⟨v0, v1⟩ := HV.out
    refine bodyPost_ret (v := .agg #[.int .i64 b, .int .i64 a]) (by simp [results, Tryz.results85, go_sem, v0, v1]) rfl ⟨rfl, HU.out⟩

end Go.Proofs.YthofogokpolhdaaGreatDoor.Parses

namespace Go.Proofs.YthofogokpolhdaaGreatDoor.Parses
open Go.RowKit Go.Shelf Go.MapKept
open Go.Proofs.YthofogokpolhdaaGreatDoor.Syms (symZ sfind_v)
open Go.Proofs.YthofogokpolhdaaGreatDoor.Style (bs bs_size bs_at getD_at bs_of)
set_option linter.unusedVariables false
set_option linter.unusedSimpArgs false
attribute [local irreducible] symZ

def termV (k : Nat) (t : ByteArray) : Value := .agg #[.int .i64 (symZ k t.data.toList).2, .int .i64 (symZ k t.data.toList).1]
/-- The block M holds a map whose every entry tells what its text is. -/
def Known (w : World) (M k : Nat) : Prop :=
  ∃ es clock, w.heap[M]? = some (.map es clock) ∧ ∀ e ∈ es.toList, ∃ t, e.key = .string t ∧ e.val = termV k t ∧ (symZ k t.data.toList).2 ≠ -1
theorem Known.lt {w : World} {M k : Nat} (h : Known w M k) : M < w.heap.size := by
  obtain ⟨es, clock, h1, h2⟩ := h
  exact (Array.getElem?_eq_some_iff.1 h1).1
theorem Known.block {w w' : World} {M k : Nat} (h : Known w M k) (hb : w'.heap[M]? = w.heap[M]?) : Known w' M k := by
  obtain ⟨es, clock, h1, h2⟩ := h
  exact ⟨es, clock, hb.trans h1, h2⟩
theorem Known.new (w : World) (k : Nat) : Known (w.alloc (.map #[] 0)) w.heap.size k :=
  ⟨#[], 0, World.alloc_heap_new w _, fun e he => by simp at he⟩
theorem u_map : Tryz.prog.underlying 145 = some (.map 9 147) := by kernel_rfl
theorem u_str : Tryz.prog.underlying 9 = some .string := by kernel_rfl
theorem Known.look {w : World} {M k : Nat} (h : Known w M k) (t : ByteArray) :
    ((Instr.lookup 145 (.map (some M)) (.string t) true).run Tryz.prog w = .ok (.tuple #[termV k t, .bool true]) w ∧ (symZ k t.data.toList).2 ≠ -1) ∨
    (Instr.lookup 145 (.map (some M)) (.string t) true).run Tryz.prog w = .ok (.tuple #[.agg #[.int .i64 0, .int .i64 0], .bool false]) w := by
  obtain ⟨es, clock, h1, h2⟩ := h
  have hg : (getObj M).run Tryz.prog w = .ok (.map es clock) w := by simp [getObj, Sem.run, h1]
  have hz : (zeroValue 147).run Tryz.prog w = .ok (.agg #[.int .i64 0, .int .i64 0]) w := by kernel_rfl
  have hc : (Instr.checkKey es.isEmpty 10000 9 (.string t)).run Tryz.prog w = .ok () w := run_checkKey u_str (d := .string) (k := .string t) trivial _ 9999
  have hks : ∀ x ∈ es.toList, IsKey .string x.key := fun x hx => by
    obtain ⟨s, e, _⟩ := h2 x hx
    rw [e]; trivial
  rcases findNow_spec (d := .string) (k := .string t) trivial es.toList 0 hks with ⟨q1, q2⟩ | ⟨j, e, q1, q2, q3⟩
  · refine .inr ?_
    simp only [Instr.lookup, Sem.run_bind, run_underlying u_map, Result.andThen_ok, hg, Sem.run_pure, hc, run_findKey u_str q1, hz]
    rfl
  · have hm : e ∈ es.toList := List.mem_of_getElem? q2
    obtain ⟨s, e1, e2, e3⟩ := h2 e hm
    have hs : s = t := by rw [e1] at q3; exact Value.string.inj q3
    subst hs
    refine .inl ⟨?_, e3⟩
    simp only [Instr.lookup, Sem.run_bind, run_underlying u_map, Result.andThen_ok, hg, Sem.run_pure, hc, run_findKey u_str q1, e2]
    rfl
theorem Known.store {w : World} {M k : Nat} (h : Known w M k) (t : ByteArray) (ht : (symZ k t.data.toList).2 ≠ -1) :
    ∃ o, (Instr.mapUpdate 145 (.map (some M)) (.string t) (termV k t)).run Tryz.prog w = .ok () (w.putObj M o) ∧ Known (w.putObj M o) M k := by
  have hlt := h.lt
  obtain ⟨es, clock, h1, h2⟩ := h
  have hg : (getObj M).run Tryz.prog w = .ok (.map es clock) w := by simp [getObj, Sem.run, h1]
  have hc : (Instr.checkKey false 10000 9 (.string t)).run Tryz.prog w = .ok () w := run_checkKey u_str (d := .string) (k := .string t) trivial _ 9999
  have hks : ∀ x ∈ es.toList, IsKey .string x.key := fun x hx => by
    obtain ⟨s, e, _⟩ := h2 x hx
    rw [e]; trivial
  rcases findNow_spec (d := .string) (k := .string t) trivial es.toList 0 hks with ⟨q1, q2⟩ | ⟨j, e, q1, q2, q3⟩
  · refine ⟨.map (es.push { key := .string t, val := termV k t, born := clock }) (clock + 1), ?_, _, _, World.putObj_heap_same hlt, ?_⟩
    · simp only [Instr.mapUpdate, Sem.run_bind, run_underlying u_map, Result.andThen_ok, hg, Sem.run_pure, hc, run_findKey u_str q1]
      simp [setObj, Sem.run, h1, World.putObj]
    · intro e he
      simp only [Array.toList_push, List.mem_append, List.mem_singleton] at he
      rcases he with he | rfl
      · exact h2 e he
      · exact ⟨t, rfl, rfl, ht⟩
  · have hkk : ((es[0 + j]?).map (·.key)).getD (.string t) = .string t := by
      rw [Nat.zero_add, ← Array.getElem?_toList, q2]
      simp [q3]
    have hst : (Instr.keyThatStays (.string t) (.string t)).run Tryz.prog w = .ok (.string t) w := run_keyThatStays (d := .string) (k := .string t) trivial
    refine ⟨.map (es.modify (0 + j) fun e => { e with key := .string t, val := termV k t }) clock, ?_, _, _, World.putObj_heap_same hlt, ?_⟩
    · simp only [Instr.mapUpdate, Sem.run_bind, run_underlying u_map, Result.andThen_ok, hg, Sem.run_pure, hc, run_findKey u_str q1, hkk, hst]
      simp [setObj, Sem.run, h1, World.putObj]
    · intro e' he
      rw [Array.toList_modify] at he
      obtain ⟨i, hi⟩ := List.mem_iff_getElem?.1 he
      rw [List.getElem?_modify] at hi
      cases hE : es.toList[i]? with
      | none => rw [hE] at hi; simp at hi
      | some x =>
        rw [hE] at hi
        have hx := h2 x (List.mem_of_getElem? hE)
        have hi' : (if 0 + j = i then { x with key := .string t, val := termV k t } else x) = e' := by
          have := Option.some.inj hi
          split at this <;> simp_all
        clear hi
        split at hi'
        · subst hi'; exact ⟨t, rfl, rfl, ht⟩
        · subst hi'; exact hx

end Go.Proofs.YthofogokpolhdaaGreatDoor.Parses

namespace Go.Proofs.YthofogokpolhdaaGreatDoor.Parses
open Go.RowKit Go.Shelf
open Go.Proofs.YthofogokpolhdaaGreatDoor.Syms (symZ sfind_v)
open Go.Proofs.YthofogokpolhdaaGreatDoor.Trees (Stp StepsAt cellS StAt elem_step cell_oneS But)
open Go.Proofs.YthofogokpolhdaaGreatDoor.Toks (Tok ToksAt cellK cell_lt cell_same SliceAt Above Grid Spare Elem elem_of append_any both wpList_app)
open Go.Proofs.YthofogokpolhdaaGreatDoor.Style (bs bs_size bs_at getD_at bs_of)
set_option linter.unusedVariables false
set_option linter.unusedSimpArgs false
attribute [local irreducible] symZ

def tokOf (L : List Tok) (x : Stp) : Tok := L.getD x.atom.toNat default
def badS (k : Nat) (L : List Tok) (x : Stp) : Bool := x.op == 2 && (symZ k (tokOf L x).text).2 == -1
def nameS (k : Nat) (L : List Tok) (x : Stp) : Stp := if x.op = 2 then { x with pf := (symZ k (tokOf L x).text).1, atom := (symZ k (tokOf L x).text).2 } else x
def mixS (k : Nat) (L : List Tok) (T : List Stp) (i : Nat) : List Stp := (T.take i).map (nameS k L) ++ T.drop i
theorem mix_len (k : Nat) (L : List Tok) (T : List Stp) (i : Nat) : (mixS k L T i).length = T.length := by
  unfold mixS; rw [List.length_append, List.length_map, List.length_take, List.length_drop]; omega
theorem mix_at (k : Nat) (L : List Tok) (T : List Stp) (i j : Nat) : (mixS k L T i).getD j default = if j < i ∧ j < T.length then nameS k L (T.getD j default) else T.getD j default := by
  unfold mixS
  rw [List.getD_eq_getElem?_getD, List.getD_eq_getElem?_getD, List.getElem?_append, List.length_map, List.length_take]
  by_cases h : j < min i T.length
  · rw [if_pos h, if_pos (by omega), List.getElem?_map, List.getElem?_take_of_lt (by omega), List.getElem?_eq_getElem (by omega)]; rfl
  · rw [if_neg h, if_neg (by omega), List.getElem?_drop]
    by_cases h2 : j < T.length
    · congr 2; omega
    · rw [List.getElem?_eq_none (by omega), List.getElem?_eq_none (by omega)]
theorem mix_zero (k : Nat) (L : List Tok) (T : List Stp) : mixS k L T 0 = T := by simp [mixS]
theorem mix_all (k : Nat) (L : List Tok) (T : List Stp) : mixS k L T T.length = T.map (nameS k L) := by simp [mixS]

theorem cut_at {T : List Stp} {i : Nat} (h : i < T.length) : T = T.take i ++ T.getD i default :: T.drop (i + 1) := by
  rw [List.getD_eq_getElem?_getD, List.getElem?_eq_getElem h, Option.getD_some, ← List.drop_eq_getElem_cons h, List.take_append_drop]
theorem take_at {T : List Stp} {i : Nat} (h : i < T.length) : T.take (i + 1) = T.take i ++ [T.getD i default] := by
  rw [List.take_add_one, List.getElem?_eq_getElem h, List.getD_eq_getElem?_getD, List.getElem?_eq_getElem h]; rfl
theorem mix_step (k : Nat) (L : List Tok) (T : List Stp) (i : Nat) (h : i < T.length) : ∃ A, mixS k L T i = A ++ T.getD i default :: T.drop (i + 1) ∧ mixS k L T (i + 1) = A ++ nameS k L (T.getD i default) :: T.drop (i + 1) ∧ A.length = i := by
  refine ⟨(T.take i).map (nameS k L), ?_, ?_, ?_⟩
  · unfold mixS
    congr 1
    rw [List.getD_eq_getElem?_getD, List.getElem?_eq_getElem h, Option.getD_some, ← List.drop_eq_getElem_cons h]
  · unfold mixS
    rw [take_at h, List.map_append, List.append_assoc]; rfl
  · rw [List.length_map, List.length_take]; omega
theorem fine_next {k : Nat} {L : List Tok} {T : List Stp} {i : Nat} (h : i < T.length) (hF : ∀ x ∈ T.take i, badS k L x = false) (hx : badS k L (T.getD i default) = false) : ∀ x ∈ T.take (i + 1), badS k L x = false := by
  rw [take_at h]
  intro x hm
  rw [List.mem_append, List.mem_singleton] at hm
  rcases hm with hm | rfl
  · exact hF x hm
  · exact hx
theorem find_none {k : Nat} {L : List Tok} {T : List Stp} (hF : ∀ x ∈ T.take T.length, badS k L x = false) : T.find? (badS k L) = none := by
  rw [List.take_length] at hF
  rw [List.find?_eq_none]
  intro x hm; rw [hF x hm]; simp
theorem find_some {k : Nat} {L : List Tok} {T : List Stp} {i : Nat} (h : i < T.length) (hF : ∀ x ∈ T.take i, badS k L x = false) (hx : badS k L (T.getD i default) = true) : T.find? (badS k L) = some (T.getD i default) := by
  have hn : (T.take i).find? (badS k L) = none := by
    rw [List.find?_eq_none]
    intro x hm; rw [hF x hm]; simp
  have e := congrArg (List.find? (badS k L)) (cut_at h)
  rw [List.find?_append, hn, List.find?_cons, hx] at e
  exact e

/-- How name ends. -/
def NameEnd (k : Nat) (L : List Tok) (T : List Stp) (tv : Value) (bt : Nat) (w : World) (e : Ending) (w' : World) : Prop :=
  But bt w w' ∧ match T.find? (badS k L) with
    | none => e = .returned (.tuple #[]) ∧ StepsAt w' tv (T.map (nameS k L))
    | some x => e = .panicked [{ v := refV 15 ((tokOf L x).pos : Int) ((tokOf L x).text.length : Int), recovered := false }]

/-- What name's rounds keep. -/
structure NmI (w : World) (tv lv : Value) (bt M k : Nat) (L : List Tok) (l : List Stp) (W : World) : Prop where
  but : But bt w W
  steps : StepsAt W tv l
  map : Known W M k
  toks : ToksAt W lv L
theorem NmI.go {w : World} {tv lv : Value} {bt M k : Nat} {L : List Tok} {l : List Stp} {W W' : World} (h : NmI w tv lv bt M k L l W) (hb : Below W.heap.size W W') : NmI w tv lv bt M k L l W' :=
  ⟨h.but.trans (But.of hb), h.steps.go hb, h.map.block (hb.block M h.map.lt), h.toks.go hb⟩

theorem NmI.next {w : World} {lv : Value} {b c M k i : Nat} {L : List Tok} {T : List Stp} {W : World} (h : NmI w (.slice (some ⟨b, 0, none⟩) T.length c) lv b M k L (mixS k L T i) W) (hi : i < T.length) (hbM : b < M)
    (hbl : ∀ a n c, lv = .slice (some a) n c → a.block ≠ b) (x : Stp) (hx : T.getD i default = x) (hop : x.op = 2) (q : Tok) (hq : tokOf L x = q) (A B : Int) (hAB : symZ k q.text = (A, B)) :
    NmI w (.slice (some ⟨b, 0, none⟩) T.length c) lv b M k L (mixS k L T (i + 1)) ((W.setCell ⟨b, i * 6 + 1, none⟩ (.int .i64 A)).setCell ⟨b, i * 6 + 2, none⟩ (.int .i64 B)) := by
  have ho : Toks.Only b W ((W.setCell ⟨b, i * 6 + 1, none⟩ (.int .i64 A)).setCell ⟨b, i * 6 + 2, none⟩ (.int .i64 B)) := ((Toks.Only.refl b W).set _ _).set _ _
  have hN : nameS k L x = { x with pf := A, atom := B } := by unfold nameS; rw [if_pos hop, hq, hAB]
  refine ⟨h.but.trans (But.only ho), ?_, h.map.block (ho.block M (by omega)), ?_⟩
  · rcases h.steps with ⟨h0, h1⟩ | ⟨b', c', e1, hc, hsp, hg⟩
    · cases h1
    · rw [mix_len] at e1 hc hg
      injection e1 with e1 e2 e3
      injection e1 with e1
      injection e1 with e1
      subst e1 e3
      refine .inr ⟨b, c, by rw [mix_len], by rw [mix_len]; exact hc, (hsp.set _ _ _).set _ _ _, ?_⟩
      rw [mix_len]
      refine ⟨fun i' hi' j hj => ?_, fun j => ?_, ?_⟩
      · have g := hg.1 i' hi' j hj
        have gx := hg.1 i hi
        by_cases h2 : i' * 6 + j = i * 6 + 2
        · have e1 : i' = i := by omega
          have e2 : j = 2 := by omega
          subst e1 e2
          rw [World.cell?_setCell_same _ _ _ (by rw [World.cell?_setCell_other _ _ _ _ (by intro hh; injection hh with q1 q2; omega)]; exact gx 2 (by omega))]
          unfold cellS
          rw [mix_at, if_pos ⟨by omega, hi⟩, hx, hN]; rfl
        · rw [World.cell?_setCell_other _ _ _ _ (by intro hh; injection hh with q1 q2; exact h2 q2.symm)]
          by_cases h1 : i' * 6 + j = i * 6 + 1
          · have e1 : i' = i := by omega
            have e2 : j = 1 := by omega
            subst e1 e2
            rw [World.cell?_setCell_same _ _ _ (gx 1 (by omega))]
            unfold cellS
            rw [mix_at, if_pos ⟨by omega, hi⟩, hx, hN]; rfl
          · rw [World.cell?_setCell_other _ _ _ _ (by intro hh; injection hh with q1 q2; exact h1 q2.symm), g]
            congr 1
            unfold cellS
            rw [mix_at, mix_at]
            by_cases h3 : i' = i
            · subst h3
              rw [if_neg (by omega), if_pos ⟨by omega, hi⟩, hx, hN]
              match j, hj with
              | 0, _ => rfl
              | 1, _ => exact absurd rfl h1
              | 2, _ => exact absurd rfl h2
              | 3, _ => rfl
              | 4, _ => rfl
              | 5, _ => rfl
            · by_cases h4 : i' < i
              · rw [if_pos ⟨h4, hi'⟩, if_pos ⟨by omega, hi'⟩]
              · rw [if_neg (by omega), if_neg (by omega)]
      · rw [World.frozen?_setCell, World.frozen?_setCell]; exact hg.2.1 j
      · rw [World.size_setCell, World.size_setCell]; exact hg.2.2
  · rcases h.toks with h' | ⟨bl, cl, e1, hc, hsp, hg⟩
    · exact .inl h'
    · have hb := ho.block bl (hbl _ _ _ e1)
      exact .inr ⟨bl, cl, e1, hc, hsp.block hb, hg.block (Nat.le_of_eq ho.size.symm) hb⟩

theorem row_at {w : World} {lv : Value} {b c M k i : Nat} {L : List Tok} {T : List Stp} {W : World} (h : NmI w (.slice (some ⟨b, 0, none⟩) T.length c) lv b M k L (mixS k L T i) W) (hi : i < T.length) :
    (W.cell? ⟨b, i * 6 + 1, none⟩).isSome = true ∧ (W.cell? ⟨b, i * 6 + 2, none⟩).isSome = true ∧ ∀ j, W.frozen? ⟨b, j, none⟩ = false := by
  rcases h.steps with ⟨h0, h1⟩ | ⟨b', c', e1, hc, hsp, hg⟩
  · cases h1
  · rw [mix_len] at e1 hc hg
    injection e1 with e1 e2 e3
    injection e1 with e1
    injection e1 with e1
    subst e1
    exact ⟨by rw [hg.1 i hi 1 (by omega)]; rfl, by rw [hg.1 i hi 2 (by omega)]; rfl, hg.2.1⟩

theorem NmI.put {w : World} {tv lv : Value} {b k : Nat} {L : List Tok} {l : List Stp} {W : World} (h : NmI w tv lv b w.heap.size k L l W) (hbt : ∀ a n c, tv = .slice (some a) n c → a.block < w.heap.size)
    (hbl : ∀ a n c, lv = .slice (some a) n c → a.block < w.heap.size) (o : Obj) (hK : Known (W.putObj w.heap.size o) w.heap.size k) : NmI w tv lv b w.heap.size k L l (W.putObj w.heap.size o) := by
  have hz : (W.putObj w.heap.size o).heap.size = W.heap.size := World.putObj_size
  refine ⟨⟨h.but.os, h.but.tape, h.but.output, by rw [hz]; exact h.but.size, fun j hj hn => (World.putObj_heap_other (by omega)).trans (h.but.block j hj hn)⟩, ?_, hK, ?_⟩
  · rcases h.steps with h' | ⟨bl, cl, e1, hc, hsp, hg⟩
    · exact .inl h'
    · have := hbt _ _ _ e1
      dsimp only at this
      have hb : (W.putObj w.heap.size o).heap[bl]? = W.heap[bl]? := World.putObj_heap_other (by omega)
      exact .inr ⟨bl, cl, e1, hc, hsp.block hb, hg.block (Nat.le_of_eq hz.symm) hb⟩
  · rcases h.toks with h' | ⟨bl, cl, e1, hc, hsp, hg⟩
    · exact .inl h'
    · have := hbl _ _ _ e1
      dsimp only at this
      have hb : (W.putObj w.heap.size o).heap[bl]? = W.heap[bl]? := World.putObj_heap_other (by omega)
      exact .inr ⟨bl, cl, e1, hc, hsp.block hb, hg.block (Nat.le_of_eq hz.symm) hb⟩

set_option maxRecDepth 100000 in
set_option maxHeartbeats 4000000 in
theorem name_v (n : Int) (k : Nat) (tv lv : Value) (bt : Nat) (T : List Stp) (L : List Tok) (w : World) (hk : n = (k : Int) + 1) (hk5 : k < 5) (hT : StepsAt w tv T) (hL : ToksAt w lv L)
    (hbt : ∀ a n c, tv = .slice (some a) n c → a.block = bt) (hbl : ∀ a n c, lv = .slice (some a) n c → a.block ≠ bt) (hbw : bt < w.heap.size)
    (hat : ∀ x ∈ T, x.op = 2 → 0 ≤ x.atom ∧ x.atom < L.length) (hs : ∀ x ∈ L, x.text.length ≤ 1000) (hlen : T.length ≤ 1000000) :
    Calls Tryz.prog 50 #[.int .i64 n, tv, lv] w (NameEnd k L T tv bt w) := by
  subst hk
  obtain ⟨ot, ct, rfl⟩ := SliceAt.slice hT
  obtain ⟨ol, cl, rfl⟩ := SliceAt.slice hL
  have hI : NmI w (.slice ot T.length ct) (.slice ol L.length cl) bt w.heap.size k L (mixS k L T 0) (w.alloc (.map #[] 0)) := by
    have hb := alloc_own w (.map #[] 0)
    exact ⟨But.of hb, by rw [mix_zero]; exact SliceAt.go hT hb, Known.new w k, SliceAt.go hL hb⟩
  have HF : Hid (∀ x ∈ T.take 0, badS k L x = false) := Lib.hid (by simp)
  have HAT := Lib.hid hat
  have HS := Lib.hid hs
  have HBT := Lib.hid hbt
  have HBL := Lib.hid hbl
  have HBL2 : Hid (∀ a n c, (.slice ol L.length cl : Value) = .slice (some a) n c → a.block < w.heap.size) := Lib.hid (fun a n c e => by
    rcases hL with ⟨_, h1⟩ | ⟨b', c', e1, _, _, hg⟩
    · rw [h1] at e; cases e
    · rw [e1] at e; injection e with e; injection e with e; subst e; exact hg.2.2)
  clear hT hL hat hs hbt hbl
  have hmm := @run_makeMap Tryz.prog
  go_enter Tryz.func50, Tryz.ntmps50
  go_wp2_with fail
  clear hmm
  go_loopw [14] (fun x wr => ∃ i : Nat, x = .int .i64 (i : Int) ∧ i ≤ T.length ∧ Hid (∀ x ∈ T.take i, badS k L x = false) ∧ NmI w (.slice ot T.length ct) (.slice ol L.length cl) bt w.heap.size k L (mixS k L T i) wr) (fun x _ => ((T.length : Int) - intOf x).toNat)
  case atStart => exact ⟨0, rfl, by omega, HF, hI⟩
  case round =>
    clear hI HF
    obtain ⟨i, rfl, hil, HF, hI⟩ := hrel
    by_cases hlt : i < T.length
    · have hii : (i : Int) < T.length := by omega
      obtain ⟨x, hx⟩ : ∃ x, T.getD i default = x := ⟨_, rfl⟩
      have hmem : x ∈ T := by rw [← hx, List.getD_eq_getElem?_getD, List.getElem?_eq_getElem hlt]; exact List.getElem_mem _
      rcases hI.steps with ⟨h0, _⟩ | ⟨b, c, e1, hc, hsp, hg⟩
      · rw [mix_len] at h0; omega
      rw [mix_len] at e1 hc hg
      injection e1 with e1 e2 e3
      subst e1 e3
      obtain rfl : b = bt := HBT.out _ _ _ rfl
      have g := hg.1 i hlt
      have hcell : ∀ j, cellS (mixS k L T i) i j = x.cs[j]?.getD undef := fun j => by unfold cellS; rw [mix_at, if_neg (by omega), hx]
      have x0 : wr.cell? ⟨b, i * 6, none⟩ = some (.int .i64 x.op) := (g 0 (by omega)).trans (by rw [hcell]; rfl)
      have x1 : wr.cell? ⟨b, i * 6 + 1, none⟩ = some (.int .i64 x.pf) := (g 1 (by omega)).trans (by rw [hcell]; rfl)
      have x2 : wr.cell? ⟨b, i * 6 + 2, none⟩ = some (.int .i64 x.atom) := (g 2 (by omega)).trans (by rw [hcell]; rfl)
      clear g hcell
      by_cases hop : x.op = 2
      · obtain ⟨xo, xp, xa, xn, xm, xt⟩ := x
        dsimp only at x0 x1 x2 hop
        subst hop
        obtain ⟨ha0, ha1⟩ := HAT.out _ hmem rfl
        dsimp only at ha0 ha1
        obtain ⟨a, rfl⟩ := Int.eq_ofNat_of_zero_le ha0
        have haL : a < L.length := by omega
        rcases hI.toks with ⟨h0, _⟩ | ⟨bl, cl2, e1, hcl, hspl, hgl⟩
        · omega
        injection e1 with e1 e2 e3
        subst e1 e3
        have hne : bl ≠ b := HBL.out _ _ _ rfl
        have g := hgl.1 a haL
        obtain ⟨q, hq⟩ : ∃ q, L.getD a default = q := ⟨_, rfl⟩
        have hqm : q ∈ L := by rw [← hq, List.getD_eq_getElem?_getD, List.getElem?_eq_getElem haL]; exact List.getElem_mem _
        have hqs := HS.out q hqm
        have hto : tokOf L ⟨2, xp, (a : Int), xn, xm, xt⟩ = q := by unfold tokOf; rw [← hq]; rfl
        obtain ⟨qk, qp, qt, qn⟩ := q
        dsimp only at hqs
        have hcl4 : ∀ j, cellK L a j = (#[.int .i64 qk, .int .i64 (qp : Int), .string (bs qt), .int .i64 qn] : Array Value)[j]?.getD undef := fun j => by unfold cellK Tok.cell Tok.cs; rw [hq]
        have t0 : wr.cell? ⟨bl, a * 4, none⟩ = some (.int .i64 qk) := (g 0 (by omega)).trans (by rw [hcl4]; rfl)
        have t1 : wr.cell? ⟨bl, a * 4 + 1, none⟩ = some (.int .i64 (qp : Int)) := (g 1 (by omega)).trans (by rw [hcl4]; rfl)
        have t2 : wr.cell? ⟨bl, a * 4 + 2, none⟩ = some (.string (bs qt)) := (g 2 (by omega)).trans (by rw [hcl4]; rfl)
        have t3 : wr.cell? ⟨bl, a * 4 + 3, none⟩ = some (.int .i64 qn) := (g 3 (by omega)).trans (by rw [hcl4]; rfl)
        clear g hcl4 hqm hq hgl hspl
        have hu1 := alloc_own wr (.cells #[.int .i64 qk, .int .i64 (qp : Int), .string (bs qt), .int .i64 qn] 71)
        have hI1 := hI.go hu1
        have HTO := Lib.hid hto
        have HX := Lib.hid hx
        have HII := Lib.hid (And.intro hg hsp)
        have hMap := hI.map.lt
        have HI0 := Lib.hid hI
        clear hg hsp hx hto hI hmem
        have z2 : (wr.alloc (.cells #[.int .i64 qk, .int .i64 (qp : Int), .string (bs qt), .int .i64 qn] 71)).cell? ⟨wr.heap.size, 2, none⟩ = some (.string (bs qt)) := by simp [go_sem]
        rcases hI1.map.look (bs qt) with ⟨hlook, hsym⟩ | hlook
        · unfold termV at hlook
          obtain ⟨A, B, hAB⟩ : ∃ A B, symZ k qt = (A, B) := ⟨_, _, rfl⟩
          have hAB' : symZ k (bs qt).data.toList = (A, B) := hAB
          rw [hAB'] at hlook hsym
          dsimp only at hlook hsym
          have hu2 := alloc_own (wr.alloc (.cells #[.int .i64 qk, .int .i64 (qp : Int), .string (bs qt), .int .i64 qn] 71)) (.cells #[.int .i64 B, .int .i64 A] 147)
          have hI2 := hI1.go hu2
          have y0 : ((wr.alloc (.cells #[.int .i64 qk, .int .i64 (qp : Int), .string (bs qt), .int .i64 qn] 71)).alloc (.cells #[.int .i64 B, .int .i64 A] 147)).cell? ⟨wr.heap.size + 1, 0, none⟩ = some (.int .i64 B) := by simp [go_sem]
          have y1 : ((wr.alloc (.cells #[.int .i64 qk, .int .i64 (qp : Int), .string (bs qt), .int .i64 qn] 71)).alloc (.cells #[.int .i64 B, .int .i64 A] 147)).cell? ⟨wr.heap.size + 1, 1, none⟩ = some (.int .i64 A) := by simp [go_sem]
          have hbz : b < wr.heap.size := HII.out.1.2.2
          have HAB := Lib.hid hAB
          have HSY := Lib.hid hsym
          clear hAB hAB' hsym hu2 hI1 hu1
          go_upto_region 10 with fail
          generalize (wr.alloc (.cells #[.int .i64 qk, .int .i64 (qp : Int), .string (bs qt), .int .i64 qn] 71)).alloc (.cells #[.int .i64 B, .int .i64 A] 147) = W2 at *
          clear t0 t1 t2 t3 x0 x1 x2 z2 hlook
          obtain ⟨s1, s2, fr⟩ := row_at hI2 hlt
          obtain ⟨u1, s1⟩ := Option.isSome_iff_exists.1 s1
          obtain ⟨u2, s2⟩ := Option.isSome_iff_exists.1 s2
          have hnx := hI2.next hlt (hbw) HBL.out _ HX.out rfl _ HTO.out A B HAB.out
          have HNX := Lib.hid hnx
          have HF2 : Hid (∀ x ∈ T.take (i + 1), badS k L x = false) := Lib.hid (fine_next hlt HF.out (by rw [HX.out]; unfold badS; rw [HTO.out]; dsimp only; rw [HAB.out]; simp [HSY.out]))
          have hnb : ¬ wr.heap.size + 1 = b := by omega
          have hnb2 : ¬ b = wr.heap.size + 1 := by omega
          clear hnx hI2
          go_region
          go_wp2_with fail
          exact ⟨⟨i + 1, by simp, by omega, HF2, HNX.out.go (Below.refl _ _).drew⟩, by simp only [intOf]; omega⟩
        · obtain ⟨A, B, hAB⟩ : ∃ A B, symZ k qt = (A, B) := ⟨_, _, rfl⟩
          have hu2 := alloc_own (wr.alloc (.cells #[.int .i64 qk, .int .i64 (qp : Int), .string (bs qt), .int .i64 qn] 71)) (.cells #[.int .i64 0, .int .i64 0] 147)
          have hI2 := hI1.go hu2
          have y0 : ((wr.alloc (.cells #[.int .i64 qk, .int .i64 (qp : Int), .string (bs qt), .int .i64 qn] 71)).alloc (.cells #[.int .i64 0, .int .i64 0] 147)).cell? ⟨wr.heap.size + 1, 0, none⟩ = some (.int .i64 0) := by simp [go_sem]
          have y1 : ((wr.alloc (.cells #[.int .i64 qk, .int .i64 (qp : Int), .string (bs qt), .int .i64 qn] 71)).alloc (.cells #[.int .i64 0, .int .i64 0] 147)).cell? ⟨wr.heap.size + 1, 1, none⟩ = some (.int .i64 0) := by simp [go_sem]
          have y2 : ((wr.alloc (.cells #[.int .i64 qk, .int .i64 (qp : Int), .string (bs qt), .int .i64 qn] 71)).alloc (.cells #[.int .i64 0, .int .i64 0] 147)).cell? ⟨wr.heap.size, 2, none⟩ = some (.string (bs qt)) := by simp [go_sem]
          have fz : ∀ j, ((wr.alloc (.cells #[.int .i64 qk, .int .i64 (qp : Int), .string (bs qt), .int .i64 qn] 71)).alloc (.cells #[.int .i64 0, .int .i64 0] 147)).frozen? ⟨wr.heap.size + 1, j, none⟩ = false := fun j => by simp [go_sem]
          have hbz : b < wr.heap.size := HII.out.1.2.2
          have HAB := Lib.hid hAB
          have hU := hu1.trans (hu2.mono (by rw [World.size_alloc]; omega))
          clear hAB hu2 hI1 hu1
          go_wp2_with fail
          generalize (wr.alloc (.cells #[.int .i64 qk, .int .i64 (qp : Int), .string (bs qt), .int .i64 qn] 71)).alloc (.cells #[.int .i64 0, .int .i64 0] 147) = W2 at *
          clear t0 t1 t2 t3 x0 x1 x2 z2 hlook
          refine (found_v ((k : Int) + 1) k ⟨qk, qp, qt, qn⟩ rfl hk5 W2 hqs).mono ?_
          rintro e w2 ⟨he, hb2⟩
          dsimp only at he
          rw [HAB.out] at he
          dsimp only at he
          have hI3 := hI2.go hb2
          by_cases hB : B = -1
          · rw [if_pos hB] at he
            subst he
            have HI3 := Lib.hid hI3.but
            have HB := Lib.hid hB
            clear hI3 hI2 hb2 y0 y1 y2 fz hB
            go_wp2_with fail
            refine ⟨rfl, HI3.out, ?_⟩
            rw [find_some hlt HF.out (by rw [HX.out]; unfold badS; rw [HTO.out]; dsimp only; rw [HAB.out, HB.out]; rfl), HX.out]
            dsimp only
            rw [HTO.out]
          · rw [if_neg hB] at he
            subst he
            have z0 := (hb2.cell (p := ⟨wr.heap.size + 1, 0, none⟩) (cell_lt y0)).trans y0
            have z1 := (hb2.cell (p := ⟨wr.heap.size + 1, 1, none⟩) (cell_lt y0)).trans y1
            have z2 := (hb2.cell (p := ⟨wr.heap.size, 2, none⟩) (cell_lt y2)).trans y2
            have g0 := (hb2.frozen (p := ⟨wr.heap.size + 1, 0, none⟩) (cell_lt y0)).trans (fz 0)
            have g1 := (hb2.frozen (p := ⟨wr.heap.size + 1, 1, none⟩) (cell_lt y0)).trans (fz 1)
            have hU3 := ((hU.trans (hb2.mono hU.size)).setCell (p := ⟨wr.heap.size + 1, 0, none⟩) (show wr.heap.size ≤ wr.heap.size + 1 by omega) (.int .i64 B)).setCell (p := ⟨wr.heap.size + 1, 1, none⟩) (show wr.heap.size ≤ wr.heap.size + 1 by omega) (.int .i64 A)
            have v0 : ((w2.setCell ⟨wr.heap.size + 1, 0, none⟩ (.int .i64 B)).setCell ⟨wr.heap.size + 1, 1, none⟩ (.int .i64 A)).cell? ⟨wr.heap.size + 1, 0, none⟩ = some (.int .i64 B) := by simp [go_sem, z0, z1]
            have v1 : ((w2.setCell ⟨wr.heap.size + 1, 0, none⟩ (.int .i64 B)).setCell ⟨wr.heap.size + 1, 1, none⟩ (.int .i64 A)).cell? ⟨wr.heap.size + 1, 1, none⟩ = some (.int .i64 A) := by simp [go_sem, z0, z1]
            have hI4 := HI0.out.go hU3
            have hsym : (symZ k (bs qt).data.toList).2 ≠ -1 := by
              have e : symZ k (bs qt).data.toList = (A, B) := HAB.out
              rw [e]; exact hB
            obtain ⟨o, hrun, hK⟩ := hI4.map.store (bs qt) hsym
            have hI5 := hI4.put (fun a n c e => by rw [HBT.out a n c e]; exact hbw) HBL2.out o hK
            have ev : termV k (bs qt) = .agg #[.int .i64 B, .int .i64 A] := by
              have e : symZ k (bs qt).data.toList = (A, B) := HAB.out
              unfold termV; rw [e]
            rw [ev] at hrun
            have HB := Lib.hid hB
            clear hK hI4 hU3 hU hb2 hI2 hI3 y0 y1 y2 fz hB hsym ev
            go_upto_region 10 with fail
            generalize ((w2.setCell ⟨wr.heap.size + 1, 0, none⟩ (.int .i64 B)).setCell ⟨wr.heap.size + 1, 1, none⟩ (.int .i64 A)) = W3 at *
            have q0 := cell_same (W' := W3.putObj w.heap.size o) v0 (World.putObj_heap_other (by omega))
            have q1 := cell_same (W' := W3.putObj w.heap.size o) v1 (World.putObj_heap_other (by omega))
            generalize W3.putObj w.heap.size o = W4 at *
            clear z0 z1 z2 g0 g1 v0 v1 hrun
            obtain ⟨s1, s2, fr⟩ := row_at hI5 hlt
            obtain ⟨u1, s1⟩ := Option.isSome_iff_exists.1 s1
            obtain ⟨u2, s2⟩ := Option.isSome_iff_exists.1 s2
            have hnx := hI5.next hlt hbw HBL.out _ HX.out rfl _ HTO.out A B HAB.out
            have HNX := Lib.hid hnx
            have HF2 : Hid (∀ x ∈ T.take (i + 1), badS k L x = false) := Lib.hid (fine_next hlt HF.out (by rw [HX.out]; unfold badS; rw [HTO.out]; dsimp only; rw [HAB.out]; simp [HB.out]))
            have hnb : ¬ wr.heap.size + 1 = b := by omega
            have hnb2 : ¬ b = wr.heap.size + 1 := by omega
            clear hnx hI5
            go_region
            go_wp2_with fail
            exact ⟨⟨i + 1, by simp, by omega, HF2, HNX.out.go (Below.refl _ _).drew⟩, by simp only [intOf]; omega⟩
      · have hN : nameS k L x = x := if_neg hop
        have hB : badS k L x = false := by unfold badS; simp [hop]
        have hmix : mixS k L T (i + 1) = mixS k L T i := by
          obtain ⟨A, m1, m2, _⟩ := mix_step k L T i hlt
          rw [m1, m2, hx, hN]
        have HF2 : Hid (∀ x ∈ T.take (i + 1), badS k L x = false) := Lib.hid (fine_next hlt HF.out (by rw [hx]; exact hB))
        have HI := Lib.hid hI
        have HM := Lib.hid hmix
        clear hI hg hsp hN hB hmix
        go_wp2_with fail
        exact ⟨⟨i + 1, by simp, by omega, HF2, by rw [HM.out]; exact HI.out⟩, by simp only [intOf]; omega⟩
    · have hii : ¬ (i : Int) < T.length := by omega
      have hi : i = T.length := by omega
      subst hi
      have HI := Lib.hid hI
      clear hI
      go_wp2_with fail
      go_end0
      refine ⟨HI.out.but, ?_⟩
      rw [find_none HF.out]
      exact ⟨rfl, by rw [← mix_all k L T]; exact HI.out.steps⟩

end Go.Proofs.YthofogokpolhdaaGreatDoor.Parses

