/-
  Contract of package parse's found. A map of texts to what they are as symbols: what a look tells, what a store keeps. Contract of package parse's name. The closure that Tree defers: it takes a refusal for the answer, and leaves all else. Contract of package parse's Tree. What the reading tells of its steps, as plain facts: how many, and where their symbols' tokens stand.
-/
import Derived.Test.YthofogokpolhdaaGreatDoorRIZ
import Derived.Test.YthofogokpolhdaaGreatDoorSCX
import Derived.StringKeys
import Derived.Test.YthofogokpolhdaaGreatDoorULZ
import Derived.Deep.RegionHeld3
import Derived.Carry
import Derived.Defers
import Derived.Recover
import Derived.Laws.Pointers
import Derived.Test.YthofogokpolhdaaGreatDoorYA
namespace Go.Proofs.YthofogokpolhdaaGreatDoor.Parses
open Go.RowKit Go.Shelf
open Go.Proofs.YthofogokpolhdaaGreatDoor.Syms (symZ sfind_v)
open Go.Proofs.YthofogokpolhdaaGreatDoor.Trees (Stp StepsAt cellS StAt elem_step cell_oneS)
open Go.Proofs.YthofogokpolhdaaGreatDoor.Toks (Tok ToksAt cellK cell_lt cell_same SliceAt Above Grid Spare Elem elem_of append_any both wpList_app)
open Go.Proofs.YthofogokpolhdaaGreatDoor.Style (bs bs_size bs_at getD_at bs_of)
set_option linter.unusedVariables false
set_option linter.unusedSimpArgs false
attribute [local irreducible] symZ

/-- What a symbol is, or a panic. -/
def FoundEnd (k : Nat) (x : Tok) (w : World) (e : Ending) (w' : World) : Prop :=
  (if (symZ k x.text).2 = -1 then e = .panicked [{ v := refV 15 (x.pos : Int) (x.text.length : Int), recovered := false }] else e = .returned (.agg #[.int .i64 (symZ k x.text).2, .int .i64 (symZ k x.text).1])) ∧ Below w.heap.size w w'

set_option maxRecDepth 100000 in
set_option maxHeartbeats 2000000 in
theorem found_v (n : Int) (k : Nat) (x : Tok) (hk : n = (k : Int) + 1) (hk5 : k < 5) (w : World) (hs : x.text.length ≤ 1000) :
    Calls Tryz.prog 85 #[.int .i64 n, x.v] w (FoundEnd k x w) := by
  obtain ⟨kd, ps, tx, nm⟩ := x
  unfold FoundEnd Tok.v
  dsimp only at hs ⊢
  obtain ⟨a, b, hR⟩ : ∃ a b, symZ k tx = (a, b) := ⟨_, _, rfl⟩
  rw [hR]
  dsimp only
  have hF := fun W ok hok => sfind_v n k tx hk hk5 W hs a b ok hR hok
  have hz : ((bs tx).size : Int) = tx.length := by rw [bs_size]
  have hzn : (bs tx).size = tx.length := bs_size tx
  have hu : Below w.heap.size w ((w.alloc (.cells #[.int .i64 kd, .int .i64 (ps : Int), .string (bs tx), .int .i64 nm] 71)).alloc (.cells #[.int .i64 0, .int .i64 0] 147)) := by go_grown
  have x1 : ((w.alloc (.cells #[.int .i64 kd, .int .i64 (ps : Int), .string (bs tx), .int .i64 nm] 71)).alloc (.cells #[.int .i64 0, .int .i64 0] 147)).cell? ⟨w.heap.size, 1, none⟩ = some (.int .i64 (ps : Int)) := by simp [go_sem]
  have x2 : ((w.alloc (.cells #[.int .i64 kd, .int .i64 (ps : Int), .string (bs tx), .int .i64 nm] 71)).alloc (.cells #[.int .i64 0, .int .i64 0] 147)).cell? ⟨w.heap.size, 2, none⟩ = some (.string (bs tx)) := by simp [go_sem]
  have y0 : ((w.alloc (.cells #[.int .i64 kd, .int .i64 (ps : Int), .string (bs tx), .int .i64 nm] 71)).alloc (.cells #[.int .i64 0, .int .i64 0] 147)).cell? ⟨w.heap.size + 1, 0, none⟩ = some (.int .i64 0) := by simp [go_sem]
  have y1 : ((w.alloc (.cells #[.int .i64 kd, .int .i64 (ps : Int), .string (bs tx), .int .i64 nm] 71)).alloc (.cells #[.int .i64 0, .int .i64 0] 147)).cell? ⟨w.heap.size + 1, 1, none⟩ = some (.int .i64 0) := by simp [go_sem]
  have f0 : ∀ j, ((w.alloc (.cells #[.int .i64 kd, .int .i64 (ps : Int), .string (bs tx), .int .i64 nm] 71)).alloc (.cells #[.int .i64 0, .int .i64 0] 147)).frozen? ⟨w.heap.size + 1, j, none⟩ = false := fun j => by simp [go_sem]
  clear hk hR
  go_enter Tryz.func85, Tryz.ntmps85
  go_wp2_with fail
  generalize (w.alloc (.cells #[.int .i64 kd, .int .i64 (ps : Int), .string (bs tx), .int .i64 nm] 71)).alloc (.cells #[.int .i64 0, .int .i64 0] 147) = W0 at *
  by_cases hb : b = -1
  · have hF2 := hF W0 false (by rw [hb]; rfl)
    have HB := Lib.hid hb
    clear hF hb
    refine hF2.mono ?_
    rintro e w2 ⟨rfl, hb2⟩
    have z1 := (hb2.cell (p := ⟨w.heap.size, 1, none⟩) (cell_lt x1)).trans x1
    have z2 := (hb2.cell (p := ⟨w.heap.size, 2, none⟩) (cell_lt x2)).trans x2
    have HU := Lib.hid (hu.trans (hb2.mono hu.size))
    clear hF2 x1 x2 hb2 hu y0 y1 f0
    go_wp2_with fail
    refine ⟨rfl, ?_, HU.out⟩
    rfl
  · have hF2 := hF W0 true (decide_eq_true hb)
    have HB := Lib.hid hb
    clear hF hb
    refine hF2.mono ?_
    rintro e w2 ⟨rfl, hb2⟩
    have z0 := (hb2.cell (p := ⟨w.heap.size + 1, 0, none⟩) (cell_lt y0)).trans y0
    have z1 := (hb2.cell (p := ⟨w.heap.size + 1, 1, none⟩) (cell_lt y0)).trans y1
    have g0 := (hb2.frozen (p := ⟨w.heap.size + 1, 0, none⟩) (cell_lt y0)).trans (f0 0)
    have g1 := (hb2.frozen (p := ⟨w.heap.size + 1, 1, none⟩) (cell_lt y0)).trans (f0 1)
    have hUU := ((hu.trans (hb2.mono hu.size)).setCell (p := ⟨w.heap.size + 1, 0, none⟩) (show w.heap.size ≤ w.heap.size + 1 by omega) (.int .i64 b)).setCell (p := ⟨w.heap.size + 1, 1, none⟩) (show w.heap.size ≤ w.heap.size + 1 by omega) (.int .i64 a)
    have HU := Lib.hid hUU
    have v0 : ((w2.setCell ⟨w.heap.size + 1, 0, none⟩ (.int .i64 b)).setCell ⟨w.heap.size + 1, 1, none⟩ (.int .i64 a)).cell? ⟨w.heap.size + 1, 0, none⟩ = some (.int .i64 b) := by simp [go_sem, z0, z1]
    have v1 : ((w2.setCell ⟨w.heap.size + 1, 0, none⟩ (.int .i64 b)).setCell ⟨w.heap.size + 1, 1, none⟩ (.int .i64 a)).cell? ⟨w.heap.size + 1, 1, none⟩ = some (.int .i64 a) := by simp [go_sem, z0, z1]
    have HV := Lib.hid (And.intro v0 v1)
    clear hF2 x1 x2 hb2 hu y0 y1 f0 hUU v0 v1
    go_wp2_with fail
    obtain ⟨v0, v1⟩ := HV.out
    refine bodyPost_ret (v := .agg #[.int .i64 b, .int .i64 a]) (by simp [results, Tryz.results85, go_sem, v0, v1]) rfl ⟨rfl, HU.out⟩

end Go.Proofs.YthofogokpolhdaaGreatDoor.Parses

namespace Go.Proofs.YthofogokpolhdaaGreatDoor.Parses
open Go.RowKit Go.Shelf Go.MapKept
open Go.Proofs.YthofogokpolhdaaGreatDoor.Syms (symZ sfind_v)
open Go.Proofs.YthofogokpolhdaaGreatDoor.Style (bs bs_size bs_at getD_at bs_of)
set_option linter.unusedVariables false
set_option linter.unusedSimpArgs false
attribute [local irreducible] symZ

def termV (k : Nat) (t : ByteArray) : Value := .agg #[.int .i64 (symZ k t.data.toList).2, .int .i64 (symZ k t.data.toList).1]
/-- The block M holds a map whose every entry tells what its text is. -/
def Known (w : World) (M k : Nat) : Prop :=
  ∃ es clock, w.heap[M]? = some (.map es clock) ∧ ∀ e ∈ es.toList, ∃ t, e.key = .string t ∧ e.val = termV k t ∧ (symZ k t.data.toList).2 ≠ -1
theorem Known.lt {w : World} {M k : Nat} (h : Known w M k) : M < w.heap.size := by
  obtain ⟨es, clock, h1, h2⟩ := h
  exact (Array.getElem?_eq_some_iff.1 h1).1
theorem Known.block {w w' : World} {M k : Nat} (h : Known w M k) (hb : w'.heap[M]? = w.heap[M]?) : Known w' M k := by
  obtain ⟨es, clock, h1, h2⟩ := h
  exact ⟨es, clock, hb.trans h1, h2⟩
theorem Known.new (w : World) (k : Nat) : Known (w.alloc (.map #[] 0)) w.heap.size k :=
  ⟨#[], 0, World.alloc_heap_new w _, fun e he => by simp at he⟩
theorem u_map : Tryz.prog.underlying 145 = some (.map 9 147) := by kernel_rfl
theorem u_str : Tryz.prog.underlying 9 = some .string := by kernel_rfl
theorem Known.look {w : World} {M k : Nat} (h : Known w M k) (t : ByteArray) :
    ((Instr.lookup 145 (.map (some M)) (.string t) true).run Tryz.prog w = .ok (.tuple #[termV k t, .bool true]) w ∧ (symZ k t.data.toList).2 ≠ -1) ∨
    (Instr.lookup 145 (.map (some M)) (.string t) true).run Tryz.prog w = .ok (.tuple #[.agg #[.int .i64 0, .int .i64 0], .bool false]) w := by
  obtain ⟨es, clock, h1, h2⟩ := h
  have hg : (getObj M).run Tryz.prog w = .ok (.map es clock) w := by simp [getObj, Sem.run, h1]
  have hz : (zeroValue 147).run Tryz.prog w = .ok (.agg #[.int .i64 0, .int .i64 0]) w := by kernel_rfl
  have hc : (Instr.checkKey es.isEmpty 10000 9 (.string t)).run Tryz.prog w = .ok () w := run_checkKey u_str (d := .string) (k := .string t) trivial _ 9999
  have hks : ∀ x ∈ es.toList, IsKey .string x.key := fun x hx => by
    obtain ⟨s, e, _⟩ := h2 x hx
    rw [e]; trivial
  rcases findNow_spec (d := .string) (k := .string t) trivial es.toList 0 hks with ⟨q1, q2⟩ | ⟨j, e, q1, q2, q3⟩
  · refine .inr ?_
    simp only [Instr.lookup, Sem.run_bind, run_underlying u_map, Result.andThen_ok, hg, Sem.run_pure, hc, run_findKey u_str q1, hz]
    rfl
  · have hm : e ∈ es.toList := List.mem_of_getElem? q2
    obtain ⟨s, e1, e2, e3⟩ := h2 e hm
    have hs : s = t := by rw [e1] at q3; exact Value.string.inj q3
    subst hs
    refine .inl ⟨?_, e3⟩
    simp only [Instr.lookup, Sem.run_bind, run_underlying u_map, Result.andThen_ok, hg, Sem.run_pure, hc, run_findKey u_str q1, e2]
    rfl
theorem Known.store {w : World} {M k : Nat} (h : Known w M k) (t : ByteArray) (ht : (symZ k t.data.toList).2 ≠ -1) :
    ∃ o, (Instr.mapUpdate 145 (.map (some M)) (.string t) (termV k t)).run Tryz.prog w = .ok () (w.putObj M o) ∧ Known (w.putObj M o) M k := by
  have hlt := h.lt
  obtain ⟨es, clock, h1, h2⟩ := h
  have hg : (getObj M).run Tryz.prog w = .ok (.map es clock) w := by simp [getObj, Sem.run, h1]
  have hc : (Instr.checkKey false 10000 9 (.string t)).run Tryz.prog w = .ok () w := run_checkKey u_str (d := .string) (k := .string t) trivial _ 9999
  have hks : ∀ x ∈ es.toList, IsKey .string x.key := fun x hx => by
    obtain ⟨s, e, _⟩ := h2 x hx
    rw [e]; trivial
  rcases findNow_spec (d := .string) (k := .string t) trivial es.toList 0 hks with ⟨q1, q2⟩ | ⟨j, e, q1, q2, q3⟩
  · refine ⟨.map (es.push { key := .string t, val := termV k t, born := clock }) (clock + 1), ?_, _, _, World.putObj_heap_same hlt, ?_⟩
    · simp only [Instr.mapUpdate, Sem.run_bind, run_underlying u_map, Result.andThen_ok, hg, Sem.run_pure, hc, run_findKey u_str q1]
      simp [setObj, Sem.run, h1, World.putObj]
    · intro e he
      simp only [Array.toList_push, List.mem_append, List.mem_singleton] at he
      rcases he with he | rfl
      · exact h2 e he
      · exact ⟨t, rfl, rfl, ht⟩
  · have hkk : ((es[0 + j]?).map (·.key)).getD (.string t) = .string t := by
      rw [Nat.zero_add, ← Array.getElem?_toList, q2]
      simp [q3]
    have hst : (Instr.keyThatStays (.string t) (.string t)).run Tryz.prog w = .ok (.string t) w := run_keyThatStays (d := .string) (k := .string t) trivial
    refine ⟨.map (es.modify (0 + j) fun e => { e with key := .string t, val := termV k t }) clock, ?_, _, _, World.putObj_heap_same hlt, ?_⟩
    · simp only [Instr.mapUpdate, Sem.run_bind, run_underlying u_map, Result.andThen_ok, hg, Sem.run_pure, hc, run_findKey u_str q1, hkk, hst]
      simp [setObj, Sem.run, h1, World.putObj]
    · intro e' he
      rw [Array.toList_modify] at he
      obtain ⟨i, hi⟩ := List.mem_iff_getElem?.1 he
      rw [List.getElem?_modify] at hi
      cases hE : es.toList[i]? with
      | none => rw [hE] at hi; simp at hi
      | some x =>
        rw [hE] at hi
        have hx := h2 x (List.mem_of_getElem? hE)
        have hi' : (if 0 + j = i then { x with key := .string t, val := termV k t } else x) = e' := by
          have := Option.some.inj hi
          split at this <;> simp_all
        clear hi
        split at hi'
        · subst hi'; exact ⟨t, rfl, rfl, ht⟩
        · subst hi'; exact hx

end Go.Proofs.YthofogokpolhdaaGreatDoor.Parses

namespace Go.Proofs.YthofogokpolhdaaGreatDoor.Parses
open Go.RowKit Go.Shelf
open Go.Proofs.YthofogokpolhdaaGreatDoor.Syms (symZ sfind_v)
open Go.Proofs.YthofogokpolhdaaGreatDoor.Trees (Stp StepsAt cellS StAt elem_step cell_oneS But)
open Go.Proofs.YthofogokpolhdaaGreatDoor.Toks (Tok ToksAt cellK cell_lt cell_same SliceAt Above Grid Spare Elem elem_of append_any both wpList_app)
open Go.Proofs.YthofogokpolhdaaGreatDoor.Style (bs bs_size bs_at getD_at bs_of)
set_option linter.unusedVariables false
set_option linter.unusedSimpArgs false
attribute [local irreducible] symZ

def tokOf (L : List Tok) (x : Stp) : Tok := L.getD x.atom.toNat default
def badS (k : Nat) (L : List Tok) (x : Stp) : Bool := x.op == 2 && (symZ k (tokOf L x).text).2 == -1
def nameS (k : Nat) (L : List Tok) (x : Stp) : Stp := if x.op = 2 then { x with pf := (symZ k (tokOf L x).text).1, atom := (symZ k (tokOf L x).text).2 } else x
def mixS (k : Nat) (L : List Tok) (T : List Stp) (i : Nat) : List Stp := (T.take i).map (nameS k L) ++ T.drop i
theorem mix_len (k : Nat) (L : List Tok) (T : List Stp) (i : Nat) : (mixS k L T i).length = T.length := by
  unfold mixS; rw [List.length_append, List.length_map, List.length_take, List.length_drop]; omega
theorem mix_at (k : Nat) (L : List Tok) (T : List Stp) (i j : Nat) : (mixS k L T i).getD j default = if j < i ∧ j < T.length then nameS k L (T.getD j default) else T.getD j default := by
  unfold mixS
  rw [List.getD_eq_getElem?_getD, List.getD_eq_getElem?_getD, List.getElem?_append, List.length_map, List.length_take]
  by_cases h : j < min i T.length
  · rw [if_pos h, if_pos (by omega), List.getElem?_map, List.getElem?_take_of_lt (by omega), List.getElem?_eq_getElem (by omega)]; rfl
  · rw [if_neg h, if_neg (by omega), List.getElem?_drop]
    by_cases h2 : j < T.length
    · congr 2; omega
    · rw [List.getElem?_eq_none (by omega), List.getElem?_eq_none (by omega)]
theorem mix_zero (k : Nat) (L : List Tok) (T : List Stp) : mixS k L T 0 = T := by simp [mixS]
theorem mix_all (k : Nat) (L : List Tok) (T : List Stp) : mixS k L T T.length = T.map (nameS k L) := by simp [mixS]

theorem cut_at {T : List Stp} {i : Nat} (h : i < T.length) : T = T.take i ++ T.getD i default :: T.drop (i + 1) := by
  rw [List.getD_eq_getElem?_getD, List.getElem?_eq_getElem h, Option.getD_some, ← List.drop_eq_getElem_cons h, List.take_append_drop]
theorem take_at {T : List Stp} {i : Nat} (h : i < T.length) : T.take (i + 1) = T.take i ++ [T.getD i default] := by
  rw [List.take_add_one, List.getElem?_eq_getElem h, List.getD_eq_getElem?_getD, List.getElem?_eq_getElem h]; rfl
theorem mix_step (k : Nat) (L : List Tok) (T : List Stp) (i : Nat) (h : i < T.length) : ∃ A, mixS k L T i = A ++ T.getD i default :: T.drop (i + 1) ∧ mixS k L T (i + 1) = A ++ nameS k L (T.getD i default) :: T.drop (i + 1) ∧ A.length = i := by
  refine ⟨(T.take i).map (nameS k L), ?_, ?_, ?_⟩
  · unfold mixS
    congr 1
    rw [List.getD_eq_getElem?_getD, List.getElem?_eq_getElem h, Option.getD_some, ← List.drop_eq_getElem_cons h]
  · unfold mixS
    rw [take_at h, List.map_append, List.append_assoc]; rfl
  · rw [List.length_map, List.length_take]; omega
theorem fine_next {k : Nat} {L : List Tok} {T : List Stp} {i : Nat} (h : i < T.length) (hF : ∀ x ∈ T.take i, badS k L x = false) (hx : badS k L (T.getD i default) = false) : ∀ x ∈ T.take (i + 1), badS k L x = false := by
  rw [take_at h]
  intro x hm
  rw [List.mem_append, List.mem_singleton] at hm
  rcases hm with hm | rfl
  · exact hF x hm
  · exact hx
theorem find_none {k : Nat} {L : List Tok} {T : List Stp} (hF : ∀ x ∈ T.take T.length, badS k L x = false) : T.find? (badS k L) = none := by
  rw [List.take_length] at hF
  rw [List.find?_eq_none]
  intro x hm; rw [hF x hm]; simp
theorem find_some {k : Nat} {L : List Tok} {T : List Stp} {i : Nat} (h : i < T.length) (hF : ∀ x ∈ T.take i, badS k L x = false) (hx : badS k L (T.getD i default) = true) : T.find? (badS k L) = some (T.getD i default) := by
  have hn : (T.take i).find? (badS k L) = none := by
    rw [List.find?_eq_none]
    intro x hm; rw [hF x hm]; simp
  have e := congrArg (List.find? (badS k L)) (cut_at h)
  rw [List.find?_append, hn, List.find?_cons, hx] at e
  exact e

/-- How name ends. -/
def NameEnd (k : Nat) (L : List Tok) (T : List Stp) (tv : Value) (bt : Nat) (w : World) (e : Ending) (w' : World) : Prop :=
  But bt w w' ∧ match T.find? (badS k L) with
    | none => e = .returned (.tuple #[]) ∧ StepsAt w' tv (T.map (nameS k L))
    | some x => e = .panicked [{ v := refV 15 ((tokOf L x).pos : Int) ((tokOf L x).text.length : Int), recovered := false }]

/-- What name's rounds keep. -/
structure NmI (w : World) (tv lv : Value) (bt M k : Nat) (L : List Tok) (l : List Stp) (W : World) : Prop where
  but : But bt w W
  steps : StepsAt W tv l
  map : Known W M k
  toks : ToksAt W lv L
theorem NmI.go {w : World} {tv lv : Value} {bt M k : Nat} {L : List Tok} {l : List Stp} {W W' : World} (h : NmI w tv lv bt M k L l W) (hb : Below W.heap.size W W') : NmI w tv lv bt M k L l W' :=
  ⟨h.but.trans (But.of hb), h.steps.go hb, h.map.block (hb.block M h.map.lt), h.toks.go hb⟩

theorem NmI.next {w : World} {lv : Value} {b c M k i : Nat} {L : List Tok} {T : List Stp} {W : World} (h : NmI w (.slice (some ⟨b, 0, none⟩) T.length c) lv b M k L (mixS k L T i) W) (hi : i < T.length) (hbM : b < M)
    (hbl : ∀ a n c, lv = .slice (some a) n c → a.block ≠ b) (x : Stp) (hx : T.getD i default = x) (hop : x.op = 2) (q : Tok) (hq : tokOf L x = q) (A B : Int) (hAB : symZ k q.text = (A, B)) :
    NmI w (.slice (some ⟨b, 0, none⟩) T.length c) lv b M k L (mixS k L T (i + 1)) ((W.setCell ⟨b, i * 6 + 1, none⟩ (.int .i64 A)).setCell ⟨b, i * 6 + 2, none⟩ (.int .i64 B)) := by
  have ho : Toks.Only b W ((W.setCell ⟨b, i * 6 + 1, none⟩ (.int .i64 A)).setCell ⟨b, i * 6 + 2, none⟩ (.int .i64 B)) := ((Toks.Only.refl b W).set _ _).set _ _
  have hN : nameS k L x = { x with pf := A, atom := B } := by unfold nameS; rw [if_pos hop, hq, hAB]
  refine ⟨h.but.trans (But.only ho), ?_, h.map.block (ho.block M (by omega)), ?_⟩
  · rcases h.steps with ⟨h0, h1⟩ | ⟨b', c', e1, hc, hsp, hg⟩
    · cases h1
    · rw [mix_len] at e1 hc hg
      injection e1 with e1 e2 e3
      injection e1 with e1
      injection e1 with e1
      subst e1 e3
      refine .inr ⟨b, c, by rw [mix_len], by rw [mix_len]; exact hc, (hsp.set _ _ _).set _ _ _, ?_⟩
      rw [mix_len]
      refine ⟨fun i' hi' j hj => ?_, fun j => ?_, ?_⟩
      · have g := hg.1 i' hi' j hj
        have gx := hg.1 i hi
        by_cases h2 : i' * 6 + j = i * 6 + 2
        · have e1 : i' = i := by omega
          have e2 : j = 2 := by omega
          subst e1 e2
          rw [World.cell?_setCell_same _ _ _ (by rw [World.cell?_setCell_other _ _ _ _ (by intro hh; injection hh with q1 q2; omega)]; exact gx 2 (by omega))]
          unfold cellS
          rw [mix_at, if_pos ⟨by omega, hi⟩, hx, hN]; rfl
        · rw [World.cell?_setCell_other _ _ _ _ (by intro hh; injection hh with q1 q2; exact h2 q2.symm)]
          by_cases h1 : i' * 6 + j = i * 6 + 1
          · have e1 : i' = i := by omega
            have e2 : j = 1 := by omega
            subst e1 e2
            rw [World.cell?_setCell_same _ _ _ (gx 1 (by omega))]
            unfold cellS
            rw [mix_at, if_pos ⟨by omega, hi⟩, hx, hN]; rfl
          · rw [World.cell?_setCell_other _ _ _ _ (by intro hh; injection hh with q1 q2; exact h1 q2.symm), g]
            congr 1
            unfold cellS
            rw [mix_at, mix_at]
            by_cases h3 : i' = i
            · subst h3
              rw [if_neg (by omega), if_pos ⟨by omega, hi⟩, hx, hN]
              match j, hj with
              | 0, _ => rfl
              | 1, _ => exact absurd rfl h1
              | 2, _ => exact absurd rfl h2
              | 3, _ => rfl
              | 4, _ => rfl
              | 5, _ => rfl
            · by_cases h4 : i' < i
              · rw [if_pos ⟨h4, hi'⟩, if_pos ⟨by omega, hi'⟩]
              · rw [if_neg (by omega), if_neg (by omega)]
      · rw [World.frozen?_setCell, World.frozen?_setCell]; exact hg.2.1 j
      · rw [World.size_setCell, World.size_setCell]; exact hg.2.2
  · rcases h.toks with h' | ⟨bl, cl, e1, hc, hsp, hg⟩
    · exact .inl h'
    · have hb := ho.block bl (hbl _ _ _ e1)
      exact .inr ⟨bl, cl, e1, hc, hsp.block hb, hg.block (Nat.le_of_eq ho.size.symm) hb⟩

theorem row_at {w : World} {lv : Value} {b c M k i : Nat} {L : List Tok} {T : List Stp} {W : World} (h : NmI w (.slice (some ⟨b, 0, none⟩) T.length c) lv b M k L (mixS k L T i) W) (hi : i < T.length) :
    (W.cell? ⟨b, i * 6 + 1, none⟩).isSome = true ∧ (W.cell? ⟨b, i * 6 + 2, none⟩).isSome = true ∧ ∀ j, W.frozen? ⟨b, j, none⟩ = false := by
  rcases h.steps with ⟨h0, h1⟩ | ⟨b', c', e1, hc, hsp, hg⟩
  · cases h1
  · rw [mix_len] at e1 hc hg
    injection e1 with e1 e2 e3
    injection e1 with e1
    injection e1 with e1
    subst e1
    exact ⟨by rw [hg.1 i hi 1 (by omega)]; rfl, by rw [hg.1 i hi 2 (by omega)]; rfl, hg.2.1⟩

theorem NmI.put {w : World} {tv lv : Value} {b k : Nat} {L : List Tok} {l : List Stp} {W : World} (h : NmI w tv lv b w.heap.size k L l W) (hbt : ∀ a n c, tv = .slice (some a) n c → a.block < w.heap.size)
    (hbl : ∀ a n c, lv = .slice (some a) n c → a.block < w.heap.size) (o : Obj) (hK : Known (W.putObj w.heap.size o) w.heap.size k) : NmI w tv lv b w.heap.size k L l (W.putObj w.heap.size o) := by
  have hz : (W.putObj w.heap.size o).heap.size = W.heap.size := World.putObj_size
  refine ⟨⟨h.but.os, h.but.tape, h.but.output, by rw [hz]; exact h.but.size, fun j hj hn => (World.putObj_heap_other (by omega)).trans (h.but.block j hj hn)⟩, ?_, hK, ?_⟩
  · rcases h.steps with h' | ⟨bl, cl, e1, hc, hsp, hg⟩
    · exact .inl h'
    · have := hbt _ _ _ e1
      dsimp only at this
      have hb : (W.putObj w.heap.size o).heap[bl]? = W.heap[bl]? := World.putObj_heap_other (by omega)
      exact .inr ⟨bl, cl, e1, hc, hsp.block hb, hg.block (Nat.le_of_eq hz.symm) hb⟩
  · rcases h.toks with h' | ⟨bl, cl, e1, hc, hsp, hg⟩
    · exact .inl h'
    · have := hbl _ _ _ e1
      dsimp only at this
      have hb : (W.putObj w.heap.size o).heap[bl]? = W.heap[bl]? := World.putObj_heap_other (by omega)
      exact .inr ⟨bl, cl, e1, hc, hsp.block hb, hg.block (Nat.le_of_eq hz.symm) hb⟩

set_option maxRecDepth 100000 in
set_option maxHeartbeats 4000000 in
theorem name_v (n : Int) (k : Nat) (tv lv : Value) (bt : Nat) (T : List Stp) (L : List Tok) (w : World) (hk : n = (k : Int) + 1) (hk5 : k < 5) (hT : StepsAt w tv T) (hL : ToksAt w lv L)
    (hbt : ∀ a n c, tv = .slice (some a) n c → a.block = bt) (hbl : ∀ a n c, lv = .slice (some a) n c → a.block ≠ bt) (hbw : bt < w.heap.size)
    (hat : ∀ x ∈ T, x.op = 2 → 0 ≤ x.atom ∧ x.atom < L.length) (hs : ∀ x ∈ L, x.text.length ≤ 1000) (hlen : T.length ≤ 1000000) :
    Calls Tryz.prog 50 #[.int .i64 n, tv, lv] w (NameEnd k L T tv bt w) := by
  subst hk
  obtain ⟨ot, ct, rfl⟩ := SliceAt.slice hT
  obtain ⟨ol, cl, rfl⟩ := SliceAt.slice hL
  have hI : NmI w (.slice ot T.length ct) (.slice ol L.length cl) bt w.heap.size k L (mixS k L T 0) (w.alloc (.map #[] 0)) := by
    have hb := alloc_own w (.map #[] 0)
    exact ⟨But.of hb, by rw [mix_zero]; exact SliceAt.go hT hb, Known.new w k, SliceAt.go hL hb⟩
  have HF : Hid (∀ x ∈ T.take 0, badS k L x = false) := Lib.hid (by simp)
  have HAT := Lib.hid hat
  have HS := Lib.hid hs
  have HBT := Lib.hid hbt
  have HBL := Lib.hid hbl
  have HBL2 : Hid (∀ a n c, (.slice ol L.length cl : Value) = .slice (some a) n c → a.block < w.heap.size) := Lib.hid (fun a n c e => by
    rcases hL with ⟨_, h1⟩ | ⟨b', c', e1, _, _, hg⟩
    · rw [h1] at e; cases e
    · rw [e1] at e; injection e with e; injection e with e; subst e; exact hg.2.2)
  clear hT hL hat hs hbt hbl
  have hmm := @run_makeMap Tryz.prog
  go_enter Tryz.func50, Tryz.ntmps50
  go_wp2_with fail
  clear hmm
  go_loopw [14] (fun x wr => ∃ i : Nat, x = .int .i64 (i : Int) ∧ i ≤ T.length ∧ Hid (∀ x ∈ T.take i, badS k L x = false) ∧ NmI w (.slice ot T.length ct) (.slice ol L.length cl) bt w.heap.size k L (mixS k L T i) wr) (fun x _ => ((T.length : Int) - intOf x).toNat)
  case atStart => exact ⟨0, rfl, by omega, HF, hI⟩
  case round =>
    clear hI HF
    obtain ⟨i, rfl, hil, HF, hI⟩ := hrel
    by_cases hlt : i < T.length
    · have hii : (i : Int) < T.length := by omega
      obtain ⟨x, hx⟩ : ∃ x, T.getD i default = x := ⟨_, rfl⟩
      have hmem : x ∈ T := by rw [← hx, List.getD_eq_getElem?_getD, List.getElem?_eq_getElem hlt]; exact List.getElem_mem _
      rcases hI.steps with ⟨h0, _⟩ | ⟨b, c, e1, hc, hsp, hg⟩
      · rw [mix_len] at h0; omega
      rw [mix_len] at e1 hc hg
      injection e1 with e1 e2 e3
      subst e1 e3
      obtain rfl : b = bt := HBT.out _ _ _ rfl
      have g := hg.1 i hlt
      have hcell : ∀ j, cellS (mixS k L T i) i j = x.cs[j]?.getD undef := fun j => by unfold cellS; rw [mix_at, if_neg (by omega), hx]
      have x0 : wr.cell? ⟨b, i * 6, none⟩ = some (.int .i64 x.op) := (g 0 (by omega)).trans (by rw [hcell]; rfl)
      have x1 : wr.cell? ⟨b, i * 6 + 1, none⟩ = some (.int .i64 x.pf) := (g 1 (by omega)).trans (by rw [hcell]; rfl)
      have x2 : wr.cell? ⟨b, i * 6 + 2, none⟩ = some (.int .i64 x.atom) := (g 2 (by omega)).trans (by rw [hcell]; rfl)
      clear g hcell
      by_cases hop : x.op = 2
      · obtain ⟨xo, xp, xa, xn, xm, xt⟩ := x
        dsimp only at x0 x1 x2 hop
        subst hop
        obtain ⟨ha0, ha1⟩ := HAT.out _ hmem rfl
        dsimp only at ha0 ha1
        obtain ⟨a, rfl⟩ := Int.eq_ofNat_of_zero_le ha0
        have haL : a < L.length := by omega
        rcases hI.toks with ⟨h0, _⟩ | ⟨bl, cl2, e1, hcl, hspl, hgl⟩
        · omega
        injection e1 with e1 e2 e3
        subst e1 e3
        have hne : bl ≠ b := HBL.out _ _ _ rfl
        have g := hgl.1 a haL
        obtain ⟨q, hq⟩ : ∃ q, L.getD a default = q := ⟨_, rfl⟩
        have hqm : q ∈ L := by rw [← hq, List.getD_eq_getElem?_getD, List.getElem?_eq_getElem haL]; exact List.getElem_mem _
        have hqs := HS.out q hqm
        have hto : tokOf L ⟨2, xp, (a : Int), xn, xm, xt⟩ = q := by unfold tokOf; rw [← hq]; rfl
        obtain ⟨qk, qp, qt, qn⟩ := q
        dsimp only at hqs
        have hcl4 : ∀ j, cellK L a j = (#[.int .i64 qk, .int .i64 (qp : Int), .string (bs qt), .int .i64 qn] : Array Value)[j]?.getD undef := fun j => by unfold cellK Tok.cell Tok.cs; rw [hq]
        have t0 : wr.cell? ⟨bl, a * 4, none⟩ = some (.int .i64 qk) := (g 0 (by omega)).trans (by rw [hcl4]; rfl)
        have t1 : wr.cell? ⟨bl, a * 4 + 1, none⟩ = some (.int .i64 (qp : Int)) := (g 1 (by omega)).trans (by rw [hcl4]; rfl)
        have t2 : wr.cell? ⟨bl, a * 4 + 2, none⟩ = some (.string (bs qt)) := (g 2 (by omega)).trans (by rw [hcl4]; rfl)
        have t3 : wr.cell? ⟨bl, a * 4 + 3, none⟩ = some (.int .i64 qn) := (g 3 (by omega)).trans (by rw [hcl4]; rfl)
        clear g hcl4 hqm hq hgl hspl
        have hu1 := alloc_own wr (.cells #[.int .i64 qk, .int .i64 (qp : Int), .string (bs qt), .int .i64 qn] 71)
        have hI1 := hI.go hu1
        have HTO := Lib.hid hto
        have HX := Lib.hid hx
        have HII := Lib.hid (And.intro hg hsp)
        have hMap := hI.map.lt
        have HI0 := Lib.hid hI
        clear hg hsp hx hto hI hmem
        have z2 : (wr.alloc (.cells #[.int .i64 qk, .int .i64 (qp : Int), .string (bs qt), .int .i64 qn] 71)).cell? ⟨wr.heap.size, 2, none⟩ = some (.string (bs qt)) := by simp [go_sem]
        rcases hI1.map.look (bs qt) with ⟨hlook, hsym⟩ | hlook
        · unfold termV at hlook
          obtain ⟨A, B, hAB⟩ : ∃ A B, symZ k qt = (A, B) := ⟨_, _, rfl⟩
          have hAB' : symZ k (bs qt).data.toList = (A, B) := hAB
          rw [hAB'] at hlook hsym
          dsimp only at hlook hsym
          have hu2 := alloc_own (wr.alloc (.cells #[.int .i64 qk, .int .i64 (qp : Int), .string (bs qt), .int .i64 qn] 71)) (.cells #[.int .i64 B, .int .i64 A] 147)
          have hI2 := hI1.go hu2
          have y0 : ((wr.alloc (.cells #[.int .i64 qk, .int .i64 (qp : Int), .string (bs qt), .int .i64 qn] 71)).alloc (.cells #[.int .i64 B, .int .i64 A] 147)).cell? ⟨wr.heap.size + 1, 0, none⟩ = some (.int .i64 B) := by simp [go_sem]
          have y1 : ((wr.alloc (.cells #[.int .i64 qk, .int .i64 (qp : Int), .string (bs qt), .int .i64 qn] 71)).alloc (.cells #[.int .i64 B, .int .i64 A] 147)).cell? ⟨wr.heap.size + 1, 1, none⟩ = some (.int .i64 A) := by simp [go_sem]
          have hbz : b < wr.heap.size := HII.out.1.2.2
          have HAB := Lib.hid hAB
          have HSY := Lib.hid hsym
          clear hAB hAB' hsym hu2 hI1 hu1
          go_upto_region 10 with fail
          generalize (wr.alloc (.cells #[.int .i64 qk, .int .i64 (qp : Int), .string (bs qt), .int .i64 qn] 71)).alloc (.cells #[.int .i64 B, .int .i64 A] 147) = W2 at *
          clear t0 t1 t2 t3 x0 x1 x2 z2 hlook
          obtain ⟨s1, s2, fr⟩ := row_at hI2 hlt
          obtain ⟨u1, s1⟩ := Option.isSome_iff_exists.1 s1
          obtain ⟨u2, s2⟩ := Option.isSome_iff_exists.1 s2
          have hnx := hI2.next hlt (hbw) HBL.out _ HX.out rfl _ HTO.out A B HAB.out
          have HNX := Lib.hid hnx
          have HF2 : Hid (∀ x ∈ T.take (i + 1), badS k L x = false) := Lib.hid (fine_next hlt HF.out (by rw [HX.out]; unfold badS; rw [HTO.out]; dsimp only; rw [HAB.out]; simp [HSY.out]))
          have hnb : ¬ wr.heap.size + 1 = b := by omega
          have hnb2 : ¬ b = wr.heap.size + 1 := by omega
          clear hnx hI2
          go_region
          go_wp2_with fail
          exact ⟨⟨i + 1, by simp, by omega, HF2, HNX.out.go (Below.refl _ _).drew⟩, by simp only [intOf]; omega⟩
        · obtain ⟨A, B, hAB⟩ : ∃ A B, symZ k qt = (A, B) := ⟨_, _, rfl⟩
          have hu2 := alloc_own (wr.alloc (.cells #[.int .i64 qk, .int .i64 (qp : Int), .string (bs qt), .int .i64 qn] 71)) (.cells #[.int .i64 0, .int .i64 0] 147)
          have hI2 := hI1.go hu2
          have y0 : ((wr.alloc (.cells #[.int .i64 qk, .int .i64 (qp : Int), .string (bs qt), .int .i64 qn] 71)).alloc (.cells #[.int .i64 0, .int .i64 0] 147)).cell? ⟨wr.heap.size + 1, 0, none⟩ = some (.int .i64 0) := by simp [go_sem]
          have y1 : ((wr.alloc (.cells #[.int .i64 qk, .int .i64 (qp : Int), .string (bs qt), .int .i64 qn] 71)).alloc (.cells #[.int .i64 0, .int .i64 0] 147)).cell? ⟨wr.heap.size + 1, 1, none⟩ = some (.int .i64 0) := by simp [go_sem]
          have y2 : ((wr.alloc (.cells #[.int .i64 qk, .int .i64 (qp : Int), .string (bs qt), .int .i64 qn] 71)).alloc (.cells #[.int .i64 0, .int .i64 0] 147)).cell? ⟨wr.heap.size, 2, none⟩ = some (.string (bs qt)) := by simp [go_sem]
          have fz : ∀ j, ((wr.alloc (.cells #[.int .i64 qk, .int .i64 (qp : Int), .string (bs qt), .int .i64 qn] 71)).alloc (.cells #[.int .i64 0, .int .i64 0] 147)).frozen? ⟨wr.heap.size + 1, j, none⟩ = false := fun j => by simp [go_sem]
          have hbz : b < wr.heap.size := HII.out.1.2.2
          have HAB := Lib.hid hAB
          have hU := hu1.trans (hu2.mono (by rw [World.size_alloc]; omega))
          clear hAB hu2 hI1 hu1
          go_wp2_with fail
          generalize (wr.alloc (.cells #[.int .i64 qk, .int .i64 (qp : Int), .string (bs qt), .int .i64 qn] 71)).alloc (.cells #[.int .i64 0, .int .i64 0] 147) = W2 at *
          clear t0 t1 t2 t3 x0 x1 x2 z2 hlook
          refine (found_v ((k : Int) + 1) k ⟨qk, qp, qt, qn⟩ rfl hk5 W2 hqs).mono ?_
          rintro e w2 ⟨he, hb2⟩
          dsimp only at he
          rw [HAB.out] at he
          dsimp only at he
          have hI3 := hI2.go hb2
          by_cases hB : B = -1
          · rw [if_pos hB] at he
            subst he
            have HI3 := Lib.hid hI3.but
            have HB := Lib.hid hB
            clear hI3 hI2 hb2 y0 y1 y2 fz hB
            go_wp2_with fail
            refine ⟨rfl, HI3.out, ?_⟩
            rw [find_some hlt HF.out (by rw [HX.out]; unfold badS; rw [HTO.out]; dsimp only; rw [HAB.out, HB.out]; rfl), HX.out]
            dsimp only
            rw [HTO.out]
          · rw [if_neg hB] at he
            subst he
            have z0 := (hb2.cell (p := ⟨wr.heap.size + 1, 0, none⟩) (cell_lt y0)).trans y0
            have z1 := (hb2.cell (p := ⟨wr.heap.size + 1, 1, none⟩) (cell_lt y0)).trans y1
            have z2 := (hb2.cell (p := ⟨wr.heap.size, 2, none⟩) (cell_lt y2)).trans y2
            have g0 := (hb2.frozen (p := ⟨wr.heap.size + 1, 0, none⟩) (cell_lt y0)).trans (fz 0)
            have g1 := (hb2.frozen (p := ⟨wr.heap.size + 1, 1, none⟩) (cell_lt y0)).trans (fz 1)
            have hU3 := ((hU.trans (hb2.mono hU.size)).setCell (p := ⟨wr.heap.size + 1, 0, none⟩) (show wr.heap.size ≤ wr.heap.size + 1 by omega) (.int .i64 B)).setCell (p := ⟨wr.heap.size + 1, 1, none⟩) (show wr.heap.size ≤ wr.heap.size + 1 by omega) (.int .i64 A)
            have v0 : ((w2.setCell ⟨wr.heap.size + 1, 0, none⟩ (.int .i64 B)).setCell ⟨wr.heap.size + 1, 1, none⟩ (.int .i64 A)).cell? ⟨wr.heap.size + 1, 0, none⟩ = some (.int .i64 B) := by simp [go_sem, z0, z1]
            have v1 : ((w2.setCell ⟨wr.heap.size + 1, 0, none⟩ (.int .i64 B)).setCell ⟨wr.heap.size + 1, 1, none⟩ (.int .i64 A)).cell? ⟨wr.heap.size + 1, 1, none⟩ = some (.int .i64 A) := by simp [go_sem, z0, z1]
            have hI4 := HI0.out.go hU3
            have hsym : (symZ k (bs qt).data.toList).2 ≠ -1 := by
              have e : symZ k (bs qt).data.toList = (A, B) := HAB.out
              rw [e]; exact hB
            obtain ⟨o, hrun, hK⟩ := hI4.map.store (bs qt) hsym
            have hI5 := hI4.put (fun a n c e => by rw [HBT.out a n c e]; exact hbw) HBL2.out o hK
            have ev : termV k (bs qt) = .agg #[.int .i64 B, .int .i64 A] := by
              have e : symZ k (bs qt).data.toList = (A, B) := HAB.out
              unfold termV; rw [e]
            rw [ev] at hrun
            have HB := Lib.hid hB
            clear hK hI4 hU3 hU hb2 hI2 hI3 y0 y1 y2 fz hB hsym ev
            go_upto_region 10 with fail
            generalize ((w2.setCell ⟨wr.heap.size + 1, 0, none⟩ (.int .i64 B)).setCell ⟨wr.heap.size + 1, 1, none⟩ (.int .i64 A)) = W3 at *
            have q0 := cell_same (W' := W3.putObj w.heap.size o) v0 (World.putObj_heap_other (by omega))
            have q1 := cell_same (W' := W3.putObj w.heap.size o) v1 (World.putObj_heap_other (by omega))
            generalize W3.putObj w.heap.size o = W4 at *
            clear z0 z1 z2 g0 g1 v0 v1 hrun
            obtain ⟨s1, s2, fr⟩ := row_at hI5 hlt
            obtain ⟨u1, s1⟩ := Option.isSome_iff_exists.1 s1
            obtain ⟨u2, s2⟩ := Option.isSome_iff_exists.1 s2
            have hnx := hI5.next hlt hbw HBL.out _ HX.out rfl _ HTO.out A B HAB.out
            have HNX := Lib.hid hnx
            have HF2 : Hid (∀ x ∈ T.take (i + 1), badS k L x = false) := Lib.hid (fine_next hlt HF.out (by rw [HX.out]; unfold badS; rw [HTO.out]; dsimp only; rw [HAB.out]; simp [HB.out]))
            have hnb : ¬ wr.heap.size + 1 = b := by omega
            have hnb2 : ¬ b = wr.heap.size + 1 := by omega
            clear hnx hI5
            go_region
            go_wp2_with fail
            exact ⟨⟨i + 1, by simp, by omega, HF2, HNX.out.go (Below.refl _ _).drew⟩, by simp only [intOf]; omega⟩
      · have hN : nameS k L x = x := if_neg hop
        have hB : badS k L x = false := by unfold badS; simp [hop]
        have hmix : mixS k L T (i + 1) = mixS k L T i := by
          obtain ⟨A, m1, m2, _⟩ := mix_step k L T i hlt
          rw [m1, m2, hx, hN]
        have HF2 : Hid (∀ x ∈ T.take (i + 1), badS k L x = false) := Lib.hid (fine_next hlt HF.out (by rw [hx]; exact hB))
        have HI := Lib.hid hI
        have HM := Lib.hid hmix
        clear hI hg hsp hN hB hmix
        go_wp2_with fail
        exact ⟨⟨i + 1, by simp, by omega, HF2, by rw [HM.out]; exact HI.out⟩, by simp only [intOf]; omega⟩
    · have hii : ¬ (i : Int) < T.length := by omega
      have hi : i = T.length := by omega
      subst hi
      have HI := Lib.hid hI
      clear hI
      go_wp2_with fail
      go_end0
      refine ⟨HI.out.but, ?_⟩
      rw [find_none HF.out]
      exact ⟨rfl, by rw [← mix_all k L T]; exact HI.out.steps⟩

end Go.Proofs.YthofogokpolhdaaGreatDoor.Parses

namespace Go.Proofs.YthofogokpolhdaaGreatDoor.Parses
open Go.RowKit Go.Shelf
open Go.Proofs.YthofogokpolhdaaGreatDoor.Toks (cell_lt cell_same)
set_option linter.unusedVariables false
set_option linter.unusedSimpArgs false

theorem caught_idle (p : Addr) (w : World) :
    CallsD Tryz.prog 48 #[.pointer (some p)] .returning w fun e u' w' => e = .returned (.tuple #[]) ∧ u' = .returning ∧ w' = w := by
  refine callsD_of_wpS Tryz.func48 rfl fun c₀ cs hu => ?_
  apply wpS_seq
  apply wpS_region
  simp [wpOpsS, go_sem, recoverD, hu, Tryz.ntmps48, Exit.thenS]
  refine wpS_of_wp ?_
  go_wp2
  cases c₀
  simp_all [bodyPostS, results, Tryz.results48]

set_option maxRecDepth 100000 in
set_option maxHeartbeats 1000000 in
theorem caught_panic (err at_ len : Int) (b : Nat) (w : World) (c0 c1 c2 c3 : Value) (h0 : w.cell? ⟨b, 0, none⟩ = some c0) (h1 : w.cell? ⟨b, 1, none⟩ = some c1) (h2 : w.cell? ⟨b, 2, none⟩ = some c2) (h3 : w.cell? ⟨b, 3, none⟩ = some c3)
    (hf : ∀ j, w.frozen? ⟨b, j, none⟩ = false) :
    CallsD Tryz.prog 48 #[.pointer (some ⟨b, 0, none⟩)] (.panicking [{ v := refV err at_ len, recovered := false }]) w fun e u' w' =>
      e = .returned (.tuple #[]) ∧ u' = .panicking [{ v := refV err at_ len, recovered := true }] ∧
      w' = ((((w.setCell ⟨b, 0, none⟩ (.slice none 0 0)).setCell ⟨b, 1, none⟩ (.int .i64 err)).setCell ⟨b, 2, none⟩ (.int .i64 at_)).setCell ⟨b, 3, none⟩ (.int .i64 len)).alloc (.cells #[.slice none 0 0, .int .i64 err, .int .i64 at_, .int .i64 len] 101) := by
  have hb : b < w.heap.size := cell_lt h0
  have hb1 : ¬ b = w.heap.size := by omega
  have hb2 : ¬ w.heap.size = b := by omega
  unfold refV
  have hta : ∀ (pv : Value) (W : World), (Instr.typeAssert (.iface 101 pv) 20 101 true).run Tryz.prog W = .ok (.tuple #[pv, .bool true]) W := fun pv W => by kernel_rfl
  refine callsD_of_wpS Tryz.func48 rfl fun c₀ cs hu => ?_
  apply wpS_seq
  apply wpS_region
  simp [wpOpsS, go_sem, recoverD, hu, Tryz.ntmps48, Exit.thenS]
  refine wpS_of_wp ?_
  go_wp2
  clear h0 h1 h2 h3 hf hta
  simp [bodyPostS, results, Tryz.results48, hu]

end Go.Proofs.YthofogokpolhdaaGreatDoor.Parses

namespace Go.Proofs.YthofogokpolhdaaGreatDoor.Parses
open Go.RowKit Go.Shelf
open Go.Proofs.YthofogokpolhdaaGreatDoor.Syms (symZ sfind_v)
open Go.Proofs.YthofogokpolhdaaGreatDoor.Trees (Stp StepsAt cellS StAt elem_step cell_oneS But)
open Go.Proofs.YthofogokpolhdaaGreatDoor.Toks (Tok ToksAt cellK cell_lt cell_same SliceAt Above Grid Spare Elem elem_of append_any both wpList_app)
open Go.Proofs.YthofogokpolhdaaGreatDoor.Style (bs bs_size bs_at getD_at bs_of stZ isN Styles of_any St)
set_option linter.unusedVariables false
set_option linter.unusedSimpArgs false
attribute [local irreducible] symZ readAll

def powN (k : Nat) : Bool := (stZ ((k : Int) + 1)).pow != 0
/-- What Tree makes of tokens: an error, its place and length; or the steps. -/
def treeR (k : Nat) (L : List Tok) (size : Int) : Red → Except (Int × Int × Int) (List Stp)
  | .bad err i => .error (err, placeG L size i, 0)
  | .done s => match s.tree.find? (badS k L) with
    | some x => .error (15, ((tokOf L x).pos : Int), ((tokOf L x).text.length : Int))
    | none => .ok (s.tree.map (nameS k L))
def treeAll (k : Nat) (L : List Tok) (size : Int) : Except (Int × Int × Int) (List Stp) := treeR k L size (readAll (powN k) L)
theorem treeR_some {k : Nat} {L : List Tok} {size : Int} {s : Rd} {x : Stp} (h : s.tree.find? (badS k L) = some x) : treeR k L size (.done s) = .error (15, ((tokOf L x).pos : Int), ((tokOf L x).text.length : Int)) := by
  simp only [treeR, h]
theorem treeR_none {k : Nat} {L : List Tok} {size : Int} {s : Rd} (h : s.tree.find? (badS k L) = none) : treeR k L size (.done s) = .ok (s.tree.map (nameS k L)) := by
  simp only [treeR, h]
/-- How Tree ends. -/
def TreeEnd (k : Nat) (L : List Tok) (size : Int) (w : World) (e : Ending) (w' : World) : Prop :=
  Below w.heap.size w w' ∧ match treeAll k L size with
    | .error (err, at_, len) => e = .returned (.agg #[.slice none 0 0, .int .i64 err, .int .i64 at_, .int .i64 len])
    | .ok T => ∃ v, e = .returned (.agg #[v, .int .i64 0, .int .i64 size, .int .i64 0]) ∧ StepsAt w' v T ∧ Above w.heap.size v

theorem made_reader (W : World) (st : Value) (L : List Tok) (size : Int) (pow : Bool) (hT : ToksAt W st L) :
    RdM W st L size pow (.slice none 0 0) (.slice none 0 0) (.slice none 0 0) zeroR (W.alloc (.cells #[st, .int .i64 size, .bool pow, .slice none 0 0, .slice none 0 0, .bool false, .slice none 0 0] 104)) := by
  have hb := alloc_own W (.cells #[st, .int .i64 size, .bool pow, .slice none 0 0, .slice none 0 0, .bool false, .slice none 0 0] 104)
  exact ⟨hb, by simp [go_sem], by simp [go_sem], by simp [go_sem], by simp [go_sem], by simp [go_sem], by simp [go_sem, zeroR], by simp [go_sem], fun j => by simp [go_sem], hT, .inl ⟨rfl, rfl⟩, .inl ⟨rfl, rfl⟩, .inl ⟨rfl, rfl⟩,
    fun a n c e => (by cases e), fun a n c e => (by cases e), fun a n c e => (by cases e), fun a n c a' n' c' e e' => (by cases e), fun a n c a' n' c' e e' => (by cases e), fun a n c a' n' c' e e' => (by cases e)⟩

theorem caught_v (err at_ len : Int) (b : Nat) (w : World) (c0 c1 c2 c3 : Value) (h0 : w.cell? ⟨b, 0, none⟩ = some c0) (h1 : w.cell? ⟨b, 1, none⟩ = some c1) (h2 : w.cell? ⟨b, 2, none⟩ = some c2) (h3 : w.cell? ⟨b, 3, none⟩ = some c3)
    (hf : ∀ j, w.frozen? ⟨b, j, none⟩ = false) :
    CallsD Tryz.prog 48 #[.pointer (some ⟨b, 0, none⟩)] (.panicking [{ v := refV err at_ len, recovered := false }]) w fun e u' w' =>
      e = .returned (.tuple #[]) ∧ u' = .panicking [{ v := refV err at_ len, recovered := true }] ∧ Below b w w' ∧ w'.cell? ⟨b, 0, none⟩ = some (.slice none 0 0) ∧ w'.cell? ⟨b, 1, none⟩ = some (.int .i64 err) ∧ w'.cell? ⟨b, 2, none⟩ = some (.int .i64 at_) ∧ w'.cell? ⟨b, 3, none⟩ = some (.int .i64 len) := by
  have hlt := cell_lt h0
  refine (caught_panic err at_ len b w c0 c1 c2 c3 h0 h1 h2 h3 hf).mono ?_
  rintro e u' w' ⟨rfl, rfl, hw⟩
  have hX : Below b w ((((w.setCell ⟨b, 0, none⟩ (.slice none 0 0)).setCell ⟨b, 1, none⟩ (.int .i64 err)).setCell ⟨b, 2, none⟩ (.int .i64 at_)).setCell ⟨b, 3, none⟩ (.int .i64 len)) :=
    ((((Below.refl b w).setCell (p := ⟨b, 0, none⟩) (Nat.le_refl _) _).setCell (p := ⟨b, 1, none⟩) (Nat.le_refl _) _).setCell (p := ⟨b, 2, none⟩) (Nat.le_refl _) _).setCell (p := ⟨b, 3, none⟩) (Nat.le_refl _) _
  have x0 : ((((w.setCell ⟨b, 0, none⟩ (.slice none 0 0)).setCell ⟨b, 1, none⟩ (.int .i64 err)).setCell ⟨b, 2, none⟩ (.int .i64 at_)).setCell ⟨b, 3, none⟩ (.int .i64 len)).cell? ⟨b, 0, none⟩ = some (.slice none 0 0) := by simp [go_sem, h0, h1, h2, h3]
  have x1 : ((((w.setCell ⟨b, 0, none⟩ (.slice none 0 0)).setCell ⟨b, 1, none⟩ (.int .i64 err)).setCell ⟨b, 2, none⟩ (.int .i64 at_)).setCell ⟨b, 3, none⟩ (.int .i64 len)).cell? ⟨b, 1, none⟩ = some (.int .i64 err) := by simp [go_sem, h0, h1, h2, h3]
  have x2 : ((((w.setCell ⟨b, 0, none⟩ (.slice none 0 0)).setCell ⟨b, 1, none⟩ (.int .i64 err)).setCell ⟨b, 2, none⟩ (.int .i64 at_)).setCell ⟨b, 3, none⟩ (.int .i64 len)).cell? ⟨b, 2, none⟩ = some (.int .i64 at_) := by simp [go_sem, h0, h1, h2, h3]
  have x3 : ((((w.setCell ⟨b, 0, none⟩ (.slice none 0 0)).setCell ⟨b, 1, none⟩ (.int .i64 err)).setCell ⟨b, 2, none⟩ (.int .i64 at_)).setCell ⟨b, 3, none⟩ (.int .i64 len)).cell? ⟨b, 3, none⟩ = some (.int .i64 len) := by simp [go_sem, h0, h1, h2, h3]
  generalize ((((w.setCell ⟨b, 0, none⟩ (.slice none 0 0)).setCell ⟨b, 1, none⟩ (.int .i64 err)).setCell ⟨b, 2, none⟩ (.int .i64 at_)).setCell ⟨b, 3, none⟩ (.int .i64 len)) = X at *
  have ha := alloc_own X (.cells #[.slice none 0 0, .int .i64 err, .int .i64 at_, .int .i64 len] 101)
  subst hw
  exact ⟨rfl, rfl, hX.trans (ha.mono (by have := hX.size; omega)), (ha.cell (p := ⟨b, 0, none⟩) (cell_lt x0)).trans x0, (ha.cell (p := ⟨b, 1, none⟩) (cell_lt x1)).trans x1, (ha.cell (p := ⟨b, 2, none⟩) (cell_lt x2)).trans x2, (ha.cell (p := ⟨b, 3, none⟩) (cell_lt x3)).trans x3⟩

set_option maxRecDepth 100000 in
set_option maxHeartbeats 4000000 in
theorem tree_v (k : Nat) (lv : Value) (L : List Tok) (size : Int) (w : World) (hk5 : k < 5) (hL : ToksAt w lv L) (hS : Styles w) (hs : ∀ x ∈ L, x.text.length ≤ 1000) (hlen : L.length ≤ 900)
    (hat : ∀ s, readAll (powN k) L = .done s → s.tree.length ≤ 1000000 ∧ ∀ x ∈ s.tree, x.op = 2 → 0 ≤ x.atom ∧ x.atom < L.length) :
    Calls Tryz.prog 30 #[.int .i64 ((k : Int) + 1), lv, .int .i64 size] w (TreeEnd k L size w) := by
  obtain ⟨ol, cl, rfl⟩ := SliceAt.slice hL
  have hmf : ∀ (fn : Fn) (first cap : Array Value) (w : World), (Instr.makeFunc fn first cap).run Tryz.prog w = .ok (.func fn first cap) w := fun _ _ _ _ => rfl
  have hN : isN ((k : Int) + 1) = true := by unfold isN; simp; omega
  have hu1 := alloc_own w (.cells #[.slice none 0 0, .int .i64 0, .int .i64 0, .int .i64 0] 37)
  have hO := of_any ((k : Int) + 1) _ (hS.go hu1)
  rw [hN] at hO
  obtain ⟨⟨sf, sm, sd, sp, so, sc⟩, hst⟩ : ∃ x, stZ ((k : Int) + 1) = x := ⟨_, rfl⟩
  rw [hst] at hO
  unfold St.v at hO
  have hP : Hid (powN k = (sp != 0)) := by show _ = _; unfold powN; rw [hst]
  have hTK := hL.go hu1
  have HAT := Lib.hid hat
  have HS := Lib.hid hs
  clear hat hs hS hL hst hN
  go_enter_defers Tryz.func30, Tryz.ntmps30
  go_wp2_with fail
  refine hO.mono ?_
  rintro e w1 ⟨rfl, hb1⟩
  clear hO
  go_wp2_with fail
  have hb2 := alloc_own w1 (.cells #[.bool sf, .int .u8 sm, .int .u8 sd, .int .u8 sp, .int .u8 so, .int .u8 sc] 43)
  have hT1 := (hTK.go hb1).go hb2
  have hz1 : (w1.alloc (.cells #[.bool sf, .int .u8 sm, .int .u8 sd, .int .u8 sp, .int .u8 so, .int .u8 sc] 43)).heap.size = w1.heap.size + 1 := World.size_alloc _ _
  have hR := read_v _ (.slice ol L.length cl) L size (sp != 0) _ _ _ _ (made_reader _ _ L size (sp != 0) hT1) hlen
  rw [World.size_alloc] at hR
  have hu := hu1.trans (hb1.mono hu1.size)
  have hUB := hu.trans (hb2.mono hu.size)
  have o0 : ∀ v j, (w.alloc (.cells #[.slice none 0 0, .int .i64 0, .int .i64 0, .int .i64 0] 37)).cell? ⟨w.heap.size, j, none⟩ = some v → (w1.alloc (.cells #[.bool sf, .int .u8 sm, .int .u8 sd, .int .u8 sp, .int .u8 so, .int .u8 sc] 43)).cell? ⟨w.heap.size, j, none⟩ = some v := fun v j h => by
    have h1 := (hb1.cell (p := ⟨w.heap.size, j, none⟩) (cell_lt h)).trans h
    exact (hb2.cell (p := ⟨w.heap.size, j, none⟩) (cell_lt h1)).trans h1
  have p0 := o0 (.slice none 0 0) 0 (by simp [go_sem])
  have p1 := o0 (.int .i64 0) 1 (by simp [go_sem])
  have p2 := o0 (.int .i64 0) 2 (by simp [go_sem])
  have p3 := o0 (.int .i64 0) 3 (by simp [go_sem])
  have pf : ∀ j, (w1.alloc (.cells #[.bool sf, .int .u8 sm, .int .u8 sd, .int .u8 sp, .int .u8 so, .int .u8 sc] 43)).frozen? ⟨w.heap.size, j, none⟩ = false := fun j => by
    have hlt : w.heap.size < (w.alloc (.cells #[.slice none 0 0, .int .i64 0, .int .i64 0, .int .i64 0] 37)).heap.size := by rw [World.size_alloc]; omega
    have h0 : (w.alloc (.cells #[.slice none 0 0, .int .i64 0, .int .i64 0, .int .i64 0] 37)).frozen? ⟨w.heap.size, j, none⟩ = false := by simp [go_sem]
    have h1 := (hb1.frozen (p := ⟨w.heap.size, j, none⟩) hlt).trans h0
    exact (hb2.frozen (p := ⟨w.heap.size, j, none⟩) (Nat.lt_of_lt_of_le hlt hb1.size)).trans h1
  have hw1 : w.heap.size < w1.heap.size := by
    have := hb1.size
    rw [World.size_alloc] at this; omega
  have hTB : ∀ a n c, (.slice ol L.length cl : Value) = .slice (some a) n c → a.block < w1.heap.size := fun a n c e => by
    rcases (hTK.go hb1) with ⟨_, h1⟩ | ⟨b', c', e1, _, _, hg⟩
    · rw [h1] at e; cases e
    · rw [e1] at e; injection e with e; injection e with e; subst e; exact hg.2.2
  clear hb1 hb2 hu hu1 hTK o0 hT1
  generalize (w1.alloc (.cells #[.bool sf, .int .u8 sm, .int .u8 sd, .int .u8 sp, .int .u8 so, .int .u8 sc] 43)) = W1 at *
  refine hR.mono ?_
  rintro e w3 hE
  clear hR
  obtain ⟨R, hRA⟩ : ∃ R, readAll (sp != 0) L = R := ⟨_, rfl⟩
  rw [hRA] at hE
  have hTA : treeAll k L size = treeR k L size R := by unfold treeAll; rw [hP.out, hRA]
  have HTA := Lib.hid hTA
  have HTB := Lib.hid hTB
  clear hTA hTB
  cases R with
  | bad err i =>
    obtain ⟨rfl, s, vm, vw, vt, hM⟩ := hE
    have hB := hM.below
    have q0 := (hB.cell (p := ⟨w.heap.size, 0, none⟩) (cell_lt p0)).trans p0
    have q1 := (hB.cell (p := ⟨w.heap.size, 1, none⟩) (cell_lt p0)).trans p1
    have q2 := (hB.cell (p := ⟨w.heap.size, 2, none⟩) (cell_lt p0)).trans p2
    have q3 := (hB.cell (p := ⟨w.heap.size, 3, none⟩) (cell_lt p0)).trans p3
    have qf : ∀ j, w3.frozen? ⟨w.heap.size, j, none⟩ = false := fun j => (hB.frozen (p := ⟨w.heap.size, j, none⟩) (cell_lt p0)).trans (pf j)
    have HU := Lib.hid (hUB.trans (hB.mono hUB.size))
    obtain ⟨pl, hpl⟩ : ∃ pl, placeG L size i = pl := ⟨_, rfl⟩
    rw [hpl]
    have HTA2 : Hid (treeAll k L size = .error (err, pl, 0)) := by show _ = _; rw [HTA.out, ← hpl]; rfl
    clear hM hB p0 p1 p2 p3 pf hUB hRA HTA hpl
    go_wp2_with fail
    refine leaves_cons (f := 48) (args := #[.pointer (some ⟨w.heap.size, 0, none⟩)]) (by simp) (by simp [go_sem]) ?_
    refine (caught_v err pl 0 w.heap.size w3 _ _ _ _ q0 q1 q2 q3 qf).mono ?_
    rintro e u' w4 ⟨rfl, rfl, hb4, r0, r1, r2, r3⟩
    have HU4 := Lib.hid (HU.out.trans hb4)
    clear q0 q1 q2 q3 qf hb4
    simp [Leaves, settle, results, Tryz.results30, go_sem, r0, r1, r2, r3, refV]
    refine ⟨HU4.out, ?_⟩
    rw [HTA2.out]
  | done s =>
    obtain ⟨rfl, vm, vw, vt, hM⟩ := hE
    have hB := hM.below
    obtain ⟨ht1, ht2⟩ := HAT.out s (by rw [hP.out]; exact hRA)
    have c6 := hM.c6
    rw [hz1] at c6
    obtain ⟨ot, ct, rfl⟩ := SliceAt.slice hM.tre
    obtain ⟨bt, hbt, hb1, hb2, hb3⟩ : ∃ bt, (∀ a n c, (.slice ot s.tree.length ct : Value) = .slice (some a) n c → a.block = bt) ∧ w1.heap.size ≤ bt ∧ bt ≠ w1.heap.size + 1 ∧ bt < w3.heap.size := by
      rcases hM.tre with ⟨h0, h1⟩ | ⟨b, c, e1, _, _, hg⟩
      · refine ⟨w1.heap.size, fun a n c e => (by rw [h1] at e; cases e), Nat.le_refl _, by omega, ?_⟩
        have := hB.size; omega
      · have ha := hM.at_ _ _ _ e1
        dsimp only at ha
        refine ⟨b, fun a n c e => (by rw [e1] at e; injection e with e; injection e with e; subst e; rfl), by omega, by omega, hg.2.2⟩
    have hAb : Above (w.heap.size + 1) (.slice ot s.tree.length ct) := hM.at_.mono (by omega)
    have hN := name_v ((k : Int) + 1) k _ (.slice ol L.length cl) bt s.tree L w3 rfl hk5 hM.tre (hM.toks.go hB) hbt (fun a n c e => by have := HTB.out a n c e; omega) hb3 ht2 HS.out ht1
    have q0 := (hB.cell (p := ⟨w.heap.size, 0, none⟩) (cell_lt p0)).trans p0
    have q1 := (hB.cell (p := ⟨w.heap.size, 1, none⟩) (cell_lt p0)).trans p1
    have q2 := (hB.cell (p := ⟨w.heap.size, 2, none⟩) (cell_lt p0)).trans p2
    have q3 := (hB.cell (p := ⟨w.heap.size, 3, none⟩) (cell_lt p0)).trans p3
    have qf : ∀ j, w3.frozen? ⟨w.heap.size, j, none⟩ = false := fun j => (hB.frozen (p := ⟨w.heap.size, j, none⟩) (cell_lt p0)).trans (pf j)
    have hU3 := hUB.trans (hB.mono hUB.size)
    clear hM hB p0 p1 p2 p3 pf hUB hRA ht1 ht2 hbt
    go_wp2_with fail
    refine hN.mono ?_
    rintro e w4 ⟨hbut, hE⟩
    clear hN
    have u0 := hbut.cell q0 (by omega)
    have u1 := hbut.cell q1 (by omega)
    have u2 := hbut.cell q2 (by omega)
    have u3 := hbut.cell q3 (by omega)
    have u6 := hbut.cell c6 (by omega)
    have uf : ∀ j, w4.frozen? ⟨w.heap.size, j, none⟩ = false := fun j => (Toks.frozen_of_block (hbut.block _ (cell_lt q0) (by omega)) j).trans (qf j)
    have hU4 := hU3.trans (hbut.below (show w.heap.size ≤ bt by omega) hU3.size)
    clear q0 q1 q2 q3 qf c6 hU3 hbut
    cases hfd : s.tree.find? (badS k L) with
    | some x =>
      rw [hfd] at hE
      dsimp only at hE
      obtain ⟨pl, hpl⟩ : ∃ pl, ((tokOf L x).pos : Int) = pl := ⟨_, rfl⟩
      obtain ⟨ln, hln⟩ : ∃ ln, ((tokOf L x).text.length : Int) = ln := ⟨_, rfl⟩
      rw [hpl, hln] at hE
      subst hE
      have HTA2 : Hid (treeAll k L size = .error (15, pl, ln)) := by show _ = _; rw [HTA.out, ← hpl, ← hln, treeR_some hfd]
      have HU4 := Lib.hid hU4
      clear hfd hpl hln hU4 HTA
      go_wp2_with fail
      refine leaves_cons (f := 48) (args := #[.pointer (some ⟨w.heap.size, 0, none⟩)]) (by simp) (by simp [go_sem]) ?_
      refine (caught_v 15 pl ln w.heap.size w4 _ _ _ _ u0 u1 u2 u3 uf).mono ?_
      rintro e u' w5 ⟨rfl, rfl, hb5, r0, r1, r2, r3⟩
      have HU5 := Lib.hid (HU4.out.trans hb5)
      clear u0 u1 u2 u3 u6 uf hb5
      simp [Leaves, settle, results, Tryz.results30, go_sem, r0, r1, r2, r3, refV]
      refine ⟨HU5.out, ?_⟩
      rw [HTA2.out]
    | none =>
      rw [hfd] at hE
      obtain ⟨rfl, hSt⟩ := hE
      have HTA2 : Hid (treeAll k L size = .ok (s.tree.map (nameS k L))) := by show _ = _; rw [HTA.out, treeR_none hfd]
      have f0 := uf 0
      have f1 := uf 1
      have f2 := uf 2
      have f3 := uf 3
      clear hfd HTA
      have ho : Toks.Only w.heap.size w4 ((((w4.setCell ⟨w.heap.size, 0, none⟩ (.slice ot s.tree.length ct)).setCell ⟨w.heap.size, 1, none⟩ (.int .i64 0)).setCell ⟨w.heap.size, 2, none⟩ (.int .i64 size)).setCell ⟨w.heap.size, 3, none⟩ (.int .i64 0)) := ((((Toks.Only.refl _ w4).set _ _).set _ _).set _ _).set _ _
      have x0 : ((((w4.setCell ⟨w.heap.size, 0, none⟩ (.slice ot s.tree.length ct)).setCell ⟨w.heap.size, 1, none⟩ (.int .i64 0)).setCell ⟨w.heap.size, 2, none⟩ (.int .i64 size)).setCell ⟨w.heap.size, 3, none⟩ (.int .i64 0)).cell? ⟨w.heap.size, 0, none⟩ = some (.slice ot s.tree.length ct) := by simp [go_sem, u0, u1, u2, u3]
      have x1 : ((((w4.setCell ⟨w.heap.size, 0, none⟩ (.slice ot s.tree.length ct)).setCell ⟨w.heap.size, 1, none⟩ (.int .i64 0)).setCell ⟨w.heap.size, 2, none⟩ (.int .i64 size)).setCell ⟨w.heap.size, 3, none⟩ (.int .i64 0)).cell? ⟨w.heap.size, 1, none⟩ = some (.int .i64 0) := by simp [go_sem, u0, u1, u2, u3]
      have x2 : ((((w4.setCell ⟨w.heap.size, 0, none⟩ (.slice ot s.tree.length ct)).setCell ⟨w.heap.size, 1, none⟩ (.int .i64 0)).setCell ⟨w.heap.size, 2, none⟩ (.int .i64 size)).setCell ⟨w.heap.size, 3, none⟩ (.int .i64 0)).cell? ⟨w.heap.size, 2, none⟩ = some (.int .i64 size) := by simp [go_sem, u0, u1, u2, u3]
      have x3 : ((((w4.setCell ⟨w.heap.size, 0, none⟩ (.slice ot s.tree.length ct)).setCell ⟨w.heap.size, 1, none⟩ (.int .i64 0)).setCell ⟨w.heap.size, 2, none⟩ (.int .i64 size)).setCell ⟨w.heap.size, 3, none⟩ (.int .i64 0)).cell? ⟨w.heap.size, 3, none⟩ = some (.int .i64 0) := by simp [go_sem, u0, u1, u2, u3]
      have hSt5 := hSt.but (But.only ho) hAb
      have HE := Lib.hid (And.intro (hU4.trans (ho.below (Nat.le_refl _))) hSt5)
      have HX := Lib.hid (And.intro x0 (And.intro x1 (And.intro x2 x3)))
      clear ho x0 x1 x2 x3 hSt hSt5 hU4 uf
      go_wp2_with fail
      refine leaves_cons (f := 48) (args := #[.pointer (some ⟨w.heap.size, 0, none⟩)]) (by simp) (by simp [go_sem]) ?_
      refine (caught_idle ⟨w.heap.size, 0, none⟩ _).mono ?_
      rintro e u' w5 ⟨rfl, rfl, rfl⟩
      obtain ⟨x0, x1, x2, x3⟩ := HX.out
      clear u0 u1 u2 u3 u6 f0 f1 f2 f3
      generalize ((((w4.setCell ⟨w.heap.size, 0, none⟩ (.slice ot s.tree.length ct)).setCell ⟨w.heap.size, 1, none⟩ (.int .i64 0)).setCell ⟨w.heap.size, 2, none⟩ (.int .i64 size)).setCell ⟨w.heap.size, 3, none⟩ (.int .i64 0)) = W5 at *
      simp [Leaves, settle, results, Tryz.results30, go_sem, x0, x1, x2, x3]
      refine ⟨HE.out.1, ?_⟩
      rw [HTA2.out]
      exact ⟨_, rfl, HE.out.2, hAb.mono (by omega)⟩

end Go.Proofs.YthofogokpolhdaaGreatDoor.Parses

namespace Go.Proofs.YthofogokpolhdaaGreatDoor.Parses
open Go.Proofs.YthofogokpolhdaaGreatDoor.Trees (Stp)
open Go.Proofs.YthofogokpolhdaaGreatDoor.Toks (Tok ToksAt)
open Go.Proofs.YthofogokpolhdaaGreatDoor.Style (Styles)
set_option linter.unusedVariables false
set_option linter.unusedSimpArgs false

structure SyI (L : List Tok) (s : Rd) : Prop where
  sy : ∀ x ∈ s.tree, x.op = 2 → 0 ≤ x.atom ∧ x.atom < L.length
  wt : ∀ v ∈ s.waits, v ≠ 2
theorem SyI.put {L : List Tok} {s : Rd} (h : SyI L s) (x : Stp) (hx : x.op = 2 → 0 ≤ x.atom ∧ x.atom < L.length) : SyI L (putS s x) := by
  refine ⟨fun y hy => ?_, h.wt⟩
  unfold putS at hy
  rw [List.mem_append, List.mem_singleton] at hy
  rcases hy with hy | rfl
  · exact h.sy y hy
  · exact hx
theorem lastD_mem {α : Type} {l : List α} (d : α) (h : l ≠ []) : l.getLastD d ∈ l := by
  rw [List.getLastD_eq_getLast?, List.getLast?_eq_some_getLast h]
  exact List.getLast_mem h
theorem SyI.last {L : List Tok} {s : Rd} (h : SyI L s) : s.waits.getLastD 0 ≠ 2 := by
  by_cases hw : s.waits = []
  · rw [hw]; decide
  · exact h.wt _ (lastD_mem 0 hw)
theorem SyI.close {L : List Tok} {s : Rd} (h : SyI L s) : SyI L (closeS s) := by
  unfold closeS
  split
  · exact h
  · exact h.put _ (fun e => absurd e h.last)
theorem SyI.waitOn {L : List Tok} {s : Rd} (h : SyI L s) {op : Int} (ho : op ≠ 2) : SyI L (waitS s op) := by
  refine ⟨h.sy, fun v hv => ?_⟩
  unfold waitS at hv
  rw [List.mem_append, List.mem_singleton] at hv
  rcases hv with hv | rfl
  · exact h.wt v ((List.dropLast_sublist _).subset hv)
  · exact ho
theorem SyI.pow {L : List Tok} {s : Rd} (h : SyI L s) (k : Int) : SyI L (powS s k) := by
  refine ⟨fun y hy => ?_, h.wt⟩
  unfold powS at hy
  rw [List.mem_append, List.mem_singleton] at hy
  rcases hy with hy | rfl
  · exact h.sy y (List.dropLast_sublist _ |>.subset hy)
  · by_cases ht : s.tree = []
    · rw [ht]; intro e; cases e
    · have := h.sy _ (lastD_mem default ht)
      exact this
theorem sy_step {pow : Bool} {L : List Tok} {i : Nat} {s s' : Rd} (h : SyI L s) (k : Nat) (hg : askG pow L i s k = .go s') : SyI L s' := by
  match k with
  | 0 =>
    replace hg : inverseG L i s = .go s' := hg
    unfold inverseG at hg
    split at hg <;> cases hg; exact h.waitOn (by decide)
  | 1 =>
    replace hg : symbolG pow L i s = .go s' := hg
    unfold symbolG at hg
    split at hg
    · rename_i hk
      cases hg
      have hp := h.put ⟨2, -1, (i : Int), 1, 0, []⟩ (fun _ => ⟨by dsimp only; omega, by have := isK_len hk; dsimp only; omega⟩)
      exact ⟨hp.sy, hp.wt⟩
    · cases hg
  | 2 =>
    replace hg : numberG L i s = .go s' := hg
    unfold numberG at hg
    split at hg
    · cases hg
      have hp := h.put ⟨1, -1, 0, 0, (L.getD i default).num, []⟩ (fun e => by cases e)
      exact ⟨hp.sy, hp.wt⟩
    · cases hg
  | 3 =>
    replace hg : leftG L i s = .go s' := hg
    unfold leftG at hg
    split at hg
    · split at hg
      · cases hg
      · cases hg
        refine ⟨h.sy, fun v hv => ?_⟩
        unfold openS at hv
        rw [List.mem_append, List.mem_singleton] at hv
        rcases hv with hv | rfl
        · exact h.wt v hv
        · decide
    · cases hg
  | 4 =>
    replace hg : notedG L i s 7 = .go s' := hg
    unfold notedG at hg
    split at hg
    · cases hg
      have hp := h.put ⟨7, -1, 0, 0, 0, (L.getD i default).text⟩ (fun e => by cases e)
      exact ⟨hp.sy, hp.wt⟩
    · cases hg
  | 7 =>
    replace hg : notedG L i s 6 = .go s' := hg
    unfold notedG at hg
    split at hg
    · cases hg
      have hp := h.put ⟨6, -1, 0, 0, 0, (L.getD i default).text⟩ (fun e => by cases e)
      exact ⟨hp.sy, hp.wt⟩
    · cases hg
  | 5 =>
    replace hg : signG L i s = .go s' := hg
    unfold signG at hg; split at hg <;> cases hg; exact ⟨h.sy, h.wt⟩
  | 6 =>
    replace hg : powerG L i s = .go s' := hg
    unfold powerG at hg
    split at hg
    · cases hg
      have hp := h.pow (if s.below = true then 0 - (L.getD i default).num else (L.getD i default).num)
      exact ⟨hp.sy, hp.wt⟩
    · cases hg
  | 8 =>
    replace hg : operatorG L i s = .go s' := hg
    unfold operatorG at hg
    split at hg
    · cases hg; exact h.close.waitOn (by decide)
    · split at hg
      · cases hg; exact h.close.waitOn (by decide)
      · cases hg
  | 9 =>
    replace hg : rightG L i s = .go s' := hg
    unfold rightG at hg
    split at hg
    · cases hg
      exact ⟨h.close.sy, fun v hv => h.wt v ((List.dropLast_sublist _).subset hv)⟩
    · cases hg
  | 10 =>
    replace hg : endG L i s = .go s' := hg
    unfold endG at hg
    split at hg
    · cases hg
    · cases hg; exact h.close
  | k + 11 => 
    replace hg : raiseG L i s = .go s' := hg
    unfold raiseG at hg; split at hg <;> cases hg; exact ⟨h.sy, h.wt⟩
theorem first_go {pow : Bool} {L : List Tok} {i : Nat} {s s' : Rd} : ∀ (row : List Nat), firstG pow L i s row = .go s' → ∃ k ∈ row, askG pow L i s k = .go s'
  | [], h => by cases h
  | k :: r, h => by
    unfold firstG at h
    cases hk : askG pow L i s k with
    | go x => rw [hk] at h; cases h; exact ⟨k, by simp, hk⟩
    | deep => rw [hk] at h; cases h
    | no =>
      rw [hk] at h
      obtain ⟨k', h1, h2⟩ := first_go r h
      exact ⟨k', by simp [h1], h2⟩
theorem read_keeps {pow : Bool} {L : List Tok} : ∀ (m i : Nat) (s s' : Rd), Inv s i → SyI L s → readG pow L i m s = .done s' → Inv s' (i + m) ∧ SyI L s'
  | 0, i, s, s', hI, hs, h => by
    unfold readG at h
    cases h
    exact ⟨hI, hs⟩
  | m + 1, i, s, s', hI, hs, h => by
    unfold readG at h
    cases hf : firstG pow L i s (rowOf s.may) with
    | go x =>
      rw [hf] at h
      obtain ⟨k, hk, hg⟩ := first_go _ hf
      have := read_keeps m (i + 1) x s' (inv_step hI hk hg) (sy_step hs k hg) h
      rw [show i + (m + 1) = i + 1 + m by omega]
      exact this
    | no => rw [hf] at h; cases h
    | deep => rw [hf] at h; cases h
theorem read_tells {pow : Bool} {L : List Tok} {s : Rd} (h : readAll pow L = .done s) : s.tree.length ≤ L.length + 1 ∧ ∀ x ∈ s.tree, x.op = 2 → 0 ≤ x.atom ∧ x.atom < L.length := by
  obtain ⟨h1, h2⟩ := read_keeps (L.length + 1) 0 startR s inv_start ⟨fun x hx => (by cases hx), fun v hv => (by simp [startR, openS, zeroR] at hv; rw [hv]; decide)⟩ h
  exact ⟨by have := h1.t1; omega, h2.sy⟩

theorem tree_any (k : Nat) (lv : Value) (L : List Tok) (size : Int) (w : World) (hk5 : k < 5) (hL : ToksAt w lv L) (hS : Styles w) (hs : ∀ x ∈ L, x.text.length ≤ 1000) (hlen : L.length ≤ 900) :
    Calls Tryz.prog 30 #[.int .i64 ((k : Int) + 1), lv, .int .i64 size] w (TreeEnd k L size w) :=
  tree_v k lv L size w hk5 hL hS hs hlen (fun s h => ⟨by have := (read_tells h).1; omega, (read_tells h).2⟩)

end Go.Proofs.YthofogokpolhdaaGreatDoor.Parses

