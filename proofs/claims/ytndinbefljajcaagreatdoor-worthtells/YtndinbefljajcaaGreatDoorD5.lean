/-
  What dims asks of the library's texts: a builder that is written, numbers as texts and back, a text's head cut off; and what the package variables hold.
-/
import Derived.Test.YtndinbefljajcaaGreatDoorD4
import Derived.Test.YtndinbefljajcaaGreatDoorShelf
import Derived.Lib.AppendIntMem
import Derived.Lib.AtoiErrMem
import Derived.Lib.FrozenHead2
import Derived.Lib.OthersKept
import Derived.Shelf.Strings.SlTrimAscii
import Derived.Laws.Externs
namespace Go.Proofs.YtndinbefljajcaaGreatDoor.Dims
open Go.RowKit Go.Shelf
open Go.Proofs.YtndinbefljajcaaGreatDoor.Texts (numA numA_zero)
set_option linter.unusedVariables false
set_option linter.unusedSimpArgs false

/-- Bytes as the model's string. -/
def bs (l : List UInt8) : ByteArray := ⟨l.toArray⟩
theorem bs_app (a b : List UInt8) : bs a ++ bs b = bs (a ++ b) := by
  apply ByteArray.ext
  simp [bs]
theorem bs_size (l : List UInt8) : (bs l).size = l.length := List.size_toArray
theorem bs_extract (s : List UInt8) (i j : Nat) : (bs s).extract i j = bs ((s.take j).drop i) := by
  apply ByteArray.ext
  simp [bs, List.drop_take]
theorem bs_toList (a : List UInt8) : (bs a).toList = a := by
  rw [ByteArray.toList_eq]; rfl

/-! ### What the package variables hold -/

def Tab (w : World) : Prop := Lib.TabIs Tryz.prog w "internal/strconv.uint64pow10" .u64 Lib.pow10Tab
theorem Tab.below {w w' : World} (h : Tab w) (hb : Below w.heap.size w w') : Tab w' := (Lib.tabBelow_of_tabIs h) w' hb
/-- A package variable of an error holds one, or nil. -/
def ErrAt (w : World) (b : Nat) : Prop := b < w.heap.size ∧ ∃ ev, w.cell? ⟨b, 0, none⟩ = some ev ∧ (ev = .nilIface ∨ ∃ te pe, ev = .iface te pe)
theorem ErrAt.below {w w' : World} {b : Nat} (h : ErrAt w b) (hb : Below w.heap.size w w') : ErrAt w' b := by
  obtain ⟨hz, ev, hc, he⟩ := h
  exact ⟨by have := hb.size; omega, ev, (hb.cell (p := ⟨b, 0, none⟩) hz).trans hc, he⟩
/-- dims.letters holds the letters. -/
def Letters (w : World) : Prop := (∀ i, i < 7 → w.cell? ⟨0, i, none⟩ = some (.string (bs [letter i]))) ∧ 0 < w.heap.size
theorem Letters.below {w w' : World} (h : Letters w) (hb : Below w.heap.size w w') : Letters w' :=
  ⟨fun i hi => (hb.cell (p := ⟨0, i, none⟩) h.2).trans (h.1 i hi), by have := hb.size; have := h.2; omega⟩
/-- What telling dims reads of the package variables. -/
def EnvT (w : World) : Prop := Letters w ∧ Tab w ∧ True
theorem EnvT.below {w w' : World} (h : EnvT w) (hb : Below w.heap.size w w') : EnvT w' := ⟨h.1.below hb, h.2.1.below hb, trivial⟩

/-! ### Numbers and texts -/

theorem dec_any (n : Int) (w : World) (hT : Tab w) (h0 : -9223372036854775808 ≤ n) (h1 : n ≤ 9223372036854775807) :
    Calls Tryz.prog 30 #[.int .i64 n] w fun e w' => e = .returned (.string (bs (Lib.itoa n))) ∧ Below w.heap.size w w' := by
  refine (Tryz.strconv_Itoa n h0 h1 w hT).mono ?_
  rintro e w' ⟨rfl, k, os, rfl⟩
  exact ⟨rfl, Lib.below_grow _ _ (Nat.le_refl _) _ _⟩

theorem end3 (e : Lib.NumEnd Int) : (∃ v, e = .ok v) ∨ e = .range ∨ ((∀ v, e ≠ .ok v) ∧ e ≠ .range) := by
  cases e <;> simp

/-! ### A builder -/

set_option maxRecDepth 100000 in
set_option maxHeartbeats 1000000 in
theorem check_any (B b : Nat) (l : List Value) (w : World) (h : Lib.IsBuilderF 95 5 B b l w) :
    Calls Tryz.prog 88 #[.pointer (some ⟨b, 0, none⟩)] w fun e w' => e = .returned (.tuple #[]) ∧ Lib.BuilderAtF 95 5 B b (.pointer (some ⟨b, 0, none⟩)) l w' ∧ Below B w w' ∧ Lib.OthersKept 5 (some b) w w' := by
  obtain ⟨j, hj, hjs⟩ : ∃ j, Tryz.prog.info? 95 = some j ∧ j.size = 2 := by
    have hh : (Tryz.prog.info? 95).map (·.size) = some 2 := by kernel_rfl
    exact Option.map_eq_some_iff.1 hh
  have hl : liesAt Tryz.prog Tryz.prog.depth 95 (2 / Tryz.prog.cellsOf 95) 0 95 1 = true := by kernel_rfl
  have up : Tryz.prog.underlying 93 = some (.pointer 95) := by kernel_rfl
  have uu : Tryz.prog.underlying 132 = some .unsafePointer := by kernel_rfl
  have ne : ∀ v : World, (callFunc 97 #[.pointer (some ⟨b, 0, none⟩)]).run Tryz.prog v = .ok (.value (.pointer (some ⟨b, 0, none⟩))) v := by
    intro v
    rw [run_callFunc_extern Tryz.func97 (by kernel_rfl) (by kernel_rfl) (by kernel_rfl) (e := Extern.AbiNoEscape.same) (by kernel_rfl), Lib.run_noEscape]
    rfl
  rcases h with h | h
  · have h0 := h.cell0
    have hf := h.frozen0
    have t1 := Lib.run_to_unsafe (P := Tryz.prog) w ⟨b, 0, none⟩ up uu hj (by rw [hjs]; decide) h.shape (Nat.zero_lt_succ 1)
    have t2 := Lib.run_from_unsafe (P := Tryz.prog) w ⟨b, 0, none⟩ uu up hj h.shape hl
    go_enter Tryz.func88, Tryz.ntmps88
    go_wp2
    go_end0
    exact ⟨rfl, h.used _, (Below.refl B w).setCell (p := ⟨b, 0, none⟩) h.1 _, (Lib.OthersKept.refl _ _ w).setCell ⟨b, 0, none⟩ rfl _⟩
  · have h0 := h.cell0
    have e1 := fun v : World => Lib.run_neq_ptr_same (P := Tryz.prog) v ⟨b, 0, none⟩ up hj
    go_enter Tryz.func88, Tryz.ntmps88
    go_wp2
    go_end0
    exact ⟨rfl, h, Below.refl B _, Lib.OthersKept.refl _ _ _⟩

set_option maxRecDepth 100000 in
set_option maxHeartbeats 2000000 in
/-- What WriteString puts behind what a builder holds. -/
theorem write_any (B b : Nat) (l : List Value) (s : List UInt8) (w : World) (h : Lib.IsBuilderF 95 5 B b l w) (hlen : l.length + s.length ≤ 100000) (hBw : B ≤ w.heap.size) :
    Calls Tryz.prog 64 #[.pointer (some ⟨b, 0, none⟩), .string (bs s)] w fun e w' => e = .returned (.tuple #[.int .i64 s.length, .nilIface]) ∧ Lib.IsBuilderF 95 5 B b (l ++ Lib.byteCells s) w' ∧ Below B w w' ∧ Lib.OthersKept 5 (some b) w w' := by
  obtain ⟨i, hi, z0, z1, z2⟩ := info_parts (show (Tryz.prog.info? 5).map (fun i => (i.zero, i.size, i.bytes)) = some (some (.int .u8 0), 1, 1) by kernel_rfl)
  have us : Tryz.prog.underlying 88 = some (.slice 5) := by kernel_rfl
  have ut : Tryz.prog.underlying 9 = some .string := by kernel_rfl
  have hz : (bs s).size = s.length := bs_size s
  go_enter Tryz.func64, Tryz.ntmps64
  go_wp2_with fail
  refine (check_any B b l w h).mono ?_
  rintro e w1 ⟨rfl, ⟨hB, v, hbk, hown, hne⟩, hb1, hk1⟩
  have hsz := hb1.size
  have c0 : w1.cell? ⟨b, 0, none⟩ = some (.pointer (some ⟨b, 0, none⟩)) := (Lib.cell_of_heap hbk 0).trans rfl
  have c1 : w1.cell? ⟨b, 1, none⟩ = some v := (Lib.cell_of_heap hbk 1).trans rfl
  go_wp2_with (at_builtin; refine Lib.wpList_append_own_stringF _ rfl _ _ 88 9 rfl B 5 i us ut hi z0 z1 z2 _ _ _ rfl hown (bs s) rfl ?c3 ?c4 ?c5 ?_)
  case c3 => unfold maxLen; omega
  case c4 => omega
  case c5 => omega
  intro v' w2 hown2 hg _
  have hlt : b < w1.heap.size := (Array.getElem?_eq_some_iff.1 hbk).1
  have hb2 : w2.heap[b]? = some (.cells #[.pointer (some ⟨b, 0, none⟩), v] 95 (0, 0)) := (hg.block b hlt (fun e => hne e.symm)).trans hbk
  have d0 : w2.cell? ⟨b, 0, none⟩ = some (.pointer (some ⟨b, 0, none⟩)) := (Lib.cell_of_heap hb2 0).trans rfl
  have d1 : w2.cell? ⟨b, 1, none⟩ = some v := (Lib.cell_of_heap hb2 1).trans rfl
  have f1 : w2.frozen? ⟨b, 1, none⟩ = false := Lib.frozen_of_heap hb2 1
  obtain ⟨ao, n', cap, rfl⟩ : ∃ ao n' cap, v' = .slice ao n' cap := by
    rcases hown2.2 with ⟨hv, _⟩ | ⟨g, cap, cur, fz, hv, _⟩
    · exact ⟨_, _, _, hv⟩
    · exact ⟨_, _, _, hv⟩
  have H1 := Lib.hid hown
  have H2 := Lib.hid hown2
  have H3 := Lib.hid hg
  clear hown hown2 hg
  go_wp2
  refine bodyPost_ret (v := .tuple #[.int .i64 s.length, .nilIface]) (by simp [results, Tryz.results64, go_sem]) rfl ⟨rfl, .inr ?_, ?_, (hk1.grown H3.out (Lib.ownsRowF_kind H1.out)).setCell ⟨b, 1, none⟩ rfl _⟩
  · refine Lib.BuilderAtF.put (T := 95) (e := 5) hB hb2 (bs' := l ++ Lib.byteCells s) ?_ (by decide)
    have := H2.out
    rw [List.length_append, Lib.byteCells_length]
    exact this
  · exact (hb1.grown H3.out (by omega) (fun k hk => (H1.out.lt k hk).1)).setCell (p := ⟨b, 1, none⟩) hB _

/-- What a fresh builder holds: nothing. -/
theorem fresh_builder (w : World) : Lib.IsBuilderF 95 5 w.heap.size w.heap.size (Lib.byteCells []) (w.alloc (.cells #[.pointer none, .slice none 0 0] 95)) := by
  exact Lib.IsBuilderF.of (Lib.fresh_isBuilder 95 5 w)

end Go.Proofs.YtndinbefljajcaaGreatDoor.Dims
