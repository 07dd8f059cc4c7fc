/-
  What dims asks of the library's texts: a builder that is written, numbers as texts and back, a text's head cut off; and what the package variables hold.
-/
import Derived.Test.YtndinbefljajcaaDoorD4
import Derived.Test.YtndinbefljajcaaDoorShelf
import Derived.Lib.AppendIntMem
import Derived.Lib.AtoiErrMem
import Derived.Lib.FrozenHead2
import Derived.Lib.OthersKept
import Derived.Shelf.Strings.SlTrimAscii
import Derived.Laws.Externs
namespace Go.Proofs.YtndinbefljajcaaDoor.Dims
open Go.RowKit Go.Shelf
open Go.Proofs.YtndinbefljajcaaDoor.Texts (numA numA_zero)
set_option linter.unusedVariables false
set_option linter.unusedSimpArgs false

/-- Bytes as the model's string. -/
def bs (l : List UInt8) : ByteArray := ⟨l.toArray⟩
theorem bs_app (a b : List UInt8) : bs a ++ bs b = bs (a ++ b) := by
  apply ByteArray.ext
  simp [bs]
theorem bs_size (l : List UInt8) : (bs l).size = l.length := List.size_toArray
theorem bs_extract (s : List UInt8) (i j : Nat) : (bs s).extract i j = bs ((s.take j).drop i) := by
  apply ByteArray.ext
  simp [bs, List.drop_take]
theorem bs_toList (a : List UInt8) : (bs a).toList = a := by
  rw [ByteArray.toList_eq]; rfl

/-! ### What the package variables hold -/

def Tab (w : World) : Prop := Lib.TabIs Tryd.prog w "internal/strconv.uint64pow10" .u64 Lib.pow10Tab
theorem Tab.below {w w' : World} (h : Tab w) (hb : Below w.heap.size w w') : Tab w' := (Lib.tabBelow_of_tabIs h) w' hb
/-- A package variable of an error holds one, or nil. -/
def ErrAt (w : World) (b : Nat) : Prop := b < w.heap.size ∧ ∃ ev, w.cell? ⟨b, 0, none⟩ = some ev ∧ (ev = .nilIface ∨ ∃ te pe, ev = .iface te pe)
theorem ErrAt.below {w w' : World} {b : Nat} (h : ErrAt w b) (hb : Below w.heap.size w w') : ErrAt w' b := by
  obtain ⟨hz, ev, hc, he⟩ := h
  exact ⟨by have := hb.size; omega, ev, (hb.cell (p := ⟨b, 0, none⟩) hz).trans hc, he⟩
/-- dims.letters holds the letters. -/
def Letters (w : World) : Prop := (∀ i, i < 7 → w.cell? ⟨0, i, none⟩ = some (.string (bs [letter i]))) ∧ 0 < w.heap.size
theorem Letters.below {w w' : World} (h : Letters w) (hb : Below w.heap.size w w') : Letters w' :=
  ⟨fun i hi => (hb.cell (p := ⟨0, i, none⟩) h.2).trans (h.1 i hi), by have := hb.size; have := h.2; omega⟩
/-- What telling dims reads of the package variables. -/
def EnvT (w : World) : Prop := Letters w ∧ Tab w ∧ True
theorem EnvT.below {w w' : World} (h : EnvT w) (hb : Below w.heap.size w w') : EnvT w' := ⟨h.1.below hb, h.2.1.below hb, trivial⟩

def Env (w : World) : Prop := Letters w ∧ Tab w ∧ ErrAt w 2 ∧ ErrAt w 3
theorem Env.below {w w' : World} (h : Env w) (hb : Below w.heap.size w w') : Env w' := ⟨h.1.below hb, h.2.1.below hb, h.2.2.1.below hb, h.2.2.2.below hb⟩
theorem Env.t {w : World} (h : Env w) : EnvT w := ⟨h.1, h.2.1, trivial⟩

/-! ### Numbers and texts -/

theorem dec_any (n : Int) (w : World) (hT : Tab w) (h0 : -9223372036854775808 ≤ n) (h1 : n ≤ 9223372036854775807) :
    Calls Tryd.prog 52 #[.int .i64 n] w fun e w' => e = .returned (.string (bs (Lib.itoa n))) ∧ Below w.heap.size w w' := by
  refine (Tryd.strconv_Itoa n h0 h1 w hT).mono ?_
  rintro e w' ⟨rfl, k, os, rfl⟩
  exact ⟨rfl, Lib.below_grow _ _ (Nat.le_refl _) _ _⟩

theorem end3 (e : Lib.NumEnd Int) : (∃ v, e = .ok v) ∨ e = .range ∨ ((∀ v, e ≠ .ok v) ∧ e ≠ .range) := by
  cases e <;> simp

theorem atoi_any (s : List UInt8) (w : World) (h2 : ErrAt w 2) (h3 : ErrAt w 3) (hs : s.length ≤ 1000) :
    Calls Tryd.prog 28 #[.string (bs s)] w fun e w' => ∃ ev, e = .returned (.tuple #[.int .i64 (numA s), ev]) ∧ Below w.heap.size w w' := by
  have hz : (bs s).size ≤ 1000 := by rw [bs_size]; exact hs
  have hd : (bs s).data.toList = s := rfl
  rcases end3 (Lib.atoiAll s) with ⟨v, hp⟩ | hp | hp
  · have hv : numA s = v := by unfold numA; rw [hp]
    rw [hv]
    refine (Tryd.strconv_Atoi_ok (bs s) (by omega) v (by rw [hd]; exact hp) w).mono ?_
    rintro e w' ⟨rfl, rfl | ⟨t, rfl⟩⟩
    · exact ⟨_, rfl, Below.refl _ _⟩
    · exact ⟨_, rfl, Lib.bytesWorld_below _ _ _⟩
  · have hv : numA s = Lib.atoiSat s := by unfold numA; rw [hp]
    rw [hv]
    obtain ⟨_, ev, hc, he⟩ := h3
    refine (Tryd.strconv_Atoi_range (bs s) (by omega) (by rw [hd]; exact hp) ev w hc he).mono ?_
    rintro e w' ⟨N, rfl, _, _, hb⟩
    exact ⟨_, rfl, hb⟩
  · have hv : numA s = 0 := numA_zero s hp
    rw [hv]
    obtain ⟨_, ev, hc, he⟩ := h2
    refine (Tryd.strconv_Atoi_syntax (bs s) (by omega) (by rw [hd]; exact hp) ev w hc he).mono ?_
    rintro e w' ⟨N, rfl, _, _, hb⟩
    exact ⟨_, rfl, hb⟩

theorem cutp_any (s : List UInt8) (c : UInt8) (w : World) :
    Calls Tryd.prog 26 #[.string (bs s), .string (bs [c])] w fun e w' => e = .returned (.tuple #[.string (bs (Lib.trimPrefix s [c])), .bool (Lib.hasPrefix s [c])]) ∧ w = w' := by
  refine (Tryd.strings_CutPrefix (bs s) (bs [c]) w).mono ?_
  rintro e w' ⟨rfl, rfl⟩
  exact ⟨rfl, rfl⟩

theorem trim_any (s : List UInt8) (w : World) :
    Calls Tryd.prog 27 #[.string (bs s), .string (bs nums)] w fun e w' => e = .returned (.string (bs (s.dropWhile isNum))) ∧ Below w.heap.size w w' := by
  refine (Any.strings_TrimLeft_laid Tryd.lays161 (by kernel_rfl) (bs s) (bs nums) w (by decide) ?_).mono ?_
  · intro j b h
    have hm : b ∈ nums := List.mem_of_getElem? h
    revert hm
    simp only [nums, List.mem_cons, List.not_mem_nil, or_false]
    rintro (h | h | h | h | h | h | h | h | h | h | h) <;> subst h <;> decide
  · rintro e w' ⟨rfl, hb⟩
    exact ⟨rfl, hb⟩

/-! ### A builder -/

set_option maxRecDepth 100000 in
set_option maxHeartbeats 1000000 in
theorem check_any (B b : Nat) (l : List Value) (w : World) (h : Lib.IsBuilderF 87 5 B b l w) :
    Calls Tryd.prog 86 #[.pointer (some ⟨b, 0, none⟩)] w fun e w' => e = .returned (.tuple #[]) ∧ Lib.BuilderAtF 87 5 B b (.pointer (some ⟨b, 0, none⟩)) l w' ∧ Below B w w' ∧ Lib.OthersKept 5 (some b) w w' := by
  obtain ⟨j, hj, hjs⟩ : ∃ j, Tryd.prog.info? 87 = some j ∧ j.size = 2 := by
    have hh : (Tryd.prog.info? 87).map (·.size) = some 2 := by kernel_rfl
    exact Option.map_eq_some_iff.1 hh
  have hl : liesAt Tryd.prog Tryd.prog.depth 87 (2 / Tryd.prog.cellsOf 87) 0 87 1 = true := by kernel_rfl
  have up : Tryd.prog.underlying 84 = some (.pointer 87) := by kernel_rfl
  have uu : Tryd.prog.underlying 143 = some .unsafePointer := by kernel_rfl
  have ne : ∀ v : World, (callFunc 106 #[.pointer (some ⟨b, 0, none⟩)]).run Tryd.prog v = .ok (.value (.pointer (some ⟨b, 0, none⟩))) v := by
    intro v
    rw [run_callFunc_extern Tryd.func106 (by kernel_rfl) (by kernel_rfl) (by kernel_rfl) (e := Extern.AbiNoEscape.same) (by kernel_rfl), Lib.run_noEscape]
    rfl
  rcases h with h | h
  · have h0 := h.cell0
    have hf := h.frozen0
    have t1 := Lib.run_to_unsafe (P := Tryd.prog) w ⟨b, 0, none⟩ up uu hj (by rw [hjs]; decide) h.shape (Nat.zero_lt_succ 1)
    have t2 := Lib.run_from_unsafe (P := Tryd.prog) w ⟨b, 0, none⟩ uu up hj h.shape hl
    go_enter Tryd.func86, Tryd.ntmps86
    go_wp2
    go_end0
    exact ⟨rfl, h.used _, (Below.refl B w).setCell (p := ⟨b, 0, none⟩) h.1 _, (Lib.OthersKept.refl _ _ w).setCell ⟨b, 0, none⟩ rfl _⟩
  · have h0 := h.cell0
    have e1 := fun v : World => Lib.run_neq_ptr_same (P := Tryd.prog) v ⟨b, 0, none⟩ up hj
    go_enter Tryd.func86, Tryd.ntmps86
    go_wp2
    go_end0
    exact ⟨rfl, h, Below.refl B _, Lib.OthersKept.refl _ _ _⟩

set_option maxRecDepth 100000 in
set_option maxHeartbeats 2000000 in
/-- What WriteString puts behind what a builder holds. -/
theorem write_any (B b : Nat) (l : List Value) (s : List UInt8) (w : World) (h : Lib.IsBuilderF 87 5 B b l w) (hlen : l.length + s.length ≤ 100000) (hBw : B ≤ w.heap.size) :
    Calls Tryd.prog 57 #[.pointer (some ⟨b, 0, none⟩), .string (bs s)] w fun e w' => e = .returned (.tuple #[.int .i64 s.length, .nilIface]) ∧ Lib.IsBuilderF 87 5 B b (l ++ Lib.byteCells s) w' ∧ Below B w w' ∧ Lib.OthersKept 5 (some b) w w' := by
  obtain ⟨i, hi, z0, z1, z2⟩ := info_parts (show (Tryd.prog.info? 5).map (fun i => (i.zero, i.size, i.bytes)) = some (some (.int .u8 0), 1, 1) by kernel_rfl)
  have us : Tryd.prog.underlying 85 = some (.slice 5) := by kernel_rfl
  have ut : Tryd.prog.underlying 9 = some .string := by kernel_rfl
  have hz : (bs s).size = s.length := bs_size s
  go_enter Tryd.func57, Tryd.ntmps57
  go_wp2_with fail
  refine (check_any B b l w h).mono ?_
  rintro e w1 ⟨rfl, ⟨hB, v, hbk, hown, hne⟩, hb1, hk1⟩
  have hsz := hb1.size
  have c0 : w1.cell? ⟨b, 0, none⟩ = some (.pointer (some ⟨b, 0, none⟩)) := (Lib.cell_of_heap hbk 0).trans rfl
  have c1 : w1.cell? ⟨b, 1, none⟩ = some v := (Lib.cell_of_heap hbk 1).trans rfl
  go_wp2_with (at_builtin; refine Lib.wpList_append_own_stringF _ rfl _ _ 85 9 rfl B 5 i us ut hi z0 z1 z2 _ _ _ rfl hown (bs s) rfl ?c3 ?c4 ?c5 ?_)
  case c3 => unfold maxLen; omega
  case c4 => omega
  case c5 => omega
  intro v' w2 hown2 hg _
  have hlt : b < w1.heap.size := (Array.getElem?_eq_some_iff.1 hbk).1
  have hb2 : w2.heap[b]? = some (.cells #[.pointer (some ⟨b, 0, none⟩), v] 87 (0, 0)) := (hg.block b hlt (fun e => hne e.symm)).trans hbk
  have d0 : w2.cell? ⟨b, 0, none⟩ = some (.pointer (some ⟨b, 0, none⟩)) := (Lib.cell_of_heap hb2 0).trans rfl
  have d1 : w2.cell? ⟨b, 1, none⟩ = some v := (Lib.cell_of_heap hb2 1).trans rfl
  have f1 : w2.frozen? ⟨b, 1, none⟩ = false := Lib.frozen_of_heap hb2 1
  obtain ⟨ao, n', cap, rfl⟩ : ∃ ao n' cap, v' = .slice ao n' cap := by
    rcases hown2.2 with ⟨hv, _⟩ | ⟨g, cap, cur, fz, hv, _⟩
    · exact ⟨_, _, _, hv⟩
    · exact ⟨_, _, _, hv⟩
  have H1 := Lib.hid hown
  have H2 := Lib.hid hown2
  have H3 := Lib.hid hg
  clear hown hown2 hg
  go_wp2
  refine bodyPost_ret (v := .tuple #[.int .i64 s.length, .nilIface]) (by simp [results, Tryd.results57, go_sem]) rfl ⟨rfl, .inr ?_, ?_, (hk1.grown H3.out (Lib.ownsRowF_kind H1.out)).setCell ⟨b, 1, none⟩ rfl _⟩
  · refine Lib.BuilderAtF.put (T := 87) (e := 5) hB hb2 (bs' := l ++ Lib.byteCells s) ?_ (by decide)
    have := H2.out
    rw [List.length_append, Lib.byteCells_length]
    exact this
  · exact (hb1.grown H3.out (by omega) (fun k hk => (H1.out.lt k hk).1)).setCell (p := ⟨b, 1, none⟩) hB _

/-- What a fresh builder holds: nothing. -/
theorem fresh_builder (w : World) : Lib.IsBuilderF 87 5 w.heap.size w.heap.size (Lib.byteCells []) (w.alloc (.cells #[.pointer none, .slice none 0 0] 87)) := by
  exact Lib.IsBuilderF.of (Lib.fresh_isBuilder 87 5 w)

end Go.Proofs.YtndinbefljajcaaDoor.Dims
