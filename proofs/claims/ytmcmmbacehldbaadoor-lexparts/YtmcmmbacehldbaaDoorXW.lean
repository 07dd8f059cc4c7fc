/-
  A builder that is written; contract of lex.Join.
-/
import Derived.Test.YtmcmmbacehldbaaDoorX7
import Derived.Lib.AppendIntMem
import Derived.Lib.FrozenHead2
import Derived.Lib.OthersKept
import Derived.Laws.Externs
namespace Go.Proofs.YtmcmmbacehldbaaDoor.Toks
open Go.RowKit Go.Shelf
open Go.Proofs.YtmcmmbacehldbaaDoor.Style
set_option linter.unusedVariables false
set_option linter.unusedSimpArgs false

set_option maxRecDepth 100000 in
set_option maxHeartbeats 1000000 in
theorem check_any (B b : Nat) (l : List Value) (w : World) (h : Lib.IsBuilderF 57 5 B b l w) :
    Calls Tryd.prog 30 #[.pointer (some ⟨b, 0, none⟩)] w fun e w' => e = .returned (.tuple #[]) ∧ Lib.BuilderAtF 57 5 B b (.pointer (some ⟨b, 0, none⟩)) l w' ∧ Below B w w' ∧ Lib.OthersKept 5 (some b) w w' := by
  obtain ⟨j, hj, hjs⟩ : ∃ j, Tryd.prog.info? 57 = some j ∧ j.size = 2 := by
    have hh : (Tryd.prog.info? 57).map (·.size) = some 2 := by kernel_rfl
    exact Option.map_eq_some_iff.1 hh
  have hl : liesAt Tryd.prog Tryd.prog.depth 57 (2 / Tryd.prog.cellsOf 57) 0 57 1 = true := by kernel_rfl
  have up : Tryd.prog.underlying 55 = some (.pointer 57) := by kernel_rfl
  have uu : Tryd.prog.underlying 82 = some .unsafePointer := by kernel_rfl
  have ne : ∀ v : World, (callFunc 38 #[.pointer (some ⟨b, 0, none⟩)]).run Tryd.prog v = .ok (.value (.pointer (some ⟨b, 0, none⟩))) v := by
    intro v
    rw [run_callFunc_extern Tryd.func38 (by kernel_rfl) (by kernel_rfl) (by kernel_rfl) (e := Extern.AbiNoEscape.same) (by kernel_rfl), Lib.run_noEscape]
    rfl
  rcases h with h | h
  · have h0 := h.cell0
    have hf := h.frozen0
    have t1 := Lib.run_to_unsafe (P := Tryd.prog) w ⟨b, 0, none⟩ up uu hj (by rw [hjs]; decide) h.shape (Nat.zero_lt_succ 1)
    have t2 := Lib.run_from_unsafe (P := Tryd.prog) w ⟨b, 0, none⟩ uu up hj h.shape hl
    go_enter Tryd.func30, Tryd.ntmps30
    go_wp2
    go_end0
    exact ⟨rfl, h.used _, (Below.refl B w).setCell (p := ⟨b, 0, none⟩) h.1 _, (Lib.OthersKept.refl _ _ w).setCell ⟨b, 0, none⟩ rfl _⟩
  · have h0 := h.cell0
    have e1 := fun v : World => Lib.run_neq_ptr_same (P := Tryd.prog) v ⟨b, 0, none⟩ up hj
    go_enter Tryd.func30, Tryd.ntmps30
    go_wp2
    go_end0
    exact ⟨rfl, h, Below.refl B _, Lib.OthersKept.refl _ _ _⟩

set_option maxRecDepth 100000 in
set_option maxHeartbeats 2000000 in
/-- What WriteString puts behind what a builder holds. -/
theorem write_any (B b : Nat) (l : List Value) (s : List UInt8) (w : World) (h : Lib.IsBuilderF 57 5 B b l w) (hlen : l.length + s.length ≤ 100000) (hBw : B ≤ w.heap.size) :
    Calls Tryd.prog 24 #[.pointer (some ⟨b, 0, none⟩), .string (bs s)] w fun e w' => e = .returned (.tuple #[.int .i64 s.length, .nilIface]) ∧ Lib.IsBuilderF 57 5 B b (l ++ Lib.byteCells s) w' ∧ Below B w w' ∧ Lib.OthersKept 5 (some b) w w' := by
  obtain ⟨i, hi, z0, z1, z2⟩ := info_parts (show (Tryd.prog.info? 5).map (fun i => (i.zero, i.size, i.bytes)) = some (some (.int .u8 0), 1, 1) by kernel_rfl)
  have us : Tryd.prog.underlying 44 = some (.slice 5) := by kernel_rfl
  have ut : Tryd.prog.underlying 9 = some .string := by kernel_rfl
  have hz : (bs s).size = s.length := bs_size s
  go_enter Tryd.func24, Tryd.ntmps24
  go_wp2_with fail
  refine (check_any B b l w h).mono ?_
  rintro e w1 ⟨rfl, ⟨hB, v, hbk, hown, hne⟩, hb1, hk1⟩
  have hsz := hb1.size
  have c0 : w1.cell? ⟨b, 0, none⟩ = some (.pointer (some ⟨b, 0, none⟩)) := (Lib.cell_of_heap hbk 0).trans rfl
  have c1 : w1.cell? ⟨b, 1, none⟩ = some v := (Lib.cell_of_heap hbk 1).trans rfl
  go_wp2_with (at_builtin; refine Lib.wpList_append_own_stringF _ rfl _ _ 44 9 rfl B 5 i us ut hi z0 z1 z2 _ _ _ rfl hown (bs s) rfl ?c3 ?c4 ?c5 ?_)
  case c3 => unfold maxLen; omega
  case c4 => omega
  case c5 => omega
  intro v' w2 hown2 hg _
  have hlt : b < w1.heap.size := (Array.getElem?_eq_some_iff.1 hbk).1
  have hb2 : w2.heap[b]? = some (.cells #[.pointer (some ⟨b, 0, none⟩), v] 57 (0, 0)) := (hg.block b hlt (fun e => hne e.symm)).trans hbk
  have d0 : w2.cell? ⟨b, 0, none⟩ = some (.pointer (some ⟨b, 0, none⟩)) := (Lib.cell_of_heap hb2 0).trans rfl
  have d1 : w2.cell? ⟨b, 1, none⟩ = some v := (Lib.cell_of_heap hb2 1).trans rfl
  have f1 : w2.frozen? ⟨b, 1, none⟩ = false := Lib.frozen_of_heap hb2 1
  obtain ⟨ao, n', cap, rfl⟩ : ∃ ao n' cap, v' = .slice ao n' cap := by
    rcases hown2.2 with ⟨hv, _⟩ | ⟨g, cap, cur, fz, hv, _⟩
    · exact ⟨_, _, _, hv⟩
    · exact ⟨_, _, _, hv⟩
  have H1 := Lib.hid hown
  have H2 := Lib.hid hown2
  have H3 := Lib.hid hg
  clear hown hown2 hg
  go_wp2
  refine bodyPost_ret (v := .tuple #[.int .i64 s.length, .nilIface]) (by simp [results, Tryd.results24, go_sem]) rfl ⟨rfl, .inr ?_, ?_, (hk1.grown H3.out (Lib.ownsRowF_kind H1.out)).setCell ⟨b, 1, none⟩ rfl _⟩
  · refine Lib.BuilderAtF.put (T := 57) (e := 5) hB hb2 (bs' := l ++ Lib.byteCells s) ?_ (by decide)
    have := H2.out
    rw [List.length_append, Lib.byteCells_length]
    exact this
  · exact (hb1.grown H3.out (by omega) (fun k hk => (H1.out.lt k hk).1)).setCell (p := ⟨b, 1, none⟩) hB _

/-- What a fresh builder holds: nothing. -/
theorem fresh_builder (w : World) : Lib.IsBuilderF 57 5 w.heap.size w.heap.size (Lib.byteCells []) (w.alloc (.cells #[.pointer none, .slice none 0 0] 57)) := by
  exact Lib.IsBuilderF.of (Lib.fresh_isBuilder 57 5 w)

set_option maxRecDepth 100000 in
set_option maxHeartbeats 2000000 in
/-- What WriteByte puts behind what a builder holds. -/
theorem byte_any (B b : Nat) (l : List Value) (c : Int) (w : World) (h : Lib.IsBuilderF 57 5 B b l w) (hlen : l.length + 1 ≤ 100000) (hBw : B ≤ w.heap.size) :
    Calls Tryd.prog 25 #[.pointer (some ⟨b, 0, none⟩), .int .u8 c] w fun e w' => e = .returned .nilIface ∧ Lib.IsBuilderF 57 5 B b (l ++ [.int .u8 c]) w' ∧ Below B w w' := by
  obtain ⟨i, hi, z0, z1, z2⟩ := info_parts (show (Tryd.prog.info? 5).map (fun i => (i.zero, i.size, i.bytes)) = some (some (.int .u8 0), 1, 1) by kernel_rfl)
  have us : Tryd.prog.underlying 44 = some (.slice 5) := by kernel_rfl
  go_enter Tryd.func25, Tryd.ntmps25
  go_wp2_with fail
  refine (check_any B b l w h).mono ?_
  rintro e w1 ⟨rfl, ⟨hB, v, hbk, hown, hne⟩, hb1, hk1⟩
  have hsz := hb1.size
  have c0 : w1.cell? ⟨b, 0, none⟩ = some (.pointer (some ⟨b, 0, none⟩)) := (Lib.cell_of_heap hbk 0).trans rfl
  have c1 : w1.cell? ⟨b, 1, none⟩ = some v := (Lib.cell_of_heap hbk 1).trans rfl
  have hlt : b < w1.heap.size := (Array.getElem?_eq_some_iff.1 hbk).1
  go_wp2_with (at_builtin; refine wpList_append_ownF _ rfl _ _ 44 rfl B 5 i (.int .u8 0) 1 1 us hi z0 z1 z2 rfl (by decide) _ _ _ rfl (hown.alloc _) ⟨w1.heap.size, 0, none⟩ 1 1 [.int .u8 c] rfl rfl ?c1 ?c2 ?c3 ?c4 ?c5 ?_)
  case c1 =>
    intro j u hj
    match j, hj with
    | 0, hj => simp at hj; subst hj; simp [Addr.add]
  case c2 => intro u hu; simp at hu; subst hu; rfl
  case c3 => unfold maxLen; omega
  case c4 => omega
  case c5 => simp; omega
  intro v' w2 hown' hgrow _
  have hb2 : w2.heap[b]? = some (.cells #[.pointer (some ⟨b, 0, none⟩), v] 57 (0, 0)) := by
    rw [hgrow.block b (by simp; omega) (fun e => hne e.symm), Lib.alloc_old w1 _ b hlt]
    exact hbk
  have d0 : w2.cell? ⟨b, 0, none⟩ = some (.pointer (some ⟨b, 0, none⟩)) := (Lib.cell_of_heap hb2 0).trans rfl
  have d1 : w2.cell? ⟨b, 1, none⟩ = some v := (Lib.cell_of_heap hb2 1).trans rfl
  have f1 : w2.frozen? ⟨b, 1, none⟩ = false := Lib.frozen_of_heap hb2 1
  obtain ⟨ao, n', cap, rfl⟩ : ∃ ao n' cap, v' = .slice ao n' cap := by
    rcases hown'.2 with ⟨hv, _⟩ | ⟨g, cap, cur, fz, hv, _⟩
    · exact ⟨_, _, _, hv⟩
    · exact ⟨_, _, _, hv⟩
  have H1 := Lib.hid hown
  have H2 := Lib.hid hown'
  have H3 := Lib.hid hgrow
  clear hown hown' hgrow
  go_wp2
  go_ret
  refine ⟨rfl, .inr ?_, ?_⟩
  · exact Lib.BuilderAtF.put (T := 57) (e := 5) hB hb2 (bs' := l ++ [.int .u8 c]) (by simpa using H2.out) (by decide)
  · exact ((hb1.alloc (by omega) _).grown H3.out (by simp; omega) (fun k hk => (H1.out.lt k hk).1)).setCell (p := ⟨b, 1, none⟩) hB _

end Go.Proofs.YtmcmmbacehldbaaDoor.Toks
