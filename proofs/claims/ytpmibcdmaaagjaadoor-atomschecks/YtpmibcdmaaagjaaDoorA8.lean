/-
  The contract of the function that atoms.Each hands back: all atoms, by rising places, each with its own copy of its terms; or a beginning of them, where a round has said that no more is wanted.
-/
import Derived.Test.YtpmibcdmaaagjaaDoorA7
import Derived.Test.YtpmibcdmaaagjaaDoorAR
import Derived.RangeFuncBound
import Derived.RangeFuncFrom
import Derived.RangeFuncBox
import Derived.OwnWalkIn
import Derived.TacticsInMore
import Derived.LoopNIn
import Derived.LoopIn
namespace Go.Proofs.YtpmibcdmaaagjaaDoor.Atoms
open Go.RowKit Go.Proofs.YtpmibcdmaaagjaaDoor.Ranges
attribute [local go_sem] Oper.semAt_some
set_option linter.unusedVariables false
set_option linter.unusedSimpArgs false

/-- The blocks from lo to hi are as they were. -/
structure Kept (lo hi : Nat) (V V' : World) : Prop where
  size : V.heap.size ≤ V'.heap.size
  block : ∀ k, lo ≤ k → k < hi → V'.heap[k]? = V.heap[k]?
theorem Kept.refl (lo hi : Nat) (V : World) : Kept lo hi V V := ⟨Nat.le_refl _, fun _ _ _ => rfl⟩
theorem Kept.trans {lo hi : Nat} {A B C : World} (h : Kept lo hi A B) (k : Kept lo hi B C) : Kept lo hi A C := ⟨Nat.le_trans h.size k.size, fun i h1 h2 => (k.block i h1 h2).trans (h.block i h1 h2)⟩
theorem Kept.of {lo hi : Nat} {V V' : World} (h : Below V.heap.size V V') (hh : hi ≤ V.heap.size) : Kept lo hi V V' := ⟨h.size, fun k _ h2 => h.block k (by omega)⟩
theorem Kept.put {lo hi : Nat} (V : World) (l : Nat) (o : Obj) (h : hi ≤ l) : Kept lo hi V (V.putObj l o) := ⟨by simp [World.putObj], fun k _ h2 => World.putObj_heap_other (by omega)⟩
theorem Grid.kept {V V' : World} {b k n : Nat} {f : Nat → Nat → Value} (h : Grid V b k n f) {lo : Nat} (hl : lo ≤ b) (hk : Kept lo V.heap.size V V') : Grid V' b k n f := h.block hk.size (hk.block b hl h.2.2)
theorem SliceAt.kept {V V' : World} {s : Value} {k n : Nat} {f : Nat → Nat → Value} (h : SliceAt V s k n f) {lo : Nat} (hl : Above lo s) (hk : Kept lo V.heap.size V V') : SliceAt V' s k n f := by
  rcases h with h | ⟨b, c, hs, hc, hm, hg⟩
  · exact .inl h
  · have hb : lo ≤ b := hl _ _ _ hs
    exact .inr ⟨b, c, hs, hc, hm.block (hk.block b hb hg.2.2), hg.kept hb hk⟩

/-- What a round is handed: a place, and its atom with a slice of terms. -/
def encA (rows : List Row) (x : Nat × Value) : Array Value := #[.int .i64 (x.1 : Int), .agg ((rows.getD x.1 default).cs x.2)]
def GuardA (rows : List Row) (pre : List (Nat × Value)) (x : Nat × Value) (V : World) : Prop := x.1 = pre.length ∧ x.1 < rows.length ∧ TermsAt V x.2 (rows.getD x.1 default).ts

theorem row_cells {V : World} {b n : Nat} {rows : List Row} {S : Nat → Value} (hg : Grid V b 12 n (cellA rows S)) (k : Nat) (hk : k < n) (r : Row) (hr : rows.getD k default = r) :
    V.cell? ⟨b, k * 12, none⟩ = some (.string (bs r.c0)) ∧ V.cell? ⟨b, k * 12 + 1, none⟩ = some (.string (bs r.c1)) ∧ V.cell? ⟨b, k * 12 + 2, none⟩ = some (.string (bs r.c2)) ∧ V.cell? ⟨b, k * 12 + 3, none⟩ = some (.string (bs r.c3))
    ∧ V.cell? ⟨b, k * 12 + 4, none⟩ = some (.string (bs r.c4)) ∧ V.cell? ⟨b, k * 12 + 5, none⟩ = some (.bool r.m) ∧ V.cell? ⟨b, k * 12 + 6, none⟩ = some (.int .i64 r.tag) ∧ V.cell? ⟨b, k * 12 + 7, none⟩ = some (.int .i64 r.base)
    ∧ V.cell? ⟨b, k * 12 + 8, none⟩ = some (.int .i64 r.num) ∧ V.cell? ⟨b, k * 12 + 9, none⟩ = some (.int .i64 r.den) ∧ V.cell? ⟨b, k * 12 + 10, none⟩ = some (.int .i64 r.ten) ∧ V.cell? ⟨b, k * 12 + 11, none⟩ = some (S k) := by
  subst hr
  exact ⟨hg.1 k hk 0 (by omega), hg.1 k hk 1 (by omega), hg.1 k hk 2 (by omega), hg.1 k hk 3 (by omega), hg.1 k hk 4 (by omega), hg.1 k hk 5 (by omega), hg.1 k hk 6 (by omega), hg.1 k hk 7 (by omega), hg.1 k hk 8 (by omega), hg.1 k hk 9 (by omega), hg.1 k hk 10 (by omega), hg.1 k hk 11 (by omega)⟩
/-- The block b holds an atom alone. -/
def AtomBox (V : World) (b : Nat) (r : Row) (s : Value) : Prop := Grid V b 12 1 (fun _ j => r.cell s j)
theorem AtomBox.new (V : World) (r : Row) (s : Value) : AtomBox (V.alloc (.cells (r.cs s) 40)) V.heap.size r s := by
  refine Grid.new V _ 12 1 _ _ fun i hi j hj => ?_
  have : i = 0 := by omega
  subst this
  rw [Nat.zero_mul, Nat.zero_add]
  unfold Row.cell
  rw [Array.getElem?_eq_getElem (by exact hj)]
  rfl
theorem AtomBox.cells {V : World} {b : Nat} {r : Row} {s : Value} (h : AtomBox V b r s) :
    V.cell? ⟨b, 0, none⟩ = some (.string (bs r.c0)) ∧ V.cell? ⟨b, 1, none⟩ = some (.string (bs r.c1)) ∧ V.cell? ⟨b, 2, none⟩ = some (.string (bs r.c2)) ∧ V.cell? ⟨b, 3, none⟩ = some (.string (bs r.c3))
    ∧ V.cell? ⟨b, 4, none⟩ = some (.string (bs r.c4)) ∧ V.cell? ⟨b, 5, none⟩ = some (.bool r.m) ∧ V.cell? ⟨b, 6, none⟩ = some (.int .i64 r.tag) ∧ V.cell? ⟨b, 7, none⟩ = some (.int .i64 r.base)
    ∧ V.cell? ⟨b, 8, none⟩ = some (.int .i64 r.num) ∧ V.cell? ⟨b, 9, none⟩ = some (.int .i64 r.den) ∧ V.cell? ⟨b, 10, none⟩ = some (.int .i64 r.ten) ∧ V.cell? ⟨b, 11, none⟩ = some s := by
  have h' : ∀ j, j < 12 → V.cell? ⟨b, 0 * 12 + j, none⟩ = some (r.cell s j) := fun j hj => (show Grid V b 12 1 (fun _ j => r.cell s j) from h).1 0 (by omega) j hj
  simp only [Nat.zero_mul, Nat.zero_add] at h'
  exact ⟨h' 0 (by omega), h' 1 (by omega), h' 2 (by omega), h' 3 (by omega), h' 4 (by omega), h' 5 (by omega), h' 6 (by omega), h' 7 (by omega), h' 8 (by omega), h' 9 (by omega), h' 10 (by omega), h' 11 (by omega)⟩

set_option maxRecDepth 100000 in
set_option maxHeartbeats 4000000 in
theorem each1_in (n l ob : Nat) (rows : List Row) (T : Nat → Value) (o : Option Addr) (c lo : Nat) (V0 : World) (hn : 1 ≤ n) (hf : Fits rows)
    (hA : AtomsSl V0 (.slice o rows.length c) rows T) (hab : Above lo (.slice o rows.length c)) (hT : ∀ i, i < rows.length → Above lo (T i)) (hbx : V0.cell? ⟨ob, 0, none⟩ = some (.slice o rows.length c)) (hob : lo ≤ ob ∧ ob < V0.heap.size)
    (J Jx : List (Nat × Value) → World → Prop) (hJ : ∀ pre, Stays (J pre)) (hJx : ∀ pre, Stays (Jx pre))
    (hY : ∀ pre x V, J pre V → GuardA rows pre x V → YieldAt Fence.wide (n - 1) Tryd.prog l (encA rows x) V (RoundTold J Jx (Kept lo V0.heap.size) pre x V))
    (W : World) (hW : Below V0.heap.size V0 W) (h0 : J [] W) :
    CallsIn Fence.wide n Tryd.prog 23 #[.func (.yield l) #[] #[], .pointer (some ⟨ob, 0, none⟩)] W (Ended (fun xs => xs.length = rows.length) (fun pre => pre.length ≤ rows.length) J Jx) := by
  have hK0 : Kept lo V0.heap.size V0 W := Kept.of hW (Nat.le_refl _)
  have hz0 := hW.size
  have hbW : W.cell? ⟨ob, 0, none⟩ = some (.slice o rows.length c) := (hW.cell (p := ⟨ob, 0, none⟩) hob.2).trans hbx
  have hln := hf.len
  refine callsIn_of_wp Tryd.func23 rfl trivial ?_ rfl
  simp only [Tryd.ntmps23, List.size_toArray, List.length_cons, List.length_nil, Nat.reduceAdd, Nat.reduceSub, Array.replicate_succ, Array.replicate_zero, List.push_toArray, List.append_toArray, List.nil_append, List.cons_append]
  gi_wp2
  have HY := Lib.hid hY
  clear hY hbW
  gi_loopw [7] (fun x wr => ∃ (pre : List (Nat × Value)), x = .int .i64 pre.length ∧ pre.length ≤ rows.length ∧ J pre wr ∧ Kept lo V0.heap.size V0 wr)
    (fun x _ => (rows.length - intOf x).toNat)
  case atStart => exact ⟨[], rfl, by simp, h0, hK0⟩
  case round =>
    clear hK0 h0 hW
    obtain ⟨pre, rfl, hk, hj, hK⟩ := hrel
    generalize hkk : pre.length = k at hk ⊢
    have HK := Lib.hid hkk
    clear hkk
    by_cases hkn : k < rows.length
    · have hki : (k : Int) < (rows.length : Int) := by omega
      obtain ⟨b, rfl⟩ : ∃ b, o = some ⟨b, 0, none⟩ := by
        rcases hA.1 with ⟨h0, _⟩ | ⟨b', c', he, _⟩
        · omega
        · injection he with e1 e2 e3
          exact ⟨b', e1⟩
      have hg : Grid wr b 12 rows.length (cellA rows T) := by
        rcases SliceAt.kept hA.1 hab hK with ⟨h0, _⟩ | ⟨b', c', he, _, _, hg⟩
        · omega
        · injection he with e1 e2 e3
          injection e1 with e1
          injection e1 with e1
          rw [e1]
          exact hg
      have ht := SliceAt.kept (hA.2 k hkn) (hT k hkn) hK
      obtain ⟨r, hr⟩ : ∃ r, rows.getD k default = r := ⟨_, rfl⟩
      have hrl := hf.ts k
      rw [hr] at ht hrl
      obtain ⟨d0, d1, d2, d3, d4, d5, d6, d7, d8, d9, d10, d11⟩ := row_cells hg k hkn r hr
      have HR := Lib.hid hr
      clear hr hg
      generalize T k = tk at ht d11
      obtain ⟨ot, ct, rfl⟩ := SliceAt.slice ht
      have hu : Below wr.heap.size wr (wr.alloc (.cells (r.cs (.slice ot r.ts.length ct)) 40)) := (Below.refl _ _).alloc (Nat.le_refl _) _
      have hbox := AtomBox.new wr r (.slice ot r.ts.length ct)
      have hcl := ct_any _ _ _ (wr.alloc (.cells (r.cs (.slice ot r.ts.length ct)) 40)) hrl (SliceAt.go ht hu) (term_one r.ts)
      simp only [Row.cs] at hu hbox hcl
      obtain ⟨x0, x1, x2, x3, x4, x5, x6, x7, x8, x9, x10, x11⟩ := hbox.cells
      gi_wp2
      refine ⟨trivial, (callsIn_wide.2 hcl).mono ?_⟩
      rintro e w2 ⟨s', rfl, hs', _, hb⟩
      obtain ⟨o2, c2, rfl⟩ := SliceAt.slice hs'
      replace hbox := Grid.go hbox hb
      have hB2 := hu.trans (hb.mono hu.size)
      clear x0 x1 x2 x3 x4 x5 x6 x7 x8 x9 x10 x11 hcl hu hb d0 d1 d2 d3 d4 d5 d6 d7 d8 d9 d10 d11
      obtain ⟨x0, x1, x2, x3, x4, x5, x6, x7, x8, x9, x10, x11⟩ := AtomBox.cells hbox
      have hfz := hbox.2.1 11
      have hB3 : Below wr.heap.size wr (w2.setCell ⟨wr.heap.size, 11, none⟩ (.slice o2 r.ts.length c2)) := hB2.setCell (Nat.le_refl _) _
      have hts3 : TermsAt (w2.setCell ⟨wr.heap.size, 11, none⟩ (.slice o2 r.ts.length c2)) (.slice o2 r.ts.length c2) r.ts := TermsAt.text hs' x0 _ _
      obtain ⟨fn, tmps, assign, body, hy, hR⟩ := HY.out pre (k, .slice o2 r.ts.length c2) _ (hJ pre _ _ hj hB3) ⟨HK.out.symm, hkn, by rw [HR.out]; exact hts3⟩
      unfold encA at hy
      rw [show (rows.getD (k, Value.slice o2 r.ts.length c2).1 default) = r from HR.out] at hy
      simp only [Row.cs] at hy
      have HRR := Lib.hid hR
      clear hR
      gi_wp2
      refine HRR.out.mono ?_
      rintro e W3 (⟨rfl, hJ3, hK3⟩ | ⟨rfl, hJx3⟩)
      · gi_wp2
        go_roundw
        case rel =>
          refine ⟨pre ++ [(k, .slice o2 r.ts.length c2)], ?_, ?_, hJ3, (hK.trans (Kept.of hB3 (by have := hK.size; omega))).trans hK3⟩
          · rw [List.length_append, HK.out]; simp
          · rw [List.length_append, HK.out]; simp; omega
        case measure => simp only [intOf]; omega
      · gi_wp2
        refine bodyPost_ret (results_none rfl _ _ _) rfl ?_
        exact ⟨⟨_, rfl⟩, .inr ⟨pre ++ [(k, .slice o2 r.ts.length c2)], by show _ ≤ _; rw [List.length_append, HK.out]; simp; omega, hJx3⟩⟩
    · have hke : k = rows.length := by omega
      have hki : ¬ (k : Int) < (rows.length : Int) := by omega
      gi_wp2
      go_end0
      exact ⟨⟨_, rfl⟩, .inl ⟨pre, HK.out.trans hke, hj⟩⟩

/-- What Each hands back tells the atoms. -/
theorem each_seq (n ob : Nat) (rows : List Row) (T : Nat → Value) (s : Value) (w V0 : World) (hn : 1 ≤ n) (hf : Fits rows) (hI : EachI w V0 ob s rows T rows.length) :
    Seq Fence.wide n Tryd.prog 23 #[.pointer (some ⟨ob, 0, none⟩)] (encA rows) (GuardA rows) (Kept w.heap.size V0.heap.size) (fun xs => xs.length = rows.length) (fun pre => pre.length ≤ rows.length) V0 := by
  intro l J Jx W hW hJ hJx hY h0
  obtain ⟨o, c, rfl⟩ := SliceAt.slice hI.at_.1
  exact each1_in n l ob rows T o c w.heap.size V0 hn hf hI.at_ hI.above hI.made hI.box hI.ob J Jx hJ hJx hY W hW h0

end Go.Proofs.YtpmibcdmaaagjaaDoor.Atoms
