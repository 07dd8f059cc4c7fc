/-
  Contracts of atoms.prefixes, bases.
-/
import Derived.Test.YtgbhfhdhmkmpcaaAT
import Derived.Deep.WholeRow
import Derived.Deep.MidRow
namespace Go.Proofs.Ytgbhfhdhmkmpcaa.Atoms
open Go.RowKit Go.Shelf
set_option linter.unusedVariables false
set_option linter.unusedSimpArgs false

/-- No call is known. -/
def knowNone (f : FuncId) (args : Array Value) : Option (Value × List Obj) := none
theorem known_none : Known Try.prog knowNone := by
  intro f args v os h
  cases h
def PrefsEnd (w : World) (ps : List Pre) (e : Ending) (w' : World) : Prop := ∃ s, e = .returned s ∧ PrefsSl w' s ps ∧ Above w.heap.size s ∧ Below w.heap.size w w'
def layPs (ps : List Pre) : List Obj := [.cells (flat 6 ps.length (cellP ps)).toArray 89]
theorem prefs_end (w : World) (ps : List Pre) : PrefsEnd w ps (.returned (.slice (some ⟨w.heap.size + 0, 0, none⟩) ps.length ps.length)) (laid w (layPs ps)) := by
  have hb : (laid w (layPs ps)).heap[w.heap.size + 0]? = some (.cells (flat 6 ps.length (cellP ps)).toArray 89) := by rw [laid_get]; rfl
  refine ⟨_, rfl, .inr ⟨_, _, rfl, Nat.le_refl _, ?_, ?_⟩, ?_, laid_below w _⟩
  · have := Spare.of_cells hb
    have hs : (flat 6 ps.length (cellP ps)).toArray.size = ps.length * 6 := by rw [List.size_toArray, flat_length]
    exact fun j hj => this j (by rw [hs]; exact hj)
  · refine Grid.old hb fun i hi j hj => ?_
    rw [List.getElem?_toArray]
    exact flat_at hi hj
  · intro a m c e
    injection e with e1
    injection e1 with e1
    rw [← e1]
    exact Nat.le_refl _

set_option maxRecDepth 1000000 in
set_option maxHeartbeats 4000000 in
theorem prefixes_any (w : World) : Calls Try.prog 34 #[] w (PrefsEnd w tablePs) := by
  go_enter Try.func34, Try.ntmps34
  refine wp_seq (wp_region_list ?_)
  refine wpList_plain rfl fun K hK => hK _ _ ?_
  show Code.wp _ _ _ _ _
  refine wp_seq (wp_region_list ?_)
  refine wpList_run known_none w 42 _ _ 0 42 (.slice (some ⟨w.heap.size + 0, 0, none⟩) tablePs.length tablePs.length) (layPs tablePs) (by kernel_rfl) ?_
  intro a' hs hN hd
  refine wpList_nil (wp_ret ?_)
  refine bodyPost_ret (v := .slice (some ⟨w.heap.size + 0, 0, none⟩) tablePs.length tablePs.length) ?_ hd (prefs_end w tablePs)
  rw [← hs]
  exact results_tmp rfl _ _ _


theorem wpList_ran {P : Program} {w V : World} {ops : Array Oper} {rest : List Oper} {o : Oper} {a : Act} {Q : Exit → Act → World → Prop} {v : Value} (hg : o.guard = none) (hr : (execOp a.eval o).run P w = .ok (.value v) V) (h : wpList P ops Q rest (a.put o.dst v) V) : wpList P ops Q (o :: rest) a w := by
  refine wpList_plain hg fun K hK => ?_
  unfold Oper.wp
  rw [hr]
  exact hK _ _ h
theorem wpList_skips {P : Program} {w V : World} {ops : Array Oper} {rest : List Oper} {o : Oper} {a : Act} {Q : Exit → Act → World → Prop} (hg : o.guard = none) (hd : o.dst = none) (hr : (execOp a.eval o).run P w = .ok .skip V) (h : wpList P ops Q rest a V) : wpList P ops Q (o :: rest) a w := by
  refine wpList_plain hg fun K hK => ?_
  unfold Oper.wp
  rw [hr]
  simp only [Oper.upon, hd, Act.put]
  exact hK _ _ h
theorem size_cells (b : Nat) : ∀ (vs : List Value) (o : Nat) (w : World), (w.setCells b o vs).heap.size = w.heap.size
  | [], _, _ => rfl
  | v :: r, o, w => by show ((w.setCell ⟨b, o, none⟩ v).setCells b (o + 1) r).heap.size = _; rw [size_cells b r (o + 1) _, World.size_setCell]
theorem only_cells (b : Nat) : ∀ (vs : List Value) (o : Nat) (w w0 : World), Only b w0 w → Only b w0 (w.setCells b o vs)
  | [], _, _, _, h => h
  | v :: r, o, w, w0, h => only_cells b r (o + 1) _ w0 (h.set o v)
theorem Spare.cells {w : World} {b m : Nat} (h : Spare w b m) (b' : Nat) : ∀ (vs : List Value) (o : Nat), Spare (w.setCells b' o vs) b m := by
  intro vs
  induction vs generalizing w with
  | nil => intro o; exact h
  | cons v r ih => intro o; exact ih (h.set b' o v) (o + 1)
/-- More rows behind those that there are. -/
theorem Grid.append {w : World} {b k n m : Nat} {f g : Nat → Nat → Value} (h : Grid w b k n f) (hk : 0 < k) (hs : Spare w b ((n + m) * k)) :
    Grid (w.setCells b (n * k) (Atoms.flat k m g)) b k (n + m) (fun i j => if i < n then f i j else g (i - n) j) := by
  have hl := flat_length k m g
  refine ⟨fun i hi j hj => ?_, fun j => ?_, ?_⟩
  · show _ = some (if i < n then f i j else g (i - n) j)
    by_cases hin : i < n
    · rw [if_pos hin, World.cell?_setCells_out]
      · exact h.1 i hin j hj
      · intro _ _
        left
        show i * k + j < n * k
        have : (i + 1) * k ≤ n * k := Nat.mul_le_mul_right k hin
        rw [Nat.add_mul] at this; omega
    · rw [if_neg hin]
      have e : i * k + j = n * k + ((i - n) * k + j) := by
        have : i * k = n * k + (i - n) * k := by rw [← Nat.add_mul]; congr 1; omega
        omega
      have hlt : (i - n) * k + j < (Atoms.flat k m g).length := by
        rw [hl]
        have : (i - n + 1) * k ≤ m * k := Nat.mul_le_mul_right k (by omega)
        rw [Nat.add_mul] at this; omega
      rw [e, World.cell?_setCells_in b _ _ w (fun j' hj' => hs _ (by rw [hl] at hj'; rw [Nat.add_mul]; omega)) _ hlt]
      have := flat_at (k := k) (n := m) (f := g) (i := i - n) (j := j) (by omega) hj
      rw [List.getElem?_eq_getElem hlt] at this
      exact this
  · rw [World.frozen?_setCells]; exact h.2.1 j
  · rw [size_cells]; exact h.2.2

/-- A row of operations that lay nothing, as far as k; the frame is told. -/
theorem wpList_evs {P : Program} {K : FuncId → Array Value → Option (Value × List Obj)} (hK : Known P K) {ops : Array Oper} {Q : Exit → Act → World → Prop} (w : World) (k : Nat) (l : List Oper) (a a' : Act)
    (h : evOps P K w.heap.size (l.take k) a [] = some (a', [])) (hr : wpList P ops Q (l.drop k) a' w) : wpList P ops Q l a w := by
  have hw := wpList_ev hK w (l.drop k) (l.take k) a [] a' [] h (by rw [laid_nil]; exact hr)
  rw [List.take_append_drop, laid_nil] at hw
  exact hw
/-- The bases' codes, as one array. -/
def calledL : List Value := codesB.flatMap fun c => c.cs.toList
def calledV : Value := .agg calledL.toArray
def oneV (i : Nat) : Value := .agg (codesB.getD i ⟨[], [], [], [], []⟩).cs
theorem called0 (V : World) : (Instr.index 82 calledV (.int .i64 0)).run Try.prog V = .ok (oneV 0) V := by kernel_rfl
theorem called1 (V : World) : (Instr.index 82 calledV (.int .i64 1)).run Try.prog V = .ok (oneV 1) V := by kernel_rfl
theorem called2 (V : World) : (Instr.index 82 calledV (.int .i64 2)).run Try.prog V = .ok (oneV 2) V := by kernel_rfl
theorem called3 (V : World) : (Instr.index 82 calledV (.int .i64 3)).run Try.prog V = .ok (oneV 3) V := by kernel_rfl
theorem called4 (V : World) : (Instr.index 82 calledV (.int .i64 4)).run Try.prog V = .ok (oneV 4) V := by kernel_rfl
theorem called5 (V : World) : (Instr.index 82 calledV (.int .i64 5)).run Try.prog V = .ok (oneV 5) V := by kernel_rfl
theorem called6 (V : World) : (Instr.index 82 calledV (.int .i64 6)).run Try.prog V = .ok (oneV 6) V := by kernel_rfl
theorem called_at (V : World) : ∀ i, i < 7 → (Instr.index 82 calledV (.int .i64 (i : Nat))).run Try.prog V = .ok (oneV i) V := by
  intro i hi
  match i, hi with
  | 0, _ => exact called0 V
  | 1, _ => exact called1 V
  | 2, _ => exact called2 V
  | 3, _ => exact called3 V
  | 4, _ => exact called4 V
  | 5, _ => exact called5 V
  | 6, _ => exact called6 V
theorem exec_alloc {P : Program} {w V : World} {ρ : Operand → Value} {o : Oper} {t : TypeId} {v : Value} (ho : o.op = .alloc t) (h : (Instr.alloc t true (.tuple #[])).run P w = .ok v V) : (execOp ρ o).run P w = .ok (.value v) V := by
  unfold execOp
  simp only [ho, Sem.run_bind, h, Result.andThen_ok, Sem.run_pure]
theorem exec_make {P : Program} {w V : World} {ρ : Operand → Value} {o : Oper} {t : TypeId} {x y : Operand} {v : Value} (ho : o.op = .makeSlice t x y) (h : (Instr.makeSlice t (ρ x) (ρ y)).run P w = .ok v V) : (execOp ρ o).run P w = .ok (.value v) V := by
  unfold execOp
  simp only [ho, Sem.run_bind, h, Result.andThen_ok, Sem.run_pure]
theorem exec_load {P : Program} {w V : World} {ρ : Operand → Value} {o : Oper} {t : TypeId} {x : Operand} {v : Value} (ho : o.op = .load t x) (h : (Instr.loadAt t (ρ x)).run P w = .ok v V) : (execOp ρ o).run P w = .ok (.value v) V := by
  unfold execOp
  simp only [ho, Sem.run_bind, h, Result.andThen_ok, Sem.run_pure]
theorem exec_store {P : Program} {w V : World} {ρ : Operand → Value} {o : Oper} {t : TypeId} {x y : Operand} (ho : o.op = .store t x y) (h : (Instr.storeAt t (ρ x) (ρ y)).run P w = .ok () V) : (execOp ρ o).run P w = .ok .skip V := by
  unfold execOp
  simp only [ho, Sem.run_bind, h, Result.andThen_ok, Sem.run_pure]

/-- The array's first cells, the slice's first cells. -/
def zeros35 : Array Value := Array.replicate 35 (.string ⟨#[]⟩)
def zeros84 : Array Value := (Array.range 84).map fun i => ((⟨[], [], [], [], [], false, 0, 0, 0, 0, 0, []⟩ : Row).cs (.slice none 0 0))[i % 12]!
theorem make84 (V : World) : (Instr.makeSlice 54 (.int .i64 0) (.int .i64 7)).run Try.prog V = .ok (.slice (some ⟨V.heap.size, 0, none⟩) 0 7) (V.alloc (.cells zeros84 73)) := by kernel_rfl
theorem alloc35 (V : World) : (Instr.alloc 82 true (.tuple #[])).run Try.prog V = .ok (.pointer (some ⟨V.heap.size, 0, none⟩)) (V.alloc (.cells zeros35 82)) := by kernel_rfl
theorem store35 (V : World) : (Instr.storeAt 82 (.pointer (some ⟨V.heap.size, 0, none⟩)) calledV).run Try.prog (V.alloc (.cells zeros35 82)) = .ok () (V.alloc (.cells calledL.toArray 82)) :=
  run_storeAt_new V 82 zeros35 calledL.toArray (by kernel_rfl) (by kernel_rfl) (by kernel_rfl)
theorem load35 (V : World) (o : Obj) : (Instr.loadAt 82 (.pointer (some ⟨V.heap.size, 0, none⟩))).run Try.prog ((V.alloc (.cells calledL.toArray 82)).alloc o) = .ok calledV ((V.alloc (.cells calledL.toArray 82)).alloc o) := by
  have hh : ((V.alloc (.cells calledL.toArray 82)).alloc o).heap[V.heap.size]? = some (.cells calledL.toArray 82) :=
    (Below.heap_alloc _ _ _ (by rw [World.size_alloc]; omega)).trans (World.alloc_heap_new V _)
  exact run_loadAt_mid _ V.heap.size 0 82 calledL (.array 7 81) (fun j v hv => by simp [World.cell?, hh, hv]) (by kernel_rfl) rfl (by kernel_rfl)
/-- How the world stands while the bases are laid. -/
structure BasesI (w wr : World) (b k : Nat) : Prop where
  grid : Grid wr b 12 k (cellA rowsB (fun _ => .slice none 0 0))
  spare : Spare wr b 84
  b : w.heap.size ≤ b
  below : Below w.heap.size w wr

theorem rowB_at (k : Nat) (h : k < 7) : rowsB.getD k default = ⟨(codesB.getD k ⟨[], [], [], [], []⟩).c0, (codesB.getD k ⟨[], [], [], [], []⟩).c1, (codesB.getD k ⟨[], [], [], [], []⟩).c2, (codesB.getD k ⟨[], [], [], [], []⟩).c3, (codesB.getD k ⟨[], [], [], [], []⟩).c4, true, 0, (k : Int), 1, 1, 0, []⟩ := by
  match k, h with
  | 0, _ => rfl
  | 1, _ => rfl
  | 2, _ => rfl
  | 3, _ => rfl
  | 4, _ => rfl
  | 5, _ => rfl
  | 6, _ => rfl

attribute [local irreducible] calledV zeros84 zeros35 calledL oneV

set_option maxRecDepth 1000000 in
set_option maxHeartbeats 4000000 in
theorem bases_any (w : World) : Calls Try.prog 31 #[] w (RowsEnd w rowsB) := by
  go_enter Try.func31, Try.ntmps31
  refine wp_seq (wp_region_list ?_)
  refine wpList_plain rfl fun K hK => hK _ _ ?_
  show Code.wp _ _ _ _ _
  refine wp_seq (wp_region_list ?_)
  refine wpList_evs known_none w 8 _ _ { tmps := #[.slice none 0 0, undef, undef, undef, undef, oneV 0, oneV 1, oneV 2, oneV 3, oneV 4, oneV 5, oneV 6, calledV, undef, undef, undef, undef, undef, undef, undef, undef, undef, undef, undef, undef, undef, undef], defers := [] } (by kernel_rfl) ?_
  refine wpList_ran rfl (exec_alloc rfl (alloc35 w)) ?_
  refine wpList_skips rfl rfl (exec_store rfl (store35 w)) ?_
  refine wpList_nil ?_
  show Code.wp _ _ _ _ _
  refine wp_seq (wp_region_list ?_)
  refine wpList_ran rfl (exec_make rfl (make84 _)) ?_
  refine wpList_plain rfl fun K2 hK2 => hK2 _ _ ?_
  show Code.wp _ _ _ _ _
  refine wp_seq ?_
  refine wp_seq (wp_region_list ?_)
  refine wpList_ran rfl (exec_load rfl (load35 w _)) ?_
  refine wpList_plain rfl fun K3 hK3 => hK3 _ _ ?_
  rw [World.size_alloc]
  show Code.wp _ _ _ { tmps := #[.slice none 0 0, .pointer (some ⟨w.heap.size, 0, none⟩), .slice (some ⟨w.heap.size + 1, 0, none⟩) 0 7, undef, undef, oneV 0, oneV 1, oneV 2, oneV 3, oneV 4, oneV 5, oneV 6, calledV, .slice (some ⟨w.heap.size + 1, 0, none⟩) 0 7, calledV, .int .i64 0, undef, undef, undef, undef, undef, undef, undef, undef, undef, undef, undef], defers := [] } _
  have hI : BasesI w ((w.alloc (.cells calledL.toArray 82)).alloc (.cells zeros84 73)) (w.heap.size + 1) 0 := by
    have hn := World.alloc_heap_new (w.alloc (.cells calledL.toArray 82)) (.cells zeros84 73)
    rw [World.size_alloc] at hn
    refine ⟨Grid.old hn (fun i hi => absurd hi (by omega)), ?_, by omega, ?_⟩
    · have := Spare.of_cells hn
      rwa [show zeros84.size = 84 by kernel_rfl] at this
    · exact ((Below.refl _ _).alloc (Nat.le_refl _) _).alloc (by rw [World.size_alloc]; omega) _
  generalize ((w.alloc (.cells calledL.toArray 82)).alloc (.cells zeros84 73)) = V at hI ⊢
  clear hK hK2 hK3
  go_wp2
  go_loopw [2, 15] (fun s x wr => ∃ k : Nat, s = .slice (some ⟨w.heap.size + 1, 0, none⟩) k 7 ∧ x = .int .i64 k ∧ k ≤ 7 ∧ BasesI w wr (w.heap.size + 1) k) (fun _ x _ => (7 - intOf x).toNat)
  case atStart => exact ⟨0, rfl, rfl, by omega, hI⟩
  case round =>
    clear hI
    obtain ⟨k, rfl, rfl, hk, hI⟩ := hrel
    by_cases h7 : k < 7
    · have k7 : (k : Int) < 7 := by omega
      have hix := fun V => called_at V k h7
      obtain ⟨c, hc⟩ : ∃ c, codesB.getD k ⟨[], [], [], [], []⟩ = c := ⟨_, rfl⟩
      rw [show oneV k = .agg #[.string (bs c.c0), .string (bs c.c1), .string (bs c.c2), .string (bs c.c3), .string (bs c.c4)] by unfold oneV; rw [hc]; rfl] at hix
      have hrow : rowsB.getD k default = ⟨c.c0, c.c1, c.c2, c.c3, c.c4, true, 0, (k : Int), 1, 1, 0, []⟩ := by rw [← hc]; exact rowB_at k h7
      have HROW := Lib.hid hrow
      clear hc hrow
      have hbx := AtomBox.new (wr.alloc (.cells #[.string (bs c.c0), .string (bs c.c1), .string (bs c.c2), .string (bs c.c3), .string (bs c.c4)] 81)) ⟨c.c0, c.c1, c.c2, c.c3, c.c4, true, 0, (k : Int), 1, 1, 0, []⟩ (.slice none 0 0)
      have hu : Below wr.heap.size wr ((wr.alloc (.cells #[.string (bs c.c0), .string (bs c.c1), .string (bs c.c2), .string (bs c.c3), .string (bs c.c4)] 81)).alloc (.cells ((⟨c.c0, c.c1, c.c2, c.c3, c.c4, true, 0, (k : Int), 1, 1, 0, []⟩ : Row).cs (.slice none 0 0)) 73)) :=
        ((Below.refl _ _).alloc (Nat.le_refl _) _).alloc (by rw [World.size_alloc]; omega) _
      rw [World.size_alloc] at hbx
      have hsp := hI.spare.block (hu.block _ (by have := hI.grid.2.2; omega))
      have hg := hI.grid.go hu
      have hB := hI.below.trans (hu.mono hI.below.size)
      obtain ⟨V2, happ, hI2⟩ : ∃ V2, (∀ ty, (Builtin.append_ #[54, 54] ty #[.slice (some ⟨w.heap.size + 1, 0, none⟩) k 7, .slice (some ⟨wr.heap.size + 1, 0, none⟩) 1 1]).run Try.prog ((wr.alloc (.cells #[.string (bs c.c0), .string (bs c.c1), .string (bs c.c2), .string (bs c.c3), .string (bs c.c4)] 81)).alloc (.cells ((⟨c.c0, c.c1, c.c2, c.c3, c.c4, true, 0, (k : Int), 1, 1, 0, []⟩ : Row).cs (.slice none 0 0)) 73)) = .ok (.slice (some ⟨w.heap.size + 1, 0, none⟩) (k + 1) 7) V2) ∧ BasesI w V2 (w.heap.size + 1) (k + 1) := by
        obtain ⟨i, hi, hk12, hby, z, hz, hzs⟩ := info_ca
        refine ⟨_, fun ty => run_append_room_src _ _ _ ty _ i u_ca hi (w.heap.size + 1) 0 k 7 _ 1 (flat 12 1 (fun _ j => (⟨c.c0, c.c1, c.c2, c.c3, c.c4, true, 0, (k : Int), 1, 1, 0, []⟩ : Row).cell (.slice none 0 0) j)) (Src.ofSlice _ u_ca ⟨wr.heap.size + 1, 0, none⟩ 1 1 _ ?_ ?_ ?_) (by omega) ?_ ?_, ?_⟩
        · rw [flat_length, hk12]
        · intro j u hu
          rw [Addr.add_mid, Nat.zero_add]
          exact Grid.flat hbx (by omega) j u hu
        · intro u hu
          obtain ⟨t, ht⟩ := List.getElem?_of_mem hu
          have hlt : t < 12 := by have := (List.getElem?_eq_some_iff.1 ht).1; rw [flat_length] at this; omega
          rw [flat_get (by omega)] at ht
          injection ht with ht
          rw [← ht]
          rw [Nat.mod_eq_of_lt hlt]
          match t, hlt with
          | 0, _ => rfl
          | 1, _ => rfl
          | 2, _ => rfl
          | 3, _ => rfl
          | 4, _ => rfl
          | 5, _ => rfl
          | 6, _ => rfl
          | 7, _ => rfl
          | 8, _ => rfl
          | 9, _ => rfl
          | 10, _ => rfl
          | 11, _ => rfl
        · intro j hj
          rw [flat_length] at hj
          exact hsp _ (by rw [hk12]; omega)
        · intro j hj
          exact hg.2.1 _
        · rw [hk12, Nat.zero_add]
          refine ⟨?_, hsp.cells _ _ _, by omega, (only_cells _ _ _ _ _ (Only.refl _ _)).below (B := w.heap.size) (by omega) |> hB.trans⟩
          refine (hg.append (m := 1) (g := fun _ j => (⟨c.c0, c.c1, c.c2, c.c3, c.c4, true, 0, (k : Int), 1, 1, 0, []⟩ : Row).cell (.slice none 0 0) j) (by omega) (fun j hj => hsp j (by omega))).ext ?_
          intro i hi j hj
          by_cases e : i < k
          · rw [if_pos e]
          · rw [if_neg e]
            have : i = k := by omega
            subst this
            unfold cellA
            rw [HROW.out]
      clear hbx hu hsp hg hB hI
      simp only [Row.cs] at happ
      go_wp2_with (at_builtin; refine wpList_app rfl _ _ 54 54 rfl happ ?_)
      refine ⟨⟨k + 1, rfl, rfl, by omega, hI2⟩, ?_⟩
      simp only [intOf]; omega
    · have k7 : k = 7 := by omega
      subst k7
      go_wp2
      go_ret
      refine ⟨_, fun _ => .slice none 0 0, rfl, ⟨.inr ⟨_, _, rfl, Nat.le_refl _, hI.spare, hI.grid⟩, ?_⟩, ?_, ?_, hI.below⟩
      · intro i hi
        refine .inl ⟨?_, rfl⟩
        have : i < 7 := hi
        rw [rowB_at i this]
        rfl
      · intro a m c e
        injection e with e1
        injection e1 with e1
        rw [← e1]
        show w.heap.size ≤ w.heap.size + 1
        omega
      · intro i _ a m c e
        cases e

end Go.Proofs.Ytgbhfhdhmkmpcaa.Atoms
