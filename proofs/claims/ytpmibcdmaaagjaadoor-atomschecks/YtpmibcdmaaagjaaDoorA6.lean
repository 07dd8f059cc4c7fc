/-
  Contracts of slices.Clone of terms, and of atoms.
-/
import Derived.Test.YtpmibcdmaaagjaaDoorA5
import Derived.Deep.AppendSrc
namespace Go.Proofs.YtpmibcdmaaagjaaDoor.Atoms
open Go.RowKit
set_option linter.unusedVariables false
set_option linter.unusedSimpArgs false

/-- An append whose run is known. -/
theorem wpList_app {P : Program} {w : World} {ops : Array Oper} {rest : List Oper} {o : Oper} {a : Act} {Q : Exit → Act → World → Prop} (hg : o.guard = none) (s x : Operand) (t tx : TypeId)
    (ho : o.op = .call { callee := .builtin .append, args := #[s, x], argTypes := #[t, tx] }) {v : Value} {V : World} (hr : ∀ ty, (Builtin.append_ #[t, tx] ty #[a.eval s, a.eval x]).run P w = .ok v V)
    (h : wpList P ops Q rest (a.put o.dst v) V) : wpList P ops Q (o :: rest) a w := by
  refine wpList_plain hg fun K hK => ?_
  unfold Oper.wp execOp
  simp only [ho, resolve, invoke, builtin, Sem.run_bind, Sem.run_pure, Result.andThen_ok, List.map_toArray, List.map_cons, List.map_nil, hr]
  exact hK _ _ h
/-- How a copy is told. -/
def Cloned (w : World) (k n : Nat) (f : Nat → Nat → Value) (e : Ending) (w' : World) : Prop := ∃ s', e = .returned s' ∧ SliceAt w' s' k n f ∧ Above w.heap.size s' ∧ Below w.heap.size w w'
theorem u_ct : Tryd.prog.underlying 38 = some (.slice 47) := by kernel_rfl
theorem u_ca : Tryd.prog.underlying 26 = some (.slice 40) := by kernel_rfl
theorem info_of {t : TypeId} {k b z : Nat} (h : (Tryd.prog.info? t).map (fun i => (i.size, i.bytes, i.zero.map (·.cells.size))) = some (k, b, some z)) :
    ∃ i, Tryd.prog.info? t = some i ∧ i.size = k ∧ i.bytes = b ∧ ∃ v, i.zero = some v ∧ v.cells.size = z := by
  cases hi : Tryd.prog.info? t with
  | none => rw [hi] at h; cases h
  | some i =>
    rw [hi] at h
    simp only [Option.map_some, Option.some.injEq, Prod.mk.injEq] at h
    obtain ⟨h1, h2, h3⟩ := h
    cases hz : i.zero with
    | none => rw [hz] at h3; cases h3
    | some v =>
      rw [hz] at h3
      exact ⟨i, rfl, h1, h2, v, hz, by simpa using h3⟩
theorem nil_ct (V : World) : (binOp BinOp.eql 38 (.slice none 0 0) (.slice none 0 0)).run Tryd.prog V = .ok (.bool true) V := by kernel_rfl
theorem not_ct (a : Addr) (n c : Nat) (V : World) : (binOp BinOp.eql 38 (.slice (some a) n c) (.slice none 0 0)).run Tryd.prog V = .ok (.bool false) V := by kernel_rfl
theorem info_ct : ∃ i, Tryd.prog.info? 47 = some i ∧ i.size = 2 ∧ i.bytes = 16 ∧ ∃ v, i.zero = some v ∧ v.cells.size = 2 := info_of (by kernel_rfl)
theorem nil_ca (V : World) : (binOp BinOp.eql 26 (.slice none 0 0) (.slice none 0 0)).run Tryd.prog V = .ok (.bool true) V := by kernel_rfl
theorem not_ca (a : Addr) (n c : Nat) (V : World) : (binOp BinOp.eql 26 (.slice (some a) n c) (.slice none 0 0)).run Tryd.prog V = .ok (.bool false) V := by kernel_rfl
theorem info_ca : ∃ i, Tryd.prog.info? 40 = some i ∧ i.size = 12 ∧ i.bytes = 152 ∧ ∃ v, i.zero = some v ∧ v.cells.size = 12 := info_of (by kernel_rfl)

set_option maxRecDepth 100000 in
set_option maxHeartbeats 1000000 in
theorem ct_nil (w : World) :
    Calls Tryd.prog 22 #[.slice none 0 0] w fun e w' => e = .returned (.slice none 0 0) ∧ w = w' := by
  have hq := nil_ct
  go_enter Tryd.func22, Tryd.ntmps22
  go_wp2
  go_ret
  exact ⟨rfl, rfl⟩

set_option maxRecDepth 100000 in
set_option maxHeartbeats 1000000 in
theorem ct_none (b c : Nat) (w : World) :
    Calls Tryd.prog 22 #[.slice (some ⟨b, 0, none⟩) 0 c] w fun e w' => e = .returned (.slice (some ⟨w.heap.size, 0, none⟩) 0 0) ∧ w.alloc (.cells #[] 47) = w' := by
  have happ : ∀ ty, (Builtin.append_ #[38, 38] ty #[.slice (some ⟨w.heap.size, 0, none⟩) 0 0, .slice (some ⟨b, 0, none⟩) 0 c]).run Tryd.prog (w.alloc (.cells #[] 47)) = .ok (.slice (some ⟨w.heap.size, 0, none⟩) 0 0) (w.alloc (.cells #[] 47)) := by
    intro ty
    obtain ⟨i, hi, hz⟩ := info_ct
    have hs := Src.ofSlice (P := Tryd.prog) (w.alloc (.cells #[] 47)) (size := i.size) u_ct ⟨b, 0, none⟩ 0 c [] (by simp) (fun j u h => by simp at h) (fun u h => by simp at h)
    exact run_append_room_src (w.alloc (.cells #[] 47)) _ _ ty _ i u_ct hi w.heap.size 0 0 0 _ 0 [] hs (by omega) (fun j hj => by simp at hj) (fun j hj => by simp at hj)
  have hq := not_ct
  go_enter Tryd.func22, Tryd.ntmps22
  go_wp2
  go_ret
  exact ⟨rfl, rfl⟩

set_option maxRecDepth 100000 in
set_option maxHeartbeats 1000000 in
theorem ct_some (b n c : Nat) (f : Nat → Nat → Value) (w : World) (h0 : 0 < n) (hn : n ≤ 1000000) (hg : Grid w b 2 n f) (h1 : ∀ i, i < n → ∀ j, j < 2 → (f i j).oneCell' = true) :
    Calls Tryd.prog 22 #[.slice (some ⟨b, 0, none⟩) n c] w (Cloned w 2 n f) := by
  have hu : Below w.heap.size w (w.alloc (.cells #[] 47)) := (Below.refl _ _).alloc (Nat.le_refl _) _
  have hg2 := hg.go hu
  obtain ⟨cap, V, s', happ, hs', hab, hB⟩ : ∃ cap V s', (∀ ty, (Builtin.append_ #[38, 38] ty #[.slice (some ⟨w.heap.size, 0, none⟩) 0 0, .slice (some ⟨b, 0, none⟩) n c]).run Tryd.prog (w.alloc (.cells #[] 47)) = .ok (.slice (some ⟨w.heap.size + 1, 0, none⟩) n cap) V) ∧ SliceAt V s' 2 n f ∧ s' = .slice (some ⟨w.heap.size + 1, 0, none⟩) n cap ∧ Below w.heap.size w V := by
    obtain ⟨i, hi, hk, hby, z, hz, hzs⟩ := info_ct
    have hl := flat_length 2 n f
    have hs := Src.ofSlice (P := Tryd.prog) (w.alloc (.cells #[] 47)) (size := i.size) u_ct ⟨b, 0, none⟩ n c (flat 2 n f) (by rw [hk]; exact hl) (fun j u h => by rw [Addr.add_lit]; have := hg2.flat (by omega) j u h; simpa using this) (fun u h => by
      obtain ⟨t, ht⟩ := List.getElem?_of_mem h
      have hlt : t < n * 2 := by have := (List.getElem?_eq_some_iff.1 ht).1; omega
      rw [flat_get hlt] at ht
      injection ht with ht
      rw [← ht]
      exact h1 _ ((Nat.div_lt_iff_lt_mul (by omega)).2 hlt) _ (Nat.mod_lt _ (by omega)))
    have hrun := fun ty => run_append_grow_src (w.alloc (.cells #[] 47)) 38 38 ty _ i z u_ct hi hz (some ⟨w.heap.size, 0, none⟩) 0 0 [] (by rw [hk]; exact run_firstCells_some _ 2 0 _ 0 0 [] (by simp) (fun j u h => by simp at h)) _ n _ hs (by omega) (by omega) (by
      rw [hby]
      unfold Builtin.nextslicecap
      rw [if_pos (by omega)]
      omega)
    simp only [Nat.zero_add, List.nil_append] at hrun
    rw [World.size_alloc] at hrun
    refine ⟨_, _, _, hrun, ?_, rfl, ?_⟩
    · refine .inr ⟨_, _, rfl, grownCap_ge _ _ _ _, ?_, ?_⟩
      · have hh : ((w.alloc (.cells #[] 47)).drew.alloc (.cells ((flat 2 n f).toArray ++ Builtin.zeroCells z.cells (grownCap (w.alloc (.cells #[] 47)) n 0 47 - n)) 47)).heap[w.heap.size + 1]? = some (.cells ((flat 2 n f).toArray ++ Builtin.zeroCells z.cells (grownCap (w.alloc (.cells #[] 47)) n 0 47 - n)) 47) := by
          have := World.alloc_heap_new (w.alloc (.cells #[] 47)).drew (.cells ((flat 2 n f).toArray ++ Builtin.zeroCells z.cells (grownCap (w.alloc (.cells #[] 47)) n 0 47 - n)) 47)
          rwa [show (w.alloc (.cells #[] 47)).drew.heap.size = w.heap.size + 1 from World.size_alloc _ _] at this
        have := Spare.of_cells hh
        have hge := grownCap_ge (w.alloc (.cells #[] 47)) n 0 47
        refine fun j hj => this j ?_
        simp only [Array.size_append, List.size_toArray, hl, Builtin.zeroCells, Array.size_map, Array.size_range, hzs]
        generalize grownCap (w.alloc (.cells #[] 47)) n 0 47 = g at *
        rw [← Nat.add_mul, Nat.add_sub_cancel' hge]
        exact hj
      · have := Grid.new (w.alloc (.cells #[] 47)).drew 47 2 n f ((flat 2 n f).toArray ++ Builtin.zeroCells z.cells (grownCap (w.alloc (.cells #[] 47)) n 0 47 - n)) (fun i hi j hj => by
          rw [Array.getElem?_append_left (by
            rw [List.size_toArray, hl]
            have : (i + 1) * 2 ≤ n * 2 := Nat.mul_le_mul_right 2 hi
            omega), List.getElem?_toArray]
          exact flat_at hi hj)
        rwa [show (w.alloc (.cells #[] 47)).drew.heap.size = w.heap.size + 1 from World.size_alloc _ _] at this
    · exact hu.drew.alloc (by rw [show (w.alloc (.cells #[] 47)).drew.heap.size = w.heap.size + 1 from World.size_alloc _ _]; omega) _
  have HS := Lib.hid hab
  clear hab hg hg2 hu
  have hq := not_ct
  go_enter Tryd.func22, Tryd.ntmps22
  go_wp2_with (at_builtin; refine wpList_app rfl _ _ 38 38 rfl happ ?_)
  go_ret
  refine ⟨_, rfl, by rw [← HS.out]; exact hs', ?_, hB⟩
  intro a n' c' e
  injection e with e1
  injection e1 with e1
  rw [← e1]
  show w.heap.size ≤ w.heap.size + 1
  omega

theorem ct_any (s : Value) (n : Nat) (f : Nat → Nat → Value) (w : World) (hn : n ≤ 1000000) (h : SliceAt w s 2 n f) (h1 : ∀ i, i < n → ∀ j, j < 2 → (f i j).oneCell' = true) :
    Calls Tryd.prog 22 #[s] w (Cloned w 2 n f) := by
  rcases h with ⟨rfl, rfl⟩ | ⟨b, c, rfl, hc, hm, hg⟩
  · refine (ct_nil w).mono ?_
    rintro e w' ⟨rfl, rfl⟩
    exact ⟨_, rfl, .inl ⟨rfl, rfl⟩, (fun a n c h => by injection h with h; cases h), Below.refl _ _⟩
  · by_cases h0 : n = 0
    · subst h0
      refine (ct_none b c w).mono ?_
      rintro e w' ⟨rfl, rfl⟩
      refine ⟨_, rfl, .inr ⟨_, _, rfl, Nat.le_refl _, fun j hj => by simp at hj, Grid.new w _ 2 0 f #[] (fun i hi => absurd hi (by omega))⟩, ?_, (Below.refl _ _).alloc (Nat.le_refl _) _⟩
      intro a n' c' e
      injection e with e1
      injection e1 with e1
      rw [← e1]
      exact Nat.le_refl _
    · exact ct_some b n c f w (by omega) hn hg h1

set_option maxRecDepth 100000 in
set_option maxHeartbeats 1000000 in
theorem ca_nil (w : World) :
    Calls Tryd.prog 21 #[.slice none 0 0] w fun e w' => e = .returned (.slice none 0 0) ∧ w = w' := by
  have hq := nil_ca
  go_enter Tryd.func21, Tryd.ntmps21
  go_wp2
  go_ret
  exact ⟨rfl, rfl⟩

set_option maxRecDepth 100000 in
set_option maxHeartbeats 1000000 in
theorem ca_none (b c : Nat) (w : World) :
    Calls Tryd.prog 21 #[.slice (some ⟨b, 0, none⟩) 0 c] w fun e w' => e = .returned (.slice (some ⟨w.heap.size, 0, none⟩) 0 0) ∧ w.alloc (.cells #[] 40) = w' := by
  have happ : ∀ ty, (Builtin.append_ #[26, 26] ty #[.slice (some ⟨w.heap.size, 0, none⟩) 0 0, .slice (some ⟨b, 0, none⟩) 0 c]).run Tryd.prog (w.alloc (.cells #[] 40)) = .ok (.slice (some ⟨w.heap.size, 0, none⟩) 0 0) (w.alloc (.cells #[] 40)) := by
    intro ty
    obtain ⟨i, hi, hz⟩ := info_ca
    have hs := Src.ofSlice (P := Tryd.prog) (w.alloc (.cells #[] 40)) (size := i.size) u_ca ⟨b, 0, none⟩ 0 c [] (by simp) (fun j u h => by simp at h) (fun u h => by simp at h)
    exact run_append_room_src (w.alloc (.cells #[] 40)) _ _ ty _ i u_ca hi w.heap.size 0 0 0 _ 0 [] hs (by omega) (fun j hj => by simp at hj) (fun j hj => by simp at hj)
  have hq := not_ca
  go_enter Tryd.func21, Tryd.ntmps21
  go_wp2
  go_ret
  exact ⟨rfl, rfl⟩

set_option maxRecDepth 100000 in
set_option maxHeartbeats 1000000 in
theorem ca_some (b n c : Nat) (f : Nat → Nat → Value) (w : World) (h0 : 0 < n) (hn : n ≤ 1000000) (hg : Grid w b 12 n f) (h1 : ∀ i, i < n → ∀ j, j < 12 → (f i j).oneCell' = true) :
    Calls Tryd.prog 21 #[.slice (some ⟨b, 0, none⟩) n c] w (Cloned w 12 n f) := by
  have hu : Below w.heap.size w (w.alloc (.cells #[] 40)) := (Below.refl _ _).alloc (Nat.le_refl _) _
  have hg2 := hg.go hu
  obtain ⟨cap, V, s', happ, hs', hab, hB⟩ : ∃ cap V s', (∀ ty, (Builtin.append_ #[26, 26] ty #[.slice (some ⟨w.heap.size, 0, none⟩) 0 0, .slice (some ⟨b, 0, none⟩) n c]).run Tryd.prog (w.alloc (.cells #[] 40)) = .ok (.slice (some ⟨w.heap.size + 1, 0, none⟩) n cap) V) ∧ SliceAt V s' 12 n f ∧ s' = .slice (some ⟨w.heap.size + 1, 0, none⟩) n cap ∧ Below w.heap.size w V := by
    obtain ⟨i, hi, hk, hby, z, hz, hzs⟩ := info_ca
    have hl := flat_length 12 n f
    have hs := Src.ofSlice (P := Tryd.prog) (w.alloc (.cells #[] 40)) (size := i.size) u_ca ⟨b, 0, none⟩ n c (flat 12 n f) (by rw [hk]; exact hl) (fun j u h => by rw [Addr.add_lit]; have := hg2.flat (by omega) j u h; simpa using this) (fun u h => by
      obtain ⟨t, ht⟩ := List.getElem?_of_mem h
      have hlt : t < n * 12 := by have := (List.getElem?_eq_some_iff.1 ht).1; omega
      rw [flat_get hlt] at ht
      injection ht with ht
      rw [← ht]
      exact h1 _ ((Nat.div_lt_iff_lt_mul (by omega)).2 hlt) _ (Nat.mod_lt _ (by omega)))
    have hrun := fun ty => run_append_grow_src (w.alloc (.cells #[] 40)) 26 26 ty _ i z u_ca hi hz (some ⟨w.heap.size, 0, none⟩) 0 0 [] (by rw [hk]; exact run_firstCells_some _ 12 0 _ 0 0 [] (by simp) (fun j u h => by simp at h)) _ n _ hs (by omega) (by omega) (by
      rw [hby]
      unfold Builtin.nextslicecap
      rw [if_pos (by omega)]
      omega)
    simp only [Nat.zero_add, List.nil_append] at hrun
    rw [World.size_alloc] at hrun
    refine ⟨_, _, _, hrun, ?_, rfl, ?_⟩
    · refine .inr ⟨_, _, rfl, grownCap_ge _ _ _ _, ?_, ?_⟩
      · have hh : ((w.alloc (.cells #[] 40)).drew.alloc (.cells ((flat 12 n f).toArray ++ Builtin.zeroCells z.cells (grownCap (w.alloc (.cells #[] 40)) n 0 40 - n)) 40)).heap[w.heap.size + 1]? = some (.cells ((flat 12 n f).toArray ++ Builtin.zeroCells z.cells (grownCap (w.alloc (.cells #[] 40)) n 0 40 - n)) 40) := by
          have := World.alloc_heap_new (w.alloc (.cells #[] 40)).drew (.cells ((flat 12 n f).toArray ++ Builtin.zeroCells z.cells (grownCap (w.alloc (.cells #[] 40)) n 0 40 - n)) 40)
          rwa [show (w.alloc (.cells #[] 40)).drew.heap.size = w.heap.size + 1 from World.size_alloc _ _] at this
        have := Spare.of_cells hh
        have hge := grownCap_ge (w.alloc (.cells #[] 40)) n 0 40
        refine fun j hj => this j ?_
        simp only [Array.size_append, List.size_toArray, hl, Builtin.zeroCells, Array.size_map, Array.size_range, hzs]
        generalize grownCap (w.alloc (.cells #[] 40)) n 0 40 = g at *
        rw [← Nat.add_mul, Nat.add_sub_cancel' hge]
        exact hj
      · have := Grid.new (w.alloc (.cells #[] 40)).drew 40 12 n f ((flat 12 n f).toArray ++ Builtin.zeroCells z.cells (grownCap (w.alloc (.cells #[] 40)) n 0 40 - n)) (fun i hi j hj => by
          rw [Array.getElem?_append_left (by
            rw [List.size_toArray, hl]
            have : (i + 1) * 12 ≤ n * 12 := Nat.mul_le_mul_right 12 hi
            omega), List.getElem?_toArray]
          exact flat_at hi hj)
        rwa [show (w.alloc (.cells #[] 40)).drew.heap.size = w.heap.size + 1 from World.size_alloc _ _] at this
    · exact hu.drew.alloc (by rw [show (w.alloc (.cells #[] 40)).drew.heap.size = w.heap.size + 1 from World.size_alloc _ _]; omega) _
  have HS := Lib.hid hab
  clear hab hg hg2 hu
  have hq := not_ca
  go_enter Tryd.func21, Tryd.ntmps21
  go_wp2_with (at_builtin; refine wpList_app rfl _ _ 26 26 rfl happ ?_)
  go_ret
  refine ⟨_, rfl, by rw [← HS.out]; exact hs', ?_, hB⟩
  intro a n' c' e
  injection e with e1
  injection e1 with e1
  rw [← e1]
  show w.heap.size ≤ w.heap.size + 1
  omega

theorem ca_any (s : Value) (n : Nat) (f : Nat → Nat → Value) (w : World) (hn : n ≤ 1000000) (h : SliceAt w s 12 n f) (h1 : ∀ i, i < n → ∀ j, j < 12 → (f i j).oneCell' = true) :
    Calls Tryd.prog 21 #[s] w (Cloned w 12 n f) := by
  rcases h with ⟨rfl, rfl⟩ | ⟨b, c, rfl, hc, hm, hg⟩
  · refine (ca_nil w).mono ?_
    rintro e w' ⟨rfl, rfl⟩
    exact ⟨_, rfl, .inl ⟨rfl, rfl⟩, (fun a n c h => by injection h with h; cases h), Below.refl _ _⟩
  · by_cases h0 : n = 0
    · subst h0
      refine (ca_none b c w).mono ?_
      rintro e w' ⟨rfl, rfl⟩
      refine ⟨_, rfl, .inr ⟨_, _, rfl, Nat.le_refl _, fun j hj => by simp at hj, Grid.new w _ 12 0 f #[] (fun i hi => absurd hi (by omega))⟩, ?_, (Below.refl _ _).alloc (Nat.le_refl _) _⟩
      intro a n' c' e
      injection e with e1
      injection e1 with e1
      rw [← e1]
      exact Nat.le_refl _
    · exact ca_some b n c f w (by omega) hn hg h1

end Go.Proofs.YtpmibcdmaaagjaaDoor.Atoms
