/-
  append, for rows of any kind.
-/
import Derived.Test.YtpmibcdmaaagjaaDoorC2
namespace Go.Proofs.YtpmibcdmaaagjaaDoor.Atoms
open Go.RowKit Go.Shelf
set_option linter.unusedVariables false
set_option linter.unusedSimpArgs false

/-- Slices of type t hold things of type e, of k cells. -/
structure Elem (t e : TypeId) (k : Nat) : Prop where
  pos : 0 < k
  und : Tryd.prog.underlying t = some (.slice e)
  info : ∃ i, Tryd.prog.info? e = some i ∧ i.size = k ∧ i.bytes ≤ 1000 ∧ ∃ z, i.zero = some z ∧ z.cells.size = k
theorem elem_of {t e : TypeId} {k b : Nat} (hk : 0 < k) (hb : b ≤ 1000) (hu : Tryd.prog.underlying t = some (.slice e)) (h : (Tryd.prog.info? e).map (fun i => (i.size, i.bytes, i.zero.map (·.cells.size))) = some (k, b, some k)) : Elem t e k := by
  obtain ⟨i, h1, h2, h3, z, h4, h5⟩ := info_of h
  exact ⟨hk, hu, i, h1, h2, by omega, z, h4, h5⟩
theorem elem_atom : Elem 26 40 12 := elem_of (b := 152) (by omega) (by omega) (by kernel_rfl) (by kernel_rfl)
theorem elem_pre : Elem 27 49 6 := elem_of (b := 88) (by omega) (by omega) (by kernel_rfl) (by kernel_rfl)
theorem elem_term : Elem 38 47 2 := elem_of (b := 16) (by omega) (by omega) (by kernel_rfl) (by kernel_rfl)

/-- How far a slice of at most 2000 grows. -/
theorem cap_fits (n c : Nat) (hn : n ≤ 2000) (hc : c < n) : Builtin.nextslicecap n c ≤ 100000 := by
  unfold Builtin.nextslicecap
  by_cases h1 : n > 2 * c
  · rw [if_pos h1]; omega
  · rw [if_neg h1]
    by_cases h2 : c < 256
    · rw [if_pos h2]; omega
    · rw [if_neg h2]
      have hgrow : ∀ r c, c ≤ 2000 → Builtin.growBy n r c ≤ 100000 := by
        intro r
        induction r with
        | zero => intro c hc; show c ≤ _; omega
        | succ r ih =>
          intro c hc
          show (if c ≥ n then c else Builtin.growBy n r (c + (c + 768) / 4)) ≤ _
          split
          · omega
          · rename_i hlt
            by_cases hh : c + (c + 768) / 4 ≤ 2000
            · exact ih _ hh
            · have hge : c + (c + 768) / 4 ≥ n := by omega
              cases r with
              | zero => show c + (c + 768) / 4 ≤ _; omega
              | succ r =>
                show (if c + (c + 768) / 4 ≥ n then c + (c + 768) / 4 else _) ≤ _
                rw [if_pos hge]; omega
      exact hgrow _ c (by omega)

/-- The rows of a slice, to be put behind others. -/
theorem SliceAt.source {w : World} {s : Value} {t e : TypeId} {k n : Nat} {f : Nat → Nat → Value} (hE : Elem t e k) (h : SliceAt w s k n f) (h1 : ∀ i, i < n → ∀ j, j < k → (f i j).oneCell' = true) : Src Tryd.prog k t s n (flat k n f) w := by
  rcases h with ⟨rfl, rfl⟩ | ⟨b, c, rfl, hc, hm, hg⟩
  · have : flat k 0 f = [] := by simp [flat]
    rw [this]
    exact Src.ofNil w hE.und 0
  · refine Src.ofSlice w hE.und _ n c _ (by rw [flat_length]) (fun j u hu => ?_) (fun u hu => ?_)
    · rw [Addr.add_mid, Nat.zero_add]
      exact hg.flat hE.pos j u hu
    · obtain ⟨t', ht⟩ := List.getElem?_of_mem hu
      have hlt : t' < n * k := by have := (List.getElem?_eq_some_iff.1 ht).1; rw [flat_length] at this; exact this
      rw [flat_get hlt] at ht
      injection ht with ht
      rw [← ht]
      exact h1 _ ((Nat.div_lt_iff_lt_mul hE.pos).2 hlt) _ (Nat.mod_lt _ hE.pos)

/-- Two rows, one behind the other. -/
def both (n : Nat) (f g : Nat → Nat → Value) : Nat → Nat → Value := fun i j => if i < n then f i j else g (i - n) j

/-- What an append makes: either a new block, or the old one, written behind its rows. -/
structure Joined (w V : World) (s1 s : Value) (k n m : Nat) (f g : Nat → Nat → Value) : Prop where
  rows : SliceAt V s k (n + m) (both n f g)
  way : (∃ c, s = .slice (some ⟨w.heap.size, 0, none⟩) (n + m) c ∧ Below w.heap.size w V) ∨ (∃ b c, s1 = .slice (some ⟨b, 0, none⟩) n c ∧ s = .slice (some ⟨b, 0, none⟩) (n + m) c ∧ V = w.setCells b (n * k) (flat k m g))

theorem append_any {w : World} {t e : TypeId} {k n m c1 : Nat} {o1 : Option Addr} {s2 : Value} {f g : Nat → Nat → Value} (hE : Elem t e k) (hA : SliceAt w (.slice o1 n c1) k n f) (h1 : ∀ i, i < n → ∀ j, j < k → (f i j).oneCell' = true)
    (hB : Src Tryd.prog k t s2 m (flat k m g) w) (hn : n + m ≤ 2000) (h0 : 0 < n + m ∨ o1 ≠ none) :
    ∃ V s, (∀ ty, (Builtin.append_ #[t, t] ty #[.slice o1 n c1, s2]).run Tryd.prog w = .ok s V) ∧ Joined w V (.slice o1 n c1) s k n m f g := by
  obtain ⟨i, hi, hk, hby, z, hz, hzs⟩ := hE.info
  by_cases hroom : n + m ≤ c1
  · rcases hA with ⟨_, he⟩ | ⟨b, c, he, hc, hsp, hg⟩
    · injection he with e1 e2 e3
      rcases h0 with h0 | h0
      · omega
      · exact absurd e1 h0
    · injection he with e1 e2 e3
      subst e1 e3
      have hmul : (n + m) * k ≤ c1 * k := Nat.mul_le_mul_right k hroom
      have hj : SliceAt (w.setCells b (n * k) (flat k m g)) (.slice (some ⟨b, 0, none⟩) (n + m) c1) k (n + m) (both n f g) :=
        .inr ⟨b, c1, rfl, hroom, hsp.cells _ _ _, hg.append hE.pos (fun j' hj' => hsp j' (by omega))⟩
      refine ⟨_, _, fun ty => ?_, ⟨hj, .inr ⟨b, c1, rfl, rfl, rfl⟩⟩⟩
      have := run_append_room_src w t t ty e i hE.und hi b 0 n c1 s2 m (flat k m g) (by rw [hk]; exact hB) hroom (fun j' hj' => hsp _ (by
        rw [flat_length] at hj'
        rw [hk, Nat.zero_add]
        rw [Nat.add_mul] at hmul
        omega)) (fun j' _ => hg.2.1 _)
      rw [hk, Nat.zero_add] at this
      exact this
  · have hs1 := SliceAt.source hE hA h1
    have hrun := fun ty => run_append_grow_src w t t ty e i z hE.und hi hz o1 n c1 _ (by rw [hk]; exact hs1.cellsD) s2 m _ (by rw [hk]; exact hB) (by omega) (by omega) (by
      have h1 := cap_fits (n + m) c1 hn (by omega)
      have h2 := Nat.mul_le_mul h1 hby
      omega)
    have hl1 := flat_length k n f
    have hl2 := flat_length k m g
    have hge := grownCap_ge w (n + m) c1 e
    generalize hcap : grownCap w (n + m) c1 e = cap at hrun hge
    have hh := World.alloc_heap_new w.drew (.cells ((flat k n f ++ flat k m g).toArray ++ Builtin.zeroCells z.cells (cap - (n + m))) e)
    rw [show w.drew.heap.size = w.heap.size from rfl] at hh
    have hbel : Below w.heap.size w (w.drew.alloc (.cells ((flat k n f ++ flat k m g).toArray ++ Builtin.zeroCells z.cells (cap - (n + m))) e)) := (Below.refl _ _).drew.alloc (Nat.le_refl _) _
    refine ⟨_, _, hrun, ⟨.inr ⟨w.heap.size, cap, rfl, hge, ?_, ?_⟩, .inl ⟨cap, rfl, hbel⟩⟩⟩
    · have := Spare.of_cells hh
      refine fun j hj => this j ?_
      simp only [Array.size_append, List.size_toArray, List.length_append, hl1, hl2, Builtin.zeroCells, Array.size_map, Array.size_range, hzs]
      rw [← Nat.add_mul, ← Nat.add_mul, Nat.add_sub_cancel' hge]
      exact hj
    · refine Grid.old hh fun i' hi' j hj => ?_
      have hik : (i' + 1) * k ≤ (n + m) * k := Nat.mul_le_mul_right k hi'
      rw [Nat.add_mul, Nat.one_mul] at hik
      unfold both
      rw [Array.getElem?_append_left (by
        rw [List.size_toArray, List.length_append, hl1, hl2, ← Nat.add_mul]
        omega), List.getElem?_toArray]
      by_cases h : i' < n
      · rw [if_pos h, List.getElem?_append_left (by
          rw [hl1]
          have : (i' + 1) * k ≤ n * k := Nat.mul_le_mul_right k h
          rw [Nat.add_mul, Nat.one_mul] at this
          omega)]
        exact flat_at h hj
      · have hnk : n * k ≤ i' * k := Nat.mul_le_mul_right k (by omega)
        rw [if_neg h, List.getElem?_append_right (by rw [hl1]; omega), hl1]
        have e' : i' * k + j - n * k = (i' - n) * k + j := by rw [Nat.sub_mul]; omega
        rw [e']
        exact flat_at (by omega) hj

end Go.Proofs.YtpmibcdmaaagjaaDoor.Atoms
