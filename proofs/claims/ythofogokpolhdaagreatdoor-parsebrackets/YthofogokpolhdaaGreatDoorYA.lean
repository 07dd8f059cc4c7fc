/-
  The styles as they lie in memory; contracts of style.Of, isSmall, ownKind, Kind.
-/
import Derived.Test.YthofogokpolhdaaGreatDoorYM
import Derived.Test.YthofogokpolhdaaGreatDoorChecked
import Derived.WalkKit
import Derived.WalkSpells
import Derived.Lib.Hide
import Derived.BigQuiet
import Derived.Deep.QuietTactic
import Derived.Deep.RegionWith
import Derived.Handy
namespace Go.Proofs.YthofogokpolhdaaGreatDoor.Style
open Go.RowKit
set_option linter.unusedVariables false
set_option linter.unusedSimpArgs false

def St.v (s : St) : Value := .agg #[.bool s.fold, .int .u8 s.mul, .int .u8 s.div, .int .u8 s.pow, .int .u8 s.op, .int .u8 s.cl]
/-- A style's cells, from an address on. -/
def Lies (w : World) (b o : Nat) (s : St) : Prop :=
  w.cell? ⟨b, o, none⟩ = some (.bool s.fold) ∧ w.cell? ⟨b, o + 1, none⟩ = some (.int .u8 s.mul) ∧ w.cell? ⟨b, o + 2, none⟩ = some (.int .u8 s.div) ∧ w.cell? ⟨b, o + 3, none⟩ = some (.int .u8 s.pow) ∧ w.cell? ⟨b, o + 4, none⟩ = some (.int .u8 s.op) ∧ w.cell? ⟨b, o + 5, none⟩ = some (.int .u8 s.cl)
/-- The table of styles. -/
def Styles (w : World) : Prop :=
  (Lies w 0 0 (stZ 1) ∧ Lies w 0 6 (stZ 2) ∧ Lies w 0 12 (stZ 3) ∧ Lies w 0 18 (stZ 4) ∧ Lies w 0 24 (stZ 5)) ∧ 0 < w.heap.size
theorem Lies.block {w w' : World} {b o : Nat} {s : St} (h : Lies w b o s) (hb : w'.heap[b]? = w.heap[b]?) : Lies w' b o s := by
  obtain ⟨h0, h1, h2, h3, h4, h5⟩ := h
  have e : ∀ j, w'.cell? ⟨b, j, none⟩ = w.cell? ⟨b, j, none⟩ := fun j => World.cell?_of_block (a := ⟨b, j, none⟩) hb
  exact ⟨(e _).trans h0, (e _).trans h1, (e _).trans h2, (e _).trans h3, (e _).trans h4, (e _).trans h5⟩
theorem Styles.go {w w' : World} (h : Styles w) (hb : Below w.heap.size w w') : Styles w' := by
  obtain ⟨⟨a, b, c, d, e⟩, hs⟩ := h
  have k := hb.block _ hs
  exact ⟨⟨a.block k, b.block k, c.block k, d.block k, e.block k⟩, Nat.lt_of_lt_of_le hs hb.size⟩

set_option maxRecDepth 100000 in
set_option maxHeartbeats 1000000 in
theorem of_one (n : Int) (s : St) (o : Nat) (w : World) (hs : 0 < w.heap.size) (hk : (n = 1 ∧ o = 0) ∨ (n = 2 ∧ o = 6) ∨ (n = 3 ∧ o = 12) ∨ (n = 4 ∧ o = 18) ∨ (n = 5 ∧ o = 24)) (hl : Lies w 0 o s) :
    Calls Tryz.prog 46 #[.int .i64 n] w fun e w' => e = .returned (.tuple #[s.v, .bool true]) ∧ Below w.heap.size w w' := by
  obtain ⟨c0, c1, c2, c3, c4, c5⟩ := hl
  obtain ⟨f, m, d, p, op, cl⟩ := s
  rcases hk with ⟨rfl, rfl⟩ | ⟨rfl, rfl⟩ | ⟨rfl, rfl⟩ | ⟨rfl, rfl⟩ | ⟨rfl, rfl⟩
  all_goals
    simp only [Nat.reduceAdd] at c1 c2 c3 c4 c5
    go_enter Tryz.func46, Tryz.ntmps46
    go_wp2
    refine bodyPost_ret (v := .tuple #[.agg #[.bool f, .int .u8 m, .int .u8 d, .int .u8 p, .int .u8 op, .int .u8 cl], .bool true]) (by simp [results, Tryz.results46, go_sem]) rfl ⟨rfl, ?_⟩
    go_grown

set_option maxRecDepth 100000 in
set_option maxHeartbeats 1000000 in
theorem of_none (n : Int) (w : World) (h : n < 1 ∨ 5 < n) :
    Calls Tryz.prog 46 #[.int .i64 n] w fun e w' => e = .returned (.tuple #[St.v ⟨false, 0, 0, 0, 0, 0⟩, .bool false]) ∧ Below w.heap.size w w' := by
  rcases h with h | h
  · go_enter Tryz.func46, Tryz.ntmps46
    go_wp2
    refine bodyPost_ret (v := .tuple #[.agg #[.bool false, .int .u8 0, .int .u8 0, .int .u8 0, .int .u8 0, .int .u8 0], .bool false]) (by simp [results, Tryz.results46, go_sem]) rfl ⟨rfl, ?_⟩
    go_grown
  · have h1 : ¬ n < 1 := by omega
    go_enter Tryz.func46, Tryz.ntmps46
    go_wp2
    refine bodyPost_ret (v := .tuple #[.agg #[.bool false, .int .u8 0, .int .u8 0, .int .u8 0, .int .u8 0, .int .u8 0], .bool false]) (by simp [results, Tryz.results46, go_sem]) rfl ⟨rfl, ?_⟩
    go_grown

theorem of_any (n : Int) (w : World) (hS : Styles w) :
    Calls Tryz.prog 46 #[.int .i64 n] w fun e w' => e = .returned (.tuple #[(stZ n).v, .bool (isN n)]) ∧ Below w.heap.size w w' := by
  obtain ⟨⟨a, b, c, d, e⟩, hs⟩ := hS
  rcases st_cases n with (rfl | rfl | rfl | rfl | rfl) | ⟨h, e1, e2⟩
  · exact of_one 1 _ 0 w hs (by omega) a
  · exact of_one 2 _ 6 w hs (by omega) b
  · exact of_one 3 _ 12 w hs (by omega) c
  · exact of_one 4 _ 18 w hs (by omega) d
  · exact of_one 5 _ 24 w hs (by omega) e
  · rw [e1, e2]
    exact of_none n w h

set_option maxRecDepth 100000 in
theorem isSmall_any (c : Int) (w : World) (h0 : 0 ≤ c) (h1 : c ≤ 255) :
    Calls Tryz.prog 110 #[.int .u8 c] w fun e w' => e = .returned (.bool (smallZ c)) ∧ w = w' := by
  unfold smallZ
  by_cases a : 97 ≤ c
  · by_cases b : c ≤ 122
    · rw [decide_eq_true (show 97 ≤ c ∧ c ≤ 122 from ⟨a, b⟩)]
      go_enter Tryz.func110, Tryz.ntmps110
      go_wp2
      go_ret
      simp
    · rw [decide_eq_false (fun h : 97 ≤ c ∧ c ≤ 122 => b h.2)]
      go_enter Tryz.func110, Tryz.ntmps110
      go_wp2
      go_ret
      simp [b]
  · rw [decide_eq_false (fun h : 97 ≤ c ∧ c ≤ 122 => a h.1)]
    go_enter Tryz.func110, Tryz.ntmps110
    go_wp2
    go_ret
    simp [a]

/-- Which of the style's own bytes a byte is. -/
def OwnIs (s : St) (c k : Int) : Prop :=
  (c = 0 ∧ k = 0) ∨ ((c == 0) = false ∧ ((c = s.mul ∧ k = 4) ∨ ((c == s.mul) = false ∧ ((c = s.div ∧ k = 5) ∨ ((c == s.div) = false ∧ ((c = s.pow ∧ k = 6) ∨ ((c == s.pow) = false ∧ ((c = s.op ∧ k = 9) ∨ ((c == s.op) = false ∧ ((c = s.cl ∧ k = 10) ∨ ((c == s.cl) = false ∧ k = 0)))))))))))
theorem own_is (s : St) (c : Int) : OwnIs s c (ownZ s c) := by
  unfold OwnIs ownZ
  by_cases h0 : c = 0
  · exact .inl ⟨h0, by rw [if_pos h0]⟩
  rw [if_neg h0]; refine .inr ⟨by simpa using h0, ?_⟩
  by_cases h0 : c = s.mul
  · exact .inl ⟨h0, by rw [if_pos h0]⟩
  rw [if_neg h0]; refine .inr ⟨by simpa using h0, ?_⟩
  by_cases h0 : c = s.div
  · exact .inl ⟨h0, by rw [if_pos h0]⟩
  rw [if_neg h0]; refine .inr ⟨by simpa using h0, ?_⟩
  by_cases h0 : c = s.pow
  · exact .inl ⟨h0, by rw [if_pos h0]⟩
  rw [if_neg h0]; refine .inr ⟨by simpa using h0, ?_⟩
  by_cases h0 : c = s.op
  · exact .inl ⟨h0, by rw [if_pos h0]⟩
  rw [if_neg h0]; refine .inr ⟨by simpa using h0, ?_⟩
  by_cases h0 : c = s.cl
  · exact .inl ⟨h0, by rw [if_pos h0]⟩
  rw [if_neg h0]; exact .inr ⟨by simpa using h0, rfl⟩

set_option maxRecDepth 100000 in
set_option maxHeartbeats 1000000 in
theorem ownKind_is (s : St) (c k : Int) (w : World) (h : OwnIs s c k) :
    Calls Tryz.prog 111 #[s.v, .int .u8 c] w fun e w' => e = .returned (.int .i64 k) ∧ Below w.heap.size w w' := by
  obtain ⟨f, m, d, p, op, cl⟩ := s
  simp only [OwnIs] at h
  simp only [St.v]
  rcases h with ⟨rfl, rfl⟩ | ⟨h0, ⟨rfl, rfl⟩ | ⟨h1, ⟨rfl, rfl⟩ | ⟨h2, ⟨rfl, rfl⟩ | ⟨h3, ⟨rfl, rfl⟩ | ⟨h4, ⟨rfl, rfl⟩ | ⟨h5, rfl⟩⟩⟩⟩⟩⟩
  all_goals
    go_enter Tryz.func111, Tryz.ntmps111
    go_wp2
    go_ret
    exact ⟨rfl, by go_grown⟩
theorem ownKind_any (s : St) (c : Int) (w : World) :
    Calls Tryz.prog 111 #[s.v, .int .u8 c] w fun e w' => e = .returned (.int .i64 (ownZ s c)) ∧ Below w.heap.size w w' := ownKind_is s c _ w (own_is s c)

end Go.Proofs.YthofogokpolhdaaGreatDoor.Style
