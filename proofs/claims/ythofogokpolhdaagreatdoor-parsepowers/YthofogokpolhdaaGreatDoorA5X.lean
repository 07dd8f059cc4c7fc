/-
  Contracts of atoms.rightTerm, rightWorth. Contracts of slices.Clone of terms, and of atoms. Contract of atoms.Each: the function that it hands back has a copy of all atoms.
-/
import Derived.Test.YthofogokpolhdaaGreatDoorA1X
import Derived.Deep.AppendSrc
import Derived.Deep.RegionHeld3
namespace Go.Proofs.YthofogokpolhdaaGreatDoor.Atoms
open Go.RowKit
set_option linter.unusedVariables false
set_option linter.unusedSimpArgs false

def Row.c5 (r : Row) : C5 := ⟨r.c0, r.c1, r.c2, r.c3, r.c4⟩
def Pre.c5 (r : Pre) : C5 := ⟨r.c0, r.c1, r.c2, r.c3, r.c4⟩
/-- Numbers and texts that there are. -/
structure Row.Fine (r : Row) : Prop where
  codes : r.c5.Fine
  num : r.num ≤ 9223372036854775807
  den : r.den ≤ 9223372036854775807
  ts : r.ts.length ≤ 9223372036854775807

theorem worth_base {r : Row} (h : 0 ≤ r.tag ∧ r.tag ≤ 99) (hb : 0 ≤ r.base ∧ r.base < 7) : worthB r = decide (r.num = 1 ∧ r.den = 1 ∧ r.ten = 0 ∧ r.tag = 0 ∧ r.ts.length = 0) := by
  unfold worthB
  rw [if_neg (by omega), if_pos hb]

end Go.Proofs.YthofogokpolhdaaGreatDoor.Atoms

namespace Go.Proofs.YthofogokpolhdaaGreatDoor.Atoms
open Go.RowKit
set_option linter.unusedVariables false
set_option linter.unusedSimpArgs false

/-- An append whose run is known. -/
theorem wpList_app {P : Program} {w : World} {ops : Array Oper} {rest : List Oper} {o : Oper} {a : Act} {Q : Exit → Act → World → Prop} (hg : o.guard = none) (s x : Operand) (t tx : TypeId)
    (ho : o.op = .call { callee := .builtin .append, args := #[s, x], argTypes := #[t, tx] }) {v : Value} {V : World} (hr : ∀ ty, (Builtin.append_ #[t, tx] ty #[a.eval s, a.eval x]).run P w = .ok v V)
    (h : wpList P ops Q rest (a.put o.dst v) V) : wpList P ops Q (o :: rest) a w := by
  refine wpList_plain hg fun K hK => ?_
  unfold Oper.wp execOp
  simp only [ho, resolve, invoke, builtin, Sem.run_bind, Sem.run_pure, Result.andThen_ok, List.map_toArray, List.map_cons, List.map_nil, hr]
  exact hK _ _ h
/-- How a copy is told. -/
def Cloned (w : World) (k n : Nat) (f : Nat → Nat → Value) (e : Ending) (w' : World) : Prop := ∃ s', e = .returned s' ∧ SliceAt w' s' k n f ∧ Above w.heap.size s' ∧ Below w.heap.size w w'
theorem u_ct : Tryz.prog.underlying 132 = some (.slice 147) := by kernel_rfl
theorem u_ca : Tryz.prog.underlying 86 = some (.slice 134) := by kernel_rfl
theorem info_of {t : TypeId} {k b z : Nat} (h : (Tryz.prog.info? t).map (fun i => (i.size, i.bytes, i.zero.map (·.cells.size))) = some (k, b, some z)) :
    ∃ i, Tryz.prog.info? t = some i ∧ i.size = k ∧ i.bytes = b ∧ ∃ v, i.zero = some v ∧ v.cells.size = z := by
  cases hi : Tryz.prog.info? t with
  | none => rw [hi] at h; cases h
  | some i =>
    rw [hi] at h
    simp only [Option.map_some, Option.some.injEq, Prod.mk.injEq] at h
    obtain ⟨h1, h2, h3⟩ := h
    cases hz : i.zero with
    | none => rw [hz] at h3; cases h3
    | some v =>
      rw [hz] at h3
      exact ⟨i, rfl, h1, h2, v, hz, by simpa using h3⟩
theorem nil_ct (V : World) : (binOp BinOp.eql 132 (.slice none 0 0) (.slice none 0 0)).run Tryz.prog V = .ok (.bool true) V := by kernel_rfl
theorem not_ct (a : Addr) (n c : Nat) (V : World) : (binOp BinOp.eql 132 (.slice (some a) n c) (.slice none 0 0)).run Tryz.prog V = .ok (.bool false) V := by kernel_rfl
theorem info_ct : ∃ i, Tryz.prog.info? 147 = some i ∧ i.size = 2 ∧ i.bytes = 16 ∧ ∃ v, i.zero = some v ∧ v.cells.size = 2 := info_of (by kernel_rfl)
theorem nil_ca (V : World) : (binOp BinOp.eql 86 (.slice none 0 0) (.slice none 0 0)).run Tryz.prog V = .ok (.bool true) V := by kernel_rfl
theorem not_ca (a : Addr) (n c : Nat) (V : World) : (binOp BinOp.eql 86 (.slice (some a) n c) (.slice none 0 0)).run Tryz.prog V = .ok (.bool false) V := by kernel_rfl
theorem info_ca : ∃ i, Tryz.prog.info? 134 = some i ∧ i.size = 12 ∧ i.bytes = 152 ∧ ∃ v, i.zero = some v ∧ v.cells.size = 12 := info_of (by kernel_rfl)

end Go.Proofs.YthofogokpolhdaaGreatDoor.Atoms

namespace Go.Proofs.YthofogokpolhdaaGreatDoor.Atoms
open Go.RowKit
set_option linter.unusedVariables false
set_option linter.unusedSimpArgs false

/-- Each place has a slice of its terms. -/
def TermsAll (w : World) (rows : List Row) (S : Nat → Value) : Prop := ∀ i, i < rows.length → TermsAt w (S i) (rows.getD i default).ts
theorem TermsAll.go {w w' : World} {rows : List Row} {S : Nat → Value} (h : TermsAll w rows S) (hb : Below w.heap.size w w') : TermsAll w' rows S := fun i hi => (h i hi).go hb
/-- The slice s holds these atoms. -/
def AtomsSl (w : World) (s : Value) (rows : List Row) (S : Nat → Value) : Prop := SliceAt w s 12 rows.length (cellA rows S) ∧ TermsAll w rows S
theorem AtomsSl.go {w w' : World} {s : Value} {rows : List Row} {S : Nat → Value} (h : AtomsSl w s rows S) (hb : Below w.heap.size w w') : AtomsSl w' s rows S := ⟨SliceAt.go h.1 hb, h.2.go hb⟩
/-- Rows as many, and as great, as a memory bears. -/
structure Fits (rows : List Row) : Prop where
  len : rows.length ≤ 1000000
  ts : ∀ i, (rows.getD i default).ts.length ≤ 1000000
  fine : ∀ i, (rows.getD i default).Fine
theorem cell_one {w : World} {rows : List Row} {S : Nat → Value} (h : TermsAll w rows S) : ∀ i, i < rows.length → ∀ j, j < 12 → (cellA rows S i j).oneCell' = true := by
  intro i hi j hj
  obtain ⟨o, c, hs⟩ := SliceAt.slice (h i hi)
  unfold cellA Row.cell Row.cs
  rw [hs]
  match j, hj with
  | 0, _ => rfl
  | 1, _ => rfl
  | 2, _ => rfl
  | 3, _ => rfl
  | 4, _ => rfl
  | 5, _ => rfl
  | 6, _ => rfl
  | 7, _ => rfl
  | 8, _ => rfl
  | 9, _ => rfl
  | 10, _ => rfl
  | 11, _ => rfl
theorem term_one (ts : List (Int × Int)) : ∀ i, i < ts.length → ∀ j, j < 2 → (cellT ts i j).oneCell' = true := by
  intro i hi j hj
  unfold cellT termCell
  split <;> rfl
/-- With one slice another one. -/
def putS (S : Nat → Value) (k : Nat) (s : Value) : Nat → Value := fun i => if i = k then s else S i
theorem upd_slice (rows : List Row) (S : Nat → Value) (k : Nat) (s : Value) : ∀ i, i < rows.length → ∀ j, j < 12 → upd (cellA rows S) k 11 s i j = cellA rows (putS S k s) i j := by
  intro i hi j hj
  unfold upd
  by_cases e : i = k ∧ j = 11
  · rw [if_pos e]
    obtain ⟨rfl, rfl⟩ := e
    simp [cellA, Row.cell, Row.cs, putS]
  · rw [if_neg e]
    unfold cellA putS
    by_cases e2 : i = k
    · rw [if_pos e2]
      have hj11 : j ≠ 11 := fun h => e ⟨e2, h⟩
      unfold Row.cell Row.cs
      match j, hj, hj11 with
      | 0, _, _ => rfl
      | 1, _, _ => rfl
      | 2, _, _ => rfl
      | 3, _, _ => rfl
      | 4, _, _ => rfl
      | 5, _, _ => rfl
      | 6, _, _ => rfl
      | 7, _, _ => rfl
      | 8, _, _ => rfl
      | 9, _, _ => rfl
      | 10, _, _ => rfl
      | 11, _, h => exact absurd rfl h
    · rw [if_neg e2]
/-- How the world stands in Each: the box of the copy at ob, the copy, what was copied of its terms. -/
structure EachI (w v : World) (ob : Nat) (s : Value) (rows : List Row) (T : Nat → Value) (k : Nat) : Prop where
  at_ : AtomsSl v s rows T
  above : Above w.heap.size s
  made : ∀ i, i < k → Above w.heap.size (T i)
  box : v.cell? ⟨ob, 0, none⟩ = some s
  ob : w.heap.size ≤ ob ∧ ob < v.heap.size
  below : Below w.heap.size w v
theorem EachI.go {w v v' : World} {ob : Nat} {s : Value} {rows : List Row} {T : Nat → Value} {k : Nat} (h : EachI w v ob s rows T k) (hb : Below v.heap.size v v') : EachI w v' ob s rows T k :=
  ⟨h.at_.go hb, h.above, h.made, (hb.cell (p := ⟨ob, 0, none⟩) h.ob.2).trans h.box, ⟨h.ob.1, by have := h.ob.2; have := hb.size; omega⟩, h.below.trans (hb.mono h.below.size)⟩
theorem EachI.drew {w v : World} {ob : Nat} {s : Value} {rows : List Row} {T : Nat → Value} {k : Nat} (h : EachI w v ob s rows T k) : EachI w v.drew ob s rows T k :=
  h.go (Below.refl _ _).drew
/-- A round's store. -/
theorem EachI.put {w v : World} {ob b c : Nat} {rows : List Row} {T : Nat → Value} {k : Nat} (h : EachI w v ob (.slice (some ⟨b, 0, none⟩) rows.length c) rows T k) (hk : k < rows.length) {s' : Value} (hs : TermsAt v s' (rows.getD k default).ts) (ha : Above w.heap.size s') :
    EachI w (v.setCell ⟨b, k * 12 + 11, none⟩ s') ob (.slice (some ⟨b, 0, none⟩) rows.length c) rows (putS T k s') (k + 1) := by
  obtain ⟨⟨hsl, hts⟩, hab, hm, hbx, hob, hB⟩ := h
  rcases hsl with ⟨h0, _⟩ | ⟨b', c', he, hc, hsp, hg⟩
  · omega
  injection he with e1 e2 e3
  injection e1 with e1
  injection e1 with e1
  subst e1 e3
  have hbw : w.heap.size ≤ b := hab _ _ _ rfl
  have hx : v.cell? ⟨b, 0, none⟩ = some (.string (bs (rows.getD 0 default).c0)) := by
    have := hg.1 0 (by omega) 0 (by omega)
    rw [Nat.zero_mul] at this
    exact this
  have hne : ob ≠ b := by
    intro e
    subst e
    rw [hbx] at hx
    cases hx
  refine ⟨⟨.inr ⟨b, c, rfl, hc, hsp.set _ _ _, ?_⟩, ?_⟩, hab, ?_, ?_, ?_, ?_⟩
  · exact (hg.set k 11 hk (by omega) s').ext (upd_slice rows T k s')
  · intro i hi
    unfold putS
    by_cases e : i = k
    · rw [if_pos e, e]
      exact hs.text hx _ _
    · rw [if_neg e]
      exact (hts i hi).text hx _ _
  · intro i hi
    unfold putS
    by_cases e : i = k
    · rw [if_pos e]; exact ha
    · rw [if_neg e]; exact hm i (by omega)
  · rw [World.cell?_setCell_other _ _ _ _ (by intro hh; injection hh with e1 e2; exact hne e1.symm)]
    exact hbx
  · rw [World.size_setCell]; exact hob
  · exact hB.setCell hbw _

theorem EachI.cells {w v : World} {ob b c : Nat} {rows : List Row} {T : Nat → Value} {k : Nat} (h : EachI w v ob (.slice (some ⟨b, 0, none⟩) rows.length c) rows T k) (hk : k < rows.length) :
    v.cell? ⟨ob, 0, none⟩ = some (.slice (some ⟨b, 0, none⟩) rows.length c) ∧ v.cell? ⟨b, k * 12 + 11, none⟩ = some (T k) := by
  refine ⟨h.box, ?_⟩
  rcases h.at_.1 with ⟨h0, _⟩ | ⟨b', c', he, hc, hsp, hg⟩
  · omega
  injection he with e1 e2 e3
  injection e1 with e1
  injection e1 with e1
  subst e1
  exact hg.1 k hk 11 (by omega)
theorem EachI.thaw {w v : World} {ob b c : Nat} {rows : List Row} {T : Nat → Value} {k : Nat} (h : EachI w v ob (.slice (some ⟨b, 0, none⟩) rows.length c) rows T k) (hk : k < rows.length) (j : Nat) : v.frozen? ⟨b, j, none⟩ = false := by
  rcases h.at_.1 with ⟨h0, _⟩ | ⟨b', c', he, hc, hsp, hg⟩
  · omega
  injection he with e1 e2 e3
  injection e1 with e1
  injection e1 with e1
  subst e1
  exact hg.2.1 j

end Go.Proofs.YthofogokpolhdaaGreatDoor.Atoms

