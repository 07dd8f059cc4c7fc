/-
  Aggregates by value, of whatever nesting, all of whose cells are integers, bools or strings: their cells written out, with their bounds; no program in this text.
-/
import Derived.WalkKit
import Derived.ProofKit
import Derived.OpenShut
namespace Go.Proofs.Ytlfpfijhimngmaa.Frame
open Go.ChangeShapes Go.WideShapes Go.RowKit
set_option linter.unusedVariables false
set_option linter.unusedSimpArgs false

inductive Leaf where
  | int (k : IntKind)
  | bool
  | string

def fieldLeaves (P : Program) (g : TypeId → Option (List Leaf)) : List Field → Nat → Option (List Leaf)
  | [], _ => some []
  | f :: fs, o => match g f.type, fieldLeaves P g fs (o + P.cellsOf f.type) with
    | some l, some r => if f.offset = o ∧ l.length = P.cellsOf f.type then some (l ++ r) else none
    | _, _ => none

/-- The kinds of a type's cells, one behind the other. -/
def leaves (P : Program) : Nat → TypeId → Option (List Leaf)
  | 0, _ => none
  | f + 1, t => match P.underlying t with
    | some (.int k) => some [.int k]
    | some .bool => some [.bool]
    | some .string => some [.string]
    | some (.struct fs) => match fieldLeaves P (leaves P f) fs.toList 0 with
      | some l => if l.length = P.cellsOf t then some l else none
      | none => none
    | some (.array n e) => match leaves P f e with
      | some l => if l.length = P.cellsOf e ∧ P.cellsOf t = n * P.cellsOf e then some (List.replicate n l).flatten else none
      | none => none
    | _ => none

def LeafOk : Leaf → Value → Prop
  | .int k, v => ∃ n, v = .int k n ∧ (Lit.int k n).wf = true
  | .bool, v => ∃ b, v = .bool b
  | .string, v => ∃ s : ByteArray, v = .string s ∧ s.size ≤ maxLen

def AllLeaf : List Leaf → List Value → Prop
  | [], [] => True
  | l :: ls, v :: vs => LeafOk l v ∧ AllLeaf ls vs
  | _, _ => False

theorem AllLeaf.cons {l : Leaf} {ls : List Leaf} {cs : List Value} (h : AllLeaf (l :: ls) cs) : ∃ v vs, cs = v :: vs ∧ LeafOk l v ∧ AllLeaf ls vs := by
  cases cs with
  | nil => exact h.elim
  | cons v vs => exact ⟨v, vs, rfl, h.1, h.2⟩
theorem AllLeaf.nil {cs : List Value} (h : AllLeaf [] cs) : cs = [] := by
  cases cs with
  | nil => rfl
  | cons v vs => exact h.elim

theorem AllLeaf.append : ∀ {a b : List Leaf} {x y : List Value}, AllLeaf a x → AllLeaf b y → AllLeaf (a ++ b) (x ++ y)
  | [], _, [], _, _, h => h
  | l :: ls, b, v :: vs, y, h, k => ⟨h.1, AllLeaf.append h.2 k⟩
  | [], _, _ :: _, _, h, _ => h.elim
  | _ :: _, _, [], _, h, _ => h.elim

theorem take_split (cs : List Value) (o a b : Nat) : (cs.drop o).take (a + b) = (cs.drop o).take a ++ (cs.drop (o + a)).take b := by
  rw [List.take_add, List.drop_drop]

section
variable {H : Type} {enc : TypeId × Value → H} {P : Program} {w : World} {base : Nat} {spare : Nat → Bool} {held : Bool}

theorem fields_ok (g : TypeId → Option (List Leaf)) (cs : List Value) : ∀ (fs : List Field) (o : Nat) (ls : List Leaf), fieldLeaves P g fs o = some ls →
    (∀ f ∈ fs, ∀ l, g f.type = some l → AllLeaf l ((cs.drop f.offset).take (P.cellsOf f.type))) → AllLeaf ls ((cs.drop o).take ls.length)
  | [], o, ls, h, _ => by
    simp only [fieldLeaves, Option.some.injEq] at h
    subst h
    simp [AllLeaf]
  | f :: fs, o, ls, h, hf => by
    unfold fieldLeaves at h
    split at h
    · rename_i l r hl hr
      split at h
      · rename_i hc
        simp only [Option.some.injEq] at h
        subst h
        have h1 := hf f (by simp) l hl
        have h2 := fields_ok g cs fs _ r hr (fun f' hf' => hf f' (by simp [hf']))
        rw [List.length_append, take_split]
        rw [hc.1] at h1
        rw [hc.2]
        exact AllLeaf.append h1 h2
      · simp at h
    · simp at h

theorem array_ok (l : List Leaf) (cs : List Value) : ∀ (n i : Nat), (∀ j, i ≤ j → j < i + n → AllLeaf l ((cs.drop (j * l.length)).take l.length)) →
    AllLeaf (List.replicate n l).flatten ((cs.drop (i * l.length)).take (n * l.length))
  | 0, i, _ => by simp [AllLeaf]
  | n + 1, i, h => by
    have h1 := h i (by omega) (by omega)
    have h2 := array_ok l cs n (i + 1) (fun j a b => h j (by omega) (by omega))
    rw [List.replicate_succ, List.flatten_cons, show (n + 1) * l.length = l.length + n * l.length from by rw [Nat.succ_mul, Nat.add_comm], take_split]
    rw [show i * l.length + l.length = (i + 1) * l.length from by rw [Nat.succ_mul]]
    exact AllLeaf.append h1 h2

theorem flat_nil {xs : List (DataW H × List MemPlace)} (h : ∀ (i : Nat) x, xs[i]? = some x → x.2 = []) : xs.flatMap (·.2) = [] := by
  rw [List.flatMap_eq_nil_iff]
  intro x hx
  obtain ⟨i, hi⟩ := List.getElem?_of_mem hx
  exact h i x hi

theorem leaf_at (P : Program) (g : TypeId → Option (List Leaf)) : ∀ (fs : List Field) (o : Nat) (ls : List Leaf), fieldLeaves P g fs o = some ls → ∀ f ∈ fs, ∃ l, g f.type = some l
  | [], _, _, _, f, hf => by simp at hf
  | f' :: fs, o, ls, h, f, hf => by
    unfold fieldLeaves at h
    split at h
    · rename_i l r hl hr
      rcases List.mem_cons.1 hf with rfl | hm
      · exact ⟨l, hl⟩
      · exact leaf_at P g fs _ r hr f hm
    · simp at h

theorem trod_leaves : ∀ (f : Nat) (t : TypeId) (ls : List Leaf) (fuel : Nat) (cs : List Value) (x : DataW H × List MemPlace), leaves P f t = some ls →
    DataW.trod enc P w base spare held fuel t cs = some x → AllLeaf ls cs ∧ x.2 = []
  | 0, t, ls, fuel, cs, x, h, _ => by simp [leaves] at h
  | f + 1, t, ls, fuel, cs, x, h, hx => by
    unfold leaves at h
    split at h
    · rename_i k hu
      simp only [Option.some.injEq] at h
      subst h
      obtain ⟨n, rfl, rfl, hw⟩ := DataW.trod_int hu hx
      exact ⟨⟨⟨n, rfl, hw⟩, trivial⟩, rfl⟩
    · rename_i hu
      simp only [Option.some.injEq] at h
      subst h
      obtain ⟨n, rfl, rfl⟩ := DataW.trod_bool hu hx
      exact ⟨⟨⟨n, rfl⟩, trivial⟩, rfl⟩
    · rename_i hu
      simp only [Option.some.injEq] at h
      subst h
      obtain ⟨n, rfl, rfl, hw⟩ := DataW.trod_string hu hx
      exact ⟨⟨⟨n, rfl, hw⟩, trivial⟩, rfl⟩
    · rename_i fs hu
      split at h
      · rename_i l hl
        split at h
        · rename_i hc
          simp only [Option.some.injEq] at h
          subst h
          obtain ⟨xs, n, rfl, rfl, hlen, hsz, hall⟩ := DataW.trod_struct hu hx
          constructor
          · have := fields_ok (leaves P f) cs fs.toList 0 l hl (fun f' hf' l' hl' => by
              obtain ⟨i, hi⟩ := List.getElem?_of_mem hf'
              rw [Array.getElem?_toList] at hi
              have h1 := hall i f' hi
              have hlt : i < xs.length := by rw [hsz]; exact (Array.getElem?_eq_some_iff.1 hi).1
              rw [List.getElem?_eq_getElem hlt] at h1
              exact (trod_leaves f f'.type l' n _ _ hl' h1).1)
            rw [List.drop_zero, List.take_of_length_le (by omega)] at this
            exact this
          · refine flat_nil fun i y hy => ?_
            have hlt : i < fs.size := by rw [← hsz]; exact (List.getElem?_eq_some_iff.1 hy).1
            have h1 := hall i fs[i] (Array.getElem?_eq_getElem hlt)
            rw [hy] at h1
            obtain ⟨l', hl'⟩ : ∃ l', leaves P f fs[i].type = some l' := leaf_at P (leaves P f) fs.toList 0 l hl fs[i] (by simp)
            exact (trod_leaves f fs[i].type l' n _ _ hl' h1).2
        · simp at h
      · simp at h
    · rename_i n e hu
      split at h
      · rename_i l hl
        split at h
        · rename_i hc
          simp only [Option.some.injEq] at h
          subst h
          obtain ⟨xs, m, rfl, rfl, hlen, hsz, hall⟩ := DataW.trod_array hu hx
          constructor
          · have := array_ok l cs n 0 (fun j _ hj => by
              have h1 := hall j (by omega)
              rw [List.getElem?_eq_getElem (show j < xs.length by omega)] at h1
              have h2 := (trod_leaves f e l m _ _ hl h1).1
              rw [hc.1]; exact h2)
            rw [Nat.zero_mul, List.drop_zero, List.take_of_length_le (by rw [hlen, hc.2, hc.1]; exact Nat.le_refl _)] at this
            exact this
          · refine flat_nil fun i y hy => ?_
            have hlt : i < n := by rw [← hsz]; exact (List.getElem?_eq_some_iff.1 hy).1
            have h1 := hall i hlt
            rw [hy] at h1
            exact (trod_leaves f e l m _ _ hl h1).2
        · simp at h
      · simp at h
    · simp at h
/-- An aggregate by value: its cells, each of its kind. -/
theorem open_leaves {t : TypeId} {ls : List Leaf} {v : Value} {d : DataW H} {ps : List MemPlace} (f : Nat) (hl : leaves P f t = some ls) (ha : ∃ cs, v = .agg cs)
    (h : DataW.Trod enc P w base spare held t v d ps) : ∃ cs : List Value, v = .agg cs.toArray ∧ AllLeaf ls cs ∧ ps = [] := by
  obtain ⟨⟨cs⟩, rfl⟩ := ha
  obtain ⟨fuel, hf⟩ := h
  obtain ⟨h1, h2⟩ := trod_leaves f t ls fuel _ _ hl hf
  exact ⟨cs, rfl, h1, h2⟩

theorem agg_of_struct {r : Reach} {b0 : Nat} {t : TypeId} {v : Value} {fs : Array Field} (ht : P.underlying t = some (.struct fs)) (h : Value.okWide P w r b0 t v) : ∃ cs, v = .agg cs := by
  simp only [Value.okWide, ht] at h
  obtain ⟨cs, h1, _⟩ := h
  exact ⟨cs, h1⟩
theorem agg_of_array {r : Reach} {b0 : Nat} {t : TypeId} {v : Value} {n : Nat} {e : TypeId} (ht : P.underlying t = some (.array n e)) (h : Value.okWide P w r b0 t v) : ∃ cs, v = .agg cs := by
  simp only [Value.okWide, ht] at h
  obtain ⟨cs, h1, _⟩ := h
  exact ⟨cs, h1⟩
end

end Go.Proofs.Ytlfpfijhimngmaa.Frame
