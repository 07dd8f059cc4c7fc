/-
  Maps whose keys are codes: looked up, filled, cleared. Contract of (atoms.seen).add.
-/
import Derived.Test.YtpmibcdmaaagjaaDoorA2
import Derived.RangeFuncWrites
namespace Go.Proofs.YtpmibcdmaaagjaaDoor.Atoms
open Go.RowKit
set_option linter.unusedVariables false
set_option linter.unusedSimpArgs false

theorem u80 : Tryd.prog.underlying 79 = some (.array 9 5) := by kernel_rfl
theorem u54 : Tryd.prog.underlying 51 = some (.map 79 4) := by kernel_rfl
theorem u5 : Tryd.prog.underlying 5 = some (.int .u8) := by kernel_rfl
theorem key_ok (em : Bool) (a b c d e f g h i : Int) (w : World) : (Instr.checkKey em 10000 79 (.agg #[.int .u8 a, .int .u8 b, .int .u8 c, .int .u8 d, .int .u8 e, .int .u8 f, .int .u8 g, .int .u8 h, .int .u8 i])).run Tryd.prog w = .ok () w := by kernel_rfl
theorem key_ok' (em : Bool) (k : List Int) (h : k.length = 9) (w : World) : (Instr.checkKey em 10000 79 (keyV k)).run Tryd.prog w = .ok () w := by
  match k, h with
  | [a, b, c, d, e, f, g, h, i], _ => exact key_ok em a b c d e f g h i w
theorem part_at (k : List Int) (i : Nat) (hi : i < k.length) (w : World) : (part 5 (k.map (Value.int .u8)).toArray i).run Tryd.prog w = .ok (.int .u8 k[i]) w := by
  obtain ⟨t, ht⟩ : ∃ t, Tryd.prog.info? 5 = some t := Option.isSome_iff_exists.1 (by kernel_rfl)
  have hs : t.size = 1 := by
    have : (Tryd.prog.info? 5).map (·.size) = some 1 := by kernel_rfl
    rw [ht] at this
    simpa using this
  simp [part, typeInfo, ht, hs, u5, hi, go_sem]

set_option maxRecDepth 100000 in
theorem items_eq (k k' : List Int) (h : k.length = 9) (h' : k'.length = 9) (w : World) : ∀ l : List Nat, (∀ i ∈ l, i < 9) →
    (Op.eqItems 9999 5 1 (k.map (Value.int .u8)).toArray (k'.map (Value.int .u8)).toArray l).run Tryd.prog w = .ok (l.all fun i => k[i]? == k'[i]?) w := by
  intro l
  induction l with
  | nil => intro _; rfl
  | cons i l ih =>
    intro hl
    have hi : i < 9 := hl i (by simp)
    have h1 := part_at k i (by omega) w
    have h2 := part_at k' i (by omega) w
    simp only [Op.eqItems, Nat.mul_one, Sem.run_bind, h1, h2, Result.andThen_ok, run_equalIn_int w 9998 5 .u8 .u8 _ _ u5]
    rw [List.all_cons, List.getElem?_eq_getElem (by omega : i < k.length), List.getElem?_eq_getElem (by omega : i < k'.length)]
    have e : (some k[i] == some k'[i]) = (k[i] == k'[i]) := by simp
    rw [e]
    cases hc : (k[i] == k'[i]) with
    | true => simp only [Bool.not_true, Bool.false_eq_true, if_false, Bool.true_and]; exact ih (fun j hj => hl j (by simp [hj]))
    | false => simp only [Bool.not_false, if_true, Bool.false_and]; rfl
set_option maxRecDepth 100000 in
theorem eq_key (k k' : List Int) (h : k.length = 9) (h' : k'.length = 9) (w : World) : (Op.equal 79 (keyV k) (keyV k')).run Tryd.prog w = .ok (decide (k = k')) w := by
  obtain ⟨i, hi⟩ : ∃ i, Tryd.prog.info? 5 = some i := Option.isSome_iff_exists.1 (by kernel_rfl)
  have hc : Tryd.prog.cellsOf 5 = 1 := by kernel_rfl
  unfold Op.equal keyV Op.maxDepth
  rw [run_equalIn_array w 9999 _ _ u80 hi, hc, items_eq k k' h h' w _ (fun i hi => by simpa using hi)]
  congr 1
  rw [Bool.eq_iff_iff]
  simp only [List.all_eq_true, List.mem_range, beq_iff_eq, decide_eq_true_eq]
  constructor
  · intro hh
    apply List.ext_getElem?
    intro j
    by_cases hj : j < 9
    · exact hh j hj
    · rw [List.getElem?_eq_none (by omega), List.getElem?_eq_none (by omega)]
  · intro e; rw [e]; simp

/-- The block M holds a map with these keys. -/
def MapAt (w : World) (M : Nat) (K : List (List Int)) : Prop :=
  ∃ es clock, w.heap[M]? = some (.map es clock) ∧ es.toList.map (·.key) = K.map keyV ∧ (∀ e ∈ es.toList, e.val = .bool true) ∧ ∀ k ∈ K, k.length = 9
theorem MapAt.block {w w' : World} {M : Nat} {K : List (List Int)} (h : MapAt w M K) (hb : w'.heap[M]? = w.heap[M]?) : MapAt w' M K := by
  obtain ⟨es, clock, h1, h2⟩ := h
  exact ⟨es, clock, hb.trans h1, h2⟩
theorem MapAt.lt {w : World} {M : Nat} {K : List (List Int)} (h : MapAt w M K) : M < w.heap.size := by
  obtain ⟨es, clock, h1, h2⟩ := h
  exact (Array.getElem?_eq_some_iff.1 h1).1
theorem MapAt.go {w w' : World} {M : Nat} {K : List (List Int)} (h : MapAt w M K) (hb : Below w.heap.size w w') : MapAt w' M K := h.block (hb.block M h.lt)
theorem asking_no (k : List Int) (hk : k.length = 9) (w : World) : ∀ (es : List MapEntry) (K : List (List Int)) (i : Nat), es.map (·.key) = K.map keyV → (∀ k ∈ K, k.length = 9) → k ∉ K →
    (Instr.findAsking 79 (keyV k) es i).run Tryd.prog w = .ok none w
  | [], _, _, _, _, _ => rfl
  | e :: es, [], _, h, _, _ => by simp at h
  | e :: es, k' :: K, i, h, h9, hn => by
    simp only [List.map_cons, List.cons.injEq] at h
    simp only [List.mem_cons, not_or] at hn
    have hne : decide (k = k') = false := by simpa using hn.1
    simp only [Instr.findAsking, Sem.run_bind, h.1, eq_key k k' hk (h9 k' (by simp)) w, hne, Result.andThen_ok, Bool.false_eq_true, if_false]
    exact asking_no k hk w es K (i + 1) h.2 (fun x hx => h9 x (by simp [hx])) hn.2
theorem asking_yes (k : List Int) (hk : k.length = 9) (w : World) : ∀ (es : List MapEntry) (K : List (List Int)) (i : Nat), es.map (·.key) = K.map keyV → (∀ k ∈ K, k.length = 9) → (∀ e ∈ es, e.val = .bool true) → k ∈ K →
    ∃ j, (Instr.findAsking 79 (keyV k) es i).run Tryd.prog w = .ok (some (j, .bool true)) w
  | [], [], _, _, _, _, hn => by simp at hn
  | [], _ :: _, _, h, _, _, _ => by simp at h
  | e :: es, [], _, h, _, _, _ => by simp at h
  | e :: es, k' :: K, i, h, h9, hv, hn => by
    simp only [List.map_cons, List.cons.injEq] at h
    by_cases e0 : k = k'
    · have hne : decide (k = k') = true := by simpa using e0
      refine ⟨i, ?_⟩
      simp only [Instr.findAsking, Sem.run_bind, h.1, eq_key k k' hk (h9 k' (by simp)) w, hne, Result.andThen_ok, if_true, hv e (by simp)]
      rfl
    · have hne : decide (k = k') = false := by simpa using e0
      simp only [List.mem_cons, e0, false_or] at hn
      obtain ⟨j, hj⟩ := asking_yes k hk w es K (i + 1) h.2 (fun x hx => h9 x (by simp [hx])) (fun x hx => hv x (by simp [hx])) hn
      refine ⟨j, ?_⟩
      simp only [Instr.findAsking, Sem.run_bind, h.1, eq_key k k' hk (h9 k' (by simp)) w, hne, Result.andThen_ok, Bool.false_eq_true, if_false]
      exact hj
theorem findKey_asks (k : List Int) (es : List MapEntry) (w : World) : (Instr.findKey 79 (keyV k) es).run Tryd.prog w = (Instr.findAsking 79 (keyV k) es 0).run Tryd.prog w := by
  simp only [Instr.findKey, Sem.run_bind, run_underlying u80, Result.andThen_ok]
  cases es with
  | nil => rfl
  | cons e es => rfl
theorem MapAt.look {w : World} {M : Nat} {K : List (List Int)} (h : MapAt w M K) (k : List Int) (hk : k.length = 9) :
    (Instr.lookup 51 (.map (some M)) (keyV k) false).run Tryd.prog w = .ok (.bool (decide (k ∈ K))) w := by
  obtain ⟨es, clock, h1, h2, h3, h4⟩ := h
  have hz : (zeroValue 4).run Tryd.prog w = .ok (.bool false) w := by kernel_rfl
  have hg : (getObj M).run Tryd.prog w = .ok (.map es clock) w := by simp [getObj, Sem.run, h1]
  by_cases hm : k ∈ K
  · obtain ⟨j, hj⟩ := asking_yes k hk w es.toList K 0 h2 h4 h3 hm
    simp only [Instr.lookup, Sem.run_bind, run_underlying u54, Result.andThen_ok, hg, Sem.run_pure, key_ok' _ k hk, findKey_asks, hj, hm, decide_true]
    rfl
  · have hj := asking_no k hk w es.toList K 0 h2 h4 hm
    simp only [Instr.lookup, Sem.run_bind, run_underlying u54, Result.andThen_ok, hg, Sem.run_pure, key_ok' _ k hk, findKey_asks, hj, hm, decide_false, hz]
    rfl
/-- The world with one key more. -/
theorem MapAt.store {w : World} {M : Nat} {K : List (List Int)} (h : MapAt w M K) (k : List Int) (hk : k.length = 9) (hm : k ∉ K) :
    ∃ o, (Instr.mapUpdate 51 (.map (some M)) (keyV k) (.bool true)).run Tryd.prog w = .ok () (w.putObj M o) ∧ MapAt (w.putObj M o) M (K ++ [k]) := by
  have hlt := h.lt
  obtain ⟨es, clock, h1, h2, h3, h4⟩ := h
  have hg : (getObj M).run Tryd.prog w = .ok (.map es clock) w := by simp [getObj, Sem.run, h1]
  have hj := asking_no k hk w es.toList K 0 h2 h4 hm
  refine ⟨.map (es.push { key := keyV k, val := .bool true, born := clock }) (clock + 1), ?_, ?_⟩
  · simp only [Instr.mapUpdate, Sem.run_bind, run_underlying u54, Result.andThen_ok, hg, Sem.run_pure, key_ok' _ k hk, findKey_asks, hj]
    simp [setObj, Sem.run, h1, World.putObj]
  · refine ⟨_, _, World.putObj_heap_same hlt, ?_, ?_, ?_⟩
    · simp [h2]
    · intro e he
      simp only [Array.toList_push, List.mem_append, List.mem_singleton] at he
      rcases he with he | rfl
      · exact h3 e he
      · rfl
    · intro x hx
      simp only [List.mem_append, List.mem_singleton] at hx
      rcases hx with hx | rfl
      · exact h4 x hx
      · exact hk
/-- The world with the map cleared. -/
theorem MapAt.clear {w : World} {M : Nat} {K : List (List Int)} (h : MapAt w M K) :
    ∃ o, (∀ t, (Builtin.clear_ #[51] t #[.map (some M)]).run Tryd.prog w = .ok (.tuple #[]) (w.putObj M o)) ∧ MapAt (w.putObj M o) M [] := by
  have hlt := h.lt
  obtain ⟨es, clock, h1, h2, h3, h4⟩ := h
  have hg : (getObj M).run Tryd.prog w = .ok (.map es clock) w := by simp [getObj, Sem.run, h1]
  refine ⟨.map #[] clock, fun t => ?_, ?_⟩
  · simp [Builtin.clear_, run_underlying u54, hg]
    simp [setObj, Sem.run, h1, World.putObj]
  · exact ⟨_, _, World.putObj_heap_same hlt, rfl, fun e he => by simp at he, fun x hx => by simp at hx⟩
theorem MapAt.new (w : World) : MapAt (w.alloc (.map #[] 0)) w.heap.size [] :=
  ⟨#[], 0, World.alloc_heap_new w _, rfl, fun e he => by simp at he, fun x hx => by simp at hx⟩

end Go.Proofs.YtpmibcdmaaagjaaDoor.Atoms
