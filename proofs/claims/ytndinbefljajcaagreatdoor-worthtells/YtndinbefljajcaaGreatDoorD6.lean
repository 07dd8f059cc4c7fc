/-
  The contract of dims.Text: what it tells of any dims; the world below stays as it was.
-/
import Derived.Test.YtndinbefljajcaaGreatDoorD5
import Derived.RangeFuncBox
import Derived.RangeFuncWrites
namespace Go.Proofs.YtndinbefljajcaaGreatDoor.Dims
open Go.RowKit Go.Shelf
attribute [local go_sem] Oper.semAt_some
set_option linter.unusedVariables false
set_option linter.unusedSimpArgs false

theorem row_kept {W W' : World} {B : Nat} {e : TypeId} {v : Value} {n : Nat} {l : List Value} (h : W.ownsRowF B e 1 v n l) (hk : ∀ (k : Nat) (o : Obj), W.heap[k]? = some o → o.isCells = true → W'.heap[k]? = some o) : W'.ownsRowF B e 1 v n l := by
  refine ⟨h.1, ?_⟩
  rcases h.2 with h2 | ⟨g, cap, cur, fz, hv, hB, hg, r⟩
  · exact .inl h2
  · exact .inr ⟨g, cap, cur, fz, hv, hB, hk g _ hg rfl, r⟩
theorem builder_kept {W W' : World} {T e : TypeId} {B b : Nat} {l : List Value} (h : Lib.IsBuilderF T e B b l W) (hk : ∀ (k : Nat) (o : Obj), W.heap[k]? = some o → o.isCells = true → W'.heap[k]? = some o) : Lib.IsBuilderF T e B b l W' := by
  rcases h with ⟨hB, v, hb, ho, hn⟩ | ⟨hB, v, hb, ho, hn⟩
  · exact .inl ⟨hB, v, hk b _ hb rfl, row_kept ho hk, hn⟩
  · exact .inr ⟨hB, v, hk b _ hb rfl, row_kept ho hk, hn⟩
theorem builder_below {W W' : World} {T e : TypeId} {B b : Nat} {l : List Value} (h : Lib.IsBuilderF T e B b l W) (hb : Below W.heap.size W W') : Lib.IsBuilderF T e B b l W' :=
  builder_kept h fun k o hk _ => (hb.block k (Array.getElem?_eq_some_iff.1 hk).1).trans hk
theorem builder_block {W : World} {T e : TypeId} {B b : Nat} {l : List Value} (h : Lib.IsBuilderF T e B b l W) : ∃ o, W.heap[b]? = some o ∧ o.isCells = true := by
  rcases h with ⟨hB, v, hb, ho, hn⟩ | ⟨hB, v, hb, ho, hn⟩ <;> exact ⟨_, hb, rfl⟩
theorem keeps_below {W W' : World} (h : Below W.heap.size W W') : KeepsOthers W W' := ⟨h.size, fun k o hk _ => (h.block k (Array.getElem?_eq_some_iff.1 hk).1).trans hk⟩
theorem keeps_write {W W' : World} {T e : TypeId} {B b : Nat} {l : List Value} (h : Lib.IsBuilderF T e B b l W) (hk : Lib.OthersKept e (some b) W W') (hs : W.heap.size ≤ W'.heap.size) : KeepsOthers W W' := by
  refine ⟨hs, fun k o ho hc => hk k o ho ?_ ?_⟩
  · rintro e
    obtain ⟨o', ho', hc'⟩ := builder_block h
    injection e with e
    subst e
    rw [ho] at ho'
    injection ho' with e
    subst e
    rw [hc] at hc'; simp at hc'
  · intro c fz e
    subst e
    simp [Obj.isCells] at hc
theorem builder_own (T e : TypeId) (B b : Nat) {β : Type} (f : β → List Value) (B' : Nat) : OwnFrom B' (fun s W => Lib.IsBuilderF T e B b (f s) W) :=
  fun s W W' row hs hg hr => builder_kept hs fun k o hk hc => (hg.block k (Array.getElem?_eq_some_iff.1 hk).1 (fun e => by
    obtain ⟨_, o', ho', hc'⟩ := hr k e.symm
    rw [hk] at ho'
    injection ho' with e
    subst e
    rw [hc] at hc'; simp at hc')).trans hk

/-- Where the rounds are: the builder holds the items of what has come. -/
def TextI (w : World) (b : Nat) (a : D7) (pre : List (Fin 7)) (W : World) : Prop := Lib.IsBuilderF 95 5 b b (Lib.byteCells (itemsL a pre)) W ∧ Below w.heap.size w W

theorem items_app (a : D7) (pre : List (Fin 7)) (i : Fin 7) : itemsL a (pre ++ [i]) = itemsL a pre ++ [letter i.val] ++ Lib.itoa (a.get i.val) := by
  simp [itemsL, item]
theorem items_len (a : D7) (hf : Fine a) : ∀ pre : List (Fin 7), (itemsL a pre).length ≤ 22 * pre.length
  | [] => by simp [itemsL]
  | i :: l => by
    have := items_len a hf l
    have h := item_len i.val (a.get i.val) (hf i.val i.isLt).1 (hf i.val i.isLt).2
    simp only [itemsL, List.flatMap_cons, List.length_append, List.length_cons] at this ⊢
    omega
theorem cells_app (a b : List UInt8) : Lib.byteCells (a ++ b) = Lib.byteCells a ++ Lib.byteCells b := by simp [Lib.byteCells]

/-- The return, behind the rounds' mark. -/
theorem text_finish (w W : World) (tmps : Array Value) (D : Nat) (s : ByteArray) (hB : Below w.heap.size w W) (hD : W.heap[D]? = some (.deferred (some []))) (hD1 : w.heap.size ≤ D) (ht : tmps[2]? = some (.string s)) :
    LeavesInM Fence.wide 9 Tryz.prog Tryz.f28 tmps (fun e w' => e = .returned (.string s) ∧ Below w.heap.size w w') [{ target := .collected D, args := #[] }] .returning W := by
  refine ⟨by simp, .inl ⟨_, _, rfl, run_takeDeferred hD, ?_⟩⟩
  refine ⟨.string s, ?_, rfl, hB.trans (belowK_b (w := w) (Nat.le_refl _) _ D _ (.deferred none) hD1 hD rfl rfl)⟩
  simp [results, Tryz.f28, go_sem, ht]

set_option maxRecDepth 100000 in
set_option maxHeartbeats 2000000 in
theorem text_yes_in (a : D7) (w : World) (hE : EnvT w) (hr : Right a) :
    CallsIn Fence.wide 9 Tryz.prog 28 #[a.v] w fun e w' => e = .returned (.string (bs (textL a))) ∧ Below w.heap.size w w' := by
  have hf := hr.fine
  have hA := OneAt.new w a
  have R := Lib.hid (rightB_of hr)
  have rA := right_any a
  have eA := each_call a
  simp only [D7.v] at rA eA ⊢
  obtain ⟨c0, c1, c2, c3, c4, c5, c6⟩ := hA.cells
  refine callsIn_of_wp_marks Tryz.func28 rfl trivial ?_ rfl
  simp only [Tryz.ntmps28, List.size_toArray, List.length_cons, List.length_nil, Nat.reduceAdd, Nat.reduceSub, Array.replicate_succ, Array.replicate_zero, List.push_toArray, List.append_toArray, List.nil_append, List.cons_append]
  gi_wp2
  refine ⟨trivial, (callsIn_wide.2 (rA _ hf)).mono ?_⟩
  rintro e w1 ⟨rfl, hb⟩
  rw [R.out]
  replace hA := hA.below hb
  clear hb c0 c1 c2 c3 c4 c5 c6
  obtain ⟨c0, c1, c2, c3, c4, c5, c6⟩ := (hA.below (v' := w1.alloc (.cells #[.pointer none, .slice none 0 0] 95)) (by go_grown)).cells
  gi_wp2_with (refine ⟨trivial, ?_⟩; gi_at_call 63; refine (callsIn_wide.2 (eA _)).mono ?_; rintro e w' ⟨rfl, rfl⟩)
  clear c0 c1 c2 c3 c4 c5 c6
  have hL := Lies7.new (w1.alloc (.cells #[.pointer none, .slice none 0 0] 95)) a
  simp only [World.size_alloc] at hL
  have hs1 := hA.2.2.2
  have hF := (fresh_builder w1).alloc (.cells #[.int .i64 a.a0, .int .i64 a.a1, .int .i64 a.a2, .int .i64 a.a3, .int .i64 a.a4, .int .i64 a.a5, .int .i64 a.a6] 23)
  have hB0 : Below w.heap.size w ((w1.alloc (.cells #[.pointer none, .slice none 0 0] 95)).alloc (.cells #[.int .i64 a.a0, .int .i64 a.a1, .int .i64 a.a2, .int .i64 a.a3, .int .i64 a.a4, .int .i64 a.a5, .int .i64 a.a6] 23)) := (hA.1.alloc (by omega) _).alloc (by simp only [World.size_alloc]; omega) _
  refine wpIn_rangeFunc_ownF rfl (by omega) (gf := 87) (lb := #[.pointer (some ⟨w1.heap.size + 1, 0, none⟩)]) rfl trivial (enters_of Tryz.func87 (by kernel_rfl) rfl)
    (each_stops 8 (w1.heap.size + 1) a _ (by omega) hL) (fun _ _ => trivial) (fun _ _ _ _ _ _ _ _ => trivial) (Below.refl _ _) (fun _ => rfl)
    (TextI w w1.heap.size a) (fun _ _ _ => False)
    (OwnFrom.and (builder_own _ _ _ _ (fun pre => Lib.byteCells (itemsL a pre)) _) (ownFrom_below (Nat.le_refl _) (by simp only [World.size_alloc]; omega)))
    (fun _ _ _ _ _ hs _ _ => hs)
    ⟨hF, hB0⟩
    (fun i => { tmps := #[.agg #[.int .i64 a.a0, .int .i64 a.a1, .int .i64 a.a2, .int .i64 a.a3, .int .i64 a.a4, .int .i64 a.a5, .int .i64 a.a6], .pointer (some ⟨w.heap.size, 0, none⟩), .string ⟨#[]⟩, .pointer (some ⟨w1.heap.size, 0, none⟩), .int .i64 (i.val : Int), .int .i64 (a.get i.val), .agg #[.int .i64 a.a0, .int .i64 a.a1, .int .i64 a.a2, .int .i64 a.a3, .int .i64 a.a4, .int .i64 a.a5, .int .i64 a.a6], .bool true, .bool false, .agg #[.int .i64 a.a0, .int .i64 a.a1, .int .i64 a.a2, .int .i64 a.a3, .int .i64 a.a4, .int .i64 a.a5, .int .i64 a.a6], .func (.func 87) #[] #[.pointer (some ⟨w1.heap.size + 1, 0, none⟩)], .int .i64 (i.val : Int), .int .i64 (a.get i.val), undef, undef, undef, undef, undef, undef, undef, undef], defers := [] }) ?assign ?body ?done ?stop
  case assign =>
    intro l p W K hK
    gi_wp2
    exact hK
  case body =>
    rintro l pre i W ⟨hI, hB⟩ hlen
    have hEW := hE.below hB
    have hlet := hEW.1.1 i.val i.isLt
    have i7 : (i.val : Int) < 7 := by have := i.isLt; omega
    have hpl := places_len a
    have hil := items_len a hf pre
    have hfi := hf i.val i.isLt
    have hcl := Lib.byteCells_length (itemsL a pre)
    have hsz := hB.size
    have hbs := (builder_block hI)
    have hb1 : w1.heap.size ≤ W.heap.size := by
      obtain ⟨o, ho, _⟩ := hbs
      have := (Array.getElem?_eq_some_iff.1 ho).1
      omega
    clear hbs
    gi_wp2
    refine ⟨trivial, (CallsIn.inRound l (callsIn_wide.2 (write_any w1.heap.size w1.heap.size (Lib.byteCells (itemsL a pre)) [letter i.val] W hI (by rw [hcl]; simp only [List.length_cons, List.length_nil]; omega) hb1))).mono ?_⟩
    rintro e W1 ⟨rfl, hI1, hBl, hO⟩
    have k1 := keeps_write hI hO hBl.size
    have hB1 := hB.trans (hBl.mono (by omega))
    have hz1 := hBl.size
    clear hI hO hBl hlet
    have hEW1 := hE.below hB1
    gi_wp2
    refine ⟨trivial, (CallsIn.inRound l (callsIn_wide.2 (dec_any (a.get i.val) W1 hEW1.2.1 hfi.1 hfi.2))).mono ?_⟩
    rintro e W2 ⟨rfl, hBl⟩
    have k2 := keeps_below hBl
    have hI2 := builder_below hI1 hBl
    have hB2 := hB1.trans (hBl.mono (by omega))
    have hz2 := hBl.size
    clear hBl hI1
    gi_wp2
    have hit := Lib.itoa_length_le (a.get i.val) hfi.1 hfi.2
    refine ⟨trivial, (CallsIn.inRound l (callsIn_wide.2 (write_any w1.heap.size w1.heap.size (Lib.byteCells (itemsL a pre) ++ Lib.byteCells [letter i.val]) (Lib.itoa (a.get i.val)) W2 hI2 (by rw [List.length_append, hcl, Lib.byteCells_length]; simp only [List.length_cons, List.length_nil]; omega) (by omega)))).mono ?_⟩
    rintro e W3 ⟨rfl, hI3, hBl, hO⟩
    have k3 := keeps_write hI2 hO hBl.size
    have hB3 := hB2.trans (hBl.mono (by omega))
    clear hI2 hO hBl
    gi_wp2
    refine ⟨(k1.trans k2).trans k3, trivial, ?_, hB3⟩
    rw [items_app, cells_app, cells_app]
    exact hI3
  case done =>
    rintro D ys V hD rfl ⟨hI, hB⟩ hK
    have hb1 : w1.heap.size ≤ V.heap.size := by
      obtain ⟨o, ho, _⟩ := builder_block hI
      have := (Array.getElem?_eq_some_iff.1 ho).1
      omega
    simp only [World.size_alloc] at hD
    rw [items_places] at hI
    gi_wp2
    refine ⟨trivial, (callsIn_wide.2 (Tryz.Builder_String_any_k w1.heap.size w1.heap.size (textL a) V hI hb1)).mono ?_⟩
    rintro e V1 ⟨rfl, _, hBl, hO⟩
    have k1 := keeps_write hI hO hBl.size
    have hB1 := hB.trans (hBl.mono (by omega))
    have hK1 := k1.same D _ hK rfl
    gi_wp2
    exact text_finish w V1 _ D (bs (textL a)) hB1 hK1 (by omega) rfl
  case stop =>
    rintro D c pre V hD hpre hX hK
    exact absurd hX id

theorem text_yesT (a : D7) (w : World) (hE : EnvT w) (hr : Right a) :
    Calls Tryz.prog 28 #[a.v] w fun e w' => e = .returned (.string (bs (textL a))) ∧ Below w.heap.size w w' :=
  callsIn_wide.1 (text_yes_in a w hE hr)

set_option maxRecDepth 100000 in
set_option maxHeartbeats 1000000 in
theorem text_no (a : D7) (w : World) (hf : Fine a) (hr : ¬ Right a) :
    Calls Tryz.prog 28 #[a.v] w fun e w' => e = .returned (.string (bs [])) ∧ Below w.heap.size w w' := by
  have hA := OneAt.new w a
  have R := Lib.hid (rightB_no hr)
  have rA := right_any a
  simp only [D7.v] at rA ⊢
  obtain ⟨c0, c1, c2, c3, c4, c5, c6⟩ := hA.cells
  go_enter Tryz.func28, Tryz.ntmps28
  go_wp2_with fail
  refine (rA _ hf).mono ?_
  rintro e w1 ⟨rfl, hb⟩
  rw [R.out]
  replace hA := hA.below hb
  clear hb c0 c1 c2 c3 c4 c5 c6
  go_wp2
  refine bodyPost_ret (v := .string (bs [])) (by simp [results, Tryz.results28, go_sem, bs]) rfl ⟨rfl, hA.1⟩

/-- What Text tells. -/
theorem text_anyT (a : D7) (w : World) (hE : EnvT w) (hf : Fine a) :
    Calls Tryz.prog 28 #[a.v] w fun e w' => e = .returned (.string (bs (textD a))) ∧ Below w.heap.size w w' := by
  by_cases hr : Right a
  · rw [text_right hr]; exact text_yesT a w hE hr
  · rw [text_wrong hr]; exact text_no a w hf hr

end Go.Proofs.YtndinbefljajcaaGreatDoor.Dims
