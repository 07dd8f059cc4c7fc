/-
  Contracts of slices.AppendSeq and slices.Collect over lex.Each's function.
-/
import Derived.Test.YthofogokpolhdaaGreatDoorX7
namespace Go.Proofs.YthofogokpolhdaaGreatDoor.Toks
open Go.RowKit Go.Shelf Go.Proofs.YthofogokpolhdaaGreatDoor.Ranges
open Go.Proofs.YthofogokpolhdaaGreatDoor.Style
attribute [local go_sem] Oper.semAt_some
set_option linter.unusedVariables false
set_option linter.unusedSimpArgs false

/-- The box of a row of tokens, while a range goes; V: the world where it began. -/
structure RwI (w V : World) (b : Nat) (o : Option Addr) (c : Nat) (L : List Tok) (W : World) : Prop where
  x1 : W.cell? ⟨b, 0, none⟩ = some (.slice o L.length c)
  f1 : W.frozen? ⟨b, 0, none⟩ = false
  at_ : ToksAt W (.slice o L.length c) L
  above : Above V.heap.size (.slice o L.length c)
  nz : L.length = 0 → Value.slice o L.length c = .slice none 0 0
  below : Below w.heap.size w W
  size : V.heap.size ≤ W.heap.size
  lo : w.heap.size ≤ b ∧ b < V.heap.size
theorem RwI.go {w V : World} {b : Nat} {o : Option Addr} {c : Nat} {L : List Tok} {W W' : World} (h : RwI w V b o c L W) (hb : Below W.heap.size W W') : RwI w V b o c L W' := by
  have hz := h.size
  have hlo := h.lo
  exact ⟨(hb.cell (p := ⟨b, 0, none⟩) (cell_lt h.x1)).trans h.x1, (hb.frozen (p := ⟨b, 0, none⟩) (cell_lt h.x1)).trans h.f1, h.at_.go hb, h.above, h.nz, h.below.trans (hb.mono h.below.size), Nat.le_trans hz hb.size, hlo⟩
theorem RwI.put {w V : World} {b : Nat} {o : Option Addr} {c : Nat} {L : List Tok} {W : World} (h : RwI w V b o c L W) {l : Nat} {ob ob' : Obj} (hl : W.heap[l]? = some ob) (ho : ob.isCells = false) (hv : V.heap.size ≤ l) : RwI w V b o c L (W.putObj l ob') := by
  have hlo := h.lo
  have k1 := (cell_put (o' := ob') h.x1 hl ho).2
  exact ⟨cell_same h.x1 k1, (frozen_of_block k1 0).trans h.f1, SliceAt.putObj h.at_ (by omega) h.nz _ hl ho, h.above, h.nz, below_putObj h.below l (by omega) _, by have := h.size; simp [World.putObj]; omega, hlo⟩
theorem RwI.more {w V : World} {b : Nat} {o : Option Addr} {c : Nat} {L : List Tok} {W : World} (h : RwI w V b o c L W) (hl : L.length ≤ 1000) (q : Tok) :
    ∃ X o' c', (∀ ty, (Builtin.append_ #[58, 58] ty #[.slice o L.length c, .slice (some ⟨W.heap.size, 0, none⟩) 1 1]).run Tryz.prog (W.alloc (.cells #[.int .i64 q.kind, .int .i64 (q.pos : Int), .string (bs q.text), .int .i64 q.num] 71)) = .ok (.slice o' (L.length + 1) c') X) ∧ X.cell? ⟨b, 0, none⟩ = some (.slice o L.length c) ∧ X.frozen? ⟨b, 0, none⟩ = false ∧ RwI w V b o' c' (L ++ [q]) (X.setCell ⟨b, 0, none⟩ (.slice o' (L.length + 1) c')) ∧ KeepsFrom V.heap.size W (X.setCell ⟨b, 0, none⟩ (.slice o' (L.length + 1) c')) ∧ ∀ lo, b + 1 ≤ lo → 3 ≤ b → Kept lo (V.heap.size + 1) W (X.setCell ⟨b, 0, none⟩ (.slice o' (L.length + 1) c')) := by
  have hlo := h.lo
  have hz := h.size
  have hti : TI V.heap.size W (.slice o L.length c) L W := ⟨h.at_, h.above, Below.refl _ _⟩
  obtain ⟨X, sl, hr, ⟨o', c', rfl⟩, hT, hsz, hk⟩ := hti.more hz hl q
  have y1 := (hT.below.cell (p := ⟨b, 0, none⟩) hlo.2).trans h.x1
  have g1 := (hT.below.frozen (p := ⟨b, 0, none⟩) hlo.2).trans h.f1
  refine ⟨X, o', c', hr, y1, g1, ⟨?_, ?_, ?_, ?_, ?_, ?_, ?_, hlo⟩, ⟨?_, ?_⟩, ?_⟩
  · rw [List.length_append]; exact World.cell?_setCell_same _ _ _ y1
  · rw [World.frozen?_setCell]; exact g1
  · have := SliceAt.setFar hT.at_ hT.above b 0 (by omega) (.slice o' (L.length + 1) c')
    rw [List.length_append]
    show SliceAt _ _ _ (L ++ [q]).length _
    exact this
  · rw [List.length_append]; exact hT.above
  · intro e; rw [List.length_append] at e; simp at e
  · exact (h.below.trans (hT.below.mono (by omega))).setCell (p := ⟨b, 0, none⟩) hlo.1 _
  · rw [World.size_setCell]; omega
  · rw [World.size_setCell]; omega
  · intro k ob hB hkk ho
    exact (Below.heap_setCell X ⟨b, 0, none⟩ _ k (by show k ≠ b; omega)).trans ((hk k (Array.getElem?_eq_some_iff.1 hkk).1 (book_none hkk ho)).trans hkk)
  · intro lo hlo2 h3
    refine ⟨by rw [World.size_setCell]; omega, fun k h1 h2 => ?_, fun k h1 h2 => ?_, fun k ob h1 h2 h4 => ?_⟩
    · exact (Below.heap_setCell X ⟨b, 0, none⟩ _ k (by show k ≠ b; omega)).trans (hT.below.block k (by omega))
    · exact (Below.heap_setCell X ⟨b, 0, none⟩ _ k (by show k ≠ b; omega)).trans (hk k h2.lt h2.2)
    · exact (Below.heap_setCell X ⟨b, 0, none⟩ _ k (by show k ≠ b; omega)).trans ((hk k (Array.getElem?_eq_some_iff.1 h2).1 (book_none h2 h4)).trans h2)

set_option maxRecDepth 100000 in
set_option maxHeartbeats 4000000 in
theorem appendSeq_in (n : Int) (s : List UInt8) (w : World) (b1 b2 lo0 : Nat) (hSp0 : SpI lo0 w b1 b2 n s) (hl : s.length ≤ 1000) :
    CallsIn Fence.wide 9 Tryz.prog 51 #[.slice none 0 0, .func (.func 52) #[] #[.pointer (some ⟨b2, 0, none⟩), .pointer (some ⟨b1, 0, none⟩)]] w (EachEnd n s w) := by
  have hE := hSp0.env
  have hE3 : 3 ≤ w.heap.size := hE.err.1
  have hu : Below w.heap.size w (w.alloc (.cells #[.slice none 0 0] 58)) := (Below.refl _ _).alloc (Nat.le_refl _) _
  have c1 : (w.alloc (.cells #[.slice none 0 0] 58)).cell? ⟨w.heap.size, 0, none⟩ = some (.slice none 0 0) := by simp [go_sem]
  have d1 : (w.alloc (.cells #[.slice none 0 0] 58)).frozen? ⟨w.heap.size, 0, none⟩ = false := by simp [go_sem]
  have hsz : (w.alloc (.cells #[.slice none 0 0] 58)).heap.size = w.heap.size + 1 := by rw [World.size_alloc]
  have hSp : SpI lo0 (w.alloc (.cells #[.slice none 0 0] 58)) b1 b2 n s := hSp0.kept (l := 0) (Kept.of hu)
  have hnf := not_fn
  refine callsIn_of_wp_marks Tryz.func51 rfl trivial ?_ rfl
  simp only [Tryz.ntmps51, List.size_toArray, List.length_cons, List.length_nil, Nat.reduceAdd, Nat.reduceSub, Array.replicate_succ, Array.replicate_zero, List.push_toArray, List.append_toArray, List.nil_append, List.cons_append]
  gi_wp2
  generalize w.alloc (.cells #[.slice none 0 0] 58) = V at *
  have hI0 : RwI w V w.heap.size none 0 [] V := ⟨c1, d1, .inl ⟨rfl, rfl⟩, fun a m c e => (by cases e), fun _ => rfl, hu, Nat.le_refl _, ⟨Nat.le_refl _, by omega⟩⟩
  have hseq := (seq_each_at hl hSp (Nat.le_refl V.heap.size)) 8 (by omega)
  have eg := enters_of Tryz.func52 (by kernel_rfl) rfl
  clear c1 d1
  refine range_own rfl (by omega) (gf := 52) (lb := #[.pointer (some ⟨b2, 0, none⟩), .pointer (some ⟨b1, 0, none⟩)]) rfl trivial eg hseq (fun _ => rfl) (fun h k => h.trans k)
    (fun W o o' ho hc => Kept.put W _ o' (Nat.le_refl _) (by omega) ho hc) (fun W W' hs hb => Kept.of hb)
    (fun pre x W W' h hb => h) (fun pre x W l o o' h _ _ _ _ => h)
    (fun pre W => ∃ o c, RwI w V w.heap.size o c (pre.map Prod.fst) W)
    (fun cd pre W => False)
    (fun pre W W' h hb => by obtain ⟨o, c, h⟩ := h; exact ⟨o, c, h.go hb⟩)
    (fun pre W l o o' h hl hob hc _ => by obtain ⟨o1, c, h⟩ := h; exact ⟨o1, c, h.put hob hc hl⟩)
    (fun cd pre W W' h hb => h.elim) (fun cd pre W l o o' h _ _ _ _ => h.elim)
    ⟨none, 0, hI0⟩
    (fun x W0 => { tmps := #[.slice none 0 0, .func (.func 52) #[] #[.pointer (some ⟨b2, 0, none⟩), .pointer (some ⟨b1, 0, none⟩)], .pointer (some ⟨w.heap.size, 0, none⟩), undef, .slice none 0 0, .pointer (some ⟨W0.heap.size, 0, none⟩),
      .func (.func 52) #[] #[.pointer (some ⟨b2, 0, none⟩), .pointer (some ⟨b1, 0, none⟩)], x.1.v, undef, undef, undef, undef, undef], defers := [] })
    (fun x W0 W => TokBox W W0.heap.size x.1) (fun x W0 => TokBox.bears _ _ _) ?assign ?body ?done ?stop
  case assign =>
    rintro l pre ⟨⟨k, q, tx, v⟩, en⟩ W KK hI hG hK
    have HK := hK (W.alloc (.cells #[.int .i64 k, .int .i64 (q : Int), .string (bs tx), .int .i64 v] 71)) ((Below.refl _ _).alloc (Nat.le_refl _) _) (TokBox.new W ⟨k, q, tx, v⟩ _)
    clear hK hI hG
    simp only [encE, Tok.v] at HK ⊢
    gi_wp2
    exact HK
  case body =>
    rintro l pre ⟨⟨k, q, tx, v⟩, en⟩ W0 W hs0 ⟨o, c, hI⟩ hG hR
    have hgl := guard_len hG
    have HM : Hid ((pre ++ [((⟨k, q, tx, v⟩ : Tok), en)]).map Prod.fst = pre.map Prod.fst ++ [⟨k, q, tx, v⟩]) := by show _ = _; rw [List.map_append]; rfl
    have hpl : (pre.map Prod.fst).length ≤ 1000 := by rw [List.length_map]; omega
    clear hG hgl
    generalize pre.map Prod.fst = L at *
    dsimp only at hR
    obtain ⟨y0, y1, y2, y3⟩ := hR.cells
    dsimp only at y0 y1 y2 y3
    have x1 := hI.x1
    obtain ⟨X, o', c', happ, z1, g1, hL2, hkf, hkp⟩ := hI.more hpl ⟨k, q, tx, v⟩
    dsimp only at happ
    have hkp4 := hkp V.heap.size (by omega) hE3
    dsimp only [Tok.v]
    gi_wp2_with (first | (gi_at_builtin; refine wpListIn_app rfl _ _ 58 58 rfl happ ?_))
    refine ⟨hkf, hkp4, o', c', ?_⟩
    rw [HM.out]
    exact hL2
  case done =>
    intro xs V' hSx hI hD
    obtain ⟨o, c, hI⟩ := hI
    subst hSx
    have hI2 := hI.put (ob' := .deferred none) hD rfl (Nat.le_refl _)
    have x1 := hI.x1
    have hF : EachEnd n s w (.returned (.slice o ((lexL n 0 s).map Prod.fst).length c)) (V'.putObj V.heap.size (.deferred none)) :=
      ⟨⟨o, c, rfl, hI2.at_, hI2.above.mono (by have := hI2.lo; omega)⟩, hI2.below⟩
    have HF := Lib.hid hF
    clear hF hI0 hI hI2 hseq eg
    generalize ((lexL n 0 s).map Prod.fst).length = ll at *
    gi_wp2
    refine ⟨by simp, .inl ⟨_, _, rfl, run_takeDeferred hD, ?_⟩⟩
    exact ⟨.slice o ll c, by simp [results, Tryz.f51, go_sem], HF.out⟩
  case stop =>
    intro cd pre V' _ h _
    exact h.elim

set_option maxRecDepth 100000 in
theorem collect_any (n : Int) (s : List UInt8) (w : World) (b1 b2 lo0 : Nat) (hSp0 : SpI lo0 w b1 b2 n s) (hl : s.length ≤ 1000) :
    Calls Tryz.prog 31 #[.func (.func 52) #[] #[.pointer (some ⟨b2, 0, none⟩), .pointer (some ⟨b1, 0, none⟩)]] w (EachEnd n s w) := by
  have hA := callsIn_wide.1 (appendSeq_in n s w b1 b2 lo0 hSp0 hl)
  go_enter Tryz.func31, Tryz.ntmps31
  go_wp2_with fail
  refine hA.mono ?_
  rintro e w1 ⟨⟨o, c, rfl, hT, hab⟩, hb⟩
  have HF := Lib.hid (show EachEnd n s w (.returned (.slice o (toks n s).length c)) w1 from ⟨⟨o, c, rfl, hT, hab⟩, hb⟩)
  clear hT hab hb hA
  generalize (toks n s).length = ll at *
  go_wp2_with fail
  refine bodyPost_ret (v := .slice o ll c) (by simp [results, Tryz.results31, go_sem]) rfl HF.out

end Go.Proofs.YthofogokpolhdaaGreatDoor.Toks
