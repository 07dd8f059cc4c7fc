/-
  Contracts of lex.spans, of the function that it hands back, of lex.Lex.
-/
import Derived.Test.YtnkfjbfllcdkbaaDoorX3
import Derived.Test.YtnkfjbfllcdkbaaDoorX0
import Derived.RangeFuncBound
import Derived.RangeFuncFrom
import Derived.RangeFuncBox
import Derived.OwnWalkIn
import Derived.TacticsInMore
import Derived.LoopNIn
import Derived.LoopIn
import Derived.Stop.RegionWithIn
namespace Go.Proofs.YtnkfjbfllcdkbaaDoor.Toks
open Go.RowKit Go.Shelf Go.Proofs.YtnkfjbfllcdkbaaDoor.Ranges
open Go.Proofs.YtnkfjbfllcdkbaaDoor.Style
attribute [local go_sem] Oper.semAt_some
set_option linter.unusedVariables false
set_option linter.unusedSimpArgs false

def encS (x : Tok × Nat) : Array Value := #[x.1.v, .int .i64 (x.2 : Int)]
/-- What comes next. -/
def GuardT (n : Int) (s : List UInt8) (pre : List (Tok × Nat)) (x : Tok × Nat) (V : World) : Prop := ∃ post, lexL n 0 s = pre ++ x :: post
/-- The boxes of a notation and a text. -/
structure SpI (lo : Nat) (V : World) (b1 b2 : Nat) (n : Int) (s : List UInt8) : Prop where
  x1 : V.cell? ⟨b1, 0, none⟩ = some (.string (bs s))
  x2 : V.cell? ⟨b2, 0, none⟩ = some (.int .i64 n)
  o1 : One V b1
  o2 : One V b2
  l1 : lo ≤ b1
  l2 : lo ≤ b2
  env : Env V
theorem SpI.kept {lo l : Nat} {V V' : World} {b1 b2 : Nat} {n : Int} {s : List UInt8} (h : SpI lo V b1 b2 n s) (hk : Kept lo l V V') : SpI lo V' b1 b2 n s := by
  have k1 := hk.one b1 h.l1 h.o1
  have k2 := hk.one b2 h.l2 h.o2
  exact ⟨cell_same h.x1 k1, cell_same h.x2 k2, h.o1.same k1, h.o2.same k2, h.l1, h.l2, h.env.kept hk⟩

set_option maxRecDepth 100000 in
set_option maxHeartbeats 4000000 in
theorem spans1_in (N l b1 b2 lo : Nat) (n : Int) (s : List UInt8) (V0 : World) (hN : 1 ≤ N) (hl : s.length ≤ 1000) (hC : SpI lo V0 b1 b2 n s)
    (J Jx : List (Tok × Nat) → World → Prop) (hJ : ∀ pre, Stays (J pre)) (hJx : ∀ pre, Stays (Jx pre))
    (hY : ∀ pre x V, J pre V → GuardT n s pre x V → YieldAt Fence.wide (N - 1) Tryd.prog l (encS x) V (RoundL J Jx (Kept lo l) pre x V))
    (W : World) (hW : Below V0.heap.size V0 W) (h0 : J [] W) :
    CallsIn Fence.wide N Tryd.prog 17 #[.func (.yield l) #[] #[], .pointer (some ⟨b1, 0, none⟩), .pointer (some ⟨b2, 0, none⟩)] W
      (Ended (fun xs => xs = lexL n 0 s) (fun pre => ∃ post, lexL n 0 s = pre ++ post) J Jx) := by
  have hK0 : Kept lo l V0 W := Kept.of hW
  have hCW := hC.kept hK0
  have x1 := hCW.x1
  have x2 := hCW.x2
  have HY := Lib.hid hY
  clear hY
  have hzi : ((bs s).size : Int) = (s.length : Int) := by rw [bs_size]
  have hli : (s.length : Int) ≤ 1000 := by omega
  have hA0 := At.start n s
  refine callsIn_of_wp Tryd.func17 rfl trivial ?_ rfl
  simp only [Tryd.ntmps17, List.size_toArray, List.length_cons, List.length_nil, Nat.reduceAdd, Nat.reduceSub, Array.replicate_succ, Array.replicate_zero, List.push_toArray, List.append_toArray, List.nil_append, List.cons_append]
  gi_wp2
  clear x1 x2
  gi_loopw [4] (fun x wr => ∃ (pre : List (Tok × Nat)) (p : Nat), x = .int .i64 (p : Int) ∧ At n s pre p ∧ J pre wr ∧ Kept lo l V0 wr)
    (fun x _ => (s.length - intOf x).toNat)
  case atStart => exact ⟨[], 0, rfl, hA0, h0, hK0⟩
  case round =>
    clear hK0 h0 hW hCW hA0
    obtain ⟨pre, p, rfl, hA, hj, hK⟩ := hrel
    have hCr := hC.kept hK
    have x1 := hCr.x1
    have x2 := hCr.x2
    have hpl := hA.le
    by_cases hpn : p < s.length
    · have hpi : (p : Int) < s.length := by omega
      cases hg : nextT n (s.drop p) with
      | none =>
        have hcl := tokenAt_no n s p wr hCr.env hpn hl hg
        have HS := Lib.hid (hA.stop hg)
        clear hg
        gi_wp2
        refine ⟨trivial, (callsIn_wide.2 hcl).mono ?_⟩
        rintro e W2 ⟨⟨x, m, rfl⟩, hb2⟩
        simp only [Tok.v]
        gi_wp2
        refine ⟨fun _ h => (by cases h), ?_⟩
        gi_wp2
        refine bodyPost_ret (results_none rfl _ _ _) rfl ?_
        exact ⟨⟨_, rfl⟩, .inl ⟨pre, HS.out.symm, hJ _ _ _ hj (hb2.alloc hb2.size _)⟩⟩
      | some g =>
        have hcl := tokenAt_yes n s p wr hCr.env hpn hl g hg
        have hA2 := hA.step hg
        have hgl := next_len hg
        rw [List.length_drop] at hgl
        have HG : Hid (GuardT n s pre (⟨g.kind, p, g.text, g.num⟩, p + g.len) wr) := ⟨_, by rw [hA.eq, lexL_some hg]⟩
        clear hg
        obtain ⟨q, hq⟩ : ∃ q, p + g.len = q := ⟨_, rfl⟩
        rw [hq] at hcl hA2 HG
        have HQ : Hid (p < q ∧ q ≤ s.length) := ⟨by omega, by omega⟩
        clear hq hgl
        obtain ⟨gk, gt, gn, gl⟩ := g
        simp only [Tok.v] at hcl hA2 HG
        gi_wp2
        refine ⟨trivial, (callsIn_wide.2 hcl).mono ?_⟩
        rintro e W2 ⟨rfl, hb2⟩
        have hB3 : Below wr.heap.size wr (W2.alloc (.cells #[.int .i64 gk, .int .i64 (p : Int), .string (bs gt), .int .i64 gn] 33)) := hb2.alloc hb2.size _
        obtain ⟨fn, tmps, assign, body, hy, hR⟩ := HY.out pre (⟨gk, p, gt, gn⟩, q) _ (hJ pre _ _ hj hB3) HG.out
        unfold encS at hy
        simp only [Tok.v] at hy
        have HR := Lib.hid hR
        clear hR
        gi_wp2
        refine HR.out.mono ?_
        rintro e W3 (⟨rfl, hJ3, hK3⟩ | ⟨rfl, hJx3, _⟩)
        · gi_wp2
          go_roundw
          case rel => exact ⟨_, q, rfl, hA2, hJ3, (hK.trans (Kept.of hB3)).trans hK3⟩
          case measure => simp only [intOf]; have := HQ.out; omega
        · gi_wp2
          refine bodyPost_ret (results_none rfl _ _ _) rfl ?_
          exact ⟨⟨_, rfl⟩, .inr ⟨_, ⟨_, hA2.eq⟩, hJx3⟩⟩
    · have hpe : p = s.length := by omega
      have hpi : ¬ (p : Int) < s.length := by omega
      subst hpe
      have HS := Lib.hid hA.done
      gi_wp2
      go_end0
      exact ⟨⟨_, rfl⟩, .inl ⟨pre, HS.out.symm, hj⟩⟩

/-- A function that tells tokens, in a world. -/
def SeqS (enc : Tok × Nat → Array Value) (g : Nat) (lb : Array Value) (n : Int) (s : List UInt8) (lo : Nat) (w : World) : Prop :=
  ∀ N, 2 ≤ N → SeqL Fence.wide N Tryd.prog g lb enc (GuardT n s) (Kept lo) (fun xs => xs = lexL n 0 s) (fun pre => ∃ post, lexL n 0 s = pre ++ post) w
theorem seq_spans {lo : Nat} {V : World} {b1 b2 : Nat} {n : Int} {s : List UInt8} (hl : s.length ≤ 1000) (h : SpI lo V b1 b2 n s) : SeqS encS 17 #[.pointer (some ⟨b1, 0, none⟩), .pointer (some ⟨b2, 0, none⟩)] n s lo V :=
  fun N hN l J Jx W hW _ hJ hJx _ _ hY h0 => spans1_in N l b1 b2 lo n s V (by omega) hl h J Jx hJ hJx hY W hW h0

set_option maxRecDepth 100000 in
theorem spans_any (n : Int) (s : List UInt8) (w : World) (hE : Env w) :
    Calls Tryd.prog 14 #[.int .i64 n, .string (bs s)] w fun e w' => e = .returned (.func (.func 17) #[] #[.pointer (some ⟨w.heap.size + 1, 0, none⟩), .pointer (some ⟨w.heap.size, 0, none⟩)]) ∧ Below w.heap.size w w' ∧ SpI w.heap.size w' (w.heap.size + 1) w.heap.size n s := by
  have hu : Below w.heap.size w ((w.alloc (.cells #[.int .i64 n] 3)).alloc (.cells #[.string (bs s)] 9)) := by go_grown
  have hE2 := hE.go hu
  go_enter Tryd.func14, Tryd.ntmps14
  go_wp2
  go_ret
  refine ⟨rfl, hu, ⟨by simp [go_sem], by simp [go_sem], ⟨by simp [go_sem], by simp [go_sem]⟩, ⟨by simp [go_sem], by simp [go_sem]⟩, by omega, by omega, hE2⟩⟩

/-- What Lex tells. -/
def lexErr (n : Int) (s : List UInt8) : Int := if isN n = false then 1 else if 255 < s.length then 12 else if endL 0 (lexL n 0 s) < s.length then 14 else 0
def lexAt (n : Int) (s : List UInt8) : Nat := if isN n = false ∨ 255 < s.length then 0 else endL 0 (lexL n 0 s)
def toks (n : Int) (s : List UInt8) : List Tok := (lexL n 0 s).map Prod.fst
def lexToks (n : Int) (s : List UInt8) : List Tok := if lexErr n s = 0 then toks n s else []
structure LexEnd (n : Int) (s : List UInt8) (w : World) (e : Ending) (w' : World) : Prop where
  out : ∃ o c, e = .returned (.tuple #[.slice o (lexToks n s).length c, .int .i64 (lexAt n s : Int), .int .i64 (lexErr n s)]) ∧ ToksAt w' (.slice o (lexToks n s).length c) (lexToks n s) ∧ Above w.heap.size (.slice o (lexToks n s).length c)
  below : Below w.heap.size w w'

set_option maxRecDepth 100000 in
set_option maxHeartbeats 2000000 in
theorem lex_none (n : Int) (s : List UInt8) (w : World) (hE : Env w) (hn : isN n = false) : Calls Tryd.prog 8 #[.int .i64 n, .string (bs s)] w (LexEnd n s w) := by
  have he : lexErr n s = 1 := by unfold lexErr; rw [if_pos hn]
  have ha : lexAt n s = 0 := by unfold lexAt; rw [if_pos (.inl hn)]
  have ht : lexToks n s = [] := by unfold lexToks; rw [he]; rfl
  have hO := of_any n w hE.sts
  rw [hn] at hO
  have HF : Hid (∀ w', Below w.heap.size w w' → LexEnd n s w (.returned (.tuple #[.slice none 0 0, .int .i64 0, .int .i64 1])) w') := by
    intro w' hb
    refine ⟨⟨none, 0, ?_, ?_, ?_⟩, hb⟩
    · rw [ht, ha, he]; rfl
    · rw [ht]; exact .inl ⟨rfl, rfl⟩
    · intro a m c e; cases e
  generalize stZ n = x at *
  obtain ⟨f, m, d, p, op, cl⟩ := x
  simp only [St.v] at hO
  clear he ha ht hn
  go_enter Tryd.func8, Tryd.ntmps8
  go_wp2_with fail
  refine hO.mono ?_
  rintro e w1 ⟨rfl, hb1⟩
  go_wp2
  refine bodyPost_ret (v := .tuple #[.slice none 0 0, .int .i64 0, .int .i64 1]) (by simp [results, Tryd.results8, go_sem]) rfl (HF.out _ (hb1.alloc hb1.size _))

set_option maxRecDepth 100000 in
set_option maxHeartbeats 2000000 in
theorem lex_long (n : Int) (s : List UInt8) (w : World) (hE : Env w) (hn : isN n = true) (hl : 255 < s.length) (hl2 : s.length ≤ 1000) : Calls Tryd.prog 8 #[.int .i64 n, .string (bs s)] w (LexEnd n s w) := by
  have he : lexErr n s = 12 := by unfold lexErr; rw [if_neg (by rw [hn]; simp), if_pos hl]
  have ha : lexAt n s = 0 := by unfold lexAt; rw [if_pos (.inr hl)]
  have ht : lexToks n s = [] := by unfold lexToks; rw [he]; rfl
  have hzi : ((bs s).size : Int) = (s.length : Int) := by rw [bs_size]
  have hli : (255 : Int) < s.length := by omega
  have hO := of_any n w hE.sts
  rw [hn] at hO
  have HF : Hid (∀ w', Below w.heap.size w w' → LexEnd n s w (.returned (.tuple #[.slice none 0 0, .int .i64 0, .int .i64 12])) w') := by
    intro w' hb
    refine ⟨⟨none, 0, ?_, ?_, ?_⟩, hb⟩
    · rw [ht, ha, he]; rfl
    · rw [ht]; exact .inl ⟨rfl, rfl⟩
    · intro a m c e; cases e
  generalize stZ n = x at *
  obtain ⟨f, m, d, p, op, cl⟩ := x
  simp only [St.v] at hO
  clear he ha ht hn
  go_enter Tryd.func8, Tryd.ntmps8
  go_wp2_with fail
  refine hO.mono ?_
  rintro e w1 ⟨rfl, hb1⟩
  go_wp2
  refine bodyPost_ret (v := .tuple #[.slice none 0 0, .int .i64 0, .int .i64 12]) (by simp [results, Tryd.results8, go_sem]) rfl (HF.out _ (hb1.alloc hb1.size _))

theorem SliceAt.putObj {W : World} {s : Value} {k n : Nat} {f : Nat → Nat → Value} (h : SliceAt W s k n f) (hk : 0 < k) (hz : n = 0 → s = .slice none 0 0) {l : Nat} {o : Obj} (o' : Obj) (hl : W.heap[l]? = some o) (ho : o.isCells = false) : SliceAt (W.putObj l o') s k n f := by
  rcases h with h | ⟨b, c, hs, hc, hm, hg⟩
  · exact .inl h
  · by_cases h0 : n = 0
    · exact .inl ⟨h0, hz h0⟩
    · have hc0 := hg.1 0 (by omega) 0 hk
      obtain ⟨_, hbl⟩ := cell_put (o' := o') hc0 hl ho
      exact .inr ⟨b, c, hs, hc, hm.block hbl, hg.block (by simp [World.putObj]) hbl⟩
theorem SliceAt.setFar {W : World} {s : Value} {k n B : Nat} {f : Nat → Nat → Value} (h : SliceAt W s k n f) (ha : Above B s) (b i : Nat) (hb : b < B) (u : Value) : SliceAt (W.setCell ⟨b, i, none⟩ u) s k n f := by
  rcases h with h | ⟨b', c, hs, hc, hm, hg⟩
  · exact .inl h
  · have hbb : B ≤ b' := ha _ _ _ hs
    exact .inr ⟨b', c, hs, hc, hm.set _ _ _, hg.other b i u (by omega)⟩

theorem book_none {W : World} {k j : Nat} {o : Obj} (h : W.heap[k]? = some o) (ho : o.isCells = false) : W.cell? ⟨k, j, none⟩ = none := by
  cases hc : W.cell? ⟨k, j, none⟩ with
  | none => rfl
  | some v => exact absurd rfl (cell_put (o' := o) hc h ho).1
/-- Boxes of a row of tokens, and of a number, while a range goes; V: the world where it began. -/
structure LxI (w V : World) (b : Nat) (o : Option Addr) (c : Nat) (L : List Tok) (r : Value) (W : World) : Prop where
  x1 : W.cell? ⟨b, 0, none⟩ = some (.slice o L.length c)
  x2 : W.cell? ⟨b + 1, 0, none⟩ = some r
  f1 : W.frozen? ⟨b, 0, none⟩ = false
  f2 : W.frozen? ⟨b + 1, 0, none⟩ = false
  at_ : ToksAt W (.slice o L.length c) L
  above : Above V.heap.size (.slice o L.length c)
  nz : L.length = 0 → Value.slice o L.length c = .slice none 0 0
  below : Below w.heap.size w W
  size : V.heap.size ≤ W.heap.size
  lo : w.heap.size ≤ b ∧ b + 1 < V.heap.size
theorem LxI.go {w V : World} {b : Nat} {o : Option Addr} {c : Nat} {L : List Tok} {r : Value} {W W' : World} (h : LxI w V b o c L r W) (hb : Below W.heap.size W W') : LxI w V b o c L r W' := by
  have hz := h.size
  have hlo := h.lo
  exact ⟨(hb.cell (p := ⟨b, 0, none⟩) (cell_lt h.x1)).trans h.x1, (hb.cell (p := ⟨b + 1, 0, none⟩) (cell_lt h.x2)).trans h.x2, (hb.frozen (p := ⟨b, 0, none⟩) (cell_lt h.x1)).trans h.f1, (hb.frozen (p := ⟨b + 1, 0, none⟩) (cell_lt h.x2)).trans h.f2, h.at_.go hb, h.above, h.nz, h.below.trans (hb.mono h.below.size), Nat.le_trans hz hb.size, hlo⟩
theorem LxI.put {w V : World} {b : Nat} {o : Option Addr} {c : Nat} {L : List Tok} {r : Value} {W : World} (h : LxI w V b o c L r W) {l : Nat} {ob ob' : Obj} (hl : W.heap[l]? = some ob) (ho : ob.isCells = false) (hv : V.heap.size ≤ l) : LxI w V b o c L r (W.putObj l ob') := by
  have hlo := h.lo
  have k1 := (cell_put (o' := ob') h.x1 hl ho).2
  have k2 := (cell_put (o' := ob') h.x2 hl ho).2
  exact ⟨cell_same h.x1 k1, cell_same h.x2 k2, (frozen_of_block k1 0).trans h.f1, (frozen_of_block k2 0).trans h.f2, SliceAt.putObj h.at_ (by omega) h.nz _ hl ho, h.above, h.nz, below_putObj h.below l (by omega) _, by have := h.size; simp [World.putObj]; omega, hlo⟩
/-- What a round does to the row's box: the world behind the append, then the two stores. -/
theorem LxI.more {w V : World} {b : Nat} {o : Option Addr} {c : Nat} {L : List Tok} {r : Value} {W : World} (h : LxI w V b o c L r W) (hl : L.length ≤ 1000) (q : Tok) :
    ∃ X o' c', (∀ ty, (Builtin.append_ #[28, 28] ty #[.slice o L.length c, .slice (some ⟨W.heap.size, 0, none⟩) 1 1]).run Tryd.prog (W.alloc (.cells #[.int .i64 q.kind, .int .i64 (q.pos : Int), .string (bs q.text), .int .i64 q.num] 33)) = .ok (.slice o' (L.length + 1) c') X) ∧ X.cell? ⟨b, 0, none⟩ = some (.slice o L.length c) ∧ X.frozen? ⟨b, 0, none⟩ = false ∧ X.cell? ⟨b + 1, 0, none⟩ = some r ∧ X.frozen? ⟨b + 1, 0, none⟩ = false ∧ LxI w V b o' c' (L ++ [q]) r (X.setCell ⟨b, 0, none⟩ (.slice o' (L.length + 1) c')) ∧ KeepsFrom V.heap.size W (X.setCell ⟨b, 0, none⟩ (.slice o' (L.length + 1) c')) ∧ ∀ lo, b + 1 ≤ lo → 3 ≤ b → Kept lo (V.heap.size + 1) W (X.setCell ⟨b, 0, none⟩ (.slice o' (L.length + 1) c')) := by
  have hlo := h.lo
  have hz := h.size
  have hti : TI V.heap.size W (.slice o L.length c) L W := ⟨h.at_, h.above, Below.refl _ _⟩
  obtain ⟨X, sl, hr, ⟨o', c', rfl⟩, hT, hsz, hk⟩ := hti.more hz hl q
  have y1 := (hT.below.cell (p := ⟨b, 0, none⟩) (show b < V.heap.size by omega)).trans h.x1
  have y2 := (hT.below.cell (p := ⟨b + 1, 0, none⟩) hlo.2).trans h.x2
  have g1 := (hT.below.frozen (p := ⟨b, 0, none⟩) (show b < V.heap.size by omega)).trans h.f1
  have g2 := (hT.below.frozen (p := ⟨b + 1, 0, none⟩) hlo.2).trans h.f2
  refine ⟨X, o', c', hr, y1, g1, y2, g2, ⟨?_, ?_, ?_, ?_, ?_, ?_, ?_, ?_, ?_, hlo⟩, ⟨?_, ?_⟩, ?_⟩
  · rw [List.length_append]; exact World.cell?_setCell_same _ _ _ y1
  · rw [World.cell?_setCell_other _ _ _ _ (by intro hh; injection hh with e1 e2; omega)]; exact y2
  · rw [World.frozen?_setCell]; exact g1
  · rw [World.frozen?_setCell]; exact g2
  · have := SliceAt.setFar hT.at_ hT.above b 0 (by omega) (.slice o' (L.length + 1) c')
    rw [List.length_append]
    show SliceAt _ _ _ (L ++ [q]).length _
    exact this
  · rw [List.length_append]; exact hT.above
  · intro e; rw [List.length_append] at e; simp at e
  · exact (h.below.trans (hT.below.mono (by omega))).setCell (p := ⟨b, 0, none⟩) hlo.1 _
  · rw [World.size_setCell]; omega
  · rw [World.size_setCell]; omega
  · intro k ob hB hkk ho
    exact (Below.heap_setCell X ⟨b, 0, none⟩ _ k (by show k ≠ b; omega)).trans ((hk k (Array.getElem?_eq_some_iff.1 hkk).1 (book_none hkk ho)).trans hkk)
  · intro lo hlo2 h3
    refine ⟨by rw [World.size_setCell]; omega, fun k h1 h2 => ?_, fun k h1 h2 => ?_, fun k ob h1 h2 h4 => ?_⟩
    · exact (Below.heap_setCell X ⟨b, 0, none⟩ _ k (by show k ≠ b; omega)).trans (hT.below.block k (by omega))
    · exact (Below.heap_setCell X ⟨b, 0, none⟩ _ k (by show k ≠ b; omega)).trans (hk k h2.lt h2.2)
    · exact (Below.heap_setCell X ⟨b, 0, none⟩ _ k (by show k ≠ b; omega)).trans ((hk k (Array.getElem?_eq_some_iff.1 h2).1 (book_none h2 h4)).trans h2)
/-- The number's box is written. -/
theorem LxI.set {w V : World} {b : Nat} {o : Option Addr} {c : Nat} {L : List Tok} {r : Value} {W : World} (h : LxI w V b o c L r W) (u : Value) : LxI w V b o c L u (W.setCell ⟨b + 1, 0, none⟩ u) ∧ (∀ W0, KeepsFrom V.heap.size W0 W → KeepsFrom V.heap.size W0 (W.setCell ⟨b + 1, 0, none⟩ u)) ∧ ∀ lo W0, b + 2 ≤ lo → 3 ≤ b → Kept lo (V.heap.size + 1) W0 W → Kept lo (V.heap.size + 1) W0 (W.setCell ⟨b + 1, 0, none⟩ u) := by
  have hlo := h.lo
  refine ⟨⟨?_, World.cell?_setCell_same _ _ _ h.x2, ?_, ?_, SliceAt.setFar h.at_ h.above (b + 1) 0 (by omega) u, h.above, h.nz, h.below.setCell (p := ⟨b + 1, 0, none⟩) (show w.heap.size ≤ b + 1 by omega) u, by rw [World.size_setCell]; exact h.size, hlo⟩, ?_, ?_⟩
  · rw [World.cell?_setCell_other _ _ _ _ (by intro hh; injection hh with e1 e2; omega)]; exact h.x1
  · rw [World.frozen?_setCell]; exact h.f1
  · rw [World.frozen?_setCell]; exact h.f2
  · intro W0 hk
    refine ⟨by rw [World.size_setCell]; exact hk.size, fun k ob hB hkk ho => (Below.heap_setCell W ⟨b + 1, 0, none⟩ u k (by show k ≠ b + 1; omega)).trans (hk.same k ob hB hkk ho)⟩
  · intro lo W0 hl h3 hk
    exact ⟨by rw [World.size_setCell]; exact hk.size, fun k h1 h2 => (Below.heap_setCell W ⟨b + 1, 0, none⟩ u k (by show k ≠ b + 1; omega)).trans (hk.glob k h1 h2), fun k h1 h2 => (Below.heap_setCell W ⟨b + 1, 0, none⟩ u k (by show k ≠ b + 1; omega)).trans (hk.one k h1 h2), fun k ob h1 h2 h4 => (Below.heap_setCell W ⟨b + 1, 0, none⟩ u k (by show k ≠ b + 1; omega)).trans (hk.book k ob h1 h2 h4)⟩

end Go.Proofs.YtnkfjbfllcdkbaaDoor.Toks
