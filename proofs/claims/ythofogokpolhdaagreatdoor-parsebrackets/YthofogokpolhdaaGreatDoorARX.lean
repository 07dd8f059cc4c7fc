/-
  A range over a function whose rounds are handed slices: what comes is told by a guard on the world of that round. A range over a function whose rounds keep rows of their own, in blocks that they make.
-/
import Derived.Test.YthofogokpolhdaaGreatDoorChecked
import Derived.RangeFuncWrites
import Derived.RangeFuncNested
import Derived.RangeFuncCalls
import Derived.RangeFuncLeaves
import Derived.Scope
import Derived.WalkMore
namespace Go.Proofs.YthofogokpolhdaaGreatDoor.Ranges
open Go Go.RowKit
set_option linter.unusedVariables false
set_option linter.unusedSimpArgs false

variable {F : Fence} {n : Nat} {P : Program} {α : Type}

/-- What stays while only new blocks come. -/
def Stays (I : World → Prop) : Prop := ∀ W W', I W → Below W.heap.size W W' → I W'
/-- What stays while a loop's own book, from B on, is turned. -/
def Bears (B : Nat) (I : World → Prop) : Prop := ∀ W l o o', I W → B ≤ l → W.heap[l]? = some o → o.isCells = false → o'.isCells = false → I (W.putObj l o')

/-- How a round may be told. -/
def RoundTold (J Jx : List α → World → Prop) (Kp : World → World → Prop) (pre : List α) (x : α) (W : World) (e : Ending) (W' : World) : Prop :=
  (e = .returned (.bool true) ∧ J (pre ++ [x]) W' ∧ Kp W W') ∨ (e = .returned (.bool false) ∧ Jx (pre ++ [x]) W')
/-- How the iterator ends: all has come, or a round has left it. -/
def Ended (S Sp : List α → Prop) (J Jx : List α → World → Prop) (e : Ending) (W' : World) : Prop :=
  (∃ v, e = .returned v) ∧ ((∃ xs, S xs ∧ J xs W') ∨ (∃ pre, Sp pre ∧ Jx pre W'))
/-- The iterator's contract: each round is handed what its guard says. -/
def Seq (F : Fence) (n : Nat) (P : Program) (g : Nat) (lb : Array Value) (encs : α → Array Value) (G : List α → α → World → Prop) (Kp : World → World → Prop) (S Sp : List α → Prop) (w : World) : Prop :=
  ∀ (l : Nat) (J Jx : List α → World → Prop) (W : World), Below w.heap.size w W → (∀ pre, Stays (J pre)) → (∀ pre, Stays (Jx pre)) →
    (∀ pre x V, J pre V → G pre x V → YieldAt F (n - 1) P l (encs x) V (RoundTold J Jx Kp pre x V)) → J [] W →
    CallsIn F n P g (#[.func (.yield l) #[] #[]] ++ lb) W (Ended S Sp J Jx)
/-- How the body of a round may be left. -/
def Left (B : Nat) (Kp : World → World → Prop) (I : List α → World → Prop) (Ix : Code → List α → World → Prop) (xs : List α) (W : World) : Exit → Act → World → Prop
  | .normal, _, W' => KeepsFrom B W W' ∧ Kp W W' ∧ I xs W'
  | .ret, _, W' => KeepsFrom B W W' ∧ Ix .ret xs W'
  | .exit id, _, W' => KeepsFrom B W W' ∧ Ix (.exit id) xs W'
  | _, _, _ => False

/-- The loop's book. -/
def book (a : Act) (ps : Array Tmp) (assign body : Code) (fn B : Nat) (st : LoopState) (pe : Option Code) : Obj := .loop { state := st, pending := pe, fn, tmps := a.tmps, params := ps, assign, body, defers := B }
/-- The book lies at B + 1, ahead of it the block for what is deferred. -/
def Books (B : Nat) (o : Obj) (W : World) : Prop := W.heap[B + 1]? = some o ∧ W.heap[B]? = some (.deferred (some []))
theorem Books.lt {B : Nat} {o : Obj} {W : World} (h : Books B o W) : B + 1 < W.heap.size := (Array.getElem?_eq_some_iff.1 h.1).1
theorem Books.stays (B : Nat) (o : Obj) : Stays (Books B o) := fun W W' h hb =>
  ⟨(hb.block _ h.lt).trans h.1, (hb.block _ (by have := h.lt; omega)).trans h.2⟩
theorem Books.put {B : Nat} {o : Obj} {W : World} (h : Books B o W) (o' : Obj) : Books B o' (W.putObj (B + 1) o') :=
  ⟨World.putObj_heap_same h.lt, (World.putObj_heap_other (by omega)).trans h.2⟩
theorem Books.keeps {B : Nat} {o : Obj} {W W' : World} (h : Books B o W) (ho : o.isCells = false) (hk : KeepsFrom B W W') : Books B o W' :=
  ⟨hk.same _ _ (by omega) h.1 ho, hk.same _ _ (Nat.le_refl _) h.2 rfl⟩

theorem range_law {g : Operand} {ps : Array Tmp} {assign body : Code} {Q : Exit → Act → World → Prop} {a : Act} {w : World}
    (hro : F.round = none) (h1 : 1 ≤ n) {gf : Nat} {lb : Array Value} (hg : a.eval g = .func (.func gf) #[] lb) (hFg : F.fn gf) (eg : ∀ args w, (callFunc gf args).run P w = .ok (.enter gf args) w)
    {encs : α → Array Value} {G : List α → α → World → Prop} {Kp : World → World → Prop} {S Sp : List α → Prop} (hseq : Seq F (n - 1) P gf lb encs G Kp S Sp w) (hps : ∀ x, (encs x).size = ps.size)
    (hKt : ∀ {A B C : World}, Kp A B → Kp B C → Kp A C) (hKb : ∀ (W : World) (l : Nat) (o o' : Obj), w.heap.size ≤ l → W.heap[l]? = some o → o.isCells = false → Kp W (W.putObj l o')) (hKs : ∀ W W', w.heap.size ≤ W.heap.size → Below W.heap.size W W' → Kp W W')
    (hGs : ∀ pre x, Stays (G pre x)) (hG : ∀ pre x, Bears w.heap.size (G pre x))
    (I : List α → World → Prop) (Ix : Code → List α → World → Prop) (hI : ∀ pre W W', w.heap.size ≤ W.heap.size → I pre W → Below w.heap.size W W' → I pre W') (hX : ∀ c pre W W', w.heap.size ≤ W.heap.size → Ix c pre W → Below w.heap.size W W' → Ix c pre W') (h0 : I [] w)
    (a₁ : α → World → Act) (R : α → World → World → Prop) (hR : ∀ x W, Bears w.heap.size (R x W))
    (hassign : ∀ (l : Nat) (pre : List α) (x : α) (W : World) (K : Act → World → Prop), I pre W → G pre x W → (∀ V, Below W.heap.size W V → R x W V → K (a₁ x W) V) →
      assign.wpIn (F.inRound l) (n - 1 - 1) P (Exit.then K (fun _ _ _ => False)) { tmps := (ps.zip (encs x)).foldl (fun t (p, v) => t.setIfInBounds p v) a.tmps, defers := [] } W)
    (hbody : ∀ (l : Nat) (pre : List α) (x : α) (W0 W : World), w.heap.size ≤ W0.heap.size → I pre W → G pre x W → R x W0 W → body.wpIn (F.inRound l) (n - 1 - 1) P (Left w.heap.size Kp I Ix (pre ++ [x]) W) (a₁ x W0) W)
    (hdone : ∀ (xs : List α) (W : World), S xs → I xs W → W.heap[w.heap.size]? = some (.deferred (some [])) → Q .normal { a with defers := { target := .collected w.heap.size, args := #[] } :: a.defers } W)
    (hstop : ∀ (c : Code) (pre : List α) (W : World), Sp pre → Ix c pre W → W.heap[w.heap.size]? = some (.deferred (some [])) → c.wpIn F n P Q { a with defers := { target := .collected w.heap.size, args := #[] } :: a.defers } W) :
    (Code.rangeFunc g ps assign body).wpIn F n P Q a w := by
  have hput : ∀ (W : World) (l : Nat) (o' : Obj), w.heap.size ≤ l → Below w.heap.size W (W.putObj l o') := fun W l o' hl =>
    ⟨rfl, rfl, rfl, by simp [World.putObj], fun k hk => World.putObj_heap_other (by omega)⟩
  refine wpIn_rangeFunc fun fn hfn => ?_
  have hB1 : Below w.heap.size w ((w.alloc (.deferred (some []))).alloc (book a ps assign body fn w.heap.size .ready none)) :=
    ((Below.refl _ w).alloc (Nat.le_refl _) _).alloc (by rw [World.size_alloc]; omega) _
  have hM1 : Books w.heap.size (book a ps assign body fn w.heap.size .ready none) ((w.alloc (.deferred (some []))).alloc (book a ps assign body fn w.heap.size .ready none)) := by
    refine ⟨?_, ?_⟩
    · have := World.alloc_heap_new (w.alloc (.deferred (some []))) (book a ps assign body fn w.heap.size .ready none)
      rwa [World.size_alloc] at this
    · exact (Below.heap_alloc _ _ _ (by rw [World.size_alloc]; omega)).trans (World.alloc_heap_new w _)
  refine ⟨w.heap.size + 1, [{ target := .collected w.heap.size, args := #[] }], _, { target := .fn (.func gf) lb, args := #[.func (.yield (w.heap.size + 1)) #[] #[]] }, _, gf, #[.func (.yield (w.heap.size + 1)) #[] #[]] ++ lb, _,
    (by rw [hro]; exact run_enterLoop_outer _ _ _ _ _), (by simp only [resolve, hg]; simp [go_sem]; rfl), (fun f' hf' => by simp [Target.leads] at hf'; subst hf'; exact hFg), (by simp [invoke, go_sem, eg]; rfl), fun _ => h1, ?_⟩
  refine (hseq (w.heap.size + 1) (fun pre W => I pre W ∧ Books w.heap.size (book a ps assign body fn w.heap.size .ready none) W)
    (fun pre W => ∃ c, Ix c pre W ∧ Books w.heap.size (book a ps assign body fn w.heap.size .done (some c)) W) _ hB1
    (fun pre W W' h hb => by have := h.2.lt; exact ⟨hI pre W W' (by omega) h.1 (hb.mono (by omega)), Books.stays _ _ W W' h.2 hb⟩)
    (fun pre W W' h hb => by obtain ⟨c, hc, hk⟩ := h; have := hk.lt; exact ⟨c, hX c pre W W' (by omega) hc (hb.mono (by omega)), Books.stays _ _ W W' hk hb⟩) ?_ ⟨hI [] _ _ (Nat.le_refl _) h0 hB1, hM1⟩).mono ?_
  · rintro pre x V ⟨hi, hk⟩ hGx
    have hy := run_yield (P := P) (args := encs x) hk.1 (hps x)
    have hVs := hk.lt
    refine ⟨fn, _, assign, body, hy, roundIn_of_wpIn hfn (hassign _ pre x V _ hi hGx fun V1 hV1 hR1 => ?_)⟩
    have hi1 := hI pre V V1 (by omega) hi (hV1.mono (by omega))
    have hk1 := Books.stays _ _ V V1 hk hV1
    have hlt1 := hk1.lt
    have hK1 := hKs V V1 (by omega) hV1
    have hK2 := hKb V1 (w.heap.size + 1) _ (book a ps assign body fn w.heap.size .busy none) (by omega) hk1.1 rfl
    have hk2 := hk1.put (book a ps assign body fn w.heap.size .busy none)
    refine ⟨_, run_beginRound hk1.1 rfl, ?_⟩
    refine wpIn_mono (hbody _ pre x V _ (by omega) (hI pre _ _ (by omega) hi1 (hput _ _ _ (by omega))) (hG pre x _ _ _ _ (hGs pre x _ _ hGx hV1) (by omega) hk1.1 rfl rfl) (hR x V _ _ _ _ hR1 (by omega) hk1.1 rfl rfl)) ?_
    intro e a3 W3 hp
    cases e with
    | normal =>
      obtain ⟨hf, hkp, hi3⟩ := hp
      have hk3 := hk2.keeps rfl hf
      have hlt3 := hk3.lt
      exact ⟨_, _, run_endRound (P := P) none hk3.1, .inl ⟨rfl, ⟨hI _ _ _ (by omega) hi3 (hput _ _ _ (by omega)), hk3.put _⟩, hKt (hKt (hKt hK1 hK2) hkp) (hKb _ _ _ _ (by omega) hk3.1 rfl)⟩⟩
    | ret =>
      obtain ⟨hf, hx⟩ := hp
      have hk3 := hk2.keeps rfl hf
      have hlt3 := hk3.lt
      exact ⟨_, _, run_endRound (P := P) (some .ret) hk3.1, .inr ⟨rfl, .ret, hX _ _ _ _ (by omega) hx (hput _ _ _ (by omega)), hk3.put _⟩⟩
    | exit id =>
      obtain ⟨hf, hx⟩ := hp
      have hk3 := hk2.keeps rfl hf
      have hlt3 := hk3.lt
      exact ⟨_, _, run_endRound (P := P) (some (.exit id)) hk3.1, .inr ⟨rfl, .exit id, hX _ _ _ _ (by omega) hx (hput _ _ _ (by omega)), hk3.put _⟩⟩
    | goto t => exact hp.elim
    | panic ch => exact hp.elim
    | outgrown => exact hp.elim
  · rintro e W2 ⟨⟨v, rfl⟩, (⟨xs, hS, hi, hk⟩ | ⟨pre, hSp, c, hx, hk⟩)⟩
    · have hlt := hk.lt
      exact ⟨none, _, run_endLoop (P := P) hk.1 (by simp), hdone xs _ hS (hI _ _ _ (by omega) hi (hput _ _ _ (by omega))) (hk.put _).2⟩
    · have hlt := hk.lt
      exact ⟨some c, _, run_endLoop (P := P) hk.1 (by simp), hstop c pre _ hSp (hX _ _ _ _ (by omega) hx (hput _ _ _ (by omega))) (hk.put _).2⟩

/-- A scope through which the run goes without a goto, inside the wide fence. -/
theorem scope_wide {n : Nat} {P : Program} {c : Code} {Q : Exit → Act → World → Prop} {a : Act} {w : World} (h : c.wpIn Fence.wide n P (Exit.noGoto Q) a w) : (Code.scope c).wpIn Fence.wide n P Q a w :=
  wpIn_wide.2 (wp_scope_straight (wpIn_wide.1 h))

end Go.Proofs.YthofogokpolhdaaGreatDoor.Ranges

namespace Go.Proofs.YthofogokpolhdaaGreatDoor.Ranges
open Go Go.RowKit
set_option linter.unusedVariables false
set_option linter.unusedSimpArgs false

variable {F : Fence} {n : Nat} {P : Program} {α : Type}

/-- How a round may be told. -/
def RoundL (J Jx : List α → World → Prop) (Kp : World → World → Prop) (pre : List α) (x : α) (W : World) (e : Ending) (W' : World) : Prop :=
  (e = .returned (.bool true) ∧ J (pre ++ [x]) W' ∧ Kp W W') ∨ (e = .returned (.bool false) ∧ Jx (pre ++ [x]) W' ∧ Kp W W')
/-- How the body of a round may be left. -/
def LeftL (B : Nat) (Kp : World → World → Prop) (I : List α → World → Prop) (Ix : Code → List α → World → Prop) (xs : List α) (W : World) : Exit → Act → World → Prop
  | .normal, _, W' => KeepsFrom B W W' ∧ Kp W W' ∧ I xs W'
  | .ret, _, W' => KeepsFrom B W W' ∧ Kp W W' ∧ Ix .ret xs W'
  | .exit id, _, W' => KeepsFrom B W W' ∧ Kp W W' ∧ Ix (.exit id) xs W'
  | _, _, _ => False
/-- What stays while books above l are turned. -/
def Over (l : Nat) (I : World → Prop) : Prop := ∀ W k o o', I W → l < k → W.heap[k]? = some o → o.isCells = false → o'.isCells = false → I (W.putObj k o')
/-- The iterator's contract, where what a round keeps may be said of its loop's book. -/
def SeqL (F : Fence) (n : Nat) (P : Program) (g : Nat) (lb : Array Value) (encs : α → Array Value) (G : List α → α → World → Prop) (Kp : Nat → World → World → Prop) (S Sp : List α → Prop) (w : World) : Prop :=
  ∀ (l : Nat) (J Jx : List α → World → Prop) (W : World), Below w.heap.size w W → l < W.heap.size → (∀ pre, Stays (J pre)) → (∀ pre, Stays (Jx pre)) → (∀ pre, Over l (J pre)) → (∀ pre, Over l (Jx pre)) →
    (∀ pre x V, J pre V → G pre x V → YieldAt F (n - 1) P l (encs x) V (RoundL J Jx (Kp l) pre x V)) → J [] W →
    CallsIn F n P g (#[.func (.yield l) #[] #[]] ++ lb) W (Ended S Sp J Jx)
theorem Books.over {B : Nat} {o : Obj} : Over (B + 1) (Books B o) := fun W k o1 o' h hk _ _ _ =>
  ⟨(World.putObj_heap_other (by omega)).trans h.1, (World.putObj_heap_other (by omega)).trans h.2⟩

theorem range_own {g : Operand} {ps : Array Tmp} {assign body : Code} {Q : Exit → Act → World → Prop} {a : Act} {w : World}
    (hro : F.round = none) (h1 : 1 ≤ n) {gf : Nat} {lb : Array Value} (hg : a.eval g = .func (.func gf) #[] lb) (hFg : F.fn gf) (eg : ∀ args w, (callFunc gf args).run P w = .ok (.enter gf args) w)
    {encs : α → Array Value} {G : List α → α → World → Prop} {Kp : Nat → World → World → Prop} {S Sp : List α → Prop} (hseq : SeqL F (n - 1) P gf lb encs G Kp S Sp w) (hps : ∀ x, (encs x).size = ps.size)
    (hKt : ∀ {A B C : World}, Kp (w.heap.size + 1) A B → Kp (w.heap.size + 1) B C → Kp (w.heap.size + 1) A C) (hKb : ∀ (W : World) (o o' : Obj), W.heap[w.heap.size + 1]? = some o → o.isCells = false → Kp (w.heap.size + 1) W (W.putObj (w.heap.size + 1) o')) (hKs : ∀ W W', w.heap.size ≤ W.heap.size → Below W.heap.size W W' → Kp (w.heap.size + 1) W W')
    (hGs : ∀ pre x, Stays (G pre x)) (hG : ∀ pre x, Bears w.heap.size (G pre x))
    (I : List α → World → Prop) (Ix : Code → List α → World → Prop) (hI : ∀ pre, Stays (I pre)) (hIb : ∀ pre, Bears w.heap.size (I pre)) (hX : ∀ c pre, Stays (Ix c pre)) (hXb : ∀ c pre, Bears w.heap.size (Ix c pre)) (h0 : I [] w)
    (a₁ : α → World → Act) (R : α → World → World → Prop) (hR : ∀ x W, Bears w.heap.size (R x W))
    (hassign : ∀ (l : Nat) (pre : List α) (x : α) (W : World) (K : Act → World → Prop), I pre W → G pre x W → (∀ V, Below W.heap.size W V → R x W V → K (a₁ x W) V) →
      assign.wpIn (F.inRound l) (n - 1 - 1) P (Exit.then K (fun _ _ _ => False)) { tmps := (ps.zip (encs x)).foldl (fun t (p, v) => t.setIfInBounds p v) a.tmps, defers := [] } W)
    (hbody : ∀ (l : Nat) (pre : List α) (x : α) (W0 W : World), w.heap.size ≤ W0.heap.size → I pre W → G pre x W → R x W0 W → body.wpIn (F.inRound l) (n - 1 - 1) P (LeftL w.heap.size (Kp (w.heap.size + 1)) I Ix (pre ++ [x]) W) (a₁ x W0) W)
    (hdone : ∀ (xs : List α) (W : World), S xs → I xs W → W.heap[w.heap.size]? = some (.deferred (some [])) → Q .normal { a with defers := { target := .collected w.heap.size, args := #[] } :: a.defers } W)
    (hstop : ∀ (c : Code) (pre : List α) (W : World), Sp pre → Ix c pre W → W.heap[w.heap.size]? = some (.deferred (some [])) → c.wpIn F n P Q { a with defers := { target := .collected w.heap.size, args := #[] } :: a.defers } W) :
    (Code.rangeFunc g ps assign body).wpIn F n P Q a w := by
  refine wpIn_rangeFunc fun fn hfn => ?_
  have hB1 : Below w.heap.size w ((w.alloc (.deferred (some []))).alloc (book a ps assign body fn w.heap.size .ready none)) :=
    ((Below.refl _ w).alloc (Nat.le_refl _) _).alloc (by rw [World.size_alloc]; omega) _
  have hM1 : Books w.heap.size (book a ps assign body fn w.heap.size .ready none) ((w.alloc (.deferred (some []))).alloc (book a ps assign body fn w.heap.size .ready none)) := by
    refine ⟨?_, ?_⟩
    · have := World.alloc_heap_new (w.alloc (.deferred (some []))) (book a ps assign body fn w.heap.size .ready none)
      rwa [World.size_alloc] at this
    · exact (Below.heap_alloc _ _ _ (by rw [World.size_alloc]; omega)).trans (World.alloc_heap_new w _)
  refine ⟨w.heap.size + 1, [{ target := .collected w.heap.size, args := #[] }], _, { target := .fn (.func gf) lb, args := #[.func (.yield (w.heap.size + 1)) #[] #[]] }, _, gf, #[.func (.yield (w.heap.size + 1)) #[] #[]] ++ lb, _,
    (by rw [hro]; exact run_enterLoop_outer _ _ _ _ _), (by simp only [resolve, hg]; simp [go_sem]; rfl), (fun f' hf' => by simp [Target.leads] at hf'; subst hf'; exact hFg), (by simp [invoke, go_sem, eg]; rfl), fun _ => h1, ?_⟩
  refine (hseq (w.heap.size + 1) (fun pre W => I pre W ∧ Books w.heap.size (book a ps assign body fn w.heap.size .ready none) W)
    (fun pre W => ∃ c, Ix c pre W ∧ Books w.heap.size (book a ps assign body fn w.heap.size .done (some c)) W) _ hB1 hM1.lt
    (fun pre W W' h hb => ⟨hI pre W W' h.1 hb, Books.stays _ _ W W' h.2 hb⟩)
    (fun pre W W' h hb => by obtain ⟨c, hc, hk⟩ := h; exact ⟨c, hX c pre W W' hc hb, Books.stays _ _ W W' hk hb⟩) 
    (fun pre W k o o' h hk ho hc hc' => ⟨hIb pre W k o o' h.1 (by omega) ho hc hc', Books.over W k o o' h.2 hk ho hc hc'⟩)
    (fun pre W k o o' h hk ho hc hc' => by obtain ⟨c, h1, h2⟩ := h; exact ⟨c, hXb c pre W k o o' h1 (by omega) ho hc hc', Books.over W k o o' h2 hk ho hc hc'⟩) ?_ ⟨hI [] _ _ h0 hB1, hM1⟩).mono ?_
  · rintro pre x V ⟨hi, hk⟩ hGx
    have hy := run_yield (P := P) (args := encs x) hk.1 (hps x)
    have hVs := hk.lt
    refine ⟨fn, _, assign, body, hy, roundIn_of_wpIn hfn (hassign _ pre x V _ hi hGx fun V1 hV1 hR1 => ?_)⟩
    have hi1 := hI pre V V1 hi hV1
    have hk1 := Books.stays _ _ V V1 hk hV1
    have hlt1 := hk1.lt
    have hK1 := hKs V V1 (by omega) hV1
    have hK2 := hKb V1 _ (book a ps assign body fn w.heap.size .busy none) hk1.1 rfl
    have hk2 := hk1.put (book a ps assign body fn w.heap.size .busy none)
    refine ⟨_, run_beginRound hk1.1 rfl, ?_⟩
    refine wpIn_mono (hbody _ pre x V _ (by omega) (hIb pre _ _ _ _ hi1 (by omega) hk1.1 rfl rfl) (hG pre x _ _ _ _ (hGs pre x _ _ hGx hV1) (by omega) hk1.1 rfl rfl) (hR x V _ _ _ _ hR1 (by omega) hk1.1 rfl rfl)) ?_
    intro e a3 W3 hp
    cases e with
    | normal =>
      obtain ⟨hf, hkp, hi3⟩ := hp
      have hk3 := hk2.keeps rfl hf
      have hlt3 := hk3.lt
      exact ⟨_, _, run_endRound (P := P) none hk3.1, .inl ⟨rfl, ⟨hIb _ _ _ _ _ hi3 (by omega) hk3.1 rfl rfl, hk3.put _⟩, hKt (hKt (hKt hK1 hK2) hkp) (hKb _ _ _ hk3.1 rfl)⟩⟩
    | ret =>
      obtain ⟨hf, hkp, hx⟩ := hp
      have hk3 := hk2.keeps rfl hf
      have hlt3 := hk3.lt
      exact ⟨_, _, run_endRound (P := P) (some .ret) hk3.1, .inr ⟨rfl, ⟨.ret, hXb _ _ _ _ _ _ hx (by omega) hk3.1 rfl rfl, hk3.put _⟩, hKt (hKt (hKt hK1 hK2) hkp) (hKb _ _ _ hk3.1 rfl)⟩⟩
    | exit id =>
      obtain ⟨hf, hkp, hx⟩ := hp
      have hk3 := hk2.keeps rfl hf
      have hlt3 := hk3.lt
      exact ⟨_, _, run_endRound (P := P) (some (.exit id)) hk3.1, .inr ⟨rfl, ⟨.exit id, hXb _ _ _ _ _ _ hx (by omega) hk3.1 rfl rfl, hk3.put _⟩, hKt (hKt (hKt hK1 hK2) hkp) (hKb _ _ _ hk3.1 rfl)⟩⟩
    | goto t => exact hp.elim
    | panic ch => exact hp.elim
    | outgrown => exact hp.elim
  · rintro e W2 ⟨⟨v, rfl⟩, (⟨xs, hS, hi, hk⟩ | ⟨pre, hSp, c, hx, hk⟩)⟩
    · have hlt := hk.lt
      exact ⟨none, _, run_endLoop (P := P) hk.1 (by simp), hdone xs _ hS (hIb _ _ _ _ _ hi (by omega) hk.1 rfl rfl) (hk.put _).2⟩
    · have hlt := hk.lt
      exact ⟨some c, _, run_endLoop (P := P) hk.1 (by simp), hstop c pre _ hSp (hXb _ _ _ _ _ _ hx (by omega) hk.1 rfl rfl) (hk.put _).2⟩

/-- A block with a cell is no book. -/
theorem cell_put {W : World} {b j l : Nat} {v : Value} {o o' : Obj} (h : W.cell? ⟨b, j, none⟩ = some v) (hl : W.heap[l]? = some o) (ho : o.isCells = false) : b ≠ l ∧ (W.putObj l o').heap[b]? = W.heap[b]? := by
  have hne : b ≠ l := by
    intro e
    subst e
    unfold World.cell? at h
    simp only [hl] at h
    cases o <;> simp_all [Obj.isCells]
  exact ⟨hne, World.putObj_heap_other (by omega)⟩
theorem below_putObj {B : Nat} {w W : World} (h : Below B w W) (l : Nat) (hl : B ≤ l) (o' : Obj) : Below B w (W.putObj l o') :=
  h.trans ⟨rfl, rfl, rfl, by simp [World.putObj], fun k hk => World.putObj_heap_other (by omega)⟩

end Go.Proofs.YthofogokpolhdaaGreatDoor.Ranges

