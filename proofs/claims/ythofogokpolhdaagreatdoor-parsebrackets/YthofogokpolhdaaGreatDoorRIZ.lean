/-
  The reader of package parse, as it lies; contracts of its is, nested, place, ask, and of what may stand behind a token. The reader of package parse: what it puts down, and who waits. The reader of package parse: open, wait, close, behindSymbol. The reader of package parse: behindSymbol, close, and those that take a token. The reader of package parse: those that take a token. The reader of package parse: those that take a token: left, right, power, operator, end. The reader of package parse: right, power. The reader of package parse: power. The reader of package parse: read. The reader of package parse: read.
-/
import Derived.Test.YthofogokpolhdaaGreatDoorPAX
import Derived.Test.YthofogokpolhdaaGreatDoorULZ
import Derived.Test.YthofogokpolhdaaGreatDoorUJX
import Derived.BigQuiet
import Derived.StillTailTactics
import Derived.Laws.EntriesVeiled
import Derived.Deep.RegionHeld3
import Derived.WalkLawsBesides
namespace Go.Proofs.YthofogokpolhdaaGreatDoor.Parses
open Go.RowKit Go.Shelf
open Go.Proofs.YthofogokpolhdaaGreatDoor.Trees (Stp StepsAt cellS)
open Go.Proofs.YthofogokpolhdaaGreatDoor.Toks (Tok ToksAt cellK cell_lt cell_same SliceAt Above Grid Spare)
open Go.Proofs.YthofogokpolhdaaGreatDoor.Style (bs bs_size bs_at getD_at bs_of)
set_option linter.unusedVariables false
set_option linter.unusedSimpArgs false

/-- The functions that are asked. -/
def fnOf : Nat → Nat
  | 0 => 116
  | 1 => 117
  | 2 => 118
  | 3 => 119
  | 4 => 120
  | 5 => 154
  | 6 => 155
  | 7 => 150
  | 8 => 151
  | 9 => 152
  | 10 => 153
  | _ => 149
def cellF (rb : Nat) (l : List Nat) (i j : Nat) : Value := .func (.func (fnOf (l.getD i 0))) #[.pointer (some ⟨rb, 0, none⟩)] #[]
def cellI (l : List Int) (i j : Nat) : Value := .int .i64 (l.getD i 0)
/-- They lie in blocks of their own. -/
def Apart (v v' : Value) : Prop := ∀ a n c a' n' c', v = .slice (some a) n c → v' = .slice (some a') n' c' → a.block ≠ a'.block
theorem setFar {W : World} {s : Value} {k n B : Nat} {f : Nat → Nat → Value} (h : SliceAt W s k n f) (ha : Above B s) (b i : Nat) (hb : b < B) (u : Value) : SliceAt (W.setCell ⟨b, i, none⟩ u) s k n f := by
  rcases h with h | ⟨b', c, hs, hc, hm, hg⟩
  · exact .inl h
  · have hbb : B ≤ b' := ha _ _ _ hs
    exact .inr ⟨b', c, hs, hc, hm.set _ _ _, hg.other b i u (by omega)⟩
/-- The reader: w0 is the world in which it was made. -/
structure RdM (w0 : World) (st : Value) (L : List Tok) (size : Int) (pow : Bool) (vm vw vt : Value) (s : Rd) (W : World) : Prop where
  below : Below w0.heap.size w0 W
  c0 : W.cell? ⟨w0.heap.size, 0, none⟩ = some st
  c1 : W.cell? ⟨w0.heap.size, 1, none⟩ = some (.int .i64 size)
  c2 : W.cell? ⟨w0.heap.size, 2, none⟩ = some (.bool pow)
  c3 : W.cell? ⟨w0.heap.size, 3, none⟩ = some vm
  c4 : W.cell? ⟨w0.heap.size, 4, none⟩ = some vw
  c5 : W.cell? ⟨w0.heap.size, 5, none⟩ = some (.bool s.below)
  c6 : W.cell? ⟨w0.heap.size, 6, none⟩ = some vt
  fr : ∀ j, W.frozen? ⟨w0.heap.size, j, none⟩ = false
  toks : ToksAt w0 st L
  lay : SliceAt W vm 1 (rowOf s.may).length (cellF w0.heap.size (rowOf s.may))
  wts : SliceAt W vw 1 s.waits.length (cellI s.waits)
  tre : StepsAt W vt s.tree
  am : Above (w0.heap.size + 1) vm
  aw : Above (w0.heap.size + 1) vw
  at_ : Above (w0.heap.size + 1) vt
  mw : Apart vm vw
  mt : Apart vm vt
  wt : Apart vw vt
theorem RdM.go {w0 : World} {st : Value} {L : List Tok} {size : Int} {pow : Bool} {vm vw vt : Value} {s : Rd} {W W' : World} (h : RdM w0 st L size pow vm vw vt s W) (hb : Below W.heap.size W W') : RdM w0 st L size pow vm vw vt s W' := by
  have hl := cell_lt h.c0
  exact ⟨h.below.trans (hb.mono (by omega)), (hb.cell (p := ⟨_, 0, none⟩) hl).trans h.c0, (hb.cell (p := ⟨_, 1, none⟩) hl).trans h.c1, (hb.cell (p := ⟨_, 2, none⟩) hl).trans h.c2, (hb.cell (p := ⟨_, 3, none⟩) hl).trans h.c3, (hb.cell (p := ⟨_, 4, none⟩) hl).trans h.c4, (hb.cell (p := ⟨_, 5, none⟩) hl).trans h.c5, (hb.cell (p := ⟨_, 6, none⟩) hl).trans h.c6, fun j => (hb.frozen (p := ⟨_, j, none⟩) hl).trans (h.fr j), h.toks, h.lay.go hb, h.wts.go hb, h.tre.go hb, h.am, h.aw, h.at_, h.mw, h.mt, h.wt⟩
theorem RdM.lt {w0 : World} {st : Value} {L : List Tok} {size : Int} {pow : Bool} {vm vw vt : Value} {s : Rd} {W : World} (h : RdM w0 st L size pow vm vw vt s W) : w0.heap.size < W.heap.size := cell_lt h.c0
theorem set_other {W : World} {b k j : Nat} {u v : Value} (h : W.cell? ⟨b, j, none⟩ = some v) (hn : j ≠ k) : (W.setCell ⟨b, k, none⟩ u).cell? ⟨b, j, none⟩ = some v := by
  rw [World.cell?_setCell_other _ _ _ _ (by intro hh; injection hh with e1 e2; exact hn e2.symm)]; exact h
/-- What may stand there is put down anew. -/
theorem RdM.may {w0 : World} {st : Value} {L : List Tok} {size : Int} {pow : Bool} {vm vw vt : Value} {s : Rd} {W : World} (h : RdM w0 st L size pow vm vw vt s W) (k : Nat) (v : Value) (hl : SliceAt W v 1 (rowOf k).length (cellF w0.heap.size (rowOf k))) (ha : Above (w0.heap.size + 1) v) (h1 : Apart v vw) (h2 : Apart v vt) :
    RdM w0 st L size pow v vw vt { s with may := k } (W.setCell ⟨w0.heap.size, 3, none⟩ v) :=
  ⟨h.below.setCell (p := ⟨w0.heap.size, 3, none⟩) (Nat.le_refl _) v, set_other h.c0 (by omega), set_other h.c1 (by omega), set_other h.c2 (by omega), World.cell?_setCell_same _ _ _ h.c3, set_other h.c4 (by omega), set_other h.c5 (by omega), set_other h.c6 (by omega), fun j => by rw [World.frozen?_setCell]; exact h.fr j,
    h.toks, setFar hl ha _ _ (by omega) _, setFar h.wts h.aw _ _ (by omega) _, setFar h.tre h.at_ _ _ (by omega) _, ha, h.aw, h.at_, h1, h2, h.wt⟩
theorem RdM.sign {w0 : World} {st : Value} {L : List Tok} {size : Int} {pow : Bool} {vm vw vt : Value} {s : Rd} {W : World} (h : RdM w0 st L size pow vm vw vt s W) (b : Bool) :
    RdM w0 st L size pow vm vw vt { s with below := b } (W.setCell ⟨w0.heap.size, 5, none⟩ (.bool b)) :=
  ⟨h.below.setCell (p := ⟨w0.heap.size, 5, none⟩) (Nat.le_refl _) _, set_other h.c0 (by omega), set_other h.c1 (by omega), set_other h.c2 (by omega), set_other h.c3 (by omega), set_other h.c4 (by omega), World.cell?_setCell_same _ _ _ h.c5, set_other h.c6 (by omega), fun j => by rw [World.frozen?_setCell]; exact h.fr j,
    h.toks, setFar h.lay h.am _ _ (by omega) _, setFar h.wts h.aw _ _ (by omega) _, setFar h.tre h.at_ _ _ (by omega) _, h.am, h.aw, h.at_, h.mw, h.mt, h.wt⟩
/-- The row of those that wait is put down anew: in a world in which it lies. -/
theorem RdM.waits {w0 : World} {st : Value} {L : List Tok} {size : Int} {pow : Bool} {vm vw vt : Value} {s : Rd} {W : World} (h : RdM w0 st L size pow vm vw vt s W) (l : List Int) (v : Value) (hl : SliceAt W v 1 l.length (cellI l)) (ha : Above (w0.heap.size + 1) v) (h1 : Apart vm v) (h2 : Apart v vt) :
    RdM w0 st L size pow vm v vt { s with waits := l } (W.setCell ⟨w0.heap.size, 4, none⟩ v) :=
  ⟨h.below.setCell (p := ⟨w0.heap.size, 4, none⟩) (Nat.le_refl _) v, set_other h.c0 (by omega), set_other h.c1 (by omega), set_other h.c2 (by omega), set_other h.c3 (by omega), World.cell?_setCell_same _ _ _ h.c4, set_other h.c5 (by omega), set_other h.c6 (by omega), fun j => by rw [World.frozen?_setCell]; exact h.fr j,
    h.toks, setFar h.lay h.am _ _ (by omega) _, setFar hl ha _ _ (by omega) _, setFar h.tre h.at_ _ _ (by omega) _, h.am, ha, h.at_, h1, h.mt, h2⟩
theorem RdM.steps {w0 : World} {st : Value} {L : List Tok} {size : Int} {pow : Bool} {vm vw vt : Value} {s : Rd} {W : World} (h : RdM w0 st L size pow vm vw vt s W) (l : List Stp) (v : Value) (hl : StepsAt W v l) (ha : Above (w0.heap.size + 1) v) (h1 : Apart vm v) (h2 : Apart vw v) :
    RdM w0 st L size pow vm vw v { s with tree := l } (W.setCell ⟨w0.heap.size, 6, none⟩ v) :=
  ⟨h.below.setCell (p := ⟨w0.heap.size, 6, none⟩) (Nat.le_refl _) v, set_other h.c0 (by omega), set_other h.c1 (by omega), set_other h.c2 (by omega), set_other h.c3 (by omega), set_other h.c4 (by omega), set_other h.c5 (by omega), World.cell?_setCell_same _ _ _ h.c6, fun j => by rw [World.frozen?_setCell]; exact h.fr j,
    h.toks, setFar h.lay h.am _ _ (by omega) _, setFar h.wts h.aw _ _ (by omega) _, setFar hl ha _ _ (by omega) _, h.am, h.aw, ha, h.mw, h1, h2⟩
/-- The reader, wherever its rows lie. -/
def RdI (w0 : World) (st : Value) (L : List Tok) (size : Int) (pow : Bool) (s : Rd) (W : World) : Prop := ∃ vm vw vt, RdM w0 st L size pow vm vw vt s W
theorem RdI.go {w0 : World} {st : Value} {L : List Tok} {size : Int} {pow : Bool} {s : Rd} {W W' : World} (h : RdI w0 st L size pow s W) (hb : Below W.heap.size W W') : RdI w0 st L size pow s W' := by
  obtain ⟨vm, vw, vt, h⟩ := h
  exact ⟨vm, vw, vt, h.go hb⟩
/-- What lay there already lies in another block than what is made. -/
theorem apart_new {w : World} {k n : Nat} {f : Nat → Nat → Value} {v : Value} (h : SliceAt w v k n f) (b c d : Nat) (hb : w.heap.size ≤ b) : Apart (.slice (some ⟨b, 0, none⟩) c d) v ∧ Apart v (.slice (some ⟨b, 0, none⟩) c d) := by
  have key : ∀ (a : Addr) n' c', v = .slice (some a) n' c' → a.block < w.heap.size := by
    intro a n' c' e
    rcases h with ⟨_, h⟩ | ⟨b', c2, hs, hc, hm, hg⟩
    · rw [h] at e; cases e
    · rw [hs] at e
      injection e with e1
      injection e1 with e1
      subst e1
      exact hg.2.2
  constructor
  · intro a n' c' a' n2 c2 e1 e2
    have := key _ _ _ e2
    injection e1 with e1
    injection e1 with e1
    subst e1
    show b ≠ _
    omega
  · intro a n' c' a' n2 c2 e1 e2
    have := key _ _ _ e1
    injection e2 with e2
    injection e2 with e2
    subst e2
    show _ ≠ b
    omega

set_option maxRecDepth 100000 in
theorem ask_v (v : Value) (w0 : World) (st : Value) (L : List Tok) (size : Int) (pow : Bool) (vm vw vt : Value) (s : Rd) (w : World) (h : RdM w0 st L size pow vm vw vt s w) (hv : ∃ o n c, v = .slice o n c) (k : Nat)
    (hl : SliceAt w v 1 (rowOf k).length (cellF w0.heap.size (rowOf k))) (ha : Above (w0.heap.size + 1) v) (h1 : Apart v vw) (h2 : Apart v vt) :
    Calls Tryz.prog 115 #[.pointer (some ⟨w0.heap.size, 0, none⟩), v] w fun e w' => e = .returned (.tuple #[]) ∧ RdM w0 st L size pow v vw vt { s with may := k } w' := by
  have hF := h.may k v hl ha h1 h2
  have c3 := h.c3
  have f3 := h.fr 3
  obtain ⟨o, n, c, rfl⟩ := hv
  have HF := Lib.hid hF
  clear hF h hl ha h1 h2
  go_enter Tryz.func115, Tryz.ntmps115
  go_wp2_with fail
  go_end0
  exact ⟨rfl, HF.out⟩

set_option maxRecDepth 100000 in
set_option maxHeartbeats 1000000 in
theorem behindOpen_v (w0 : World) (st : Value) (L : List Tok) (size : Int) (pow : Bool) (vm vw vt : Value) (s : Rd) (w : World) (h : RdM w0 st L size pow vm vw vt s w) :
    Calls Tryz.prog 103 #[.pointer (some ⟨w0.heap.size, 0, none⟩)] w fun e w' => e = .returned (.tuple #[]) ∧ ∃ v, RdM w0 st L size pow v vw vt { s with may := 0 } w' := by
  have hu : Below w.heap.size w (w.alloc (.cells #[.func (.func 116) #[.pointer (some ⟨w0.heap.size, 0, none⟩)] #[], .func (.func 117) #[.pointer (some ⟨w0.heap.size, 0, none⟩)] #[], .func (.func 118) #[.pointer (some ⟨w0.heap.size, 0, none⟩)] #[], .func (.func 119) #[.pointer (some ⟨w0.heap.size, 0, none⟩)] #[], .func (.func 120) #[.pointer (some ⟨w0.heap.size, 0, none⟩)] #[]] 85)) := (Below.refl _ _).alloc (Nat.le_refl _) _
  have hl : SliceAt (w.alloc (.cells #[.func (.func 116) #[.pointer (some ⟨w0.heap.size, 0, none⟩)] #[], .func (.func 117) #[.pointer (some ⟨w0.heap.size, 0, none⟩)] #[], .func (.func 118) #[.pointer (some ⟨w0.heap.size, 0, none⟩)] #[], .func (.func 119) #[.pointer (some ⟨w0.heap.size, 0, none⟩)] #[], .func (.func 120) #[.pointer (some ⟨w0.heap.size, 0, none⟩)] #[]] 85)) (.slice (some ⟨w.heap.size, 0, none⟩) 5 5) 1 5 (cellF w0.heap.size (rowOf 0)) := by
    refine .inr ⟨w.heap.size, 5, rfl, Nat.le_refl _, fun j hj => ?_, fun i hi j hj => ?_, fun j => by simp [go_sem], by rw [World.size_alloc]; omega⟩
    · have hj' : j < 5 := by omega
      match j, hj' with
      | 0, _ => simp [go_sem]
      | 1, _ => simp [go_sem]
      | 2, _ => simp [go_sem]
      | 3, _ => simp [go_sem]
      | 4, _ => simp [go_sem]
    · have : j = 0 := by omega
      subst this
      match i, hi with
      | 0, _ => simp [go_sem, cellF, rowOf, fnOf]
      | 1, _ => simp [go_sem, cellF, rowOf, fnOf]
      | 2, _ => simp [go_sem, cellF, rowOf, fnOf]
      | 3, _ => simp [go_sem, cellF, rowOf, fnOf]
      | 4, _ => simp [go_sem, cellF, rowOf, fnOf]
  have hlt := h.lt
  have hA : Above (w0.heap.size + 1) (.slice (some ⟨w.heap.size, 0, none⟩) 5 5) := fun a n c e => by injection e with e; injection e with e; subst e; exact hlt
  have hask := ask_v _ w0 st L size pow vm vw vt s _ (h.go hu) ⟨_, _, _, rfl⟩ 0 hl hA (apart_new h.wts _ _ _ (Nat.le_refl _)).1 (apart_new h.tre _ _ _ (Nat.le_refl _)).1
  clear h hl hA hu
  go_enter Tryz.func103, Tryz.ntmps103
  go_wp2_with fail
  refine hask.mono ?_
  rintro e w2 ⟨rfl, hE⟩
  have HE := Lib.hid hE
  clear hE hask
  go_wp2_with fail
  go_end0
  exact ⟨rfl, _, HE.out⟩

set_option maxRecDepth 100000 in
set_option maxHeartbeats 1000000 in
theorem behindOperator_v (w0 : World) (st : Value) (L : List Tok) (size : Int) (pow : Bool) (vm vw vt : Value) (s : Rd) (w : World) (h : RdM w0 st L size pow vm vw vt s w) :
    Calls Tryz.prog 148 #[.pointer (some ⟨w0.heap.size, 0, none⟩)] w fun e w' => e = .returned (.tuple #[]) ∧ ∃ v, RdM w0 st L size pow v vw vt { s with may := 1 } w' := by
  have hu : Below w.heap.size w (w.alloc (.cells #[.func (.func 117) #[.pointer (some ⟨w0.heap.size, 0, none⟩)] #[], .func (.func 118) #[.pointer (some ⟨w0.heap.size, 0, none⟩)] #[], .func (.func 119) #[.pointer (some ⟨w0.heap.size, 0, none⟩)] #[], .func (.func 120) #[.pointer (some ⟨w0.heap.size, 0, none⟩)] #[]] 85)) := (Below.refl _ _).alloc (Nat.le_refl _) _
  have hl : SliceAt (w.alloc (.cells #[.func (.func 117) #[.pointer (some ⟨w0.heap.size, 0, none⟩)] #[], .func (.func 118) #[.pointer (some ⟨w0.heap.size, 0, none⟩)] #[], .func (.func 119) #[.pointer (some ⟨w0.heap.size, 0, none⟩)] #[], .func (.func 120) #[.pointer (some ⟨w0.heap.size, 0, none⟩)] #[]] 85)) (.slice (some ⟨w.heap.size, 0, none⟩) 4 4) 1 4 (cellF w0.heap.size (rowOf 1)) := by
    refine .inr ⟨w.heap.size, 4, rfl, Nat.le_refl _, fun j hj => ?_, fun i hi j hj => ?_, fun j => by simp [go_sem], by rw [World.size_alloc]; omega⟩
    · have hj' : j < 4 := by omega
      match j, hj' with
      | 0, _ => simp [go_sem]
      | 1, _ => simp [go_sem]
      | 2, _ => simp [go_sem]
      | 3, _ => simp [go_sem]
    · have : j = 0 := by omega
      subst this
      match i, hi with
      | 0, _ => simp [go_sem, cellF, rowOf, fnOf]
      | 1, _ => simp [go_sem, cellF, rowOf, fnOf]
      | 2, _ => simp [go_sem, cellF, rowOf, fnOf]
      | 3, _ => simp [go_sem, cellF, rowOf, fnOf]
  have hlt := h.lt
  have hA : Above (w0.heap.size + 1) (.slice (some ⟨w.heap.size, 0, none⟩) 4 4) := fun a n c e => by injection e with e; injection e with e; subst e; exact hlt
  have hask := ask_v _ w0 st L size pow vm vw vt s _ (h.go hu) ⟨_, _, _, rfl⟩ 1 hl hA (apart_new h.wts _ _ _ (Nat.le_refl _)).1 (apart_new h.tre _ _ _ (Nat.le_refl _)).1
  clear h hl hA hu
  go_enter Tryz.func148, Tryz.ntmps148
  go_wp2_with fail
  refine hask.mono ?_
  rintro e w2 ⟨rfl, hE⟩
  have HE := Lib.hid hE
  clear hE hask
  go_wp2_with fail
  go_end0
  exact ⟨rfl, _, HE.out⟩

set_option maxRecDepth 100000 in
set_option maxHeartbeats 1000000 in
theorem behindPow_v (w0 : World) (st : Value) (L : List Tok) (size : Int) (pow : Bool) (vm vw vt : Value) (s : Rd) (w : World) (h : RdM w0 st L size pow vm vw vt s w) :
    Calls Tryz.prog 164 #[.pointer (some ⟨w0.heap.size, 0, none⟩)] w fun e w' => e = .returned (.tuple #[]) ∧ ∃ v, RdM w0 st L size pow v vw vt { s with may := 4 } w' := by
  have hu : Below w.heap.size w (w.alloc (.cells #[.func (.func 154) #[.pointer (some ⟨w0.heap.size, 0, none⟩)] #[], .func (.func 155) #[.pointer (some ⟨w0.heap.size, 0, none⟩)] #[]] 85)) := (Below.refl _ _).alloc (Nat.le_refl _) _
  have hl : SliceAt (w.alloc (.cells #[.func (.func 154) #[.pointer (some ⟨w0.heap.size, 0, none⟩)] #[], .func (.func 155) #[.pointer (some ⟨w0.heap.size, 0, none⟩)] #[]] 85)) (.slice (some ⟨w.heap.size, 0, none⟩) 2 2) 1 2 (cellF w0.heap.size (rowOf 4)) := by
    refine .inr ⟨w.heap.size, 2, rfl, Nat.le_refl _, fun j hj => ?_, fun i hi j hj => ?_, fun j => by simp [go_sem], by rw [World.size_alloc]; omega⟩
    · have hj' : j < 2 := by omega
      match j, hj' with
      | 0, _ => simp [go_sem]
      | 1, _ => simp [go_sem]
    · have : j = 0 := by omega
      subst this
      match i, hi with
      | 0, _ => simp [go_sem, cellF, rowOf, fnOf]
      | 1, _ => simp [go_sem, cellF, rowOf, fnOf]
  have hlt := h.lt
  have hA : Above (w0.heap.size + 1) (.slice (some ⟨w.heap.size, 0, none⟩) 2 2) := fun a n c e => by injection e with e; injection e with e; subst e; exact hlt
  have hask := ask_v _ w0 st L size pow vm vw vt s _ (h.go hu) ⟨_, _, _, rfl⟩ 4 hl hA (apart_new h.wts _ _ _ (Nat.le_refl _)).1 (apart_new h.tre _ _ _ (Nat.le_refl _)).1
  clear h hl hA hu
  go_enter Tryz.func164, Tryz.ntmps164
  go_wp2_with fail
  refine hask.mono ?_
  rintro e w2 ⟨rfl, hE⟩
  have HE := Lib.hid hE
  clear hE hask
  go_wp2_with fail
  go_end0
  exact ⟨rfl, _, HE.out⟩

set_option maxRecDepth 100000 in
set_option maxHeartbeats 1000000 in
theorem behindSign_v (w0 : World) (st : Value) (L : List Tok) (size : Int) (pow : Bool) (vm vw vt : Value) (s : Rd) (w : World) (h : RdM w0 st L size pow vm vw vt s w) :
    Calls Tryz.prog 166 #[.pointer (some ⟨w0.heap.size, 0, none⟩)] w fun e w' => e = .returned (.tuple #[]) ∧ ∃ v, RdM w0 st L size pow v vw vt { s with may := 5 } w' := by
  have hu : Below w.heap.size w (w.alloc (.cells #[.func (.func 155) #[.pointer (some ⟨w0.heap.size, 0, none⟩)] #[]] 85)) := (Below.refl _ _).alloc (Nat.le_refl _) _
  have hl : SliceAt (w.alloc (.cells #[.func (.func 155) #[.pointer (some ⟨w0.heap.size, 0, none⟩)] #[]] 85)) (.slice (some ⟨w.heap.size, 0, none⟩) 1 1) 1 1 (cellF w0.heap.size (rowOf 5)) := by
    refine .inr ⟨w.heap.size, 1, rfl, Nat.le_refl _, fun j hj => ?_, fun i hi j hj => ?_, fun j => by simp [go_sem], by rw [World.size_alloc]; omega⟩
    · have hj' : j < 1 := by omega
      match j, hj' with
      | 0, _ => simp [go_sem]
    · have : j = 0 := by omega
      subst this
      match i, hi with
      | 0, _ => simp [go_sem, cellF, rowOf, fnOf]
  have hlt := h.lt
  have hA : Above (w0.heap.size + 1) (.slice (some ⟨w.heap.size, 0, none⟩) 1 1) := fun a n c e => by injection e with e; injection e with e; subst e; exact hlt
  have hask := ask_v _ w0 st L size pow vm vw vt s _ (h.go hu) ⟨_, _, _, rfl⟩ 5 hl hA (apart_new h.wts _ _ _ (Nat.le_refl _)).1 (apart_new h.tre _ _ _ (Nat.le_refl _)).1
  clear h hl hA hu
  go_enter Tryz.func166, Tryz.ntmps166
  go_wp2_with fail
  refine hask.mono ?_
  rintro e w2 ⟨rfl, hE⟩
  have HE := Lib.hid hE
  clear hE hask
  go_wp2_with fail
  go_end0
  exact ⟨rfl, _, HE.out⟩

set_option maxRecDepth 100000 in
set_option maxHeartbeats 1000000 in
theorem behindBase_v (w0 : World) (st : Value) (L : List Tok) (size : Int) (pow : Bool) (vm vw vt : Value) (s : Rd) (w : World) (h : RdM w0 st L size pow vm vw vt s w) :
    Calls Tryz.prog 134 #[.pointer (some ⟨w0.heap.size, 0, none⟩)] w fun e w' => e = .returned (.tuple #[]) ∧ ∃ v, RdM w0 st L size pow v vw vt { s with may := 6 } w' := by
  have hu : Below w.heap.size w (w.alloc (.cells #[.func (.func 150) #[.pointer (some ⟨w0.heap.size, 0, none⟩)] #[], .func (.func 151) #[.pointer (some ⟨w0.heap.size, 0, none⟩)] #[], .func (.func 152) #[.pointer (some ⟨w0.heap.size, 0, none⟩)] #[], .func (.func 153) #[.pointer (some ⟨w0.heap.size, 0, none⟩)] #[]] 85)) := (Below.refl _ _).alloc (Nat.le_refl _) _
  have hl : SliceAt (w.alloc (.cells #[.func (.func 150) #[.pointer (some ⟨w0.heap.size, 0, none⟩)] #[], .func (.func 151) #[.pointer (some ⟨w0.heap.size, 0, none⟩)] #[], .func (.func 152) #[.pointer (some ⟨w0.heap.size, 0, none⟩)] #[], .func (.func 153) #[.pointer (some ⟨w0.heap.size, 0, none⟩)] #[]] 85)) (.slice (some ⟨w.heap.size, 0, none⟩) 4 4) 1 4 (cellF w0.heap.size (rowOf 6)) := by
    refine .inr ⟨w.heap.size, 4, rfl, Nat.le_refl _, fun j hj => ?_, fun i hi j hj => ?_, fun j => by simp [go_sem], by rw [World.size_alloc]; omega⟩
    · have hj' : j < 4 := by omega
      match j, hj' with
      | 0, _ => simp [go_sem]
      | 1, _ => simp [go_sem]
      | 2, _ => simp [go_sem]
      | 3, _ => simp [go_sem]
    · have : j = 0 := by omega
      subst this
      match i, hi with
      | 0, _ => simp [go_sem, cellF, rowOf, fnOf]
      | 1, _ => simp [go_sem, cellF, rowOf, fnOf]
      | 2, _ => simp [go_sem, cellF, rowOf, fnOf]
      | 3, _ => simp [go_sem, cellF, rowOf, fnOf]
  have hlt := h.lt
  have hA : Above (w0.heap.size + 1) (.slice (some ⟨w.heap.size, 0, none⟩) 4 4) := fun a n c e => by injection e with e; injection e with e; subst e; exact hlt
  have hask := ask_v _ w0 st L size pow vm vw vt s _ (h.go hu) ⟨_, _, _, rfl⟩ 6 hl hA (apart_new h.wts _ _ _ (Nat.le_refl _)).1 (apart_new h.tre _ _ _ (Nat.le_refl _)).1
  clear h hl hA hu
  go_enter Tryz.func134, Tryz.ntmps134
  go_wp2_with fail
  refine hask.mono ?_
  rintro e w2 ⟨rfl, hE⟩
  have HE := Lib.hid hE
  clear hE hask
  go_wp2_with fail
  go_end0
  exact ⟨rfl, _, HE.out⟩

set_option maxRecDepth 100000 in
set_option maxHeartbeats 1000000 in
theorem behindNote_v (w0 : World) (st : Value) (L : List Tok) (size : Int) (pow : Bool) (vm vw vt : Value) (s : Rd) (w : World) (h : RdM w0 st L size pow vm vw vt s w) :
    Calls Tryz.prog 156 #[.pointer (some ⟨w0.heap.size, 0, none⟩)] w fun e w' => e = .returned (.tuple #[]) ∧ ∃ v, RdM w0 st L size pow v vw vt { s with may := 7 } w' := by
  have hu : Below w.heap.size w (w.alloc (.cells #[.func (.func 151) #[.pointer (some ⟨w0.heap.size, 0, none⟩)] #[], .func (.func 152) #[.pointer (some ⟨w0.heap.size, 0, none⟩)] #[], .func (.func 153) #[.pointer (some ⟨w0.heap.size, 0, none⟩)] #[]] 85)) := (Below.refl _ _).alloc (Nat.le_refl _) _
  have hl : SliceAt (w.alloc (.cells #[.func (.func 151) #[.pointer (some ⟨w0.heap.size, 0, none⟩)] #[], .func (.func 152) #[.pointer (some ⟨w0.heap.size, 0, none⟩)] #[], .func (.func 153) #[.pointer (some ⟨w0.heap.size, 0, none⟩)] #[]] 85)) (.slice (some ⟨w.heap.size, 0, none⟩) 3 3) 1 3 (cellF w0.heap.size (rowOf 7)) := by
    refine .inr ⟨w.heap.size, 3, rfl, Nat.le_refl _, fun j hj => ?_, fun i hi j hj => ?_, fun j => by simp [go_sem], by rw [World.size_alloc]; omega⟩
    · have hj' : j < 3 := by omega
      match j, hj' with
      | 0, _ => simp [go_sem]
      | 1, _ => simp [go_sem]
      | 2, _ => simp [go_sem]
    · have : j = 0 := by omega
      subst this
      match i, hi with
      | 0, _ => simp [go_sem, cellF, rowOf, fnOf]
      | 1, _ => simp [go_sem, cellF, rowOf, fnOf]
      | 2, _ => simp [go_sem, cellF, rowOf, fnOf]
  have hlt := h.lt
  have hA : Above (w0.heap.size + 1) (.slice (some ⟨w.heap.size, 0, none⟩) 3 3) := fun a n c e => by injection e with e; injection e with e; subst e; exact hlt
  have hask := ask_v _ w0 st L size pow vm vw vt s _ (h.go hu) ⟨_, _, _, rfl⟩ 7 hl hA (apart_new h.wts _ _ _ (Nat.le_refl _)).1 (apart_new h.tre _ _ _ (Nat.le_refl _)).1
  clear h hl hA hu
  go_enter Tryz.func156, Tryz.ntmps156
  go_wp2_with fail
  refine hask.mono ?_
  rintro e w2 ⟨rfl, hE⟩
  have HE := Lib.hid hE
  clear hE hask
  go_wp2_with fail
  go_end0
  exact ⟨rfl, _, HE.out⟩

/-- What lies of a token. -/
theorem RdM.tok {w0 : World} {st : Value} {L : List Tok} {size : Int} {pow : Bool} {vm vw vt : Value} {s : Rd} {W : World} (h : RdM w0 st L size pow vm vw vt s W) {i : Nat} (hi : i < L.length) :
    ∃ b c, st = .slice (some ⟨b, 0, none⟩) L.length c ∧ W.cell? ⟨b, i * 4, none⟩ = some (.int .i64 (L.getD i default).kind) ∧ W.cell? ⟨b, i * 4 + 1, none⟩ = some (.int .i64 ((L.getD i default).pos : Int)) ∧ W.cell? ⟨b, i * 4 + 2, none⟩ = some (.string (bs (L.getD i default).text)) ∧ W.cell? ⟨b, i * 4 + 3, none⟩ = some (.int .i64 (L.getD i default).num) := by
  rcases h.toks with ⟨h0, _⟩ | ⟨b, c, hs, hc, hm, hg⟩
  · omega
  · have key : ∀ j, j < 4 → W.cell? ⟨b, i * 4 + j, none⟩ = some (cellK L i j) := fun j hj => (h.below.cell (p := ⟨b, i * 4 + j, none⟩) hg.2.2).trans (hg.1 i hi j hj)
    exact ⟨b, c, hs, key 0 (by omega), key 1 (by omega), key 2 (by omega), key 3 (by omega)⟩

set_option maxRecDepth 100000 in
set_option maxHeartbeats 1000000 in
theorem is_v (i : Nat) (k : Int) (w0 : World) (st : Value) (L : List Tok) (size : Int) (pow : Bool) (vm vw vt : Value) (s : Rd) (w : World) (h : RdM w0 st L size pow vm vw vt s w) (hL : L.length ≤ 1000) :
    Calls Tryz.prog 130 #[.pointer (some ⟨w0.heap.size, 0, none⟩), .int .i64 (i : Int), .int .i64 k] w fun e w' => e = .returned (.bool (isK L i k)) ∧ w = w' := by
  have hli : (L.length : Int) ≤ 1000 := by omega
  have c0 := h.c0
  by_cases hi : i < L.length
  · obtain ⟨b, c, rfl, t0, _, _, _⟩ := h.tok hi
    have hii : (i : Int) < L.length := by omega
    have HE : Hid (isK L i k = ((L.getD i default).kind == k)) := by
      show _ = _
      unfold isK
      rw [decide_eq_true hi, Bool.true_and]
      rfl
    generalize (L.getD i default).kind = kd at *
    clear h
    go_enter Tryz.func130, Tryz.ntmps130
    go_wp2_with fail
    go_ret
    exact ⟨by rw [HE.out]; rfl, rfl⟩
  · have hii : ¬ (i : Int) < L.length := by omega
    have HE : Hid (isK L i k = false) := by
      show _ = _
      unfold isK
      rw [decide_eq_false hi, Bool.false_and]
    obtain ⟨o, c, rfl⟩ := SliceAt.slice h.toks
    clear h
    go_enter Tryz.func130, Tryz.ntmps130
    go_wp2_with fail
    go_ret
    exact ⟨by rw [HE.out]; rfl, rfl⟩

set_option maxRecDepth 100000 in
theorem nested_v (w0 : World) (st : Value) (L : List Tok) (size : Int) (pow : Bool) (vm vw vt : Value) (s : Rd) (w : World) (h : RdM w0 st L size pow vm vw vt s w) (hl : s.waits.length ≤ 1000) :
    Calls Tryz.prog 135 #[.pointer (some ⟨w0.heap.size, 0, none⟩)] w fun e w' => e = .returned (.int .i64 ((s.waits.length : Int) - 1)) ∧ w = w' := by
  have hli : (s.waits.length : Int) ≤ 1000 := by omega
  have c4 := h.c4
  obtain ⟨o, c, rfl⟩ := SliceAt.slice h.wts
  generalize s.waits.length = n at *
  clear h
  go_enter Tryz.func135, Tryz.ntmps135
  go_wp2_with fail
  go_ret
  exact ⟨rfl, rfl⟩

set_option maxRecDepth 100000 in
set_option maxHeartbeats 1000000 in
theorem place_v (i : Nat) (w0 : World) (st : Value) (L : List Tok) (size : Int) (pow : Bool) (vm vw vt : Value) (s : Rd) (w : World) (h : RdM w0 st L size pow vm vw vt s w) (hL : L.length ≤ 1000) :
    Calls Tryz.prog 84 #[.pointer (some ⟨w0.heap.size, 0, none⟩), .int .i64 (i : Int)] w fun e w' => e = .returned (.int .i64 (placeG L size i)) ∧ w = w' := by
  have hli : (L.length : Int) ≤ 1000 := by omega
  have c0 := h.c0
  have c1 := h.c1
  by_cases hi : i < L.length
  · obtain ⟨b, c, rfl, _, t1, _, _⟩ := h.tok hi
    have hii : (i : Int) < L.length := by omega
    have HE : Hid (placeG L size i = ((L.getD i default).pos : Int)) := by show _ = _; unfold placeG; rw [if_pos hi]
    generalize (L.getD i default).pos = p at *
    clear h
    go_enter Tryz.func84, Tryz.ntmps84
    go_wp2_with fail
    go_ret
    exact ⟨by rw [HE.out]; rfl, rfl⟩
  · have hii : ¬ (i : Int) < L.length := by omega
    have HE : Hid (placeG L size i = size) := by show _ = _; unfold placeG; rw [if_neg hi]
    obtain ⟨o, c, rfl⟩ := SliceAt.slice h.toks
    clear h
    go_enter Tryz.func84, Tryz.ntmps84
    go_wp2_with fail
    go_ret
    exact ⟨by rw [HE.out]; rfl, rfl⟩

end Go.Proofs.YthofogokpolhdaaGreatDoor.Parses

namespace Go.Proofs.YthofogokpolhdaaGreatDoor.Parses
open Go.RowKit Go.Shelf
open Go.Proofs.YthofogokpolhdaaGreatDoor.Trees (Stp StepsAt cellS StAt elem_step cell_oneS)
open Go.Proofs.YthofogokpolhdaaGreatDoor.Toks (Tok ToksAt cellK cell_lt cell_same SliceAt Above Grid Spare Elem elem_of append_any both)
open Go.Proofs.YthofogokpolhdaaGreatDoor.Style (bs bs_size bs_at getD_at bs_of)
set_option linter.unusedVariables false
set_option linter.unusedSimpArgs false

theorem alloc_own (W : World) (o : Obj) : Below W.heap.size W (W.alloc o) := (Below.refl _ _).alloc (Nat.le_refl _) _
/-- What an append keeps: all blocks but the row's own. -/
structure Adds (w V : World) (s1 s : Value) : Prop where
  os : V.os = w.os
  tape : V.tape = w.tape
  output : V.output = w.output
  size : w.heap.size ≤ V.heap.size
  keep : ∀ D, D < w.heap.size → (∀ a n c, s1 = .slice (some a) n c → a.block ≠ D) → V.heap[D]? = w.heap[D]?
  way : (∃ n c, s = .slice (some ⟨w.heap.size, 0, none⟩) n c) ∨ (∃ b n c n' c', s1 = .slice (some ⟨b, 0, none⟩) n c ∧ s = .slice (some ⟨b, 0, none⟩) n' c')
theorem Adds.below {w V : World} {s1 s : Value} (h : Adds w V s1 s) {B : Nat} (ha : Above B s1) (hB : B ≤ w.heap.size) : Below B w V :=
  ⟨h.os, h.tape, h.output, h.size, fun k hk => h.keep k (by omega) (fun a n c e => by have := ha a n c e; omega)⟩
theorem Adds.above {w V : World} {s1 s : Value} (h : Adds w V s1 s) {B : Nat} (ha : Above B s1) (hB : B ≤ w.heap.size) : Above B s := by
  intro a n c e
  rcases h.way with ⟨n', c', rfl⟩ | ⟨b, n1, c1, n', c', e1, rfl⟩
  · injection e with e; injection e with e; subst e; exact hB
  · have := ha _ _ _ e1
    injection e with e; injection e with e; subst e; exact this
theorem Adds.slice {w V : World} {s1 s v : Value} {k n : Nat} {f : Nat → Nat → Value} (h : Adds w V s1 s) (hv : SliceAt w v k n f) (ha : Apart v s1) : SliceAt V v k n f := by
  rcases hv with hv | ⟨b, c, hs, hc, hm, hg⟩
  · exact .inl hv
  · have hb := h.keep b hg.2.2 (fun a n' c' e => fun e2 => ha _ _ _ _ _ _ hs e e2.symm)
    exact .inr ⟨b, c, hs, hc, hm.block hb, hg.block h.size hb⟩
theorem Adds.apart {w V : World} {s1 s v : Value} {k n : Nat} {f : Nat → Nat → Value} (h : Adds w V s1 s) (hv : SliceAt w v k n f) (ha : Apart v s1) : Apart v s := by
  rcases h.way with ⟨n', c', rfl⟩ | ⟨b, n1, c1, n', c', e1, rfl⟩
  · exact (apart_new hv _ _ _ (Nat.le_refl _)).2
  · intro a m d a' m' d' e e'
    injection e' with e'; injection e' with e'; subst e'
    exact ha _ _ _ _ _ _ e e1
theorem Apart.symm {v v' : Value} (h : Apart v v') : Apart v' v := fun a n c a' n' c' e e' => fun e2 => h _ _ _ _ _ _ e' e e2.symm
theorem app_sep {w : World} {t e : TypeId} {k n m c1 : Nat} {o1 : Option Addr} {s2 : Value} {f g : Nat → Nat → Value} (hE : Elem t e k) (hA : SliceAt w (.slice o1 n c1) k n f) (h1 : ∀ i, i < n → ∀ j, j < k → (f i j).oneCell' = true)
    (hB : Src Tryz.prog k t s2 m (Toks.flat k m g) w) (hn : n + m ≤ 2000) (h0 : 0 < n + m) :
    ∃ V s, (∀ ty, (Builtin.append_ #[t, t] ty #[.slice o1 n c1, s2]).run Tryz.prog w = .ok s V) ∧ SliceAt V s k (n + m) (both n f g) ∧ Adds w V (.slice o1 n c1) s := by
  obtain ⟨V, s, hr, hj⟩ := append_any hE hA h1 hB hn (.inl h0)
  refine ⟨V, s, hr, hj.rows, ?_⟩
  rcases hj.way with ⟨c, rfl, hb⟩ | ⟨b, c, e1, rfl, rfl⟩
  · exact ⟨hb.os, hb.tape, hb.output, hb.size, fun D hD _ => hb.block D hD, .inl ⟨_, _, rfl⟩⟩
  · have ho := Toks.only_cells b (Toks.flat k m g) (n * k) w w (Toks.Only.refl b w)
    exact ⟨ho.os, ho.tape, ho.output, Nat.le_of_eq ho.size.symm, fun D hD hn => ho.block D (fun e => hn _ _ _ e1 e.symm), .inr ⟨b, _, _, _, _, e1, rfl⟩⟩
theorem step_one {P : Program} {ops : Array Oper} {o : Oper} {a : Act} {w : World} {K : Act → World → Prop} {Q : Exit → Act → World → Prop} {E : Prop}
    (hw : Region.wanted o (yielded ops a.tmps) = true) (s x : Operand) (t tx : TypeId) (ho : o.op = .call { callee := .builtin .append, args := #[s, x], argTypes := #[t, tx] }) {v : Value} {V : World}
    (hr : ∀ ty, (Builtin.append_ #[t, tx] ty #[a.eval s, a.eval x]).run P w = .ok v V) (hK : K (a.put o.dst v) V) :
    if Region.wanted o (yielded ops a.tmps) = true then Oper.wp P o a w K Q else E := by
  rw [if_pos hw]
  unfold Oper.wp execOp
  simp only [ho, resolve, invoke, builtin, Sem.run_bind, Sem.run_pure, Result.andThen_ok, List.map_toArray, List.map_cons, List.map_nil, hr]
  exact hK
theorem set_st {W : World} {b : Nat} {x : Stp} (h : StAt W b x) {b' j : Nat} (hn : b ≠ b') (u : Value) : StAt (W.setCell ⟨b', j, none⟩ u) b x := by
  obtain ⟨y0, y1, y2, y3, y4, y5⟩ := h
  have key : ∀ (i : Nat) (v : Value), W.cell? ⟨b, i, none⟩ = some v → (W.setCell ⟨b', j, none⟩ u).cell? ⟨b, i, none⟩ = some v := fun i v hv => by
    rw [World.cell?_setCell_other _ _ _ _ (by intro hh; injection hh with e1 e2; omega)]; exact hv
  exact ⟨key _ _ y0, key _ _ y1, key _ _ y2, key _ _ y3, key _ _ y4, key _ _ y5⟩
theorem same_st {W W' : World} {b : Nat} {x : Stp} (h : StAt W b x) (hb : W'.heap[b]? = W.heap[b]?) : StAt W' b x := by
  obtain ⟨y0, y1, y2, y3, y4, y5⟩ := h
  exact ⟨cell_same y0 hb, cell_same y1 hb, cell_same y2 hb, cell_same y3 hb, cell_same y4 hb, cell_same y5 hb⟩
/-- The steps have grown. -/
theorem RdM.tree_adds {w0 : World} {st : Value} {L : List Tok} {size : Int} {pow : Bool} {vm vw vt : Value} {s : Rd} {W X : World} {v : Value} (h : RdM w0 st L size pow vm vw vt s W) (hX : Adds W X vt v) (l : List Stp) (hl : StepsAt X v l) :
    RdM w0 st L size pow vm vw v { s with tree := l } (X.setCell ⟨w0.heap.size, 6, none⟩ v) := by
  have hlt := h.lt
  have hb := hX.below h.at_ (by omega)
  have hs : ∀ j u, W.cell? ⟨w0.heap.size, j, none⟩ = some u → X.cell? ⟨w0.heap.size, j, none⟩ = some u := fun j u hu => (hb.cell (p := ⟨w0.heap.size, j, none⟩) (show w0.heap.size < w0.heap.size + 1 by omega)).trans hu
  have hX2 : RdM w0 st L size pow vm vw v { s with tree := l } (X.setCell ⟨w0.heap.size, 6, none⟩ v) :=
    ⟨(h.below.trans (hb.mono (by omega))).setCell (p := ⟨w0.heap.size, 6, none⟩) (Nat.le_refl _) v, set_other (hs _ _ h.c0) (by omega), set_other (hs _ _ h.c1) (by omega), set_other (hs _ _ h.c2) (by omega), set_other (hs _ _ h.c3) (by omega), set_other (hs _ _ h.c4) (by omega), set_other (hs _ _ h.c5) (by omega), World.cell?_setCell_same _ _ _ (hs _ _ h.c6),
      fun j => by rw [World.frozen?_setCell]; exact (hb.frozen (p := ⟨w0.heap.size, j, none⟩) (show w0.heap.size < w0.heap.size + 1 by omega)).trans (h.fr j), h.toks, setFar (hX.slice h.lay h.mt) h.am _ _ (by omega) _, setFar (hX.slice h.wts h.wt) h.aw _ _ (by omega) _, setFar hl (hX.above h.at_ (by omega)) _ _ (by omega) _,
      h.am, h.aw, hX.above h.at_ (by omega), h.mw, hX.apart h.lay h.mt, hX.apart h.wts h.wt⟩
  exact hX2
theorem RdM.waits_adds {w0 : World} {st : Value} {L : List Tok} {size : Int} {pow : Bool} {vm vw vt : Value} {s : Rd} {W X : World} {v : Value} (h : RdM w0 st L size pow vm vw vt s W) (hX : Adds W X vw v) (l : List Int) (hl : SliceAt X v 1 l.length (cellI l)) :
    RdM w0 st L size pow vm v vt { s with waits := l } (X.setCell ⟨w0.heap.size, 4, none⟩ v) := by
  have hlt := h.lt
  have hb := hX.below h.aw (by omega)
  have hs : ∀ j u, W.cell? ⟨w0.heap.size, j, none⟩ = some u → X.cell? ⟨w0.heap.size, j, none⟩ = some u := fun j u hu => (hb.cell (p := ⟨w0.heap.size, j, none⟩) (show w0.heap.size < w0.heap.size + 1 by omega)).trans hu
  exact ⟨(h.below.trans (hb.mono (by omega))).setCell (p := ⟨w0.heap.size, 4, none⟩) (Nat.le_refl _) v, set_other (hs _ _ h.c0) (by omega), set_other (hs _ _ h.c1) (by omega), set_other (hs _ _ h.c2) (by omega), set_other (hs _ _ h.c3) (by omega), World.cell?_setCell_same _ _ _ (hs _ _ h.c4), set_other (hs _ _ h.c5) (by omega), set_other (hs _ _ h.c6) (by omega),
      fun j => by rw [World.frozen?_setCell]; exact (hb.frozen (p := ⟨w0.heap.size, j, none⟩) (show w0.heap.size < w0.heap.size + 1 by omega)).trans (h.fr j), h.toks, setFar (hX.slice h.lay h.mw) h.am _ _ (by omega) _, setFar hl (hX.above h.aw (by omega)) _ _ (by omega) _, setFar (hX.slice h.tre h.wt.symm) h.at_ _ _ (by omega) _,
      h.am, hX.above h.aw (by omega), h.at_, hX.apart h.lay h.mw, h.mt, (hX.apart h.tre h.wt.symm).symm⟩
theorem elem_int : Elem 22 3 1 := elem_of (b := 8) (by omega) (by omega) (by kernel_rfl) (by kernel_rfl)
theorem steps_cat (L : List Stp) (x : Stp) {V : World} {s : Value} (h : SliceAt V s 6 (L.length + 1) (both L.length (cellS L) (cellS [x]))) : StepsAt V s (L ++ [x]) := by
  show SliceAt V s 6 (L ++ [x]).length _
  rw [List.length_append]
  refine SliceAt.ext h (fun i hi j hj => ?_)
  unfold both cellS
  by_cases hi2 : i < L.length
  · rw [if_pos hi2, List.getD_eq_getElem?_getD (l := L ++ [x]), List.getElem?_append_left hi2, ← List.getD_eq_getElem?_getD]
  · rw [if_neg hi2, List.getD_eq_getElem?_getD (l := L ++ [x]), List.getElem?_append_right (by omega), ← List.getD_eq_getElem?_getD]
theorem ints_cat (l : List Int) (x : Int) {V : World} {s : Value} (h : SliceAt V s 1 (l.length + 1) (both l.length (cellI l) (cellI [x]))) : SliceAt V s 1 (l ++ [x]).length (cellI (l ++ [x])) := by
  rw [List.length_append]
  refine SliceAt.ext h (fun i hi j hj => ?_)
  unfold both cellI
  by_cases hi2 : i < l.length
  · rw [if_pos hi2, List.getD_eq_getElem?_getD (l := l ++ [x]), List.getElem?_append_left hi2, ← List.getD_eq_getElem?_getD]
  · rw [if_neg hi2, List.getD_eq_getElem?_getD (l := l ++ [x]), List.getElem?_append_right (by omega), ← List.getD_eq_getElem?_getD]

set_option maxRecDepth 100000 in
set_option maxHeartbeats 4000000 in
theorem put_v (xo xp xa xn xm : Int) (xt : List UInt8) (w0 : World) (st : Value) (L : List Tok) (size : Int) (pow : Bool) (vm vw vt : Value) (s : Rd) (w : World) (h : RdM w0 st L size pow vm vw vt s w) (hl : s.tree.length ≤ 1000) :
    Calls Tryz.prog 132 #[.pointer (some ⟨w0.heap.size, 0, none⟩), .agg #[.int .i64 xo, .int .i64 xp, .int .i64 xa, .int .i64 xn, .int .i64 xm, .string (bs xt)]] w fun e w' => e = .returned (.tuple #[]) ∧ ∃ v, RdM w0 st L size pow vm vw v (putS s ⟨xo, -1, xa, xn, xm, xt⟩) w' := by
  have hlt := h.lt
  have hSt : StAt (w.alloc (.cells #[.int .i64 xo, .int .i64 (-1), .int .i64 xa, .int .i64 xn, .int .i64 xm, .string (bs xt)] 47)) w.heap.size ⟨xo, -1, xa, xn, xm, xt⟩ := StAt.new w ⟨xo, -1, xa, xn, xm, xt⟩
  have hu1 := alloc_own w (.cells #[.int .i64 xo, .int .i64 (-1), .int .i64 xa, .int .i64 xn, .int .i64 xm, .string (bs xt)] 47)
  have h1 := h.go hu1
  have hz1 : (w.alloc (.cells #[.int .i64 xo, .int .i64 (-1), .int .i64 xa, .int .i64 xn, .int .i64 xm, .string (bs xt)] 47)).heap.size = w.heap.size + 1 := World.size_alloc _ _
  go_enter Tryz.func132, Tryz.ntmps132
  go_upto_region 2 with fail
  generalize w.alloc (.cells #[.int .i64 xo, .int .i64 (-1), .int .i64 xa, .int .i64 xn, .int .i64 xm, .string (bs xt)] 47) = W1 at *
  have hu2 := alloc_own W1.drew (.cells #[.int .i64 xo, .int .i64 (-1), .int .i64 xa, .int .i64 xn, .int .i64 xm, .string (bs xt)] 47)
  have h2 := (h1.go (Below.refl _ _).drew).go hu2
  have c6 := h1.c6
  have c6a : (W1.alloc (.cells #[.int .i64 xo, .int .i64 (-1), .int .i64 xa, .int .i64 xn, .int .i64 xm, .string (bs xt)] 47)).cell? ⟨w0.heap.size, 6, none⟩ = some vt := h2.c6
  have hSx : StepsAt (W1.drew.alloc (.cells #[.int .i64 xo, .int .i64 (-1), .int .i64 xa, .int .i64 xn, .int .i64 xm, .string (bs xt)] 47)) (.slice (some ⟨W1.heap.size, 0, none⟩) 1 1) [⟨xo, -1, xa, xn, xm, xt⟩] := StepsAt.new W1.drew 47 [⟨xo, -1, xa, xn, xm, xt⟩] _ rfl
  obtain ⟨o6, c6', rfl⟩ := SliceAt.slice h2.tre
  obtain ⟨X, v, happ, hrows, hadds⟩ := app_sep elem_step h2.tre (cell_oneS _) (SliceAt.source elem_step hSx (cell_oneS _)) (by simp only [List.length_cons, List.length_nil]; omega) (by simp)
  have hE := h2.tree_adds hadds _ (steps_cat _ _ hrows)
  obtain ⟨ov, nv, cv, rfl⟩ : ∃ o n c, v = .slice o n c := by obtain ⟨o, c, e⟩ := SliceAt.slice hrows; exact ⟨_, _, _, e⟩
  have c6X : X.cell? ⟨w0.heap.size, 6, none⟩ = some (.slice o6 s.tree.length c6') := ((hadds.below h2.at_ (by have := h2.lt; omega)).cell (p := ⟨w0.heap.size, 6, none⟩) (show w0.heap.size < w0.heap.size + 1 by omega)).trans h2.c6
  have f6X : X.frozen? ⟨w0.heap.size, 6, none⟩ = false := ((hadds.below h2.at_ (by have := h2.lt; omega)).frozen (p := ⟨w0.heap.size, 6, none⟩) (show w0.heap.size < w0.heap.size + 1 by omega)).trans (h2.fr 6)
  have hlt2 : w.heap.size < (W1.drew.alloc (.cells #[.int .i64 xo, .int .i64 (-1), .int .i64 xa, .int .i64 xn, .int .i64 xm, .string (bs xt)] 47)).heap.size := by rw [World.size_alloc]; show w.heap.size < W1.heap.size + 1; omega
  have hX : StAt X w.heap.size ⟨xo, -1, xa, xn, xm, xt⟩ := same_st ((hSt.go (Below.refl _ _).drew).go hu2) (hadds.keep _ hlt2 (fun a n c e => by
    rcases h.tre with ⟨_, h0⟩ | ⟨b', c2, hs', _, _, hg⟩
    · rw [h0] at e; cases e
    · rw [hs'] at e
      injection e with e1
      injection e1 with e1
      subst e1
      have := hg.2.2
      show b' ≠ _
      omega))
  have hX2 := set_st (b' := w0.heap.size) (j := 6) hX (by omega) (.slice ov nv cv)
  have HE := Lib.hid hE
  clear hE h h1 h2 hrows hadds hSx hu1 hu2 hlt2 hz1
  refine wp_region_held_drew (S := fun v => StAt v w.heap.size ⟨xo, -1, xa, xn, xm, xt⟩) (by kernel_rfl) (StAt.go hSt (Below.refl _ _).drew) (fun hHeld => ?_)
  refine wpAnyH_take (i := 0) (v := ?_) rfl (by kernel_rfl) (by kernel_rfl) (by kernel_rfl) (fun _ _ _ h => h) (Or.inl ⟨by rfl, ?_⟩) hHeld ?_
  rotate_left
  · intro u hSu; obtain ⟨y0, y1, y2, y3, y4, y5⟩ := hSu; dsimp only at y0 y1 y2 y3 y4 y5; go_simp; try with_reducible rfl
  simp only [Act.put, List.setIfInBounds_toArray, List.set_cons_zero, List.set_cons_succ, List.getElem_toArray, List.getElem_cons_succ, List.getElem_cons_zero]
  refine wpAnyH_take (i := 1) (v := ?_) rfl (by kernel_rfl) (by kernel_rfl) (by kernel_rfl) (fun _ _ _ h => h) (Or.inl ⟨by rfl, ?_⟩) hHeld ?_
  rotate_left
  · intro u hSu; obtain ⟨y0, y1, y2, y3, y4, y5⟩ := hSu; dsimp only at y0 y1 y2 y3 y4 y5; go_simp; try with_reducible rfl
  simp only [Act.put, List.setIfInBounds_toArray, List.set_cons_zero, List.set_cons_succ, List.getElem_toArray, List.getElem_cons_succ, List.getElem_cons_zero]
  refine wpAnyH_take (i := 2) (v := ?_) rfl (by kernel_rfl) (by kernel_rfl) (by kernel_rfl) (fun _ _ _ h => h) (Or.inl ⟨by rfl, ?_⟩) hHeld ?_
  rotate_left
  · intro u hSu; obtain ⟨y0, y1, y2, y3, y4, y5⟩ := hSu; dsimp only at y0 y1 y2 y3 y4 y5; go_simp; try with_reducible rfl
  simp only [Act.put, List.setIfInBounds_toArray, List.set_cons_zero, List.set_cons_succ, List.getElem_toArray, List.getElem_cons_succ, List.getElem_cons_zero]
  refine wpAnyH_take (i := 3) (v := ?_) rfl (by kernel_rfl) (by kernel_rfl) (by kernel_rfl) (fun _ _ _ h => h) (Or.inl ⟨by rfl, ?_⟩) hHeld ?_
  rotate_left
  · intro u hSu; obtain ⟨y0, y1, y2, y3, y4, y5⟩ := hSu; dsimp only at y0 y1 y2 y3 y4 y5; go_simp; try with_reducible rfl
  simp only [Act.put, List.setIfInBounds_toArray, List.set_cons_zero, List.set_cons_succ, List.getElem_toArray, List.getElem_cons_succ, List.getElem_cons_zero]
  refine wpAnyH_take (i := 5) (v := ?_) rfl (by kernel_rfl) (by kernel_rfl) (by kernel_rfl) (fun _ _ _ h => h) (Or.inl ⟨by rfl, ?_⟩) hHeld ?_
  rotate_left
  · intro u hSu; obtain ⟨y0, y1, y2, y3, y4, y5⟩ := hSu; dsimp only at y0 y1 y2 y3 y4 y5; go_simp; try with_reducible rfl
  simp only [Act.put, List.setIfInBounds_toArray, List.set_cons_zero, List.set_cons_succ, List.getElem_toArray, List.getElem_cons_succ, List.getElem_cons_zero]
  refine wpAnyH_ready (rs := [4, 6]) (by kernel_rfl) (by simp) ?_
  refine AllReadyH.cons rfl (fun K hK => ?_) ?_
  · skip
    go_simp
    refine hK.out _ _ hHeld (fun hHeld2 => ?_)
    clear hK K hHeld
    have hHeld := hHeld2
    clear hHeld2
    try simp only [Act.put, List.setIfInBounds_toArray, List.set_cons_zero, List.set_cons_succ, List.getElem_toArray, List.getElem_cons_succ, List.getElem_cons_zero]
    refine wpAnyH_ready (rs := [6]) (by kernel_rfl) (by simp) ?_
    refine AllReadyH.cons rfl (fun K hK => ?_) AllReadyH.nil
    go_simp
    refine hK.out _ _ (StAt.go hHeld (alloc_own _ _)) (fun hHeld2 => ?_)
    clear hK K hHeld
    have hHeld := hHeld2
    clear hHeld2
    try simp only [Act.put, List.setIfInBounds_toArray, List.set_cons_zero, List.set_cons_succ, List.getElem_toArray, List.getElem_cons_succ, List.getElem_cons_zero]
    refine wpAnyH_ready (rs := [7]) (by kernel_rfl) (by simp) ?_
    refine AllReadyH.cons rfl (fun K hK => ?_) AllReadyH.nil
    refine step_one (by rfl) (.tmp 9) (.tmp 11) 34 34 rfl happ ?_
    refine hK.out _ _ hX (fun hHeld2 => ?_)
    clear hK K hHeld
    have hHeld := hHeld2
    clear hHeld2
    try simp only [Act.put, List.setIfInBounds_toArray, List.set_cons_zero, List.set_cons_succ, List.getElem_toArray, List.getElem_cons_succ, List.getElem_cons_zero]
    refine wpAnyH_take (i := 8) (v := ?_) rfl (by kernel_rfl) (by kernel_rfl) (by kernel_rfl) (fun _ _ _ h => h) (Or.inl ⟨by rfl, ?_⟩) hHeld ?_
    rotate_left
    · intro u hSu; obtain ⟨y0, y1, y2, y3, y4, y5⟩ := hSu; dsimp only at y0 y1 y2 y3 y4 y5; go_simp; try with_reducible rfl
    simp only [Act.put, List.setIfInBounds_toArray, List.set_cons_zero, List.set_cons_succ, List.getElem_toArray, List.getElem_cons_succ, List.getElem_cons_zero]
    refine wpAnyH_take (i := 9) (v := ?_) rfl (by kernel_rfl) (by kernel_rfl) (by kernel_rfl) (fun _ _ _ h => h) (Or.inl ⟨by rfl, ?_⟩) hHeld ?_
    rotate_left
    · intro u hSu; obtain ⟨y0, y1, y2, y3, y4, y5⟩ := hSu; dsimp only at y0 y1 y2 y3 y4 y5; go_simp; try with_reducible rfl
    simp only [Act.put, List.setIfInBounds_toArray, List.set_cons_zero, List.set_cons_succ, List.getElem_toArray, List.getElem_cons_succ, List.getElem_cons_zero]
    refine wpAnyH_ready (rs := [10]) (by kernel_rfl) (by simp) ?_
    refine AllReadyH.cons rfl (fun K hK => ?_) AllReadyH.nil
    go_simp
    refine hK.out _ _ hX2 (fun hHeld2 => ?_)
    clear hK K hHeld
    have hHeld := hHeld2
    clear hHeld2
    try simp only [Act.put, List.setIfInBounds_toArray, List.set_cons_zero, List.set_cons_succ, List.getElem_toArray, List.getElem_cons_succ, List.getElem_cons_zero]
    refine wpAnyH_done (by kernel_rfl) ?_ _
    clear hHeld
    go_wp2_with fail
    go_end0
    exact ⟨rfl, _, HE.out⟩
  refine AllReadyH.cons rfl (fun K hK => ?_) AllReadyH.nil
  go_simp
  refine hK.out _ _ (StAt.go hHeld (alloc_own _ _)) (fun hHeld2 => ?_)
  clear hK K hHeld
  have hHeld := hHeld2
  clear hHeld2
  try simp only [Act.put, List.setIfInBounds_toArray, List.set_cons_zero, List.set_cons_succ, List.getElem_toArray, List.getElem_cons_succ, List.getElem_cons_zero]
  refine wpAnyH_ready (rs := [4]) (by kernel_rfl) (by simp) ?_
  refine AllReadyH.cons rfl (fun K hK => ?_) AllReadyH.nil
  go_simp
  refine hK.out _ _ hHeld (fun hHeld2 => ?_)
  clear hK K hHeld
  have hHeld := hHeld2
  clear hHeld2
  try simp only [Act.put, List.setIfInBounds_toArray, List.set_cons_zero, List.set_cons_succ, List.getElem_toArray, List.getElem_cons_succ, List.getElem_cons_zero]
  refine wpAnyH_ready (rs := [7]) (by kernel_rfl) (by simp) ?_
  refine AllReadyH.cons rfl (fun K hK => ?_) AllReadyH.nil
  refine step_one (by rfl) (.tmp 9) (.tmp 11) 34 34 rfl happ ?_
  refine hK.out _ _ hX (fun hHeld2 => ?_)
  clear hK K hHeld
  have hHeld := hHeld2
  clear hHeld2
  try simp only [Act.put, List.setIfInBounds_toArray, List.set_cons_zero, List.set_cons_succ, List.getElem_toArray, List.getElem_cons_succ, List.getElem_cons_zero]
  refine wpAnyH_take (i := 8) (v := ?_) rfl (by kernel_rfl) (by kernel_rfl) (by kernel_rfl) (fun _ _ _ h => h) (Or.inl ⟨by rfl, ?_⟩) hHeld ?_
  rotate_left
  · intro u hSu; obtain ⟨y0, y1, y2, y3, y4, y5⟩ := hSu; dsimp only at y0 y1 y2 y3 y4 y5; go_simp; try with_reducible rfl
  simp only [Act.put, List.setIfInBounds_toArray, List.set_cons_zero, List.set_cons_succ, List.getElem_toArray, List.getElem_cons_succ, List.getElem_cons_zero]
  refine wpAnyH_take (i := 9) (v := ?_) rfl (by kernel_rfl) (by kernel_rfl) (by kernel_rfl) (fun _ _ _ h => h) (Or.inl ⟨by rfl, ?_⟩) hHeld ?_
  rotate_left
  · intro u hSu; obtain ⟨y0, y1, y2, y3, y4, y5⟩ := hSu; dsimp only at y0 y1 y2 y3 y4 y5; go_simp; try with_reducible rfl
  simp only [Act.put, List.setIfInBounds_toArray, List.set_cons_zero, List.set_cons_succ, List.getElem_toArray, List.getElem_cons_succ, List.getElem_cons_zero]
  refine wpAnyH_ready (rs := [10]) (by kernel_rfl) (by simp) ?_
  refine AllReadyH.cons rfl (fun K hK => ?_) AllReadyH.nil
  go_simp
  refine hK.out _ _ hX2 (fun hHeld2 => ?_)
  clear hK K hHeld
  have hHeld := hHeld2
  clear hHeld2
  try simp only [Act.put, List.setIfInBounds_toArray, List.set_cons_zero, List.set_cons_succ, List.getElem_toArray, List.getElem_cons_succ, List.getElem_cons_zero]
  refine wpAnyH_done (by kernel_rfl) ?_ _
  clear hHeld
  go_wp2_with fail
  go_end0
  exact ⟨rfl, _, HE.out⟩

end Go.Proofs.YthofogokpolhdaaGreatDoor.Parses

namespace Go.Proofs.YthofogokpolhdaaGreatDoor.Parses
open Go.RowKit Go.Shelf
open Go.Proofs.YthofogokpolhdaaGreatDoor.Trees (Stp StepsAt cellS StAt elem_step cell_oneS)
open Go.Proofs.YthofogokpolhdaaGreatDoor.Toks (Tok ToksAt cellK cell_lt cell_same SliceAt Above Grid Spare Elem elem_of append_any both wpList_app)
open Go.Proofs.YthofogokpolhdaaGreatDoor.Style (bs bs_size bs_at getD_at bs_of)
set_option linter.unusedVariables false
set_option linter.unusedSimpArgs false

theorem RdI.of {w0 : World} {st : Value} {L : List Tok} {size : Int} {pow : Bool} {vm vw vt : Value} {s : Rd} {W : World} (h : RdM w0 st L size pow vm vw vt s W) : RdI w0 st L size pow s W := ⟨vm, vw, vt, h⟩
theorem RdI.of2 {w0 : World} {st : Value} {L : List Tok} {size : Int} {pow : Bool} {vw vt : Value} {s : Rd} {W : World} (h : ∃ vm, RdM w0 st L size pow vm vw vt s W) : RdI w0 st L size pow s W := by
  obtain ⟨vm, h⟩ := h
  exact ⟨vm, vw, vt, h⟩

set_option maxRecDepth 100000 in
set_option maxHeartbeats 2000000 in
theorem open_v (w0 : World) (st : Value) (L : List Tok) (size : Int) (pow : Bool) (vm vw vt : Value) (s : Rd) (w : World) (h : RdM w0 st L size pow vm vw vt s w) (hl : s.waits.length ≤ 1000) :
    Calls Tryz.prog 83 #[.pointer (some ⟨w0.heap.size, 0, none⟩)] w fun e w' => e = .returned (.tuple #[]) ∧ RdI w0 st L size pow (openS s) w' := by
  have hu := alloc_own w (.cells #[.int .i64 0] 3)
  have h1 := h.go hu
  have c4 := h1.c4
  have c4' := h.c4
  have f4 := h.fr 4
  have hone : SliceAt (w.alloc (.cells #[.int .i64 0] 3)) (.slice (some ⟨w.heap.size, 0, none⟩) 1 1) 1 1 (cellI [0]) :=
    Toks.one_slice w 3 1 #[.int .i64 0] (cellI [0]) (fun j hj => by
      have : j = 0 := by omega
      subst this
      rfl) rfl
  obtain ⟨o4, k4, rfl⟩ := SliceAt.slice h1.wts
  obtain ⟨X, v, happ, hrows, hadds⟩ := app_sep elem_int h1.wts (fun i hi j hj => rfl) (SliceAt.source elem_int hone (fun i hi j hj => rfl)) (by omega) (by omega)
  have hE := h1.waits_adds hadds _ (ints_cat _ _ hrows)
  obtain ⟨ov, nv, cv, rfl⟩ : ∃ o n c, v = .slice o n c := by obtain ⟨o, c, e⟩ := SliceAt.slice hrows; exact ⟨_, _, _, e⟩
  have hXb := hadds.below h1.aw (by have := h1.lt; omega)
  have cX : X.cell? ⟨w0.heap.size, 4, none⟩ = some (.slice o4 s.waits.length k4) := (hXb.cell (p := ⟨w0.heap.size, 4, none⟩) (show w0.heap.size < w0.heap.size + 1 by omega)).trans h1.c4
  have fX : X.frozen? ⟨w0.heap.size, 4, none⟩ = false := (hXb.frozen (p := ⟨w0.heap.size, 4, none⟩) (show w0.heap.size < w0.heap.size + 1 by omega)).trans (h1.fr 4)
  have hBO := behindOpen_v w0 st L size pow _ _ _ _ _ hE
  clear hE hrows hadds hXb hone h h1 hu
  go_enter Tryz.func83, Tryz.ntmps83
  go_wp2_with (first | (at_builtin; refine wpList_app rfl _ _ 22 22 rfl happ ?_) | fail)
  refine hBO.mono ?_
  rintro e w2 ⟨rfl, hF⟩
  have HF := Lib.hid (RdI.of2 hF)
  clear hF hBO
  go_wp2_with fail
  go_end0
  exact ⟨rfl, HF.out⟩

/-- The last one that waits. -/
theorem RdM.wait_put {w0 : World} {st : Value} {L : List Tok} {size : Int} {pow : Bool} {vm vw vt : Value} {s : Rd} {W : World} (h : RdM w0 st L size pow vm vw vt s W) {n : Nat} (hn : s.waits.length = n + 1) (op : Int) :
    ∃ b c, vw = .slice (some ⟨b, 0, none⟩) (n + 1) c ∧ W.cell? ⟨b, n, none⟩ = some (.int .i64 (s.waits.getLastD 0)) ∧ W.frozen? ⟨b, n, none⟩ = false ∧ RdM w0 st L size pow vm vw vt { s with waits := s.waits.dropLast ++ [op] } (W.setCell ⟨b, n, none⟩ (.int .i64 op)) := by
  rcases id h.wts with ⟨h0, _⟩ | ⟨b, c, hs, hc, hm, hg⟩
  · omega
  · rw [hn] at hs hc hg
    have hb1 : w0.heap.size + 1 ≤ b := h.aw _ _ _ hs
    have hbm : ∀ a n' c', vm = .slice (some a) n' c' → a.block ≠ b := fun a n' c' e => h.mw _ _ _ _ _ _ e hs
    have hbt : ∀ a n' c', vt = .slice (some a) n' c' → b ≠ a.block := fun a n' c' e => h.wt _ _ _ _ _ _ hs e
    have hlast : s.waits.getLastD 0 = s.waits.getD n 0 := by
      rw [List.getLastD_eq_getLast?, List.getLast?_eq_getElem?, hn, List.getD_eq_getElem?_getD]; rfl
    have c0 := hg.1 n (by omega) 0 (by omega)
    rw [Nat.mul_one, Nat.add_zero] at c0
    have hO : Toks.Only b W (W.setCell ⟨b, n, none⟩ (.int .i64 op)) := (Toks.Only.refl b W).set n _
    have hB := hO.below (B := w0.heap.size + 1) hb1
    have hs' : ∀ j u, W.cell? ⟨w0.heap.size, j, none⟩ = some u → (W.setCell ⟨b, n, none⟩ (.int .i64 op)).cell? ⟨w0.heap.size, j, none⟩ = some u := fun j u hu => (hB.cell (p := ⟨w0.heap.size, j, none⟩) (show w0.heap.size < w0.heap.size + 1 by omega)).trans hu
    have hoth : ∀ {v : Value} {k m : Nat} {f : Nat → Nat → Value}, SliceAt W v k m f → (∀ a n' c', v = .slice (some a) n' c' → a.block ≠ b) → SliceAt (W.setCell ⟨b, n, none⟩ (.int .i64 op)) v k m f := by
      intro v k m f hv hne
      rcases hv with hv | ⟨b', c', hs2, hc2, hm2, hg2⟩
      · exact .inl hv
      · have := hne _ _ _ hs2
        exact .inr ⟨b', c', hs2, hc2, hm2.set _ _ _, hg2.other _ _ _ (Ne.symm this)⟩
    refine ⟨b, c, hs, by rw [hlast]; exact c0, hg.2.1 n, ⟨h.below.trans (hB.mono (by omega)), hs' _ _ h.c0, hs' _ _ h.c1, hs' _ _ h.c2, hs' _ _ h.c3, hs' _ _ h.c4, hs' _ _ h.c5, hs' _ _ h.c6, fun j => by rw [World.frozen?_setCell]; exact h.fr j, h.toks, hoth h.lay hbm, ?_, hoth h.tre (fun a n' c' e => Ne.symm (hbt a n' c' e)), h.am, h.aw, h.at_, h.mw, h.mt, h.wt⟩⟩
    have hlen : (s.waits.dropLast ++ [op]).length = n + 1 := by rw [List.length_append, List.length_dropLast, hn]; simp
    have hgs := hg.set n 0 (by omega) (by omega) (.int .i64 op)
    rw [Nat.mul_one, Nat.add_zero] at hgs
    refine .inr ⟨b, c, by rw [hlen]; exact hs, by rw [hlen]; exact hc, hm.set _ _ _, ?_⟩
    rw [hlen]
    refine hgs.ext (fun i hi j hj => ?_)
    unfold Toks.upd cellI
    by_cases hin : i = n ∧ j = 0
    · rw [if_pos hin, hin.1]
      rw [List.getD_eq_getElem?_getD, List.getElem?_append_right (by rw [List.length_dropLast, hn]; omega), List.length_dropLast, hn]
      simp
    · have hin' : i < n := by omega
      rw [if_neg hin, List.getD_eq_getElem?_getD, List.getD_eq_getElem?_getD, List.getElem?_append_left (by rw [List.length_dropLast, hn]; omega), List.getElem?_dropLast, if_pos (by rw [hn]; omega)]

set_option maxRecDepth 100000 in
set_option maxHeartbeats 2000000 in
theorem wait_v (op : Int) (w0 : World) (st : Value) (L : List Tok) (size : Int) (pow : Bool) (vm vw vt : Value) (s : Rd) (w : World) (h : RdM w0 st L size pow vm vw vt s w) (n : Nat) (hn : s.waits.length = n + 1) (hl : n ≤ 1000) :
    Calls Tryz.prog 131 #[.pointer (some ⟨w0.heap.size, 0, none⟩), .int .i64 op] w fun e w' => e = .returned (.tuple #[]) ∧ RdI w0 st L size pow (waitS s op) w' := by
  have hli : (n : Int) ≤ 1000 := by omega
  have h1 := h.go (Below.refl _ _).drew
  obtain ⟨b, c, rfl, x1, x2, hE⟩ := h1.wait_put hn op
  have c4 := h.c4
  have hBO := behindOperator_v w0 st L size pow _ _ _ _ _ hE
  have hnn : ((n + 1 : Nat) : Int) - 1 = (n : Int) := by omega
  have hng : (0 : Int) ≤ ((n + 1 : Nat) : Int) - 1 := by omega
  have hnl : ((n + 1 : Nat) : Int) - 1 < ((n + 1 : Nat) : Int) := by omega
  generalize s.waits.getLastD 0 = wl at *
  clear hE h h1
  go_enter Tryz.func131, Tryz.ntmps131
  go_upto_region 0 with fail
  go_still_tail 11, (by kernel_rfl)
  change wpList _ _ _ _ _ w.drew
  go_wp2_with fail
  refine hBO.mono ?_
  rintro e w2 ⟨rfl, hF⟩
  have HF := Lib.hid (RdI.of2 hF)
  clear hF hBO
  go_wp2_with fail
  go_end0
  exact ⟨rfl, HF.out⟩

end Go.Proofs.YthofogokpolhdaaGreatDoor.Parses

namespace Go.Proofs.YthofogokpolhdaaGreatDoor.Parses
open Go.RowKit Go.Shelf
open Go.Proofs.YthofogokpolhdaaGreatDoor.Trees (Stp StepsAt cellS StAt elem_step cell_oneS)
open Go.Proofs.YthofogokpolhdaaGreatDoor.Toks (Tok ToksAt cellK cell_lt cell_same SliceAt Above Grid Spare Elem elem_of append_any both wpList_app)
open Go.Proofs.YthofogokpolhdaaGreatDoor.Style (bs bs_size bs_at getD_at bs_of)
set_option linter.unusedVariables false
set_option linter.unusedSimpArgs false

theorem drewN_b {W : World} (m : Nat) : Below W.heap.size W (W.drewN m) := ⟨rfl, rfl, rfl, Nat.le_refl _, fun _ _ => rfl⟩

set_option maxRecDepth 100000 in
set_option maxHeartbeats 2000000 in
theorem behindSymbol_v (w0 : World) (st : Value) (L : List Tok) (size : Int) (pow : Bool) (vm vw vt : Value) (s : Rd) (w : World) (h : RdM w0 st L size pow vm vw vt s w) :
    Calls Tryz.prog 133 #[.pointer (some ⟨w0.heap.size, 0, none⟩)] w fun e w' => e = .returned (.tuple #[]) ∧ RdI w0 st L size pow (mayS s (if pow = true then 2 else 3)) w' := by
  have hlt := h.lt
  have hu1 : Below w.heap.size w (w.alloc (.cells #[.func (.func 149) #[.pointer (some ⟨w0.heap.size, 0, none⟩)] #[], .func (.func 150) #[.pointer (some ⟨w0.heap.size, 0, none⟩)] #[], .func (.func 151) #[.pointer (some ⟨w0.heap.size, 0, none⟩)] #[], .func (.func 152) #[.pointer (some ⟨w0.heap.size, 0, none⟩)] #[], .func (.func 153) #[.pointer (some ⟨w0.heap.size, 0, none⟩)] #[]] 85)) := (Below.refl _ _).alloc (Nat.le_refl _) _
  have hl1 : SliceAt (w.alloc (.cells #[.func (.func 149) #[.pointer (some ⟨w0.heap.size, 0, none⟩)] #[], .func (.func 150) #[.pointer (some ⟨w0.heap.size, 0, none⟩)] #[], .func (.func 151) #[.pointer (some ⟨w0.heap.size, 0, none⟩)] #[], .func (.func 152) #[.pointer (some ⟨w0.heap.size, 0, none⟩)] #[], .func (.func 153) #[.pointer (some ⟨w0.heap.size, 0, none⟩)] #[]] 85)) (.slice (some ⟨w.heap.size, 0, none⟩) 5 5) 1 5 (cellF w0.heap.size (rowOf 2)) := by
    refine .inr ⟨w.heap.size, 5, rfl, Nat.le_refl _, fun j hj => ?_, fun i hi j hj => ?_, fun j => by simp [go_sem], by rw [World.size_alloc]; omega⟩
    · have hj' : j < 5 := by omega
      match j, hj' with
      | 0, _ => simp [go_sem]
      | 1, _ => simp [go_sem]
      | 2, _ => simp [go_sem]
      | 3, _ => simp [go_sem]
      | 4, _ => simp [go_sem]
    · have : j = 0 := by omega
      subst this
      match i, hi with
      | 0, _ => simp [go_sem, cellF, rowOf, fnOf]
      | 1, _ => simp [go_sem, cellF, rowOf, fnOf]
      | 2, _ => simp [go_sem, cellF, rowOf, fnOf]
      | 3, _ => simp [go_sem, cellF, rowOf, fnOf]
      | 4, _ => simp [go_sem, cellF, rowOf, fnOf]
  have hA1 : Above (w0.heap.size + 1) (.slice (some ⟨w.heap.size, 0, none⟩) 5 5) := fun a n c e => by injection e with e; injection e with e; subst e; exact hlt
  have hask1 := ask_v _ w0 st L size pow vm vw vt s _ (h.go hu1) ⟨_, _, _, rfl⟩ 2 hl1 hA1 (apart_new h.wts _ _ _ (Nat.le_refl _)).1 (apart_new h.tre _ _ _ (Nat.le_refl _)).1
  have hu2 : Below w.heap.size w (w.alloc (.cells #[.func (.func 154) #[.pointer (some ⟨w0.heap.size, 0, none⟩)] #[], .func (.func 155) #[.pointer (some ⟨w0.heap.size, 0, none⟩)] #[], .func (.func 150) #[.pointer (some ⟨w0.heap.size, 0, none⟩)] #[], .func (.func 151) #[.pointer (some ⟨w0.heap.size, 0, none⟩)] #[], .func (.func 152) #[.pointer (some ⟨w0.heap.size, 0, none⟩)] #[], .func (.func 153) #[.pointer (some ⟨w0.heap.size, 0, none⟩)] #[]] 85)) := (Below.refl _ _).alloc (Nat.le_refl _) _
  have hl2 : SliceAt (w.alloc (.cells #[.func (.func 154) #[.pointer (some ⟨w0.heap.size, 0, none⟩)] #[], .func (.func 155) #[.pointer (some ⟨w0.heap.size, 0, none⟩)] #[], .func (.func 150) #[.pointer (some ⟨w0.heap.size, 0, none⟩)] #[], .func (.func 151) #[.pointer (some ⟨w0.heap.size, 0, none⟩)] #[], .func (.func 152) #[.pointer (some ⟨w0.heap.size, 0, none⟩)] #[], .func (.func 153) #[.pointer (some ⟨w0.heap.size, 0, none⟩)] #[]] 85)) (.slice (some ⟨w.heap.size, 0, none⟩) 6 6) 1 6 (cellF w0.heap.size (rowOf 3)) := by
    refine .inr ⟨w.heap.size, 6, rfl, Nat.le_refl _, fun j hj => ?_, fun i hi j hj => ?_, fun j => by simp [go_sem], by rw [World.size_alloc]; omega⟩
    · have hj' : j < 6 := by omega
      match j, hj' with
      | 0, _ => simp [go_sem]
      | 1, _ => simp [go_sem]
      | 2, _ => simp [go_sem]
      | 3, _ => simp [go_sem]
      | 4, _ => simp [go_sem]
      | 5, _ => simp [go_sem]
    · have : j = 0 := by omega
      subst this
      match i, hi with
      | 0, _ => simp [go_sem, cellF, rowOf, fnOf]
      | 1, _ => simp [go_sem, cellF, rowOf, fnOf]
      | 2, _ => simp [go_sem, cellF, rowOf, fnOf]
      | 3, _ => simp [go_sem, cellF, rowOf, fnOf]
      | 4, _ => simp [go_sem, cellF, rowOf, fnOf]
      | 5, _ => simp [go_sem, cellF, rowOf, fnOf]
  have hA2 : Above (w0.heap.size + 1) (.slice (some ⟨w.heap.size, 0, none⟩) 6 6) := fun a n c e => by injection e with e; injection e with e; subst e; exact hlt
  have hask2 := ask_v _ w0 st L size pow vm vw vt s _ (h.go hu2) ⟨_, _, _, rfl⟩ 3 hl2 hA2 (apart_new h.wts _ _ _ (Nat.le_refl _)).1 (apart_new h.tre _ _ _ (Nat.le_refl _)).1
  have c2 := h.c2
  clear h hl1 hl2 hA1 hA2 hu1 hu2
  cases pow with
  | true =>
    go_enter Tryz.func133, Tryz.ntmps133
    go_wp2_with fail
    refine hask1.mono ?_
    rintro e w2 ⟨rfl, hE⟩
    have HE := Lib.hid (RdI.of hE)
    clear hE hask1 hask2
    go_wp2_with fail
    first | go_end0 | refine bodyPost_ret (results_none rfl _ _ _) rfl ?_
    exact ⟨rfl, HE.out⟩
  | false =>
    go_enter Tryz.func133, Tryz.ntmps133
    go_wp2_with fail
    refine hask2.mono ?_
    rintro e w2 ⟨rfl, hE⟩
    have HE := Lib.hid (RdI.of hE)
    clear hE hask1 hask2
    go_wp2_with fail
    go_end0
    exact ⟨rfl, HE.out⟩

theorem RdM.last {w0 : World} {st : Value} {L : List Tok} {size : Int} {pow : Bool} {vm vw vt : Value} {s : Rd} {W : World} (h : RdM w0 st L size pow vm vw vt s W) {n : Nat} (hn : s.waits.length = n + 1) :
    ∃ b c, vw = .slice (some ⟨b, 0, none⟩) (n + 1) c ∧ W.cell? ⟨b, n, none⟩ = some (.int .i64 (s.waits.getLastD 0)) := by
  obtain ⟨b, c, h1, h2, _⟩ := h.wait_put hn 0
  exact ⟨b, c, h1, h2⟩

set_option maxRecDepth 100000 in
set_option maxHeartbeats 2000000 in
theorem close_v (w0 : World) (st : Value) (L : List Tok) (size : Int) (pow : Bool) (vm vw vt : Value) (s : Rd) (w : World) (h : RdM w0 st L size pow vm vw vt s w) (n : Nat) (hn : s.waits.length = n + 1) (hl : n ≤ 1000) (ht : s.tree.length ≤ 1000) :
    Calls Tryz.prog 165 #[.pointer (some ⟨w0.heap.size, 0, none⟩)] w fun e w' => e = .returned (.tuple #[]) ∧ RdI w0 st L size pow (closeS s) w' := by
  obtain ⟨b, c, rfl, x1⟩ := h.last hn
  have hli : (n : Int) ≤ 1000 := by omega
  have hput := fun (k : Nat) => put_v (s.waits.getLastD 0) 0 0 0 0 [] w0 st L size pow _ _ _ _ _ (h.go (drewN_b (W := w) k)) ht
  have c4 := h.c4
  have hno : s.waits.getLastD 0 = 0 → ∀ k, Hid (RdI w0 st L size pow (closeS s) (w.drewN k)) := fun e k => by
    show RdI _ _ _ _ _ _ _
    unfold closeS
    rw [if_pos e]
    exact RdI.of (h.go (drewN_b k))
  have hyes : s.waits.getLastD 0 ≠ 0 → Hid (closeS s = putS s (opStep (s.waits.getLastD 0))) := fun e => by
    show _ = _
    unfold closeS
    rw [if_neg e]
  generalize s.waits.getLastD 0 = wl at *
  clear h
  go_enter Tryz.func165, Tryz.ntmps165
  go_upto_region 0 with fail
  go_quiet (fail)
  by_cases e0 : wl = 0
  · have HN := hno e0 nq
    subst e0
    clear hput hyes hno
    go_wp2_with fail
    go_end0
    exact ⟨rfl, HN.out⟩
  · have HY := hyes e0
    have hp := hput nq
    clear hput hyes hno
    have eb : (wl == 0) = false := by simpa using e0
    go_wp2_with fail
    refine hp.mono ?_
    rintro e w2 ⟨rfl, v, hE⟩
    have HE := Lib.hid (RdI.of hE)
    clear hE hp
    go_wp2_with fail
    go_end0
    refine ⟨rfl, ?_⟩
    rw [HY.out]
    exact HE.out

end Go.Proofs.YthofogokpolhdaaGreatDoor.Parses

namespace Go.Proofs.YthofogokpolhdaaGreatDoor.Parses
open Go.RowKit Go.Shelf
open Go.Proofs.YthofogokpolhdaaGreatDoor.Trees (Stp StepsAt cellS StAt elem_step cell_oneS)
open Go.Proofs.YthofogokpolhdaaGreatDoor.Toks (Tok ToksAt cellK cell_lt cell_same SliceAt Above Grid Spare Elem elem_of append_any both wpList_app)
open Go.Proofs.YthofogokpolhdaaGreatDoor.Style (bs bs_size bs_at getD_at bs_of)
set_option linter.unusedVariables false
set_option linter.unusedSimpArgs false

/-- What a panic tells. -/
def refV (err at_ len : Int) : Value := .iface 101 (.agg #[.slice none 0 0, .int .i64 err, .int .i64 at_, .int .i64 len])
/-- How one that is asked answers. -/
def Took (w0 : World) (st : Value) (L : List Tok) (size : Int) (pow : Bool) (s : Rd) (i : Nat) (w : World) (g : Got) (e : Ending) (W : World) : Prop :=
  match g with
  | .go s' => e = .returned (.bool true) ∧ RdI w0 st L size pow s' W
  | .no => e = .returned (.bool false) ∧ w = W
  | .deep => e = .panicked [{ v := refV 13 (placeG L size i) 0, recovered := false }] ∧ RdI w0 st L size pow s W

set_option maxRecDepth 100000 in
set_option maxHeartbeats 2000000 in
theorem inverse_t (i : Nat) (w0 : World) (st : Value) (L : List Tok) (size : Int) (pow : Bool) (vm vw vt : Value) (s : Rd) (w : World) (h : RdM w0 st L size pow vm vw vt s w) (hL : L.length ≤ 1000) (n : Nat) (hn : s.waits.length = n + 1) (hl : n ≤ 32) (ht : s.tree.length ≤ 990) :
    Calls Tryz.prog 116 #[.pointer (some ⟨w0.heap.size, 0, none⟩), .int .i64 (i : Int)] w (Took w0 st L size pow s i w (inverseG L i s)) := by
  have hI := RdI.of h
  have hk := is_v i 5 w0 st L size pow vm vw vt s w h hL
  cases hc : isK L i 5 with
  | false =>
    rw [hc] at hk
    have HG : Hid (inverseG L i s = .no) := by show _ = _; unfold inverseG; simp [hc]
    rw [HG.out]
    have HI := Lib.hid hI
    clear hI h hc HG
    go_enter Tryz.func116, Tryz.ntmps116
    go_wp2_with fail
    refine hk.mono ?_
    rintro e w2 ⟨rfl, rfl⟩
    clear hk
    go_wp2_with fail
    go_ret
    exact ⟨rfl, rfl⟩
  | true =>
    rw [hc] at hk
    have HG : Hid (inverseG L i s = .go (waitS s 5)) := by show _ = _; unfold inverseG; simp [hc]
    rw [HG.out]
    clear HG
    have hw := wait_v 5 w0 st L size pow vm vw vt s w h n hn (by omega)
    clear hI h hc
    go_enter Tryz.func116, Tryz.ntmps116
    go_wp2_with fail
    refine hk.mono ?_
    rintro e w2 ⟨rfl, rfl⟩
    clear hk
    go_wp2_with fail
    refine hw.mono ?_
    rintro e w3 ⟨rfl, hE⟩
    clear hw
    have HE := Lib.hid hE
    clear hE
    go_wp2_with fail
    go_ret
    exact ⟨rfl, HE.out⟩

set_option maxRecDepth 100000 in
set_option maxHeartbeats 2000000 in
theorem raise_t (i : Nat) (w0 : World) (st : Value) (L : List Tok) (size : Int) (pow : Bool) (vm vw vt : Value) (s : Rd) (w : World) (h : RdM w0 st L size pow vm vw vt s w) (hL : L.length ≤ 1000) (n : Nat) (hn : s.waits.length = n + 1) (hl : n ≤ 32) (ht : s.tree.length ≤ 990) :
    Calls Tryz.prog 149 #[.pointer (some ⟨w0.heap.size, 0, none⟩), .int .i64 (i : Int)] w (Took w0 st L size pow s i w (raiseG L i s)) := by
  have hI := RdI.of h
  have hk := is_v i 6 w0 st L size pow vm vw vt s w h hL
  cases hc : isK L i 6 with
  | false =>
    rw [hc] at hk
    have HG : Hid (raiseG L i s = .no) := by show _ = _; unfold raiseG; simp [hc]
    rw [HG.out]
    have HI := Lib.hid hI
    clear hI h hc HG
    go_enter Tryz.func149, Tryz.ntmps149
    go_wp2_with fail
    refine hk.mono ?_
    rintro e w2 ⟨rfl, rfl⟩
    clear hk
    go_wp2_with fail
    go_ret
    exact ⟨rfl, rfl⟩
  | true =>
    rw [hc] at hk
    have HG : Hid (raiseG L i s = .go (mayS s 4)) := by show _ = _; unfold raiseG; simp [hc]
    rw [HG.out]
    clear HG
    have hw := behindPow_v w0 st L size pow vm vw vt s w h
    clear hI h hc
    go_enter Tryz.func149, Tryz.ntmps149
    go_wp2_with fail
    refine hk.mono ?_
    rintro e w2 ⟨rfl, rfl⟩
    clear hk
    go_wp2_with fail
    refine hw.mono ?_
    rintro e w3 ⟨rfl, hE0⟩
    have hE := RdI.of2 hE0
    clear hw hE0
    have HE := Lib.hid hE
    clear hE
    go_wp2_with fail
    go_ret
    exact ⟨rfl, HE.out⟩

set_option maxRecDepth 100000 in
set_option maxHeartbeats 2000000 in
theorem symbol_t (i : Nat) (w0 : World) (st : Value) (L : List Tok) (size : Int) (pow : Bool) (vm vw vt : Value) (s : Rd) (w : World) (h : RdM w0 st L size pow vm vw vt s w) (hL : L.length ≤ 1000) (n : Nat) (hn : s.waits.length = n + 1) (hl : n ≤ 32) (ht : s.tree.length ≤ 990) :
    Calls Tryz.prog 117 #[.pointer (some ⟨w0.heap.size, 0, none⟩), .int .i64 (i : Int)] w (Took w0 st L size pow s i w (symbolG pow L i s)) := by
  have hI := RdI.of h
  have hk := is_v i 1 w0 st L size pow vm vw vt s w h hL
  cases hc : isK L i 1 with
  | false =>
    rw [hc] at hk
    have HG : Hid (symbolG pow L i s = .no) := by show _ = _; unfold symbolG; simp [hc]
    rw [HG.out]
    have HI := Lib.hid hI
    clear hI h hc HG
    go_enter Tryz.func117, Tryz.ntmps117
    go_wp2_with fail
    refine hk.mono ?_
    rintro e w2 ⟨rfl, rfl⟩
    clear hk
    go_wp2_with fail
    go_ret
    exact ⟨rfl, rfl⟩
  | true =>
    rw [hc] at hk
    have HG : Hid (symbolG pow L i s = .go (mayS { putS s ⟨2, -1, (i : Int), 1, 0, []⟩ with below := false } (if pow = true then 2 else 3))) := by show _ = _; unfold symbolG; rw [if_pos hc]; rfl
    rw [HG.out]
    clear HG
    have hp := put_v 2 0 (i : Int) 1 0 [] w0 st L size pow vm vw vt s w h (by omega)
    have hbS := fun a b c q W (hM : RdM w0 st L size pow a b c q W) => behindSymbol_v w0 st L size pow a b c q W hM
    generalize (if pow = true then 2 else 3) = kk at hbS ⊢
    clear hI h hc
    go_enter Tryz.func117, Tryz.ntmps117
    go_wp2_with fail
    refine hk.mono ?_
    rintro e w2 ⟨rfl, rfl⟩
    clear hk
    go_wp2_with fail
    refine hp.mono ?_
    rintro e w3 ⟨rfl, v, hM⟩
    have hM2 := hM.sign false
    have hb := hbS _ _ _ _ _ hM2
    have c5 := hM.c5
    have f5 := hM.fr 5
    clear hp hM hM2 hbS
    go_wp2_with fail
    refine hb.mono ?_
    rintro e w4 ⟨rfl, hE⟩
    clear hb
    have HE := Lib.hid hE
    clear hE
    go_wp2_with fail
    go_ret
    exact ⟨rfl, HE.out⟩

set_option maxRecDepth 100000 in
set_option maxHeartbeats 2000000 in
theorem noted_t (op : Int) (i : Nat) (w0 : World) (st : Value) (L : List Tok) (size : Int) (pow : Bool) (vm vw vt : Value) (s : Rd) (w : World) (h : RdM w0 st L size pow vm vw vt s w) (hL : L.length ≤ 1000) (n : Nat) (hn : s.waits.length = n + 1) (hl : n ≤ 32) (ht : s.tree.length ≤ 990) :
    Calls Tryz.prog 136 #[.pointer (some ⟨w0.heap.size, 0, none⟩), .int .i64 (i : Int), .int .i64 op] w (Took w0 st L size pow s i w (notedG L i s op)) := by
  have hI := RdI.of h
  have hk := is_v i 9 w0 st L size pow vm vw vt s w h hL
  cases hc : isK L i 9 with
  | false =>
    rw [hc] at hk
    have HG : Hid (notedG L i s op = .no) := by show _ = _; unfold notedG; simp [hc]
    rw [HG.out]
    have HI := Lib.hid hI
    clear hI h hc HG
    go_enter Tryz.func136, Tryz.ntmps136
    go_wp2_with fail
    refine hk.mono ?_
    rintro e w2 ⟨rfl, rfl⟩
    clear hk
    go_wp2_with fail
    go_ret
    exact ⟨rfl, rfl⟩
  | true =>
    rw [hc] at hk
    have hii : i < L.length := by unfold isK at hc; rw [Bool.and_eq_true] at hc; exact of_decide_eq_true hc.1
    obtain ⟨b, c, rfl, t0, t1, t2, t3⟩ := h.tok hii
    have hiI : (i : Int) < L.length := by omega
    have hLI : (L.length : Int) ≤ 1000 := by omega
    have c0 := h.c0
    have HG : Hid (notedG L i s op = .go (mayS (putS s ⟨op, -1, 0, 0, 0, (L.getD i default).text⟩) 7)) := by show _ = _; unfold notedG; simp [hc]
    rw [HG.out]
    clear HG
    generalize (L.getD i default).text = tx at *
    have hp := put_v op 0 0 0 0 tx w0 _ L size pow vm vw vt s w h (by omega)
    clear t0 t1 t3
    clear hI h hc
    go_enter Tryz.func136, Tryz.ntmps136
    go_wp2_with fail
    refine hk.mono ?_
    rintro e w2 ⟨rfl, rfl⟩
    clear hk
    go_wp2_with fail
    refine hp.mono ?_
    rintro e w3 ⟨rfl, v, hM⟩
    have hb := behindNote_v w0 _ L size pow _ _ _ _ _ hM
    clear hp hM c0 t2
    go_wp2_with fail
    refine hb.mono ?_
    rintro e w4 ⟨rfl, hE0⟩
    have hE := RdI.of2 hE0
    clear hb hE0
    have HE := Lib.hid hE
    clear hE
    go_wp2_with fail
    go_ret
    exact ⟨rfl, HE.out⟩

set_option maxRecDepth 100000 in
theorem alone_t (i : Nat) (w0 : World) (st : Value) (L : List Tok) (size : Int) (pow : Bool) (vm vw vt : Value) (s : Rd) (w : World) (h : RdM w0 st L size pow vm vw vt s w) (hL : L.length ≤ 1000) (n : Nat) (hn : s.waits.length = n + 1) (hl : n ≤ 32) (ht : s.tree.length ≤ 990) :
    Calls Tryz.prog 120 #[.pointer (some ⟨w0.heap.size, 0, none⟩), .int .i64 (i : Int)] w (Took w0 st L size pow s i w (notedG L i s 7)) := by
  have hN := noted_t 7 i w0 st L size pow vm vw vt s w h hL n hn hl ht
  have key : ∀ e W, Took w0 st L size pow s i w (notedG L i s 7) e W → ∃ b, e = .returned (.bool b) ∧ Took w0 st L size pow s i w (notedG L i s 7) (.returned (.bool b)) W := by
    intro e W hT
    unfold notedG at hT ⊢
    split at hT
    · obtain ⟨rfl, h2⟩ := hT
      exact ⟨true, rfl, by rw [if_pos (by assumption)]; exact ⟨rfl, h2⟩⟩
    · obtain ⟨rfl, h2⟩ := hT
      exact ⟨false, rfl, by rw [if_neg (by assumption)]; exact ⟨rfl, h2⟩⟩
  clear h
  go_enter Tryz.func120, Tryz.ntmps120
  go_wp2_with fail
  refine hN.mono ?_
  intro e w2 hT
  obtain ⟨b, rfl, hT2⟩ := key e w2 hT
  have HT := Lib.hid hT2
  clear hT hT2 key hN
  go_wp2_with fail
  go_ret
  exact HT.out

set_option maxRecDepth 100000 in
theorem note_t (i : Nat) (w0 : World) (st : Value) (L : List Tok) (size : Int) (pow : Bool) (vm vw vt : Value) (s : Rd) (w : World) (h : RdM w0 st L size pow vm vw vt s w) (hL : L.length ≤ 1000) (n : Nat) (hn : s.waits.length = n + 1) (hl : n ≤ 32) (ht : s.tree.length ≤ 990) :
    Calls Tryz.prog 150 #[.pointer (some ⟨w0.heap.size, 0, none⟩), .int .i64 (i : Int)] w (Took w0 st L size pow s i w (notedG L i s 6)) := by
  have hN := noted_t 6 i w0 st L size pow vm vw vt s w h hL n hn hl ht
  have key : ∀ e W, Took w0 st L size pow s i w (notedG L i s 6) e W → ∃ b, e = .returned (.bool b) ∧ Took w0 st L size pow s i w (notedG L i s 6) (.returned (.bool b)) W := by
    intro e W hT
    unfold notedG at hT ⊢
    split at hT
    · obtain ⟨rfl, h2⟩ := hT
      exact ⟨true, rfl, by rw [if_pos (by assumption)]; exact ⟨rfl, h2⟩⟩
    · obtain ⟨rfl, h2⟩ := hT
      exact ⟨false, rfl, by rw [if_neg (by assumption)]; exact ⟨rfl, h2⟩⟩
  clear h
  go_enter Tryz.func150, Tryz.ntmps150
  go_wp2_with fail
  refine hN.mono ?_
  intro e w2 hT
  obtain ⟨b, rfl, hT2⟩ := key e w2 hT
  have HT := Lib.hid hT2
  clear hT hT2 key hN
  go_wp2_with fail
  go_ret
  exact HT.out

set_option maxRecDepth 100000 in
set_option maxHeartbeats 2000000 in
theorem number_t (i : Nat) (w0 : World) (st : Value) (L : List Tok) (size : Int) (pow : Bool) (vm vw vt : Value) (s : Rd) (w : World) (h : RdM w0 st L size pow vm vw vt s w) (hL : L.length ≤ 1000) (n : Nat) (hn : s.waits.length = n + 1) (hl : n ≤ 32) (ht : s.tree.length ≤ 990) :
    Calls Tryz.prog 118 #[.pointer (some ⟨w0.heap.size, 0, none⟩), .int .i64 (i : Int)] w (Took w0 st L size pow s i w (numberG L i s)) := by
  have hI := RdI.of h
  have hk := is_v i 2 w0 st L size pow vm vw vt s w h hL
  cases hc : isK L i 2 with
  | false =>
    rw [hc] at hk
    have HG : Hid (numberG L i s = .no) := by show _ = _; unfold numberG; simp [hc]
    rw [HG.out]
    have HI := Lib.hid hI
    clear hI h hc HG
    go_enter Tryz.func118, Tryz.ntmps118
    go_wp2_with fail
    refine hk.mono ?_
    rintro e w2 ⟨rfl, rfl⟩
    clear hk
    go_wp2_with fail
    go_ret
    exact ⟨rfl, rfl⟩
  | true =>
    rw [hc] at hk
    have hii : i < L.length := by unfold isK at hc; rw [Bool.and_eq_true] at hc; exact of_decide_eq_true hc.1
    obtain ⟨b, c, rfl, t0, t1, t2, t3⟩ := h.tok hii
    have hiI : (i : Int) < L.length := by omega
    have hLI : (L.length : Int) ≤ 1000 := by omega
    have c0 := h.c0
    by_cases hnum : 1 ≤ (L.getD i default).num
    · have HG : Hid (numberG L i s = .go (mayS (putS s ⟨1, -1, 0, 0, (L.getD i default).num, []⟩) 6)) := by show _ = _; unfold numberG; rw [if_pos ⟨hc, hnum⟩]
      rw [HG.out]
      clear HG
      generalize (L.getD i default).num = nm at *
      have hp := put_v 1 0 0 0 nm [] w0 _ L size pow vm vw vt s w h (by omega)
      have hn1 : ¬ nm < 1 := by omega
      clear hI h hc t0 t1 t2
      go_enter Tryz.func118, Tryz.ntmps118
      go_wp2_with fail
      refine hk.mono ?_
      rintro e w2 ⟨rfl, rfl⟩
      clear hk
      go_wp2_with fail
      refine hp.mono ?_
      rintro e w3 ⟨rfl, v, hM⟩
      have hb := behindBase_v w0 _ L size pow _ _ _ _ _ hM
      clear hp hM c0 t3
      go_wp2_with fail
      refine hb.mono ?_
      rintro e w4 ⟨rfl, hE0⟩
      have HE := Lib.hid (RdI.of2 hE0)
      clear hb hE0
      go_wp2_with fail
      go_ret
      exact ⟨rfl, HE.out⟩
    · have HG : Hid (numberG L i s = .no) := by show _ = _; unfold numberG; rw [if_neg (fun h => hnum h.2)]
      rw [HG.out]
      have HI := Lib.hid hI
      generalize (L.getD i default).num = nm at *
      have hn1 : nm < 1 := by omega
      clear hI h hc t0 t1 t2 HG hnum
      go_enter Tryz.func118, Tryz.ntmps118
      go_wp2_with fail
      refine hk.mono ?_
      rintro e w2 ⟨rfl, rfl⟩
      clear hk
      go_wp2_with fail
      go_ret
      exact ⟨rfl, rfl⟩

set_option maxRecDepth 100000 in
set_option maxHeartbeats 2000000 in
theorem sign_t (i : Nat) (w0 : World) (st : Value) (L : List Tok) (size : Int) (pow : Bool) (vm vw vt : Value) (s : Rd) (w : World) (h : RdM w0 st L size pow vm vw vt s w) (hL : L.length ≤ 1000) (n : Nat) (hn : s.waits.length = n + 1) (hl : n ≤ 32) (ht : s.tree.length ≤ 990) :
    Calls Tryz.prog 154 #[.pointer (some ⟨w0.heap.size, 0, none⟩), .int .i64 (i : Int)] w (Took w0 st L size pow s i w (signG L i s)) := by
  have hI := RdI.of h
  have hk := is_v i 3 w0 st L size pow vm vw vt s w h hL
  cases hc : isK L i 3 with
  | false =>
    rw [hc] at hk
    have HG : Hid (signG L i s = .no) := by show _ = _; unfold signG; simp [hc]
    rw [HG.out]
    have HI := Lib.hid hI
    clear hI h hc HG
    go_enter Tryz.func154, Tryz.ntmps154
    go_wp2_with fail
    refine hk.mono ?_
    rintro e w2 ⟨rfl, rfl⟩
    clear hk
    go_wp2_with fail
    go_ret
    exact ⟨rfl, rfl⟩
  | true =>
    rw [hc] at hk
    have hii : i < L.length := by unfold isK at hc; rw [Bool.and_eq_true] at hc; exact of_decide_eq_true hc.1
    obtain ⟨b, c, rfl, t0, t1, t2, t3⟩ := h.tok hii
    have hiI : (i : Int) < L.length := by omega
    have hLI : (L.length : Int) ≤ 1000 := by omega
    have c0 := h.c0
    have c5 := h.c5
    have f5 := h.fr 5
    have htx : ((bs (L.getD i default).text).toList == [45]) = decide ((L.getD i default).text = [45]) := by rw [Trees.bs_list, Bool.eq_iff_iff]; simp
    have hM2 := h.sign ((bs (L.getD i default).text).toList == [45])
    have HG : Hid (signG L i s = .go (mayS { s with below := ((bs (L.getD i default).text).toList == [45]) } 5)) := by show _ = _; unfold signG; rw [if_pos hc, htx]; rfl
    rw [HG.out]
    clear HG
    clear htx
    generalize (L.getD i default).text = tx at *
    have hb := behindSign_v w0 _ L size pow _ _ _ _ _ hM2
    clear t0 t1 t3 hM2
    clear hI h hc
    go_enter Tryz.func154, Tryz.ntmps154
    go_wp2_with fail
    refine hk.mono ?_
    rintro e w2 ⟨rfl, rfl⟩
    clear hk
    go_wp2_with fail
    refine hb.mono ?_
    rintro e w3 ⟨rfl, hE0⟩
    have hE := RdI.of2 hE0
    clear hb hE0
    have HE := Lib.hid hE
    clear hE
    go_wp2_with fail
    go_ret
    exact ⟨rfl, HE.out⟩

end Go.Proofs.YthofogokpolhdaaGreatDoor.Parses

namespace Go.Proofs.YthofogokpolhdaaGreatDoor.Parses
open Go.RowKit Go.Shelf
open Go.Proofs.YthofogokpolhdaaGreatDoor.Trees (Stp StepsAt cellS StAt elem_step cell_oneS)
open Go.Proofs.YthofogokpolhdaaGreatDoor.Toks (Tok ToksAt cellK cell_lt cell_same SliceAt Above Grid Spare Elem elem_of append_any both wpList_app)
open Go.Proofs.YthofogokpolhdaaGreatDoor.Style (bs bs_size bs_at getD_at bs_of)
set_option linter.unusedVariables false
set_option linter.unusedSimpArgs false

theorem isK_lt {L : List Tok} {i : Nat} {k : Int} (h : isK L i k = true) : i < L.length := by
  unfold isK at h
  rw [Bool.and_eq_true] at h
  exact of_decide_eq_true h.1

set_option maxRecDepth 100000 in
set_option maxHeartbeats 2000000 in
theorem left_t (i : Nat) (w0 : World) (st : Value) (L : List Tok) (size : Int) (pow : Bool) (vm vw vt : Value) (s : Rd) (w : World) (h : RdM w0 st L size pow vm vw vt s w) (hL : L.length ≤ 1000) (n : Nat) (hn : s.waits.length = n + 1) (hl : n ≤ 32) (ht : s.tree.length ≤ 990) :
    Calls Tryz.prog 119 #[.pointer (some ⟨w0.heap.size, 0, none⟩), .int .i64 (i : Int)] w (Took w0 st L size pow s i w (leftG L i s)) := by
  have hI := RdI.of h
  have hk := is_v i 7 w0 st L size pow vm vw vt s w h hL
  cases hc : isK L i 7 with
  | false =>
    rw [hc] at hk
    have HG : Hid (leftG L i s = .no) := by show _ = _; unfold leftG; simp [hc]
    rw [HG.out]
    have HI := Lib.hid hI
    clear hI h hc HG
    go_enter Tryz.func119, Tryz.ntmps119
    go_wp2_with fail
    refine hk.mono ?_
    rintro e w2 ⟨rfl, rfl⟩
    clear hk
    go_wp2_with fail
    go_ret
    exact ⟨rfl, rfl⟩
  | true =>
    rw [hc] at hk
    have hN := nested_v w0 st L size pow vm vw vt s w h (by omega)
    have hnn : ((s.waits.length : Int) - 1) = (n : Int) := by omega
    rw [hnn] at hN
    have hlI : (n : Int) ≤ 32 := by omega
    by_cases h32 : n = 32
    · have HG : Hid (leftG L i s = .deep) := by show _ = _; unfold leftG; rw [if_pos hc, if_pos (by omega)]
      rw [HG.out]
      have hp := place_v i w0 st L size pow vm vw vt s w h hL
      have HI := Lib.hid hI
      generalize hpl : placeG L size i = pl at *
      have HPL := Lib.hid hpl
      have h32' : ((n : Int) == 32) = true := by rw [h32]; rfl
      clear hI h hc HG hnn hpl h32
      go_enter Tryz.func119, Tryz.ntmps119
      go_wp2_with fail
      refine hk.mono ?_
      rintro e w2 ⟨rfl, rfl⟩
      clear hk
      go_wp2_with fail
      refine hN.mono ?_
      rintro e w2 ⟨rfl, rfl⟩
      clear hN
      go_wp2_with fail
      refine hp.mono ?_
      rintro e w2 ⟨rfl, rfl⟩
      clear hp
      go_wp2_with fail
      refine ⟨rfl, ?_, HI.out⟩
      rw [HPL.out]
      rfl
    · have HG : Hid (leftG L i s = .go (openS s)) := by show _ = _; unfold leftG; rw [if_pos hc, if_neg (by omega)]
      rw [HG.out]
      have ho := open_v w0 st L size pow vm vw vt s w h (by omega)
      have h32' : ((n : Int) == 32) = false := by
        rw [beq_eq_false_iff_ne]; omega
      clear hI h hc HG hnn h32
      go_enter Tryz.func119, Tryz.ntmps119
      go_wp2_with fail
      refine hk.mono ?_
      rintro e w2 ⟨rfl, rfl⟩
      clear hk
      go_wp2_with fail
      refine hN.mono ?_
      rintro e w2 ⟨rfl, rfl⟩
      clear hN
      go_wp2_with fail
      refine ho.mono ?_
      rintro e w2 ⟨rfl, hE⟩
      have HE := Lib.hid hE
      clear ho hE
      go_wp2_with fail
      go_ret
      exact ⟨rfl, HE.out⟩

theorem close_waits (s : Rd) : (closeS s).waits = s.waits ∧ (closeS s).may = s.may ∧ (closeS s).below = s.below ∧ (closeS s).tree.length ≤ s.tree.length + 1 := by
  unfold closeS
  split
  · exact ⟨rfl, rfl, rfl, by omega⟩
  · refine ⟨rfl, rfl, rfl, ?_⟩
    unfold putS
    simp

set_option maxRecDepth 100000 in
set_option maxHeartbeats 2000000 in
theorem end_t (i : Nat) (w0 : World) (st : Value) (L : List Tok) (size : Int) (pow : Bool) (vm vw vt : Value) (s : Rd) (w : World) (h : RdM w0 st L size pow vm vw vt s w) (hL : L.length ≤ 1000) (n : Nat) (hn : s.waits.length = n + 1) (hl : n ≤ 32) (ht : s.tree.length ≤ 990) :
    Calls Tryz.prog 153 #[.pointer (some ⟨w0.heap.size, 0, none⟩), .int .i64 (i : Int)] w (Took w0 st L size pow s i w (endG L i s)) := by
  have hI := RdI.of h
  have hN := nested_v w0 st L size pow vm vw vt s w h (by omega)
  have hnn : ((s.waits.length : Int) - 1) = (n : Int) := by omega
  rw [hnn] at hN
  have hlI : (n : Int) ≤ 32 := by omega
  have hLI : (L.length : Int) ≤ 1000 := by omega
  have c0 := h.c0
  obtain ⟨os, cs, rfl⟩ := SliceAt.slice h.toks
  have hcl := close_v w0 _ L size pow vm vw vt s w h n hn (by omega) (by omega)
  by_cases hi : i < L.length
  · have hiI : (i : Int) < L.length := by omega
    have HG : Hid (endG L i s = .no) := by show _ = _; unfold endG; rw [if_pos (.inl hi)]
    rw [HG.out]
    have HI := Lib.hid hI
    clear hI h hcl hnn HG hN
    go_enter Tryz.func153, Tryz.ntmps153
    go_wp2_with fail
    go_ret
    exact ⟨rfl, rfl⟩
  · have hiI : ¬ (i : Int) < L.length := by omega
    by_cases hn0 : 0 < n
    · have HG : Hid (endG L i s = .no) := by show _ = _; unfold endG; rw [if_pos (.inr (by omega))]
      rw [HG.out]
      have HI := Lib.hid hI
      have hn0I : (0 : Int) < n := by omega
      clear hI h hcl hnn HG
      go_enter Tryz.func153, Tryz.ntmps153
      go_wp2_with fail
      refine hN.mono ?_
      rintro e w2 ⟨rfl, rfl⟩
      clear hN
      go_wp2_with fail
      go_ret
      exact ⟨rfl, rfl⟩
    · have HG : Hid (endG L i s = .go (closeS s)) := by show _ = _; unfold endG; rw [if_neg (by omega)]
      rw [HG.out]
      have hn0I : ¬ (0 : Int) < n := by omega
      clear hI h hnn HG
      go_enter Tryz.func153, Tryz.ntmps153
      go_wp2_with fail
      refine hN.mono ?_
      rintro e w2 ⟨rfl, rfl⟩
      clear hN
      go_wp2_with fail
      refine hcl.mono ?_
      rintro e w2 ⟨rfl, hE⟩
      have HE := Lib.hid hE
      clear hcl hE
      go_wp2_with fail
      go_ret
      exact ⟨rfl, HE.out⟩

set_option maxRecDepth 100000 in
set_option maxHeartbeats 2000000 in
theorem operator_t (i : Nat) (w0 : World) (st : Value) (L : List Tok) (size : Int) (pow : Bool) (vm vw vt : Value) (s : Rd) (w : World) (h : RdM w0 st L size pow vm vw vt s w) (hL : L.length ≤ 1000) (n : Nat) (hn : s.waits.length = n + 1) (hl : n ≤ 32) (ht : s.tree.length ≤ 990) :
    Calls Tryz.prog 151 #[.pointer (some ⟨w0.heap.size, 0, none⟩), .int .i64 (i : Int)] w (Took w0 st L size pow s i w (operatorG L i s)) := by
  have hI := RdI.of h
  have hk4 := is_v i 4 w0 st L size pow vm vw vt s w h hL
  have hk5 := is_v i 5 w0 st L size pow vm vw vt s w h hL
  have hcl := close_v w0 _ L size pow vm vw vt s w h n hn (by omega) (by omega)
  have hw : ∀ op W, RdI w0 st L size pow (closeS s) W → Calls Tryz.prog 131 #[.pointer (some ⟨w0.heap.size, 0, none⟩), .int .i64 op] W fun e w' => e = .returned (.tuple #[]) ∧ RdI w0 st L size pow (waitS (closeS s) op) w' := by
    intro op W hW
    obtain ⟨a, b, c, hM⟩ := hW
    exact wait_v op w0 st L size pow a b c _ W hM n (by rw [(close_waits s).1]; exact hn) (by omega)
  cases hc4 : isK L i 4 with
  | true =>
    rw [hc4] at hk4
    have HG : Hid (operatorG L i s = .go (waitS (closeS s) 3)) := by show _ = _; unfold operatorG; rw [if_pos hc4]
    rw [HG.out]
    clear hI h hk5 HG
    go_enter Tryz.func151, Tryz.ntmps151
    go_wp2_with fail
    refine hk4.mono ?_
    rintro e w2 ⟨rfl, rfl⟩
    clear hk4
    go_wp2_with fail
    refine hcl.mono ?_
    rintro e w2 ⟨rfl, hE⟩
    have hw2 := hw 3 w2 hE
    clear hcl hw hE
    go_wp2_with fail
    refine hw2.mono ?_
    rintro e w3 ⟨rfl, hE⟩
    have HE := Lib.hid hE
    clear hw2 hE
    go_wp2_with fail
    go_ret
    exact ⟨rfl, HE.out⟩
  | false =>
    rw [hc4] at hk4
    cases hc5 : isK L i 5 with
    | true =>
      rw [hc5] at hk5
      have HG : Hid (operatorG L i s = .go (waitS (closeS s) 4)) := by show _ = _; unfold operatorG; rw [if_neg (by rw [hc4]; simp), if_pos hc5]
      rw [HG.out]
      clear hI h HG
      go_enter Tryz.func151, Tryz.ntmps151
      go_wp2_with fail
      refine hk4.mono ?_
      rintro e w2 ⟨rfl, rfl⟩
      clear hk4
      go_wp2_with fail
      refine hk5.mono ?_
      rintro e w2 ⟨rfl, rfl⟩
      clear hk5
      go_wp2_with fail
      refine hcl.mono ?_
      rintro e w2 ⟨rfl, hE⟩
      have hw2 := hw 4 w2 hE
      clear hcl hw hE
      go_wp2_with fail
      refine hw2.mono ?_
      rintro e w3 ⟨rfl, hE⟩
      have HE := Lib.hid hE
      clear hw2 hE
      go_wp2_with fail
      go_ret
      exact ⟨rfl, HE.out⟩
    | false =>
      rw [hc5] at hk5
      have HG : Hid (operatorG L i s = .no) := by show _ = _; unfold operatorG; rw [if_neg (by rw [hc4]; simp), if_neg (by rw [hc5]; simp)]
      rw [HG.out]
      have HI := Lib.hid hI
      clear hI h HG hcl hw
      go_enter Tryz.func151, Tryz.ntmps151
      go_wp2_with fail
      refine hk4.mono ?_
      rintro e w2 ⟨rfl, rfl⟩
      clear hk4
      go_wp2_with fail
      refine hk5.mono ?_
      rintro e w2 ⟨rfl, rfl⟩
      clear hk5
      go_wp2_with fail
      go_ret
      exact ⟨rfl, rfl⟩

end Go.Proofs.YthofogokpolhdaaGreatDoor.Parses

namespace Go.Proofs.YthofogokpolhdaaGreatDoor.Parses
open Go.RowKit Go.Shelf
open Go.Proofs.YthofogokpolhdaaGreatDoor.Trees (Stp StepsAt cellS StAt elem_step cell_oneS)
open Go.Proofs.YthofogokpolhdaaGreatDoor.Toks (Tok ToksAt cellK cell_lt cell_same SliceAt Above Grid Spare Elem elem_of append_any both wpList_app)
open Go.Proofs.YthofogokpolhdaaGreatDoor.Style (bs bs_size bs_at getD_at bs_of)
set_option linter.unusedVariables false
set_option linter.unusedSimpArgs false

theorem slice_ints (b n c m : Nat) (hc : m ≤ c) (W : World) : (Instr.slice 22 (.slice (some ⟨b, 0, none⟩) n c) none (some (.int .i64 (m : Int))) none).run Tryz.prog W = .ok (.slice (some ⟨b, 0, none⟩) m c) W := by
  have hs : (sizeOf (Tryz.prog.elem 22)).run Tryz.prog W = .ok 1 W := by kernel_rfl
  rw [run_slice_h (P := Tryz.prog) (w := W) 22 (some ⟨b, 0, none⟩) n c (by kernel_rfl) .i64 (m : Int) (by omega) (by omega), hs]
  show Result.ok (sliced _ _ _ _ _) W = _
  unfold sliced
  rw [Nat.zero_mul, Nat.sub_zero, Nat.sub_zero, Int.toNat_natCast]
  have h0 : (if c = 0 then some (⟨b, 0, none⟩ : Addr) else (some (⟨b, 0, none⟩ : Addr)).map (·.add 0)) = some ⟨b, 0, none⟩ := by simp [Addr.add_zero']
  rw [h0]
/-- One less waits. -/
theorem RdM.wait_pop {w0 : World} {st : Value} {L : List Tok} {size : Int} {pow : Bool} {vm vw vt : Value} {s : Rd} {W : World} (h : RdM w0 st L size pow vm vw vt s W) {n : Nat} (hn : s.waits.length = n + 1) (h1 : 1 ≤ n) :
    ∃ b c, vw = .slice (some ⟨b, 0, none⟩) (n + 1) c ∧ n + 1 ≤ c ∧ RdM w0 st L size pow vm (.slice (some ⟨b, 0, none⟩) n c) vt { s with waits := s.waits.dropLast } (W.setCell ⟨w0.heap.size, 4, none⟩ (.slice (some ⟨b, 0, none⟩) n c)) := by
  rcases id h.wts with ⟨h0, _⟩ | ⟨b, c, hs, hc, hm, hg⟩
  · omega
  · rw [hn] at hs hc hg
    have hlen : s.waits.dropLast.length = n := by rw [List.length_dropLast, hn]; rfl
    refine ⟨b, c, hs, hc, h.waits _ _ ?_ ?_ ?_ ?_⟩
    · refine .inr ⟨b, c, by rw [hlen], by rw [hlen]; omega, hm, ?_⟩
      rw [hlen]
      refine (hg.short (by omega)).ext (fun i hi j hj => ?_)
      unfold cellI
      rw [List.getD_eq_getElem?_getD, List.getD_eq_getElem?_getD, List.getElem?_dropLast, if_pos (by rw [hn]; omega)]
    · exact fun a m d e => by injection e with e; injection e with e; subst e; exact h.aw _ _ _ hs
    · exact fun a m d a' m' d' e e' => by injection e' with e'; injection e' with e'; subst e'; exact h.mw _ _ _ _ _ _ e hs
    · exact fun a m d a' m' d' e e' => by injection e with e; injection e with e; subst e; exact h.wt _ _ _ _ _ _ hs e'

set_option maxRecDepth 100000 in
set_option maxHeartbeats 2000000 in
theorem right_t (i : Nat) (w0 : World) (st : Value) (L : List Tok) (size : Int) (pow : Bool) (vm vw vt : Value) (s : Rd) (w : World) (h : RdM w0 st L size pow vm vw vt s w) (hL : L.length ≤ 1000) (n : Nat) (hn : s.waits.length = n + 1) (hl : n ≤ 32) (ht : s.tree.length ≤ 990) :
    Calls Tryz.prog 152 #[.pointer (some ⟨w0.heap.size, 0, none⟩), .int .i64 (i : Int)] w (Took w0 st L size pow s i w (rightG L i s)) := by
  have hI := RdI.of h
  have hk := is_v i 8 w0 st L size pow vm vw vt s w h hL
  have hN := nested_v w0 st L size pow vm vw vt s w h (by omega)
  have hnn : ((s.waits.length : Int) - 1) = (n : Int) := by omega
  rw [hnn] at hN
  have hlI : (n : Int) ≤ 32 := by omega
  have hcl := close_v w0 _ L size pow vm vw vt s w h n hn (by omega) (by omega)
  cases hc : isK L i 8 with
  | false =>
    rw [hc] at hk
    have HG : Hid (rightG L i s = .no) := by show _ = _; unfold rightG; simp [hc]
    rw [HG.out]
    have HI := Lib.hid hI
    clear hI h hc HG hN hcl hnn
    go_enter Tryz.func152, Tryz.ntmps152
    go_wp2_with fail
    refine hk.mono ?_
    rintro e w2 ⟨rfl, rfl⟩
    clear hk
    go_wp2_with fail
    go_ret
    exact ⟨rfl, rfl⟩
  | true =>
    rw [hc] at hk
    by_cases hn0 : n = 0
    · have HG : Hid (rightG L i s = .no) := by show _ = _; unfold rightG; rw [if_neg (fun h => h.2 (by omega))]
      rw [HG.out]
      have HI := Lib.hid hI
      have hb0 : ((n : Int) == 0) = true := by rw [hn0]; rfl
      clear hI h hc HG hcl hnn hn0
      go_enter Tryz.func152, Tryz.ntmps152
      go_wp2_with fail
      refine hk.mono ?_
      rintro e w2 ⟨rfl, rfl⟩
      clear hk
      go_wp2_with fail
      refine hN.mono ?_
      rintro e w2 ⟨rfl, rfl⟩
      clear hN
      go_wp2_with fail
      go_ret
      exact ⟨rfl, rfl⟩
    · have HG : Hid (rightG L i s = .go (mayS { closeS s with waits := (closeS s).waits.dropLast } 6)) := by show _ = _; unfold rightG; rw [if_pos ⟨hc, by omega⟩, (close_waits s).1]
      rw [HG.out]
      have hb0 : ((n : Int) == 0) = false := by rw [beq_eq_false_iff_ne]; omega
      have hcw : (closeS s).waits.length = n + 1 := by rw [(close_waits s).1]; exact hn
      generalize closeS s = s2 at *
      clear hI h hc HG hnn
      go_enter Tryz.func152, Tryz.ntmps152
      go_wp2_with fail
      refine hk.mono ?_
      rintro e w2 ⟨rfl, rfl⟩
      clear hk
      go_wp2_with fail
      refine hN.mono ?_
      rintro e w2 ⟨rfl, rfl⟩
      clear hN
      go_wp2_with fail
      refine hcl.mono ?_
      rintro e w2 ⟨rfl, a, b, c, hM⟩
      have hM1 := hM.go (Below.refl _ _).drew
      obtain ⟨bb, cc, rfl, hcc, hE⟩ := hM1.wait_pop hcw (by omega)
      have c4 := hM.c4
      have f4 := hM.fr 4
      have hwr : IntKind.i64.wrap (n : Int) = (n : Int) := by unfold IntKind.wrap; simp [IntKind.bits, IntKind.signed]; omega
      have hsl : ∀ W, (Instr.slice 22 (.slice (some ⟨bb, 0, none⟩) (n + 1) cc) none (some (.int .i64 (IntKind.i64.wrap (n : Int)))) none).run Tryz.prog W = .ok (.slice (some ⟨bb, 0, none⟩) n cc) W := fun W => by rw [hwr]; exact slice_ints bb (n + 1) cc n (by omega) W
      clear hwr
      have hb := behindBase_v w0 st L size pow _ _ _ _ _ hE
      clear hcl hM hM1 hE hcw hb0
      go_upto_region 4 with fail
      go_still_tail 14, (by kernel_rfl)
      change wpList _ _ _ _ _ w2.drew
      go_wp2_with fail
      refine hb.mono ?_
      rintro e w3 ⟨rfl, hE⟩
      have HE := Lib.hid (RdI.of2 hE)
      clear hb hE
      go_wp2_with fail
      go_ret
      exact ⟨rfl, HE.out⟩

/-- The last step's power is put down. -/
theorem RdM.pow_put {w0 : World} {st : Value} {L : List Tok} {size : Int} {pow : Bool} {vm vw vt : Value} {s : Rd} {W : World} (h : RdM w0 st L size pow vm vw vt s W) {m : Nat} (hm1 : s.tree.length = m + 1) (k : Int) :
    ∃ b c, vt = .slice (some ⟨b, 0, none⟩) (m + 1) c ∧ (∃ v, W.cell? ⟨b, m * 6 + 3, none⟩ = some v) ∧ W.frozen? ⟨b, m * 6 + 3, none⟩ = false ∧ RdM w0 st L size pow vm vw vt (powS s k) (W.setCell ⟨b, m * 6 + 3, none⟩ (.int .i64 k)) := by
  rcases id h.tre with ⟨h0, _⟩ | ⟨b, c, hs, hc, hm, hg⟩
  · omega
  · rw [hm1] at hs hc hg
    have hb1 : w0.heap.size + 1 ≤ b := h.at_ _ _ _ hs
    have hbm : ∀ a n' c', vm = .slice (some a) n' c' → a.block ≠ b := fun a n' c' e => h.mt _ _ _ _ _ _ e hs
    have hbw : ∀ a n' c', vw = .slice (some a) n' c' → a.block ≠ b := fun a n' c' e => h.wt _ _ _ _ _ _ e hs
    have c0 := hg.1 m (by omega) 3 (by omega)
    have hO : Toks.Only b W (W.setCell ⟨b, m * 6 + 3, none⟩ (.int .i64 k)) := (Toks.Only.refl b W).set (m * 6 + 3) _
    have hB := hO.below (B := w0.heap.size + 1) hb1
    have hs' : ∀ j u, W.cell? ⟨w0.heap.size, j, none⟩ = some u → (W.setCell ⟨b, m * 6 + 3, none⟩ (.int .i64 k)).cell? ⟨w0.heap.size, j, none⟩ = some u := fun j u hu => (hB.cell (p := ⟨w0.heap.size, j, none⟩) (show w0.heap.size < w0.heap.size + 1 by omega)).trans hu
    have hoth : ∀ {v : Value} {k' m' : Nat} {f : Nat → Nat → Value}, SliceAt W v k' m' f → (∀ a n' c', v = .slice (some a) n' c' → a.block ≠ b) → SliceAt (W.setCell ⟨b, m * 6 + 3, none⟩ (.int .i64 k)) v k' m' f := by
      intro v k' m' f hv hne
      rcases hv with hv | ⟨b', c', hs2, hc2, hm2, hg2⟩
      · exact .inl hv
      · have := hne _ _ _ hs2
        exact .inr ⟨b', c', hs2, hc2, hm2.set _ _ _, hg2.other _ _ _ (Ne.symm this)⟩
    refine ⟨b, c, hs, ⟨_, c0⟩, hg.2.1 _, ⟨h.below.trans (hB.mono (by omega)), hs' _ _ h.c0, hs' _ _ h.c1, hs' _ _ h.c2, hs' _ _ h.c3, hs' _ _ h.c4, hs' _ _ h.c5, hs' _ _ h.c6, fun j => by rw [World.frozen?_setCell]; exact h.fr j, h.toks, hoth h.lay hbm, hoth h.wts hbw, ?_, h.am, h.aw, h.at_, h.mw, h.mt, h.wt⟩⟩
    have hlen : (powS s k).tree.length = m + 1 := by unfold powS; simp [hm1]
    show SliceAt _ vt 6 (powS s k).tree.length (cellS (powS s k).tree)
    have hgs := hg.set m 3 (by omega) (by omega) (.int .i64 k)
    refine .inr ⟨b, c, by rw [hlen]; exact hs, by rw [hlen]; exact hc, hm.set _ _ _, ?_⟩
    rw [hlen]
    refine hgs.ext (fun i hi j hj => ?_)
    unfold Toks.upd cellS powS
    by_cases hin : i < m
    · rw [if_neg (by omega)]
      dsimp only
      rw [List.getD_eq_getElem?_getD (l := _ ++ _), List.getElem?_append_left (by rw [List.length_dropLast, hm1]; omega), List.getElem?_dropLast, if_pos (by rw [hm1]; omega), ← List.getD_eq_getElem?_getD]
    · have : i = m := by omega
      subst this
      have hlast : s.tree.getD i default = s.tree.getLastD default := by
        rw [List.getLastD_eq_getLast?, List.getLast?_eq_getElem?, hm1, List.getD_eq_getElem?_getD]; rfl
      dsimp only
      rw [List.getD_eq_getElem?_getD (l := _ ++ _), List.getElem?_append_right (by rw [List.length_dropLast, hm1]; omega), List.length_dropLast, hm1, hlast]
      generalize s.tree.getLastD default = x
      rw [show i - (i + 1 - 1) = 0 by omega]
      show _ = ({ x with n := k } : Stp).cs[j]?.getD undef
      match j, hj with
      | 0, _ => rw [if_neg (by omega)]; rfl
      | 1, _ => rw [if_neg (by omega)]; rfl
      | 2, _ => rw [if_neg (by omega)]; rfl
      | 3, _ => rw [if_pos ⟨rfl, rfl⟩]; rfl
      | 4, _ => rw [if_neg (by omega)]; rfl
      | 5, _ => rw [if_neg (by omega)]; rfl

end Go.Proofs.YthofogokpolhdaaGreatDoor.Parses

namespace Go.Proofs.YthofogokpolhdaaGreatDoor.Parses
open Go.RowKit Go.Shelf
open Go.Proofs.YthofogokpolhdaaGreatDoor.Trees (Stp StepsAt cellS StAt elem_step cell_oneS)
open Go.Proofs.YthofogokpolhdaaGreatDoor.Toks (Tok ToksAt cellK cell_lt cell_same SliceAt Above Grid Spare Elem elem_of append_any both wpList_app)
open Go.Proofs.YthofogokpolhdaaGreatDoor.Style (bs bs_size bs_at getD_at bs_of)
set_option linter.unusedVariables false
set_option linter.unusedSimpArgs false

set_option maxRecDepth 100000 in
set_option maxHeartbeats 4000000 in
theorem power_t (i : Nat) (w0 : World) (st : Value) (L : List Tok) (size : Int) (pow : Bool) (vm vw vt : Value) (s : Rd) (w : World) (h : RdM w0 st L size pow vm vw vt s w) (hL : L.length ≤ 1000) (m : Nat) (hm : s.tree.length = m + 1) (ht : s.tree.length ≤ 990) :
    Calls Tryz.prog 155 #[.pointer (some ⟨w0.heap.size, 0, none⟩), .int .i64 (i : Int)] w (Took w0 st L size pow s i w (powerG L i s)) := by
  have hI := RdI.of h
  have hk := is_v i 2 w0 st L size pow vm vw vt s w h hL
  have hmI : (m : Int) ≤ 990 := by omega
  cases hc : isK L i 2 with
  | false =>
    rw [hc] at hk
    have HG : Hid (powerG L i s = .no) := by show _ = _; unfold powerG; simp [hc]
    rw [HG.out]
    have HI := Lib.hid hI
    clear hI h hc HG
    go_enter Tryz.func155, Tryz.ntmps155
    go_wp2_with fail
    refine hk.mono ?_
    rintro e w2 ⟨rfl, rfl⟩
    clear hk
    go_wp2_with fail
    go_ret
    exact ⟨rfl, rfl⟩
  | true =>
    rw [hc] at hk
    have hii := isK_lt hc
    obtain ⟨b, c, rfl, t0, t1, t2, t3⟩ := h.tok hii
    have hiI : (i : Int) < L.length := by omega
    have hLI : (L.length : Int) ≤ 1000 := by omega
    have c0 := h.c0
    by_cases hno : (L.getD i default).num < 0 ∨ 99 < (L.getD i default).num
    · have HG : Hid (powerG L i s = .no) := by show _ = _; unfold powerG; rw [if_neg (by omega)]
      rw [HG.out]
      have HI := Lib.hid hI
      generalize (L.getD i default).num = nm at *
      clear hI h hc HG t0 t1 t2
      by_cases h0 : nm < 0
      · clear hno
        go_enter Tryz.func155, Tryz.ntmps155
        go_wp2_with fail
        refine hk.mono ?_
        rintro e w2 ⟨rfl, rfl⟩
        clear hk
        go_wp2_with fail
        go_ret
        exact ⟨rfl, rfl⟩
      · have h99 : 99 < nm := by omega
        clear hno
        go_enter Tryz.func155, Tryz.ntmps155
        go_wp2_with fail
        refine hk.mono ?_
        rintro e w2 ⟨rfl, rfl⟩
        clear hk
        go_wp2_with fail
        go_ret
        exact ⟨rfl, rfl⟩
    · have c5 := h.c5
      have hb := fun (k : Int) W (hW : RdI w0 (.slice (some ⟨b, 0, none⟩) L.length c) L size pow (powS s k) W) => hW
      obtain ⟨bt, ct, rfl, _⟩ : ∃ b' c', vt = .slice (some ⟨b', 0, none⟩) (m + 1) c' ∧ True := by
        obtain ⟨b', c', e, _⟩ := h.pow_put hm 0
        exact ⟨b', c', e, trivial⟩
      have hput : ∀ k : Int, (∃ v, w.drew.cell? ⟨bt, m * 6 + 3, none⟩ = some v) ∧ w.drew.frozen? ⟨bt, m * 6 + 3, none⟩ = false ∧ RdM w0 (.slice (some ⟨b, 0, none⟩) L.length c) L size pow vm vw (.slice (some ⟨bt, 0, none⟩) (m + 1) ct) (powS s k) (w.drew.setCell ⟨bt, m * 6 + 3, none⟩ (.int .i64 k)) := by
        intro k
        obtain ⟨b', c', e, x1, x2, hE⟩ := (h.go (Below.refl _ _).drew).pow_put hm k
        injection e with e1 e2 e3
        injection e1 with e1
        injection e1 with e1
        subst e1
        exact ⟨x1, x2, hE⟩
      have c6 := h.c6
      have HG : Hid (powerG L i s = .go (mayS (powS s (if s.below = true then 0 - (L.getD i default).num else (L.getD i default).num)) 6)) := by show _ = _; unfold powerG; rw [if_pos ⟨hc, by omega, by omega⟩]
      rw [HG.out]
      generalize (L.getD i default).num = nm at *
      have h0 : ¬ nm < 0 := by omega
      have h99 : ¬ 99 < nm := by omega
      clear hI hc HG t0 t1 t2 hno hb
      cases hbl : s.below with
      | false =>
        rw [hbl] at c5
        obtain ⟨⟨ov, x1⟩, x2, hE⟩ := hput nm
        have hbb := behindBase_v w0 _ L size pow _ _ _ _ _ hE
        rw [if_neg (by simp)]
        clear hput hE h
        go_enter Tryz.func155, Tryz.ntmps155
        go_wp2_with fail
        refine hk.mono ?_
        rintro e w2 ⟨rfl, rfl⟩
        clear hk
        go_upto_region 6 with fail
        go_still_tail 11, (by kernel_rfl)
        change wpList _ _ _ _ _ w.drew
        clear t3 c0 c5
        go_wp2_with fail
        refine hbb.mono ?_
        rintro e w3 ⟨rfl, hE⟩
        have HE := Lib.hid (RdI.of2 hE)
        clear hbb hE
        go_wp2_with fail
        go_ret
        exact ⟨rfl, HE.out⟩
      | true =>
        rw [hbl] at c5
        obtain ⟨⟨ov, x1⟩, x2, hE⟩ := hput (0 - nm)
        rw [Int.zero_sub] at hE
        have hbb := behindBase_v w0 _ L size pow _ _ _ _ _ hE
        rw [if_pos rfl, Int.zero_sub]
        clear hput hE h
        go_enter Tryz.func155, Tryz.ntmps155
        go_wp2_with fail
        refine hk.mono ?_
        rintro e w2 ⟨rfl, rfl⟩
        clear hk
        go_upto_region 6 with fail
        go_still_tail 11, (by kernel_rfl)
        change wpList _ _ _ _ _ w.drew
        clear t3 c0 c5
        go_wp2_with fail
        refine hbb.mono ?_
        rintro e w3 ⟨rfl, hE⟩
        have HE := Lib.hid (RdI.of2 hE)
        clear hbb hE
        go_wp2_with fail
        go_ret
        exact ⟨rfl, HE.out⟩

end Go.Proofs.YthofogokpolhdaaGreatDoor.Parses

namespace Go.Proofs.YthofogokpolhdaaGreatDoor.Parses
open Go.RowKit Go.Shelf
open Go.Proofs.YthofogokpolhdaaGreatDoor.Trees (Stp StepsAt cellS StAt elem_step cell_oneS)
open Go.Proofs.YthofogokpolhdaaGreatDoor.Toks (Tok ToksAt cellK cell_lt cell_same SliceAt Above Grid Spare Elem elem_of append_any both wpList_app)
open Go.Proofs.YthofogokpolhdaaGreatDoor.Style (bs bs_size bs_at getD_at bs_of)
set_option linter.unusedVariables false
set_option linter.unusedSimpArgs false

/-- What holds at each place. -/
structure Inv (s : Rd) (i : Nat) : Prop where
  w1 : 1 ≤ s.waits.length
  w2 : s.waits.length ≤ 33
  t1 : s.tree.length ≤ i
  t2 : 2 ≤ s.may ∧ s.may ≤ 5 → 1 ≤ s.tree.length
  m : s.may ≤ 7
theorem inv_start : Inv startR 0 := ⟨by decide, by decide, by decide, by decide, by decide⟩
theorem row_le {m : Nat} {k : Nat} (h : k ∈ rowOf m) : k ≤ 11 := by
  unfold rowOf at h
  split at h <;> simp at h <;> omega
theorem row_len (m : Nat) : (rowOf m).length ≤ 6 := by
  unfold rowOf
  split <;> simp
theorem row_six {m : Nat} (h : 6 ∈ rowOf m) : m = 3 ∨ m = 4 ∨ m = 5 := by
  unfold rowOf at h
  split at h <;> simp_all
theorem row_six2 {m : Nat} (h : 6 ∈ rowOf m) (hm : m ≤ 7) : m = 3 ∨ m = 4 ∨ m = 5 := row_six h
theorem row_five {m : Nat} (h : 5 ∈ rowOf m) : m = 3 ∨ m = 4 := by
  unfold rowOf at h
  split at h <;> simp_all
theorem row_raise {m : Nat} (h : 11 ∈ rowOf m) : m = 2 := by
  unfold rowOf at h
  split at h <;> simp_all

theorem isK_len {L : List Tok} {i : Nat} {k : Int} (h : isK L i k = true) : i < L.length := isK_lt h
theorem len_set (l : List Int) (op : Int) (h : 1 ≤ l.length) : (l.dropLast ++ [op]).length = l.length := by
  rw [List.length_append, List.length_dropLast]; simp; omega
theorem inv_step {pow : Bool} {L : List Tok} {i k : Nat} {s s' : Rd} (h : Inv s i) (hk : k ∈ rowOf s.may) (hg : askG pow L i s k = .go s') : Inv s' (i + 1) := by
  have hk11 := row_le hk
  obtain ⟨w1, w2, t1, t2, hm⟩ := h
  obtain ⟨e1, e2, e3, e4⟩ := close_waits s
  have e5 : s.tree.length ≤ (closeS s).tree.length := by
    unfold closeS
    split
    · exact Nat.le_refl _
    · unfold putS; simp
  rcases (by omega : k = 0 ∨ k = 1 ∨ k = 2 ∨ k = 3 ∨ k = 4 ∨ k = 5 ∨ k = 6 ∨ k = 7 ∨ k = 8 ∨ k = 9 ∨ k = 10 ∨ k = 11) with rfl | rfl | rfl | rfl | rfl | rfl | rfl | rfl | rfl | rfl | rfl | rfl
  · simp only [askG, inverseG] at hg
    split at hg
    · injection hg with hg
      subst hg
      exact ⟨by simp only [waitS, len_set _ _ w1]; exact w1, by simp only [waitS, len_set _ _ w1]; exact w2, by simp only [waitS]; omega, by simp [waitS], by simp [waitS]⟩
    · cases hg
  · simp only [askG, symbolG] at hg
    split at hg
    · injection hg with hg
      subst hg
      exact ⟨w1, w2, by simp [putS]; omega, by simp [putS], by simp only; split <;> omega⟩
    · cases hg
  · simp only [askG, numberG] at hg
    split at hg
    · injection hg with hg
      subst hg
      exact ⟨w1, w2, by simp [putS, mayS]; omega, by simp [putS, mayS], by simp [mayS]⟩
    · cases hg
  · simp only [askG, leftG] at hg
    split at hg
    · split at hg
      · cases hg
      · injection hg with hg
        subst hg
        exact ⟨by simp [openS], by simp [openS]; omega, by simp [openS]; omega, by simp [openS], by simp [openS]⟩
    · cases hg
  · simp only [askG, notedG] at hg
    split at hg
    · injection hg with hg
      subst hg
      exact ⟨w1, w2, by simp [putS, mayS]; omega, by simp [putS, mayS], by simp [mayS]⟩
    · cases hg
  · have h5 := row_five hk
    simp only [askG, signG] at hg
    split at hg
    · injection hg with hg
      subst hg
      exact ⟨w1, w2, by simp; omega, fun _ => t2 (by omega), by simp⟩
    · cases hg
  · have h6 := row_six hk
    have ht := t2 (by omega)
    simp only [askG, powerG] at hg
    split at hg
    · injection hg with hg
      subst hg
      exact ⟨w1, w2, by simp [powS, mayS]; omega, by simp [powS, mayS], by simp [mayS]⟩
    · cases hg
  · simp only [askG, notedG] at hg
    split at hg
    · injection hg with hg
      subst hg
      exact ⟨w1, w2, by simp [putS, mayS]; omega, by simp [putS, mayS], by simp [mayS]⟩
    · cases hg
  · simp only [askG, operatorG] at hg
    split at hg
    · injection hg with hg
      subst hg
      exact ⟨by simp only [waitS, e1, len_set _ _ w1]; exact w1, by simp only [waitS, e1, len_set _ _ w1]; exact w2, by simp only [waitS]; omega, by simp [waitS], by simp [waitS]⟩
    · split at hg
      · injection hg with hg
        subst hg
        exact ⟨by simp only [waitS, e1, len_set _ _ w1]; exact w1, by simp only [waitS, e1, len_set _ _ w1]; exact w2, by simp only [waitS]; omega, by simp [waitS], by simp [waitS]⟩
      · cases hg
  · simp only [askG, rightG] at hg
    split at hg
    · rename_i hc
      injection hg with hg
      subst hg
      have := hc.2
      exact ⟨by simp only [mayS, List.length_dropLast]; omega, by simp only [mayS, List.length_dropLast]; omega, by simp only [mayS]; omega, by simp [mayS], by simp [mayS]⟩
    · cases hg
  · simp only [askG, endG] at hg
    split at hg
    · cases hg
    · injection hg with hg
      subst hg
      exact ⟨by rw [e1]; exact w1, by rw [e1]; exact w2, by omega, fun hh => by rw [e2] at hh; have := t2 hh; omega, by rw [e2]; exact hm⟩
  · have h11 := row_raise hk
    simp only [askG, raiseG] at hg
    split at hg
    · injection hg with hg
      subst hg
      exact ⟨w1, w2, by simp only [mayS]; omega, fun _ => t2 (by omega), by simp [mayS]⟩
    · cases hg

/-- Whoever is asked answers so. -/
theorem ask_t (k : Nat) (i : Nat) (w0 : World) (st : Value) (L : List Tok) (size : Int) (pow : Bool) (vm vw vt : Value) (s : Rd) (w : World) (h : RdM w0 st L size pow vm vw vt s w) (hL : L.length ≤ 900) (hk : k ∈ rowOf s.may) (hI : Inv s i) (hi : i ≤ L.length) :
    Calls Tryz.prog (fnOf k) #[.pointer (some ⟨w0.heap.size, 0, none⟩), .int .i64 (i : Int)] w (Took w0 st L size pow s i w (askG pow L i s k)) := by
  have hk11 := row_le hk
  obtain ⟨w1, w2, t1, t2, hm⟩ := hI
  have hn : s.waits.length = (s.waits.length - 1) + 1 := by omega
  have hl : s.waits.length - 1 ≤ 32 := by omega
  have ht : s.tree.length ≤ 990 := by omega
  have hL2 : L.length ≤ 1000 := by omega
  rcases (by omega : k = 0 ∨ k = 1 ∨ k = 2 ∨ k = 3 ∨ k = 4 ∨ k = 5 ∨ k = 6 ∨ k = 7 ∨ k = 8 ∨ k = 9 ∨ k = 10 ∨ k = 11) with rfl | rfl | rfl | rfl | rfl | rfl | rfl | rfl | rfl | rfl | rfl | rfl
  · exact inverse_t i w0 st L size pow vm vw vt s w h hL2 _ hn hl ht
  · exact symbol_t i w0 st L size pow vm vw vt s w h hL2 _ hn hl ht
  · exact number_t i w0 st L size pow vm vw vt s w h hL2 _ hn hl ht
  · exact left_t i w0 st L size pow vm vw vt s w h hL2 _ hn hl ht
  · exact alone_t i w0 st L size pow vm vw vt s w h hL2 _ hn hl ht
  · exact sign_t i w0 st L size pow vm vw vt s w h hL2 _ hn hl ht
  · have h6 := row_six hk
    have := t2 (by omega)
    exact power_t i w0 st L size pow vm vw vt s w h hL2 (s.tree.length - 1) (by omega) ht
  · exact note_t i w0 st L size pow vm vw vt s w h hL2 _ hn hl ht
  · exact operator_t i w0 st L size pow vm vw vt s w h hL2 _ hn hl ht
  · exact right_t i w0 st L size pow vm vw vt s w h hL2 _ hn hl ht
  · exact end_t i w0 st L size pow vm vw vt s w h hL2 _ hn hl ht
  · exact raise_t i w0 st L size pow vm vw vt s w h hL2 _ hn hl ht
/-- How read ends. -/
def ReadEnd (w0 : World) (st : Value) (L : List Tok) (size : Int) (pow : Bool) (r : Red) (e : Ending) (W : World) : Prop :=
  match r with
  | .done s => e = .returned (.tuple #[]) ∧ RdI w0 st L size pow s W
  | .bad err i => e = .panicked [{ v := refV err (placeG L size i) 0, recovered := false }] ∧ ∃ s, RdI w0 st L size pow s W

end Go.Proofs.YthofogokpolhdaaGreatDoor.Parses

namespace Go.Proofs.YthofogokpolhdaaGreatDoor.Parses
open Go.RowKit Go.Shelf
open Go.Proofs.YthofogokpolhdaaGreatDoor.Trees (Stp StepsAt cellS StAt elem_step cell_oneS)
open Go.Proofs.YthofogokpolhdaaGreatDoor.Toks (Tok ToksAt cellK cell_lt cell_same SliceAt Above Grid Spare Elem elem_of append_any both wpList_app)
open Go.Proofs.YthofogokpolhdaaGreatDoor.Style (bs bs_size bs_at getD_at bs_of)
set_option linter.unusedVariables false
set_option linter.unusedSimpArgs false

theorem enters_fn (k : Nat) (hk : k ≤ 11) : Enters Tryz.prog (fnOf k) := by
  rcases (by omega : k = 0 ∨ k = 1 ∨ k = 2 ∨ k = 3 ∨ k = 4 ∨ k = 5 ∨ k = 6 ∨ k = 7 ∨ k = 8 ∨ k = 9 ∨ k = 10 ∨ k = 11) with rfl | rfl | rfl | rfl | rfl | rfl | rfl | rfl | rfl | rfl | rfl | rfl
  · exact enters_of Tryz.func116 (by kernel_rfl) rfl
  · exact enters_of Tryz.func117 (by kernel_rfl) rfl
  · exact enters_of Tryz.func118 (by kernel_rfl) rfl
  · exact enters_of Tryz.func119 (by kernel_rfl) rfl
  · exact enters_of Tryz.func120 (by kernel_rfl) rfl
  · exact enters_of Tryz.func154 (by kernel_rfl) rfl
  · exact enters_of Tryz.func155 (by kernel_rfl) rfl
  · exact enters_of Tryz.func150 (by kernel_rfl) rfl
  · exact enters_of Tryz.func151 (by kernel_rfl) rfl
  · exact enters_of Tryz.func152 (by kernel_rfl) rfl
  · exact enters_of Tryz.func153 (by kernel_rfl) rfl
  · exact enters_of Tryz.func149 (by kernel_rfl) rfl
theorem first_drop (pow : Bool) (L : List Tok) (i : Nat) (s : Rd) (l : List Nat) (j : Nat) (hj : j < l.length) : firstG pow L i s (l.drop j) = match askG pow L i s (l.getD j 0) with
    | .no => firstG pow L i s (l.drop (j + 1))
    | g => g := by
  have e : l.getD j 0 = l[j] := by rw [List.getD_eq_getElem?_getD, List.getElem?_eq_getElem hj]; rfl
  rw [List.drop_eq_getElem_cons hj, e]
  rfl
theorem read_step (pow : Bool) (L : List Tok) (i m : Nat) (s : Rd) : readG pow L i (m + 1) s = match firstG pow L i s (rowOf s.may) with
    | .go s' => readG pow L (i + 1) m s'
    | .no => .bad 14 i
    | .deep => .bad 13 i := rfl

set_option maxRecDepth 100000 in
set_option maxHeartbeats 8000000 in
theorem read_v (w0 : World) (st : Value) (L : List Tok) (size : Int) (pow : Bool) (vm vw vt : Value) (w : World) (h : RdM w0 st L size pow vm vw vt zeroR w) (hL : L.length ≤ 900) :
    Calls Tryz.prog 49 #[.pointer (some ⟨w0.heap.size, 0, none⟩)] w (ReadEnd w0 st L size pow (readAll pow L)) := by
  have ho := open_v w0 st L size pow vm vw vt zeroR w h (by decide)
  have hLI : (L.length : Int) ≤ 900 := by omega
  obtain ⟨os, cs, rfl⟩ := SliceAt.slice h.toks
  obtain ⟨R, hR⟩ : ∃ R, readAll pow L = R := ⟨_, rfl⟩
  have HR : Hid (readG pow L 0 (L.length + 1) startR = R) := hR
  rw [hR]
  clear hR h
  go_enter Tryz.func49, Tryz.ntmps49
  go_wp2_with fail
  go_step3
  go_wp2_with fail
  refine ho.mono ?_
  rintro e w2 ⟨rfl, hE⟩
  have hE2 : RdI w0 (.slice os L.length cs) L size pow startR w2 := hE
  obtain ⟨a1, a2, a3, hM⟩ := hE
  have c0 := hM.c0
  clear ho hM
  go_wp2_with fail
  go_step3
  go_wp2_with fail
  clear c0
  go_loopw [13] (fun x wr => ∃ (i : Nat) (s : Rd), x = .int .i64 (i : Int) ∧ i ≤ L.length + 1 ∧ Inv s i ∧ RdI w0 (.slice os L.length cs) L size pow s wr ∧ Hid (readG pow L i (L.length + 1 - i) s = R)) (fun x _ => ((L.length : Int) + 1 - intOf x).toNat)
  case atStart => exact ⟨0, startR, rfl, by omega, inv_start, hE2, HR⟩
  case round =>
    clear hE2 HR
    obtain ⟨i, s, rfl, hiL, hInv, ⟨vm, vw, vt, hM⟩, HR⟩ := hrel
    by_cases hi : i < L.length + 1
    · have hiI : (i : Int) < (L.length : Int) + 1 := by omega
      obtain ⟨m, hm⟩ : ∃ m, L.length + 1 - i = m + 1 := ⟨L.length - i, by omega⟩
      rw [hm] at HR
      have hm2 : L.length + 1 - (i + 1) = m := by omega
      have HR2 := HR.out
      rw [read_step] at HR2
      have c3 := hM.c3
      obtain ⟨b, c, rfl⟩ := SliceAt.slice hM.lay
      have hrl := row_len s.may
      have hle : ∀ k ∈ rowOf s.may, k ≤ 11 := fun k hk => row_le hk
      have hrI : ((rowOf s.may).length : Int) ≤ 6 := by omega
      have hAsk := fun k hk => ask_t k i w0 _ L size pow _ _ _ s wr hM hL hk hInv (by omega)
      have hStep := fun k hk s' hg => inv_step (pow := pow) (L := L) (k := k) (s' := s') hInv hk hg
      have hlay := hM.lay
      have hPl := place_v i w0 _ L size pow _ _ _ s wr hM (by omega)
      have hRI := RdI.of hM
      have hFi : firstG pow L i s (rowOf s.may) = firstG pow L i s ((rowOf s.may).drop 0) := by rw [List.drop_zero]
      generalize rowOf s.may = row at *
      clear hm hM hInv HR
      go_wp2_with fail
      obtain ⟨W1, hW1⟩ : ∃ W1, W1 = wr := ⟨_, rfl⟩
      subst hW1
      clear c3
      have HR3 := Lib.hid HR2
      clear HR2
      go_loopw [21] (fun y wq => ∃ j : Nat, y = .int .i64 (j : Int) ∧ j ≤ row.length ∧ Hid (firstG pow L i s row = firstG pow L i s (row.drop j)) ∧ W1 = wq) (fun y _ => ((row.length : Int) - intOf y).toNat)
      case atStart => exact ⟨0, rfl, by omega, hFi, rfl⟩
      case round =>
        obtain ⟨j, rfl, hjr, HF, rfl⟩ := hrel
        by_cases hj : j < row.length
        · have hjI : (j : Int) < row.length := by omega
          obtain ⟨bb, rfl, x1⟩ : ∃ bb, b = some ⟨bb, 0, none⟩ ∧ W1.cell? ⟨bb, j, none⟩ = some (cellF w0.heap.size row j 0) := by
            rcases hlay with ⟨h0, _⟩ | ⟨bb, c', e, hc, hmm, hg⟩
            · omega
            · injection e with e1 e2 e3
              have := hg.1 j hj 0 (by omega)
              rw [Nat.mul_one, Nat.add_zero] at this
              exact ⟨bb, e1, this⟩
          unfold cellF at x1
          have hmem : row.getD j 0 ∈ row := by rw [List.getD_eq_getElem?_getD, List.getElem?_eq_getElem hj]; exact List.getElem_mem _
          have hfd := first_drop pow L i s row j hj
          generalize row.getD j 0 = k at *
          have hA := hAsk k hmem
          have hS := hStep k hmem
          have hen : ∀ args W, (callFunc (fnOf k) args).run Tryz.prog W = .ok (.enter (fnOf k) args) W := enters_fn k (hle k hmem)
          clear hle hAsk hStep hmem hlay
          cases hg : askG pow L i s k with
          | no =>
            rw [hg] at hA hfd
            have HF2 : Hid (firstG pow L i s row = firstG pow L i s (row.drop (j + 1))) := by show _ = _; rw [HF.out, hfd]
            clear hg hS hfd hPl
            go_wp2_with fail
            refine hA.mono ?_
            rintro e w3 ⟨rfl, rfl⟩
            clear hA
            go_wp2_with fail
            go_roundw
            case rel => exact ⟨j + 1, by simp, by omega, HF2, by first | trivial | rfl⟩
            case measure => simp only [intOf]; omega
          | go s' =>
            rw [hg] at hA hfd
            have hI2 := hS s' hg
            have HR4 : Hid (readG pow L (i + 1) m s' = R) := by
              show _ = _
              have h1 := HR3.out
              rw [HF.out, hfd] at h1
              exact h1
            clear hg hS hfd hPl HF HR3
            go_wp2_with fail
            refine hA.mono ?_
            rintro e w3 ⟨rfl, hE⟩
            clear hA
            go_wp2_with fail
            go_roundw
            case rel => exact ⟨i + 1, s', by simp, by omega, hI2, hE, by rw [hm2]; exact HR4⟩
            case measure => simp only [intOf]; omega
          | deep =>
            rw [hg] at hA hfd
            have HR4 : Hid (R = .bad 13 i) := by
              show _ = _
              have h1 := HR3.out
              rw [HF.out, hfd] at h1
              exact h1.symm
            clear hg hS hfd hPl HF HR3
            go_wp2_with fail
            refine hA.mono ?_
            rintro e w3 ⟨rfl, hE⟩
            clear hA
            go_wp2_with fail
            refine ⟨rfl, ?_⟩
            rw [HR4.out]
            exact ⟨rfl, s, hE⟩
        · have hje : j = row.length := by omega
          have hjI : ¬ (j : Int) < row.length := by omega
          have HR4 : Hid (R = .bad 14 i) := by
            show _ = _
            have h1 := HR3.out
            rw [HF.out, hje, List.drop_length] at h1
            exact h1.symm
          obtain ⟨pl, hpl⟩ : ∃ pl, placeG L size i = pl := ⟨_, rfl⟩
          rw [hpl] at hPl
          have HPL := Lib.hid hpl
          have HRI := Lib.hid hRI
          clear HF HR3 hAsk hStep hle hlay hpl hje
          go_wp2_with fail
          refine hPl.mono ?_
          rintro e w3 ⟨rfl, rfl⟩
          clear hPl
          go_wp2_with fail
          refine ⟨rfl, ?_⟩
          rw [HR4.out]
          refine ⟨?_, s, HRI.out⟩
          rw [HPL.out]
          rfl
    · have hie : i = L.length + 1 := by omega
      have hiI : ¬ (i : Int) < (L.length : Int) + 1 := by omega
      have HE : Hid (R = .done s) := by
        have h := HR.out
        rw [hie, Nat.sub_self] at h
        exact h.symm
      have hRI := RdI.of hM
      clear hM HR hie
      go_wp2_with fail
      first | go_end0 | refine bodyPost_ret (results_none rfl _ _ _) rfl ?_
      rw [HE.out]
      exact ⟨rfl, hRI⟩

end Go.Proofs.YthofogokpolhdaaGreatDoor.Parses

