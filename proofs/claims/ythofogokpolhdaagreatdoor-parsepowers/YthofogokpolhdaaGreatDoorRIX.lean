/-
  The reader of package parse, as it lies; contracts of its is, nested, place, ask, and of what may stand behind a token. The reader of package parse: what it puts down, and who waits. The reader of package parse: open, wait, close, behindSymbol.
-/
import Derived.Test.YthofogokpolhdaaGreatDoorPA
import Derived.Test.YthofogokpolhdaaGreatDoorUT
import Derived.Test.YthofogokpolhdaaGreatDoorUJX
import Derived.BigQuiet
import Derived.StillTailTactics
import Derived.Laws.EntriesVeiled
import Derived.Deep.RegionHeld3
namespace Go.Proofs.YthofogokpolhdaaGreatDoor.Parses
open Go.RowKit Go.Shelf
open Go.Proofs.YthofogokpolhdaaGreatDoor.Trees (Stp StepsAt cellS)
open Go.Proofs.YthofogokpolhdaaGreatDoor.Toks (Tok ToksAt cellK cell_lt cell_same SliceAt Above Grid Spare)
open Go.Proofs.YthofogokpolhdaaGreatDoor.Style (bs bs_size bs_at getD_at bs_of)
set_option linter.unusedVariables false
set_option linter.unusedSimpArgs false

/-- The functions that are asked. -/
def fnOf : Nat → Nat
  | 0 => 116
  | 1 => 117
  | 2 => 118
  | 3 => 119
  | 4 => 120
  | 5 => 154
  | 6 => 155
  | 7 => 150
  | 8 => 151
  | 9 => 152
  | 10 => 153
  | _ => 149
def cellF (rb : Nat) (l : List Nat) (i j : Nat) : Value := .func (.func (fnOf (l.getD i 0))) #[.pointer (some ⟨rb, 0, none⟩)] #[]
def cellI (l : List Int) (i j : Nat) : Value := .int .i64 (l.getD i 0)
/-- They lie in blocks of their own. -/
def Apart (v v' : Value) : Prop := ∀ a n c a' n' c', v = .slice (some a) n c → v' = .slice (some a') n' c' → a.block ≠ a'.block
theorem setFar {W : World} {s : Value} {k n B : Nat} {f : Nat → Nat → Value} (h : SliceAt W s k n f) (ha : Above B s) (b i : Nat) (hb : b < B) (u : Value) : SliceAt (W.setCell ⟨b, i, none⟩ u) s k n f := by
  rcases h with h | ⟨b', c, hs, hc, hm, hg⟩
  · exact .inl h
  · have hbb : B ≤ b' := ha _ _ _ hs
    exact .inr ⟨b', c, hs, hc, hm.set _ _ _, hg.other b i u (by omega)⟩
/-- The reader: w0 is the world in which it was made. -/
structure RdM (w0 : World) (st : Value) (L : List Tok) (size : Int) (pow : Bool) (vm vw vt : Value) (s : Rd) (W : World) : Prop where
  below : Below w0.heap.size w0 W
  c0 : W.cell? ⟨w0.heap.size, 0, none⟩ = some st
  c1 : W.cell? ⟨w0.heap.size, 1, none⟩ = some (.int .i64 size)
  c2 : W.cell? ⟨w0.heap.size, 2, none⟩ = some (.bool pow)
  c3 : W.cell? ⟨w0.heap.size, 3, none⟩ = some vm
  c4 : W.cell? ⟨w0.heap.size, 4, none⟩ = some vw
  c5 : W.cell? ⟨w0.heap.size, 5, none⟩ = some (.bool s.below)
  c6 : W.cell? ⟨w0.heap.size, 6, none⟩ = some vt
  fr : ∀ j, W.frozen? ⟨w0.heap.size, j, none⟩ = false
  toks : ToksAt w0 st L
  lay : SliceAt W vm 1 (rowOf s.may).length (cellF w0.heap.size (rowOf s.may))
  wts : SliceAt W vw 1 s.waits.length (cellI s.waits)
  tre : StepsAt W vt s.tree
  am : Above (w0.heap.size + 1) vm
  aw : Above (w0.heap.size + 1) vw
  at_ : Above (w0.heap.size + 1) vt
  mw : Apart vm vw
  mt : Apart vm vt
  wt : Apart vw vt
theorem RdM.go {w0 : World} {st : Value} {L : List Tok} {size : Int} {pow : Bool} {vm vw vt : Value} {s : Rd} {W W' : World} (h : RdM w0 st L size pow vm vw vt s W) (hb : Below W.heap.size W W') : RdM w0 st L size pow vm vw vt s W' := by
  have hl := cell_lt h.c0
  exact ⟨h.below.trans (hb.mono (by omega)), (hb.cell (p := ⟨_, 0, none⟩) hl).trans h.c0, (hb.cell (p := ⟨_, 1, none⟩) hl).trans h.c1, (hb.cell (p := ⟨_, 2, none⟩) hl).trans h.c2, (hb.cell (p := ⟨_, 3, none⟩) hl).trans h.c3, (hb.cell (p := ⟨_, 4, none⟩) hl).trans h.c4, (hb.cell (p := ⟨_, 5, none⟩) hl).trans h.c5, (hb.cell (p := ⟨_, 6, none⟩) hl).trans h.c6, fun j => (hb.frozen (p := ⟨_, j, none⟩) hl).trans (h.fr j), h.toks, h.lay.go hb, h.wts.go hb, h.tre.go hb, h.am, h.aw, h.at_, h.mw, h.mt, h.wt⟩
theorem RdM.lt {w0 : World} {st : Value} {L : List Tok} {size : Int} {pow : Bool} {vm vw vt : Value} {s : Rd} {W : World} (h : RdM w0 st L size pow vm vw vt s W) : w0.heap.size < W.heap.size := cell_lt h.c0
theorem set_other {W : World} {b k j : Nat} {u v : Value} (h : W.cell? ⟨b, j, none⟩ = some v) (hn : j ≠ k) : (W.setCell ⟨b, k, none⟩ u).cell? ⟨b, j, none⟩ = some v := by
  rw [World.cell?_setCell_other _ _ _ _ (by intro hh; injection hh with e1 e2; exact hn e2.symm)]; exact h
/-- What may stand there is put down anew. -/
theorem RdM.may {w0 : World} {st : Value} {L : List Tok} {size : Int} {pow : Bool} {vm vw vt : Value} {s : Rd} {W : World} (h : RdM w0 st L size pow vm vw vt s W) (k : Nat) (v : Value) (hl : SliceAt W v 1 (rowOf k).length (cellF w0.heap.size (rowOf k))) (ha : Above (w0.heap.size + 1) v) (h1 : Apart v vw) (h2 : Apart v vt) :
    RdM w0 st L size pow v vw vt { s with may := k } (W.setCell ⟨w0.heap.size, 3, none⟩ v) :=
  ⟨h.below.setCell (p := ⟨w0.heap.size, 3, none⟩) (Nat.le_refl _) v, set_other h.c0 (by omega), set_other h.c1 (by omega), set_other h.c2 (by omega), World.cell?_setCell_same _ _ _ h.c3, set_other h.c4 (by omega), set_other h.c5 (by omega), set_other h.c6 (by omega), fun j => by rw [World.frozen?_setCell]; exact h.fr j,
    h.toks, setFar hl ha _ _ (by omega) _, setFar h.wts h.aw _ _ (by omega) _, setFar h.tre h.at_ _ _ (by omega) _, ha, h.aw, h.at_, h1, h2, h.wt⟩
theorem RdM.sign {w0 : World} {st : Value} {L : List Tok} {size : Int} {pow : Bool} {vm vw vt : Value} {s : Rd} {W : World} (h : RdM w0 st L size pow vm vw vt s W) (b : Bool) :
    RdM w0 st L size pow vm vw vt { s with below := b } (W.setCell ⟨w0.heap.size, 5, none⟩ (.bool b)) :=
  ⟨h.below.setCell (p := ⟨w0.heap.size, 5, none⟩) (Nat.le_refl _) _, set_other h.c0 (by omega), set_other h.c1 (by omega), set_other h.c2 (by omega), set_other h.c3 (by omega), set_other h.c4 (by omega), World.cell?_setCell_same _ _ _ h.c5, set_other h.c6 (by omega), fun j => by rw [World.frozen?_setCell]; exact h.fr j,
    h.toks, setFar h.lay h.am _ _ (by omega) _, setFar h.wts h.aw _ _ (by omega) _, setFar h.tre h.at_ _ _ (by omega) _, h.am, h.aw, h.at_, h.mw, h.mt, h.wt⟩
/-- The row of those that wait is put down anew: in a world in which it lies. -/
theorem RdM.waits {w0 : World} {st : Value} {L : List Tok} {size : Int} {pow : Bool} {vm vw vt : Value} {s : Rd} {W : World} (h : RdM w0 st L size pow vm vw vt s W) (l : List Int) (v : Value) (hl : SliceAt W v 1 l.length (cellI l)) (ha : Above (w0.heap.size + 1) v) (h1 : Apart vm v) (h2 : Apart v vt) :
    RdM w0 st L size pow vm v vt { s with waits := l } (W.setCell ⟨w0.heap.size, 4, none⟩ v) :=
  ⟨h.below.setCell (p := ⟨w0.heap.size, 4, none⟩) (Nat.le_refl _) v, set_other h.c0 (by omega), set_other h.c1 (by omega), set_other h.c2 (by omega), set_other h.c3 (by omega), World.cell?_setCell_same _ _ _ h.c4, set_other h.c5 (by omega), set_other h.c6 (by omega), fun j => by rw [World.frozen?_setCell]; exact h.fr j,
    h.toks, setFar h.lay h.am _ _ (by omega) _, setFar hl ha _ _ (by omega) _, setFar h.tre h.at_ _ _ (by omega) _, h.am, ha, h.at_, h1, h.mt, h2⟩
theorem RdM.steps {w0 : World} {st : Value} {L : List Tok} {size : Int} {pow : Bool} {vm vw vt : Value} {s : Rd} {W : World} (h : RdM w0 st L size pow vm vw vt s W) (l : List Stp) (v : Value) (hl : StepsAt W v l) (ha : Above (w0.heap.size + 1) v) (h1 : Apart vm v) (h2 : Apart vw v) :
    RdM w0 st L size pow vm vw v { s with tree := l } (W.setCell ⟨w0.heap.size, 6, none⟩ v) :=
  ⟨h.below.setCell (p := ⟨w0.heap.size, 6, none⟩) (Nat.le_refl _) v, set_other h.c0 (by omega), set_other h.c1 (by omega), set_other h.c2 (by omega), set_other h.c3 (by omega), set_other h.c4 (by omega), set_other h.c5 (by omega), World.cell?_setCell_same _ _ _ h.c6, fun j => by rw [World.frozen?_setCell]; exact h.fr j,
    h.toks, setFar h.lay h.am _ _ (by omega) _, setFar h.wts h.aw _ _ (by omega) _, setFar hl ha _ _ (by omega) _, h.am, h.aw, ha, h.mw, h1, h2⟩
/-- The reader, wherever its rows lie. -/
def RdI (w0 : World) (st : Value) (L : List Tok) (size : Int) (pow : Bool) (s : Rd) (W : World) : Prop := ∃ vm vw vt, RdM w0 st L size pow vm vw vt s W
theorem RdI.go {w0 : World} {st : Value} {L : List Tok} {size : Int} {pow : Bool} {s : Rd} {W W' : World} (h : RdI w0 st L size pow s W) (hb : Below W.heap.size W W') : RdI w0 st L size pow s W' := by
  obtain ⟨vm, vw, vt, h⟩ := h
  exact ⟨vm, vw, vt, h.go hb⟩
/-- What lay there already lies in another block than what is made. -/
theorem apart_new {w : World} {k n : Nat} {f : Nat → Nat → Value} {v : Value} (h : SliceAt w v k n f) (b c d : Nat) (hb : w.heap.size ≤ b) : Apart (.slice (some ⟨b, 0, none⟩) c d) v ∧ Apart v (.slice (some ⟨b, 0, none⟩) c d) := by
  have key : ∀ (a : Addr) n' c', v = .slice (some a) n' c' → a.block < w.heap.size := by
    intro a n' c' e
    rcases h with ⟨_, h⟩ | ⟨b', c2, hs, hc, hm, hg⟩
    · rw [h] at e; cases e
    · rw [hs] at e
      injection e with e1
      injection e1 with e1
      subst e1
      exact hg.2.2
  constructor
  · intro a n' c' a' n2 c2 e1 e2
    have := key _ _ _ e2
    injection e1 with e1
    injection e1 with e1
    subst e1
    show b ≠ _
    omega
  · intro a n' c' a' n2 c2 e1 e2
    have := key _ _ _ e1
    injection e2 with e2
    injection e2 with e2
    subst e2
    show _ ≠ b
    omega

set_option maxRecDepth 100000 in
theorem ask_v (v : Value) (w0 : World) (st : Value) (L : List Tok) (size : Int) (pow : Bool) (vm vw vt : Value) (s : Rd) (w : World) (h : RdM w0 st L size pow vm vw vt s w) (hv : ∃ o n c, v = .slice o n c) (k : Nat)
    (hl : SliceAt w v 1 (rowOf k).length (cellF w0.heap.size (rowOf k))) (ha : Above (w0.heap.size + 1) v) (h1 : Apart v vw) (h2 : Apart v vt) :
    Calls Tryz.prog 115 #[.pointer (some ⟨w0.heap.size, 0, none⟩), v] w fun e w' => e = .returned (.tuple #[]) ∧ RdM w0 st L size pow v vw vt { s with may := k } w' := by
  have hF := h.may k v hl ha h1 h2
  have c3 := h.c3
  have f3 := h.fr 3
  obtain ⟨o, n, c, rfl⟩ := hv
  have HF := Lib.hid hF
  clear hF h hl ha h1 h2
  go_enter Tryz.func115, Tryz.ntmps115
  go_wp2_with fail
  go_end0
  exact ⟨rfl, HF.out⟩

set_option maxRecDepth 100000 in
set_option maxHeartbeats 1000000 in
theorem behindOpen_v (w0 : World) (st : Value) (L : List Tok) (size : Int) (pow : Bool) (vm vw vt : Value) (s : Rd) (w : World) (h : RdM w0 st L size pow vm vw vt s w) :
    Calls Tryz.prog 103 #[.pointer (some ⟨w0.heap.size, 0, none⟩)] w fun e w' => e = .returned (.tuple #[]) ∧ ∃ v, RdM w0 st L size pow v vw vt { s with may := 0 } w' := by
  have hu : Below w.heap.size w (w.alloc (.cells #[.func (.func 116) #[.pointer (some ⟨w0.heap.size, 0, none⟩)] #[], .func (.func 117) #[.pointer (some ⟨w0.heap.size, 0, none⟩)] #[], .func (.func 118) #[.pointer (some ⟨w0.heap.size, 0, none⟩)] #[], .func (.func 119) #[.pointer (some ⟨w0.heap.size, 0, none⟩)] #[], .func (.func 120) #[.pointer (some ⟨w0.heap.size, 0, none⟩)] #[]] 85)) := (Below.refl _ _).alloc (Nat.le_refl _) _
  have hl : SliceAt (w.alloc (.cells #[.func (.func 116) #[.pointer (some ⟨w0.heap.size, 0, none⟩)] #[], .func (.func 117) #[.pointer (some ⟨w0.heap.size, 0, none⟩)] #[], .func (.func 118) #[.pointer (some ⟨w0.heap.size, 0, none⟩)] #[], .func (.func 119) #[.pointer (some ⟨w0.heap.size, 0, none⟩)] #[], .func (.func 120) #[.pointer (some ⟨w0.heap.size, 0, none⟩)] #[]] 85)) (.slice (some ⟨w.heap.size, 0, none⟩) 5 5) 1 5 (cellF w0.heap.size (rowOf 0)) := by
    refine .inr ⟨w.heap.size, 5, rfl, Nat.le_refl _, fun j hj => ?_, fun i hi j hj => ?_, fun j => by simp [go_sem], by rw [World.size_alloc]; omega⟩
    · have hj' : j < 5 := by omega
      match j, hj' with
      | 0, _ => simp [go_sem]
      | 1, _ => simp [go_sem]
      | 2, _ => simp [go_sem]
      | 3, _ => simp [go_sem]
      | 4, _ => simp [go_sem]
    · have : j = 0 := by omega
      subst this
      match i, hi with
      | 0, _ => simp [go_sem, cellF, rowOf, fnOf]
      | 1, _ => simp [go_sem, cellF, rowOf, fnOf]
      | 2, _ => simp [go_sem, cellF, rowOf, fnOf]
      | 3, _ => simp [go_sem, cellF, rowOf, fnOf]
      | 4, _ => simp [go_sem, cellF, rowOf, fnOf]
  have hlt := h.lt
  have hA : Above (w0.heap.size + 1) (.slice (some ⟨w.heap.size, 0, none⟩) 5 5) := fun a n c e => by injection e with e; injection e with e; subst e; exact hlt
  have hask := ask_v _ w0 st L size pow vm vw vt s _ (h.go hu) ⟨_, _, _, rfl⟩ 0 hl hA (apart_new h.wts _ _ _ (Nat.le_refl _)).1 (apart_new h.tre _ _ _ (Nat.le_refl _)).1
  clear h hl hA hu
  go_enter Tryz.func103, Tryz.ntmps103
  go_wp2_with fail
  refine hask.mono ?_
  rintro e w2 ⟨rfl, hE⟩
  have HE := Lib.hid hE
  clear hE hask
  go_wp2_with fail
  go_end0
  exact ⟨rfl, _, HE.out⟩

set_option maxRecDepth 100000 in
set_option maxHeartbeats 1000000 in
theorem behindOperator_v (w0 : World) (st : Value) (L : List Tok) (size : Int) (pow : Bool) (vm vw vt : Value) (s : Rd) (w : World) (h : RdM w0 st L size pow vm vw vt s w) :
    Calls Tryz.prog 148 #[.pointer (some ⟨w0.heap.size, 0, none⟩)] w fun e w' => e = .returned (.tuple #[]) ∧ ∃ v, RdM w0 st L size pow v vw vt { s with may := 1 } w' := by
  have hu : Below w.heap.size w (w.alloc (.cells #[.func (.func 117) #[.pointer (some ⟨w0.heap.size, 0, none⟩)] #[], .func (.func 118) #[.pointer (some ⟨w0.heap.size, 0, none⟩)] #[], .func (.func 119) #[.pointer (some ⟨w0.heap.size, 0, none⟩)] #[], .func (.func 120) #[.pointer (some ⟨w0.heap.size, 0, none⟩)] #[]] 85)) := (Below.refl _ _).alloc (Nat.le_refl _) _
  have hl : SliceAt (w.alloc (.cells #[.func (.func 117) #[.pointer (some ⟨w0.heap.size, 0, none⟩)] #[], .func (.func 118) #[.pointer (some ⟨w0.heap.size, 0, none⟩)] #[], .func (.func 119) #[.pointer (some ⟨w0.heap.size, 0, none⟩)] #[], .func (.func 120) #[.pointer (some ⟨w0.heap.size, 0, none⟩)] #[]] 85)) (.slice (some ⟨w.heap.size, 0, none⟩) 4 4) 1 4 (cellF w0.heap.size (rowOf 1)) := by
    refine .inr ⟨w.heap.size, 4, rfl, Nat.le_refl _, fun j hj => ?_, fun i hi j hj => ?_, fun j => by simp [go_sem], by rw [World.size_alloc]; omega⟩
    · have hj' : j < 4 := by omega
      match j, hj' with
      | 0, _ => simp [go_sem]
      | 1, _ => simp [go_sem]
      | 2, _ => simp [go_sem]
      | 3, _ => simp [go_sem]
    · have : j = 0 := by omega
      subst this
      match i, hi with
      | 0, _ => simp [go_sem, cellF, rowOf, fnOf]
      | 1, _ => simp [go_sem, cellF, rowOf, fnOf]
      | 2, _ => simp [go_sem, cellF, rowOf, fnOf]
      | 3, _ => simp [go_sem, cellF, rowOf, fnOf]
  have hlt := h.lt
  have hA : Above (w0.heap.size + 1) (.slice (some ⟨w.heap.size, 0, none⟩) 4 4) := fun a n c e => by injection e with e; injection e with e; subst e; exact hlt
  have hask := ask_v _ w0 st L size pow vm vw vt s _ (h.go hu) ⟨_, _, _, rfl⟩ 1 hl hA (apart_new h.wts _ _ _ (Nat.le_refl _)).1 (apart_new h.tre _ _ _ (Nat.le_refl _)).1
  clear h hl hA hu
  go_enter Tryz.func148, Tryz.ntmps148
  go_wp2_with fail
  refine hask.mono ?_
  rintro e w2 ⟨rfl, hE⟩
  have HE := Lib.hid hE
  clear hE hask
  go_wp2_with fail
  go_end0
  exact ⟨rfl, _, HE.out⟩

set_option maxRecDepth 100000 in
set_option maxHeartbeats 1000000 in
theorem behindPow_v (w0 : World) (st : Value) (L : List Tok) (size : Int) (pow : Bool) (vm vw vt : Value) (s : Rd) (w : World) (h : RdM w0 st L size pow vm vw vt s w) :
    Calls Tryz.prog 164 #[.pointer (some ⟨w0.heap.size, 0, none⟩)] w fun e w' => e = .returned (.tuple #[]) ∧ ∃ v, RdM w0 st L size pow v vw vt { s with may := 4 } w' := by
  have hu : Below w.heap.size w (w.alloc (.cells #[.func (.func 154) #[.pointer (some ⟨w0.heap.size, 0, none⟩)] #[], .func (.func 155) #[.pointer (some ⟨w0.heap.size, 0, none⟩)] #[]] 85)) := (Below.refl _ _).alloc (Nat.le_refl _) _
  have hl : SliceAt (w.alloc (.cells #[.func (.func 154) #[.pointer (some ⟨w0.heap.size, 0, none⟩)] #[], .func (.func 155) #[.pointer (some ⟨w0.heap.size, 0, none⟩)] #[]] 85)) (.slice (some ⟨w.heap.size, 0, none⟩) 2 2) 1 2 (cellF w0.heap.size (rowOf 4)) := by
    refine .inr ⟨w.heap.size, 2, rfl, Nat.le_refl _, fun j hj => ?_, fun i hi j hj => ?_, fun j => by simp [go_sem], by rw [World.size_alloc]; omega⟩
    · have hj' : j < 2 := by omega
      match j, hj' with
      | 0, _ => simp [go_sem]
      | 1, _ => simp [go_sem]
    · have : j = 0 := by omega
      subst this
      match i, hi with
      | 0, _ => simp [go_sem, cellF, rowOf, fnOf]
      | 1, _ => simp [go_sem, cellF, rowOf, fnOf]
  have hlt := h.lt
  have hA : Above (w0.heap.size + 1) (.slice (some ⟨w.heap.size, 0, none⟩) 2 2) := fun a n c e => by injection e with e; injection e with e; subst e; exact hlt
  have hask := ask_v _ w0 st L size pow vm vw vt s _ (h.go hu) ⟨_, _, _, rfl⟩ 4 hl hA (apart_new h.wts _ _ _ (Nat.le_refl _)).1 (apart_new h.tre _ _ _ (Nat.le_refl _)).1
  clear h hl hA hu
  go_enter Tryz.func164, Tryz.ntmps164
  go_wp2_with fail
  refine hask.mono ?_
  rintro e w2 ⟨rfl, hE⟩
  have HE := Lib.hid hE
  clear hE hask
  go_wp2_with fail
  go_end0
  exact ⟨rfl, _, HE.out⟩

set_option maxRecDepth 100000 in
set_option maxHeartbeats 1000000 in
theorem behindSign_v (w0 : World) (st : Value) (L : List Tok) (size : Int) (pow : Bool) (vm vw vt : Value) (s : Rd) (w : World) (h : RdM w0 st L size pow vm vw vt s w) :
    Calls Tryz.prog 166 #[.pointer (some ⟨w0.heap.size, 0, none⟩)] w fun e w' => e = .returned (.tuple #[]) ∧ ∃ v, RdM w0 st L size pow v vw vt { s with may := 5 } w' := by
  have hu : Below w.heap.size w (w.alloc (.cells #[.func (.func 155) #[.pointer (some ⟨w0.heap.size, 0, none⟩)] #[]] 85)) := (Below.refl _ _).alloc (Nat.le_refl _) _
  have hl : SliceAt (w.alloc (.cells #[.func (.func 155) #[.pointer (some ⟨w0.heap.size, 0, none⟩)] #[]] 85)) (.slice (some ⟨w.heap.size, 0, none⟩) 1 1) 1 1 (cellF w0.heap.size (rowOf 5)) := by
    refine .inr ⟨w.heap.size, 1, rfl, Nat.le_refl _, fun j hj => ?_, fun i hi j hj => ?_, fun j => by simp [go_sem], by rw [World.size_alloc]; omega⟩
    · have hj' : j < 1 := by omega
      match j, hj' with
      | 0, _ => simp [go_sem]
    · have : j = 0 := by omega
      subst this
      match i, hi with
      | 0, _ => simp [go_sem, cellF, rowOf, fnOf]
  have hlt := h.lt
  have hA : Above (w0.heap.size + 1) (.slice (some ⟨w.heap.size, 0, none⟩) 1 1) := fun a n c e => by injection e with e; injection e with e; subst e; exact hlt
  have hask := ask_v _ w0 st L size pow vm vw vt s _ (h.go hu) ⟨_, _, _, rfl⟩ 5 hl hA (apart_new h.wts _ _ _ (Nat.le_refl _)).1 (apart_new h.tre _ _ _ (Nat.le_refl _)).1
  clear h hl hA hu
  go_enter Tryz.func166, Tryz.ntmps166
  go_wp2_with fail
  refine hask.mono ?_
  rintro e w2 ⟨rfl, hE⟩
  have HE := Lib.hid hE
  clear hE hask
  go_wp2_with fail
  go_end0
  exact ⟨rfl, _, HE.out⟩

set_option maxRecDepth 100000 in
set_option maxHeartbeats 1000000 in
theorem behindBase_v (w0 : World) (st : Value) (L : List Tok) (size : Int) (pow : Bool) (vm vw vt : Value) (s : Rd) (w : World) (h : RdM w0 st L size pow vm vw vt s w) :
    Calls Tryz.prog 134 #[.pointer (some ⟨w0.heap.size, 0, none⟩)] w fun e w' => e = .returned (.tuple #[]) ∧ ∃ v, RdM w0 st L size pow v vw vt { s with may := 6 } w' := by
  have hu : Below w.heap.size w (w.alloc (.cells #[.func (.func 150) #[.pointer (some ⟨w0.heap.size, 0, none⟩)] #[], .func (.func 151) #[.pointer (some ⟨w0.heap.size, 0, none⟩)] #[], .func (.func 152) #[.pointer (some ⟨w0.heap.size, 0, none⟩)] #[], .func (.func 153) #[.pointer (some ⟨w0.heap.size, 0, none⟩)] #[]] 85)) := (Below.refl _ _).alloc (Nat.le_refl _) _
  have hl : SliceAt (w.alloc (.cells #[.func (.func 150) #[.pointer (some ⟨w0.heap.size, 0, none⟩)] #[], .func (.func 151) #[.pointer (some ⟨w0.heap.size, 0, none⟩)] #[], .func (.func 152) #[.pointer (some ⟨w0.heap.size, 0, none⟩)] #[], .func (.func 153) #[.pointer (some ⟨w0.heap.size, 0, none⟩)] #[]] 85)) (.slice (some ⟨w.heap.size, 0, none⟩) 4 4) 1 4 (cellF w0.heap.size (rowOf 6)) := by
    refine .inr ⟨w.heap.size, 4, rfl, Nat.le_refl _, fun j hj => ?_, fun i hi j hj => ?_, fun j => by simp [go_sem], by rw [World.size_alloc]; omega⟩
    · have hj' : j < 4 := by omega
      match j, hj' with
      | 0, _ => simp [go_sem]
      | 1, _ => simp [go_sem]
      | 2, _ => simp [go_sem]
      | 3, _ => simp [go_sem]
    · have : j = 0 := by omega
      subst this
      match i, hi with
      | 0, _ => simp [go_sem, cellF, rowOf, fnOf]
      | 1, _ => simp [go_sem, cellF, rowOf, fnOf]
      | 2, _ => simp [go_sem, cellF, rowOf, fnOf]
      | 3, _ => simp [go_sem, cellF, rowOf, fnOf]
  have hlt := h.lt
  have hA : Above (w0.heap.size + 1) (.slice (some ⟨w.heap.size, 0, none⟩) 4 4) := fun a n c e => by injection e with e; injection e with e; subst e; exact hlt
  have hask := ask_v _ w0 st L size pow vm vw vt s _ (h.go hu) ⟨_, _, _, rfl⟩ 6 hl hA (apart_new h.wts _ _ _ (Nat.le_refl _)).1 (apart_new h.tre _ _ _ (Nat.le_refl _)).1
  clear h hl hA hu
  go_enter Tryz.func134, Tryz.ntmps134
  go_wp2_with fail
  refine hask.mono ?_
  rintro e w2 ⟨rfl, hE⟩
  have HE := Lib.hid hE
  clear hE hask
  go_wp2_with fail
  go_end0
  exact ⟨rfl, _, HE.out⟩

set_option maxRecDepth 100000 in
set_option maxHeartbeats 1000000 in
theorem behindNote_v (w0 : World) (st : Value) (L : List Tok) (size : Int) (pow : Bool) (vm vw vt : Value) (s : Rd) (w : World) (h : RdM w0 st L size pow vm vw vt s w) :
    Calls Tryz.prog 156 #[.pointer (some ⟨w0.heap.size, 0, none⟩)] w fun e w' => e = .returned (.tuple #[]) ∧ ∃ v, RdM w0 st L size pow v vw vt { s with may := 7 } w' := by
  have hu : Below w.heap.size w (w.alloc (.cells #[.func (.func 151) #[.pointer (some ⟨w0.heap.size, 0, none⟩)] #[], .func (.func 152) #[.pointer (some ⟨w0.heap.size, 0, none⟩)] #[], .func (.func 153) #[.pointer (some ⟨w0.heap.size, 0, none⟩)] #[]] 85)) := (Below.refl _ _).alloc (Nat.le_refl _) _
  have hl : SliceAt (w.alloc (.cells #[.func (.func 151) #[.pointer (some ⟨w0.heap.size, 0, none⟩)] #[], .func (.func 152) #[.pointer (some ⟨w0.heap.size, 0, none⟩)] #[], .func (.func 153) #[.pointer (some ⟨w0.heap.size, 0, none⟩)] #[]] 85)) (.slice (some ⟨w.heap.size, 0, none⟩) 3 3) 1 3 (cellF w0.heap.size (rowOf 7)) := by
    refine .inr ⟨w.heap.size, 3, rfl, Nat.le_refl _, fun j hj => ?_, fun i hi j hj => ?_, fun j => by simp [go_sem], by rw [World.size_alloc]; omega⟩
    · have hj' : j < 3 := by omega
      match j, hj' with
      | 0, _ => simp [go_sem]
      | 1, _ => simp [go_sem]
      | 2, _ => simp [go_sem]
    · have : j = 0 := by omega
      subst this
      match i, hi with
      | 0, _ => simp [go_sem, cellF, rowOf, fnOf]
      | 1, _ => simp [go_sem, cellF, rowOf, fnOf]
      | 2, _ => simp [go_sem, cellF, rowOf, fnOf]
  have hlt := h.lt
  have hA : Above (w0.heap.size + 1) (.slice (some ⟨w.heap.size, 0, none⟩) 3 3) := fun a n c e => by injection e with e; injection e with e; subst e; exact hlt
  have hask := ask_v _ w0 st L size pow vm vw vt s _ (h.go hu) ⟨_, _, _, rfl⟩ 7 hl hA (apart_new h.wts _ _ _ (Nat.le_refl _)).1 (apart_new h.tre _ _ _ (Nat.le_refl _)).1
  clear h hl hA hu
  go_enter Tryz.func156, Tryz.ntmps156
  go_wp2_with fail
  refine hask.mono ?_
  rintro e w2 ⟨rfl, hE⟩
  have HE := Lib.hid hE
  clear hE hask
  go_wp2_with fail
  go_end0
  exact ⟨rfl, _, HE.out⟩

/-- What lies of a token. -/
theorem RdM.tok {w0 : World} {st : Value} {L : List Tok} {size : Int} {pow : Bool} {vm vw vt : Value} {s : Rd} {W : World} (h : RdM w0 st L size pow vm vw vt s W) {i : Nat} (hi : i < L.length) :
    ∃ b c, st = .slice (some ⟨b, 0, none⟩) L.length c ∧ W.cell? ⟨b, i * 4, none⟩ = some (.int .i64 (L.getD i default).kind) ∧ W.cell? ⟨b, i * 4 + 1, none⟩ = some (.int .i64 ((L.getD i default).pos : Int)) ∧ W.cell? ⟨b, i * 4 + 2, none⟩ = some (.string (bs (L.getD i default).text)) ∧ W.cell? ⟨b, i * 4 + 3, none⟩ = some (.int .i64 (L.getD i default).num) := by
  rcases h.toks with ⟨h0, _⟩ | ⟨b, c, hs, hc, hm, hg⟩
  · omega
  · have key : ∀ j, j < 4 → W.cell? ⟨b, i * 4 + j, none⟩ = some (cellK L i j) := fun j hj => (h.below.cell (p := ⟨b, i * 4 + j, none⟩) hg.2.2).trans (hg.1 i hi j hj)
    exact ⟨b, c, hs, key 0 (by omega), key 1 (by omega), key 2 (by omega), key 3 (by omega)⟩

set_option maxRecDepth 100000 in
set_option maxHeartbeats 1000000 in
theorem is_v (i : Nat) (k : Int) (w0 : World) (st : Value) (L : List Tok) (size : Int) (pow : Bool) (vm vw vt : Value) (s : Rd) (w : World) (h : RdM w0 st L size pow vm vw vt s w) (hL : L.length ≤ 1000) :
    Calls Tryz.prog 130 #[.pointer (some ⟨w0.heap.size, 0, none⟩), .int .i64 (i : Int), .int .i64 k] w fun e w' => e = .returned (.bool (isK L i k)) ∧ w = w' := by
  have hli : (L.length : Int) ≤ 1000 := by omega
  have c0 := h.c0
  by_cases hi : i < L.length
  · obtain ⟨b, c, rfl, t0, _, _, _⟩ := h.tok hi
    have hii : (i : Int) < L.length := by omega
    have HE : Hid (isK L i k = ((L.getD i default).kind == k)) := by
      show _ = _
      unfold isK
      rw [decide_eq_true hi, Bool.true_and]
      rfl
    generalize (L.getD i default).kind = kd at *
    clear h
    go_enter Tryz.func130, Tryz.ntmps130
    go_wp2_with fail
    go_ret
    exact ⟨by rw [HE.out]; rfl, rfl⟩
  · have hii : ¬ (i : Int) < L.length := by omega
    have HE : Hid (isK L i k = false) := by
      show _ = _
      unfold isK
      rw [decide_eq_false hi, Bool.false_and]
    obtain ⟨o, c, rfl⟩ := SliceAt.slice h.toks
    clear h
    go_enter Tryz.func130, Tryz.ntmps130
    go_wp2_with fail
    go_ret
    exact ⟨by rw [HE.out]; rfl, rfl⟩

set_option maxRecDepth 100000 in
theorem nested_v (w0 : World) (st : Value) (L : List Tok) (size : Int) (pow : Bool) (vm vw vt : Value) (s : Rd) (w : World) (h : RdM w0 st L size pow vm vw vt s w) (hl : s.waits.length ≤ 1000) :
    Calls Tryz.prog 135 #[.pointer (some ⟨w0.heap.size, 0, none⟩)] w fun e w' => e = .returned (.int .i64 ((s.waits.length : Int) - 1)) ∧ w = w' := by
  have hli : (s.waits.length : Int) ≤ 1000 := by omega
  have c4 := h.c4
  obtain ⟨o, c, rfl⟩ := SliceAt.slice h.wts
  generalize s.waits.length = n at *
  clear h
  go_enter Tryz.func135, Tryz.ntmps135
  go_wp2_with fail
  go_ret
  exact ⟨rfl, rfl⟩

set_option maxRecDepth 100000 in
set_option maxHeartbeats 1000000 in
theorem place_v (i : Nat) (w0 : World) (st : Value) (L : List Tok) (size : Int) (pow : Bool) (vm vw vt : Value) (s : Rd) (w : World) (h : RdM w0 st L size pow vm vw vt s w) (hL : L.length ≤ 1000) :
    Calls Tryz.prog 84 #[.pointer (some ⟨w0.heap.size, 0, none⟩), .int .i64 (i : Int)] w fun e w' => e = .returned (.int .i64 (placeG L size i)) ∧ w = w' := by
  have hli : (L.length : Int) ≤ 1000 := by omega
  have c0 := h.c0
  have c1 := h.c1
  by_cases hi : i < L.length
  · obtain ⟨b, c, rfl, _, t1, _, _⟩ := h.tok hi
    have hii : (i : Int) < L.length := by omega
    have HE : Hid (placeG L size i = ((L.getD i default).pos : Int)) := by show _ = _; unfold placeG; rw [if_pos hi]
    generalize (L.getD i default).pos = p at *
    clear h
    go_enter Tryz.func84, Tryz.ntmps84
    go_wp2_with fail
    go_ret
    exact ⟨by rw [HE.out]; rfl, rfl⟩
  · have hii : ¬ (i : Int) < L.length := by omega
    have HE : Hid (placeG L size i = size) := by show _ = _; unfold placeG; rw [if_neg hi]
    obtain ⟨o, c, rfl⟩ := SliceAt.slice h.toks
    clear h
    go_enter Tryz.func84, Tryz.ntmps84
    go_wp2_with fail
    go_ret
    exact ⟨by rw [HE.out]; rfl, rfl⟩

end Go.Proofs.YthofogokpolhdaaGreatDoor.Parses

namespace Go.Proofs.YthofogokpolhdaaGreatDoor.Parses
open Go.RowKit Go.Shelf
open Go.Proofs.YthofogokpolhdaaGreatDoor.Trees (Stp StepsAt cellS StAt elem_step cell_oneS)
open Go.Proofs.YthofogokpolhdaaGreatDoor.Toks (Tok ToksAt cellK cell_lt cell_same SliceAt Above Grid Spare Elem elem_of append_any both)
open Go.Proofs.YthofogokpolhdaaGreatDoor.Style (bs bs_size bs_at getD_at bs_of)
set_option linter.unusedVariables false
set_option linter.unusedSimpArgs false

theorem alloc_own (W : World) (o : Obj) : Below W.heap.size W (W.alloc o) := (Below.refl _ _).alloc (Nat.le_refl _) _
/-- What an append keeps: all blocks but the row's own. -/
structure Adds (w V : World) (s1 s : Value) : Prop where
  os : V.os = w.os
  tape : V.tape = w.tape
  output : V.output = w.output
  size : w.heap.size ≤ V.heap.size
  keep : ∀ D, D < w.heap.size → (∀ a n c, s1 = .slice (some a) n c → a.block ≠ D) → V.heap[D]? = w.heap[D]?
  way : (∃ n c, s = .slice (some ⟨w.heap.size, 0, none⟩) n c) ∨ (∃ b n c n' c', s1 = .slice (some ⟨b, 0, none⟩) n c ∧ s = .slice (some ⟨b, 0, none⟩) n' c')
theorem Adds.below {w V : World} {s1 s : Value} (h : Adds w V s1 s) {B : Nat} (ha : Above B s1) (hB : B ≤ w.heap.size) : Below B w V :=
  ⟨h.os, h.tape, h.output, h.size, fun k hk => h.keep k (by omega) (fun a n c e => by have := ha a n c e; omega)⟩
theorem Adds.above {w V : World} {s1 s : Value} (h : Adds w V s1 s) {B : Nat} (ha : Above B s1) (hB : B ≤ w.heap.size) : Above B s := by
  intro a n c e
  rcases h.way with ⟨n', c', rfl⟩ | ⟨b, n1, c1, n', c', e1, rfl⟩
  · injection e with e; injection e with e; subst e; exact hB
  · have := ha _ _ _ e1
    injection e with e; injection e with e; subst e; exact this
theorem Adds.slice {w V : World} {s1 s v : Value} {k n : Nat} {f : Nat → Nat → Value} (h : Adds w V s1 s) (hv : SliceAt w v k n f) (ha : Apart v s1) : SliceAt V v k n f := by
  rcases hv with hv | ⟨b, c, hs, hc, hm, hg⟩
  · exact .inl hv
  · have hb := h.keep b hg.2.2 (fun a n' c' e => fun e2 => ha _ _ _ _ _ _ hs e e2.symm)
    exact .inr ⟨b, c, hs, hc, hm.block hb, hg.block h.size hb⟩
theorem Adds.apart {w V : World} {s1 s v : Value} {k n : Nat} {f : Nat → Nat → Value} (h : Adds w V s1 s) (hv : SliceAt w v k n f) (ha : Apart v s1) : Apart v s := by
  rcases h.way with ⟨n', c', rfl⟩ | ⟨b, n1, c1, n', c', e1, rfl⟩
  · exact (apart_new hv _ _ _ (Nat.le_refl _)).2
  · intro a m d a' m' d' e e'
    injection e' with e'; injection e' with e'; subst e'
    exact ha _ _ _ _ _ _ e e1
theorem Apart.symm {v v' : Value} (h : Apart v v') : Apart v' v := fun a n c a' n' c' e e' => fun e2 => h _ _ _ _ _ _ e' e e2.symm
theorem app_sep {w : World} {t e : TypeId} {k n m c1 : Nat} {o1 : Option Addr} {s2 : Value} {f g : Nat → Nat → Value} (hE : Elem t e k) (hA : SliceAt w (.slice o1 n c1) k n f) (h1 : ∀ i, i < n → ∀ j, j < k → (f i j).oneCell' = true)
    (hB : Src Tryz.prog k t s2 m (Toks.flat k m g) w) (hn : n + m ≤ 2000) (h0 : 0 < n + m) :
    ∃ V s, (∀ ty, (Builtin.append_ #[t, t] ty #[.slice o1 n c1, s2]).run Tryz.prog w = .ok s V) ∧ SliceAt V s k (n + m) (both n f g) ∧ Adds w V (.slice o1 n c1) s := by
  obtain ⟨V, s, hr, hj⟩ := append_any hE hA h1 hB hn (.inl h0)
  refine ⟨V, s, hr, hj.rows, ?_⟩
  rcases hj.way with ⟨c, rfl, hb⟩ | ⟨b, c, e1, rfl, rfl⟩
  · exact ⟨hb.os, hb.tape, hb.output, hb.size, fun D hD _ => hb.block D hD, .inl ⟨_, _, rfl⟩⟩
  · have ho := Toks.only_cells b (Toks.flat k m g) (n * k) w w (Toks.Only.refl b w)
    exact ⟨ho.os, ho.tape, ho.output, Nat.le_of_eq ho.size.symm, fun D hD hn => ho.block D (fun e => hn _ _ _ e1 e.symm), .inr ⟨b, _, _, _, _, e1, rfl⟩⟩
theorem step_one {P : Program} {ops : Array Oper} {o : Oper} {a : Act} {w : World} {K : Act → World → Prop} {Q : Exit → Act → World → Prop} {E : Prop}
    (hw : Region.wanted o (yielded ops a.tmps) = true) (s x : Operand) (t tx : TypeId) (ho : o.op = .call { callee := .builtin .append, args := #[s, x], argTypes := #[t, tx] }) {v : Value} {V : World}
    (hr : ∀ ty, (Builtin.append_ #[t, tx] ty #[a.eval s, a.eval x]).run P w = .ok v V) (hK : K (a.put o.dst v) V) :
    if Region.wanted o (yielded ops a.tmps) = true then Oper.wp P o a w K Q else E := by
  rw [if_pos hw]
  unfold Oper.wp execOp
  simp only [ho, resolve, invoke, builtin, Sem.run_bind, Sem.run_pure, Result.andThen_ok, List.map_toArray, List.map_cons, List.map_nil, hr]
  exact hK
theorem set_st {W : World} {b : Nat} {x : Stp} (h : StAt W b x) {b' j : Nat} (hn : b ≠ b') (u : Value) : StAt (W.setCell ⟨b', j, none⟩ u) b x := by
  obtain ⟨y0, y1, y2, y3, y4, y5⟩ := h
  have key : ∀ (i : Nat) (v : Value), W.cell? ⟨b, i, none⟩ = some v → (W.setCell ⟨b', j, none⟩ u).cell? ⟨b, i, none⟩ = some v := fun i v hv => by
    rw [World.cell?_setCell_other _ _ _ _ (by intro hh; injection hh with e1 e2; omega)]; exact hv
  exact ⟨key _ _ y0, key _ _ y1, key _ _ y2, key _ _ y3, key _ _ y4, key _ _ y5⟩
theorem same_st {W W' : World} {b : Nat} {x : Stp} (h : StAt W b x) (hb : W'.heap[b]? = W.heap[b]?) : StAt W' b x := by
  obtain ⟨y0, y1, y2, y3, y4, y5⟩ := h
  exact ⟨cell_same y0 hb, cell_same y1 hb, cell_same y2 hb, cell_same y3 hb, cell_same y4 hb, cell_same y5 hb⟩
/-- The steps have grown. -/
theorem RdM.tree_adds {w0 : World} {st : Value} {L : List Tok} {size : Int} {pow : Bool} {vm vw vt : Value} {s : Rd} {W X : World} {v : Value} (h : RdM w0 st L size pow vm vw vt s W) (hX : Adds W X vt v) (l : List Stp) (hl : StepsAt X v l) :
    RdM w0 st L size pow vm vw v { s with tree := l } (X.setCell ⟨w0.heap.size, 6, none⟩ v) := by
  have hlt := h.lt
  have hb := hX.below h.at_ (by omega)
  have hs : ∀ j u, W.cell? ⟨w0.heap.size, j, none⟩ = some u → X.cell? ⟨w0.heap.size, j, none⟩ = some u := fun j u hu => (hb.cell (p := ⟨w0.heap.size, j, none⟩) (show w0.heap.size < w0.heap.size + 1 by omega)).trans hu
  have hX2 : RdM w0 st L size pow vm vw v { s with tree := l } (X.setCell ⟨w0.heap.size, 6, none⟩ v) :=
    ⟨(h.below.trans (hb.mono (by omega))).setCell (p := ⟨w0.heap.size, 6, none⟩) (Nat.le_refl _) v, set_other (hs _ _ h.c0) (by omega), set_other (hs _ _ h.c1) (by omega), set_other (hs _ _ h.c2) (by omega), set_other (hs _ _ h.c3) (by omega), set_other (hs _ _ h.c4) (by omega), set_other (hs _ _ h.c5) (by omega), World.cell?_setCell_same _ _ _ (hs _ _ h.c6),
      fun j => by rw [World.frozen?_setCell]; exact (hb.frozen (p := ⟨w0.heap.size, j, none⟩) (show w0.heap.size < w0.heap.size + 1 by omega)).trans (h.fr j), h.toks, setFar (hX.slice h.lay h.mt) h.am _ _ (by omega) _, setFar (hX.slice h.wts h.wt) h.aw _ _ (by omega) _, setFar hl (hX.above h.at_ (by omega)) _ _ (by omega) _,
      h.am, h.aw, hX.above h.at_ (by omega), h.mw, hX.apart h.lay h.mt, hX.apart h.wts h.wt⟩
  exact hX2
theorem RdM.waits_adds {w0 : World} {st : Value} {L : List Tok} {size : Int} {pow : Bool} {vm vw vt : Value} {s : Rd} {W X : World} {v : Value} (h : RdM w0 st L size pow vm vw vt s W) (hX : Adds W X vw v) (l : List Int) (hl : SliceAt X v 1 l.length (cellI l)) :
    RdM w0 st L size pow vm v vt { s with waits := l } (X.setCell ⟨w0.heap.size, 4, none⟩ v) := by
  have hlt := h.lt
  have hb := hX.below h.aw (by omega)
  have hs : ∀ j u, W.cell? ⟨w0.heap.size, j, none⟩ = some u → X.cell? ⟨w0.heap.size, j, none⟩ = some u := fun j u hu => (hb.cell (p := ⟨w0.heap.size, j, none⟩) (show w0.heap.size < w0.heap.size + 1 by omega)).trans hu
  exact ⟨(h.below.trans (hb.mono (by omega))).setCell (p := ⟨w0.heap.size, 4, none⟩) (Nat.le_refl _) v, set_other (hs _ _ h.c0) (by omega), set_other (hs _ _ h.c1) (by omega), set_other (hs _ _ h.c2) (by omega), set_other (hs _ _ h.c3) (by omega), World.cell?_setCell_same _ _ _ (hs _ _ h.c4), set_other (hs _ _ h.c5) (by omega), set_other (hs _ _ h.c6) (by omega),
      fun j => by rw [World.frozen?_setCell]; exact (hb.frozen (p := ⟨w0.heap.size, j, none⟩) (show w0.heap.size < w0.heap.size + 1 by omega)).trans (h.fr j), h.toks, setFar (hX.slice h.lay h.mw) h.am _ _ (by omega) _, setFar hl (hX.above h.aw (by omega)) _ _ (by omega) _, setFar (hX.slice h.tre h.wt.symm) h.at_ _ _ (by omega) _,
      h.am, hX.above h.aw (by omega), h.at_, hX.apart h.lay h.mw, h.mt, (hX.apart h.tre h.wt.symm).symm⟩
theorem elem_int : Elem 22 3 1 := elem_of (b := 8) (by omega) (by omega) (by kernel_rfl) (by kernel_rfl)
theorem steps_cat (L : List Stp) (x : Stp) {V : World} {s : Value} (h : SliceAt V s 6 (L.length + 1) (both L.length (cellS L) (cellS [x]))) : StepsAt V s (L ++ [x]) := by
  show SliceAt V s 6 (L ++ [x]).length _
  rw [List.length_append]
  refine SliceAt.ext h (fun i hi j hj => ?_)
  unfold both cellS
  by_cases hi2 : i < L.length
  · rw [if_pos hi2, List.getD_eq_getElem?_getD (l := L ++ [x]), List.getElem?_append_left hi2, ← List.getD_eq_getElem?_getD]
  · rw [if_neg hi2, List.getD_eq_getElem?_getD (l := L ++ [x]), List.getElem?_append_right (by omega), ← List.getD_eq_getElem?_getD]
theorem ints_cat (l : List Int) (x : Int) {V : World} {s : Value} (h : SliceAt V s 1 (l.length + 1) (both l.length (cellI l) (cellI [x]))) : SliceAt V s 1 (l ++ [x]).length (cellI (l ++ [x])) := by
  rw [List.length_append]
  refine SliceAt.ext h (fun i hi j hj => ?_)
  unfold both cellI
  by_cases hi2 : i < l.length
  · rw [if_pos hi2, List.getD_eq_getElem?_getD (l := l ++ [x]), List.getElem?_append_left hi2, ← List.getD_eq_getElem?_getD]
  · rw [if_neg hi2, List.getD_eq_getElem?_getD (l := l ++ [x]), List.getElem?_append_right (by omega), ← List.getD_eq_getElem?_getD]

set_option maxRecDepth 100000 in
set_option maxHeartbeats 4000000 in
theorem put_v (xo xp xa xn xm : Int) (xt : List UInt8) (w0 : World) (st : Value) (L : List Tok) (size : Int) (pow : Bool) (vm vw vt : Value) (s : Rd) (w : World) (h : RdM w0 st L size pow vm vw vt s w) (hl : s.tree.length ≤ 1000) :
    Calls Tryz.prog 132 #[.pointer (some ⟨w0.heap.size, 0, none⟩), .agg #[.int .i64 xo, .int .i64 xp, .int .i64 xa, .int .i64 xn, .int .i64 xm, .string (bs xt)]] w fun e w' => e = .returned (.tuple #[]) ∧ ∃ v, RdM w0 st L size pow vm vw v (putS s ⟨xo, -1, xa, xn, xm, xt⟩) w' := by
  have hlt := h.lt
  have hSt : StAt (w.alloc (.cells #[.int .i64 xo, .int .i64 (-1), .int .i64 xa, .int .i64 xn, .int .i64 xm, .string (bs xt)] 47)) w.heap.size ⟨xo, -1, xa, xn, xm, xt⟩ := StAt.new w ⟨xo, -1, xa, xn, xm, xt⟩
  have hu1 := alloc_own w (.cells #[.int .i64 xo, .int .i64 (-1), .int .i64 xa, .int .i64 xn, .int .i64 xm, .string (bs xt)] 47)
  have h1 := h.go hu1
  have hz1 : (w.alloc (.cells #[.int .i64 xo, .int .i64 (-1), .int .i64 xa, .int .i64 xn, .int .i64 xm, .string (bs xt)] 47)).heap.size = w.heap.size + 1 := World.size_alloc _ _
  go_enter Tryz.func132, Tryz.ntmps132
  go_upto_region 2 with fail
  generalize w.alloc (.cells #[.int .i64 xo, .int .i64 (-1), .int .i64 xa, .int .i64 xn, .int .i64 xm, .string (bs xt)] 47) = W1 at *
  have hu2 := alloc_own W1.drew (.cells #[.int .i64 xo, .int .i64 (-1), .int .i64 xa, .int .i64 xn, .int .i64 xm, .string (bs xt)] 47)
  have h2 := (h1.go (Below.refl _ _).drew).go hu2
  have c6 := h1.c6
  have c6a : (W1.alloc (.cells #[.int .i64 xo, .int .i64 (-1), .int .i64 xa, .int .i64 xn, .int .i64 xm, .string (bs xt)] 47)).cell? ⟨w0.heap.size, 6, none⟩ = some vt := h2.c6
  have hSx : StepsAt (W1.drew.alloc (.cells #[.int .i64 xo, .int .i64 (-1), .int .i64 xa, .int .i64 xn, .int .i64 xm, .string (bs xt)] 47)) (.slice (some ⟨W1.heap.size, 0, none⟩) 1 1) [⟨xo, -1, xa, xn, xm, xt⟩] := StepsAt.new W1.drew 47 [⟨xo, -1, xa, xn, xm, xt⟩] _ rfl
  obtain ⟨o6, c6', rfl⟩ := SliceAt.slice h2.tre
  obtain ⟨X, v, happ, hrows, hadds⟩ := app_sep elem_step h2.tre (cell_oneS _) (SliceAt.source elem_step hSx (cell_oneS _)) (by simp only [List.length_cons, List.length_nil]; omega) (by simp)
  have hE := h2.tree_adds hadds _ (steps_cat _ _ hrows)
  obtain ⟨ov, nv, cv, rfl⟩ : ∃ o n c, v = .slice o n c := by obtain ⟨o, c, e⟩ := SliceAt.slice hrows; exact ⟨_, _, _, e⟩
  have c6X : X.cell? ⟨w0.heap.size, 6, none⟩ = some (.slice o6 s.tree.length c6') := ((hadds.below h2.at_ (by have := h2.lt; omega)).cell (p := ⟨w0.heap.size, 6, none⟩) (show w0.heap.size < w0.heap.size + 1 by omega)).trans h2.c6
  have f6X : X.frozen? ⟨w0.heap.size, 6, none⟩ = false := ((hadds.below h2.at_ (by have := h2.lt; omega)).frozen (p := ⟨w0.heap.size, 6, none⟩) (show w0.heap.size < w0.heap.size + 1 by omega)).trans (h2.fr 6)
  have hlt2 : w.heap.size < (W1.drew.alloc (.cells #[.int .i64 xo, .int .i64 (-1), .int .i64 xa, .int .i64 xn, .int .i64 xm, .string (bs xt)] 47)).heap.size := by rw [World.size_alloc]; show w.heap.size < W1.heap.size + 1; omega
  have hX : StAt X w.heap.size ⟨xo, -1, xa, xn, xm, xt⟩ := same_st ((hSt.go (Below.refl _ _).drew).go hu2) (hadds.keep _ hlt2 (fun a n c e => by
    rcases h.tre with ⟨_, h0⟩ | ⟨b', c2, hs', _, _, hg⟩
    · rw [h0] at e; cases e
    · rw [hs'] at e
      injection e with e1
      injection e1 with e1
      subst e1
      have := hg.2.2
      show b' ≠ _
      omega))
  have hX2 := set_st (b' := w0.heap.size) (j := 6) hX (by omega) (.slice ov nv cv)
  have HE := Lib.hid hE
  clear hE h h1 h2 hrows hadds hSx hu1 hu2 hlt2 hz1
  refine wp_region_held_drew (S := fun v => StAt v w.heap.size ⟨xo, -1, xa, xn, xm, xt⟩) (by kernel_rfl) (StAt.go hSt (Below.refl _ _).drew) (fun hHeld => ?_)
  refine wpAnyH_take (i := 0) (v := ?_) rfl (by kernel_rfl) (by kernel_rfl) (by kernel_rfl) (fun _ _ _ h => h) (Or.inl ⟨by rfl, ?_⟩) hHeld ?_
  rotate_left
  · intro u hSu; obtain ⟨y0, y1, y2, y3, y4, y5⟩ := hSu; dsimp only at y0 y1 y2 y3 y4 y5; go_simp; try with_reducible rfl
  simp only [Act.put, List.setIfInBounds_toArray, List.set_cons_zero, List.set_cons_succ, List.getElem_toArray, List.getElem_cons_succ, List.getElem_cons_zero]
  refine wpAnyH_take (i := 1) (v := ?_) rfl (by kernel_rfl) (by kernel_rfl) (by kernel_rfl) (fun _ _ _ h => h) (Or.inl ⟨by rfl, ?_⟩) hHeld ?_
  rotate_left
  · intro u hSu; obtain ⟨y0, y1, y2, y3, y4, y5⟩ := hSu; dsimp only at y0 y1 y2 y3 y4 y5; go_simp; try with_reducible rfl
  simp only [Act.put, List.setIfInBounds_toArray, List.set_cons_zero, List.set_cons_succ, List.getElem_toArray, List.getElem_cons_succ, List.getElem_cons_zero]
  refine wpAnyH_take (i := 2) (v := ?_) rfl (by kernel_rfl) (by kernel_rfl) (by kernel_rfl) (fun _ _ _ h => h) (Or.inl ⟨by rfl, ?_⟩) hHeld ?_
  rotate_left
  · intro u hSu; obtain ⟨y0, y1, y2, y3, y4, y5⟩ := hSu; dsimp only at y0 y1 y2 y3 y4 y5; go_simp; try with_reducible rfl
  simp only [Act.put, List.setIfInBounds_toArray, List.set_cons_zero, List.set_cons_succ, List.getElem_toArray, List.getElem_cons_succ, List.getElem_cons_zero]
  refine wpAnyH_take (i := 3) (v := ?_) rfl (by kernel_rfl) (by kernel_rfl) (by kernel_rfl) (fun _ _ _ h => h) (Or.inl ⟨by rfl, ?_⟩) hHeld ?_
  rotate_left
  · intro u hSu; obtain ⟨y0, y1, y2, y3, y4, y5⟩ := hSu; dsimp only at y0 y1 y2 y3 y4 y5; go_simp; try with_reducible rfl
  simp only [Act.put, List.setIfInBounds_toArray, List.set_cons_zero, List.set_cons_succ, List.getElem_toArray, List.getElem_cons_succ, List.getElem_cons_zero]
  refine wpAnyH_take (i := 5) (v := ?_) rfl (by kernel_rfl) (by kernel_rfl) (by kernel_rfl) (fun _ _ _ h => h) (Or.inl ⟨by rfl, ?_⟩) hHeld ?_
  rotate_left
  · intro u hSu; obtain ⟨y0, y1, y2, y3, y4, y5⟩ := hSu; dsimp only at y0 y1 y2 y3 y4 y5; go_simp; try with_reducible rfl
  simp only [Act.put, List.setIfInBounds_toArray, List.set_cons_zero, List.set_cons_succ, List.getElem_toArray, List.getElem_cons_succ, List.getElem_cons_zero]
  refine wpAnyH_ready (rs := [4, 6]) (by kernel_rfl) (by simp) ?_
  refine AllReadyH.cons rfl (fun K hK => ?_) ?_
  · skip
    go_simp
    refine hK.out _ _ hHeld (fun hHeld2 => ?_)
    clear hK K hHeld
    have hHeld := hHeld2
    clear hHeld2
    try simp only [Act.put, List.setIfInBounds_toArray, List.set_cons_zero, List.set_cons_succ, List.getElem_toArray, List.getElem_cons_succ, List.getElem_cons_zero]
    refine wpAnyH_ready (rs := [6]) (by kernel_rfl) (by simp) ?_
    refine AllReadyH.cons rfl (fun K hK => ?_) AllReadyH.nil
    go_simp
    refine hK.out _ _ (StAt.go hHeld (alloc_own _ _)) (fun hHeld2 => ?_)
    clear hK K hHeld
    have hHeld := hHeld2
    clear hHeld2
    try simp only [Act.put, List.setIfInBounds_toArray, List.set_cons_zero, List.set_cons_succ, List.getElem_toArray, List.getElem_cons_succ, List.getElem_cons_zero]
    refine wpAnyH_ready (rs := [7]) (by kernel_rfl) (by simp) ?_
    refine AllReadyH.cons rfl (fun K hK => ?_) AllReadyH.nil
    refine step_one (by rfl) (.tmp 9) (.tmp 11) 34 34 rfl happ ?_
    refine hK.out _ _ hX (fun hHeld2 => ?_)
    clear hK K hHeld
    have hHeld := hHeld2
    clear hHeld2
    try simp only [Act.put, List.setIfInBounds_toArray, List.set_cons_zero, List.set_cons_succ, List.getElem_toArray, List.getElem_cons_succ, List.getElem_cons_zero]
    refine wpAnyH_take (i := 8) (v := ?_) rfl (by kernel_rfl) (by kernel_rfl) (by kernel_rfl) (fun _ _ _ h => h) (Or.inl ⟨by rfl, ?_⟩) hHeld ?_
    rotate_left
    · intro u hSu; obtain ⟨y0, y1, y2, y3, y4, y5⟩ := hSu; dsimp only at y0 y1 y2 y3 y4 y5; go_simp; try with_reducible rfl
    simp only [Act.put, List.setIfInBounds_toArray, List.set_cons_zero, List.set_cons_succ, List.getElem_toArray, List.getElem_cons_succ, List.getElem_cons_zero]
    refine wpAnyH_take (i := 9) (v := ?_) rfl (by kernel_rfl) (by kernel_rfl) (by kernel_rfl) (fun _ _ _ h => h) (Or.inl ⟨by rfl, ?_⟩) hHeld ?_
    rotate_left
    · intro u hSu; obtain ⟨y0, y1, y2, y3, y4, y5⟩ := hSu; dsimp only at y0 y1 y2 y3 y4 y5; go_simp; try with_reducible rfl
    simp only [Act.put, List.setIfInBounds_toArray, List.set_cons_zero, List.set_cons_succ, List.getElem_toArray, List.getElem_cons_succ, List.getElem_cons_zero]
    refine wpAnyH_ready (rs := [10]) (by kernel_rfl) (by simp) ?_
    refine AllReadyH.cons rfl (fun K hK => ?_) AllReadyH.nil
    go_simp
    refine hK.out _ _ hX2 (fun hHeld2 => ?_)
    clear hK K hHeld
    have hHeld := hHeld2
    clear hHeld2
    try simp only [Act.put, List.setIfInBounds_toArray, List.set_cons_zero, List.set_cons_succ, List.getElem_toArray, List.getElem_cons_succ, List.getElem_cons_zero]
    refine wpAnyH_done (by kernel_rfl) ?_ _
    clear hHeld
    go_wp2_with fail
    go_end0
    exact ⟨rfl, _, HE.out⟩
  refine AllReadyH.cons rfl (fun K hK => ?_) AllReadyH.nil
  go_simp
  refine hK.out _ _ (StAt.go hHeld (alloc_own _ _)) (fun hHeld2 => ?_)
  clear hK K hHeld
  have hHeld := hHeld2
  clear hHeld2
  try simp only [Act.put, List.setIfInBounds_toArray, List.set_cons_zero, List.set_cons_succ, List.getElem_toArray, List.getElem_cons_succ, List.getElem_cons_zero]
  refine wpAnyH_ready (rs := [4]) (by kernel_rfl) (by simp) ?_
  refine AllReadyH.cons rfl (fun K hK => ?_) AllReadyH.nil
  go_simp
  refine hK.out _ _ hHeld (fun hHeld2 => ?_)
  clear hK K hHeld
  have hHeld := hHeld2
  clear hHeld2
  try simp only [Act.put, List.setIfInBounds_toArray, List.set_cons_zero, List.set_cons_succ, List.getElem_toArray, List.getElem_cons_succ, List.getElem_cons_zero]
  refine wpAnyH_ready (rs := [7]) (by kernel_rfl) (by simp) ?_
  refine AllReadyH.cons rfl (fun K hK => ?_) AllReadyH.nil
  refine step_one (by rfl) (.tmp 9) (.tmp 11) 34 34 rfl happ ?_
  refine hK.out _ _ hX (fun hHeld2 => ?_)
  clear hK K hHeld
  have hHeld := hHeld2
  clear hHeld2
  try simp only [Act.put, List.setIfInBounds_toArray, List.set_cons_zero, List.set_cons_succ, List.getElem_toArray, List.getElem_cons_succ, List.getElem_cons_zero]
  refine wpAnyH_take (i := 8) (v := ?_) rfl (by kernel_rfl) (by kernel_rfl) (by kernel_rfl) (fun _ _ _ h => h) (Or.inl ⟨by rfl, ?_⟩) hHeld ?_
  rotate_left
  · intro u hSu; obtain ⟨y0, y1, y2, y3, y4, y5⟩ := hSu; dsimp only at y0 y1 y2 y3 y4 y5; go_simp; try with_reducible rfl
  simp only [Act.put, List.setIfInBounds_toArray, List.set_cons_zero, List.set_cons_succ, List.getElem_toArray, List.getElem_cons_succ, List.getElem_cons_zero]
  refine wpAnyH_take (i := 9) (v := ?_) rfl (by kernel_rfl) (by kernel_rfl) (by kernel_rfl) (fun _ _ _ h => h) (Or.inl ⟨by rfl, ?_⟩) hHeld ?_
  rotate_left
  · intro u hSu; obtain ⟨y0, y1, y2, y3, y4, y5⟩ := hSu; dsimp only at y0 y1 y2 y3 y4 y5; go_simp; try with_reducible rfl
  simp only [Act.put, List.setIfInBounds_toArray, List.set_cons_zero, List.set_cons_succ, List.getElem_toArray, List.getElem_cons_succ, List.getElem_cons_zero]
  refine wpAnyH_ready (rs := [10]) (by kernel_rfl) (by simp) ?_
  refine AllReadyH.cons rfl (fun K hK => ?_) AllReadyH.nil
  go_simp
  refine hK.out _ _ hX2 (fun hHeld2 => ?_)
  clear hK K hHeld
  have hHeld := hHeld2
  clear hHeld2
  try simp only [Act.put, List.setIfInBounds_toArray, List.set_cons_zero, List.set_cons_succ, List.getElem_toArray, List.getElem_cons_succ, List.getElem_cons_zero]
  refine wpAnyH_done (by kernel_rfl) ?_ _
  clear hHeld
  go_wp2_with fail
  go_end0
  exact ⟨rfl, _, HE.out⟩

end Go.Proofs.YthofogokpolhdaaGreatDoor.Parses

namespace Go.Proofs.YthofogokpolhdaaGreatDoor.Parses
open Go.RowKit Go.Shelf
open Go.Proofs.YthofogokpolhdaaGreatDoor.Trees (Stp StepsAt cellS StAt elem_step cell_oneS)
open Go.Proofs.YthofogokpolhdaaGreatDoor.Toks (Tok ToksAt cellK cell_lt cell_same SliceAt Above Grid Spare Elem elem_of append_any both wpList_app)
open Go.Proofs.YthofogokpolhdaaGreatDoor.Style (bs bs_size bs_at getD_at bs_of)
set_option linter.unusedVariables false
set_option linter.unusedSimpArgs false

theorem RdI.of {w0 : World} {st : Value} {L : List Tok} {size : Int} {pow : Bool} {vm vw vt : Value} {s : Rd} {W : World} (h : RdM w0 st L size pow vm vw vt s W) : RdI w0 st L size pow s W := ⟨vm, vw, vt, h⟩
theorem RdI.of2 {w0 : World} {st : Value} {L : List Tok} {size : Int} {pow : Bool} {vw vt : Value} {s : Rd} {W : World} (h : ∃ vm, RdM w0 st L size pow vm vw vt s W) : RdI w0 st L size pow s W := by
  obtain ⟨vm, h⟩ := h
  exact ⟨vm, vw, vt, h⟩

set_option maxRecDepth 100000 in
set_option maxHeartbeats 2000000 in
theorem open_v (w0 : World) (st : Value) (L : List Tok) (size : Int) (pow : Bool) (vm vw vt : Value) (s : Rd) (w : World) (h : RdM w0 st L size pow vm vw vt s w) (hl : s.waits.length ≤ 1000) :
    Calls Tryz.prog 83 #[.pointer (some ⟨w0.heap.size, 0, none⟩)] w fun e w' => e = .returned (.tuple #[]) ∧ RdI w0 st L size pow (openS s) w' := by
  have hu := alloc_own w (.cells #[.int .i64 0] 3)
  have h1 := h.go hu
  have c4 := h1.c4
  have c4' := h.c4
  have f4 := h.fr 4
  have hone : SliceAt (w.alloc (.cells #[.int .i64 0] 3)) (.slice (some ⟨w.heap.size, 0, none⟩) 1 1) 1 1 (cellI [0]) :=
    Toks.one_slice w 3 1 #[.int .i64 0] (cellI [0]) (fun j hj => by
      have : j = 0 := by omega
      subst this
      rfl) rfl
  obtain ⟨o4, k4, rfl⟩ := SliceAt.slice h1.wts
  obtain ⟨X, v, happ, hrows, hadds⟩ := app_sep elem_int h1.wts (fun i hi j hj => rfl) (SliceAt.source elem_int hone (fun i hi j hj => rfl)) (by omega) (by omega)
  have hE := h1.waits_adds hadds _ (ints_cat _ _ hrows)
  obtain ⟨ov, nv, cv, rfl⟩ : ∃ o n c, v = .slice o n c := by obtain ⟨o, c, e⟩ := SliceAt.slice hrows; exact ⟨_, _, _, e⟩
  have hXb := hadds.below h1.aw (by have := h1.lt; omega)
  have cX : X.cell? ⟨w0.heap.size, 4, none⟩ = some (.slice o4 s.waits.length k4) := (hXb.cell (p := ⟨w0.heap.size, 4, none⟩) (show w0.heap.size < w0.heap.size + 1 by omega)).trans h1.c4
  have fX : X.frozen? ⟨w0.heap.size, 4, none⟩ = false := (hXb.frozen (p := ⟨w0.heap.size, 4, none⟩) (show w0.heap.size < w0.heap.size + 1 by omega)).trans (h1.fr 4)
  have hBO := behindOpen_v w0 st L size pow _ _ _ _ _ hE
  clear hE hrows hadds hXb hone h h1 hu
  go_enter Tryz.func83, Tryz.ntmps83
  go_wp2_with (first | (at_builtin; refine wpList_app rfl _ _ 22 22 rfl happ ?_) | fail)
  refine hBO.mono ?_
  rintro e w2 ⟨rfl, hF⟩
  have HF := Lib.hid (RdI.of2 hF)
  clear hF hBO
  go_wp2_with fail
  go_end0
  exact ⟨rfl, HF.out⟩

/-- The last one that waits. -/
theorem RdM.wait_put {w0 : World} {st : Value} {L : List Tok} {size : Int} {pow : Bool} {vm vw vt : Value} {s : Rd} {W : World} (h : RdM w0 st L size pow vm vw vt s W) {n : Nat} (hn : s.waits.length = n + 1) (op : Int) :
    ∃ b c, vw = .slice (some ⟨b, 0, none⟩) (n + 1) c ∧ W.cell? ⟨b, n, none⟩ = some (.int .i64 (s.waits.getLastD 0)) ∧ W.frozen? ⟨b, n, none⟩ = false ∧ RdM w0 st L size pow vm vw vt { s with waits := s.waits.dropLast ++ [op] } (W.setCell ⟨b, n, none⟩ (.int .i64 op)) := by
  rcases id h.wts with ⟨h0, _⟩ | ⟨b, c, hs, hc, hm, hg⟩
  · omega
  · rw [hn] at hs hc hg
    have hb1 : w0.heap.size + 1 ≤ b := h.aw _ _ _ hs
    have hbm : ∀ a n' c', vm = .slice (some a) n' c' → a.block ≠ b := fun a n' c' e => h.mw _ _ _ _ _ _ e hs
    have hbt : ∀ a n' c', vt = .slice (some a) n' c' → b ≠ a.block := fun a n' c' e => h.wt _ _ _ _ _ _ hs e
    have hlast : s.waits.getLastD 0 = s.waits.getD n 0 := by
      rw [List.getLastD_eq_getLast?, List.getLast?_eq_getElem?, hn, List.getD_eq_getElem?_getD]; rfl
    have c0 := hg.1 n (by omega) 0 (by omega)
    rw [Nat.mul_one, Nat.add_zero] at c0
    have hO : Toks.Only b W (W.setCell ⟨b, n, none⟩ (.int .i64 op)) := (Toks.Only.refl b W).set n _
    have hB := hO.below (B := w0.heap.size + 1) hb1
    have hs' : ∀ j u, W.cell? ⟨w0.heap.size, j, none⟩ = some u → (W.setCell ⟨b, n, none⟩ (.int .i64 op)).cell? ⟨w0.heap.size, j, none⟩ = some u := fun j u hu => (hB.cell (p := ⟨w0.heap.size, j, none⟩) (show w0.heap.size < w0.heap.size + 1 by omega)).trans hu
    have hoth : ∀ {v : Value} {k m : Nat} {f : Nat → Nat → Value}, SliceAt W v k m f → (∀ a n' c', v = .slice (some a) n' c' → a.block ≠ b) → SliceAt (W.setCell ⟨b, n, none⟩ (.int .i64 op)) v k m f := by
      intro v k m f hv hne
      rcases hv with hv | ⟨b', c', hs2, hc2, hm2, hg2⟩
      · exact .inl hv
      · have := hne _ _ _ hs2
        exact .inr ⟨b', c', hs2, hc2, hm2.set _ _ _, hg2.other _ _ _ (Ne.symm this)⟩
    refine ⟨b, c, hs, by rw [hlast]; exact c0, hg.2.1 n, ⟨h.below.trans (hB.mono (by omega)), hs' _ _ h.c0, hs' _ _ h.c1, hs' _ _ h.c2, hs' _ _ h.c3, hs' _ _ h.c4, hs' _ _ h.c5, hs' _ _ h.c6, fun j => by rw [World.frozen?_setCell]; exact h.fr j, h.toks, hoth h.lay hbm, ?_, hoth h.tre (fun a n' c' e => Ne.symm (hbt a n' c' e)), h.am, h.aw, h.at_, h.mw, h.mt, h.wt⟩⟩
    have hlen : (s.waits.dropLast ++ [op]).length = n + 1 := by rw [List.length_append, List.length_dropLast, hn]; simp
    have hgs := hg.set n 0 (by omega) (by omega) (.int .i64 op)
    rw [Nat.mul_one, Nat.add_zero] at hgs
    refine .inr ⟨b, c, by rw [hlen]; exact hs, by rw [hlen]; exact hc, hm.set _ _ _, ?_⟩
    rw [hlen]
    refine hgs.ext (fun i hi j hj => ?_)
    unfold Toks.upd cellI
    by_cases hin : i = n ∧ j = 0
    · rw [if_pos hin, hin.1]
      rw [List.getD_eq_getElem?_getD, List.getElem?_append_right (by rw [List.length_dropLast, hn]; omega), List.length_dropLast, hn]
      simp
    · have hin' : i < n := by omega
      rw [if_neg hin, List.getD_eq_getElem?_getD, List.getD_eq_getElem?_getD, List.getElem?_append_left (by rw [List.length_dropLast, hn]; omega), List.getElem?_dropLast, if_pos (by rw [hn]; omega)]

set_option maxRecDepth 100000 in
set_option maxHeartbeats 2000000 in
theorem wait_v (op : Int) (w0 : World) (st : Value) (L : List Tok) (size : Int) (pow : Bool) (vm vw vt : Value) (s : Rd) (w : World) (h : RdM w0 st L size pow vm vw vt s w) (n : Nat) (hn : s.waits.length = n + 1) (hl : n ≤ 1000) :
    Calls Tryz.prog 131 #[.pointer (some ⟨w0.heap.size, 0, none⟩), .int .i64 op] w fun e w' => e = .returned (.tuple #[]) ∧ RdI w0 st L size pow (waitS s op) w' := by
  have hli : (n : Int) ≤ 1000 := by omega
  have h1 := h.go (Below.refl _ _).drew
  obtain ⟨b, c, rfl, x1, x2, hE⟩ := h1.wait_put hn op
  have c4 := h.c4
  have hBO := behindOperator_v w0 st L size pow _ _ _ _ _ hE
  have hnn : ((n + 1 : Nat) : Int) - 1 = (n : Int) := by omega
  have hng : (0 : Int) ≤ ((n + 1 : Nat) : Int) - 1 := by omega
  have hnl : ((n + 1 : Nat) : Int) - 1 < ((n + 1 : Nat) : Int) := by omega
  generalize s.waits.getLastD 0 = wl at *
  clear hE h h1
  go_enter Tryz.func131, Tryz.ntmps131
  go_upto_region 0 with fail
  go_still_tail 11, (by kernel_rfl)
  change wpList _ _ _ _ _ w.drew
  go_wp2_with fail
  refine hBO.mono ?_
  rintro e w2 ⟨rfl, hF⟩
  have HF := Lib.hid (RdI.of2 hF)
  clear hF hBO
  go_wp2_with fail
  go_end0
  exact ⟨rfl, HF.out⟩

end Go.Proofs.YthofogokpolhdaaGreatDoor.Parses

