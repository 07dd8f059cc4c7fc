/-
  The closure that Tree defers: it takes a refusal for the answer, and leaves all else. Contract of package parse's Tree. What the reading tells of its steps, as plain facts: how many, and where their symbols' tokens stand.
-/
import Derived.Test.YthofogokpolhdaaGreatDoorRSX
import Derived.Defers
import Derived.Recover
import Derived.Laws.Pointers
import Derived.Test.YthofogokpolhdaaGreatDoorYA
namespace Go.Proofs.YthofogokpolhdaaGreatDoor.Parses
open Go.RowKit Go.Shelf
open Go.Proofs.YthofogokpolhdaaGreatDoor.Toks (cell_lt cell_same)
set_option linter.unusedVariables false
set_option linter.unusedSimpArgs false

theorem caught_idle (p : Addr) (w : World) :
    CallsD Tryz.prog 48 #[.pointer (some p)] .returning w fun e u' w' => e = .returned (.tuple #[]) ∧ u' = .returning ∧ w' = w := by
  refine callsD_of_wpS Tryz.func48 rfl fun c₀ cs hu => ?_
  apply wpS_seq
  apply wpS_region
  simp [wpOpsS, go_sem, recoverD, hu, Tryz.ntmps48, Exit.thenS]
  refine wpS_of_wp ?_
  go_wp2
  cases c₀
  simp_all [bodyPostS, results, Tryz.results48]

set_option maxRecDepth 100000 in
set_option maxHeartbeats 1000000 in
theorem caught_panic (err at_ len : Int) (b : Nat) (w : World) (c0 c1 c2 c3 : Value) (h0 : w.cell? ⟨b, 0, none⟩ = some c0) (h1 : w.cell? ⟨b, 1, none⟩ = some c1) (h2 : w.cell? ⟨b, 2, none⟩ = some c2) (h3 : w.cell? ⟨b, 3, none⟩ = some c3)
    (hf : ∀ j, w.frozen? ⟨b, j, none⟩ = false) :
    CallsD Tryz.prog 48 #[.pointer (some ⟨b, 0, none⟩)] (.panicking [{ v := refV err at_ len, recovered := false }]) w fun e u' w' =>
      e = .returned (.tuple #[]) ∧ u' = .panicking [{ v := refV err at_ len, recovered := true }] ∧
      w' = ((((w.setCell ⟨b, 0, none⟩ (.slice none 0 0)).setCell ⟨b, 1, none⟩ (.int .i64 err)).setCell ⟨b, 2, none⟩ (.int .i64 at_)).setCell ⟨b, 3, none⟩ (.int .i64 len)).alloc (.cells #[.slice none 0 0, .int .i64 err, .int .i64 at_, .int .i64 len] 101) := by
  have hb : b < w.heap.size := cell_lt h0
  have hb1 : ¬ b = w.heap.size := by omega
  have hb2 : ¬ w.heap.size = b := by omega
  unfold refV
  have hta : ∀ (pv : Value) (W : World), (Instr.typeAssert (.iface 101 pv) 20 101 true).run Tryz.prog W = .ok (.tuple #[pv, .bool true]) W := fun pv W => by kernel_rfl
  refine callsD_of_wpS Tryz.func48 rfl fun c₀ cs hu => ?_
  apply wpS_seq
  apply wpS_region
  simp [wpOpsS, go_sem, recoverD, hu, Tryz.ntmps48, Exit.thenS]
  refine wpS_of_wp ?_
  go_wp2
  clear h0 h1 h2 h3 hf hta
  simp [bodyPostS, results, Tryz.results48, hu]

end Go.Proofs.YthofogokpolhdaaGreatDoor.Parses

namespace Go.Proofs.YthofogokpolhdaaGreatDoor.Parses
open Go.RowKit Go.Shelf
open Go.Proofs.YthofogokpolhdaaGreatDoor.Syms (symZ sfind_v)
open Go.Proofs.YthofogokpolhdaaGreatDoor.Trees (Stp StepsAt cellS StAt elem_step cell_oneS But)
open Go.Proofs.YthofogokpolhdaaGreatDoor.Toks (Tok ToksAt cellK cell_lt cell_same SliceAt Above Grid Spare Elem elem_of append_any both wpList_app)
open Go.Proofs.YthofogokpolhdaaGreatDoor.Style (bs bs_size bs_at getD_at bs_of stZ isN Styles of_any St)
set_option linter.unusedVariables false
set_option linter.unusedSimpArgs false
attribute [local irreducible] symZ readAll

def powN (k : Nat) : Bool := (stZ ((k : Int) + 1)).pow != 0
/-- What Tree makes of tokens: an error, its place and length; or the steps. -/
def treeR (k : Nat) (L : List Tok) (size : Int) : Red → Except (Int × Int × Int) (List Stp)
  | .bad err i => .error (err, placeG L size i, 0)
  | .done s => match s.tree.find? (badS k L) with
    | some x => .error (15, ((tokOf L x).pos : Int), ((tokOf L x).text.length : Int))
    | none => .ok (s.tree.map (nameS k L))
def treeAll (k : Nat) (L : List Tok) (size : Int) : Except (Int × Int × Int) (List Stp) := treeR k L size (readAll (powN k) L)
theorem treeR_some {k : Nat} {L : List Tok} {size : Int} {s : Rd} {x : Stp} (h : s.tree.find? (badS k L) = some x) : treeR k L size (.done s) = .error (15, ((tokOf L x).pos : Int), ((tokOf L x).text.length : Int)) := by
  simp only [treeR, h]
theorem treeR_none {k : Nat} {L : List Tok} {size : Int} {s : Rd} (h : s.tree.find? (badS k L) = none) : treeR k L size (.done s) = .ok (s.tree.map (nameS k L)) := by
  simp only [treeR, h]
/-- How Tree ends. -/
def TreeEnd (k : Nat) (L : List Tok) (size : Int) (w : World) (e : Ending) (w' : World) : Prop :=
  Below w.heap.size w w' ∧ match treeAll k L size with
    | .error (err, at_, len) => e = .returned (.agg #[.slice none 0 0, .int .i64 err, .int .i64 at_, .int .i64 len])
    | .ok T => ∃ v, e = .returned (.agg #[v, .int .i64 0, .int .i64 size, .int .i64 0]) ∧ StepsAt w' v T ∧ Above w.heap.size v

theorem made_reader (W : World) (st : Value) (L : List Tok) (size : Int) (pow : Bool) (hT : ToksAt W st L) :
    RdM W st L size pow (.slice none 0 0) (.slice none 0 0) (.slice none 0 0) zeroR (W.alloc (.cells #[st, .int .i64 size, .bool pow, .slice none 0 0, .slice none 0 0, .bool false, .slice none 0 0] 104)) := by
  have hb := alloc_own W (.cells #[st, .int .i64 size, .bool pow, .slice none 0 0, .slice none 0 0, .bool false, .slice none 0 0] 104)
  exact ⟨hb, by simp [go_sem], by simp [go_sem], by simp [go_sem], by simp [go_sem], by simp [go_sem], by simp [go_sem, zeroR], by simp [go_sem], fun j => by simp [go_sem], hT, .inl ⟨rfl, rfl⟩, .inl ⟨rfl, rfl⟩, .inl ⟨rfl, rfl⟩,
    fun a n c e => (by cases e), fun a n c e => (by cases e), fun a n c e => (by cases e), fun a n c a' n' c' e e' => (by cases e), fun a n c a' n' c' e e' => (by cases e), fun a n c a' n' c' e e' => (by cases e)⟩

theorem caught_v (err at_ len : Int) (b : Nat) (w : World) (c0 c1 c2 c3 : Value) (h0 : w.cell? ⟨b, 0, none⟩ = some c0) (h1 : w.cell? ⟨b, 1, none⟩ = some c1) (h2 : w.cell? ⟨b, 2, none⟩ = some c2) (h3 : w.cell? ⟨b, 3, none⟩ = some c3)
    (hf : ∀ j, w.frozen? ⟨b, j, none⟩ = false) :
    CallsD Tryz.prog 48 #[.pointer (some ⟨b, 0, none⟩)] (.panicking [{ v := refV err at_ len, recovered := false }]) w fun e u' w' =>
      e = .returned (.tuple #[]) ∧ u' = .panicking [{ v := refV err at_ len, recovered := true }] ∧ Below b w w' ∧ w'.cell? ⟨b, 0, none⟩ = some (.slice none 0 0) ∧ w'.cell? ⟨b, 1, none⟩ = some (.int .i64 err) ∧ w'.cell? ⟨b, 2, none⟩ = some (.int .i64 at_) ∧ w'.cell? ⟨b, 3, none⟩ = some (.int .i64 len) := by
  have hlt := cell_lt h0
  refine (caught_panic err at_ len b w c0 c1 c2 c3 h0 h1 h2 h3 hf).mono ?_
  rintro e u' w' ⟨rfl, rfl, hw⟩
  have hX : Below b w ((((w.setCell ⟨b, 0, none⟩ (.slice none 0 0)).setCell ⟨b, 1, none⟩ (.int .i64 err)).setCell ⟨b, 2, none⟩ (.int .i64 at_)).setCell ⟨b, 3, none⟩ (.int .i64 len)) :=
    ((((Below.refl b w).setCell (p := ⟨b, 0, none⟩) (Nat.le_refl _) _).setCell (p := ⟨b, 1, none⟩) (Nat.le_refl _) _).setCell (p := ⟨b, 2, none⟩) (Nat.le_refl _) _).setCell (p := ⟨b, 3, none⟩) (Nat.le_refl _) _
  have x0 : ((((w.setCell ⟨b, 0, none⟩ (.slice none 0 0)).setCell ⟨b, 1, none⟩ (.int .i64 err)).setCell ⟨b, 2, none⟩ (.int .i64 at_)).setCell ⟨b, 3, none⟩ (.int .i64 len)).cell? ⟨b, 0, none⟩ = some (.slice none 0 0) := by simp [go_sem, h0, h1, h2, h3]
  have x1 : ((((w.setCell ⟨b, 0, none⟩ (.slice none 0 0)).setCell ⟨b, 1, none⟩ (.int .i64 err)).setCell ⟨b, 2, none⟩ (.int .i64 at_)).setCell ⟨b, 3, none⟩ (.int .i64 len)).cell? ⟨b, 1, none⟩ = some (.int .i64 err) := by simp [go_sem, h0, h1, h2, h3]
  have x2 : ((((w.setCell ⟨b, 0, none⟩ (.slice none 0 0)).setCell ⟨b, 1, none⟩ (.int .i64 err)).setCell ⟨b, 2, none⟩ (.int .i64 at_)).setCell ⟨b, 3, none⟩ (.int .i64 len)).cell? ⟨b, 2, none⟩ = some (.int .i64 at_) := by simp [go_sem, h0, h1, h2, h3]
  have x3 : ((((w.setCell ⟨b, 0, none⟩ (.slice none 0 0)).setCell ⟨b, 1, none⟩ (.int .i64 err)).setCell ⟨b, 2, none⟩ (.int .i64 at_)).setCell ⟨b, 3, none⟩ (.int .i64 len)).cell? ⟨b, 3, none⟩ = some (.int .i64 len) := by simp [go_sem, h0, h1, h2, h3]
  generalize ((((w.setCell ⟨b, 0, none⟩ (.slice none 0 0)).setCell ⟨b, 1, none⟩ (.int .i64 err)).setCell ⟨b, 2, none⟩ (.int .i64 at_)).setCell ⟨b, 3, none⟩ (.int .i64 len)) = X at *
  have ha := alloc_own X (.cells #[.slice none 0 0, .int .i64 err, .int .i64 at_, .int .i64 len] 101)
  subst hw
  exact ⟨rfl, rfl, hX.trans (ha.mono (by have := hX.size; omega)), (ha.cell (p := ⟨b, 0, none⟩) (cell_lt x0)).trans x0, (ha.cell (p := ⟨b, 1, none⟩) (cell_lt x1)).trans x1, (ha.cell (p := ⟨b, 2, none⟩) (cell_lt x2)).trans x2, (ha.cell (p := ⟨b, 3, none⟩) (cell_lt x3)).trans x3⟩

set_option maxRecDepth 100000 in
set_option maxHeartbeats 4000000 in
theorem tree_v (k : Nat) (lv : Value) (L : List Tok) (size : Int) (w : World) (hk5 : k < 5) (hL : ToksAt w lv L) (hS : Styles w) (hs : ∀ x ∈ L, x.text.length ≤ 1000) (hlen : L.length ≤ 900)
    (hat : ∀ s, readAll (powN k) L = .done s → s.tree.length ≤ 1000000 ∧ ∀ x ∈ s.tree, x.op = 2 → 0 ≤ x.atom ∧ x.atom < L.length) :
    Calls Tryz.prog 30 #[.int .i64 ((k : Int) + 1), lv, .int .i64 size] w (TreeEnd k L size w) := by
  obtain ⟨ol, cl, rfl⟩ := SliceAt.slice hL
  have hmf : ∀ (fn : Fn) (first cap : Array Value) (w : World), (Instr.makeFunc fn first cap).run Tryz.prog w = .ok (.func fn first cap) w := fun _ _ _ _ => rfl
  have hN : isN ((k : Int) + 1) = true := by unfold isN; simp; omega
  have hu1 := alloc_own w (.cells #[.slice none 0 0, .int .i64 0, .int .i64 0, .int .i64 0] 37)
  have hO := of_any ((k : Int) + 1) _ (hS.go hu1)
  rw [hN] at hO
  obtain ⟨⟨sf, sm, sd, sp, so, sc⟩, hst⟩ : ∃ x, stZ ((k : Int) + 1) = x := ⟨_, rfl⟩
  rw [hst] at hO
  unfold St.v at hO
  have hP : Hid (powN k = (sp != 0)) := by show _ = _; unfold powN; rw [hst]
  have hTK := hL.go hu1
  have HAT := Lib.hid hat
  have HS := Lib.hid hs
  clear hat hs hS hL hst hN
  go_enter_defers Tryz.func30, Tryz.ntmps30
  go_wp2_with fail
  refine hO.mono ?_
  rintro e w1 ⟨rfl, hb1⟩
  clear hO
  go_wp2_with fail
  have hb2 := alloc_own w1 (.cells #[.bool sf, .int .u8 sm, .int .u8 sd, .int .u8 sp, .int .u8 so, .int .u8 sc] 43)
  have hT1 := (hTK.go hb1).go hb2
  have hz1 : (w1.alloc (.cells #[.bool sf, .int .u8 sm, .int .u8 sd, .int .u8 sp, .int .u8 so, .int .u8 sc] 43)).heap.size = w1.heap.size + 1 := World.size_alloc _ _
  have hR := read_v _ (.slice ol L.length cl) L size (sp != 0) _ _ _ _ (made_reader _ _ L size (sp != 0) hT1) hlen
  rw [World.size_alloc] at hR
  have hu := hu1.trans (hb1.mono hu1.size)
  have hUB := hu.trans (hb2.mono hu.size)
  have o0 : ∀ v j, (w.alloc (.cells #[.slice none 0 0, .int .i64 0, .int .i64 0, .int .i64 0] 37)).cell? ⟨w.heap.size, j, none⟩ = some v → (w1.alloc (.cells #[.bool sf, .int .u8 sm, .int .u8 sd, .int .u8 sp, .int .u8 so, .int .u8 sc] 43)).cell? ⟨w.heap.size, j, none⟩ = some v := fun v j h => by
    have h1 := (hb1.cell (p := ⟨w.heap.size, j, none⟩) (cell_lt h)).trans h
    exact (hb2.cell (p := ⟨w.heap.size, j, none⟩) (cell_lt h1)).trans h1
  have p0 := o0 (.slice none 0 0) 0 (by simp [go_sem])
  have p1 := o0 (.int .i64 0) 1 (by simp [go_sem])
  have p2 := o0 (.int .i64 0) 2 (by simp [go_sem])
  have p3 := o0 (.int .i64 0) 3 (by simp [go_sem])
  have pf : ∀ j, (w1.alloc (.cells #[.bool sf, .int .u8 sm, .int .u8 sd, .int .u8 sp, .int .u8 so, .int .u8 sc] 43)).frozen? ⟨w.heap.size, j, none⟩ = false := fun j => by
    have hlt : w.heap.size < (w.alloc (.cells #[.slice none 0 0, .int .i64 0, .int .i64 0, .int .i64 0] 37)).heap.size := by rw [World.size_alloc]; omega
    have h0 : (w.alloc (.cells #[.slice none 0 0, .int .i64 0, .int .i64 0, .int .i64 0] 37)).frozen? ⟨w.heap.size, j, none⟩ = false := by simp [go_sem]
    have h1 := (hb1.frozen (p := ⟨w.heap.size, j, none⟩) hlt).trans h0
    exact (hb2.frozen (p := ⟨w.heap.size, j, none⟩) (Nat.lt_of_lt_of_le hlt hb1.size)).trans h1
  have hw1 : w.heap.size < w1.heap.size := by
    have := hb1.size
    rw [World.size_alloc] at this; omega
  have hTB : ∀ a n c, (.slice ol L.length cl : Value) = .slice (some a) n c → a.block < w1.heap.size := fun a n c e => by
    rcases (hTK.go hb1) with ⟨_, h1⟩ | ⟨b', c', e1, _, _, hg⟩
    · rw [h1] at e; cases e
    · rw [e1] at e; injection e with e; injection e with e; subst e; exact hg.2.2
  clear hb1 hb2 hu hu1 hTK o0 hT1
  generalize (w1.alloc (.cells #[.bool sf, .int .u8 sm, .int .u8 sd, .int .u8 sp, .int .u8 so, .int .u8 sc] 43)) = W1 at *
  refine hR.mono ?_
  rintro e w3 hE
  clear hR
  obtain ⟨R, hRA⟩ : ∃ R, readAll (sp != 0) L = R := ⟨_, rfl⟩
  rw [hRA] at hE
  have hTA : treeAll k L size = treeR k L size R := by unfold treeAll; rw [hP.out, hRA]
  have HTA := Lib.hid hTA
  have HTB := Lib.hid hTB
  clear hTA hTB
  cases R with
  | bad err i =>
    obtain ⟨rfl, s, vm, vw, vt, hM⟩ := hE
    have hB := hM.below
    have q0 := (hB.cell (p := ⟨w.heap.size, 0, none⟩) (cell_lt p0)).trans p0
    have q1 := (hB.cell (p := ⟨w.heap.size, 1, none⟩) (cell_lt p0)).trans p1
    have q2 := (hB.cell (p := ⟨w.heap.size, 2, none⟩) (cell_lt p0)).trans p2
    have q3 := (hB.cell (p := ⟨w.heap.size, 3, none⟩) (cell_lt p0)).trans p3
    have qf : ∀ j, w3.frozen? ⟨w.heap.size, j, none⟩ = false := fun j => (hB.frozen (p := ⟨w.heap.size, j, none⟩) (cell_lt p0)).trans (pf j)
    have HU := Lib.hid (hUB.trans (hB.mono hUB.size))
    obtain ⟨pl, hpl⟩ : ∃ pl, placeG L size i = pl := ⟨_, rfl⟩
    rw [hpl]
    have HTA2 : Hid (treeAll k L size = .error (err, pl, 0)) := by show _ = _; rw [HTA.out, ← hpl]; rfl
    clear hM hB p0 p1 p2 p3 pf hUB hRA HTA hpl
    go_wp2_with fail
    refine leaves_cons (f := 48) (args := #[.pointer (some ⟨w.heap.size, 0, none⟩)]) (by simp) (by simp [go_sem]) ?_
    refine (caught_v err pl 0 w.heap.size w3 _ _ _ _ q0 q1 q2 q3 qf).mono ?_
    rintro e u' w4 ⟨rfl, rfl, hb4, r0, r1, r2, r3⟩
    have HU4 := Lib.hid (HU.out.trans hb4)
    clear q0 q1 q2 q3 qf hb4
    simp [Leaves, settle, results, Tryz.results30, go_sem, r0, r1, r2, r3, refV]
    refine ⟨HU4.out, ?_⟩
    rw [HTA2.out]
  | done s =>
    obtain ⟨rfl, vm, vw, vt, hM⟩ := hE
    have hB := hM.below
    obtain ⟨ht1, ht2⟩ := HAT.out s (by rw [hP.out]; exact hRA)
    have c6 := hM.c6
    rw [hz1] at c6
    obtain ⟨ot, ct, rfl⟩ := SliceAt.slice hM.tre
    obtain ⟨bt, hbt, hb1, hb2, hb3⟩ : ∃ bt, (∀ a n c, (.slice ot s.tree.length ct : Value) = .slice (some a) n c → a.block = bt) ∧ w1.heap.size ≤ bt ∧ bt ≠ w1.heap.size + 1 ∧ bt < w3.heap.size := by
      rcases hM.tre with ⟨h0, h1⟩ | ⟨b, c, e1, _, _, hg⟩
      · refine ⟨w1.heap.size, fun a n c e => (by rw [h1] at e; cases e), Nat.le_refl _, by omega, ?_⟩
        have := hB.size; omega
      · have ha := hM.at_ _ _ _ e1
        dsimp only at ha
        refine ⟨b, fun a n c e => (by rw [e1] at e; injection e with e; injection e with e; subst e; rfl), by omega, by omega, hg.2.2⟩
    have hAb : Above (w.heap.size + 1) (.slice ot s.tree.length ct) := hM.at_.mono (by omega)
    have hN := name_v ((k : Int) + 1) k _ (.slice ol L.length cl) bt s.tree L w3 rfl hk5 hM.tre (hM.toks.go hB) hbt (fun a n c e => by have := HTB.out a n c e; omega) hb3 ht2 HS.out ht1
    have q0 := (hB.cell (p := ⟨w.heap.size, 0, none⟩) (cell_lt p0)).trans p0
    have q1 := (hB.cell (p := ⟨w.heap.size, 1, none⟩) (cell_lt p0)).trans p1
    have q2 := (hB.cell (p := ⟨w.heap.size, 2, none⟩) (cell_lt p0)).trans p2
    have q3 := (hB.cell (p := ⟨w.heap.size, 3, none⟩) (cell_lt p0)).trans p3
    have qf : ∀ j, w3.frozen? ⟨w.heap.size, j, none⟩ = false := fun j => (hB.frozen (p := ⟨w.heap.size, j, none⟩) (cell_lt p0)).trans (pf j)
    have hU3 := hUB.trans (hB.mono hUB.size)
    clear hM hB p0 p1 p2 p3 pf hUB hRA ht1 ht2 hbt
    go_wp2_with fail
    refine hN.mono ?_
    rintro e w4 ⟨hbut, hE⟩
    clear hN
    have u0 := hbut.cell q0 (by omega)
    have u1 := hbut.cell q1 (by omega)
    have u2 := hbut.cell q2 (by omega)
    have u3 := hbut.cell q3 (by omega)
    have u6 := hbut.cell c6 (by omega)
    have uf : ∀ j, w4.frozen? ⟨w.heap.size, j, none⟩ = false := fun j => (Toks.frozen_of_block (hbut.block _ (cell_lt q0) (by omega)) j).trans (qf j)
    have hU4 := hU3.trans (hbut.below (show w.heap.size ≤ bt by omega) hU3.size)
    clear q0 q1 q2 q3 qf c6 hU3 hbut
    cases hfd : s.tree.find? (badS k L) with
    | some x =>
      rw [hfd] at hE
      dsimp only at hE
      obtain ⟨pl, hpl⟩ : ∃ pl, ((tokOf L x).pos : Int) = pl := ⟨_, rfl⟩
      obtain ⟨ln, hln⟩ : ∃ ln, ((tokOf L x).text.length : Int) = ln := ⟨_, rfl⟩
      rw [hpl, hln] at hE
      subst hE
      have HTA2 : Hid (treeAll k L size = .error (15, pl, ln)) := by show _ = _; rw [HTA.out, ← hpl, ← hln, treeR_some hfd]
      have HU4 := Lib.hid hU4
      clear hfd hpl hln hU4 HTA
      go_wp2_with fail
      refine leaves_cons (f := 48) (args := #[.pointer (some ⟨w.heap.size, 0, none⟩)]) (by simp) (by simp [go_sem]) ?_
      refine (caught_v 15 pl ln w.heap.size w4 _ _ _ _ u0 u1 u2 u3 uf).mono ?_
      rintro e u' w5 ⟨rfl, rfl, hb5, r0, r1, r2, r3⟩
      have HU5 := Lib.hid (HU4.out.trans hb5)
      clear u0 u1 u2 u3 u6 uf hb5
      simp [Leaves, settle, results, Tryz.results30, go_sem, r0, r1, r2, r3, refV]
      refine ⟨HU5.out, ?_⟩
      rw [HTA2.out]
    | none =>
      rw [hfd] at hE
      obtain ⟨rfl, hSt⟩ := hE
      have HTA2 : Hid (treeAll k L size = .ok (s.tree.map (nameS k L))) := by show _ = _; rw [HTA.out, treeR_none hfd]
      have f0 := uf 0
      have f1 := uf 1
      have f2 := uf 2
      have f3 := uf 3
      clear hfd HTA
      have ho : Toks.Only w.heap.size w4 ((((w4.setCell ⟨w.heap.size, 0, none⟩ (.slice ot s.tree.length ct)).setCell ⟨w.heap.size, 1, none⟩ (.int .i64 0)).setCell ⟨w.heap.size, 2, none⟩ (.int .i64 size)).setCell ⟨w.heap.size, 3, none⟩ (.int .i64 0)) := ((((Toks.Only.refl _ w4).set _ _).set _ _).set _ _).set _ _
      have x0 : ((((w4.setCell ⟨w.heap.size, 0, none⟩ (.slice ot s.tree.length ct)).setCell ⟨w.heap.size, 1, none⟩ (.int .i64 0)).setCell ⟨w.heap.size, 2, none⟩ (.int .i64 size)).setCell ⟨w.heap.size, 3, none⟩ (.int .i64 0)).cell? ⟨w.heap.size, 0, none⟩ = some (.slice ot s.tree.length ct) := by simp [go_sem, u0, u1, u2, u3]
      have x1 : ((((w4.setCell ⟨w.heap.size, 0, none⟩ (.slice ot s.tree.length ct)).setCell ⟨w.heap.size, 1, none⟩ (.int .i64 0)).setCell ⟨w.heap.size, 2, none⟩ (.int .i64 size)).setCell ⟨w.heap.size, 3, none⟩ (.int .i64 0)).cell? ⟨w.heap.size, 1, none⟩ = some (.int .i64 0) := by simp [go_sem, u0, u1, u2, u3]
      have x2 : ((((w4.setCell ⟨w.heap.size, 0, none⟩ (.slice ot s.tree.length ct)).setCell ⟨w.heap.size, 1, none⟩ (.int .i64 0)).setCell ⟨w.heap.size, 2, none⟩ (.int .i64 size)).setCell ⟨w.heap.size, 3, none⟩ (.int .i64 0)).cell? ⟨w.heap.size, 2, none⟩ = some (.int .i64 size) := by simp [go_sem, u0, u1, u2, u3]
      have x3 : ((((w4.setCell ⟨w.heap.size, 0, none⟩ (.slice ot s.tree.length ct)).setCell ⟨w.heap.size, 1, none⟩ (.int .i64 0)).setCell ⟨w.heap.size, 2, none⟩ (.int .i64 size)).setCell ⟨w.heap.size, 3, none⟩ (.int .i64 0)).cell? ⟨w.heap.size, 3, none⟩ = some (.int .i64 0) := by simp [go_sem, u0, u1, u2, u3]
      have hSt5 := hSt.but (But.only ho) hAb
      have HE := Lib.hid (And.intro (hU4.trans (ho.below (Nat.le_refl _))) hSt5)
      have HX := Lib.hid (And.intro x0 (And.intro x1 (And.intro x2 x3)))
      clear ho x0 x1 x2 x3 hSt hSt5 hU4 uf
      go_wp2_with fail
      refine leaves_cons (f := 48) (args := #[.pointer (some ⟨w.heap.size, 0, none⟩)]) (by simp) (by simp [go_sem]) ?_
      refine (caught_idle ⟨w.heap.size, 0, none⟩ _).mono ?_
      rintro e u' w5 ⟨rfl, rfl, rfl⟩
      obtain ⟨x0, x1, x2, x3⟩ := HX.out
      clear u0 u1 u2 u3 u6 f0 f1 f2 f3
      generalize ((((w4.setCell ⟨w.heap.size, 0, none⟩ (.slice ot s.tree.length ct)).setCell ⟨w.heap.size, 1, none⟩ (.int .i64 0)).setCell ⟨w.heap.size, 2, none⟩ (.int .i64 size)).setCell ⟨w.heap.size, 3, none⟩ (.int .i64 0)) = W5 at *
      simp [Leaves, settle, results, Tryz.results30, go_sem, x0, x1, x2, x3]
      refine ⟨HE.out.1, ?_⟩
      rw [HTA2.out]
      exact ⟨_, rfl, HE.out.2, hAb.mono (by omega)⟩

end Go.Proofs.YthofogokpolhdaaGreatDoor.Parses

namespace Go.Proofs.YthofogokpolhdaaGreatDoor.Parses
open Go.Proofs.YthofogokpolhdaaGreatDoor.Trees (Stp)
open Go.Proofs.YthofogokpolhdaaGreatDoor.Toks (Tok ToksAt)
open Go.Proofs.YthofogokpolhdaaGreatDoor.Style (Styles)
set_option linter.unusedVariables false
set_option linter.unusedSimpArgs false

structure SyI (L : List Tok) (s : Rd) : Prop where
  sy : ∀ x ∈ s.tree, x.op = 2 → 0 ≤ x.atom ∧ x.atom < L.length
  wt : ∀ v ∈ s.waits, v ≠ 2
theorem SyI.put {L : List Tok} {s : Rd} (h : SyI L s) (x : Stp) (hx : x.op = 2 → 0 ≤ x.atom ∧ x.atom < L.length) : SyI L (putS s x) := by
  refine ⟨fun y hy => ?_, h.wt⟩
  unfold putS at hy
  rw [List.mem_append, List.mem_singleton] at hy
  rcases hy with hy | rfl
  · exact h.sy y hy
  · exact hx
theorem lastD_mem {α : Type} {l : List α} (d : α) (h : l ≠ []) : l.getLastD d ∈ l := by
  rw [List.getLastD_eq_getLast?, List.getLast?_eq_some_getLast h]
  exact List.getLast_mem h
theorem SyI.last {L : List Tok} {s : Rd} (h : SyI L s) : s.waits.getLastD 0 ≠ 2 := by
  by_cases hw : s.waits = []
  · rw [hw]; decide
  · exact h.wt _ (lastD_mem 0 hw)
theorem SyI.close {L : List Tok} {s : Rd} (h : SyI L s) : SyI L (closeS s) := by
  unfold closeS
  split
  · exact h
  · exact h.put _ (fun e => absurd e h.last)
theorem SyI.waitOn {L : List Tok} {s : Rd} (h : SyI L s) {op : Int} (ho : op ≠ 2) : SyI L (waitS s op) := by
  refine ⟨h.sy, fun v hv => ?_⟩
  unfold waitS at hv
  rw [List.mem_append, List.mem_singleton] at hv
  rcases hv with hv | rfl
  · exact h.wt v ((List.dropLast_sublist _).subset hv)
  · exact ho
theorem SyI.pow {L : List Tok} {s : Rd} (h : SyI L s) (k : Int) : SyI L (powS s k) := by
  refine ⟨fun y hy => ?_, h.wt⟩
  unfold powS at hy
  rw [List.mem_append, List.mem_singleton] at hy
  rcases hy with hy | rfl
  · exact h.sy y (List.dropLast_sublist _ |>.subset hy)
  · by_cases ht : s.tree = []
    · rw [ht]; intro e; cases e
    · have := h.sy _ (lastD_mem default ht)
      exact this
theorem sy_step {pow : Bool} {L : List Tok} {i : Nat} {s s' : Rd} (h : SyI L s) (k : Nat) (hg : askG pow L i s k = .go s') : SyI L s' := by
  match k with
  | 0 =>
    replace hg : inverseG L i s = .go s' := hg
    unfold inverseG at hg
    split at hg <;> cases hg; exact h.waitOn (by decide)
  | 1 =>
    replace hg : symbolG pow L i s = .go s' := hg
    unfold symbolG at hg
    split at hg
    · rename_i hk
      cases hg
      have hp := h.put ⟨2, -1, (i : Int), 1, 0, []⟩ (fun _ => ⟨by dsimp only; omega, by have := isK_len hk; dsimp only; omega⟩)
      exact ⟨hp.sy, hp.wt⟩
    · cases hg
  | 2 =>
    replace hg : numberG L i s = .go s' := hg
    unfold numberG at hg
    split at hg
    · cases hg
      have hp := h.put ⟨1, -1, 0, 0, (L.getD i default).num, []⟩ (fun e => by cases e)
      exact ⟨hp.sy, hp.wt⟩
    · cases hg
  | 3 =>
    replace hg : leftG L i s = .go s' := hg
    unfold leftG at hg
    split at hg
    · split at hg
      · cases hg
      · cases hg
        refine ⟨h.sy, fun v hv => ?_⟩
        unfold openS at hv
        rw [List.mem_append, List.mem_singleton] at hv
        rcases hv with hv | rfl
        · exact h.wt v hv
        · decide
    · cases hg
  | 4 =>
    replace hg : notedG L i s 7 = .go s' := hg
    unfold notedG at hg
    split at hg
    · cases hg
      have hp := h.put ⟨7, -1, 0, 0, 0, (L.getD i default).text⟩ (fun e => by cases e)
      exact ⟨hp.sy, hp.wt⟩
    · cases hg
  | 7 =>
    replace hg : notedG L i s 6 = .go s' := hg
    unfold notedG at hg
    split at hg
    · cases hg
      have hp := h.put ⟨6, -1, 0, 0, 0, (L.getD i default).text⟩ (fun e => by cases e)
      exact ⟨hp.sy, hp.wt⟩
    · cases hg
  | 5 =>
    replace hg : signG L i s = .go s' := hg
    unfold signG at hg; split at hg <;> cases hg; exact ⟨h.sy, h.wt⟩
  | 6 =>
    replace hg : powerG L i s = .go s' := hg
    unfold powerG at hg
    split at hg
    · cases hg
      have hp := h.pow (if s.below = true then 0 - (L.getD i default).num else (L.getD i default).num)
      exact ⟨hp.sy, hp.wt⟩
    · cases hg
  | 8 =>
    replace hg : operatorG L i s = .go s' := hg
    unfold operatorG at hg
    split at hg
    · cases hg; exact h.close.waitOn (by decide)
    · split at hg
      · cases hg; exact h.close.waitOn (by decide)
      · cases hg
  | 9 =>
    replace hg : rightG L i s = .go s' := hg
    unfold rightG at hg
    split at hg
    · cases hg
      exact ⟨h.close.sy, fun v hv => h.wt v ((List.dropLast_sublist _).subset hv)⟩
    · cases hg
  | 10 =>
    replace hg : endG L i s = .go s' := hg
    unfold endG at hg
    split at hg
    · cases hg
    · cases hg; exact h.close
  | k + 11 => 
    replace hg : raiseG L i s = .go s' := hg
    unfold raiseG at hg; split at hg <;> cases hg; exact ⟨h.sy, h.wt⟩
theorem first_go {pow : Bool} {L : List Tok} {i : Nat} {s s' : Rd} : ∀ (row : List Nat), firstG pow L i s row = .go s' → ∃ k ∈ row, askG pow L i s k = .go s'
  | [], h => by cases h
  | k :: r, h => by
    unfold firstG at h
    cases hk : askG pow L i s k with
    | go x => rw [hk] at h; cases h; exact ⟨k, by simp, hk⟩
    | deep => rw [hk] at h; cases h
    | no =>
      rw [hk] at h
      obtain ⟨k', h1, h2⟩ := first_go r h
      exact ⟨k', by simp [h1], h2⟩
theorem read_keeps {pow : Bool} {L : List Tok} : ∀ (m i : Nat) (s s' : Rd), Inv s i → SyI L s → readG pow L i m s = .done s' → Inv s' (i + m) ∧ SyI L s'
  | 0, i, s, s', hI, hs, h => by
    unfold readG at h
    cases h
    exact ⟨hI, hs⟩
  | m + 1, i, s, s', hI, hs, h => by
    unfold readG at h
    cases hf : firstG pow L i s (rowOf s.may) with
    | go x =>
      rw [hf] at h
      obtain ⟨k, hk, hg⟩ := first_go _ hf
      have := read_keeps m (i + 1) x s' (inv_step hI hk hg) (sy_step hs k hg) h
      rw [show i + (m + 1) = i + 1 + m by omega]
      exact this
    | no => rw [hf] at h; cases h
    | deep => rw [hf] at h; cases h
theorem read_tells {pow : Bool} {L : List Tok} {s : Rd} (h : readAll pow L = .done s) : s.tree.length ≤ L.length + 1 ∧ ∀ x ∈ s.tree, x.op = 2 → 0 ≤ x.atom ∧ x.atom < L.length := by
  obtain ⟨h1, h2⟩ := read_keeps (L.length + 1) 0 startR s inv_start ⟨fun x hx => (by cases hx), fun v hv => (by simp [startR, openS, zeroR] at hv; rw [hv]; decide)⟩ h
  exact ⟨by have := h1.t1; omega, h2.sy⟩

theorem tree_any (k : Nat) (lv : Value) (L : List Tok) (size : Int) (w : World) (hk5 : k < 5) (hL : ToksAt w lv L) (hS : Styles w) (hs : ∀ x ∈ L, x.text.length ≤ 1000) (hlen : L.length ≤ 900) :
    Calls Tryz.prog 30 #[.int .i64 ((k : Int) + 1), lv, .int .i64 size] w (TreeEnd k L size w) :=
  tree_v k lv L size w hk5 hL hS hs hlen (fun s h => ⟨by have := (read_tells h).1; omega, (read_tells h).2⟩)

end Go.Proofs.YthofogokpolhdaaGreatDoor.Parses

