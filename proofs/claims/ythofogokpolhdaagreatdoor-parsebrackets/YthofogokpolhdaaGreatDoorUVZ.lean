/-
  Contract of sym of the document's Row. Contracts of tree of the document's Row, of Made. Contract of the document's Made.
-/
import Derived.Test.YthofogokpolhdaaGreatDoorULZ
import Derived.Test.YthofogokpolhdaaGreatDoorC1X
namespace Go.Proofs.YthofogokpolhdaaGreatDoor.Trees
open Go.RowKit Go.Shelf
open Go.Proofs.YthofogokpolhdaaGreatDoor.Style (bs bs_size bs_at getD_at bs_of)
open Go.Proofs.YthofogokpolhdaaGreatDoor.Toks (cell_lt cell_same)
open Go.Proofs.YthofogokpolhdaaGreatDoor.Atoms (Row Pre tableRs tablePs TableAt TableEnd refTable_any)
set_option linter.unusedVariables false
set_option linter.unusedSimpArgs false
attribute [local irreducible] tableRs tablePs

def zeroS : Stp := ⟨0, 0, 0, 0, 0, []⟩
/-- While sym goes: the numbers, the table, its box, the step's box, the result's. -/
structure SyI (rb : Nat) (w W : World) (tb xb rx : Nat) (oa op : Option Addr) (na ca np cp : Nat) (x : Stp) : Prop where
  row : RowX W rb
  tab : TabAt W oa ca tableRs
  ab : ∀ a, oa = some a → rb < a.block ∧ a.block ≠ xb ∧ a.block ≠ rx
  t0 : W.cell? ⟨tb, 0, none⟩ = some (.slice oa na ca)
  t1 : W.cell? ⟨tb, 1, none⟩ = some (.slice op np cp)
  lt : rb < rx ∧ rx < tb ∧ rb < xb ∧ xb ≠ tb ∧ w.heap.size ≤ rx ∧ w.heap.size ≤ xb
  st : StAt W xb x
  fz : ∀ j, W.frozen? ⟨xb, j, none⟩ = false
  rs : StAt W rx zeroS
  fr : ∀ j, W.frozen? ⟨rx, j, none⟩ = false
  but : But rb w W
theorem SyI.go {rb : Nat} {w W W' : World} {tb xb rx : Nat} {oa op : Option Addr} {na ca np cp : Nat} {x : Stp} (h : SyI rb w W tb xb rx oa op na ca np cp x) (hb : Below W.heap.size W W') : SyI rb w W' tb xb rx oa op na ca np cp x :=
  ⟨h.row.go hb, h.tab.go hb, h.ab, (hb.cell (p := ⟨tb, 0, none⟩) (cell_lt h.t0)).trans h.t0, (hb.cell (p := ⟨tb, 1, none⟩) (cell_lt h.t0)).trans h.t1, h.lt, h.st.go hb, fun j => (hb.frozen (p := ⟨xb, j, none⟩) (cell_lt h.st.c0)).trans (h.fz j), h.rs.go hb, fun j => (hb.frozen (p := ⟨rx, j, none⟩) (cell_lt h.rs.c0)).trans (h.fr j), h.but.trans (But.of hb)⟩
theorem SyI.drew {rb : Nat} {w W : World} {tb xb rx : Nat} {oa op : Option Addr} {na ca np cp : Nat} {x : Stp} (h : SyI rb w W tb xb rx oa op na ca np cp x) : SyI rb w W.drew tb xb rx oa op na ca np cp x := h.go (Below.refl _ _).drew
/-- Only the block b has turned: what stands elsewhere. -/
theorem StAt.only {W W' : World} {b c : Nat} {x : Stp} (h : StAt W b x) (ho : Toks.Only c W W') (hn : b ≠ c) : StAt W' b x :=
  ⟨cell_same h.c0 (ho.block b hn), cell_same h.c1 (ho.block b hn), cell_same h.c2 (ho.block b hn), cell_same h.c3 (ho.block b hn), cell_same h.c4 (ho.block b hn), cell_same h.c5 (ho.block b hn)⟩
theorem TabAt.else {W W' : World} {oa : Option Addr} {ca : Nat} {rows : List Row} {b : Nat} (h : TabAt W oa ca rows) (ho : Toks.Only b W W') (ha : ∀ a, oa = some a → a.block ≠ b) : TabAt W' oa ca rows := fun i hi => by
  obtain ⟨b', e, hc⟩ := h i hi
  exact ⟨b', e, cell_same hc (ho.block b' (ha _ e))⟩
theorem SyI.next {rb : Nat} {w W W' : World} {tb xb rx : Nat} {oa op : Option Addr} {na ca np cp : Nat} {x : Stp} (h : SyI rb w W tb xb rx oa op na ca np cp x) (hr : RowX W' rb) (ho : Toks.Only rb W W') : SyI rb w W' tb xb rx oa op na ca np cp x := by
  have hl := h.lt
  exact ⟨hr, h.tab.else ho (fun a e => by have := h.ab a e; omega), h.ab, cell_same h.t0 (ho.block tb (by omega)), cell_same h.t1 (ho.block tb (by omega)), h.lt, h.st.only ho (by omega), fun j => (Toks.frozen_of_block (ho.block xb (by omega)) j).trans (h.fz j), h.rs.only ho (by omega), fun j => (Toks.frozen_of_block (ho.block rx (by omega)) j).trans (h.fr j), h.but.trans (But.only ho)⟩
/-- One field of the step turns. -/
theorem SyI.set {rb : Nat} {w W : World} {tb xb rx : Nat} {oa op : Option Addr} {na ca np cp : Nat} {x : Stp} (h : SyI rb w W tb xb rx oa op na ca np cp x) (hxr : xb ≠ rx) (y : Stp) (j : Nat) (u : Value) (hs : StAt (W.setCell ⟨xb, j, none⟩ u) xb y) : SyI rb w (W.setCell ⟨xb, j, none⟩ u) tb xb rx oa op na ca np cp y := by
  have hl := h.lt
  have ho : Toks.Only xb W (W.setCell ⟨xb, j, none⟩ u) := (Toks.Only.refl _ _).set j u
  exact ⟨h.row.other xb j u hl.2.2.1, h.tab.else ho (fun a e => (h.ab a e).2.1), h.ab, cell_same h.t0 (ho.block tb (by omega)), cell_same h.t1 (ho.block tb (by omega)), h.lt, hs, fun j' => by rw [World.frozen?_setCell]; exact h.fz j', h.rs.only ho (by omega), fun j' => by rw [World.frozen?_setCell]; exact h.fr j', h.but.join ((Below.refl _ _).setCell (p := ⟨xb, j, none⟩) (by show w.heap.size ≤ xb; omega) u) (Nat.le_refl _)⟩
/-- The step comes. -/
theorem SyI.more {rb : Nat} {w W : World} {tb rx : Nat} {oa op : Option Addr} {na ca np cp : Nat} (h : SyI rb w W tb rx rx oa op na ca np cp zeroS) (y : Stp) : SyI rb w (W.alloc (.cells y.cs 47)) tb W.heap.size rx oa op na ca np cp y := by
  have hl := h.lt
  have hb : Below W.heap.size W (W.alloc (.cells y.cs 47)) := (Below.refl _ _).alloc (Nat.le_refl _) _
  have h1 := h.go hb
  have h2 := cell_lt h.t0
  have h3 := cell_lt h.rs.c0
  have h4 := h.but.size
  have h5 : 0 < tableRs.length := by rw [table_len.1]; omega
  refine ⟨h1.row, h1.tab, fun a e => ?_, h1.t0, h1.t1, ⟨hl.1, hl.2.1, by omega, by omega, hl.2.2.2.2.1, h4⟩, StAt.new W y, fun j => by simp [go_sem], h1.rs, h1.fr, h1.but⟩
  obtain ⟨b, e', hc⟩ := h.tab 0 h5
  rw [e] at e'
  injection e' with e'
  subst e'
  have := cell_lt hc
  have h6 := h.ab _ e
  simp only at h6 ⊢
  omega
theorem StAt.pf {W : World} {b : Nat} {x : Stp} (h : StAt W b x) (v : Int) : StAt (W.setCell ⟨b, 1, none⟩ (.int .i64 v)) b { x with pf := v } := by
  obtain ⟨c0, c1, c2, c3, c4, c5⟩ := h
  exact ⟨by simp [go_sem, c0], by simp [go_sem, c1], by simp [go_sem, c2], by simp [go_sem, c3], by simp [go_sem, c4], by simp [go_sem, c5]⟩
theorem StAt.nn {W : World} {b : Nat} {x : Stp} (h : StAt W b x) (v : Int) : StAt (W.setCell ⟨b, 3, none⟩ (.int .i64 v)) b { x with n := v } := by
  obtain ⟨c0, c1, c2, c3, c4, c5⟩ := h
  exact ⟨by simp [go_sem, c0], by simp [go_sem, c1], by simp [go_sem, c2], by simp [go_sem, c3], by simp [go_sem, c4], by simp [go_sem, c5]⟩

/-- A step is put into a block. -/
def putS (W : World) (b : Nat) (x : Stp) : World := (((((W.setCell ⟨b, 0, none⟩ (.int .i64 x.op)).setCell ⟨b, 1, none⟩ (.int .i64 x.pf)).setCell ⟨b, 2, none⟩ (.int .i64 x.atom)).setCell ⟨b, 3, none⟩ (.int .i64 x.n)).setCell ⟨b, 4, none⟩ (.int .i64 x.num)).setCell ⟨b, 5, none⟩ (.string (bs x.text))
theorem putS_at {W : World} {b : Nat} {y : Stp} (h : StAt W b y) (x : Stp) : StAt (putS W b x) b x := by
  obtain ⟨c0, c1, c2, c3, c4, c5⟩ := h
  unfold putS
  exact ⟨by simp [go_sem, c0], by simp [go_sem, c1], by simp [go_sem, c2], by simp [go_sem, c3], by simp [go_sem, c4], by simp [go_sem, c5]⟩
theorem putS_only (W : World) (b : Nat) (x : Stp) : Toks.Only b W (putS W b x) := (((((Toks.Only.refl b W).set 0 _).set 1 _).set 2 _).set 3 _ |>.set 4 _).set 5 _
/-- How sym ends. -/
theorem SyI.fin {rb : Nat} {w W : World} {tb xb rx : Nat} {oa op : Option Addr} {na ca np cp : Nat} {x : Stp} (h : SyI rb w W tb xb rx oa op na ca np cp x) (y : Stp) : StAt (putS W rx y) rx y ∧ RowX (putS W rx y) rb ∧ But rb w (putS W rx y) := by
  have hl := h.lt
  refine ⟨putS_at h.rs y, ?_, h.but.join ((putS_only W rx y).below (B := w.heap.size) (by omega)) (Nat.le_refl _)⟩
  unfold putS
  exact (((((h.row.other rx 0 _ hl.1).other rx 1 _ hl.1).other rx 2 _ hl.1).other rx 3 _ hl.1).other rx 4 _ hl.1).other rx 5 _ hl.1
theorem may_sym (p a n : Int) (h : symT p a = true) (h1 : -99 ≤ n) (h2 : n ≤ 99) : mayZ symT ⟨2, p, a, n, 0, []⟩ = true := by
  rw [may_2, h, decide_eq_true h1, decide_eq_true h2, empty_iff]; rfl

set_option maxRecDepth 100000 in
set_option maxHeartbeats 4000000 in
theorem sym_x (rb : Nat) (w : World) (h : RowX w rb) :
    Calls Tryz.prog 64 #[.pointer (some ⟨rb, 0, none⟩)] w fun e w' => ∃ x : Stp, e = .returned x.v ∧ mayZ symT x = true ∧ x.op = 2 ∧ x.text = [] ∧ RowX w' rb ∧ But rb w w' := by
  have hTb := fun W => refTable_any W
  have hrw := h.lt
  have hu0 : Below w.heap.size w (w.alloc (.cells (Stp.cs ⟨0, 0, 0, 0, 0, []⟩) 47)) := by go_grown
  have hz0 : (w.alloc (.cells (Stp.cs ⟨0, 0, 0, 0, 0, []⟩) 47)).heap.size = w.heap.size + 1 := World.size_alloc _ _
  have hst0 := StAt.new w ⟨0, 0, 0, 0, 0, []⟩
  have hfz0 : ∀ j, (w.alloc (.cells (Stp.cs ⟨0, 0, 0, 0, 0, []⟩) 47)).frozen? ⟨w.heap.size, j, none⟩ = false := fun j => by simp [go_sem]
  go_enter Tryz.func64, Tryz.ntmps64
  go_wp2_with fail
  change Calls _ _ _ (w.alloc (.cells (Stp.cs ⟨0, 0, 0, 0, 0, []⟩) 47)) _
  generalize w.alloc (.cells (Stp.cs ⟨0, 0, 0, 0, 0, []⟩) 47) = w0 at *
  refine (hTb _).mono ?_
  rintro e w1 ⟨sa, sp, S, rfl, hTA, hb1⟩
  obtain ⟨oa, na, ca, rfl⟩ : ∃ o n c, sa = Value.slice o n c := by
    rcases hTA.atoms.1 with ⟨_, e⟩ | ⟨b, c, e, _⟩
    · exact ⟨_, _, _, e⟩
    · exact ⟨_, _, _, e⟩
  obtain ⟨rfl, hca, hTab, ⟨op, cp, rfl⟩, hab⟩ := tab_of hTA
  have hz1 := hb1.size
  have hu1 : Below w1.heap.size w1 (w1.alloc (.cells #[.slice oa tableRs.length ca, .slice op tablePs.length cp] 89)) := (Below.refl _ _).alloc (Nat.le_refl _) _
  have hI : SyI rb w (w1.alloc (.cells #[.slice oa tableRs.length ca, .slice op tablePs.length cp] 89)) w1.heap.size w.heap.size w.heap.size oa op tableRs.length ca tablePs.length cp zeroS := by
    have q1 : StAt (w1.alloc (.cells #[.slice oa tableRs.length ca, .slice op tablePs.length cp] 89)) w.heap.size zeroS := (hst0.go hb1).go hu1
    have q2 : ∀ j, (w1.alloc (.cells #[.slice oa tableRs.length ca, .slice op tablePs.length cp] 89)).frozen? ⟨w.heap.size, j, none⟩ = false := fun j => (hu1.frozen (p := ⟨w.heap.size, j, none⟩) (by show w.heap.size < w1.heap.size; omega)).trans ((hb1.frozen (p := ⟨w.heap.size, j, none⟩) (by show w.heap.size < w0.heap.size; omega)).trans (hfz0 j))
    exact
    ⟨((h.go hu0).go hb1).go hu1, hTab.go hu1, fun a e => by have := hab a e; omega, by simp [go_sem], by simp [go_sem], ⟨hrw, by omega, hrw, by omega, Nat.le_refl _, Nat.le_refl _⟩, q1, q2, q1, q2, ((But.of hu0).trans (But.of hb1)).trans (But.of hu1)⟩
  obtain ⟨hl1, hl2⟩ := table_len
  have hlp : 1 ≤ tablePs.length := by decide +kernel
  have hN := fun (n : Nat) W hW hn hn2 => next_x rb n W hW hn hn2
  have HF := Lib.hid (And.intro hca (And.intro hl1 (And.intro hl2 hlp)))
  clear hTA hTab hab hb1 hu1 hu0 hst0 hfz0 hTb hca hl1 hl2 hlp h hz0 hz1 hrw
  generalize w.heap.size = rx at *
  go_wp2_with fail
  generalize w1.alloc (.cells #[.slice oa tableRs.length ca, .slice op tablePs.length cp] 89) = W1 at *
  generalize w1.heap.size = tb at *
  refine (hN _ W1 hI.row (by rw [HF.out.2.1]; omega) (by rw [HF.out.2.1]; omega)).mono ?_
  rintro e W2 ⟨a, rfl, ha, hr2, ho2⟩
  have hI2 := (hI.next hr2 ho2).more ⟨2, -1, a, 1, 0, []⟩
  have hrx := cell_lt (hI.next hr2 ho2).rs.c0
  clear hI hr2 ho2
  go_upto_region 3 with fail
  simp only [Stp.cs] at hI2
  change Code.wp _ _ _ _ (W2.alloc (.cells #[.int .i64 2, .int .i64 (-1), .int .i64 (a : Int), .int .i64 1, .int .i64 0, .string (bs [])] 47))
  generalize W2.alloc (.cells #[.int .i64 2, .int .i64 (-1), .int .i64 (a : Int), .int .i64 1, .int .i64 0, .string (bs [])] 47) = W3 at *
  generalize W2.heap.size = xb at *
  have hxr : xb ≠ rx := by omega
  have hal : a < tableRs.length := ha
  have hok : ∀ p : Int, (p = -1 ∨ (0 ≤ p ∧ p < tablePs.length ∧ (tableRs.getD a default).m = true)) → symT p (a : Int) = true := by
    intro p hp
    unfold symT symZ
    rw [Int.toNat_natCast, decide_eq_true (by omega : (0 : Int) ≤ (a : Int) ∧ (a : Int) < tableRs.length), Bool.true_and]
    rcases hp with rfl | ⟨h1, h2, h3⟩
    · rfl
    · rw [decide_eq_true (show 0 ≤ p ∧ p < (tablePs.length : Int) from ⟨h1, h2⟩), h3]; simp
  obtain ⟨ab, rfl, hmc⟩ := hI2.tab a hal
  have HOK := Lib.hid hok
  clear hok
  generalize (tableRs.getD a default).m = m at *
  have t0 := hI2.t0
  have x2 := hI2.st.c2
  simp only at x2
  have hai : (a : Int) < (tableRs.length : Int) := by omega
  have hcai : (tableRs.length : Int) ≤ (ca : Int) := by have := HF.out.1; omega
  have htl : (tableRs.length : Int) = 48 := by have := HF.out.2.1; omega
  have HT := Lib.hid htl
  clear htl
  cases m with
  | false =>
    have hop := HOK.out (-1) (.inl rfl)
    have hJ := hI2
    go_wp2_with fail
    clear hI2 x2 t0 hmc
    refine (hN 3 _ hJ.row (by omega) (by omega)).mono ?_
    rintro e W5 ⟨c, rfl, hc, hr5, ho5⟩
    have hK := hJ.next hr5 ho5
    clear hJ hr5 ho5
    by_cases c0 : c = 0
    · subst c0
      go_wp2_with fail
      refine (hN 7 _ hK.row (by omega) (by omega)).mono ?_
      rintro e W6 ⟨d, rfl, hd, hr6, ho6⟩
      have hL := hK.next hr6 ho6
      clear hK hr6 ho6 hN
      obtain ⟨s0, s1, s2, s3, s4, s5⟩ := hL.st
      simp only at s0 s1 s2 s3 s4 s5
      obtain ⟨r0, r1, r2, r3, r4, r5⟩ := hL.rs
      simp only [zeroS] at r0 r1 r2 r3 r4 r5
      have g0 := hL.fr 0
      have g1 := hL.fr 1
      have g2 := hL.fr 2
      have g3 := hL.fr 3
      have g4 := hL.fr 4
      have g5 := hL.fr 5
      have f3 := hL.fz 3
      have hM := hL.set hxr _ 3 (.int .i64 ((d : Int) - 3)) (hL.st.nn _)
      have hdi : (d : Int) < 7 := by omega
      go_wp2_with fail
      obtain ⟨⟨y0, y1, y2, y3, y4, y5⟩, e2, e3⟩ := hM.fin ⟨2, (-1), (a : Int), ((d : Int) - 3), 0, []⟩
      change bodyPost _ _ _ _ _ (putS (W6.setCell ⟨xb, 3, none⟩ (.int .i64 ((d : Int) - 3))) rx ⟨2, (-1), (a : Int), ((d : Int) - 3), 0, []⟩)
      generalize putS (W6.setCell ⟨xb, 3, none⟩ (.int .i64 ((d : Int) - 3))) rx ⟨2, (-1), (a : Int), ((d : Int) - 3), 0, []⟩ = X at *
      simp only at y0 y1 y2 y3 y4 y5
      refine bodyPost_ret (v := Stp.v ⟨2, (-1), (a : Int), ((d : Int) - 3), 0, []⟩) (by simp [results, Tryz.results64, go_sem, y0, y1, y2, y3, y4, y5, Stp.v]) rfl ⟨⟨2, (-1), (a : Int), ((d : Int) - 3), 0, []⟩, rfl, may_sym _ _ _ hop (by omega) (by omega), rfl, rfl, e2, e3⟩
    · have c1 : ((c : Int) == 0) = false := by simp; omega
      obtain ⟨s0, s1, s2, s3, s4, s5⟩ := hK.st
      simp only at s0 s1 s2 s3 s4 s5
      obtain ⟨r0, r1, r2, r3, r4, r5⟩ := hK.rs
      simp only [zeroS] at r0 r1 r2 r3 r4 r5
      have g0 := hK.fr 0
      have g1 := hK.fr 1
      have g2 := hK.fr 2
      have g3 := hK.fr 3
      have g4 := hK.fr 4
      have g5 := hK.fr 5
      go_wp2_with fail
      obtain ⟨⟨y0, y1, y2, y3, y4, y5⟩, e2, e3⟩ := hK.fin ⟨2, (-1), (a : Int), 1, 0, []⟩
      change bodyPost _ _ _ _ _ (putS W5 rx ⟨2, (-1), (a : Int), 1, 0, []⟩)
      generalize putS W5 rx ⟨2, (-1), (a : Int), 1, 0, []⟩ = X at *
      simp only at y0 y1 y2 y3 y4 y5
      refine bodyPost_ret (v := Stp.v ⟨2, (-1), (a : Int), 1, 0, []⟩) (by simp [results, Tryz.results64, go_sem, y0, y1, y2, y3, y4, y5, Stp.v]) rfl ⟨⟨2, (-1), (a : Int), 1, 0, []⟩, rfl, may_sym _ _ _ hop (by omega) (by omega), rfl, rfl, e2, e3⟩
  | true =>
    go_wp2_with fail
    refine (hN 2 _ hI2.row (by omega) (by omega)).mono ?_
    rintro e W4 ⟨c', rfl, hc', hr4, ho4⟩
    have hI4 := hI2.next hr4 ho4
    clear hI2 x2 t0 hmc hr4 ho4
    by_cases c0' : c' = 0
    · subst c0'
      have t1 := hI4.t1
      go_wp2_with fail
      refine (hN tablePs.length _ hI4.row (by have := HF.out.2.2.2; omega) (by have := HF.out.2.2.1; omega)).mono ?_
      rintro e W6 ⟨q, rfl, hq, hr6, ho6⟩
      have hI6 := hI4.next hr6 ho6
      clear hI4 t1 hr6 ho6
      have s1 := hI6.st.c1
      have f1 := hI6.fz 1
      have hop := HOK.out (q : Int) (.inr ⟨by omega, by omega, by first | rfl | trivial⟩)
      have hJ := hI6.set hxr _ 1 (.int .i64 (q : Int)) (hI6.st.pf _)
      clear hI6
      go_wp2_with fail
      refine (hN 3 _ hJ.row (by omega) (by omega)).mono ?_
      rintro e W5 ⟨c, rfl, hc, hr5, ho5⟩
      have hK := hJ.next hr5 ho5
      clear hJ hr5 ho5
      by_cases c0 : c = 0
      · subst c0
        go_wp2_with fail
        refine (hN 7 _ hK.row (by omega) (by omega)).mono ?_
        rintro e W6 ⟨d, rfl, hd, hr6, ho6⟩
        have hL := hK.next hr6 ho6
        clear hK hr6 ho6 hN
        obtain ⟨s0, s1, s2, s3, s4, s5⟩ := hL.st
        simp only at s0 s1 s2 s3 s4 s5
        obtain ⟨r0, r1, r2, r3, r4, r5⟩ := hL.rs
        simp only [zeroS] at r0 r1 r2 r3 r4 r5
        have g0 := hL.fr 0
        have g1 := hL.fr 1
        have g2 := hL.fr 2
        have g3 := hL.fr 3
        have g4 := hL.fr 4
        have g5 := hL.fr 5
        have f3 := hL.fz 3
        have hM := hL.set hxr _ 3 (.int .i64 ((d : Int) - 3)) (hL.st.nn _)
        have hdi : (d : Int) < 7 := by omega
        go_wp2_with fail
        obtain ⟨⟨y0, y1, y2, y3, y4, y5⟩, e2, e3⟩ := hM.fin ⟨2, (q : Int), (a : Int), ((d : Int) - 3), 0, []⟩
        change bodyPost _ _ _ _ _ (putS (W6.setCell ⟨xb, 3, none⟩ (.int .i64 ((d : Int) - 3))) rx ⟨2, (q : Int), (a : Int), ((d : Int) - 3), 0, []⟩)
        generalize putS (W6.setCell ⟨xb, 3, none⟩ (.int .i64 ((d : Int) - 3))) rx ⟨2, (q : Int), (a : Int), ((d : Int) - 3), 0, []⟩ = X at *
        simp only at y0 y1 y2 y3 y4 y5
        refine bodyPost_ret (v := Stp.v ⟨2, (q : Int), (a : Int), ((d : Int) - 3), 0, []⟩) (by simp [results, Tryz.results64, go_sem, y0, y1, y2, y3, y4, y5, Stp.v]) rfl ⟨⟨2, (q : Int), (a : Int), ((d : Int) - 3), 0, []⟩, rfl, may_sym _ _ _ hop (by omega) (by omega), rfl, rfl, e2, e3⟩
      · have c1 : ((c : Int) == 0) = false := by simp; omega
        obtain ⟨s0, s1, s2, s3, s4, s5⟩ := hK.st
        simp only at s0 s1 s2 s3 s4 s5
        obtain ⟨r0, r1, r2, r3, r4, r5⟩ := hK.rs
        simp only [zeroS] at r0 r1 r2 r3 r4 r5
        have g0 := hK.fr 0
        have g1 := hK.fr 1
        have g2 := hK.fr 2
        have g3 := hK.fr 3
        have g4 := hK.fr 4
        have g5 := hK.fr 5
        go_wp2_with fail
        obtain ⟨⟨y0, y1, y2, y3, y4, y5⟩, e2, e3⟩ := hK.fin ⟨2, (q : Int), (a : Int), 1, 0, []⟩
        change bodyPost _ _ _ _ _ (putS W5 rx ⟨2, (q : Int), (a : Int), 1, 0, []⟩)
        generalize putS W5 rx ⟨2, (q : Int), (a : Int), 1, 0, []⟩ = X at *
        simp only at y0 y1 y2 y3 y4 y5
        refine bodyPost_ret (v := Stp.v ⟨2, (q : Int), (a : Int), 1, 0, []⟩) (by simp [results, Tryz.results64, go_sem, y0, y1, y2, y3, y4, y5, Stp.v]) rfl ⟨⟨2, (q : Int), (a : Int), 1, 0, []⟩, rfl, may_sym _ _ _ hop (by omega) (by omega), rfl, rfl, e2, e3⟩
    · have hop := HOK.out (-1) (.inl rfl)
      have c1' : ((c' : Int) == 0) = false := by simp; omega
      have hJ := hI4
      clear hI4
      go_wp2_with fail
      refine (hN 3 _ hJ.row (by omega) (by omega)).mono ?_
      rintro e W5 ⟨c, rfl, hc, hr5, ho5⟩
      have hK := hJ.next hr5 ho5
      clear hJ hr5 ho5
      by_cases c0 : c = 0
      · subst c0
        go_wp2_with fail
        refine (hN 7 _ hK.row (by omega) (by omega)).mono ?_
        rintro e W6 ⟨d, rfl, hd, hr6, ho6⟩
        have hL := hK.next hr6 ho6
        clear hK hr6 ho6 hN
        obtain ⟨s0, s1, s2, s3, s4, s5⟩ := hL.st
        simp only at s0 s1 s2 s3 s4 s5
        obtain ⟨r0, r1, r2, r3, r4, r5⟩ := hL.rs
        simp only [zeroS] at r0 r1 r2 r3 r4 r5
        have g0 := hL.fr 0
        have g1 := hL.fr 1
        have g2 := hL.fr 2
        have g3 := hL.fr 3
        have g4 := hL.fr 4
        have g5 := hL.fr 5
        have f3 := hL.fz 3
        have hM := hL.set hxr _ 3 (.int .i64 ((d : Int) - 3)) (hL.st.nn _)
        have hdi : (d : Int) < 7 := by omega
        go_wp2_with fail
        obtain ⟨⟨y0, y1, y2, y3, y4, y5⟩, e2, e3⟩ := hM.fin ⟨2, (-1), (a : Int), ((d : Int) - 3), 0, []⟩
        change bodyPost _ _ _ _ _ (putS (W6.setCell ⟨xb, 3, none⟩ (.int .i64 ((d : Int) - 3))) rx ⟨2, (-1), (a : Int), ((d : Int) - 3), 0, []⟩)
        generalize putS (W6.setCell ⟨xb, 3, none⟩ (.int .i64 ((d : Int) - 3))) rx ⟨2, (-1), (a : Int), ((d : Int) - 3), 0, []⟩ = X at *
        simp only at y0 y1 y2 y3 y4 y5
        refine bodyPost_ret (v := Stp.v ⟨2, (-1), (a : Int), ((d : Int) - 3), 0, []⟩) (by simp [results, Tryz.results64, go_sem, y0, y1, y2, y3, y4, y5, Stp.v]) rfl ⟨⟨2, (-1), (a : Int), ((d : Int) - 3), 0, []⟩, rfl, may_sym _ _ _ hop (by omega) (by omega), rfl, rfl, e2, e3⟩
      · have c1 : ((c : Int) == 0) = false := by simp; omega
        obtain ⟨s0, s1, s2, s3, s4, s5⟩ := hK.st
        simp only at s0 s1 s2 s3 s4 s5
        obtain ⟨r0, r1, r2, r3, r4, r5⟩ := hK.rs
        simp only [zeroS] at r0 r1 r2 r3 r4 r5
        have g0 := hK.fr 0
        have g1 := hK.fr 1
        have g2 := hK.fr 2
        have g3 := hK.fr 3
        have g4 := hK.fr 4
        have g5 := hK.fr 5
        go_wp2_with fail
        obtain ⟨⟨y0, y1, y2, y3, y4, y5⟩, e2, e3⟩ := hK.fin ⟨2, (-1), (a : Int), 1, 0, []⟩
        change bodyPost _ _ _ _ _ (putS W5 rx ⟨2, (-1), (a : Int), 1, 0, []⟩)
        generalize putS W5 rx ⟨2, (-1), (a : Int), 1, 0, []⟩ = X at *
        simp only at y0 y1 y2 y3 y4 y5
        refine bodyPost_ret (v := Stp.v ⟨2, (-1), (a : Int), 1, 0, []⟩) (by simp [results, Tryz.results64, go_sem, y0, y1, y2, y3, y4, y5, Stp.v]) rfl ⟨⟨2, (-1), (a : Int), 1, 0, []⟩, rfl, may_sym _ _ _ hop (by omega) (by omega), rfl, rfl, e2, e3⟩


end Go.Proofs.YthofogokpolhdaaGreatDoor.Trees

namespace Go.Proofs.YthofogokpolhdaaGreatDoor.Trees
open Go.RowKit Go.Shelf
open Go.Proofs.YthofogokpolhdaaGreatDoor.Style (bs bs_size bs_at getD_at bs_of)
open Go.Proofs.YthofogokpolhdaaGreatDoor.Toks (cell_lt cell_same SliceAt Above wpList_app)
set_option linter.unusedVariables false
set_option linter.unusedSimpArgs false

theorem RowX.keep {W V : World} {rb : Nat} (h : RowX W rb) (hb : ∀ k, k ≤ rb → V.heap[k]? = W.heap[k]?) : RowX V rb := by
  obtain ⟨l, k, ⟨⟨o, c, h0, hc, hv⟩, h1, h2⟩, hk⟩ := h
  refine ⟨l, k, ⟨⟨o, c, cell_same h0 (hb rb (Nat.le_refl _)), hc, fun i hi => ?_⟩, cell_same h1 (hb rb (Nat.le_refl _)), (Toks.frozen_of_block (hb rb (Nat.le_refl _)) 1).trans h2⟩, hk⟩
  obtain ⟨b, off, e, hn, hx⟩ := hv i hi
  exact ⟨b, off, e, hn, cell_same hx (hb b (by omega))⟩

/-- What is made has short texts, and small numbers. -/
def fitT (x : Stp) : Prop := x.text.length ≤ 10 ∧ x.num ≤ 1200
/-- How tree ends. -/
def TreeEnd (rb lev : Nat) (w : World) (e : Ending) (w' : World) : Prop :=
  ∃ (t : Tr) (s : Value), e = .returned s ∧ t.good symT ∧ t.flat.length + 1 ≤ 2 ^ (lev + 1) ∧ (∀ x ∈ t.flat, fitT x) ∧ StepsAt w' s t.flat ∧ Above w.heap.size s ∧ RowX w' rb ∧ But rb w w'
theorem pow_ge (lev : Nat) : 2 ≤ 2 ^ (lev + 1) := by
  have := Nat.one_le_two_pow (n := lev)
  rw [Nat.pow_succ]; omega
/-- A leaf. -/
theorem leaf_end {rb lev : Nat} {w W : World} (x : Stp) (hr : RowX W rb) (hb : But rb w W) (hm : mayZ symT x = true) (h0 : takesZ x.op = 0) (ht : fitT x) : TreeEnd rb lev w (.returned (.slice (some ⟨W.heap.size, 0, none⟩) 1 1)) (W.alloc (.cells x.cs 47)) := by
  have hu : Below W.heap.size W (W.alloc (.cells x.cs 47)) := (Below.refl _ _).alloc (Nat.le_refl _) _
  have hz := hb.size
  refine ⟨.leaf x, _, rfl, ⟨hm, h0⟩, pow_ge lev, fun y hy => ?_, StepsAt.new W 47 [x] x.cs (by first | rfl | simp), fun a n c e => ?_, hr.go hu, hb.trans (But.of hu)⟩
  · have : y = x := by simpa [Tr.flat] using hy
    rw [this]; exact ht
  · injection e with e
    injection e with e
    subst e
    exact hz
/-- One step behind a row of one's own. -/
theorem add_step {B : Nat} {W : World} {s : Value} {L : List Stp} (h : StepsAt W s L) (hA : Above B s) (hB : B ≤ W.heap.size) (hl : L.length ≤ 1000) (x : Stp) :
    ∃ V s', (∀ ty, (Builtin.append_ #[34, 34] ty #[s, .slice (some ⟨W.heap.size, 0, none⟩) 1 1]).run Tryz.prog (W.alloc (.cells x.cs 47)) = .ok s' V) ∧ StepsAt V s' (L ++ [x]) ∧ Above B s' ∧ Below B W V := by
  have hu : Below W.heap.size W (W.alloc (.cells x.cs 47)) := (Below.refl _ _).alloc (Nat.le_refl _) _
  obtain ⟨V, s', hr, h1, h2, h3, _, _⟩ := app_steps (h.go hu) hA (by rw [World.size_alloc]; omega) (StepsAt.new W 47 [x] x.cs (by first | rfl | simp)).view (by simp only [List.length_cons, List.length_nil]; omega) (.inl (by simp))
  exact ⟨V, s', hr, h1, h2, (hu.mono hB).trans h3⟩
/-- A step on one tree. -/
theorem one_end {rb lev : Nat} {w V : World} {t : Tr} {s : Value} (x : Stp) (hb : But rb w V) (hr : RowX V rb) (hg : t.good symT) (hl : t.flat.length + 1 ≤ 2 ^ (lev + 1)) (hT : ∀ x ∈ t.flat, fitT x) (hm : mayZ symT x = true) (h1 : takesZ x.op = 1) (ht : fitT x) (hs : StepsAt V s (t.flat ++ [x])) (hA : Above w.heap.size s) : TreeEnd rb (lev + 1) w (.returned s) V := by
  refine ⟨.one x t, s, rfl, ⟨⟨hm, h1⟩, hg⟩, ?_, fun y hy => ?_, hs, hA, hr, hb⟩
  · simp only [Tr.flat, List.length_append, List.length_cons, List.length_nil]
    rw [Nat.pow_succ]
    have := pow_ge lev
    omega
  · rcases List.mem_append.1 hy with h | h
    · exact hT y h
    · have : y = x := by simpa using h
      rw [this]; exact ht
theorem two_end {rb lev : Nat} {w V : World} {t u : Tr} {s : Value} (x : Stp) (hb : But rb w V) (hr : RowX V rb) (hg : t.good symT) (hl : t.flat.length + 1 ≤ 2 ^ (lev + 1)) (hT : ∀ x ∈ t.flat, fitT x) (hg2 : u.good symT) (hl2 : u.flat.length + 1 ≤ 2 ^ (lev + 1)) (hT2 : ∀ x ∈ u.flat, fitT x) (hm : mayZ symT x = true) (h1 : takesZ x.op = 2) (ht : fitT x) (hs : StepsAt V s (t.flat ++ u.flat ++ [x])) (hA : Above w.heap.size s) : TreeEnd rb (lev + 1) w (.returned s) V := by
  refine ⟨.two x t u, s, rfl, ⟨⟨hm, h1⟩, hg, hg2⟩, ?_, fun y hy => ?_, hs, hA, hr, hb⟩
  · simp only [Tr.flat, List.length_append, List.length_cons, List.length_nil]
    rw [Nat.pow_succ]
    omega
  · rcases List.mem_append.1 hy with h | h
    · rcases List.mem_append.1 h with h | h
      · exact hT y h
      · exact hT2 y h
    · have : y = x := by simpa using h
      rw [this]; exact ht

theorem sym_num {p a n m : Int} (h : mayZ symT ⟨2, p, a, n, m, []⟩ = true) : m ≤ 1200 := by
  rw [may_2, Bool.and_eq_true] at h
  have h2 := h.2
  rw [Bool.and_eq_true, beq_iff_eq] at h2
  omega
theorem takes_0 (op : Int) (h : op = 1 ∨ op = 2 ∨ op = 7) : takesZ op = 0 := by unfold takesZ; rw [if_neg (by omega), if_neg (by omega)]
theorem may_num (v : Int) (h : 1 ≤ v) : mayZ symT ⟨1, -1, 0, 0, v, []⟩ = true := by
  rw [may_1, decide_eq_true h, empty_iff]; rfl
theorem may_note (o : Int) (t : List UInt8) (h : o = 6 ∨ o = 7) (ht : fineT t = true) : mayZ symT ⟨o, -1, 0, 0, 0, t⟩ = true := by
  rw [may_67 _ _ _ _ _ _ _ h, ht]; rfl
theorem may_op3 (o : Int) (h : o = 3 ∨ o = 4 ∨ o = 5) : mayZ symT ⟨o, -1, 0, 0, 0, []⟩ = true := by
  rw [may_345 _ _ _ _ _ _ _ h, empty_iff]; rfl
set_option maxRecDepth 100000 in
set_option maxHeartbeats 4000000 in
theorem tree_x (rb : Nat) : ∀ (lev : Nat) (w : World), RowX w rb → lev ≤ 4 → Calls Tryz.prog 38 #[.pointer (some ⟨rb, 0, none⟩), .int .i64 (lev : Int)] w (TreeEnd rb lev w) := by
  intro lev
  induction lev with
  | zero =>
    intro w h _
    have hN := fun (n : Nat) W hW hn hn2 => next_x rb n W hW hn hn2
    have hS := fun W hW => sym_x rb W hW
    show Calls _ _ #[.pointer (some ⟨rb, 0, none⟩), .int .i64 0] _ _
    go_enter Tryz.func38, Tryz.ntmps38
    go_wp2_with fail
    refine (hN 12 _ h (by omega) (by omega)).mono ?_
    rintro e w1 ⟨k, rfl, hk, hr1, ho1⟩
    go_wp2_with fail
    refine (hS _ hr1).mono ?_
    rintro e w2 ⟨⟨xo, xp, xa, xn, xm, xt⟩, rfl, hm, hop, htx, hr2, hb2⟩
    simp only at hop htx
    subst hop htx
    have hE := leaf_end (lev := 0) ⟨2, xp, xa, xn, xm, []⟩ hr2 ((But.only ho1).trans hb2) hm (takes_0 _ (by simp)) ⟨by simp, sym_num hm⟩
    simp only [Stp.cs] at hE
    simp only [Stp.v]
    go_wp2_with fail
    go_ret
    exact hE
  | succ lev ih =>
    intro w h hlev
    have hN := fun (n : Nat) W hW hn hn2 => next_x rb n W hW hn hn2
    have hS := fun W hW => sym_x rb W hW
    have hX := fun W hW => text_x rb W hW
    have hl0 : ((lev : Int) + 1 == 0) = false := by simp; omega
    have hl1 : ((lev + 1 : Nat) : Int) - 1 = (lev : Int) := by omega
    have hl2 : ((lev + 1 : Nat) : Int) ≤ 4 := by omega
    have hrw := h.lt
    go_enter Tryz.func38, Tryz.ntmps38
    go_wp2_with fail
    refine (hN 12 _ h (by omega) (by omega)).mono ?_
    rintro e w1 ⟨k, rfl, hk, hr1, ho1⟩
    have hb1 := But.only ho1
    have hz1 := ho1.size
    clear h ho1
    by_cases h4 : k < 4
    · have h4i : (k : Int) < 4 := by omega
      go_wp2_with fail
      refine (hS _ hr1).mono ?_
      rintro e w2 ⟨⟨xo, xp, xa, xn, xm, xt⟩, rfl, hm, hop, htx, hr2, hb2⟩
      simp only at hop htx
      subst hop htx
      have hE := leaf_end (lev := lev + 1) ⟨2, xp, xa, xn, xm, []⟩ hr2 (hb1.trans hb2) hm (takes_0 _ (by simp)) ⟨by simp, sym_num hm⟩
      simp only [Stp.cs] at hE
      simp only [Stp.v]
      go_wp2_with fail
      go_ret
      exact hE
    have h4i : ¬ (k : Int) < 4 := by omega
    have h4d : decide ((k : Int) < 4) = false := decide_eq_false h4i
    by_cases h5 : k = 4
    · subst h5
      go_wp2_with fail
      refine (hN 1200 _ hr1 (by omega) (by omega)).mono ?_
      rintro e w2 ⟨d, rfl, hd, hr2, ho2⟩
      have hdi : (d : Int) < 1200 := by omega
      have hE := leaf_end (lev := lev + 1) ⟨1, -1, 0, 0, 1 + d, []⟩ hr2 (hb1.trans (But.only ho2)) (may_num _ (by omega)) (takes_0 _ (by simp)) ⟨by simp, by show (1 : Int) + d ≤ 1200; omega⟩
      simp only [Stp.cs] at hE
      go_wp2_with fail
      go_ret
      exact hE
    by_cases h6 : k = 5
    · subst h6
      go_wp2_with fail
      refine (hX _ hr1).mono ?_
      rintro e w2 ⟨t, rfl, hf, htl, hr2, hb2⟩
      have hE := leaf_end (lev := lev + 1) ⟨7, -1, 0, 0, 0, t⟩ hr2 (hb1.trans hb2) (may_note _ _ (by simp) hf) (takes_0 _ (by simp)) ⟨htl, by simp⟩
      simp only [Stp.cs] at hE
      go_wp2_with fail
      go_ret
      exact hE
    have k4 : ((k : Int) == 4) = false := by simp; omega
    have k5 : ((k : Int) == 5) = false := by simp; omega
    go_wp2_with fail
    refine (ih w1 hr1 (by omega)).mono ?_
    rintro e w2 ⟨ta, sa, rfl, hga, hla, hTa, hsa, hAa, hr2, hb2⟩
    obtain ⟨oa, ca, rfl⟩ := SliceAt.slice hsa
    have h31 : ta.flat.length ≤ 40 := by
      have : 2 ^ (lev + 1) ≤ 2 ^ 4 := Nat.pow_le_pow_right (by omega) (by omega)
      omega
    have hz2 := hb2.size
    have hB2 := hb1.trans hb2
    clear hb2 hr1
    by_cases h7 : k = 6
    · subst h7
      go_wp2_with fail
      refine (hX _ hr2).mono ?_
      rintro e w3 ⟨t, rfl, hf, htl, hr3, hb3⟩
      have hz3 := hb3.size
      have hsa3 := hsa.but hb3 (hAa.mono (by omega))
      obtain ⟨V, s', hr, hs', hA', hV⟩ := add_step hsa3 (hAa.mono (Nat.le_of_eq hz1.symm)) (by omega) (by omega) ⟨6, -1, 0, 0, 0, t⟩
      have hE := one_end ⟨6, -1, 0, 0, 0, t⟩ ((hB2.trans hb3).join hV (Nat.le_refl _)) (hr3.keep (fun k hk => hV.block k (by omega))) hga hla hTa (may_note _ _ (by simp) hf) rfl ⟨htl, by simp⟩ hs' hA'
      simp only [Stp.cs] at hr
      have HE := Lib.hid hE
      clear hE hsa hsa3 hs' hA' hV hAa hTa hla hga hf htl hr3 hb3 hB2 hb1 ih hN hS hX hr2
      go_wp2_with (first | (at_builtin; refine wpList_app rfl _ _ 34 34 rfl hr ?_) | fail)
      go_ret
      exact HE.out
    have k6 : ((k : Int) == 6) = false := by simp; omega
    by_cases h8 : k = 7
    · subst h8
      obtain ⟨V, s', hr, hs', hA', hV⟩ := add_step hsa (hAa.mono (Nat.le_of_eq hz1.symm)) (by omega) (by omega) ⟨5, -1, 0, 0, 0, []⟩
      have hE := one_end ⟨5, -1, 0, 0, 0, []⟩ (hB2.join hV (Nat.le_refl _)) (hr2.keep (fun k hk => hV.block k (by omega))) hga hla hTa (may_op3 _ (by simp)) rfl ⟨by simp, by simp⟩ hs' hA'
      simp only [Stp.cs] at hr
      have HE := Lib.hid hE
      clear hE hsa hs' hA' hV hAa hTa hla hga hB2 hb1 ih hN hS hX hr2
      go_wp2_with (first | (at_builtin; refine wpList_app rfl _ _ 34 34 rfl hr ?_) | fail)
      go_ret
      exact HE.out
    have k7 : ((k : Int) == 7) = false := by simp; omega
    go_wp2_with fail
    refine (ih w2 hr2 (by omega)).mono ?_
    rintro e w3 ⟨tb, sb, rfl, hgb, hlb, hTb, hsb, hAb, hr3, hb3⟩
    have hz3 := hb3.size
    have hsa3 := hsa.but hb3 (hAa.mono (by omega))
    have h32 : tb.flat.length ≤ 40 := by
      have : 2 ^ (lev + 1) ≤ 2 ^ 4 := Nat.pow_le_pow_right (by omega) (by omega)
      omega
    obtain ⟨ob, cb, rfl⟩ := SliceAt.slice hsb
    obtain ⟨V1, s1, hq1, hs1, hA1, hV1, ⟨o1, c1, rfl, _⟩, _⟩ := app_steps hsa3 (hAa.mono (Nat.le_of_eq hz1.symm)) (by omega) hsb.view (by omega) (.inl (by have := flat_pos ta; omega))
    have hzV := hV1.size
    have hB3 := (hB2.trans hb3).join hV1 (Nat.le_refl _)
    have hrV := hr3.keep (fun k hk => hV1.block k (by omega))
    have HG := Lib.hid (And.intro hB3 (And.intro hrV (And.intro hga (And.intro hla (And.intro hTa (And.intro hgb (And.intro hlb hTb)))))))
    clear hsa hsa3 hsb hAa hAb hTa hTb hla hlb hga hgb hB2 hb1 hb3 hV1 ih hN hS hX hr2 hr3 hB3 hrV
    by_cases h9 : 9 < k
    · have h9i : (9 : Int) < (k : Int) := by omega
      obtain ⟨V, s', hr, hs', hA', hV⟩ := add_step hs1 hA1 (by omega) (by simp only [List.length_append]; omega) ⟨4, -1, 0, 0, 0, []⟩
      have hE := two_end ⟨4, -1, 0, 0, 0, []⟩ (HG.out.1.join hV (Nat.le_refl _)) (HG.out.2.1.keep (fun k hk => hV.block k (by omega))) HG.out.2.2.1 HG.out.2.2.2.1 HG.out.2.2.2.2.1 HG.out.2.2.2.2.2.1 HG.out.2.2.2.2.2.2.1 HG.out.2.2.2.2.2.2.2 (may_op3 _ (by simp)) rfl ⟨by simp, by simp⟩ hs' hA'
      simp only [Stp.cs] at hr
      have HE := Lib.hid hE
      clear hE hs1 hA1 hs' hA' hV HG
      go_wp2_with (first | (at_builtin; first | refine wpList_app rfl _ _ 34 34 rfl hq1 ?_ | refine wpList_app rfl _ _ 34 34 rfl hr ?_) | fail)
      go_ret
      exact HE.out
    · have h9i : ¬ (9 : Int) < (k : Int) := by omega
      obtain ⟨V, s', hr, hs', hA', hV⟩ := add_step hs1 hA1 (by omega) (by simp only [List.length_append]; omega) ⟨3, -1, 0, 0, 0, []⟩
      have hE := two_end ⟨3, -1, 0, 0, 0, []⟩ (HG.out.1.join hV (Nat.le_refl _)) (HG.out.2.1.keep (fun k hk => hV.block k (by omega))) HG.out.2.2.1 HG.out.2.2.2.1 HG.out.2.2.2.2.1 HG.out.2.2.2.2.2.1 HG.out.2.2.2.2.2.2.1 HG.out.2.2.2.2.2.2.2 (may_op3 _ (by simp)) rfl ⟨by simp, by simp⟩ hs' hA'
      simp only [Stp.cs] at hr
      have HE := Lib.hid hE
      clear hE hs1 hA1 hs' hA' hV HG
      go_wp2_with (first | (at_builtin; first | refine wpList_app rfl _ _ 34 34 rfl hq1 ?_ | refine wpList_app rfl _ _ 34 34 rfl hr ?_) | fail)
      go_ret
      exact HE.out

end Go.Proofs.YthofogokpolhdaaGreatDoor.Trees

namespace Go.Proofs.YthofogokpolhdaaGreatDoor.Trees
open Go.RowKit Go.Shelf
open Go.Proofs.YthofogokpolhdaaGreatDoor.Style (bs bs_size bs_at getD_at bs_of)
open Go.Proofs.YthofogokpolhdaaGreatDoor.Toks (cell_lt cell_same SliceAt Above wpList_app)
set_option linter.unusedVariables false
set_option linter.unusedSimpArgs false

/-- The value s is a slice that reads as these numbers. -/
def IV (w : World) (s : Value) (l : List Int) : Prop :=
  ∃ o c, s = .slice o l.length c ∧ l.length ≤ c ∧ ∀ i, i < l.length → ∃ b off, o = some ⟨b, off, none⟩ ∧ w.cell? ⟨b, off + i, none⟩ = some (.int .i64 (l.getD i 0)) ∧ -9223372036854775808 ≤ l.getD i 0 ∧ l.getD i 0 ≤ 9223372036854775807
theorem IV.go {w w' : World} {s : Value} {l : List Int} (h : IV w s l) (hb : Below w.heap.size w w') : IV w' s l := by
  obtain ⟨o, c, e, hc, h⟩ := h
  refine ⟨o, c, e, hc, fun i hi => ?_⟩
  obtain ⟨b, off, eo, h0, h1⟩ := h i hi
  exact ⟨b, off, eo, (hb.cell (p := ⟨b, _, none⟩) (cell_lt h0)).trans h0, h1⟩
/-- A tree that was made, of some steps. -/
def MadeEnd (w : World) (e : Ending) (w' : World) : Prop :=
  ∃ (t : Tr) (s : Value), e = .returned s ∧ t.good symT ∧ t.flat.length ≤ 31 ∧ (∀ x ∈ t.flat, fitT x) ∧ StepsAt w' s t.flat ∧ Above w.heap.size s ∧ Below w.heap.size w w'

set_option maxRecDepth 100000 in
set_option maxHeartbeats 2000000 in
theorem made_x (s : Value) (l : List Int) (w : World) (hV : IV w s l) (hl : l.length ≤ 9223372036854775807) :
    Calls Tryz.prog 22 #[s] w (MadeEnd w) := by
  have key : ∀ (o : Option Addr) (n c : Nat), n ≤ l.length → n ≤ 120 → s = .slice o l.length c → l.length ≤ c → RowX (w.alloc (.cells #[.slice o n c, .int .i64 0] 79)) w.heap.size := by
    intro o n c hn h120 e hc
    have hu : Below w.heap.size w (w.alloc (.cells #[.slice o n c, .int .i64 0] 79)) := (Below.refl _ _).alloc (Nat.le_refl _) _
    obtain ⟨o', c', e', _, hv⟩ := hV
    rw [e] at e'
    injection e' with e1 _ e3
    subst e1 e3
    have hlt : (l.take n).length = n := by rw [List.length_take]; omega
    have hgd : ∀ i, i < n → (l.take n).getD i 0 = l.getD i 0 := fun i hi => by rw [List.getD_eq_getElem?_getD, List.getD_eq_getElem?_getD, List.getElem?_take_of_lt hi]
    refine ⟨l.take n, 0, ⟨⟨o, c, by rw [hlt]; simp [go_sem], by omega, fun i hi => ?_⟩, by simp [go_sem], by simp [go_sem]⟩, by omega, by omega, fun i hi => ?_⟩
    · rw [hlt] at hi
      obtain ⟨b, off, eo, h0, _⟩ := hv i (by omega)
      exact ⟨b, off, eo, cell_lt h0, by rw [hgd i hi]; exact (hu.cell (p := ⟨b, _, none⟩) (cell_lt h0)).trans h0⟩
    · rw [hlt] at hi
      obtain ⟨b, off, eo, _, h0⟩ := hv i (by omega)
      rw [hgd i hi]
      exact h0
  have fin : ∀ (o : Option Addr) (n c : Nat) (e : Ending) (w' : World), TreeEnd w.heap.size 4 (w.alloc (.cells #[.slice o n c, .int .i64 0] 79)) e w' → MadeEnd w e w' := by
    intro o n c e w' ⟨t, s', he, hg, hl, hT, hs, hA, hr, hb⟩
    have hz : (w.alloc (.cells #[.slice o n c, .int .i64 0] 79)).heap.size = w.heap.size + 1 := World.size_alloc _ _
    refine ⟨t, s', he, hg, by omega, hT, hs, hA.mono (by omega), ?_⟩
    have hu : Below w.heap.size w (w.alloc (.cells #[.slice o n c, .int .i64 0] 79)) := (Below.refl _ _).alloc (Nat.le_refl _) _
    exact hu.trans (hb.below (Nat.le_refl _) (by omega))
  obtain ⟨o, c, rfl, hc, hv⟩ := id hV
  have hTr := fun W h => tree_x w.heap.size 4 W h (by omega)
  have hli : (l.length : Int) ≤ 9223372036854775807 := by omega
  by_cases h120 : 120 < l.length
  · have hi : (120 : Int) < l.length := by omega
    have hci : (120 : Int) ≤ c := by omega
    have hK := key o 120 c (by omega) (by omega) rfl hc
    have hF := fin o 120 c
    clear key fin hv hV
    go_enter Tryz.func22, Tryz.ntmps22
    go_wp2_with fail
    refine (hTr _ hK).mono ?_
    intro e w' hE
    have hE2 := hF e w' hE
    obtain ⟨t, s', rfl, hr⟩ := id hE2
    have HE := Lib.hid hE2
    clear hE hE2 hr hF
    go_wp2_with fail
    go_ret
    exact HE.out
  · have hi : ¬ (120 : Int) < l.length := by omega
    have hK := key o l.length c (by omega) (by omega) rfl hc
    have hF := fin o l.length c
    clear key fin hv hV
    go_enter Tryz.func22, Tryz.ntmps22
    go_wp2_with fail
    refine (hTr _ hK).mono ?_
    intro e w' hE
    have hE2 := hF e w' hE
    obtain ⟨t, s', rfl, hr⟩ := id hE2
    have HE := Lib.hid hE2
    clear hE hE2 hr hF
    go_wp2_with fail
    go_ret
    exact HE.out

/-- Steps put behind nothing: a copy. -/
theorem copy_steps {W : World} {s : Value} {L : List Stp} (h : View W s L) (hl : L.length ≤ 1000) :
    ∃ V o c, (∀ ty, (Builtin.append_ #[34, 34] ty #[.slice (some ⟨W.heap.size, 0, none⟩) 0 0, s]).run Tryz.prog (W.alloc (.cells #[] 47)) = .ok (.slice o L.length c) V) ∧ StepsAt V (.slice o L.length c) L ∧ Above W.heap.size (.slice o L.length c) ∧ Below W.heap.size W V ∧ L.length ≤ c := by
  have hu : Below W.heap.size W (W.alloc (.cells #[] 47)) := (Below.refl _ _).alloc (Nat.le_refl _) _
  have h0 : StepsAt (W.alloc (.cells #[] 47)) (.slice (some ⟨W.heap.size, 0, none⟩) 0 0) [] := StepsAt.new W 47 [] #[] rfl
  obtain ⟨V, s', hr, h1, h2, h3, ⟨o, c, rfl, hc, _⟩, _⟩ := app_steps h0 (B := W.heap.size) (fun a n c e => by injection e with e; injection e with e; subst e; exact Nat.le_refl _) (by rw [World.size_alloc]; omega) (h.go hu) (by simp only [List.length_nil]; omega) (.inr ⟨_, _, _, rfl⟩)
  simp only [List.length_nil, Nat.zero_add, List.nil_append] at hr h1 h2 h3 hc
  exact ⟨V, o, c, hr, h1, h2, hu.trans (h3.mono (Nat.le_refl _)), hc⟩

/-- A copy, and one step behind it: two appends. -/
structure PairQ (V Wa Wb V1 V2 : World) (s0 s1 sx r1 r2 : Value) (L : List Stp) (x : Stp) : Prop where
  hr1 : ∀ ty, (Builtin.append_ #[34, 34] ty #[s0, sx]).run Tryz.prog Wa = .ok r1 V1
  hr2 : ∀ ty, (Builtin.append_ #[34, 34] ty #[r1, s1]).run Tryz.prog Wb = .ok r2 V2
  rows : StepsAt V2 r2 (L ++ [x])
  b1 : Below V.heap.size V V1
  b2 : Below V.heap.size V V2
theorem step_app2 {P : Program} {ops : Array Oper} {o : Oper} {a : Act} {w : World} {K : Act → World → Prop} {Q : Exit → Act → World → Prop} {E : Prop}
    (hw : Region.wanted o (yielded ops a.tmps) = true) (s x : Operand) (t tx : TypeId) (ho : o.op = .call { callee := .builtin .append, args := #[s, x], argTypes := #[t, tx] }) {v : Value} {V : World}
    (hr : ∀ ty, (Builtin.append_ #[t, tx] ty #[a.eval s, a.eval x]).run P w = .ok v V) (hK : K (a.put o.dst v) V) :
    if Region.wanted o (yielded ops a.tmps) = true then Oper.wp P o a w K Q else E := by
  rw [if_pos hw]
  unfold Oper.wp execOp
  simp only [ho, resolve, invoke, builtin, Sem.run_bind, Sem.run_pure, Result.andThen_ok, List.map_toArray, List.map_cons, List.map_nil, hr]
  exact hK
theorem pair_i {V : World} {s : Value} {L : List Stp} {n : Nat} (hV : View V s L) (x : Stp) (hl : L.length ≤ 1000) (hn : L.length = n) :
    ∃ V1 V2 o1 c1 o2 c2, PairQ V (V.alloc (.cells #[] 47)) (V1.alloc (.cells x.cs 47)) V1 V2 (.slice (some ⟨V.heap.size, 0, none⟩) 0 0) (.slice (some ⟨V1.heap.size, 0, none⟩) 1 1) s (.slice o1 n c1) (.slice o2 (n + 1) c2) L x := by
  subst hn
  obtain ⟨V1, o1, c1, h1, h2, h3, h4, _⟩ := copy_steps hV hl
  obtain ⟨V2, s2, g1, g2, g3, g4⟩ := add_step h2 h3 h4.size hl x
  obtain ⟨o2, c2, rfl⟩ := SliceAt.slice g2
  rw [List.length_append] at g1 g2
  exact ⟨V1, V2, o1, c1, o2, c2, h1, g1, g2, h4, h4.trans g4⟩
theorem pair_any {V W : World} {s : Value} {L : List Stp} (hV : View V s L) (hu : Below V.heap.size V W) {b0 b1 : Nat} (x : Stp) (h0 : StepsAt W (.slice (some ⟨b0, 0, none⟩) 0 0) []) (h1 : StepsAt W (.slice (some ⟨b1, 0, none⟩) 1 1) [x]) (hne : b0 ≠ b1) (hb0 : V.heap.size ≤ b0) (hl : L.length ≤ 1000) :
    ∃ V1 V2 o1 c1 o2 c2, PairQ V W V1 V1 V2 (.slice (some ⟨b0, 0, none⟩) 0 0) (.slice (some ⟨b1, 0, none⟩) 1 1) s (.slice o1 L.length c1) (.slice o2 (L.length + 1) c2) L x := by
  have hab : Above V.heap.size (.slice (some ⟨b0, 0, none⟩) 0 0) := fun a n c e => by injection e with e; injection e with e; subst e; exact hb0
  obtain ⟨V1, s1, hr1, g1, g2, g3, ⟨o1, c1, rfl, _, _⟩, g4⟩ := app_steps h0 hab hu.size (hV.go hu) (by simp only [List.length_nil]; omega) (.inr ⟨_, _, _, rfl⟩)
  simp only [List.length_nil, Nat.zero_add, List.nil_append] at hr1 g1 g2
  have hb1 : b1 < W.heap.size := by
    rcases h1 with ⟨h, _⟩ | ⟨b, c, e, _, _, hg⟩
    · cases h
    · injection e with e; injection e with e; injection e with e; subst e; exact hg.2.2
  have h1' : StepsAt V1 (.slice (some ⟨b1, 0, none⟩) 1 1) [x] := by
    rcases h1 with ⟨h, _⟩ | ⟨b, c, e, hc, hm, hg⟩
    · cases h
    · injection e with e e2 e3; injection e with e; injection e with e; subst e e3
      have hk := g4 b1 hb1 (fun a n c e => by injection e with e; injection e with e; subst e; exact hne)
      exact .inr ⟨b1, 1, rfl, hc, hm.block hk, hg.block g3.size hk⟩
  obtain ⟨V2, s2, hr2, k1, k2, k3, ⟨o2, c2, rfl, _, _⟩, _⟩ := app_steps g1 (g2.mono (Nat.le_refl _)) (by have := hu.size; have := g3.size; omega) h1'.view (by simp only [List.length_cons, List.length_nil]; omega) (.inl (by simp))
  exact ⟨V1, V2, o1, c1, o2, c2, hr1, hr2, k1, hu.trans g3, (hu.trans g3).trans k3⟩
theorem pair_ii {V : World} {s : Value} {L : List Stp} {n : Nat} (hV : View V s L) (x : Stp) (hl : L.length ≤ 1000) (hn : L.length = n) :
    ∃ V1 V2 o1 c1 o2 c2, PairQ V ((V.alloc (.cells #[] 47)).alloc (.cells x.cs 47)) V1 V1 V2 (.slice (some ⟨V.heap.size, 0, none⟩) 0 0) (.slice (some ⟨V.heap.size + 1, 0, none⟩) 1 1) s (.slice o1 n c1) (.slice o2 (n + 1) c2) L x := by
  subst hn
  have hu : Below V.heap.size V (V.alloc (.cells #[] 47)) := (Below.refl _ _).alloc (Nat.le_refl _) _
  have hz : (V.alloc (.cells #[] 47)).heap.size = V.heap.size + 1 := World.size_alloc _ _
  have h0 : StepsAt (V.alloc (.cells #[] 47)) (.slice (some ⟨V.heap.size, 0, none⟩) 0 0) [] := StepsAt.new V 47 [] #[] rfl
  have h1 := StepsAt.new (V.alloc (.cells #[] 47)) 47 [x] x.cs (by first | rfl | simp)
  rw [hz] at h1
  exact pair_any hV (hu.alloc (by rw [hz]; omega) _) x (h0.go ((Below.refl _ _).alloc (Nat.le_refl _) _)) h1 (by omega) (Nat.le_refl _) hl
theorem pair_iii {V : World} {s : Value} {L : List Stp} {n : Nat} (hV : View V s L) (x : Stp) (hl : L.length ≤ 1000) (hn : L.length = n) :
    ∃ V1 V2 o1 c1 o2 c2, PairQ V ((V.alloc (.cells x.cs 47)).alloc (.cells #[] 47)) V1 V1 V2 (.slice (some ⟨V.heap.size + 1, 0, none⟩) 0 0) (.slice (some ⟨V.heap.size, 0, none⟩) 1 1) s (.slice o1 n c1) (.slice o2 (n + 1) c2) L x := by
  subst hn
  have hu : Below V.heap.size V (V.alloc (.cells x.cs 47)) := (Below.refl _ _).alloc (Nat.le_refl _) _
  have hz : (V.alloc (.cells x.cs 47)).heap.size = V.heap.size + 1 := World.size_alloc _ _
  have h1 := StepsAt.new V 47 [x] x.cs (by first | rfl | simp)
  have h0 := StepsAt.new (V.alloc (.cells x.cs 47)) 47 [] #[] rfl
  rw [hz] at h0
  exact pair_any hV (hu.alloc (by rw [hz]; omega) _) x h0 (StepsAt.go h1 ((Below.refl _ _).alloc (Nat.le_refl _) _)) (by omega) (by omega) hl

end Go.Proofs.YthofogokpolhdaaGreatDoor.Trees

