/-
  Contract of sym of the document's Row.
-/
import Derived.Test.YteakgagjacjhiaaUT
import Derived.Test.YteakgagjacjhiaaC2
namespace Go.Proofs.Yteakgagjacjhiaa.Trees
open Go.RowKit Go.Shelf
open Go.Proofs.Yteakgagjacjhiaa.Style (bs bs_size bs_at getD_at bs_of)
open Go.Proofs.Yteakgagjacjhiaa.Toks (cell_lt cell_same)
open Go.Proofs.Yteakgagjacjhiaa.Atoms (Row Pre tableRs tablePs TableAt TableEnd refTable_any)
set_option linter.unusedVariables false
set_option linter.unusedSimpArgs false
attribute [local irreducible] tableRs tablePs

def zeroS : Stp := ⟨0, 0, 0, 0, 0, []⟩
/-- While sym goes: the numbers, the table, its box, the step's box, the result's. -/
structure SyI (rb : Nat) (w W : World) (tb xb rx : Nat) (oa op : Option Addr) (na ca np cp : Nat) (x : Stp) : Prop where
  row : RowX W rb
  tab : TabAt W oa ca tableRs
  ab : ∀ a, oa = some a → rb < a.block ∧ a.block ≠ xb ∧ a.block ≠ rx
  t0 : W.cell? ⟨tb, 0, none⟩ = some (.slice oa na ca)
  t1 : W.cell? ⟨tb, 1, none⟩ = some (.slice op np cp)
  lt : rb < rx ∧ rx < tb ∧ rb < xb ∧ xb ≠ tb ∧ w.heap.size ≤ rx ∧ w.heap.size ≤ xb
  st : StAt W xb x
  fz : ∀ j, W.frozen? ⟨xb, j, none⟩ = false
  rs : StAt W rx zeroS
  fr : ∀ j, W.frozen? ⟨rx, j, none⟩ = false
  but : But rb w W
theorem SyI.go {rb : Nat} {w W W' : World} {tb xb rx : Nat} {oa op : Option Addr} {na ca np cp : Nat} {x : Stp} (h : SyI rb w W tb xb rx oa op na ca np cp x) (hb : Below W.heap.size W W') : SyI rb w W' tb xb rx oa op na ca np cp x :=
  ⟨h.row.go hb, h.tab.go hb, h.ab, (hb.cell (p := ⟨tb, 0, none⟩) (cell_lt h.t0)).trans h.t0, (hb.cell (p := ⟨tb, 1, none⟩) (cell_lt h.t0)).trans h.t1, h.lt, h.st.go hb, fun j => (hb.frozen (p := ⟨xb, j, none⟩) (cell_lt h.st.c0)).trans (h.fz j), h.rs.go hb, fun j => (hb.frozen (p := ⟨rx, j, none⟩) (cell_lt h.rs.c0)).trans (h.fr j), h.but.trans (But.of hb)⟩
theorem SyI.drew {rb : Nat} {w W : World} {tb xb rx : Nat} {oa op : Option Addr} {na ca np cp : Nat} {x : Stp} (h : SyI rb w W tb xb rx oa op na ca np cp x) : SyI rb w W.drew tb xb rx oa op na ca np cp x := h.go (Below.refl _ _).drew
/-- Only the block b has turned: what stands elsewhere. -/
theorem StAt.only {W W' : World} {b c : Nat} {x : Stp} (h : StAt W b x) (ho : Toks.Only c W W') (hn : b ≠ c) : StAt W' b x :=
  ⟨cell_same h.c0 (ho.block b hn), cell_same h.c1 (ho.block b hn), cell_same h.c2 (ho.block b hn), cell_same h.c3 (ho.block b hn), cell_same h.c4 (ho.block b hn), cell_same h.c5 (ho.block b hn)⟩
theorem TabAt.else {W W' : World} {oa : Option Addr} {ca : Nat} {rows : List Row} {b : Nat} (h : TabAt W oa ca rows) (ho : Toks.Only b W W') (ha : ∀ a, oa = some a → a.block ≠ b) : TabAt W' oa ca rows := fun i hi => by
  obtain ⟨b', e, hc⟩ := h i hi
  exact ⟨b', e, cell_same hc (ho.block b' (ha _ e))⟩
theorem SyI.next {rb : Nat} {w W W' : World} {tb xb rx : Nat} {oa op : Option Addr} {na ca np cp : Nat} {x : Stp} (h : SyI rb w W tb xb rx oa op na ca np cp x) (hr : RowX W' rb) (ho : Toks.Only rb W W') : SyI rb w W' tb xb rx oa op na ca np cp x := by
  have hl := h.lt
  exact ⟨hr, h.tab.else ho (fun a e => by have := h.ab a e; omega), h.ab, cell_same h.t0 (ho.block tb (by omega)), cell_same h.t1 (ho.block tb (by omega)), h.lt, h.st.only ho (by omega), fun j => (Toks.frozen_of_block (ho.block xb (by omega)) j).trans (h.fz j), h.rs.only ho (by omega), fun j => (Toks.frozen_of_block (ho.block rx (by omega)) j).trans (h.fr j), h.but.trans (But.only ho)⟩
/-- One field of the step turns. -/
theorem SyI.set {rb : Nat} {w W : World} {tb xb rx : Nat} {oa op : Option Addr} {na ca np cp : Nat} {x : Stp} (h : SyI rb w W tb xb rx oa op na ca np cp x) (hxr : xb ≠ rx) (y : Stp) (j : Nat) (u : Value) (hs : StAt (W.setCell ⟨xb, j, none⟩ u) xb y) : SyI rb w (W.setCell ⟨xb, j, none⟩ u) tb xb rx oa op na ca np cp y := by
  have hl := h.lt
  have ho : Toks.Only xb W (W.setCell ⟨xb, j, none⟩ u) := (Toks.Only.refl _ _).set j u
  exact ⟨h.row.other xb j u hl.2.2.1, h.tab.else ho (fun a e => (h.ab a e).2.1), h.ab, cell_same h.t0 (ho.block tb (by omega)), cell_same h.t1 (ho.block tb (by omega)), h.lt, hs, fun j' => by rw [World.frozen?_setCell]; exact h.fz j', h.rs.only ho (by omega), fun j' => by rw [World.frozen?_setCell]; exact h.fr j', h.but.join ((Below.refl _ _).setCell (p := ⟨xb, j, none⟩) (by show w.heap.size ≤ xb; omega) u) (Nat.le_refl _)⟩
/-- The step comes. -/
theorem SyI.more {rb : Nat} {w W : World} {tb rx : Nat} {oa op : Option Addr} {na ca np cp : Nat} (h : SyI rb w W tb rx rx oa op na ca np cp zeroS) (y : Stp) : SyI rb w (W.alloc (.cells y.cs 35)) tb W.heap.size rx oa op na ca np cp y := by
  have hl := h.lt
  have hb : Below W.heap.size W (W.alloc (.cells y.cs 35)) := (Below.refl _ _).alloc (Nat.le_refl _) _
  have h1 := h.go hb
  have h2 := cell_lt h.t0
  have h3 := cell_lt h.rs.c0
  have h4 := h.but.size
  have h5 : 0 < tableRs.length := by rw [table_len.1]; omega
  refine ⟨h1.row, h1.tab, fun a e => ?_, h1.t0, h1.t1, ⟨hl.1, hl.2.1, by omega, by omega, hl.2.2.2.2.1, h4⟩, StAt.new W y, fun j => by simp [go_sem], h1.rs, h1.fr, h1.but⟩
  obtain ⟨b, e', hc⟩ := h.tab 0 h5
  rw [e] at e'
  injection e' with e'
  subst e'
  have := cell_lt hc
  have h6 := h.ab _ e
  simp only at h6 ⊢
  omega
theorem StAt.pf {W : World} {b : Nat} {x : Stp} (h : StAt W b x) (v : Int) : StAt (W.setCell ⟨b, 1, none⟩ (.int .i64 v)) b { x with pf := v } := by
  obtain ⟨c0, c1, c2, c3, c4, c5⟩ := h
  exact ⟨by simp [go_sem, c0], by simp [go_sem, c1], by simp [go_sem, c2], by simp [go_sem, c3], by simp [go_sem, c4], by simp [go_sem, c5]⟩
theorem StAt.nn {W : World} {b : Nat} {x : Stp} (h : StAt W b x) (v : Int) : StAt (W.setCell ⟨b, 3, none⟩ (.int .i64 v)) b { x with n := v } := by
  obtain ⟨c0, c1, c2, c3, c4, c5⟩ := h
  exact ⟨by simp [go_sem, c0], by simp [go_sem, c1], by simp [go_sem, c2], by simp [go_sem, c3], by simp [go_sem, c4], by simp [go_sem, c5]⟩

/-- A step is put into a block. -/
def putS (W : World) (b : Nat) (x : Stp) : World := (((((W.setCell ⟨b, 0, none⟩ (.int .i64 x.op)).setCell ⟨b, 1, none⟩ (.int .i64 x.pf)).setCell ⟨b, 2, none⟩ (.int .i64 x.atom)).setCell ⟨b, 3, none⟩ (.int .i64 x.n)).setCell ⟨b, 4, none⟩ (.int .i64 x.num)).setCell ⟨b, 5, none⟩ (.string (bs x.text))
theorem putS_at {W : World} {b : Nat} {y : Stp} (h : StAt W b y) (x : Stp) : StAt (putS W b x) b x := by
  obtain ⟨c0, c1, c2, c3, c4, c5⟩ := h
  unfold putS
  exact ⟨by simp [go_sem, c0], by simp [go_sem, c1], by simp [go_sem, c2], by simp [go_sem, c3], by simp [go_sem, c4], by simp [go_sem, c5]⟩
theorem putS_only (W : World) (b : Nat) (x : Stp) : Toks.Only b W (putS W b x) := (((((Toks.Only.refl b W).set 0 _).set 1 _).set 2 _).set 3 _ |>.set 4 _).set 5 _
/-- How sym ends. -/
theorem SyI.fin {rb : Nat} {w W : World} {tb xb rx : Nat} {oa op : Option Addr} {na ca np cp : Nat} {x : Stp} (h : SyI rb w W tb xb rx oa op na ca np cp x) (y : Stp) : StAt (putS W rx y) rx y ∧ RowX (putS W rx y) rb ∧ But rb w (putS W rx y) := by
  have hl := h.lt
  refine ⟨putS_at h.rs y, ?_, h.but.join ((putS_only W rx y).below (B := w.heap.size) (by omega)) (Nat.le_refl _)⟩
  unfold putS
  exact (((((h.row.other rx 0 _ hl.1).other rx 1 _ hl.1).other rx 2 _ hl.1).other rx 3 _ hl.1).other rx 4 _ hl.1).other rx 5 _ hl.1
theorem may_sym (p a n : Int) (h : symT p a = true) (h1 : -99 ≤ n) (h2 : n ≤ 99) : mayZ symT ⟨2, p, a, n, 0, []⟩ = true := by
  rw [may_2, h, decide_eq_true h1, decide_eq_true h2, empty_iff]; rfl

set_option maxRecDepth 100000 in
set_option maxHeartbeats 4000000 in
theorem sym_x (rb : Nat) (w : World) (h : RowX w rb) :
    Calls Try.prog 36 #[.pointer (some ⟨rb, 0, none⟩)] w fun e w' => ∃ x : Stp, e = .returned x.v ∧ mayZ symT x = true ∧ x.op = 2 ∧ x.text = [] ∧ RowX w' rb ∧ But rb w w' := by
  have hTb := fun W => refTable_any W
  have hrw := h.lt
  have hu0 : Below w.heap.size w (w.alloc (.cells (Stp.cs ⟨0, 0, 0, 0, 0, []⟩) 35)) := by go_grown
  have hz0 : (w.alloc (.cells (Stp.cs ⟨0, 0, 0, 0, 0, []⟩) 35)).heap.size = w.heap.size + 1 := World.size_alloc _ _
  have hst0 := StAt.new w ⟨0, 0, 0, 0, 0, []⟩
  have hfz0 : ∀ j, (w.alloc (.cells (Stp.cs ⟨0, 0, 0, 0, 0, []⟩) 35)).frozen? ⟨w.heap.size, j, none⟩ = false := fun j => by simp [go_sem]
  go_enter Try.func36, Try.ntmps36
  go_wp2_with fail
  change Calls _ _ _ (w.alloc (.cells (Stp.cs ⟨0, 0, 0, 0, 0, []⟩) 35)) _
  generalize w.alloc (.cells (Stp.cs ⟨0, 0, 0, 0, 0, []⟩) 35) = w0 at *
  refine (hTb _).mono ?_
  rintro e w1 ⟨sa, sp, S, rfl, hTA, hb1⟩
  obtain ⟨oa, na, ca, rfl⟩ : ∃ o n c, sa = Value.slice o n c := by
    rcases hTA.atoms.1 with ⟨_, e⟩ | ⟨b, c, e, _⟩
    · exact ⟨_, _, _, e⟩
    · exact ⟨_, _, _, e⟩
  obtain ⟨rfl, hca, hTab, ⟨op, cp, rfl⟩, hab⟩ := tab_of hTA
  have hz1 := hb1.size
  have hu1 : Below w1.heap.size w1 (w1.alloc (.cells #[.slice oa tableRs.length ca, .slice op tablePs.length cp] 63)) := (Below.refl _ _).alloc (Nat.le_refl _) _
  have hI : SyI rb w (w1.alloc (.cells #[.slice oa tableRs.length ca, .slice op tablePs.length cp] 63)) w1.heap.size w.heap.size w.heap.size oa op tableRs.length ca tablePs.length cp zeroS := by
    have q1 : StAt (w1.alloc (.cells #[.slice oa tableRs.length ca, .slice op tablePs.length cp] 63)) w.heap.size zeroS := (hst0.go hb1).go hu1
    have q2 : ∀ j, (w1.alloc (.cells #[.slice oa tableRs.length ca, .slice op tablePs.length cp] 63)).frozen? ⟨w.heap.size, j, none⟩ = false := fun j => (hu1.frozen (p := ⟨w.heap.size, j, none⟩) (by show w.heap.size < w1.heap.size; omega)).trans ((hb1.frozen (p := ⟨w.heap.size, j, none⟩) (by show w.heap.size < w0.heap.size; omega)).trans (hfz0 j))
    exact
    ⟨((h.go hu0).go hb1).go hu1, hTab.go hu1, fun a e => by have := hab a e; omega, by simp [go_sem], by simp [go_sem], ⟨hrw, by omega, hrw, by omega, Nat.le_refl _, Nat.le_refl _⟩, q1, q2, q1, q2, ((But.of hu0).trans (But.of hb1)).trans (But.of hu1)⟩
  obtain ⟨hl1, hl2⟩ := table_len
  have hlp : 1 ≤ tablePs.length := by decide +kernel
  have hN := fun (n : Nat) W hW hn hn2 => next_x rb n W hW hn hn2
  have HF := Lib.hid (And.intro hca (And.intro hl1 (And.intro hl2 hlp)))
  clear hTA hTab hab hb1 hu1 hu0 hst0 hfz0 hTb hca hl1 hl2 hlp h hz0 hz1 hrw
  generalize w.heap.size = rx at *
  go_wp2_with fail
  generalize w1.alloc (.cells #[.slice oa tableRs.length ca, .slice op tablePs.length cp] 63) = W1 at *
  generalize w1.heap.size = tb at *
  refine (hN _ W1 hI.row (by rw [HF.out.2.1]; omega) (by rw [HF.out.2.1]; omega)).mono ?_
  rintro e W2 ⟨a, rfl, ha, hr2, ho2⟩
  have hI2 := (hI.next hr2 ho2).more ⟨2, -1, a, 1, 0, []⟩
  have hrx := cell_lt (hI.next hr2 ho2).rs.c0
  clear hI hr2 ho2
  go_upto_region 3 with fail
  simp only [Stp.cs] at hI2
  change Code.wp _ _ _ _ (W2.alloc (.cells #[.int .i64 2, .int .i64 (-1), .int .i64 (a : Int), .int .i64 1, .int .i64 0, .string (bs [])] 35))
  generalize W2.alloc (.cells #[.int .i64 2, .int .i64 (-1), .int .i64 (a : Int), .int .i64 1, .int .i64 0, .string (bs [])] 35) = W3 at *
  generalize W2.heap.size = xb at *
  have hxr : xb ≠ rx := by omega
  have hal : a < tableRs.length := ha
  have hok : ∀ p : Int, (p = -1 ∨ (0 ≤ p ∧ p < tablePs.length ∧ (tableRs.getD a default).m = true)) → symT p (a : Int) = true := by
    intro p hp
    unfold symT symZ
    rw [Int.toNat_natCast, decide_eq_true (by omega : (0 : Int) ≤ (a : Int) ∧ (a : Int) < tableRs.length), Bool.true_and]
    rcases hp with rfl | ⟨h1, h2, h3⟩
    · rfl
    · rw [decide_eq_true (show 0 ≤ p ∧ p < (tablePs.length : Int) from ⟨h1, h2⟩), h3]; simp
  obtain ⟨ab, rfl, hmc⟩ := hI2.tab a hal
  have HOK := Lib.hid hok
  clear hok
  generalize (tableRs.getD a default).m = m at *
  have t0 := hI2.t0
  have x2 := hI2.st.c2
  simp only at x2
  have hai : (a : Int) < (tableRs.length : Int) := by omega
  have hcai : (tableRs.length : Int) ≤ (ca : Int) := by have := HF.out.1; omega
  have htl : (tableRs.length : Int) = 48 := by have := HF.out.2.1; omega
  have HT := Lib.hid htl
  clear htl
  cases m with
  | false =>
    have hop := HOK.out (-1) (.inl rfl)
    have hJ := hI2
    go_wp2_with fail
    clear hI2 x2 t0 hmc
    refine (hN 3 _ hJ.row (by omega) (by omega)).mono ?_
    rintro e W5 ⟨c, rfl, hc, hr5, ho5⟩
    have hK := hJ.next hr5 ho5
    clear hJ hr5 ho5
    by_cases c0 : c = 0
    · subst c0
      go_wp2_with fail
      refine (hN 7 _ hK.row (by omega) (by omega)).mono ?_
      rintro e W6 ⟨d, rfl, hd, hr6, ho6⟩
      have hL := hK.next hr6 ho6
      clear hK hr6 ho6 hN
      obtain ⟨s0, s1, s2, s3, s4, s5⟩ := hL.st
      simp only at s0 s1 s2 s3 s4 s5
      obtain ⟨r0, r1, r2, r3, r4, r5⟩ := hL.rs
      simp only [zeroS] at r0 r1 r2 r3 r4 r5
      have g0 := hL.fr 0
      have g1 := hL.fr 1
      have g2 := hL.fr 2
      have g3 := hL.fr 3
      have g4 := hL.fr 4
      have g5 := hL.fr 5
      have f3 := hL.fz 3
      have hM := hL.set hxr _ 3 (.int .i64 ((d : Int) - 3)) (hL.st.nn _)
      have hdi : (d : Int) < 7 := by omega
      go_wp2_with fail
      obtain ⟨⟨y0, y1, y2, y3, y4, y5⟩, e2, e3⟩ := hM.fin ⟨2, (-1), (a : Int), ((d : Int) - 3), 0, []⟩
      change bodyPost _ _ _ _ _ (putS (W6.setCell ⟨xb, 3, none⟩ (.int .i64 ((d : Int) - 3))) rx ⟨2, (-1), (a : Int), ((d : Int) - 3), 0, []⟩)
      generalize putS (W6.setCell ⟨xb, 3, none⟩ (.int .i64 ((d : Int) - 3))) rx ⟨2, (-1), (a : Int), ((d : Int) - 3), 0, []⟩ = X at *
      simp only at y0 y1 y2 y3 y4 y5
      refine bodyPost_ret (v := Stp.v ⟨2, (-1), (a : Int), ((d : Int) - 3), 0, []⟩) (by simp [results, Try.results36, go_sem, y0, y1, y2, y3, y4, y5, Stp.v]) rfl ⟨⟨2, (-1), (a : Int), ((d : Int) - 3), 0, []⟩, rfl, may_sym _ _ _ hop (by omega) (by omega), rfl, rfl, e2, e3⟩
    · have c1 : ((c : Int) == 0) = false := by simp; omega
      obtain ⟨s0, s1, s2, s3, s4, s5⟩ := hK.st
      simp only at s0 s1 s2 s3 s4 s5
      obtain ⟨r0, r1, r2, r3, r4, r5⟩ := hK.rs
      simp only [zeroS] at r0 r1 r2 r3 r4 r5
      have g0 := hK.fr 0
      have g1 := hK.fr 1
      have g2 := hK.fr 2
      have g3 := hK.fr 3
      have g4 := hK.fr 4
      have g5 := hK.fr 5
      go_wp2_with fail
      obtain ⟨⟨y0, y1, y2, y3, y4, y5⟩, e2, e3⟩ := hK.fin ⟨2, (-1), (a : Int), 1, 0, []⟩
      change bodyPost _ _ _ _ _ (putS W5 rx ⟨2, (-1), (a : Int), 1, 0, []⟩)
      generalize putS W5 rx ⟨2, (-1), (a : Int), 1, 0, []⟩ = X at *
      simp only at y0 y1 y2 y3 y4 y5
      refine bodyPost_ret (v := Stp.v ⟨2, (-1), (a : Int), 1, 0, []⟩) (by simp [results, Try.results36, go_sem, y0, y1, y2, y3, y4, y5, Stp.v]) rfl ⟨⟨2, (-1), (a : Int), 1, 0, []⟩, rfl, may_sym _ _ _ hop (by omega) (by omega), rfl, rfl, e2, e3⟩
  | true =>
    go_wp2_with fail
    refine (hN 2 _ hI2.row (by omega) (by omega)).mono ?_
    rintro e W4 ⟨c', rfl, hc', hr4, ho4⟩
    have hI4 := hI2.next hr4 ho4
    clear hI2 x2 t0 hmc hr4 ho4
    by_cases c0' : c' = 0
    · subst c0'
      have t1 := hI4.t1
      go_wp2_with fail
      refine (hN tablePs.length _ hI4.row (by have := HF.out.2.2.2; omega) (by have := HF.out.2.2.1; omega)).mono ?_
      rintro e W6 ⟨q, rfl, hq, hr6, ho6⟩
      have hI6 := hI4.next hr6 ho6
      clear hI4 t1 hr6 ho6
      have s1 := hI6.st.c1
      have f1 := hI6.fz 1
      have hop := HOK.out (q : Int) (.inr ⟨by omega, by omega, by first | rfl | trivial⟩)
      have hJ := hI6.set hxr _ 1 (.int .i64 (q : Int)) (hI6.st.pf _)
      clear hI6
      go_wp2_with fail
      refine (hN 3 _ hJ.row (by omega) (by omega)).mono ?_
      rintro e W5 ⟨c, rfl, hc, hr5, ho5⟩
      have hK := hJ.next hr5 ho5
      clear hJ hr5 ho5
      by_cases c0 : c = 0
      · subst c0
        go_wp2_with fail
        refine (hN 7 _ hK.row (by omega) (by omega)).mono ?_
        rintro e W6 ⟨d, rfl, hd, hr6, ho6⟩
        have hL := hK.next hr6 ho6
        clear hK hr6 ho6 hN
        obtain ⟨s0, s1, s2, s3, s4, s5⟩ := hL.st
        simp only at s0 s1 s2 s3 s4 s5
        obtain ⟨r0, r1, r2, r3, r4, r5⟩ := hL.rs
        simp only [zeroS] at r0 r1 r2 r3 r4 r5
        have g0 := hL.fr 0
        have g1 := hL.fr 1
        have g2 := hL.fr 2
        have g3 := hL.fr 3
        have g4 := hL.fr 4
        have g5 := hL.fr 5
        have f3 := hL.fz 3
        have hM := hL.set hxr _ 3 (.int .i64 ((d : Int) - 3)) (hL.st.nn _)
        have hdi : (d : Int) < 7 := by omega
        go_wp2_with fail
        obtain ⟨⟨y0, y1, y2, y3, y4, y5⟩, e2, e3⟩ := hM.fin ⟨2, (q : Int), (a : Int), ((d : Int) - 3), 0, []⟩
        change bodyPost _ _ _ _ _ (putS (W6.setCell ⟨xb, 3, none⟩ (.int .i64 ((d : Int) - 3))) rx ⟨2, (q : Int), (a : Int), ((d : Int) - 3), 0, []⟩)
        generalize putS (W6.setCell ⟨xb, 3, none⟩ (.int .i64 ((d : Int) - 3))) rx ⟨2, (q : Int), (a : Int), ((d : Int) - 3), 0, []⟩ = X at *
        simp only at y0 y1 y2 y3 y4 y5
        refine bodyPost_ret (v := Stp.v ⟨2, (q : Int), (a : Int), ((d : Int) - 3), 0, []⟩) (by simp [results, Try.results36, go_sem, y0, y1, y2, y3, y4, y5, Stp.v]) rfl ⟨⟨2, (q : Int), (a : Int), ((d : Int) - 3), 0, []⟩, rfl, may_sym _ _ _ hop (by omega) (by omega), rfl, rfl, e2, e3⟩
      · have c1 : ((c : Int) == 0) = false := by simp; omega
        obtain ⟨s0, s1, s2, s3, s4, s5⟩ := hK.st
        simp only at s0 s1 s2 s3 s4 s5
        obtain ⟨r0, r1, r2, r3, r4, r5⟩ := hK.rs
        simp only [zeroS] at r0 r1 r2 r3 r4 r5
        have g0 := hK.fr 0
        have g1 := hK.fr 1
        have g2 := hK.fr 2
        have g3 := hK.fr 3
        have g4 := hK.fr 4
        have g5 := hK.fr 5
        go_wp2_with fail
        obtain ⟨⟨y0, y1, y2, y3, y4, y5⟩, e2, e3⟩ := hK.fin ⟨2, (q : Int), (a : Int), 1, 0, []⟩
        change bodyPost _ _ _ _ _ (putS W5 rx ⟨2, (q : Int), (a : Int), 1, 0, []⟩)
        generalize putS W5 rx ⟨2, (q : Int), (a : Int), 1, 0, []⟩ = X at *
        simp only at y0 y1 y2 y3 y4 y5
        refine bodyPost_ret (v := Stp.v ⟨2, (q : Int), (a : Int), 1, 0, []⟩) (by simp [results, Try.results36, go_sem, y0, y1, y2, y3, y4, y5, Stp.v]) rfl ⟨⟨2, (q : Int), (a : Int), 1, 0, []⟩, rfl, may_sym _ _ _ hop (by omega) (by omega), rfl, rfl, e2, e3⟩
    · have hop := HOK.out (-1) (.inl rfl)
      have c1' : ((c' : Int) == 0) = false := by simp; omega
      have hJ := hI4
      clear hI4
      go_wp2_with fail
      refine (hN 3 _ hJ.row (by omega) (by omega)).mono ?_
      rintro e W5 ⟨c, rfl, hc, hr5, ho5⟩
      have hK := hJ.next hr5 ho5
      clear hJ hr5 ho5
      by_cases c0 : c = 0
      · subst c0
        go_wp2_with fail
        refine (hN 7 _ hK.row (by omega) (by omega)).mono ?_
        rintro e W6 ⟨d, rfl, hd, hr6, ho6⟩
        have hL := hK.next hr6 ho6
        clear hK hr6 ho6 hN
        obtain ⟨s0, s1, s2, s3, s4, s5⟩ := hL.st
        simp only at s0 s1 s2 s3 s4 s5
        obtain ⟨r0, r1, r2, r3, r4, r5⟩ := hL.rs
        simp only [zeroS] at r0 r1 r2 r3 r4 r5
        have g0 := hL.fr 0
        have g1 := hL.fr 1
        have g2 := hL.fr 2
        have g3 := hL.fr 3
        have g4 := hL.fr 4
        have g5 := hL.fr 5
        have f3 := hL.fz 3
        have hM := hL.set hxr _ 3 (.int .i64 ((d : Int) - 3)) (hL.st.nn _)
        have hdi : (d : Int) < 7 := by omega
        go_wp2_with fail
        obtain ⟨⟨y0, y1, y2, y3, y4, y5⟩, e2, e3⟩ := hM.fin ⟨2, (-1), (a : Int), ((d : Int) - 3), 0, []⟩
        change bodyPost _ _ _ _ _ (putS (W6.setCell ⟨xb, 3, none⟩ (.int .i64 ((d : Int) - 3))) rx ⟨2, (-1), (a : Int), ((d : Int) - 3), 0, []⟩)
        generalize putS (W6.setCell ⟨xb, 3, none⟩ (.int .i64 ((d : Int) - 3))) rx ⟨2, (-1), (a : Int), ((d : Int) - 3), 0, []⟩ = X at *
        simp only at y0 y1 y2 y3 y4 y5
        refine bodyPost_ret (v := Stp.v ⟨2, (-1), (a : Int), ((d : Int) - 3), 0, []⟩) (by simp [results, Try.results36, go_sem, y0, y1, y2, y3, y4, y5, Stp.v]) rfl ⟨⟨2, (-1), (a : Int), ((d : Int) - 3), 0, []⟩, rfl, may_sym _ _ _ hop (by omega) (by omega), rfl, rfl, e2, e3⟩
      · have c1 : ((c : Int) == 0) = false := by simp; omega
        obtain ⟨s0, s1, s2, s3, s4, s5⟩ := hK.st
        simp only at s0 s1 s2 s3 s4 s5
        obtain ⟨r0, r1, r2, r3, r4, r5⟩ := hK.rs
        simp only [zeroS] at r0 r1 r2 r3 r4 r5
        have g0 := hK.fr 0
        have g1 := hK.fr 1
        have g2 := hK.fr 2
        have g3 := hK.fr 3
        have g4 := hK.fr 4
        have g5 := hK.fr 5
        go_wp2_with fail
        obtain ⟨⟨y0, y1, y2, y3, y4, y5⟩, e2, e3⟩ := hK.fin ⟨2, (-1), (a : Int), 1, 0, []⟩
        change bodyPost _ _ _ _ _ (putS W5 rx ⟨2, (-1), (a : Int), 1, 0, []⟩)
        generalize putS W5 rx ⟨2, (-1), (a : Int), 1, 0, []⟩ = X at *
        simp only at y0 y1 y2 y3 y4 y5
        refine bodyPost_ret (v := Stp.v ⟨2, (-1), (a : Int), 1, 0, []⟩) (by simp [results, Try.results36, go_sem, y0, y1, y2, y3, y4, y5, Stp.v]) rfl ⟨⟨2, (-1), (a : Int), 1, 0, []⟩, rfl, may_sym _ _ _ hop (by omega) (by omega), rfl, rfl, e2, e3⟩


end Go.Proofs.Yteakgagjacjhiaa.Trees
