/-
  TreeLeaves.
-/
import Derived.Test.YtgbhfhdhmkmpcaaIBX
import Derived.Test.YtgbhfhdhmkmpcaaUK
import Derived.Test.YtgbhfhdhmkmpcaaURX
namespace Go.Proofs.Ytgbhfhdhmkmpcaa.Trees
open Go.RowKit Go.Shelf Go.Proofs.Ytgbhfhdhmkmpcaa.Ranges
open Go.Proofs.Ytgbhfhdhmkmpcaa.Style (bs bs_size bs_at getD_at bs_of)
open Go.Proofs.Ytgbhfhdhmkmpcaa.Toks (cell_lt cell_same SliceAt Above)
attribute [local go_sem] Oper.semAt_some
set_option linter.unusedVariables false
set_option linter.unusedSimpArgs false
attribute [local irreducible] symT mayZ

/-- A range whose rounds only get what they are handed. -/
theorem range_skip {F : Fence} {n : Nat} {P : Program} {α : Type} {g : Operand} {ps : Array Tmp} {body : Code} {Q : Exit → Act → World → Prop} {a : Act} {w : World}
    (hro : F.round = none) (h1 : 1 ≤ n) {gf : Nat} {lb : Array Value} (hg : a.eval g = .func (.func gf) #[] lb) (hFg : F.fn gf) (eg : ∀ args w, (callFunc gf args).run P w = .ok (.enter gf args) w)
    {encs : α → Array Value} {G : List α → α → World → Prop} {hi : Nat} {S Sp : List α → Prop} (hseq : SeqL F (n - 1) P gf lb encs G (Kq hi) S Sp w) (hps : ∀ x, (encs x).size = ps.size) (hhi : hi ≤ w.heap.size)
    (hGs : ∀ pre x, Stays (G pre x)) (hG : ∀ pre x, Bears w.heap.size (G pre x))
    (I : List α → World → Prop) (Ix : Code → List α → World → Prop) (hI : ∀ pre, Stays (I pre)) (hIb : ∀ pre, Bears w.heap.size (I pre)) (hX : ∀ c pre, Stays (Ix c pre)) (hXb : ∀ c pre, Bears w.heap.size (Ix c pre)) (h0 : I [] w)
    (hbody : ∀ (l : Nat) (pre : List α) (x : α) (W : World), I pre W → G pre x W → body.wpIn (F.inRound l) (n - 1 - 1) P (LeftL w.heap.size (Kq hi (w.heap.size + 1)) I Ix (pre ++ [x]) W) { tmps := (ps.zip (encs x)).foldl (fun t (p, v) => t.setIfInBounds p v) a.tmps, defers := [] } W)
    (hdone : ∀ (xs : List α) (W : World), S xs → I xs W → W.heap[w.heap.size]? = some (.deferred (some [])) → Q .normal { a with defers := { target := .collected w.heap.size, args := #[] } :: a.defers } W)
    (hstop : ∀ (c : Code) (pre : List α) (W : World), Sp pre → Ix c pre W → W.heap[w.heap.size]? = some (.deferred (some [])) → c.wpIn F n P Q { a with defers := { target := .collected w.heap.size, args := #[] } :: a.defers } W) :
    (Code.rangeFunc g ps Code.skip body).wpIn F n P Q a w := by
  refine range_own hro h1 hg hFg eg hseq hps (fun h k => h.trans k) (fun W o o' ho hc => Kq.put W o' (by omega)) (fun W W' hs hb => Kq.of hb (by omega)) hGs hG I Ix hI hIb hX hXb h0
    (fun x W0 => { tmps := (ps.zip (encs x)).foldl (fun t (p, v) => t.setIfInBounds p v) a.tmps, defers := [] }) (fun _ _ _ => True) (fun _ _ _ _ _ _ _ _ _ _ _ => trivial) ?_ ?_ hdone hstop
  · intro l pre x W K hi' hg' hK
    refine wpIn_skip ?_
    exact hK W (Below.refl _ _) trivial
  · intro l pre x W0 W hs hi' hg' _
    exact hbody l pre x W hi' hg'

/-- The box of a count, made behind V. -/
structure CtI (V : World) (k : Int) (W : World) : Prop where
  below : Below V.heap.size V W
  x : W.cell? ⟨V.heap.size, 0, none⟩ = some (.int .i64 k)
  f : W.frozen? ⟨V.heap.size, 0, none⟩ = false
theorem CtI.lt {V : World} {k : Int} {W : World} (h : CtI V k W) : V.heap.size < W.heap.size := cell_lt h.x
theorem CtI.new (V : World) (t : TypeId) (k : Int) : CtI V k (V.alloc (.cells #[.int .i64 k] t)) := ⟨(Below.refl _ _).alloc (Nat.le_refl _) _, by simp [go_sem], by simp [go_sem]⟩
theorem CtI.go {V : World} {k : Int} {W W' : World} (h : CtI V k W) (hb : Below W.heap.size W W') : CtI V k W' :=
  ⟨h.below.trans (hb.mono h.below.size), (hb.cell (p := ⟨V.heap.size, 0, none⟩) h.lt).trans h.x, (hb.frozen (p := ⟨V.heap.size, 0, none⟩) h.lt).trans h.f⟩
theorem CtI.put {V : World} {k : Int} {W : World} (h : CtI V k W) {l : Nat} {o o' : Obj} (hl : V.heap.size ≤ l) (ho : W.heap[l]? = some o) (hc : o.isCells = false) : CtI V k (W.putObj l o') :=
  ⟨below_putObj h.below l hl _, cell_same h.x (cell_put h.x ho hc).2, (Toks.frozen_of_block (cell_put (o' := o') h.x ho hc).2 0).trans h.f⟩
theorem CtI.set {V : World} {k : Int} {W : World} (h : CtI V k W) (k' : Int) : CtI V k' (W.setCell ⟨V.heap.size, 0, none⟩ (.int .i64 k')) :=
  ⟨h.below.setCell (p := ⟨V.heap.size, 0, none⟩) (Nat.le_refl _) _, World.cell?_setCell_same _ _ _ h.x, by rw [World.frozen?_setCell]; exact h.f⟩
theorem keeps_box (B b : Nat) (W : World) (u : Value) (h : b < B) : KeepsFrom B W (W.setCell ⟨b, 0, none⟩ u) :=
  ⟨by rw [World.size_setCell]; exact Nat.le_refl _, fun k o hB hk _ => (Below.heap_setCell W ⟨b, 0, none⟩ u k (by show k ≠ b; omega)).trans hk⟩

/-- What a tree's steps count to. -/
theorem counts {t : Tr} (h : t.good symT) (hl : t.flat.length ≤ 31) :
    cnt isLeaf t.flat = cnt isTwo t.flat + 1 ∧ (thoseL [2] 0 t.flat).length + cnt isAlone t.flat ≤ cnt isLeaf t.flat ∧ cnt isAlone t.flat ≤ (thoseL [6, 7] 0 t.flat).length ∧ (thoseL [2] 0 t.flat).length ≤ 31 ∧ (thoseL [6, 7] 0 t.flat).length ≤ 31 ∧ cnt isTwo t.flat ≤ 31 ∧ cnt isAlone t.flat ≤ 31 := by
  refine ⟨leaves_twos symT t h, ?_, ?_, ?_, ?_, Nat.le_trans (cntp_le _ _) hl, Nat.le_trans (cntp_le _ _) hl⟩
  · rw [those_len]
    refine cnt_both ?_ ?_ ?_ _
    · intro o h; simp at h; subst h; rfl
    · intro o h; unfold isAlone at h; unfold isLeaf; simp at h ⊢; omega
    · intro o h1 h2; unfold isAlone at h2; simp at h1 h2; omega
  · rw [those_len]
    refine cnt_mono ?_ _
    intro o h; unfold isAlone at h; simp at h ⊢; omega
  · rw [those_len]; exact Nat.le_trans (cntp_le _ _) hl
  · rw [those_len]; exact Nat.le_trans (cntp_le _ _) hl

/-- While the leaves are counted. -/
def Ct3 (L : List Stp) (i : Nat) (a b c : Value) : Prop :=
  ∃ x y z : Nat, a = .int .i64 (x : Int) ∧ b = .int .i64 (y : Int) ∧ c = .int .i64 (z : Int) ∧ Hid (x = cnt isLeaf (L.take i) ∧ y = cnt isTwo (L.take i) ∧ z = cnt isAlone (L.take i)) ∧ x ≤ i ∧ y ≤ i ∧ z ≤ i

theorem nest_under : ∀ t : Tr, t.nest + 1 ≤ t.flat.length
  | .leaf x => by simp [Tr.nest, Tr.flat]
  | .one x a => by
    have := nest_under a
    have h1 : inZ x.op a.top.op ≤ 1 := by unfold inZ; split <;> omega
    simp only [Tr.nest, Tr.flat, List.length_append, List.length_cons, List.length_nil]
    omega
  | .two x a b => by
    have := nest_under a
    have := nest_under b
    have h1 : inZ x.op b.top.op ≤ 1 := by unfold inZ; split <;> omega
    simp only [Tr.nest, Tr.flat, List.length_append, List.length_cons, List.length_nil]
    omega

set_option maxRecDepth 100000 in
set_option maxHeartbeats 8000000 in
theorem leaves_in (sa : Value) (la : List Int) (w : World) (ha : IV w sa la) (hla : la.length ≤ 9223372036854775807) :
    CallsIn Fence.wide 9 Try.prog 4 #[sa] w fun e w' => e = .returned (.bool true) ∧ Below w.heap.size w w' := by
  have hAw := awake_yes w
  have hMa := fun W h => made_x sa la W h hla
  have hn1 := those_not
  have hn2 := notes_not
  obtain ⟨oa, ca, rfl, hca, hva⟩ := id ha
  clear hva
  refine callsIn_of_wp_marks Try.func4 rfl trivial ?_ rfl
  simp only [Try.ntmps4, List.size_toArray, List.length_cons, List.length_nil, Nat.reduceAdd, Nat.reduceSub, Array.replicate_succ, Array.replicate_zero, List.push_toArray, List.append_toArray, List.nil_append, List.cons_append]
  gi_wp2
  refine ⟨trivial, (callsIn_wide.2 hAw).mono ?_⟩
  rintro e w1 ⟨rfl, hb1⟩
  have hMa1 := hMa w1 (ha.go hb1)
  clear hAw hMa ha
  gi_wp2
  refine ⟨trivial, (callsIn_wide.2 hMa1).mono ?_⟩
  rintro e w2 ⟨t, s, rfl, hg, hl, hT, hs, hA, hb2⟩
  obtain ⟨os, cs, rfl⟩ := SliceAt.slice hs
  have hv := hs.view
  have hb := hb1.trans (hb2.mono hb1.size)
  have hC := counts hg hl
  have hFar : ∀ x ∈ t.flat, x.text.length ≤ 9223372036854775807 := fun x hx => by have := hT x hx; omega
  have hSo : soundZ symT t.flat = true := tree_sound hg (by omega)
  have hNe : nestZ symT t.flat = (t.nest : Int) := nest_tree hg (by omega)
  have hNl := nest_under t
  have hSd := fun W h => sound_any (.slice os t.flat.length cs) t.flat W h hFar (by omega)
  have hNs := fun W h => nest_any (.slice os t.flat.length cs) t.flat W h hFar (by omega)
  have hSy := fun W h => symbols_any (.slice os t.flat.length cs) t.flat W h (by omega)
  have hNt := fun W h => notes_any (.slice os t.flat.length cs) t.flat W h (by omega)
  rw [hSo] at hSd
  rw [hNe] at hNs
  generalize t.nest = nn at *
  clear hMa1 hs hA hFar hSo hNe hg hT hb1 hb2
  generalize t.flat = L at *
  have hli : (L.length : Int) ≤ 31 := by omega
  gi_wp2
  gi_loopw [5, 6, 7, 8] (fun a b c d wr => ∃ i : Nat, d = .int .i64 (i : Int) ∧ i ≤ L.length ∧ Ct3 L i a b c ∧ w2 = wr) (fun _ _ _ d _ => (L.length - intOf d).toNat)
  case atStart => exact ⟨0, rfl, by omega, ⟨0, 0, 0, rfl, rfl, rfl, ⟨rfl, rfl, rfl⟩, by omega, by omega, by omega⟩, rfl⟩
  case round =>
    obtain ⟨i, rfl, hil, ⟨x, y, z, rfl, rfl, rfl, HX, hx, hy, hz⟩, rfl⟩ := hrel
    by_cases hin : i < L.length
    · have hii : (i : Int) < L.length := by omega
      obtain ⟨o', c', e', hc', hcell⟩ := hv
      obtain ⟨b, off, eo, v0, v1, v2, v3, v4, v5⟩ := hcell i hin
      injection e' with e1 e2 e3
      subst e1 e3
      subst eo
      clear hcell v1 v2 v3 v4 v5 hSd hNs hSy hNt hC hn1 hn2
      have t1 := cnt_take isLeaf L hin
      have t2 := cnt_take isTwo L hin
      have t3 := cnt_take isAlone L hin
      generalize (L.getD i default).op = xo at *
      by_cases h3 : xo = 3
      · subst h3
        have HS : Hid (x = cnt isLeaf (L.take (i + 1)) ∧ y + 1 = cnt isTwo (L.take (i + 1)) ∧ z = cnt isAlone (L.take (i + 1))) := by
          obtain ⟨p1, p2, p3⟩ := HX.out
          rw [t1, t2, t3, ← p1, ← p2, ← p3]
          exact ⟨rfl, rfl, rfl⟩
        clear t1 t2 t3
        gi_wp2
        go_roundw
        case rel => exact ⟨i + 1, by simp, by omega, ⟨x, y + 1, z, rfl, by simp, rfl, HS, by omega, by omega, by omega⟩, by first | trivial | rfl⟩
        case measure => simp only [intOf]; omega
      · by_cases h4 : xo = 4
        · subst h4
          have HS : Hid (x = cnt isLeaf (L.take (i + 1)) ∧ y + 1 = cnt isTwo (L.take (i + 1)) ∧ z = cnt isAlone (L.take (i + 1))) := by
            obtain ⟨p1, p2, p3⟩ := HX.out
            rw [t1, t2, t3, ← p1, ← p2, ← p3]
            exact ⟨rfl, rfl, rfl⟩
          clear t1 t2 t3
          gi_wp2
          go_roundw
          case rel => exact ⟨i + 1, by simp, by omega, ⟨x, y + 1, z, rfl, by simp, rfl, HS, by omega, by omega, by omega⟩, by first | trivial | rfl⟩
          case measure => simp only [intOf]; omega
        · have e3 : (xo == 3) = false := by simpa using h3
          have e4 : (xo == 4) = false := by simpa using h4
          have q2 : isTwo xo = false := by unfold isTwo; simp; omega
          rw [q2] at t2
          by_cases h1 : xo = 1
          · subst h1
            have HS : Hid (x + 1 = cnt isLeaf (L.take (i + 1)) ∧ y = cnt isTwo (L.take (i + 1)) ∧ z = cnt isAlone (L.take (i + 1))) := by
              obtain ⟨p1, p2, p3⟩ := HX.out
              rw [t1, t2, t3, ← p1, ← p2, ← p3]
              exact ⟨rfl, rfl, rfl⟩
            clear t1 t2 t3
            gi_wp2
            go_roundw
            case rel => exact ⟨i + 1, by simp, by omega, ⟨x + 1, y, z, by simp, rfl, rfl, HS, by omega, by omega, by omega⟩, by first | trivial | rfl⟩
            case measure => simp only [intOf]; omega
          · by_cases h2 : xo = 2
            · subst h2
              have HS : Hid (x + 1 = cnt isLeaf (L.take (i + 1)) ∧ y = cnt isTwo (L.take (i + 1)) ∧ z = cnt isAlone (L.take (i + 1))) := by
                obtain ⟨p1, p2, p3⟩ := HX.out
                rw [t1, t2, t3, ← p1, ← p2, ← p3]
                exact ⟨rfl, rfl, rfl⟩
              clear t1 t2 t3
              gi_wp2
              go_roundw
              case rel => exact ⟨i + 1, by simp, by omega, ⟨x + 1, y, z, by simp, rfl, rfl, HS, by omega, by omega, by omega⟩, by first | trivial | rfl⟩
              case measure => simp only [intOf]; omega
            · have e1 : (xo == 1) = false := by simpa using h1
              have e2 : (xo == 2) = false := by simpa using h2
              by_cases h7 : xo = 7
              · subst h7
                have HS : Hid (x + 1 = cnt isLeaf (L.take (i + 1)) ∧ y = cnt isTwo (L.take (i + 1)) ∧ z + 1 = cnt isAlone (L.take (i + 1))) := by
                  obtain ⟨p1, p2, p3⟩ := HX.out
                  rw [t1, t2, t3, ← p1, ← p2, ← p3]
                  exact ⟨rfl, rfl, rfl⟩
                clear t1 t2 t3
                gi_wp2
                go_roundw
                case rel => exact ⟨i + 1, by simp, by omega, ⟨x + 1, y, z + 1, by simp, rfl, by simp, HS, by omega, by omega, by omega⟩, by first | trivial | rfl⟩
                case measure => simp only [intOf]; omega
              · have e7 : (xo == 7) = false := by simpa using h7
                have q1 : isLeaf xo = false := by unfold isLeaf; simp; omega
                have q3 : isAlone xo = false := by unfold isAlone; simp; omega
                have HS : Hid (x = cnt isLeaf (L.take (i + 1)) ∧ y = cnt isTwo (L.take (i + 1)) ∧ z = cnt isAlone (L.take (i + 1))) := by
                  obtain ⟨p1, p2, p3⟩ := HX.out
                  rw [t1, t2, t3, q1, q3, ← p1, ← p2, ← p3]
                  exact ⟨rfl, rfl, rfl⟩
                clear t1 t2 t3
                gi_wp2
                go_roundw
                case rel => exact ⟨i + 1, by simp, by omega, ⟨x, y, z, rfl, rfl, rfl, HS, by omega, by omega, by omega⟩, by first | trivial | rfl⟩
                case measure => simp only [intOf]; omega
    · have hie : i = L.length := by omega
      have hii : ¬ (i : Int) < L.length := by omega
      have HX2 : Hid (x = cnt isLeaf L ∧ y = cnt isTwo L ∧ z = cnt isAlone L) := by
        have h := HX.out
        rw [hie, List.take_length] at h
        exact h
      clear HX
      obtain ⟨cl, ct, ca2⟩ := id HX2.out
      obtain ⟨k1, k2, k3, k4, k5, k6, k7⟩ := hC
      rw [← cl, ← ct] at k1
      rw [← cl, ← ca2] at k2
      rw [← ca2] at k3
      obtain ⟨m, hm⟩ : ∃ m, (thoseL [2] 0 L).length = m := ⟨_, rfl⟩
      obtain ⟨n, hn⟩ : ∃ n, (thoseL [6, 7] 0 L).length = n := ⟨_, rfl⟩
      rw [hm] at k2 k4
      rw [hn] at k3 k5
      have HM := Lib.hid hm
      have HN := Lib.hid hn
      clear cl ct ca2 k6 k7 HX2 hm hn
      gi_wp2
      refine ⟨trivial, (callsIn_wide.2 (hSy _ hv)).mono ?_⟩
      rintro e w3 ⟨b1, b2, rfl, hb3, hI⟩
      have hv3 := hv.go hb3
      have hbw3 := hb.trans (hb3.mono hb.size)
      clear hSy
      gi_wp2
      refine ⟨trivial, (callsIn_wide.2 (hNt _ hv3)).mono ?_⟩
      rintro e w4 ⟨b3, rfl, hb4, hN⟩
      have hv4 := hv3.go hb4
      have hbw4 := hbw3.trans (hb4.mono hbw3.size)
      have hseq1 := SeqQ.go (seq_those (by omega) (by simp) hI) hb4
      have hseq2 := seq_notes (by omega) hN
      have hz34 := hb4.size
      clear hNt hI hN hv hv3 hb hbw3 hb3 hb4
      gi_wp2
      have hC5 := CtI.new w4 3 0
      have hz5 : (w4.alloc (.cells #[.int .i64 0] 3)).heap.size = w4.heap.size + 1 := World.size_alloc _ _
      generalize w4.alloc (.cells #[.int .i64 0] 3) = w5 at *
      have eg1 := enters_of Try.func28 (by kernel_rfl) rfl
      have eg2 := enters_of Try.func17 (by kernel_rfl) rfl
      refine range_skip rfl (by omega) (gf := 28) (lb := #[.pointer (some ⟨b1, 0, none⟩), .pointer (some ⟨b2, 0, none⟩)]) rfl trivial eg1 ((hseq1.go (hC5.below)) 8 (by omega)) (fun _ => rfl) (by omega)
        (fun pre x W W' h hb => h) (fun pre x W l o o' h _ _ _ _ => h)
        (fun pre Wr => ∃ k : Int, Hid (k = pre.length) ∧ CtI w4 k Wr) (fun _ _ _ => False)
        (fun pre X X' h hb => by obtain ⟨k, h1, h2⟩ := h; exact ⟨k, h1, h2.go hb⟩) (fun pre X k o o' h hk ho hc hc' => by obtain ⟨j, h1, h2⟩ := h; exact ⟨j, h1, h2.put (by omega) ho hc⟩)
        (fun _ _ _ _ h _ => h) (fun _ _ _ _ _ _ h _ _ _ _ => h) ⟨0, rfl, hC5⟩ ?body1 ?done1 ?stop1
      case stop1 => intro c pre W _ h _; exact h.elim
      case body1 =>
        rintro l pre x W ⟨k, hk, hI⟩ hG
        have hgl : Hid (0 ≤ k ∧ k ≤ 31) := by
          obtain ⟨post, hp⟩ := hG
          have h1 := congrArg List.length hp
          rw [HM.out, List.length_append] at h1
          have h2 := hk.out
          show _ ∧ _
          omega
        have hI2 := hI.set (k + 1)
        have x1 := hI.x
        have x2 := hI.f
        obtain ⟨hk0, hk31⟩ := hgl.out
        have HK : Hid (k + 1 = (pre ++ [x]).length) := by show _ = _; rw [List.length_append, hk.out]; simp
        clear hG hgl hk
        simp only [encQ]
        gi_wp2
        exact ⟨keeps_box _ _ _ _ (by omega), Kq.set _ _ (by omega) (by omega), _, HK, hI2⟩
      case done1 =>
        rintro xs W6 hSx ⟨k, hk, hI⟩ hD
        subst hSx
        have hk2 : k = (m : Int) := by rw [hk.out, HM.out]
        subst hk2
        clear hk hn1 hn2
        gi_wp2
        have hC7 := CtI.new W6 3 0
        have hz7 : (W6.alloc (.cells #[.int .i64 0] 3)).heap.size = W6.heap.size + 1 := World.size_alloc _ _
        have hz6 := hI.below.size
        have hlt6 := (Array.getElem?_eq_some_iff.1 hD).1
        have hb57 := hI.below.trans (hC7.below.mono hI.below.size)
        generalize W6.alloc (.cells #[.int .i64 0] 3) = w7 at *
        refine range_skip rfl (by omega) (gf := 17) (lb := #[.pointer (some ⟨b3, 0, none⟩)]) rfl trivial eg2 ((hseq2.go hb57) 8 (by omega)) (fun _ => rfl) (by omega)
          (fun pre x W W' h hb => h) (fun pre x W l o o' h _ _ _ _ => h)
          (fun pre Wr => ∃ k : Int, Hid (k = pre.length) ∧ CtI W6 k Wr) (fun _ _ _ => False)
          (fun pre X X' h hb => by obtain ⟨k, h1, h2⟩ := h; exact ⟨k, h1, h2.go hb⟩) (fun pre X k o o' h hk ho hc hc' => by obtain ⟨j, h1, h2⟩ := h; exact ⟨j, h1, h2.put (by omega) ho hc⟩)
          (fun _ _ _ _ h _ => h) (fun _ _ _ _ _ _ h _ _ _ _ => h) ⟨0, rfl, hC7⟩ ?body2 ?done2 ?stop2
        case stop2 => intro c pre W _ h _; exact h.elim
        case body2 =>
          rintro l pre x W ⟨k, hk, hI⟩ hG
          have hgl : Hid (0 ≤ k ∧ k ≤ 31) := by
            obtain ⟨post, hp⟩ := hG
            have h1 := congrArg List.length hp
            rw [HN.out, List.length_append] at h1
            have h2 := hk.out
            show _ ∧ _
            omega
          have hI2 := hI.set (k + 1)
          have x1 := hI.x
          have x2 := hI.f
          obtain ⟨hk0, hk31⟩ := hgl.out
          have HK : Hid (k + 1 = (pre ++ [x]).length) := by show _ = _; rw [List.length_append, hk.out]; simp
          clear hG hgl hk
          simp only [encT]
          gi_wp2
          exact ⟨keeps_box _ _ _ _ (by omega), Kq.set _ _ (by omega) (by omega), _, HK, hI2⟩
        case done2 =>
          rintro xs W8 hSx ⟨k, hk, hI8⟩ hD8
          subst hSx
          have hk2 : k = (n : Int) := by rw [hk.out, HN.out]
          subst hk2
          clear hk hseq1 hseq2 eg1 eg2 HM HN
          have hlt8 := (Array.getElem?_eq_some_iff.1 hD8).1
          have hC7b := hI8.below
          have x1 := (hI8.below.cell (p := ⟨w4.heap.size, 0, none⟩) (cell_lt hI.x)).trans hI.x
          have x2 := hI8.x
          have d1 := (hI8.below.block _ hlt6).trans hD
          have hb48 := hI.below.trans (hI8.below.mono hI.below.size)
          have hv8 := hv4.go hb48
          have hbw8 := hbw4.trans (hb48.mono hbw4.size)
          have hz8 := hb48.size
          have hzw4 := hbw4.size
          clear hv4 hbw4 hI hI8 hD hC7b hb48 hC7 hC5 hb57
          gi_wp2
          refine ⟨trivial, (callsIn_wide.2 (hSd _ hv8)).mono ?_⟩
          rintro e W9 ⟨rfl, hb9⟩
          replace x1 := (hb9.cell (p := ⟨w4.heap.size, 0, none⟩) (cell_lt x1)).trans x1
          replace x2 := (hb9.cell (p := ⟨W6.heap.size, 0, none⟩) (cell_lt x2)).trans x2
          replace d1 := (hb9.block _ (by omega)).trans d1
          replace hD8 := (hb9.block _ (by omega)).trans hD8
          have hv9 := hv8.go hb9
          have hbw9 := hbw8.trans (hb9.mono hbw8.size)
          have hz9 := hb9.size
          clear hv8 hbw8 hb9 hSd
          gi_wp2
          refine ⟨trivial, (callsIn_wide.2 (hNs _ hv9)).mono ?_⟩
          rintro e W10 ⟨rfl, hb10⟩
          replace d1 := (hb10.block _ (by omega)).trans d1
          replace hD8 := (hb10.block _ (by omega)).trans hD8
          have hv10 := hv9.go hb10
          have hbw10 := hbw9.trans (hb10.mono hbw9.size)
          have hz10 := hb10.size
          clear hv9 hbw9 hb10 x1 x2
          gi_wp2
          refine ⟨trivial, (callsIn_wide.2 (hNs _ hv10)).mono ?_⟩
          rintro e W11 ⟨rfl, hb11⟩
          replace d1 := (hb11.block _ (by omega)).trans d1
          replace hD8 := (hb11.block _ (by omega)).trans hD8
          have hbw11 := hbw10.trans (hb11.mono hbw10.size)
          have hz11 := hb11.size
          have hnl : (nn : Int) < L.length := by omega
          clear hv10 hbw10 hb11 hNs
          have hput : ∀ (X : World) (l : Nat) (o : Obj), w.heap.size ≤ l → Below w.heap.size X (X.putObj l o) := fun X l o hl => ⟨rfl, rfl, rfl, by simp [World.putObj], fun k hk => World.putObj_heap_other (by omega)⟩
          have d2 : (W11.putObj w7.heap.size (.deferred none)).heap[w5.heap.size]? = some (.deferred (some [])) := (World.putObj_heap_other (by omega)).trans d1
          have hfin : Below w.heap.size w ((W11.putObj w7.heap.size (.deferred none)).putObj w5.heap.size (.deferred none)) := (hbw11.trans (hput _ _ _ (by omega))).trans (hput _ _ _ (by omega))
          rw [hz7] at hD8 d2 hfin
          rw [hz5] at d2 hfin
          gi_wp2
          refine ⟨by simp, .inl ⟨_, _, rfl, run_takeDeferred hD8, ?_⟩⟩
          refine ⟨by simp, .inl ⟨_, _, rfl, run_takeDeferred d2, ?_⟩⟩
          exact ⟨.bool true, by simp [results, Try.f4, go_sem], rfl, hfin⟩

theorem leaves_law (sa : Value) (la : List Int) (w : World) (ha : IV w sa la) (hla : la.length ≤ 9223372036854775807) :
    Calls Try.prog 4 #[sa] w fun e w' => e = .returned (.bool true) ∧ Below w.heap.size w w' := callsIn_wide.1 (leaves_in sa la w ha hla)

end Go.Proofs.Ytgbhfhdhmkmpcaa.Trees
