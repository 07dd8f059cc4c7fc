/-
  Contract of the function that tree.Notes hands back.
-/
import Derived.Test.YtgbhfhdhmkmpcaaIB
namespace Go.Proofs.Ytgbhfhdhmkmpcaa.Trees
open Go.RowKit Go.Shelf Go.Proofs.Ytgbhfhdhmkmpcaa.Ranges
open Go.Proofs.Ytgbhfhdhmkmpcaa.Style (bs bs_size bs_at getD_at bs_of)
open Go.Proofs.Ytgbhfhdhmkmpcaa.Toks (cell_lt cell_same SliceAt Above)
attribute [local go_sem] Oper.semAt_some
set_option linter.unusedVariables false
set_option linter.unusedSimpArgs false

/-- A round's contract holds inside another round, too. -/
theorem round_in {m m' : Nat} {P : Program} {l l' : Nat} {f : FuncId} {tmps : Array Value} {assign body : Code} {w : World} {R : Ending → World → Prop} (h : RoundIn Fence.wide m P l f tmps assign body w R) : RoundIn (Fence.wide.inRound l') m' P l f tmps assign body w R :=
  ⟨h.1, fun c cs _ => h.2 c cs (room_wide _)⟩

set_option maxRecDepth 100000 in
set_option maxHeartbeats 4000000 in
theorem notes1_in (N l b3 : Nat) (L : List Stp) (V : World) (hN : 3 ≤ N) (hl : L.length ≤ 1000) (hC : NtI V b3 L)
    (J Jx : List (Nat × Stp) → World → Prop) (hJ : ∀ pre, Stays (J pre)) (hJx : ∀ pre, Stays (Jx pre)) (hO : ∀ pre, Over l (J pre)) (hOx : ∀ pre, Over l (Jx pre))
    (hY : ∀ pre x W, J pre W → GuardQ [6, 7] L pre x W → YieldAt Fence.wide (N - 1) Try.prog l (encT x) W (RoundL J Jx (Kq V.heap.size l) pre x W))
    (W : World) (hW : Below V.heap.size V W) (hlW : l < W.heap.size) (h0 : J [] W) :
    CallsIn Fence.wide N Try.prog 17 #[.func (.yield l) #[] #[], .pointer (some ⟨b3, 0, none⟩)] W
      (Ended (fun xs => xs = thoseL [6, 7] 0 L) (fun pre => ∃ post, thoseL [6, 7] 0 L = pre ++ post) J Jx) := by
  obtain ⟨b1, b2, hx, hT⟩ := hC
  have hWs := hW.size
  have hx1 := (hW.cell (p := ⟨b3, 0, none⟩) (cell_lt hx)).trans hx
  have hu : Below W.heap.size W (W.alloc (.cells #[.func (.yield l) #[] #[]] 51)) := (Below.refl _ _).alloc (Nat.le_refl _) _
  have y1 := (hu.cell (p := ⟨b3, 0, none⟩) (cell_lt hx1)).trans hx1
  have yv : (W.alloc (.cells #[.func (.yield l) #[] #[]] 51)).cell? ⟨W.heap.size, 0, none⟩ = some (.func (.yield l) #[] #[]) := by simp [go_sem]
  have hJ0 := hJ [] _ _ h0 hu
  have hWa := hW.trans (hu.mono hWs)
  have hz1 : W.heap.size < (W.alloc (.cells #[.func (.yield l) #[] #[]] 51)).heap.size := by rw [World.size_alloc]; omega
  refine callsIn_of_wp_marks Try.func17 rfl trivial ?_ rfl
  simp only [Try.ntmps17, List.size_toArray, List.length_cons, List.length_nil, Nat.reduceAdd, Nat.reduceSub, Array.replicate_succ, Array.replicate_zero, List.push_toArray, List.append_toArray, List.nil_append, List.cons_append]
  clear hx hx1 h0 hu
  have HY := Lib.hid hY
  clear hY
  gi_wp2
  generalize W.alloc (.cells #[.func (.yield l) #[] #[]] 51) = Wa at *
  have eg := enters_of Try.func28 (by kernel_rfl) rfl
  refine range_own rfl (by omega) (gf := 28) (lb := #[.pointer (some ⟨b1, 0, none⟩), .pointer (some ⟨b2, 0, none⟩)]) rfl trivial eg (Kp := Kq V.heap.size) (S := fun xs => xs = thoseL [6, 7] 0 L) (Sp := fun pre => ∃ post, thoseL [6, 7] 0 L = pre ++ post) (encs := encQ) (G := GuardQ [6, 7] L)
    (fun l' J' Jx' W' hW' _ hJ' hJx' _ _ hY' h0' => those1_in (N - 1) l' b1 b2 L [6, 7] V (by omega) hl (by simp) hT J' Jx' hJ' hJx' hY' W' (hWa.trans (hW'.mono hWa.size)) h0') (fun _ => rfl) (fun h k => h.trans k)
    (fun W o o' ho hc => Kq.put W o' (by omega)) (fun W W' hs hb => Kq.of hb (by omega))
    (fun pre x W W' h hb => h) (fun pre x W l o o' h _ _ _ _ => h)
    (fun pre Wr => J pre Wr ∧ Wr.cell? ⟨W.heap.size, 0, none⟩ = some (.func (.yield l) #[] #[]))
    (fun cd pre Wr => cd = .ret ∧ Jx pre Wr)
    (fun pre X X' h hb => ⟨hJ pre X X' h.1 hb, (hb.cell (p := ⟨W.heap.size, 0, none⟩) (cell_lt h.2)).trans h.2⟩)
    (fun pre X k o o' h hk ho hc hc' => ⟨hO pre X k o o' h.1 (by omega) ho hc hc', cell_same h.2 (cell_put h.2 ho hc).2⟩)
    (fun cd pre X X' h hb => ⟨h.1, hJx pre X X' h.2 hb⟩) (fun cd pre X k o o' h hk ho hc hc' => ⟨h.1, hOx pre X k o o' h.2 (by omega) ho hc hc'⟩)
    ⟨hJ0, yv⟩
    (fun x W0 => { tmps := #[.func (.yield l) #[] #[], .pointer (some ⟨b3, 0, none⟩), .pointer (some ⟨W.heap.size, 0, none⟩), undef, .pointer (some ⟨W0.heap.size, 0, none⟩), .func (.func 28) #[] #[.pointer (some ⟨b1, 0, none⟩), .pointer (some ⟨b2, 0, none⟩)], .int .i64 (x.1 : Int), x.2.v, undef, undef, undef, undef, undef], defers := [] })
    (fun x W0 W => W.cell? ⟨W0.heap.size, 5, none⟩ = some (.string (bs x.2.text))) (fun x W0 W l o o' h _ ho hc _ => cell_same h (cell_put h ho hc).2) ?assign ?body ?done ?stop
  case assign =>
    rintro l' pre ⟨p, ⟨xo, xp, xa, xn, xm, xt⟩⟩ X KK hI hG hK
    have HK := hK (X.alloc (.cells #[.int .i64 xo, .int .i64 xp, .int .i64 xa, .int .i64 xn, .int .i64 xm, .string (bs xt)] 36)) ((Below.refl _ _).alloc (Nat.le_refl _) _) (by simp [go_sem])
    clear hK hI hG
    simp only [encQ, Stp.v] at HK ⊢
    gi_wp2
    exact HK
  case body =>
    rintro l' pre ⟨p, ⟨xo, xp, xa, xn, xm, xt⟩⟩ W0 X hs0 ⟨hI, c1⟩ hG hR
    obtain ⟨fn, tmps, assign, body, hy, hRd⟩ := HY.out pre (p, ⟨xo, xp, xa, xn, xm, xt⟩) X hI hG
    dsimp only at hR
    simp only [encT, Stp.v] at hy ⊢
    have HRd := Lib.hid hRd
    clear hRd hI hG hT
    gi_wp2
    refine ⟨fun h => (by cases h), (round_in HRd.out).mono ?_⟩
    rintro e W3 (⟨rfl, hJ3, hK3⟩ | ⟨rfl, hJx3, hK3⟩)
    · have hkf := hK3.keeps (B := Wa.heap.size) (by omega)
      have hc1 := cell_same c1 (hK3.up W.heap.size (by omega) (cell_lt c1))
      have hkn := hK3.narrow (l' := Wa.heap.size + 1) (by omega)
      gi_wp2
      exact ⟨hkf, hkn, hJ3, hc1⟩
    · have hkf := hK3.keeps (B := Wa.heap.size) (by omega)
      have hkn := hK3.narrow (l' := Wa.heap.size + 1) (by omega)
      gi_wp2
      exact ⟨hkf, hkn, rfl, hJx3⟩
  case done =>
    intro xs V' hSx hI hD
    gi_wp2
    refine ⟨by simp, .inl ⟨_, _, rfl, run_takeDeferred hD, ?_⟩⟩
    exact ⟨_, results_none rfl _ _ _, ⟨⟨_, rfl⟩, .inl ⟨xs, hSx, hO xs _ _ _ _ hI.1 (by omega) hD rfl rfl⟩⟩⟩
  case stop =>
    intro cd pre V' hSp' hI hD
    obtain ⟨rfl, hI⟩ := hI
    gi_wp2
    refine ⟨by simp, .inl ⟨_, _, rfl, run_takeDeferred hD, ?_⟩⟩
    exact ⟨_, results_none rfl _ _ _, ⟨⟨_, rfl⟩, .inr ⟨pre, hSp', hOx pre _ _ _ _ hI (by omega) hD rfl rfl⟩⟩⟩

theorem seq_notes {V : World} {b3 : Nat} {L : List Stp} (hl : L.length ≤ 1000) (h : NtI V b3 L) :
    SeqQ encT 17 #[.pointer (some ⟨b3, 0, none⟩)] [6, 7] L V.heap.size V :=
  fun N hN l J Jx W hW hlW hJ hJx hO hOx hY h0 => notes1_in N l b3 L V (by omega) hl h J Jx hJ hJx hO hOx hY W hW hlW h0

theorem those_not (lb : Array Value) (V : World) : (binOp BinOp.eql 30 (.func (.func 28) #[] lb) .nilFunc).run Try.prog V = .ok (.bool false) V := by kernel_rfl
theorem notes_not (lb : Array Value) (V : World) : (binOp BinOp.eql 33 (.func (.func 17) #[] lb) .nilFunc).run Try.prog V = .ok (.bool false) V := by kernel_rfl

end Go.Proofs.Ytgbhfhdhmkmpcaa.Trees
