/-
  Contracts of lex.Each, of the function that it hands back, of drachmlaw08.each.
-/
import Derived.Test.YthofogokpolhdaaGreatDoorX5X
namespace Go.Proofs.YthofogokpolhdaaGreatDoor.Toks
open Go.RowKit Go.Shelf Go.Proofs.YthofogokpolhdaaGreatDoor.Ranges
open Go.Proofs.YthofogokpolhdaaGreatDoor.Style
attribute [local go_sem] Oper.semAt_some
set_option linter.unusedVariables false
set_option linter.unusedSimpArgs false

def encE (x : Tok × Nat) : Array Value := #[x.1.v]
/-- A round's contract holds at every depth, and inside another round. -/
theorem round_wide {m m' : Nat} {P : Program} {l l' : Nat} {f : FuncId} {tmps : Array Value} {assign body : Code} {w : World} {R : Ending → World → Prop} (h : RoundIn Fence.wide m P l f tmps assign body w R) : RoundIn (Fence.wide.inRound l') m' P l f tmps assign body w R :=
  ⟨h.1, fun c cs _ => h.2 c cs (room_wide _)⟩

set_option maxRecDepth 100000 in
set_option maxHeartbeats 4000000 in
theorem each1_at (N l b1 b2 lo lo0 : Nat) (n : Int) (s : List UInt8) (V0 : World) (hN : 2 ≤ N) (hl : s.length ≤ 1000) (hC : SpI lo0 V0 b1 b2 n s) (hlo : lo ≤ V0.heap.size)
    (J Jx : List (Tok × Nat) → World → Prop) (hJ : ∀ pre, Stays (J pre)) (hJx : ∀ pre, Stays (Jx pre)) (hO : ∀ pre, Over l (J pre)) (hOx : ∀ pre, Over l (Jx pre))
    (hY : ∀ pre x V, J pre V → GuardT n s pre x V → YieldAt Fence.wide (N - 1) Tryz.prog l (encE x) V (RoundL J Jx (Kept lo l) pre x V))
    (W : World) (hW : Below V0.heap.size V0 W) (hlW : l < W.heap.size) (h0 : J [] W) :
    CallsIn Fence.wide N Tryz.prog 52 #[.func (.yield l) #[] #[], .pointer (some ⟨b2, 0, none⟩), .pointer (some ⟨b1, 0, none⟩)] W
      (Ended (fun xs => xs = lexL n 0 s) (fun pre => ∃ post, lexL n 0 s = pre ++ post) J Jx) := by
  have hK0 : Kept lo0 l V0 W := Kept.of hW
  have hWs := hW.size
  have hCW := hC.kept hK0
  have x1 := hCW.x1
  have x2 := hCW.x2
  have hE := hCW.env
  have hE3 : 3 ≤ W.heap.size := hE.err.1
  have hu : Below W.heap.size W (W.alloc (.cells #[.func (.yield l) #[] #[]] 107)) := (Below.refl _ _).alloc (Nat.le_refl _) _
  have y1 := (hu.cell (p := ⟨b1, 0, none⟩) (cell_lt x1)).trans x1
  have y2 := (hu.cell (p := ⟨b2, 0, none⟩) (cell_lt x2)).trans x2
  have yv : (W.alloc (.cells #[.func (.yield l) #[] #[]] 107)).cell? ⟨W.heap.size, 0, none⟩ = some (.func (.yield l) #[] #[]) := by simp [go_sem]
  have yo : One (W.alloc (.cells #[.func (.yield l) #[] #[]] 107)) W.heap.size := ⟨by simp [go_sem], by simp [go_sem]⟩
  have hz1 : W.heap.size < (W.alloc (.cells #[.func (.yield l) #[] #[]] 107)).heap.size := by rw [World.size_alloc]; omega
  refine callsIn_of_wp_marks Tryz.func52 rfl trivial ?_ rfl
  simp only [Tryz.ntmps52, List.size_toArray, List.length_cons, List.length_nil, Nat.reduceAdd, Nat.reduceSub, Array.replicate_succ, Array.replicate_zero, List.push_toArray, List.append_toArray, List.nil_append, List.cons_append]
  clear x1 x2
  gi_wp2
  generalize W.alloc (.cells #[.func (.yield l) #[] #[]] 107) = Wa at *
  refine ⟨trivial, fun _ => by omega, (callsIn_wide.2 (spans_any n s Wa (hE.go hu))).mono ?_⟩
  rintro e V1 ⟨rfl, hbV, hSp⟩
  have hVs := hbV.size
  have yv1 := (hbV.cell (p := ⟨W.heap.size, 0, none⟩) hz1).trans yv
  have yo1 := yo.same (hbV.block W.heap.size hz1)
  have hJ0 := hJ [] _ _ (hJ [] _ _ h0 hu) hbV
  have HY := Lib.hid hY
  clear hY hE h0 hCW hK0 y1 y2 yv yo
  gi_wp2
  have eg := enters_of Tryz.func81 (by kernel_rfl) rfl
  refine range_own rfl (by omega) (gf := 81) (lb := #[.pointer (some ⟨Wa.heap.size + 1, 0, none⟩), .pointer (some ⟨Wa.heap.size, 0, none⟩)]) rfl trivial eg (Kp := Kept Wa.heap.size) (S := fun xs => xs = lexL n 0 s) (Sp := fun pre => ∃ post, lexL n 0 s = pre ++ post) (encs := encS) (G := GuardT n s)
    (fun l' J' Jx' W' hW' _ hJ' hJx' _ _ hY' h0' => spans1_in (N - 1) l' _ _ Wa.heap.size n s V1 (by omega) hl hSp J' Jx' hJ' hJx' hY' W' hW' h0') (fun _ => rfl) (fun h k => h.trans k)
    (fun W o o' ho hc => Kept.put W _ o' (Nat.le_refl _) (by omega) ho hc) (fun W W' hs hb => Kept.of hb)
    (fun pre x W W' h hb => h) (fun pre x W l o o' h _ _ _ _ => h)
    (fun pre Wr => J pre Wr ∧ Wr.cell? ⟨W.heap.size, 0, none⟩ = some (.func (.yield l) #[] #[]) ∧ One Wr W.heap.size)
    (fun cd pre Wr => cd = .ret ∧ Jx pre Wr)
    (fun pre X X' h hb => ⟨hJ pre X X' h.1 hb, (hb.cell (p := ⟨W.heap.size, 0, none⟩) (cell_lt h.2.1)).trans h.2.1, h.2.2.same (hb.block _ (cell_lt h.2.1))⟩)
    (fun pre X k o o' h hk ho hc hc' => ⟨hO pre X k o o' h.1 (by omega) ho hc hc', cell_same h.2.1 (cell_put h.2.1 ho hc).2, h.2.2.same (cell_put h.2.1 ho hc).2⟩)
    (fun cd pre X X' h hb => ⟨h.1, hJx pre X X' h.2 hb⟩) (fun cd pre X k o o' h hk ho hc hc' => ⟨h.1, hOx pre X k o o' h.2 (by omega) ho hc hc'⟩)
    ⟨hJ0, yv1, yo1⟩
    (fun x W0 => { tmps := #[.func (.yield l) #[] #[], .pointer (some ⟨b2, 0, none⟩), .pointer (some ⟨b1, 0, none⟩), .pointer (some ⟨W.heap.size, 0, none⟩), .pointer (some ⟨W0.heap.size, 0, none⟩), .int .i64 n, .string (bs s), .func (.func 81) #[] #[.pointer (some ⟨Wa.heap.size + 1, 0, none⟩), .pointer (some ⟨Wa.heap.size, 0, none⟩)], x.1.v, .int .i64 (x.2 : Int), undef, undef, undef, undef], defers := [] })
    (fun x W0 W => TokBox W W0.heap.size x.1) (fun x W0 => TokBox.bears _ _ _) ?assign ?body ?done ?stop
  case assign =>
    rintro l' pre ⟨⟨k, q, tx, v⟩, en⟩ X KK hI hG hK
    have HK := hK (X.alloc (.cells #[.int .i64 k, .int .i64 (q : Int), .string (bs tx), .int .i64 v] 71)) ((Below.refl _ _).alloc (Nat.le_refl _) _) (TokBox.new X ⟨k, q, tx, v⟩ _)
    clear hK hI hG
    simp only [encS, Tok.v] at HK ⊢
    gi_wp2
    exact HK
  case body =>
    rintro l' pre ⟨⟨k, q, tx, v⟩, en⟩ W0 X hs0 ⟨hI, c1, c2⟩ hG hR
    obtain ⟨fn, tmps, assign, body, hy, hRd⟩ := HY.out pre (⟨k, q, tx, v⟩, en) X hI hG
    dsimp only at hR
    obtain ⟨y0, y1, y2, y3⟩ := hR.cells
    dsimp only at y0 y1 y2 y3
    simp only [encE, Tok.v] at hy ⊢
    have HRd := Lib.hid hRd
    clear hRd
    gi_wp2
    refine ⟨fun h => (by cases h), (round_wide HRd.out).mono ?_⟩
    have hb1 : ∀ W3, Kept lo l X W3 → KeepsFrom V1.heap.size X W3 := fun W3 h => ⟨h.size, fun k o hB hk ho => h.book k o (by omega) hk ho⟩
    rintro e W3 (⟨rfl, hJ3, hK3⟩ | ⟨rfl, hJx3, hK3⟩)
    · have hkf := hb1 _ hK3
      have hc1 := cell_same c1 (hK3.one _ (by omega) c2)
      have hc2 := c2.same (hK3.one _ (by omega) c2)
      gi_wp2
      exact ⟨hkf, hK3.narrow (by omega) (by omega), hJ3, hc1, hc2⟩
    · have hkf := hb1 _ hK3
      gi_wp2
      exact ⟨hkf, hK3.narrow (by omega) (by omega), rfl, hJx3⟩
  case done =>
    intro xs V' hSx hI hD
    gi_wp2
    refine ⟨by simp, .inl ⟨_, _, rfl, run_takeDeferred hD, ?_⟩⟩
    exact ⟨_, results_none rfl _ _ _, ⟨⟨_, rfl⟩, .inl ⟨xs, hSx, hO xs _ _ _ _ hI.1 (by omega) hD rfl rfl⟩⟩⟩
  case stop =>
    intro cd pre V' hSp' hI hD
    obtain ⟨rfl, hI⟩ := hI
    gi_wp2
    refine ⟨by simp, .inl ⟨_, _, rfl, run_takeDeferred hD, ?_⟩⟩
    exact ⟨_, results_none rfl _ _ _, ⟨⟨_, rfl⟩, .inr ⟨pre, hSp', hOx pre _ _ _ _ hI (by omega) hD rfl rfl⟩⟩⟩

/-- Rounds may write boxes that stand behind lo0, as long as those from lo on stay. -/
theorem seq_each_at {lo lo0 : Nat} {V : World} {b1 b2 : Nat} {n : Int} {s : List UInt8} (hl : s.length ≤ 1000) (h : SpI lo0 V b1 b2 n s) (hlo : lo ≤ V.heap.size) : SeqS encE 52 #[.pointer (some ⟨b2, 0, none⟩), .pointer (some ⟨b1, 0, none⟩)] n s lo V :=
  fun N hN l J Jx W hW hlW hJ hJx hO hOx hY h0 => each1_at N l b1 b2 lo lo0 n s V hN hl h hlo J Jx hJ hJx hO hOx hY W hW hlW h0

theorem seq_each {lo : Nat} {V : World} {b1 b2 : Nat} {n : Int} {s : List UInt8} (hl : s.length ≤ 1000) (h : SpI lo V b1 b2 n s) : SeqS encE 52 #[.pointer (some ⟨b2, 0, none⟩), .pointer (some ⟨b1, 0, none⟩)] n s lo V :=
  fun N hN l J Jx W hW hlW hJ hJx hO hOx hY h0 => each1_at N l b1 b2 lo lo n s V hN hl h (by have := h.l1; have := h.o1.lt; omega) J Jx hJ hJx hO hOx hY W hW hlW h0

set_option maxRecDepth 100000 in
theorem each_any (n : Int) (s : List UInt8) (w : World) (hE : Env w) :
    Calls Tryz.prog 32 #[.int .i64 n, .string (bs s)] w fun e w' => e = .returned (.func (.func 52) #[] #[.pointer (some ⟨w.heap.size, 0, none⟩), .pointer (some ⟨w.heap.size + 1, 0, none⟩)]) ∧ Below w.heap.size w w' ∧ SpI w.heap.size w' (w.heap.size + 1) w.heap.size n s ∧ w'.frozen? ⟨w.heap.size, 0, none⟩ = false := by
  have hu : Below w.heap.size w ((w.alloc (.cells #[.int .i64 n] 3)).alloc (.cells #[.string (bs s)] 9)) := by go_grown
  have hE2 := hE.go hu
  go_enter Tryz.func32, Tryz.ntmps32
  go_wp2
  go_ret
  refine ⟨rfl, hu, ⟨by simp [go_sem], by simp [go_sem], ⟨by simp [go_sem], by simp [go_sem]⟩, ⟨by simp [go_sem], by simp [go_sem]⟩, by omega, by omega, hE2⟩, by simp [go_sem]⟩

theorem not_fn (lb : Array Value) (V : World) : (binOp BinOp.eql 73 (.func (.func 52) #[] lb) .nilFunc).run Tryz.prog V = .ok (.bool false) V := by kernel_rfl

/-- What the law's each tells. -/
structure EachEnd (n : Int) (s : List UInt8) (w : World) (e : Ending) (w' : World) : Prop where
  out : ∃ o c, e = .returned (.slice o (toks n s).length c) ∧ ToksAt w' (.slice o (toks n s).length c) (toks n s) ∧ Above w.heap.size (.slice o (toks n s).length c)
  below : Below w.heap.size w w'

end Go.Proofs.YthofogokpolhdaaGreatDoor.Toks
