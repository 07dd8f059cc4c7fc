/-
  Contracts of what codes.called hands back: the rows that have a code in a notation, by rising places, each with its code; and of codes.ofAtoms, codes.ofPrefixes, codes.All.
-/
import Derived.Test.YtpmibcdmaaagjaaH1
namespace Go.Proofs.Ytpmibcdmaaagjaa.Atoms
open Go.RowKit Go.Proofs.Ytpmibcdmaaagjaa.Ranges
attribute [local go_sem] Oper.semAt_some
set_option linter.unusedVariables false
set_option linter.unusedSimpArgs false

/-- What is captured lies there: the notation, the rows, the function that takes a row's codes. -/
structure CallI (lo : Nat) (V : World) (b1 b2 b3 : Nat) (n : Int) (f b k c : Nat) (cs : List C5) : Prop where
  x1 : V.cell? ⟨b1, 0, none⟩ = some (.int .i64 n)
  x2 : V.cell? ⟨b2, 0, none⟩ = some (.slice (some ⟨b, 0, none⟩) cs.length c)
  x3 : V.cell? ⟨b3, 0, none⟩ = some (.func (.func f) #[] #[])
  codes : CodesIn V b k cs
  l1 : lo ≤ b1 ∧ b1 < V.heap.size
  l2 : lo ≤ b2 ∧ b2 < V.heap.size
  l3 : lo ≤ b3 ∧ b3 < V.heap.size
  l4 : lo ≤ b ∧ b < V.heap.size
theorem CallI.kept {lo : Nat} {V V' : World} {b1 b2 b3 : Nat} {n : Int} {f b k c : Nat} {cs : List C5} (h : CallI lo V b1 b2 b3 n f b k c cs) (hk : Kept lo V.heap.size V V') : CallI lo V' b1 b2 b3 n f b k c cs := by
  have hs := hk.size
  have c1 := World.cell?_of_block (a := ⟨b1, 0, none⟩) (hk.block b1 h.l1.1 h.l1.2)
  have c2 := World.cell?_of_block (a := ⟨b2, 0, none⟩) (hk.block b2 h.l2.1 h.l2.2)
  have c3 := World.cell?_of_block (a := ⟨b3, 0, none⟩) (hk.block b3 h.l3.1 h.l3.2)
  exact ⟨c1.trans h.x1, c2.trans h.x2, c3.trans h.x3, h.codes.kept (hk.block b h.l4.1 h.l4.2), ⟨h.l1.1, by have := h.l1.2; omega⟩, ⟨h.l2.1, by have := h.l2.2; omega⟩, ⟨h.l3.1, by have := h.l3.2; omega⟩, ⟨h.l4.1, by have := h.l4.2; omega⟩⟩
theorem get5 (c : C5) (j : Nat) (hj : j < 5) : c.cs[j]? = some (.string (bs (c.get j))) := by
  match j, hj with
  | 0, _ => rfl
  | 1, _ => rfl
  | 2, _ => rfl
  | 3, _ => rfl
  | 4, _ => rfl
theorem bs_some' {c : List UInt8} (h : c ≠ []) : (bs c).toList.isEmpty = false := bs_some h

set_option maxRecDepth 100000 in
set_option maxHeartbeats 2000000 in
theorem takeA_any (b k : Nat) (c : C5) (W : World) (h : ∀ j, j < 5 → W.cell? ⟨b, k * 12 + j, none⟩ = some (.string (bs (c.get j)))) :
    Calls Try.prog 30 #[.pointer (some ⟨b, k * 12, none⟩)] W fun e W' => e = .returned (.agg #[.string (bs c.c0), .string (bs c.c1), .string (bs c.c2), .string (bs c.c3), .string (bs c.c4)]) ∧ Below W.heap.size W W' := by
  have hu : Below W.heap.size W (W.alloc (.cells #[.string ⟨#[]⟩, .string ⟨#[]⟩, .string ⟨#[]⟩, .string ⟨#[]⟩, .string ⟨#[]⟩] 35)) := by go_grown
  have d0 : (W.alloc (.cells #[.string ⟨#[]⟩, .string ⟨#[]⟩, .string ⟨#[]⟩, .string ⟨#[]⟩, .string ⟨#[]⟩] 35)).cell? ⟨b, k * 12, none⟩ = some (.string (bs c.c0)) := (hu.cell (p := ⟨b, k * 12, none⟩) (cell_lt (h 0 (by omega)))).trans (h 0 (by omega))
  have d1 : (W.alloc (.cells #[.string ⟨#[]⟩, .string ⟨#[]⟩, .string ⟨#[]⟩, .string ⟨#[]⟩, .string ⟨#[]⟩] 35)).cell? ⟨b, k * 12 + 1, none⟩ = some (.string (bs c.c1)) := (hu.cell (p := ⟨b, k * 12 + 1, none⟩) (cell_lt (h 1 (by omega)))).trans (h 1 (by omega))
  have d2 : (W.alloc (.cells #[.string ⟨#[]⟩, .string ⟨#[]⟩, .string ⟨#[]⟩, .string ⟨#[]⟩, .string ⟨#[]⟩] 35)).cell? ⟨b, k * 12 + 2, none⟩ = some (.string (bs c.c2)) := (hu.cell (p := ⟨b, k * 12 + 2, none⟩) (cell_lt (h 2 (by omega)))).trans (h 2 (by omega))
  have d3 : (W.alloc (.cells #[.string ⟨#[]⟩, .string ⟨#[]⟩, .string ⟨#[]⟩, .string ⟨#[]⟩, .string ⟨#[]⟩] 35)).cell? ⟨b, k * 12 + 3, none⟩ = some (.string (bs c.c3)) := (hu.cell (p := ⟨b, k * 12 + 3, none⟩) (cell_lt (h 3 (by omega)))).trans (h 3 (by omega))
  have d4 : (W.alloc (.cells #[.string ⟨#[]⟩, .string ⟨#[]⟩, .string ⟨#[]⟩, .string ⟨#[]⟩, .string ⟨#[]⟩] 35)).cell? ⟨b, k * 12 + 4, none⟩ = some (.string (bs c.c4)) := (hu.cell (p := ⟨b, k * 12 + 4, none⟩) (cell_lt (h 4 (by omega)))).trans (h 4 (by omega))
  clear h
  go_enter Try.func30, Try.ntmps30
  go_wp2
  refine bodyPost_ret (v := .agg #[.string (bs c.c0), .string (bs c.c1), .string (bs c.c2), .string (bs c.c3), .string (bs c.c4)]) (by simp [results, Try.results30, go_sem]) rfl ?_
  exact ⟨rfl, by go_grown⟩

set_option maxRecDepth 100000 in
set_option maxHeartbeats 4000000 in
theorem calledA_in (N l b1 b2 b3 b c lo : Nat) (n : Int) (cs : List C5) (V0 : World) (hN : 1 ≤ N) (hl : cs.length ≤ 1000000)
    (hn : -9223372036854775808 ≤ n ∧ n ≤ 9223372036854775807) (hC : CallI lo V0 b1 b2 b3 n 30 b 12 c cs)
    (J Jx : List (Nat × List UInt8) → World → Prop) (hJ : ∀ pre, Stays (J pre)) (hJx : ∀ pre, Stays (Jx pre))
    (hY : ∀ pre x V, J pre V → GuardN cs n pre x V → YieldAt Fence.wide (N - 1) Try.prog l (encN x) V (RoundTold J Jx (Kept lo V0.heap.size) pre x V))
    (W : World) (hW : Below V0.heap.size V0 W) (h0 : J [] W) :
    CallsIn Fence.wide N Try.prog 34 #[.func (.yield l) #[] #[], .pointer (some ⟨b1, 0, none⟩), .pointer (some ⟨b2, 0, none⟩), .pointer (some ⟨b3, 0, none⟩)] W
      (Ended (fun xs => xs = told cs n) (fun pre => ∃ k, k ≤ cs.length ∧ pre = toldTo cs n k) J Jx) := by
  have hK0 : Kept lo V0.heap.size V0 W := Kept.of hW (Nat.le_refl _)
  have hCW := hC.kept hK0
  have x1 := hCW.x1
  have x2 := hCW.x2
  have HY := Lib.hid hY
  clear hY
  by_cases hr : 1 ≤ n ∧ n ≤ 5
  · have HC : Hid (∀ i, codeI cs n i = (cs.getD i noC).get (n - 1).toNat) := fun i => codeI_in hr i
    obtain ⟨m, hm, hm5⟩ : ∃ m : Nat, n = (m : Int) + 1 ∧ m < 5 := ⟨(n - 1).toNat, by omega, by omega⟩
    have hid : ∀ (c : C5) (w : World), (Instr.index 35 (.agg #[.string (bs c.c0), .string (bs c.c1), .string (bs c.c2), .string (bs c.c3), .string (bs c.c4)]) (.int .i64 (n - 1))).run Try.prog w = .ok (.string (bs (c.get (n - 1).toNat))) w := by
      intro c w
      have e : n - 1 = (m : Int) := by omega
      rw [e]
      exact code_at c w m hm5
    clear hm hm5
    clear m
    have r1 : ¬ n < 1 := by omega
    have r2 : ¬ n > 5 := by omega
    obtain ⟨r3, r4⟩ := hr
    have eg := enters_of Try.func30 (by kernel_rfl) rfl
    refine callsIn_of_wp Try.func34 rfl trivial ?_ rfl
    simp only [Try.ntmps34, List.size_toArray, List.length_cons, List.length_nil, Nat.reduceAdd, Nat.reduceSub, Array.replicate_succ, Array.replicate_zero, List.push_toArray, List.append_toArray, List.nil_append, List.cons_append]
    gi_wp2
    gi_loopw [15] (fun x wr => ∃ (k : Nat), x = .int .i64 k ∧ k ≤ cs.length ∧ J (toldTo cs n k) wr ∧ Kept lo V0.heap.size V0 wr)
      (fun x _ => (cs.length - intOf x).toNat)
    case atStart => exact ⟨0, rfl, by omega, h0, hK0⟩
    case round =>
      clear hK0 h0 hW hCW x1 x2
      obtain ⟨k, rfl, hk, hj, hK⟩ := hrel
      have hCr := hC.kept hK
      have x1 := hCr.x1
      have x2 := hCr.x2
      have x3 := hCr.x3
      by_cases hkn : k < cs.length
      · have hki : (k : Int) < (cs.length : Int) := by omega
        obtain ⟨cc, hcc⟩ : ∃ cc, cs.getD k noC = cc := ⟨_, rfl⟩
        have hcd := hCr.codes k hkn
        rw [hcc] at hcd
        have hcl : ∀ V, Below wr.heap.size wr V → Calls Try.prog 30 #[.pointer (some ⟨b, k * 12, none⟩)] V fun e W' => e = .returned (.agg #[.string (bs cc.c0), .string (bs cc.c1), .string (bs cc.c2), .string (bs cc.c3), .string (bs cc.c4)]) ∧ Below V.heap.size V W' :=
          fun V hV => takeA_any b k cc V fun j hj => (hV.cell (p := ⟨b, k * 12 + j, none⟩) (cell_lt (hcd j hj))).trans (hcd j hj)
        have HCD := Lib.hid hcd
        have HCC := Lib.hid hcc
        clear hcd hcc
        have hb1 := hCr.l1.2
        obtain ⟨cd, hcde⟩ : ∃ cd, codeI cs n k = cd := ⟨_, rfl⟩
        have hix : ∀ (w : World), (Instr.index 35 (.agg #[.string (bs cc.c0), .string (bs cc.c1), .string (bs cc.c2), .string (bs cc.c3), .string (bs cc.c4)]) (.int .i64 (n - 1))).run Try.prog w = .ok (.string (bs cd)) w := by
          intro w
          rw [hid, ← hcde, HC.out, HCC.out]
        clear hid
        have HCE := Lib.hid hcde
        clear hcde
        have hwp : IntKind.i64.wrap (n - 1) = n - 1 := IntWalk.i64_in _ ⟨by omega, by omega⟩
        gi_wp2
        gi_region_with (first | (refine ⟨trivial, ?_⟩; gi_at_call 30; refine (callsIn_wide.2 (hcl _ (Below.refl _ _).drew)).mono ?_; rintro e W2 ⟨rfl, hb2⟩; have y1 := (hb2.cell (p := ⟨b1, 0, none⟩) hb1).trans x1))
        all_goals
          have hB2 : Below wr.heap.size wr W2 := (Below.refl _ _).drew.trans hb2
          have hK2 := hK.trans (Kept.of hB2 (by have := hK.size; omega))
          replace hj := hJ _ _ _ hj hB2
          clear hb2 y1 hcl x1 x2 x3 hix hwp HCD
          by_cases hce : cd = []
          · have hem : (bs cd).toList.isEmpty = true := by rw [hce]; exact bs_none
            have HN : Hid (toldTo cs n (k + 1) = toldTo cs n k) := toldTo_none (HCE.out.trans hce)
            clear hce
            gi_wp2
            refine ⟨fun _ h => (by cases h), ?_⟩
            gi_wp2
            go_roundw
            case rel => exact ⟨k + 1, rfl, by omega, by rw [HN.out]; exact hj, hK2⟩
            case measure => simp only [intOf]; omega
          · have hem := bs_some hce
            obtain ⟨fn, tmps, assign, body, hy, hR⟩ := HY.out (toldTo cs n k) (k, cd) W2 hj ⟨hkn, rfl, HCE.out.symm, hce⟩
            have HN : Hid (toldTo cs n (k + 1) = toldTo cs n k ++ [(k, cd)]) := (toldTo_some (by rw [HCE.out]; exact hce)).trans (by rw [HCE.out])
            unfold encN at hy
            dsimp only at hy
            have HR := Lib.hid hR
            clear hR hce
            gi_wp2
            refine HR.out.mono ?_
            rintro e W3 (⟨rfl, hJ3, hK3⟩ | ⟨rfl, hJx3⟩)
            · gi_wp2
              go_roundw
              case rel => exact ⟨k + 1, rfl, by omega, by rw [HN.out]; exact hJ3, hK2.trans hK3⟩
              case measure => simp only [intOf]; omega
            · gi_wp2
              refine bodyPost_ret (results_none rfl _ _ _) rfl ?_
              exact ⟨⟨_, rfl⟩, .inr ⟨toldTo cs n k ++ [(k, cd)], ⟨k + 1, by omega, HN.out.symm⟩, hJx3⟩⟩
      · have hke : k = cs.length := by omega
        have hki : ¬ (k : Int) < (cs.length : Int) := by omega
        gi_wp2
        go_end0
        exact ⟨⟨_, rfl⟩, .inl ⟨_, hke ▸ rfl, hj⟩⟩
  · have HT := Lib.hid (toldTo_out (cs := cs) hr cs.length)
    by_cases r1 : n < 1
    · refine callsIn_of_wp Try.func34 rfl trivial ?_ rfl
      simp only [Try.ntmps34, List.size_toArray, List.length_cons, List.length_nil, Nat.reduceAdd, Nat.reduceSub, Array.replicate_succ, Array.replicate_zero, List.push_toArray, List.append_toArray, List.nil_append, List.cons_append]
      gi_wp2
      refine bodyPost_ret (results_none rfl _ _ _) rfl ?_
      exact ⟨⟨_, rfl⟩, .inl ⟨[], HT.out.symm, h0⟩⟩
    · have r2 : n > 5 := by omega
      clear hr
      refine callsIn_of_wp Try.func34 rfl trivial ?_ rfl
      simp only [Try.ntmps34, List.size_toArray, List.length_cons, List.length_nil, Nat.reduceAdd, Nat.reduceSub, Array.replicate_succ, Array.replicate_zero, List.push_toArray, List.append_toArray, List.nil_append, List.cons_append]
      gi_wp2
      refine bodyPost_ret (results_none rfl _ _ _) rfl ?_
      exact ⟨⟨_, rfl⟩, .inl ⟨[], HT.out.symm, h0⟩⟩

end Go.Proofs.Ytpmibcdmaaagjaa.Atoms
