/-
  The walk of ParseBrackets.
-/
import Derived.Test.YthofogokpolhdaaGreatDoorBN
import Derived.Test.YthofogokpolhdaaGreatDoorQV
namespace Go.Proofs.YthofogokpolhdaaGreatDoor.Parses
open Go.RowKit Go.Shelf
open Go.Proofs.YthofogokpolhdaaGreatDoor.Trees (Stp Tr View symT IV StepsAt cellS same_any)
open Go.Proofs.YthofogokpolhdaaGreatDoor.Style (bs bs_size bs_app bs_toList stZ St)
open Go.Proofs.YthofogokpolhdaaGreatDoor.Toks (cell_lt cell_same Env Grid)
set_option linter.unusedVariables false
set_option linter.unusedSimpArgs false

/-- What the law holds while it compares. -/
structure BrI (w : World) (Lp Lq : List Stp) (sp sq : Value) (bp bq : Nat) (p2 q2 : Value) (W : World) : Prop where
  xp : Err4 W bp sp (.int .i64 0) p2 (.int .i64 0)
  vp : View W sp Lp
  xq : Err4 W bq sq (.int .i64 0) q2 (.int .i64 0)
  vq : View W sq Lq
  below : Below w.heap.size w W
theorem BrI.go {w W W' : World} {Lp Lq : List Stp} {sp sq : Value} {bp bq : Nat} {p2 q2 : Value} (h : BrI w Lp Lq sp sq bp bq p2 q2 W) (hb : Below W.heap.size W W') : BrI w Lp Lq sp sq bp bq p2 q2 W' :=
  ⟨h.xp.go hb, h.vp.go hb, h.xq.go hb, h.vq.go hb, h.below.trans (hb.mono h.below.size)⟩
theorem BrI.drew {w W : World} {Lp Lq : List Stp} {sp sq : Value} {bp bq : Nat} {p2 q2 : Value} (h : BrI w Lp Lq sp sq bp bq p2 q2 W) : BrI w Lp Lq sp sq bp bq p2 q2 W.drew := h.go (Below.refl _ _).drew
theorem rep_next (j : Nat) (c : UInt8) : bs (List.replicate j c) ++ (⟨#[c]⟩ : ByteArray) = bs (List.replicate (j + 1) c) := by
  show _ ++ bs [c] = _
  rw [bs_app, List.replicate_succ']

set_option maxRecDepth 100000 in
set_option maxHeartbeats 4000000 in
theorem brackets_walk (n : Int) (sv : Value) (l : List Int) (many : Int) (w : World) (hE : Env w) (hn : -9223372036854775808 ≤ n ∧ n ≤ 9223372036854775807) (hV : IV w sv l) (hmy : -9223372036854775808 ≤ many ∧ many ≤ 9223372036854775807) (hl : l.length ≤ 9223372036854775807) :
    Calls Tryz.prog 5 #[.int .i64 n, sv, .int .i64 many] w fun e w' => e = .returned (.bool true) ∧ Below w.heap.size w w' := by
  have hR := rest_any n 5
  have hk := restN_lt n 5 (by omega)
  generalize restN n 5 = k at hR hk
  have hRm := rest_any many 41
  have hm40 := restN_lt many 41 (by omega)
  generalize restN many 41 = m at hRm hm40
  have hki : (k : Int) < 5 := by omega
  have hmi : (m : Int) < 41 := by omega
  have hT := fun W (h : IV W sv l) => ltext_v k hk sv l W h hl
  obtain ⟨o, c, rfl, hc, _⟩ := id hV
  have hP : ∀ (s : List UInt8) (W : World), Env W → s.length ≤ 255 → Calls Tryz.prog 17 #[.int .i64 (1 + (k : Int)), .string (bs s)] W (TreeEnd k (pToks ((k : Int) + 1) s) (s.length : Int) W) := fun s W hW hl => by
    have h := parse_any k s W hW hk hl
    rw [show 1 + (k : Int) = (k : Int) + 1 by omega]
    exact h
  go_enter Tryz.func5, Tryz.ntmps5
  go_wp2_with fail
  refine (awake_yes w hE).mono ?_
  rintro e w1 ⟨rfl, hb1⟩
  have hE1 := hE.go hb1
  have hV1 := hV.go hb1
  clear hE hV
  go_wp2_with fail
  refine (hR w1 (by omega) (by omega)).mono ?_
  rintro e w2 ⟨rfl, rfl⟩
  clear hR
  go_wp2_with fail
  refine (hT w1 hV1).mono ?_
  rintro e w2 ⟨⟨S, rfl, hS⟩, hb2⟩
  have hE2 := hE1.go hb2
  have hB2 := hb1.trans (hb2.mono hb1.size)
  clear hT hE1 hV1 hb1 hb2 hc
  have hzs : ((bs S).size : Int) = (S.length : Int) := by rw [bs_size]
  go_wp2_with fail
  refine (hRm w2 (by omega) (by omega)).mono ?_
  rintro e w3 ⟨rfl, rfl⟩
  clear hRm
  by_cases hS0 : S = []
  · subst hS0
    have emp : (bs []).toList.isEmpty = true := by rw [bs_toList]; rfl
    clear hP hS
    go_wp2_with fail
    go_ret
    exact ⟨rfl, hB2⟩
  have hes : (bs S).toList.isEmpty = false := by rw [bs_toList]; simpa using hS0
  rcases hS with h | ⟨T, hST, hF, h255, h30, _, hTl⟩
  · exact absurd h hS0
  by_cases h255m : 255 < S.length + 2 * m
  · have h255i : (255 : Int) < (S.length : Int) + 2 * (m : Int) := by omega
    clear hP hF hST hS0
    go_wp2_with fail
    go_ret
    exact ⟨rfl, hB2⟩
  have h255i : ¬ (255 : Int) < (S.length : Int) + 2 * (m : Int) := by omega
  have hxP := fun size => back_end hF size
  have hxQ := fun (h : m + T.nest ≤ 32) size => wraps_end hF h size
  have hxD := fun (h : 32 < m + T.nest) size => wraps_deep hF (by omega) h size
  have hN := nests_any ((k : Int) + 1) S
  rw [hST, nests_txt hF, ← hST] at hN
  rw [show (k : Int) + 1 = 1 + (k : Int) by omega] at hN
  rw [← hST] at hxP hxQ hxD
  clear hF hST hS0
  generalize T.nest = d at *
  generalize T.flat = LT at *
  go_wp2_with fail
  go_loopw [11, 12, 13] (fun a b x wr => ∃ j : Nat, a = .string (bs (List.replicate j 40)) ∧ b = .string (bs (List.replicate j 41)) ∧ x = .int .i64 (j : Int) ∧ j ≤ m ∧ w2 = wr) (fun _ _ x _ => ((m : Int) - intOf x).toNat)
  case atStart => exact ⟨0, rfl, rfl, rfl, by omega, rfl⟩
  case round =>
    obtain ⟨j, rfl, rfl, rfl, hj, rfl⟩ := hrel
    by_cases hjm : j < m
    · have hji : (j : Int) < (m : Int) := by omega
      have z0 : (bs (List.replicate j 40)).size ≤ 40 := by rw [bs_size, List.length_replicate]; omega
      have z1 : (bs (List.replicate j 41)).size ≤ 40 := by rw [bs_size, List.length_replicate]; omega
      have e0 := rep_next j 40
      have e1 := rep_next j 41
      have HF := Lib.hid (show ∃ j' : Nat, Value.string (bs (List.replicate (j + 1) 40)) = .string (bs (List.replicate j' 40)) ∧ Value.string (bs (List.replicate (j + 1) 41)) = .string (bs (List.replicate j' 41)) ∧ Value.int .i64 ((j : Int) + 1) = .int .i64 (j' : Int) ∧ j' ≤ m from ⟨j + 1, rfl, rfl, by rw [Int.natCast_add]; rfl, by omega⟩)
      clear hP hxP hxQ hxD hN
      go_wp2_with fail
      exact ⟨by obtain ⟨j', e1, e2, e3, hj⟩ := HF.out; exact ⟨j', e1, e2, e3, hj, trivial⟩, by show ((m : Int) - ((j : Int) + 1)).toNat < ((m : Int) - (j : Int)).toNat; omega⟩
    · have he : j = m := by omega
      subst he
      have zS : (bs S).size ≤ 255 := by rw [bs_size]; omega
      have lS : S.length ≤ 255 := by omega
      have eQ : bs (List.replicate j 40) ++ bs S ++ bs (List.replicate j 41) = bs (List.replicate j 40 ++ S ++ List.replicate j 41) := by rw [bs_app, bs_app]
      have lQ : (List.replicate j (40 : UInt8) ++ S ++ List.replicate j 41).length ≤ 255 := by simp only [List.length_append, List.length_replicate]; omega
      have z0 : (bs (List.replicate j 40)).size ≤ 40 := by rw [bs_size, List.length_replicate]; omega
      have z1 : (bs (List.replicate j 41)).size ≤ 40 := by rw [bs_size, List.length_replicate]; omega
      generalize List.replicate j (40 : UInt8) ++ S ++ List.replicate j 41 = Q at *
      generalize List.replicate j (40 : UInt8) = A0 at *
      generalize List.replicate j (41 : UInt8) = A1 at *
      go_wp2_with fail
      refine (hP S _ hE2 lS).mono ?_
      rintro e w5 he
      obtain ⟨op, cp, rfl, hSp, -, hb5⟩ := end_ok he (hxP _)
      have hu5 := alloc_own w5 (.cells #[.slice op LT.length cp, .int .i64 0, .int .i64 (S.length : Int), .int .i64 0] 37)
      have hb5' := hb5.trans (hu5.mono hb5.size)
      have hE5 := hE2.go hb5'
      have hB5 := hB2.trans (hb5'.mono hB2.size)
      have hxp := Err4.new w5 (.slice op LT.length cp) (.int .i64 0) (.int .i64 (S.length : Int)) (.int .i64 0)
      have hVp := hSp.view.go hu5
      clear he hb5 hu5 hb5' hE2 hB2 hxP hSp
      go_wp2_with fail
      generalize w5.alloc (.cells #[.slice op LT.length cp, .int .i64 0, .int .i64 (S.length : Int), .int .i64 0] 37) = Y5 at *
      generalize w5.heap.size = bp at *
      refine (hP Q Y5 hE5 lQ).mono ?_
      rintro e w6 he
      clear hP eQ lQ z0 z1
      by_cases hdm : j + d ≤ 32
      · have hdi : ¬ (32 : Int) < (j : Int) + (d : Int) := by omega
        obtain ⟨oq, cq, rfl, hSq, -, hb6⟩ := end_ok he (hxQ hdm _)
        obtain ⟨lq, hlqq⟩ : ∃ z : Int, ((Q.length : Nat) : Int) = z := ⟨_, rfl⟩
        rw [hlqq]
        have hu6 := alloc_own w6 (.cells #[.slice oq LT.length cq, .int .i64 0, .int .i64 lq, .int .i64 0] 37)
        have hb6' := hb6.trans (hu6.mono hb6.size)
        have hI : BrI w LT LT (.slice op LT.length cp) (.slice oq LT.length cq) bp w6.heap.size (.int .i64 (S.length : Int)) (.int .i64 lq) (w6.alloc (.cells #[.slice oq LT.length cq, .int .i64 0, .int .i64 lq, .int .i64 0] 37)) :=
          ⟨hxp.go hb6', hVp.go hb6', Err4.new w6 _ _ _ _, hSq.view.go hu6, hB5.trans (hb6'.mono hB5.size)⟩
        have hN3 := fun W => hN W (by omega)
        clear he hb6 hu6 hb6' hE5 hB5 hxQ hxD hSq hxp hVp hlqq hN
        go_wp2_with fail
        generalize w6.alloc (.cells #[.slice oq LT.length cq, .int .i64 0, .int .i64 lq, .int .i64 0] 37) = Y6 at *
        generalize w6.heap.size = bq at *
        refine (hN3 Y6).mono ?_
        rintro e w7 ⟨rfl, hb7⟩
        replace hI := hI.go hb7
        clear hN3 hb7
        have hSame := fun (a b : Value) (W : World) (h1 : View W a LT) (h2 : View W b LT) => same_any a b _ _ W h1 h2 (by omega) (by omega)
        simp only [decide_true] at hSame
        obtain ⟨p0, p1, _, _⟩ := id hI.xp
        obtain ⟨q0, q1, _, _⟩ := id hI.xq
        go_wp2_with fail
        refine (hSame _ _ w7 hI.vp hI.vq).mono ?_
        rintro e w8 ⟨rfl, hb8⟩
        replace hI := hI.go hb8
        clear hSame hb8 p0 p1 q0 q1
        obtain ⟨p0, p1, _, _⟩ := id hI.xp
        obtain ⟨q0, q1, _, _⟩ := id hI.xq
        have HB := Lib.hid hI.below
        clear hI
        go_wp2_with fail
        go_ret
        exact ⟨rfl, HB.out⟩
      · have hdi : (32 : Int) < (j : Int) + (d : Int) := by omega
        obtain ⟨pl, hpl⟩ := hxD (by omega) (Q.length : Int)
        obtain ⟨rfl, hb6⟩ := end_err he hpl
        have hu6 := alloc_own w6 (.cells #[.slice none 0 0, .int .i64 13, .int .i64 pl, .int .i64 0] 37)
        have hb6' := hb6.trans (hu6.mono hb6.size)
        have hxp' := hxp.go hb6'
        have hxq := Err4.new w6 (.slice none 0 0) (.int .i64 13) (.int .i64 pl) (.int .i64 0)
        have hB6 := hB5.trans (hb6'.mono hB5.size)
        have hN3 := fun W => hN W (by omega)
        clear he hb6 hu6 hb6' hE5 hB5 hxQ hxD hxp hVp hN hpl
        go_wp2_with fail
        generalize w6.alloc (.cells #[.slice none 0 0, .int .i64 13, .int .i64 pl, .int .i64 0] 37) = Y6 at *
        generalize w6.heap.size = bq at *
        refine (hN3 Y6).mono ?_
        rintro e w7 ⟨rfl, hb7⟩
        have hxp7 := hxp'.go hb7
        have hxq7 := hxq.go hb7
        have HB := Lib.hid (hB6.trans (hb7.mono hB6.size))
        obtain ⟨p0, p1, _, _⟩ := hxp7
        obtain ⟨q0, q1, _, _⟩ := hxq7
        clear hN3 hb7 hxp' hxq hB6
        go_wp2_with fail
        go_ret
        exact ⟨rfl, HB.out⟩

end Go.Proofs.YthofogokpolhdaaGreatDoor.Parses
