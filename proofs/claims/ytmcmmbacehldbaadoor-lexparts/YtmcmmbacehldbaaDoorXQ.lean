/-
  Tokens of a text, one that stands for by, and another text: plain mathematics; the walk of LexParts.
-/
import Derived.Test.YtmcmmbacehldbaaDoorXB
import Derived.Test.YtmcmmbacehldbaaDoorY8
import Derived.Test.YtmcmmbacehldbaaDoorXS
namespace Go.Proofs.YtmcmmbacehldbaaDoor.Toks
open Go.RowKit
open Go.Proofs.YtmcmmbacehldbaaDoor.Style
open Go.Proofs.YtmcmmbacehldbaaDoor.Texts (val isDig)
set_option linter.unusedVariables false
set_option linter.unusedSimpArgs false

/-- With more behind, that is of no such kind. -/
theorem next_app {n : Int} {r t : List UInt8} {d : UInt8} {g : Got} (h : nextT n r = some g) (hd : kd n d = 5) : nextT n (r ++ d :: t) = some g := by
  have hl := next_len h
  obtain ⟨c, r, rfl⟩ := next_cons h
  rcases next_cases h with ⟨hk, rfl⟩ | ⟨hk, hv, rfl⟩ | ⟨hk, ⟨ho, hp⟩, rfl⟩ | ⟨hk, rfl⟩
  · have e : goL n 1 (c :: r ++ d :: t) = goL n 1 (c :: r) := run_more (isK n 1) (d :: t) (c :: r) (.inr fun x t' e => by injection e with e1; subst e1; exact isK_ne (by omega))
    simp only at hl
    rw [List.cons_append] at e ⊢
    simp only [nextT]
    rw [if_neg (by omega), if_pos hk, e, ← List.cons_append, List.take_append_of_le_length hl.2]
  · have e : goL n 2 (c :: r ++ d :: t) = goL n 2 (c :: r) := run_more (isK n 2) (d :: t) (c :: r) (.inr fun x t' e => by injection e with e1; subst e1; exact isK_ne (by omega))
    simp only at hl
    rw [List.cons_append] at e ⊢
    simp only [nextT]
    rw [if_neg (by omega), if_neg (by omega), if_pos hk, e, ← List.cons_append, List.take_append_of_le_length hl.2, if_pos hv]
  · have e : offL n (r ++ d :: t) = offL n r := run_more (noC n) (d :: t) r (.inl ho)
    rw [List.cons_append]
    simp only [nextT]
    rw [if_neg (by omega), if_neg (by omega), if_neg (by omega), if_pos hk, e, List.take_append_of_le_length (by omega), if_pos ⟨by rw [List.length_append]; omega, hp⟩]
  · rw [List.cons_append]
    exact next_one _ hk
theorem lexL_app (n : Int) (d : UInt8) (t : List UInt8) (hd : kd n d = 5) : ∀ (k p : Nat) (r : List UInt8), r.length ≤ k → endL p (lexL n p r) = p + r.length → lexL n p (r ++ d :: t) = lexL n p r ++ lexL n (p + r.length) (d :: t)
  | 0, p, r, h, _ => by
    have : r = [] := List.length_eq_zero_iff.1 (by omega)
    rw [this]; rfl
  | k + 1, p, r, h, he => by
    cases hn : nextT n r with
    | none =>
      rw [lexL_none hn] at he
      have : r = [] := List.length_eq_zero_iff.1 (by have : p = p + r.length := he; omega)
      rw [this]; rfl
    | some g =>
      have hl := next_len hn
      rw [lexL_some hn, endL_cons] at he
      simp only at he
      rw [lexL_some (next_app hn hd), lexL_some hn, List.drop_append_of_le_length hl.2, lexL_app n d t hd k (p + g.len) (r.drop g.len) (by rw [List.length_drop]; omega) (by rw [he, List.length_drop]; omega), List.cons_append, List.length_drop, show p + g.len + (r.length - g.len) = p + r.length by omega]
/-- Tokens, some places on. -/
def shiftT (k : Nat) (x : Tok) : Tok := ⟨x.kind, x.pos + k, x.text, x.num⟩
theorem lexL_shift (n : Int) (q : Nat) : ∀ (k p : Nat) (r : List UInt8), r.length ≤ k → (lexL n (p + q) r).map Prod.fst = ((lexL n p r).map Prod.fst).map (shiftT q)
  | 0, p, r, h => by
    have : r = [] := List.length_eq_zero_iff.1 (by omega)
    rw [this]; rfl
  | k + 1, p, r, h => by
    cases hn : nextT n r with
    | none => rw [lexL_none hn, lexL_none hn]; rfl
    | some g =>
      have hl := next_len hn
      rw [lexL_some hn, lexL_some hn]
      simp only [List.map_cons]
      rw [show p + q + g.len = p + g.len + q by omega, lexL_shift n q k (p + g.len) (r.drop g.len) (by rw [List.length_drop]; omega)]
      rfl
/-- P8.1: two texts with by between them. -/
theorem parts_all {n : Int} (hn : isN n = true) (s t : List UInt8) (h : endL 0 (lexL n 0 s) = s.length) : toks n (s ++ divB n :: t) = toks n s ++ (⟨5, s.length, [divB n], 0⟩ :: (toks n t).map (shiftT (s.length + 1))) := by
  have hd := (kd_marks hn).2.2
  unfold toks
  rw [lexL_app n (divB n) t hd s.length 0 s (Nat.le_refl _) (by rw [h]; omega), List.map_append, Nat.zero_add]
  have h1 : nextT n (divB n :: t) = some ⟨kd n (divB n), [divB n], 0, 1⟩ := next_one t (by omega)
  rw [lexL_some h1, hd]
  simp only [List.map_cons]
  congr 2
  have := lexL_shift n (s.length + 1) t.length 0 t (Nat.le_refl _)
  rw [Nat.zero_add] at this
  exact this

theorem parts_facts (n : Int) (s : List UInt8) (hn : isN n = true) (hs : s.length ≤ 255) : (lexErr n s = 14 ∧ lexToks n s = []) ∨ (lexErr n s = 0 ∧ lexToks n s = toks n s ∧ endL 0 (lexL n 0 s) = s.length) := by
  have hl := lex_end n s
  by_cases h : endL 0 (lexL n 0 s) < s.length
  · left
    have he : lexErr n s = 14 := by unfold lexErr; rw [if_neg (by rw [hn]; simp), if_neg (by omega), if_pos h]
    exact ⟨he, by unfold lexToks; rw [he]; rfl⟩
  · right
    have he : lexErr n s = 0 := by unfold lexErr; rw [if_neg (by rw [hn]; simp), if_neg (by omega), if_neg h]
    exact ⟨he, by unfold lexToks; rw [he]; rfl, by omega⟩
theorem toks_le (n : Int) (s : List UInt8) : (toks n s).length ≤ s.length := by
  unfold toks
  rw [List.length_map]
  exact lex_len n s

theorem lexL_pos (n : Int) : ∀ (k p : Nat) (r : List UInt8), r.length ≤ k → ∀ x ∈ lexL n p r, x.1.pos ≤ p + r.length
  | 0, p, r, h, x, hx => by
    have : r = [] := List.length_eq_zero_iff.1 (by omega)
    rw [this] at hx; cases hx
  | k + 1, p, r, h, x, hx => by
    cases hn : nextT n r with
    | none => rw [lexL_none hn] at hx; cases hx
    | some g =>
      have hl := next_len hn
      rw [lexL_some hn] at hx
      rcases List.mem_cons.1 hx with e | e
      · subst e; show p ≤ _; omega
      · have := lexL_pos n k (p + g.len) (r.drop g.len) (by rw [List.length_drop]; omega) x e
        rw [List.length_drop] at this
        omega
theorem toks_pos (n : Int) (s : List UInt8) (i : Nat) (h : i < (toks n s).length) : ((toks n s).getD i default).pos ≤ s.length := by
  unfold toks at h ⊢
  rw [List.length_map] at h
  rw [List.getD_eq_getElem?_getD, List.getElem?_map, List.getElem?_eq_getElem h]
  have := lexL_pos n s.length 0 s (Nat.le_refl _) (lexL n 0 s)[i] (List.getElem_mem h)
  show (lexL n 0 s)[i].1.pos ≤ _
  omega
theorem fld2 (a b c d e f : Value) (w : World) : (Instr.field 42 (.agg #[a, b, c, d, e, f]) 2).run Tryd.prog w = .ok c w := by kernel_rfl
/-- The box of the law's texts. -/
structure QI (w W : World) (s0 t0 : List UInt8) : Prop where
  below : Below w.heap.size w W
  q0 : W.cell? ⟨w.heap.size, 0, none⟩ = some (.string (bs s0))
  q1 : W.cell? ⟨w.heap.size, 1, none⟩ = some (.string (bs t0))
  env : Env W
theorem QI.go {w W W' : World} {s0 t0 : List UInt8} (h : QI w W s0 t0) (hb : Below W.heap.size W W') : QI w W' s0 t0 :=
  ⟨h.below.trans (hb.mono h.below.size), (hb.cell (p := ⟨w.heap.size, 0, none⟩) (cell_lt h.q0)).trans h.q0, (hb.cell (p := ⟨w.heap.size, 1, none⟩) (cell_lt h.q1)).trans h.q1, h.env.go hb⟩
attribute [local irreducible] toks lexErr lexAt lexToks lexL

set_option maxRecDepth 100000 in
set_option maxHeartbeats 4000000 in
theorem parts_walk (n : Int) (s0 t0 s t : List UInt8) (w : World) (hE : Env w) (hs0 : s0.length ≤ 9223372036854775807) (ht0 : t0.length ≤ 9223372036854775807) (es : s0.take 60 = s) (et : t0.take 60 = t) :
    Calls Tryd.prog 9 #[.int .i64 n, .agg #[.string (bs s0), .string (bs t0)]] w fun e w' => e = .returned (.bool true) ∧ Below w.heap.size w w' := by
  have hR := rest_any n 5
  have hr := restN_lt n 5 (by omega)
  generalize restN n 5 = r at hR hr
  have hri : (r : Int) < 5 := by omega
  have hN := k_isN r hr
  have hs1 := fun W => short_any s0 60 W hs0 (by omega)
  rw [es] at hs1
  have ht1 := fun W => short_any t0 60 W ht0 (by omega)
  rw [et] at ht1
  have ls : s.length ≤ 60 := by rw [← es, List.length_take]; omega
  have lt : t.length ≤ 60 := by rw [← et, List.length_take]; omega
  have lsi : (s.length : Int) ≤ 60 := by omega
  have zs : (bs s).size ≤ 60 := by rw [bs_size]; exact ls
  have zt : (bs t).size ≤ 60 := by rw [bs_size]; exact lt
  have hzi : ((bs s).size : Int) = (s.length : Int) := by rw [bs_size]
  have hLx := fun W hW => lex_any (1 + (r : Int)) s W hW (by omega)
  have hB := fun W hW => eachL_any (1 + (r : Int)) t W hW (by omega)
  have hL := fun W hW => eachL_any (1 + (r : Int)) (s ++ divB (1 + (r : Int)) :: t) W hW (by rw [List.length_append, List.length_cons]; omega)
  have hO := rof_any (1 + (r : Int))
  have HF := Lib.hid (parts_facts (1 + (r : Int)) s hN (by omega))
  have HP := Lib.hid (parts_all hN s t)
  have hop : (bs s ++ bs [UInt8.ofNat (stZ (1 + (r : Int))).div.toNat]) ++ bs t = bs (s ++ divB (1 + (r : Int)) :: t) := by
    rw [bs_app, bs_app]
    unfold divB
    simp
  have HOP := Lib.hid hop
  have la := toks_le (1 + (r : Int)) s
  have lb := toks_le (1 + (r : Int)) t
  have HPS := Lib.hid (toks_pos (1 + (r : Int)) t)
  have ob := one_byte
  clear es et hs0 ht0 hN hop
  generalize s ++ divB (1 + (r : Int)) :: t = st at *
  generalize divB (1 + (r : Int)) = dv at *
  generalize stZ (1 + (r : Int)) = x at *
  obtain ⟨f, m, d, pw, op, cl⟩ := x
  simp only [St.v] at hO
  simp only at HOP
  have hu : Below w.heap.size w (w.alloc (.cells #[.string (bs s0), .string (bs t0)] 22)) := by go_grown
  have hQ : QI w (w.alloc (.cells #[.string (bs s0), .string (bs t0)] 22)) s0 t0 := ⟨hu, by simp [go_sem], by simp [go_sem], hE.go hu⟩
  go_enter Tryd.func9, Tryd.ntmps9
  go_wp2_with fail
  generalize w.alloc (.cells #[.string (bs s0), .string (bs t0)] 22) = W0 at *
  refine (awake_yes W0 hQ.env).mono ?_
  rintro e w1 ⟨rfl, hb1⟩
  have hQ1 := hQ.go hb1
  have c0 := hQ1.q0
  have c1 := hQ1.q1
  clear hb1 hQ hu
  go_wp2_with fail
  refine (hR w1 (by omega) (by omega)).mono ?_
  rintro e w2 ⟨rfl, rfl⟩
  go_wp2_with fail
  refine (hs1 w1).mono ?_
  rintro e w2 ⟨rfl, rfl⟩
  go_wp2_with fail
  refine (ht1 w1).mono ?_
  rintro e w2 ⟨rfl, rfl⟩
  go_wp2_with fail
  refine (hLx w1 hQ1.env).mono ?_
  rintro e w2 ⟨⟨oa, ca, rfl, hTa, _⟩, hb2⟩
  have hQ2 := hQ1.go hb2
  clear hQ1 hb2 c0 c1 hLx hs1 ht1 hR
  rcases HF.out with ⟨f1, f2⟩ | ⟨f1, f2, f3⟩
  · rw [f1, f2]
    clear HF HP f1 f2
    go_wp2
    go_ret
    exact ⟨by first | rfl | simp, hQ2.below⟩
  rw [f1, f2]
  rw [f2] at hTa
  have hP := HP.out f3
  have HPP := Lib.hid hP
  clear HF HP f1 f2 f3 hP
  go_wp2_with fail
  refine (hB w2 hQ2.env).mono ?_
  rintro e w3 ⟨⟨o2, c2, rfl, hTb, _⟩, hb3⟩
  have hQ3 := hQ2.go hb3
  have hTa3 := hTa.go hb3
  clear hQ2 hb3 hTa hB
  go_wp2_with fail
  refine (hO w3).mono ?_
  rintro e w4 ⟨rfl, hb4⟩
  have hQ4 := hQ3.go hb4
  have hTa4 := hTa3.go hb4
  have hTb4 := hTb.go hb4
  clear hQ3 hb4 hTa3 hTb hO
  have hfl := fld2
  have ob1 := ob w4 d
  have z2 : (bs [UInt8.ofNat d.toNat]).size = 1 := rfl
  have hu4 : Below w4.heap.size w4 (w4.alloc (.cells #[.int .u8 d] 5)) := (Below.refl _ _).alloc (Nat.le_refl _) _
  have hQ5 := hQ4.go hu4
  have hTa5 := hTa4.go hu4
  have hTb5 := hTb4.go hu4
  clear hQ4 hTa4 hTb4 ob
  go_wp2_with fail
  generalize w4.alloc (.cells #[.int .u8 d] 5) = w5 at *
  rw [show bs s ++ bs [UInt8.ofNat d.toNat] ++ bs t = bs st from HOP.out]
  refine (hL w5 hQ5.env).mono ?_
  rintro e w6 ⟨⟨ol, cl2, rfl, hTl, _⟩, hb6⟩
  have hB6 := (hQ5.go hb6).below
  have hTa6 := hTa5.go hb6
  have hTb6 := hTb5.go hb6
  have H1 := HPP.out
  generalize toks (1 + (r : Int)) st = L at *
  generalize toks (1 + (r : Int)) s = A at *
  generalize toks (1 + (r : Int)) t = B at *
  generalize lexAt (1 + (r : Int)) s = at0 at *
  have hll : L.length = A.length + 1 + B.length := by rw [H1, List.length_append, List.length_cons, List.length_map]; omega
  have hgd : L.getD A.length default = ⟨5, s.length, [dv], 0⟩ := by rw [H1, List.getD_eq_getElem?_getD, List.getElem?_append_right (Nat.le_refl _), Nat.sub_self]; rfl
  have hgi : ∀ i, i < B.length → L.getD (A.length + 1 + i) default = shiftT (s.length + 1) (B.getD i default) := by
    intro i hi
    rw [H1, List.getD_eq_getElem?_getD, List.getElem?_append_right (by omega), show A.length + 1 + i - A.length = i + 1 by omega, List.getElem?_cons_succ, List.getElem?_map, List.getD_eq_getElem?_getD, List.getElem?_eq_getElem hi]
    rfl
  have hgA : L.take A.length = A := by rw [H1, List.take_left']; rfl
  have HGI := Lib.hid hgi
  have HGA := Lib.hid hgA
  have HLL := Lib.hid hll
  obtain ⟨bl, rfl, hgl⟩ := grid_at hTl (by omega)
  obtain ⟨v0, v1, v2, v3⟩ := tok_cells hgl A.length (by omega) _ hgd
  simp only at v0 v1 v2 v3
  have hai : (A.length : Int) ≤ 60 := by omega
  have hbi : (B.length : Int) ≤ 60 := by omega
  have hli : (L.length : Int) = (A.length : Int) + 1 + (B.length : Int) := by omega
  have hal : (A.length : Int) < L.length := by omega
  clear H1 hgd hgi hgA HPP hQ5 hb6 hTa5 hTb5 hL HOP hu4 ob1 hgl
  go_wp2_with fail
  have hne := net
  go_loopw [14] (fun x wr => ∃ i : Nat, x = .int .i64 i ∧ i ≤ B.length ∧ ToksAt wr (.slice (some ⟨bl, 0, none⟩) L.length cl2) L ∧ ToksAt wr (.slice o2 B.length c2) B ∧ ToksAt wr (.slice oa A.length ca) A ∧ Below w.heap.size w wr) (fun x _ => (B.length - intOf x).toNat)
  case atStart => exact ⟨0, rfl, by omega, hTl, hTb6, hTa6, hB6⟩
  case round =>
    clear hTl hTb6 hTa6 hB6 v0 v1 v2 v3
    obtain ⟨i, rfl, hi, hTl, hTb, hTa, hBw⟩ := hrel
    by_cases hil : i < B.length
    · have hii : (i : Int) < B.length := by omega
      obtain ⟨bl', e1, hgl⟩ := grid_at hTl (by have := HLL.out; omega)
      injection e1 with e1
      injection e1 with e1
      subst e1
      obtain ⟨bb, rfl, hgb⟩ := grid_at hTb (by omega)
      obtain ⟨y, hy⟩ : ∃ y, B.getD i default = y := ⟨_, rfl⟩
      have hg1 := HGI.out i hil
      rw [hy] at hg1
      obtain ⟨v0, v1, v2, v3⟩ := tok_cells hgl (A.length + 1 + i) (by have := HLL.out; omega) _ hg1
      obtain ⟨u0, u1, u2, u3⟩ := tok_cells hgb i hil y hy
      obtain ⟨yk, yp, yt, yn⟩ := y
      simp only [shiftT] at v0 v1 v2 v3
      simp only at u0 u1 u2 u3
      have hlt : (A.length : Int) + 1 + (i : Int) < L.length := by omega
      have hyp := HPS.out i hil
      rw [hy] at hyp
      have hypi : (yp : Int) ≤ 60 := by simp only at hyp; omega
      have hy1 : (yp : Int) + ((s.length : Int) + 1) - (s.length : Int) = (yp : Int) + 1 := by omega
      have hbx := TokBox.new wr ⟨yk, yp, yt, yn⟩ 36
      have hu8 : Below wr.heap.size wr (wr.alloc (.cells #[.int .i64 yk, .int .i64 (yp : Int), .string (bs yt), .int .i64 yn] 36)) := (Below.refl _ _).alloc (Nat.le_refl _) _
      simp only [Tok.cs] at hbx
      have t1 := hTl.go hu8
      have t2 := hTb.go hu8
      have t3 := hTa.go hu8
      have g0 := (hu8.cell (p := ⟨bb, i * 4, none⟩) (cell_lt u0)).trans u0
      have g1 := (hu8.cell (p := ⟨bb, i * 4 + 1, none⟩) (cell_lt u0)).trans u1
      have g2 := (hu8.cell (p := ⟨bb, i * 4 + 2, none⟩) (cell_lt u0)).trans u2
      have g3 := (hu8.cell (p := ⟨bb, i * 4 + 3, none⟩) (cell_lt u0)).trans u3
      have hB8 := hBw.trans (hu8.mono hBw.size)
      clear hgl hgb hy hg1 hyp
      go_wp2_with fail
      generalize wr.alloc (.cells #[.int .i64 yk, .int .i64 (yp : Int), .string (bs yt), .int .i64 yn] 36) = V8 at *
      obtain ⟨b0, b1, b2, b3⟩ := hbx.cells
      simp only at b0 b1 b2 b3
      clear v0 v1 v2 v3 u0 u1 u2 u3 hu8
      go_quiet (fail)
      go_wp2
      go_roundw
      case rel => exact ⟨i + 1, rfl, by omega, t1.go (drawsN (Below.refl _ _) _), t2.go (drawsN (Below.refl _ _) _), t3.go (drawsN (Below.refl _ _) _), drawsN hB8 _⟩
      case measure => simp only [intOf]; omega
    · have hii : ¬ (i : Int) < B.length := by omega
      have hLA : A.length ≤ L.length := by have := HLL.out; omega
      have hT1 : ToksAt wr (.slice (some ⟨bl, 0, none⟩) A.length cl2) A := by
        have := hTl.short A.length hLA
        rw [HGA.out] at this
        exact this
      have HSA := Lib.hid (same_yes A (some ⟨bl, 0, none⟩) oa cl2 ca wr hT1 hTa (by omega))
      obtain ⟨bl', c', e1, hcc⟩ : ∃ bl' c', (Value.slice (some ⟨bl, 0, none⟩) L.length cl2) = .slice (some ⟨bl', 0, none⟩) L.length c' ∧ L.length ≤ c' := by
        rcases hTl with ⟨h0, _⟩ | ⟨b', c', hs, hc, _, _⟩
        · have := HLL.out; omega
        · exact ⟨b', c', hs, hc⟩
      injection e1 with e1 e2 e3
      subst e3
      have hcci : (A.length : Int) ≤ cl2 := by omega
      clear hT1 hTl hTb hTa e1
      go_wp2_with fail
      with_reducible refine HSA.out.mono ?_
      rintro e w7 ⟨rfl, hb7⟩
      go_wp2
      go_ret
      exact ⟨rfl, hBw.trans (hb7.mono hBw.size)⟩

theorem len_pt (s : ByteArray) (h : s.size ≤ maxLen) : s.data.toList.length ≤ 9223372036854775807 := by
  have : s.data.toList.length = s.size := by rw [Array.length_toList]; rfl
  have hm : maxLen ≤ 9223372036854775807 := by decide
  omega
theorem parts_law (n : Int) (s t : ByteArray) (w : World) (hE : Env w) (hn : -9223372036854775808 ≤ n ∧ n ≤ 9223372036854775807) (hs : s.size ≤ maxLen) (ht : t.size ≤ maxLen) :
    Calls Tryd.prog 9 #[.int .i64 n, .agg #[.string s, .string t]] w fun e w' => e = .returned (.bool true) ∧ Below w.heap.size w w' := by
  have h := parts_walk n s.data.toList t.data.toList _ _ w hE (len_pt s hs) (len_pt t ht) rfl rfl
  rw [bs_of, bs_of] at h
  exact h

end Go.Proofs.YtmcmmbacehldbaaDoor.Toks
