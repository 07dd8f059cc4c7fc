/-
  The walk of LexNotes.
-/
import Derived.Test.YtmcmmbacehldbaaDoorXN
import Derived.Test.YtmcmmbacehldbaaDoorY8
namespace Go.Proofs.YtmcmmbacehldbaaDoor.Toks
open Go.RowKit
open Go.Proofs.YtmcmmbacehldbaaDoor.Style
set_option linter.unusedVariables false
set_option linter.unusedSimpArgs false

/-- A token in a row, where there are two. -/
theorem second_of {W : World} {o : Option Addr} {c : Nat} {L : List Tok} (h : ToksAt W (.slice o L.length c) L) (hl : L.length = 2) : ∃ b, o = some ⟨b, 0, none⟩ ∧ W.cell? ⟨b, 4, none⟩ = some (.int .i64 (L.getD 1 default).kind) ∧ W.cell? ⟨b, 5, none⟩ = some (.int .i64 ((L.getD 1 default).pos : Int)) ∧ W.cell? ⟨b, 6, none⟩ = some (.string (bs (L.getD 1 default).text)) := by
  rcases h with ⟨h0, _⟩ | ⟨b, c', hs, _, _, hg⟩
  · omega
  · injection hs with e1 e2 e3
    obtain ⟨x0, x1, x2, x3⟩ := tok_cells hg 1 (by omega) _ rfl
    exact ⟨b, e1, x0, x1, x2⟩
theorem str_eq (a b : List UInt8) : ((bs a).toList == (bs b).toList) = decide (a = b) := by
  rw [bs_toList, bs_toList]
  by_cases h : a = b
  · subst h; simp
  · rw [decide_eq_false h]; simpa using h

set_option maxRecDepth 100000 in
set_option maxHeartbeats 4000000 in
theorem notes_walk (n : Int) (s0 s : List UInt8) (w : World) (hE : Env w) (hs0 : s0.length ≤ 9223372036854775807) (es : s0.take 100 = s) :
    Calls Tryd.prog 7 #[.int .i64 n, .string (bs s0)] w fun e w' => e = .returned (.bool true) ∧ Below w.heap.size w w' := by
  have hR := rest_any n 5
  have hr := restN_lt n 5 (by omega)
  generalize restN n 5 = r at hR hr
  have hN := k_isN r hr
  have hri : (r : Int) < 5 := by omega
  have hs1 := fun W => short_any s0 100 W hs0 (by omega)
  rw [es] at hs1
  have ls : s.length ≤ 100 := by rw [← es, List.length_take]; omega
  have zs : (bs s).size ≤ 100 := by rw [bs_size]; exact ls
  have hO := rof_any (1 + (r : Int))
  have hP := fun W => rplain_any (1 + (r : Int)) s W (by omega)
  have hL := fun W hW => lex_any (1 + (r : Int)) (noteText (1 + (r : Int)) s) W hW (by rw [note_len]; omega)
  have hop : ((bs [109] ++ bs [UInt8.ofNat (stZ (1 + (r : Int))).op.toNat]) ++ bs s) ++ bs [UInt8.ofNat (stZ (1 + (r : Int))).cl.toNat] = bs (noteText (1 + (r : Int)) s) := by
    rw [bs_app, bs_app, bs_app]
    unfold noteText opB clB
    simp
  have HY := Lib.hid (note_yes hN s ls)
  have HN := Lib.hid (note_none hN s ls)
  have HX := Lib.hid (note_not hN s)
  generalize noteText (1 + (r : Int)) s = tx at *
  generalize stZ (1 + (r : Int)) = x at *
  have HOP := Lib.hid hop
  have ob := one_byte
  clear es hs0 hN hop
  obtain ⟨f, m, d, pw, op, cl⟩ := x
  simp only [St.v] at hO
  simp only at HOP HN HX
  go_enter Tryd.func7, Tryd.ntmps7
  go_wp2_with fail
  refine (awake_yes w hE).mono ?_
  rintro e w1 ⟨rfl, hb1⟩
  have hE1 := hE.go hb1
  go_wp2_with fail
  refine (hR w1 (by omega) (by omega)).mono ?_
  rintro e w2 ⟨rfl, rfl⟩
  go_wp2_with fail
  refine (hs1 w1).mono ?_
  rintro e w2 ⟨rfl, rfl⟩
  go_wp2_with fail
  refine (hO w1).mono ?_
  rintro e w3 ⟨rfl, hb3⟩
  have ob1 := ob (w3.alloc (.cells #[.bool f, .int .u8 m, .int .u8 d, .int .u8 pw, .int .u8 op, .int .u8 cl] 42)) op
  have ob2 := ob ((w3.alloc (.cells #[.bool f, .int .u8 m, .int .u8 d, .int .u8 pw, .int .u8 op, .int .u8 cl] 42)).alloc (.cells #[.int .u8 op] 5)) cl
  simp only [World.size_alloc] at ob1 ob2
  have z1 : (bs [109]).size = 1 := rfl
  have z2 : (bs [UInt8.ofNat op.toNat]).size = 1 := rfl
  have z3 : (bs [UInt8.ofNat cl.toNat]).size = 1 := rfl
  clear ob
  have hz3 := hb3.size
  have hu : Below w3.heap.size w3 (((w3.alloc (.cells #[.bool f, .int .u8 m, .int .u8 d, .int .u8 pw, .int .u8 op, .int .u8 cl] 42)).alloc (.cells #[.int .u8 op] 5)).alloc (.cells #[.int .u8 cl] 5)) := by go_grown
  have hu1 := hb1.trans ((hb3.trans (hu.mono hz3)).mono hb1.size)
  have hbx : (((w3.alloc (.cells #[.bool f, .int .u8 m, .int .u8 d, .int .u8 pw, .int .u8 op, .int .u8 cl] 42)).alloc (.cells #[.int .u8 op] 5)).alloc (.cells #[.int .u8 cl] 5)).cell? ⟨w3.heap.size, 4, none⟩ = some (.int .u8 op) := by simp [go_sem]
  go_wp2_with fail
  generalize (((w3.alloc (.cells #[.bool f, .int .u8 m, .int .u8 d, .int .u8 pw, .int .u8 op, .int .u8 cl] 42)).alloc (.cells #[.int .u8 op] 5)).alloc (.cells #[.int .u8 cl] 5)) = W3 at *
  rw [show ((⟨#[109]⟩ : ByteArray) ++ bs [UInt8.ofNat op.toNat] ++ bs s ++ bs [UInt8.ofNat cl.toNat]) = bs tx from HOP.out]
  refine (hL W3 (hE.go hu1)).mono ?_
  rintro e w4 ⟨⟨o, c, rfl, hT, _⟩, hb4⟩
  have hbx4 := (hb4.cell (p := ⟨w3.heap.size, 4, none⟩) (cell_lt hbx)).trans hbx
  generalize plainL ⟨f, m, d, pw, op, cl⟩ s = p at *
  generalize lexErr (1 + (r : Int)) tx = er at *
  generalize lexAt (1 + (r : Int)) tx = at_ at *
  generalize lexToks (1 + (r : Int)) tx = L at *
  clear ob1 ob2 HOP hL hO hs1 hR hb3 hu z1 z2 z3
  go_wp2_with fail
  refine (hP w4).mono ?_
  rintro e w5 ⟨rfl, hb5⟩
  have hT5 := hT.go hb5
  have hbx5 := (hb5.cell (p := ⟨w3.heap.size, 4, none⟩) (cell_lt hbx4)).trans hbx4
  have hB : Below w.heap.size w w5 := hu1.trans ((hb4.trans (hb5.mono hb4.size)).mono hu1.size)
  clear hT hbx hbx4 hP hb4 hb5
  cases p with
  | true =>
    obtain ⟨rfl, rfl⟩ := HY.out rfl
    obtain ⟨b, rfl, y0, y1, y2⟩ := second_of hT5 rfl
    simp only [List.getD_cons_succ, List.getD_cons_zero] at y0 y1 y2
    have hse := str_eq s s
    rw [decide_eq_true rfl] at hse
    clear HY HN HX hT5
    go_wp2
    go_ret
    exact ⟨rfl, hB⟩
  | false =>
    clear HY
    by_cases h0 : op = 0
    · subst h0
      obtain ⟨rfl, rfl, rfl⟩ := HN.out rfl
      clear HN HX
      go_wp2
      go_ret
      exact ⟨rfl, hB⟩
    · have h0b : (op == 0) = false := by simpa using h0
      have HX2 : Hid (L.length = 2 → (L.getD 1 default).text ≠ s) := fun h => HX.out rfl h0 h
      have h0n : (op != 0) = true := by simpa using h0
      clear HN HX
      cases he : (er == 0) with
      | false =>
        have hen : (er != 0) = true := by simp at he; simpa using he
        have hen2 : ¬ er = 0 := by simpa using he
        clear HX2
        go_wp2
        go_ret
        exact ⟨rfl, hB⟩
      | true =>
        have he0 : er = 0 := by simpa using he
        subst he0
        clear he
        by_cases hl2 : L.length = 2
        · obtain ⟨b, rfl, y0, y1, y2⟩ := second_of hT5 hl2
          have hse := str_eq (L.getD 1 default).text s
          rw [decide_eq_false (HX2.out hl2)] at hse
          rw [hl2]
          generalize L.getD 1 default = q at *
          clear HX2 hT5 hl2
          go_wp2
          go_ret
          exact ⟨rfl, hB⟩
        · have hlb : ((L.length : Int) == 2) = false := by simp; omega
          have hlp : ¬ (L.length : Int) = 2 := by omega
          clear HX2 hT5
          generalize L.length = ll at *
          go_wp2
          go_ret
          exact ⟨rfl, hB⟩

theorem len_le (s : ByteArray) (h : s.size ≤ maxLen) : s.data.toList.length ≤ 9223372036854775807 := by
  have : s.data.toList.length = s.size := by rw [Array.length_toList]; rfl
  have hm : maxLen ≤ 9223372036854775807 := by decide
  omega
theorem notes_law (n : Int) (s : ByteArray) (w : World) (hE : Env w) (hn : -9223372036854775808 ≤ n ∧ n ≤ 9223372036854775807) (hs : s.size ≤ maxLen) :
    Calls Tryd.prog 7 #[.int .i64 n, .string s] w fun e w' => e = .returned (.bool true) ∧ Below w.heap.size w w' := by
  have h := notes_walk n s.data.toList _ w hE (len_le s hs) rfl
  rw [bs_of] at h
  exact h

end Go.Proofs.YtmcmmbacehldbaaDoor.Toks
