/-
  Contract of drachmref11's text. Contract of drachmref11's text. Contract of drachmref11's text, of one, of two. Contract of drachmref11's text, of two.
-/
import Derived.Test.YthofogokpolhdaaGreatDoorQEX
import Derived.Test.YthofogokpolhdaaGreatDoorRAX
import Derived.StillTailTactics
namespace Go.Proofs.YthofogokpolhdaaGreatDoor.Parses
open Go.RowKit Go.Shelf
open Go.Proofs.YthofogokpolhdaaGreatDoor.Trees (Stp Tr View symT brkZ takesZ mayZ partsZ parts_two parts_one parts_leaf rparts_any rin_any flat_last flat_pos)
open Go.Proofs.YthofogokpolhdaaGreatDoor.Style (bs bs_size bs_app stZ St rof_any)
open Go.Proofs.YthofogokpolhdaaGreatDoor.Toks (cell_lt cell_same)
open Go.Proofs.YthofogokpolhdaaGreatDoor.Syms (text_short)
open Go.Proofs.YthofogokpolhdaaGreatDoor.Atoms (tableRs tablePs)
open Go.Lib (decDigits)
set_option linter.unusedVariables false
set_option linter.unusedSimpArgs false

/-! ### A tree's text, part by part -/

def noteB (k : Nat) (t : List UInt8) : List UInt8 := byteZ (stZ ((k : Int) + 1)).op :: (t ++ [byteZ (stZ ((k : Int) + 1)).cl])
def wrapB (b : Bool) (l : List UInt8) : List UInt8 := if b = true then 40 :: (l ++ [41]) else l
theorem raws_note (k : Nat) (t : List UInt8) : raws ((k : Int) + 1) [⟨9, t, 0⟩] = noteB k t := by
  show rawP _ _ ++ [] = _
  rw [List.append_nil]; rfl
theorem raws_wrap (k : Nat) (b : Bool) (l : List Pc) : raws ((k : Int) + 1) (wrapP b l) = wrapB b (raws ((k : Int) + 1) l) := by
  unfold wrapP wrapB
  split
  · show rawP _ (onePc 7 40) ++ raws _ (l ++ [onePc 8 41]) = _
    rw [raws_app]; rfl
  · rfl
theorem txt_num {k : Nat} {x : Stp} (h : x.op = 1) : txtT k (.leaf x) = decDigits x.num.toNat := by
  show raws _ (if x.op = 1 then _ else _) = _
  rw [if_pos h]
  show rawP _ (numP x.num.toNat) ++ [] = _
  rw [List.append_nil]; rfl
theorem txt_sym {k : Nat} {x : Stp} (h : x.op = 2) : txtT k (.leaf x) = textS k x.pf x.atom ++ powB k x.n := by
  show raws _ (if x.op = 1 then _ else if x.op = 2 then _ else _) = _
  rw [if_neg (by omega), if_pos h]
  show rawP _ _ ++ raws _ (powP k x.n) = _
  rw [raws_pow]; rfl
theorem txt_alone {k : Nat} {x : Stp} (h : x.op = 7) : txtT k (.leaf x) = noteB k x.text := by
  show raws _ (if x.op = 1 then _ else if x.op = 2 then _ else _) = _
  rw [if_neg (by omega), if_neg (by omega), raws_note]
theorem txt_note {k : Nat} {x : Stp} {a : Tr} (h : x.op = 6) : txtT k (.one x a) = wrapB (brkZ x.op a.top.op) (txtT k a) ++ noteB k x.text := by
  show raws _ (if x.op = 6 then _ else _) = _
  rw [if_pos h, raws_app, raws_note, raws_wrap]; rfl
theorem txt_inv {k : Nat} {x : Stp} {a : Tr} (h : x.op ≠ 6) : txtT k (.one x a) = byteZ (stZ ((k : Int) + 1)).div :: wrapB (brkZ x.op a.top.op) (txtT k a) := by
  show raws _ (if x.op = 6 then _ else _) = _
  rw [if_neg h]
  show rawP _ (onePc 5 _) ++ raws _ (wrapP _ _) = _
  rw [raws_wrap]; rfl
theorem txt_two {k : Nat} {x : Stp} {a b : Tr} : txtT k (.two x a b) = txtT k a ++ (if x.op = 3 then byteZ (stZ ((k : Int) + 1)).mul else byteZ (stZ ((k : Int) + 1)).div) :: wrapB (brkZ x.op b.top.op) (txtT k b) := by
  show raws _ (pcsT k a ++ (if x.op = 3 then _ else _) :: wrapP _ _) = _
  rw [raws_app]
  show _ ++ (rawP _ (if x.op = 3 then _ else _) ++ raws _ (wrapP _ _)) = _
  rw [raws_wrap]
  split <;> rfl

/-- What a step may be, that a text is asked of. -/
structure Ask (k : Nat) (x : Stp) : Prop where
  op : 1 ≤ x.op ∧ x.op ≤ 7
  sym : x.op = 2 → ((-1 ≤ x.pf ∧ x.pf < (tablePs.length : Int)) ∧ (0 ≤ x.atom ∧ x.atom < (tableRs.length : Int))) ∧ (-99 ≤ x.n ∧ x.n ≤ 99) ∧ x = ⟨2, x.pf, x.atom, x.n, 0, []⟩
  num : x.op = 1 → 1 ≤ x.num ∧ x.num ≤ 9223372036854775807
  text : x.text.length ≤ 10
theorem note_len (k : Nat) (t : List UInt8) : (noteB k t).length = t.length + 2 := by unfold noteB; simp
theorem wrap_ln (b : Bool) (l : List UInt8) : (wrapB b l).length ≤ l.length + 2 := by
  unfold wrapB
  split
  · simp
  · omega
theorem txt_len {k : Nat} (hk : k < 5) {ok : Int → Int → Bool} : ∀ T : Tr, T.good ok → (∀ x ∈ T.flat, Ask k x) → (txtT k T).length + 3 ≤ 1100 * T.flat.length
  | .leaf x, hg, h => by
    have hx := h x (by simp [Tr.flat])
    have hf : (Tr.leaf x).flat.length = 1 := rfl
    rw [hf]
    by_cases h1 : x.op = 1
    · rw [txt_num h1]
      have := dec_len x.num.toNat (by have := hx.num h1; omega)
      omega
    · by_cases h2 : x.op = 2
      · rw [txt_sym h2, List.length_append]
        have a := text_short k hk x.pf x.atom
        have b := pow_len k x.n (hx.sym h2).2.1
        omega
      · have e : txtT k (.leaf x) = noteB k x.text := by
          show raws _ (if x.op = 1 then _ else if x.op = 2 then _ else _) = _
          rw [if_neg h1, if_neg h2, raws_note]
        rw [e, note_len]
        have := hx.text
        omega
  | .one x a, hg, h => by
    have hx := h x (by simp [Tr.flat])
    have ih := txt_len hk a hg.2 (fun y hy => h y (by simp [Tr.flat, hy]))
    have hf : (Tr.one x a).flat.length = a.flat.length + 1 := by simp [Tr.flat]
    rw [hf]
    have hw := wrap_ln (brkZ x.op a.top.op) (txtT k a)
    have := hx.text
    by_cases h6 : x.op = 6
    · rw [txt_note h6, List.length_append, note_len]; omega
    · rw [txt_inv h6, List.length_cons]; omega
  | .two x a b, hg, h => by
    have ia := txt_len hk a hg.2.1 (fun y hy => h y (by simp [Tr.flat, hy]))
    have ib := txt_len hk b hg.2.2 (fun y hy => h y (by simp [Tr.flat, hy]))
    have hf : (Tr.two x a b).flat.length = a.flat.length + b.flat.length + 1 := by simp [Tr.flat]; omega
    rw [hf, txt_two, List.length_append, List.length_cons]
    have hw := wrap_ln (brkZ x.op b.top.op) (txtT k b)
    omega

theorem bytes_note (k : Nat) (t : List UInt8) : bs [byteZ (stZ ((k : Int) + 1)).op] ++ bs t ++ bs [byteZ (stZ ((k : Int) + 1)).cl] = bs (noteB k t) := by
  rw [bs_app, bs_app]; rfl

end Go.Proofs.YthofogokpolhdaaGreatDoor.Parses

namespace Go.Proofs.YthofogokpolhdaaGreatDoor.Parses
open Go.RowKit Go.Shelf
open Go.Proofs.YthofogokpolhdaaGreatDoor.Trees (Stp Tr View symT brkZ takesZ mayZ partsZ parts_two parts_one parts_leaf rparts_any rin_any flat_last flat_pos NeI top_of)
open Go.Proofs.YthofogokpolhdaaGreatDoor.Style (bs bs_size bs_app stZ St rof_any)
open Go.Proofs.YthofogokpolhdaaGreatDoor.Toks (cell_lt cell_same)
open Go.Proofs.YthofogokpolhdaaGreatDoor.Syms (text_short)
open Go.Proofs.YthofogokpolhdaaGreatDoor.Atoms (tableRs tablePs)
open Go.Lib (decDigits)
set_option linter.unusedVariables false
set_option linter.unusedSimpArgs false

/-- The six cells of a tree's last step. -/
structure Six (w : World) (b o : Nat) (x : Stp) : Prop where
  c0 : w.cell? ⟨b, o, none⟩ = some (.int .i64 x.op)
  c1 : w.cell? ⟨b, o + 1, none⟩ = some (.int .i64 x.pf)
  c2 : w.cell? ⟨b, o + 2, none⟩ = some (.int .i64 x.atom)
  c3 : w.cell? ⟨b, o + 3, none⟩ = some (.int .i64 x.n)
  c4 : w.cell? ⟨b, o + 4, none⟩ = some (.int .i64 x.num)
  c5 : w.cell? ⟨b, o + 5, none⟩ = some (.string (bs x.text))
theorem Six.go {w w' : World} {b o : Nat} {x : Stp} (h : Six w b o x) (hb : Below w.heap.size w w') : Six w' b o x :=
  ⟨(hb.cell (p := ⟨b, _, none⟩) (cell_lt h.c0)).trans h.c0, (hb.cell (p := ⟨b, _, none⟩) (cell_lt h.c0)).trans h.c1, (hb.cell (p := ⟨b, _, none⟩) (cell_lt h.c0)).trans h.c2, (hb.cell (p := ⟨b, _, none⟩) (cell_lt h.c0)).trans h.c3, (hb.cell (p := ⟨b, _, none⟩) (cell_lt h.c0)).trans h.c4, (hb.cell (p := ⟨b, _, none⟩) (cell_lt h.c0)).trans h.c5⟩
theorem Six.new (w : World) (x : Stp) : Six (w.alloc (.cells #[.int .i64 x.op, .int .i64 x.pf, .int .i64 x.atom, .int .i64 x.n, .int .i64 x.num, .string (bs x.text)] 47)) w.heap.size 0 x :=
  ⟨by simp [go_sem], by simp [go_sem], by simp [go_sem], by simp [go_sem], by simp [go_sem], by simp [go_sem]⟩
theorem view_six {w : World} {s : Value} {T : Tr} (h : View w s T.flat) : ∃ b off c n, s = .slice (some ⟨b, off, none⟩) (n + 1) c ∧ T.flat.length = n + 1 ∧ n + 1 ≤ c ∧ Six w b (off + n * 6) T.top := by
  obtain ⟨o, c, rfl, hc, hv⟩ := h
  have hp := flat_pos T
  obtain ⟨n, hn⟩ : ∃ n, T.flat.length = n + 1 := ⟨T.flat.length - 1, by omega⟩
  obtain ⟨b, off, rfl, a0, a1, a2, a3, a4, a5⟩ := hv n (by omega)
  have ht : T.flat.getD n default = T.top := by
    rw [← flat_last T, List.getLastD_eq_getLast?, List.getLast?_eq_getElem?, hn, List.getD_eq_getElem?_getD, Nat.add_sub_cancel]
  rw [ht] at a0 a1 a2 a3 a4 a5
  exact ⟨b, off, c, n, by rw [hn], hn, by omega, ⟨a0, a1, a2, a3, a4, a5⟩⟩
/-- A style's box. -/
structure SBox (w : World) (b : Nat) (m d o c : Int) : Prop where
  y1 : w.cell? ⟨b, 1, none⟩ = some (.int .u8 m)
  y2 : w.cell? ⟨b, 2, none⟩ = some (.int .u8 d)
  y4 : w.cell? ⟨b, 4, none⟩ = some (.int .u8 o)
  y5 : w.cell? ⟨b, 5, none⟩ = some (.int .u8 c)
theorem SBox.go {w w' : World} {b : Nat} {m d o c : Int} (h : SBox w b m d o c) (hb : Below w.heap.size w w') : SBox w' b m d o c :=
  ⟨(hb.cell (p := ⟨b, _, none⟩) (cell_lt h.y1)).trans h.y1, (hb.cell (p := ⟨b, _, none⟩) (cell_lt h.y1)).trans h.y2, (hb.cell (p := ⟨b, _, none⟩) (cell_lt h.y1)).trans h.y4, (hb.cell (p := ⟨b, _, none⟩) (cell_lt h.y1)).trans h.y5⟩

/-- While text goes: the step's box, the style's. -/
structure TxJ (w v : World) (xb yb : Nat) (x : Stp) (m d o c : Int) : Prop where
  six : Six v xb 0 x
  sb : SBox v yb m d o c
  below : Below w.heap.size w v
theorem TxJ.go {w v v' : World} {xb yb : Nat} {x : Stp} {m d o c : Int} (h : TxJ w v xb yb x m d o c) (hb : Below v.heap.size v v') : TxJ w v' xb yb x m d o c := ⟨h.six.go hb, h.sb.go hb, h.below.trans (hb.mono h.below.size)⟩
theorem TxJ.drew {w v : World} {xb yb : Nat} {x : Stp} {m d o c : Int} (h : TxJ w v xb yb x m d o c) : TxJ w v.drew xb yb x m d o c := h.go (Below.refl _ _).drew
theorem TxJ.cells {w v : World} {xb yb : Nat} {x : Stp} {m d o c : Int} (h : TxJ w v xb yb x m d o c) : v.cell? ⟨yb, 4, none⟩ = some (.int .u8 o) ∧ v.cell? ⟨yb, 5, none⟩ = some (.int .u8 c) ∧ v.cell? ⟨xb, 5, none⟩ = some (.string (bs x.text)) := ⟨h.sb.y4, h.sb.y5, h.six.c5⟩

theorem leaf_ops {x : Stp} (hg : (Tr.leaf x).good symT) (h : 1 ≤ x.op ∧ x.op ≤ 7) : x.op = 1 ∨ x.op = 2 ∨ x.op = 7 := by
  have h4 := hg.2
  unfold takesZ at h4
  by_cases h34 : x.op = 3 ∨ x.op = 4
  · rw [if_pos h34] at h4; cases h4
  · rw [if_neg h34] at h4
    by_cases h56 : x.op = 5 ∨ x.op = 6
    · rw [if_pos h56] at h4; cases h4
    · omega
set_option maxRecDepth 100000 in
set_option maxHeartbeats 2000000 in
theorem text_leaf (k : Nat) (hk5 : k < 5) (x : Stp) (s : Value) (w : World) (hg : (Tr.leaf x).good symT) (hA : Ask k x) (hV : View w s (Tr.leaf x).flat) :
    Calls Tryz.prog 37 #[.int .i64 ((k : Int) + 1), s] w fun e w' => e = .returned (.string (bs (txtT k (.leaf x)))) ∧ Below w.heap.size w w' := by
  have hO := fun W => rof_any ((k : Int) + 1) W
  have hB := fun c W => byteOf_any c W
  have hD := fun u W hu => digits_any u W hu
  have hN := bytes_note k
  have hnl := note_len k
  have z3 : ∀ x, (bs [x]).size = 1 := fun x => rfl
  obtain ⟨b, off, c, n, rfl, hn, hc, hS⟩ := view_six hV
  have hn0 : n = 0 := by simpa [Tr.flat] using hn.symm
  subst hn0
  simp only [Tr.top, Nat.zero_mul, Nat.add_zero] at hS
  have hci : (1 : Int) ≤ (c : Int) := by omega
  have hop := leaf_ops hg hA.op
  have hsym := hA.sym
  have hnum := hA.num
  have hSY := fun pf a n ha hpf hn W => sym_v k pf a n hk5 ha hpf hn W
  have hT1 := fun h => Lib.hid (txt_num (k := k) (x := x) h)
  have hT2 := fun h => Lib.hid (txt_sym (k := k) (x := x) h)
  have hT7 := fun h => Lib.hid (txt_alone (k := k) (x := x) h)
  generalize txtT k (.leaf x) = R at *
  have hSn := Six.new w x
  have hu : Below w.heap.size w (w.alloc (.cells #[.int .i64 x.op, .int .i64 x.pf, .int .i64 x.atom, .int .i64 x.n, .int .i64 x.num, .string (bs x.text)] 47)) := by go_grown
  obtain ⟨c0, c1, c2, c3, c4, c5⟩ := hS
  have hnb := hN x.text
  have hnl2 := hnl x.text
  generalize noteB k x.text = nb at *
  generalize stZ ((k : Int) + 1) = y at *
  obtain ⟨yf, ym, yd, yp, yo, yc⟩ := y
  simp only [St.v] at hO
  dsimp only at hnb
  have hxt := hA.text
  have zt : (bs x.text).size ≤ 10 := by rw [bs_size]; exact hxt
  have HN := Lib.hid hnb
  clear hN hnl hV hn hnb
  go_enter Tryz.func37, Tryz.ntmps37
  go_wp2_with fail
  generalize w.alloc (.cells #[.int .i64 x.op, .int .i64 x.pf, .int .i64 x.atom, .int .i64 x.n, .int .i64 x.num, .string (bs x.text)] 47) = W1 at *
  refine (hO _).mono ?_
  rintro e w2 ⟨rfl, hb2⟩
  have hu2 := alloc_own w2 (.cells #[.bool yf, .int .u8 ym, .int .u8 yd, .int .u8 yp, .int .u8 yo, .int .u8 yc] 43)
  have hSx := (hSn.go hb2).go hu2
  have hYx : SBox (w2.alloc (.cells #[.bool yf, .int .u8 ym, .int .u8 yd, .int .u8 yp, .int .u8 yo, .int .u8 yc] 43)) w2.heap.size ym yd yo yc := ⟨by simp [go_sem], by simp [go_sem], by simp [go_sem], by simp [go_sem]⟩
  have hbx := (hu.trans (hb2.mono hu.size)).trans (hu2.mono (hu.trans (hb2.mono hu.size)).size)
  have hA : TxJ w _ w.heap.size w2.heap.size x ym yd yo yc := ⟨hSx, hYx, hbx⟩
  clear hu hb2 hu2 hO hSn c0 c1 c2 c3 c4 c5 hSx hYx hbx
  go_upto_region 3 with fail
  generalize w2.alloc (.cells #[.bool yf, .int .u8 ym, .int .u8 yd, .int .u8 yp, .int .u8 yo, .int .u8 yc] 43) = W3 at *
  generalize w2.heap.size = yb at *
  generalize w.heap.size = xb at *
  have zo : (bs [byteZ yo]).size = 1 := rfl
  have zc : (bs [byteZ yc]).size = 1 := rfl
  have q1 : ¬ 9223372036854775807 < (bs [byteZ yo]).size + (bs x.text).size := by omega
  have q2 : ¬ 9223372036854775807 < (bs [byteZ yo] ++ bs x.text).size + (bs [byteZ yc]).size := by rw [ByteArray.size_append]; omega
  have q3 : ¬ 9223372036854775807 < (bs [byteZ yo]).size + (bs x.text).size + (bs [byteZ yc]).size := by omega
  clear zo zc z3
  go_region_held3 (fun v => v.cell? ⟨yb, 4, none⟩ = some (.int .u8 yo) ∧ v.cell? ⟨yb, 5, none⟩ = some (.int .u8 yc) ∧ v.cell? ⟨xb, 5, none⟩ = some (.string (bs x.text)))
    (first | with_reducible exact hA.cells | with_reducible exact hA.drew.cells)
    (first
      | (go_at_call 58; refine (hB _ _).mono ?_; rintro e u ⟨rfl, hb⟩; (first | (replace hA := hA.go hb) | (replace hA := hA.drew.go hb)); clear hb))
  clear q1 q2 q3 hB
  rw [HN.out]
  have c0 := hA.six.c0
  have c1 := hA.six.c1
  have c2 := hA.six.c2
  have c3 := hA.six.c3
  have c4 := hA.six.c4
  have c5 := hA.six.c5
  have HB := Lib.hid hA.below
  clear hA HN
  rcases hop with h | h | h
  · have HR := hT1 h
    obtain ⟨m, hm⟩ : ∃ m : Nat, x.num = (m : Int) := ⟨x.num.toNat, by have := hnum h; omega⟩
    have hD2 := fun W => hD m W (by have := hnum h; omega)
    rw [hm, Int.toNat_natCast] at HR
    rw [h] at c0
    rw [hm] at c4
    clear hT1 hT2 hT7 hD hSY hsym hnum c1 c2 c3 c5 hnl2 zt hxt
    generalize decDigits m = Dg at *
    go_wp2_with fail
    refine (hD2 _).mono ?_
    rintro e w4 ⟨rfl, hb4⟩
    have hB := Lib.hid (HB.out.trans (hb4.mono HB.out.size))
    clear hb4 hD2
    go_wp2_with fail
    go_ret
    exact ⟨by rw [HR.out]; rfl, hB.out⟩
  · have HR := hT2 h
    obtain ⟨⟨hp, ha⟩, hn9, hxe⟩ := hsym h
    have hSy := fun W => hSY x.pf x.atom.toNat x.n (by omega) hp hn9 W
    have haN : ((x.atom.toNat : Nat) : Int) = x.atom := by omega
    rw [haN] at hSy
    have e4 : x.num = 0 := by rw [hxe]
    have e5 : x.text = [] := by rw [hxe]
    rw [h] at c0
    rw [e4] at c4
    rw [e5] at c5
    simp only [Stp.v] at hSy
    clear hT1 hT2 hT7 hD hSY hsym hnum hnl2 zt hxt haN hxe
    generalize textS k x.pf x.atom ++ powB k x.n = Sy at *
    go_wp2_with fail
    refine (hSy _).mono ?_
    rintro e w4 ⟨rfl, hb4⟩
    have hB := Lib.hid (HB.out.trans (hb4.mono HB.out.size))
    clear hb4 hSy
    go_wp2_with fail
    go_ret
    exact ⟨by rw [HR.out]; rfl, hB.out⟩
  · have HR := hT7 h
    rw [h] at c0
    clear hT1 hT2 hT7 hD hSY hsym hnum hnl2 zt hxt
    go_wp2_with fail
    go_ret
    exact ⟨by rw [HR.out]; rfl, HB.out⟩

end Go.Proofs.YthofogokpolhdaaGreatDoor.Parses

namespace Go.Proofs.YthofogokpolhdaaGreatDoor.Parses
open Go.RowKit Go.Shelf
open Go.Proofs.YthofogokpolhdaaGreatDoor.Trees (Stp Tr View symT brkZ takesZ mayZ partsZ parts_two parts_one parts_leaf rparts_any rin_any flat_last flat_pos NeI top_of)
open Go.Proofs.YthofogokpolhdaaGreatDoor.Style (bs bs_size bs_app stZ St rof_any)
open Go.Proofs.YthofogokpolhdaaGreatDoor.Toks (cell_lt cell_same)
open Go.Proofs.YthofogokpolhdaaGreatDoor.Syms (text_short)
open Go.Proofs.YthofogokpolhdaaGreatDoor.Atoms (tableRs tablePs)
open Go.Lib (decDigits)
set_option linter.unusedVariables false
set_option linter.unusedSimpArgs false

set_option maxRecDepth 100000 in
set_option maxHeartbeats 2000000 in
theorem text_one (k : Nat) (hk5 : k < 5) (x : Stp) (a : Tr) (s : Value) (w : World) (hg : (Tr.one x a).good symT) (hl : (Tr.one x a).flat.length ≤ 31) (hF : ∀ y ∈ (Tr.one x a).flat, Ask k y) (hV : View w s (Tr.one x a).flat)
    (iha : ∀ (s : Value) (w : World), View w s a.flat → Calls Tryz.prog 37 #[.int .i64 ((k : Int) + 1), s] w fun e w' => e = .returned (.string (bs (txtT k a))) ∧ Below w.heap.size w w') :
    Calls Tryz.prog 37 #[.int .i64 ((k : Int) + 1), s] w fun e w' => e = .returned (.string (bs (txtT k (.one x a)))) ∧ Below w.heap.size w w' := by
  have hO := fun W => rof_any ((k : Int) + 1) W
  have hB := fun c W => byteOf_any c W
  have hD := fun u W hu => digits_any u W hu
  have hNo := bytes_note k
  have hnol := note_len k
  have z3 : ∀ x, (bs [x]).size = 1 := fun x => rfl
  have hV0 := hV
  obtain ⟨b, off, c, n, rfl, hn, hc, hS⟩ := view_six hV
  simp only [Tr.top] at hS
  obtain ⟨N, hN⟩ : ∃ N, n + 1 = N := ⟨_, rfl⟩
  rw [hN] at hV0 ⊢
  have hci : (N : Int) ≤ (c : Int) := by omega
  have hni : (n : Int) ≤ 40 := by omega
  have hnN : (N : Int) - 1 = (n : Int) := by omega
  have hnl : (n : Int) < (N : Int) := by omega
  clear hN
  have hA := hF x (by simp [Tr.flat])
  have hla : a.flat.length ≤ 30 := by simp only [Tr.flat, List.length_append, List.length_cons, List.length_nil] at hl; omega
  have hT6 := fun h => Lib.hid (txt_note (k := k) (x := x) (a := a) h)
  have hT5 := fun h => Lib.hid (txt_inv (k := k) (x := x) (a := a) h)
  have hop : x.op = 5 ∨ x.op = 6 := by
    have h4 := hg.1.2
    unfold takesZ at h4
    by_cases h34 : x.op = 3 ∨ x.op = 4
    · rw [if_pos h34] at h4; cases h4
    · rw [if_neg h34] at h4
      by_cases h56 : x.op = 5 ∨ x.op = 6
      · exact h56
      · rw [if_neg h56] at h4; cases h4
  have hPt := fun sv W (hW : View W sv (Tr.one x a).flat) => rparts_any sv _ W hW (fun y hy => by have := (hF y hy).text; omega) (by omega)
  rw [parts_one hg (by omega)] at hPt
  have hIn := fun sv W (h : View W sv a.flat) => rin_any x.op sv a.flat W h (flat_pos a) (by omega)
  rw [top_of] at hIn
  have htl := txt_len hk5 a hg.2 (fun y hy => hF y (by simp [Tr.flat, hy]))
  have ztx : (bs (txtT k a)).size ≤ 40000 := by rw [bs_size]; omega
  generalize txtT k (.one x a) = R at *
  generalize txtT k a = ta at *
  have hSn := Six.new w x
  have hu : Below w.heap.size w (w.alloc (.cells #[.int .i64 x.op, .int .i64 x.pf, .int .i64 x.atom, .int .i64 x.n, .int .i64 x.num, .string (bs x.text)] 47)) := by go_grown
  obtain ⟨c0, c1, c2, c3, c4, c5⟩ := hS
  have hnb := hNo x.text
  have hnl2 := hnol x.text
  generalize noteB k x.text = nb at *
  generalize stZ ((k : Int) + 1) = y at *
  obtain ⟨yf, ym, yd, yp, yo, yc⟩ := y
  simp only [St.v] at hO
  dsimp only at hnb
  have hxt := hA.text
  have zt : (bs x.text).size ≤ 10 := by rw [bs_size]; exact hxt
  have HN := Lib.hid hnb
  clear hNo hnol hV hn hnb
  go_enter Tryz.func37, Tryz.ntmps37
  go_wp2_with fail
  generalize w.alloc (.cells #[.int .i64 x.op, .int .i64 x.pf, .int .i64 x.atom, .int .i64 x.n, .int .i64 x.num, .string (bs x.text)] 47) = W1 at *
  refine (hO _).mono ?_
  rintro e w2 ⟨rfl, hb2⟩
  have hu2 := alloc_own w2 (.cells #[.bool yf, .int .u8 ym, .int .u8 yd, .int .u8 yp, .int .u8 yo, .int .u8 yc] 43)
  have hSx := (hSn.go hb2).go hu2
  have hYx : SBox (w2.alloc (.cells #[.bool yf, .int .u8 ym, .int .u8 yd, .int .u8 yp, .int .u8 yo, .int .u8 yc] 43)) w2.heap.size ym yd yo yc := ⟨by simp [go_sem], by simp [go_sem], by simp [go_sem], by simp [go_sem]⟩
  have hbx := (hu.trans (hb2.mono hu.size)).trans (hu2.mono (hu.trans (hb2.mono hu.size)).size)
  have hA : TxJ w _ w.heap.size w2.heap.size x ym yd yo yc := ⟨hSx, hYx, hbx⟩
  clear hu hb2 hu2 hO hSn c0 c1 c2 c3 c4 c5 hSx hYx hbx
  go_upto_region 3 with fail
  generalize w2.alloc (.cells #[.bool yf, .int .u8 ym, .int .u8 yd, .int .u8 yp, .int .u8 yo, .int .u8 yc] 43) = W3 at *
  generalize w2.heap.size = yb at *
  generalize w.heap.size = xb at *
  have zo : (bs [byteZ yo]).size = 1 := rfl
  have zc : (bs [byteZ yc]).size = 1 := rfl
  have q1 : ¬ 9223372036854775807 < (bs [byteZ yo]).size + (bs x.text).size := by omega
  have q2 : ¬ 9223372036854775807 < (bs [byteZ yo] ++ bs x.text).size + (bs [byteZ yc]).size := by rw [ByteArray.size_append]; omega
  have q3 : ¬ 9223372036854775807 < (bs [byteZ yo]).size + (bs x.text).size + (bs [byteZ yc]).size := by omega
  clear zo zc z3
  go_region_held3 (fun v => v.cell? ⟨yb, 4, none⟩ = some (.int .u8 yo) ∧ v.cell? ⟨yb, 5, none⟩ = some (.int .u8 yc) ∧ v.cell? ⟨xb, 5, none⟩ = some (.string (bs x.text)))
    (first | with_reducible exact hA.cells | with_reducible exact hA.drew.cells)
    (first
      | (go_at_call 58; refine (hB _ _).mono ?_; rintro e u ⟨rfl, hb⟩; (first | (replace hA := hA.go hb) | (replace hA := hA.drew.go hb)); clear hb))
  clear q1 q2 q3
  rw [HN.out]
  have c0 := hA.six.c0
  have c1 := hA.six.c1
  have c2 := hA.six.c2
  have c3 := hA.six.c3
  have c4 := hA.six.c4
  have c5 := hA.six.c5
  clear c1 c2 c3 c4 c5
  have t1 : (x.op == 1) = false := by rw [beq_eq_false_iff_ne]; omega
  have t2 : (x.op == 2) = false := by rw [beq_eq_false_iff_ne]; omega
  have t7 : (x.op == 7) = false := by rw [beq_eq_false_iff_ne]; omega
  have hV4 := hV0.go hA.below
  have hla2 : a.flat.length ≤ 30 := hla
  clear hV0 hD hF hg hl
  go_wp2_with fail
  refine (hPt _ _ hV4).mono ?_
  rintro e w4 ⟨⟨s1, s2, rfl, h1, h2⟩, hb4⟩
  have hu4 := alloc_own w4 (.cells #[s1, s2] 114)
  obtain ⟨o1, c1, rfl, _⟩ := h1.slice
  obtain ⟨o2, c2, rfl, _⟩ := h2.slice
  replace h1 : View w4 (.slice o1 0 c1) [] := h1
  replace h2 : View w4 (.slice o2 a.flat.length c2) a.flat := h2
  replace hA := (hA.go hb4).go hu4
  have hI : NeI w (w4.alloc (.cells #[.slice o1 0 c1, .slice o2 a.flat.length c2] 114)) w4.heap.size (.slice o1 0 c1) (.slice o2 a.flat.length c2) [] a.flat := ⟨h1.go hu4, h2.go hu4, by simp [go_sem], by simp [go_sem], hA.below⟩
  have p1 := hI.p1
  clear h1 h2 hb4 hu4 hPt hV4 c0
  go_wp2_with fail
  change Calls _ _ _ (w4.alloc (.cells #[.slice o1 0 c1, .slice o2 a.flat.length c2] 114)) _
  generalize w4.alloc (.cells #[.slice o1 0 c1, .slice o2 a.flat.length c2] 114) = W5 at *
  generalize w4.heap.size = pb at *
  refine (iha _ _ hI.v2).mono ?_
  rintro e W6 ⟨rfl, hb6⟩
  replace hA := hA.go hb6
  replace hI := hI.go hb6
  clear p1 hb6 iha
  have p1 := hI.p1
  have c0 := hA.six.c0
  go_wp2_with fail
  refine (hIn _ _ hI.v2).mono ?_
  rintro e W7 ⟨rfl, hb7⟩
  replace hA := hA.go hb7
  clear hb7 hIn hI p1 c0
  have c0 := hA.six.c0
  have y2 := hA.sb.y2
  have HB := Lib.hid hA.below
  have eW : (⟨#[40]⟩ : ByteArray) ++ bs ta ++ ⟨#[41]⟩ = bs (wrapB true ta) := by
    show bs [40] ++ bs ta ++ bs [41] = _
    rw [bs_app, bs_app]; rfl
  have z5 : (bs (wrapB true ta)).size ≤ 40002 := by
    have := wrap_ln true ta
    rw [bs_size] at ztx ⊢
    omega
  have hwf : wrapB false ta = ta := rfl
  have zn : (bs nb).size ≤ 12 := by rw [bs_size]; omega
  have q4 : ¬ 9223372036854775807 < (⟨#[40]⟩ : ByteArray).size + (bs ta).size := by
    show ¬ 9223372036854775807 < 1 + (bs ta).size
    omega
  have q5 : ¬ 9223372036854775807 < (⟨#[40]⟩ ++ bs ta : ByteArray).size + (⟨#[41]⟩ : ByteArray).size := by
    rw [ByteArray.size_append]
    show ¬ 9223372036854775807 < 1 + (bs ta).size + 1
    omega
  have q6 : ¬ 9223372036854775807 < (bs ta).size + (bs nb).size := by omega
  have q7 : ¬ 9223372036854775807 < (bs (wrapB true ta)).size + (bs nb).size := by omega
  have hBd := hB yd
  have q8 : ¬ 9223372036854775807 < (bs [byteZ yd]).size + (bs ta).size := by
    show ¬ 9223372036854775807 < 1 + (bs ta).size
    omega
  have q9 : ¬ 9223372036854775807 < (bs [byteZ yd]).size + (bs (wrapB true ta)).size := by
    show ¬ 9223372036854775807 < 1 + (bs (wrapB true ta)).size
    omega
  rcases hop with h | h
  · have HR := hT5 (by omega)
    rw [h] at c0
    clear hT5 hT6 t1 t2 t7 hB
    cases hbk : brkZ x.op a.top.op with
    | false =>
      rw [hbk, hwf] at HR
      clear hbk
      go_wp2_with fail
      refine (hBd _).mono ?_
      rintro e W8 ⟨rfl, hb8⟩
      have hB8 := HB.out.trans (hb8.mono HB.out.size)
      clear hBd hb8 c0 y2 hA
      go_wp2_with fail
      go_ret
      have e : bs [byteZ yd] ++ bs ta = bs R := by rw [HR.out, bs_app]; rfl
      exact ⟨by rw [← e]; rfl, hB8⟩
    | true =>
      rw [hbk] at HR
      clear hbk
      go_wp2_with fail
      refine (hBd _).mono ?_
      rintro e W8 ⟨rfl, hb8⟩
      have hB8 := HB.out.trans (hb8.mono HB.out.size)
      clear hBd hb8 c0 y2 hA
      go_wp2_with fail
      go_ret
      have e : bs [byteZ yd] ++ bs (wrapB true ta) = bs R := by rw [HR.out, bs_app]; rfl
      exact ⟨by rw [← e]; rfl, hB8⟩
  · have HR := hT6 h
    rw [h] at c0
    clear hT5 hT6 t1 t2 t7 hB hBd
    cases hbk : brkZ x.op a.top.op with
    | false =>
      rw [hbk, hwf] at HR
      clear hbk
      go_wp2_with fail
      go_ret
      exact ⟨by rw [HR.out, ← bs_app]; rfl, HB.out⟩
    | true =>
      rw [hbk] at HR
      clear hbk
      go_wp2_with fail
      go_ret
      exact ⟨by rw [HR.out, ← bs_app]; rfl, HB.out⟩

end Go.Proofs.YthofogokpolhdaaGreatDoor.Parses

namespace Go.Proofs.YthofogokpolhdaaGreatDoor.Parses
open Go.RowKit Go.Shelf
open Go.Proofs.YthofogokpolhdaaGreatDoor.Trees (Stp Tr View symT brkZ takesZ mayZ partsZ parts_two parts_one parts_leaf rparts_any rin_any flat_last flat_pos NeI top_of)
open Go.Proofs.YthofogokpolhdaaGreatDoor.Style (bs bs_size bs_app stZ St rof_any)
open Go.Proofs.YthofogokpolhdaaGreatDoor.Toks (cell_lt cell_same)
open Go.Proofs.YthofogokpolhdaaGreatDoor.Syms (text_short)
open Go.Proofs.YthofogokpolhdaaGreatDoor.Atoms (tableRs tablePs)
open Go.Lib (decDigits)
set_option linter.unusedVariables false
set_option linter.unusedSimpArgs false

/-- While text of two goes: the step's box, the style's, both parts. -/
structure TxB (w v : World) (xb yb pb : Nat) (x : Stp) (m d o c : Int) (s1 s2 : Value) (L1 L2 : List Stp) : Prop where
  j : TxJ w v xb yb x m d o c
  i : NeI w v pb s1 s2 L1 L2
theorem TxB.go {w v v' : World} {xb yb pb : Nat} {x : Stp} {m d o c : Int} {s1 s2 : Value} {L1 L2 : List Stp} (h : TxB w v xb yb pb x m d o c s1 s2 L1 L2) (hb : Below v.heap.size v v') : TxB w v' xb yb pb x m d o c s1 s2 L1 L2 := ⟨h.j.go hb, h.i.go hb⟩
theorem TxB.drew {w v : World} {xb yb pb : Nat} {x : Stp} {m d o c : Int} {s1 s2 : Value} {L1 L2 : List Stp} (h : TxB w v xb yb pb x m d o c s1 s2 L1 L2) : TxB w v.drew xb yb pb x m d o c s1 s2 L1 L2 := h.go (Below.refl _ _).drew
theorem TxB.cm {w v : World} {xb yb pb : Nat} {x : Stp} {m d o c : Int} {s1 s2 : Value} {L1 L2 : List Stp} (h : TxB w v xb yb pb x m d o c s1 s2 L1 L2) : v.cell? ⟨pb, 0, none⟩ = some s1 ∧ v.cell? ⟨yb, 1, none⟩ = some (.int .u8 m) := ⟨h.i.p0, h.j.sb.y1⟩
theorem TxB.cd {w v : World} {xb yb pb : Nat} {x : Stp} {m d o c : Int} {s1 s2 : Value} {L1 L2 : List Stp} (h : TxB w v xb yb pb x m d o c s1 s2 L1 L2) : v.cell? ⟨pb, 0, none⟩ = some s1 ∧ v.cell? ⟨yb, 2, none⟩ = some (.int .u8 d) := ⟨h.i.p0, h.j.sb.y2⟩

set_option maxRecDepth 100000 in
set_option maxHeartbeats 2000000 in
theorem text_two (k : Nat) (hk5 : k < 5) (x : Stp) (a b' : Tr) (s : Value) (w : World) (hg : (Tr.two x a b').good symT) (hl : (Tr.two x a b').flat.length ≤ 31) (hF : ∀ y ∈ (Tr.two x a b').flat, Ask k y) (hV : View w s (Tr.two x a b').flat)
    (iha : ∀ (s : Value) (w : World), View w s a.flat → Calls Tryz.prog 37 #[.int .i64 ((k : Int) + 1), s] w fun e w' => e = .returned (.string (bs (txtT k a))) ∧ Below w.heap.size w w')
    (ihb : ∀ (s : Value) (w : World), View w s b'.flat → Calls Tryz.prog 37 #[.int .i64 ((k : Int) + 1), s] w fun e w' => e = .returned (.string (bs (txtT k b'))) ∧ Below w.heap.size w w') :
    Calls Tryz.prog 37 #[.int .i64 ((k : Int) + 1), s] w fun e w' => e = .returned (.string (bs (txtT k (.two x a b')))) ∧ Below w.heap.size w w' := by
  have hO := fun W => rof_any ((k : Int) + 1) W
  have hB := fun c W => byteOf_any c W
  have hD := fun u W hu => digits_any u W hu
  have hNo := bytes_note k
  have hnol := note_len k
  have z3 : ∀ x, (bs [x]).size = 1 := fun x => rfl
  have hV0 := hV
  obtain ⟨b, off, c, n, rfl, hn, hc, hS⟩ := view_six hV
  simp only [Tr.top] at hS
  obtain ⟨N, hN⟩ : ∃ N, n + 1 = N := ⟨_, rfl⟩
  rw [hN] at hV0 ⊢
  have hci : (N : Int) ≤ (c : Int) := by omega
  have hni : (n : Int) ≤ 40 := by omega
  have hnN : (N : Int) - 1 = (n : Int) := by omega
  have hnl : (n : Int) < (N : Int) := by omega
  clear hN
  have hA := hF x (by simp [Tr.flat])
  have hll : a.flat.length + b'.flat.length ≤ 30 := by simp only [Tr.flat, List.length_append, List.length_cons, List.length_nil] at hl; omega
  have hT3 := Lib.hid (txt_two (k := k) (x := x) (a := a) (b := b'))
  have hop : x.op = 3 ∨ x.op = 4 := by
    have h4 := hg.1.2
    unfold takesZ at h4
    by_cases h34 : x.op = 3 ∨ x.op = 4
    · exact h34
    · rw [if_neg h34] at h4
      by_cases h56 : x.op = 5 ∨ x.op = 6
      · rw [if_pos h56] at h4; cases h4
      · rw [if_neg h56] at h4; cases h4
  have hPt := fun sv W (hW : View W sv (Tr.two x a b').flat) => rparts_any sv _ W hW (fun y hy => by have := (hF y hy).text; omega) (by omega)
  rw [parts_two hg (by omega)] at hPt
  have hIn := fun sv W (h : View W sv b'.flat) => rin_any x.op sv b'.flat W h (flat_pos b') (by omega)
  rw [top_of] at hIn
  have htl := txt_len hk5 a hg.2.1 (fun y hy => hF y (by simp [Tr.flat, hy]))
  have htlb := txt_len hk5 b' hg.2.2 (fun y hy => hF y (by simp [Tr.flat, hy]))
  have ztx : (bs (txtT k a)).size ≤ 40000 := by rw [bs_size]; omega
  have ztb : (bs (txtT k b')).size ≤ 40000 := by rw [bs_size]; omega
  generalize txtT k (.two x a b') = R at *
  generalize txtT k a = ta at *
  generalize txtT k b' = tb at *
  have hSn := Six.new w x
  have hu : Below w.heap.size w (w.alloc (.cells #[.int .i64 x.op, .int .i64 x.pf, .int .i64 x.atom, .int .i64 x.n, .int .i64 x.num, .string (bs x.text)] 47)) := by go_grown
  obtain ⟨c0, c1, c2, c3, c4, c5⟩ := hS
  have hnb := hNo x.text
  have hnl2 := hnol x.text
  generalize noteB k x.text = nb at *
  generalize stZ ((k : Int) + 1) = y at *
  obtain ⟨yf, ym, yd, yp, yo, yc⟩ := y
  simp only [St.v] at hO
  dsimp only at hnb
  have hxt := hA.text
  have zt : (bs x.text).size ≤ 10 := by rw [bs_size]; exact hxt
  have HN := Lib.hid hnb
  clear hNo hnol hV hn hnb
  go_enter Tryz.func37, Tryz.ntmps37
  go_wp2_with fail
  generalize w.alloc (.cells #[.int .i64 x.op, .int .i64 x.pf, .int .i64 x.atom, .int .i64 x.n, .int .i64 x.num, .string (bs x.text)] 47) = W1 at *
  refine (hO _).mono ?_
  rintro e w2 ⟨rfl, hb2⟩
  have hu2 := alloc_own w2 (.cells #[.bool yf, .int .u8 ym, .int .u8 yd, .int .u8 yp, .int .u8 yo, .int .u8 yc] 43)
  have hSx := (hSn.go hb2).go hu2
  have hYx : SBox (w2.alloc (.cells #[.bool yf, .int .u8 ym, .int .u8 yd, .int .u8 yp, .int .u8 yo, .int .u8 yc] 43)) w2.heap.size ym yd yo yc := ⟨by simp [go_sem], by simp [go_sem], by simp [go_sem], by simp [go_sem]⟩
  have hbx := (hu.trans (hb2.mono hu.size)).trans (hu2.mono (hu.trans (hb2.mono hu.size)).size)
  have hA : TxJ w _ w.heap.size w2.heap.size x ym yd yo yc := ⟨hSx, hYx, hbx⟩
  clear hu hb2 hu2 hO hSn c0 c1 c2 c3 c4 c5 hSx hYx hbx
  go_upto_region 3 with fail
  generalize w2.alloc (.cells #[.bool yf, .int .u8 ym, .int .u8 yd, .int .u8 yp, .int .u8 yo, .int .u8 yc] 43) = W3 at *
  generalize w2.heap.size = yb at *
  generalize w.heap.size = xb at *
  have zo : (bs [byteZ yo]).size = 1 := rfl
  have zc : (bs [byteZ yc]).size = 1 := rfl
  have q1 : ¬ 9223372036854775807 < (bs [byteZ yo]).size + (bs x.text).size := by omega
  have q2 : ¬ 9223372036854775807 < (bs [byteZ yo] ++ bs x.text).size + (bs [byteZ yc]).size := by rw [ByteArray.size_append]; omega
  have q3 : ¬ 9223372036854775807 < (bs [byteZ yo]).size + (bs x.text).size + (bs [byteZ yc]).size := by omega
  clear zo zc z3
  go_region_held3 (fun v => v.cell? ⟨yb, 4, none⟩ = some (.int .u8 yo) ∧ v.cell? ⟨yb, 5, none⟩ = some (.int .u8 yc) ∧ v.cell? ⟨xb, 5, none⟩ = some (.string (bs x.text)))
    (first | with_reducible exact hA.cells | with_reducible exact hA.drew.cells)
    (first
      | (go_at_call 58; refine (hB _ _).mono ?_; rintro e u ⟨rfl, hb⟩; (first | (replace hA := hA.go hb) | (replace hA := hA.drew.go hb)); clear hb))
  clear q1 q2 q3
  rw [HN.out]
  have c0 := hA.six.c0
  have c1 := hA.six.c1
  have c2 := hA.six.c2
  have c3 := hA.six.c3
  have c4 := hA.six.c4
  have c5 := hA.six.c5
  clear c1 c2 c3 c4 c5
  have t1 : (x.op == 1) = false := by rw [beq_eq_false_iff_ne]; omega
  have t2 : (x.op == 2) = false := by rw [beq_eq_false_iff_ne]; omega
  have t7 : (x.op == 7) = false := by rw [beq_eq_false_iff_ne]; omega
  have hV4 := hV0.go hA.below
  clear hV0 hD hF hg hl htl htlb
  go_wp2_with fail
  refine (hPt _ _ hV4).mono ?_
  rintro e w4 ⟨⟨s1, s2, rfl, h1, h2⟩, hb4⟩
  have hu4 := alloc_own w4 (.cells #[s1, s2] 114)
  obtain ⟨o1, c1, rfl, _⟩ := h1.slice
  obtain ⟨o2, c2, rfl, _⟩ := h2.slice
  replace h1 : View w4 (.slice o1 a.flat.length c1) a.flat := h1
  replace h2 : View w4 (.slice o2 b'.flat.length c2) b'.flat := h2
  replace hA := (hA.go hb4).go hu4
  have hI : NeI w (w4.alloc (.cells #[.slice o1 a.flat.length c1, .slice o2 b'.flat.length c2] 114)) w4.heap.size (.slice o1 a.flat.length c1) (.slice o2 b'.flat.length c2) a.flat b'.flat := ⟨h1.go hu4, h2.go hu4, by simp [go_sem], by simp [go_sem], hA.below⟩
  have p1 := hI.p1
  clear h1 h2 hb4 hu4 hPt hV4 c0
  go_wp2_with fail
  change Calls _ _ _ (w4.alloc (.cells #[.slice o1 a.flat.length c1, .slice o2 b'.flat.length c2] 114)) _
  generalize w4.alloc (.cells #[.slice o1 a.flat.length c1, .slice o2 b'.flat.length c2] 114) = W5 at *
  generalize w4.heap.size = pb at *
  refine (ihb _ _ hI.v2).mono ?_
  rintro e W6 ⟨rfl, hb6⟩
  replace hA := hA.go hb6
  replace hI := hI.go hb6
  clear p1 hb6 ihb
  have p1 := hI.p1
  have c0 := hA.six.c0
  go_wp2_with fail
  refine (hIn _ _ hI.v2).mono ?_
  rintro e W7 ⟨rfl, hb7⟩
  replace hA := hA.go hb7
  replace hI := hI.go hb7
  clear hb7 hIn p1 c0
  have c0 := hA.six.c0
  have eW : (⟨#[40]⟩ : ByteArray) ++ bs tb ++ ⟨#[41]⟩ = bs (wrapB true tb) := by
    show bs [40] ++ bs tb ++ bs [41] = _
    rw [bs_app, bs_app]; rfl
  have z5 : (bs (wrapB true tb)).size ≤ 40002 := by
    have := wrap_ln true tb
    rw [bs_size] at ztb ⊢
    omega
  have hwf : wrapB false tb = tb := rfl
  have q4 : ¬ 9223372036854775807 < (⟨#[40]⟩ : ByteArray).size + (bs tb).size := by
    show ¬ 9223372036854775807 < 1 + (bs tb).size
    omega
  have q5 : ¬ 9223372036854775807 < (⟨#[40]⟩ ++ bs tb : ByteArray).size + (⟨#[41]⟩ : ByteArray).size := by
    rw [ByteArray.size_append]
    show ¬ 9223372036854775807 < 1 + (bs tb).size + 1
    omega
  have hC : TxB w _ xb yb pb x ym yd yo yc (.slice o1 a.flat.length c1) (.slice o2 b'.flat.length c2) a.flat b'.flat := ⟨hA, hI⟩
  clear hA hI
  rcases hop with h | h
  · rw [h] at c0
    rw [if_pos h] at hT3
    cases hbk : brkZ x.op b'.top.op with
    | false =>
      rw [hbk, hwf] at hT3
      clear hbk
      have q6 : ¬ 9223372036854775807 < (bs ta).size + (bs [byteZ ym]).size := by
        show ¬ 9223372036854775807 < (bs ta).size + 1
        omega
      have q7 : ¬ 9223372036854775807 < (bs ta).size + (bs [byteZ ym]).size + (bs tb).size := by
        show ¬ 9223372036854775807 < (bs ta).size + 1 + (bs tb).size
        omega
      go_wp2_with fail
      clear c0 q4 q5 eW
      go_region_held3 (fun v => v.cell? ⟨pb, 0, none⟩ = some (.slice o1 a.flat.length c1) ∧ v.cell? ⟨yb, 1, none⟩ = some (.int .u8 ym))
        (first | with_reducible exact hC.cm | with_reducible exact hC.drew.cm)
        (first
          | (go_at_call 37; (first | refine (iha _ _ hC.i.v1).mono ?_ | refine (iha _ _ hC.drew.i.v1).mono ?_); rintro e u' ⟨rfl, hb⟩; (first | (replace hC := hC.go hb) | (replace hC := hC.drew.go hb)); clear hb)
          | (go_at_call 58; refine (hB _ _).mono ?_; rintro e u' ⟨rfl, hb⟩; (first | (replace hC := hC.go hb) | (replace hC := hC.drew.go hb)); clear hb))
      all_goals
        have e : bs ta ++ bs [byteZ ym] ++ bs tb = bs R := by rw [hT3.out, bs_app, bs_app, List.append_assoc]; rfl
        have hB8 := hC.j.below
        go_wp2_with fail
        go_ret
        exact ⟨by rw [← e]; rfl, by first | exact hB8 | exact hB8.drew⟩
    | true =>
      rw [hbk] at hT3
      clear hbk
      have q6 : ¬ 9223372036854775807 < (bs ta).size + (bs [byteZ ym]).size := by
        show ¬ 9223372036854775807 < (bs ta).size + 1
        omega
      have q7 : ¬ 9223372036854775807 < (bs ta).size + (bs [byteZ ym]).size + (bs (wrapB true tb)).size := by
        show ¬ 9223372036854775807 < (bs ta).size + 1 + (bs (wrapB true tb)).size
        omega
      go_wp2_with fail
      clear c0 q4 q5 eW
      go_region_held3 (fun v => v.cell? ⟨pb, 0, none⟩ = some (.slice o1 a.flat.length c1) ∧ v.cell? ⟨yb, 1, none⟩ = some (.int .u8 ym))
        (first | with_reducible exact hC.cm | with_reducible exact hC.drew.cm)
        (first
          | (go_at_call 37; (first | refine (iha _ _ hC.i.v1).mono ?_ | refine (iha _ _ hC.drew.i.v1).mono ?_); rintro e u' ⟨rfl, hb⟩; (first | (replace hC := hC.go hb) | (replace hC := hC.drew.go hb)); clear hb)
          | (go_at_call 58; refine (hB _ _).mono ?_; rintro e u' ⟨rfl, hb⟩; (first | (replace hC := hC.go hb) | (replace hC := hC.drew.go hb)); clear hb))
      all_goals
        have e : bs ta ++ bs [byteZ ym] ++ bs (wrapB true tb) = bs R := by rw [hT3.out, bs_app, bs_app, List.append_assoc]; rfl
        have hB8 := hC.j.below
        go_wp2_with fail
        go_ret
        exact ⟨by rw [← e]; rfl, by first | exact hB8 | exact hB8.drew⟩
  · rw [h] at c0
    rw [if_neg (by omega)] at hT3
    cases hbk : brkZ x.op b'.top.op with
    | false =>
      rw [hbk, hwf] at hT3
      clear hbk
      have q6 : ¬ 9223372036854775807 < (bs ta).size + (bs [byteZ yd]).size := by
        show ¬ 9223372036854775807 < (bs ta).size + 1
        omega
      have q7 : ¬ 9223372036854775807 < (bs ta).size + (bs [byteZ yd]).size + (bs tb).size := by
        show ¬ 9223372036854775807 < (bs ta).size + 1 + (bs tb).size
        omega
      go_wp2_with fail
      clear c0 q4 q5 eW
      go_region_held3 (fun v => v.cell? ⟨pb, 0, none⟩ = some (.slice o1 a.flat.length c1) ∧ v.cell? ⟨yb, 2, none⟩ = some (.int .u8 yd))
        (first | with_reducible exact hC.cd | with_reducible exact hC.drew.cd)
        (first
          | (go_at_call 37; (first | refine (iha _ _ hC.i.v1).mono ?_ | refine (iha _ _ hC.drew.i.v1).mono ?_); rintro e u' ⟨rfl, hb⟩; (first | (replace hC := hC.go hb) | (replace hC := hC.drew.go hb)); clear hb)
          | (go_at_call 58; refine (hB _ _).mono ?_; rintro e u' ⟨rfl, hb⟩; (first | (replace hC := hC.go hb) | (replace hC := hC.drew.go hb)); clear hb))
      all_goals
        have e : bs ta ++ bs [byteZ yd] ++ bs tb = bs R := by rw [hT3.out, bs_app, bs_app, List.append_assoc]; rfl
        have hB8 := hC.j.below
        go_wp2_with fail
        go_ret
        exact ⟨by rw [← e]; rfl, by first | exact hB8 | exact hB8.drew⟩
    | true =>
      rw [hbk] at hT3
      clear hbk
      have q6 : ¬ 9223372036854775807 < (bs ta).size + (bs [byteZ yd]).size := by
        show ¬ 9223372036854775807 < (bs ta).size + 1
        omega
      have q7 : ¬ 9223372036854775807 < (bs ta).size + (bs [byteZ yd]).size + (bs (wrapB true tb)).size := by
        show ¬ 9223372036854775807 < (bs ta).size + 1 + (bs (wrapB true tb)).size
        omega
      go_wp2_with fail
      clear c0 q4 q5 eW
      go_region_held3 (fun v => v.cell? ⟨pb, 0, none⟩ = some (.slice o1 a.flat.length c1) ∧ v.cell? ⟨yb, 2, none⟩ = some (.int .u8 yd))
        (first | with_reducible exact hC.cd | with_reducible exact hC.drew.cd)
        (first
          | (go_at_call 37; (first | refine (iha _ _ hC.i.v1).mono ?_ | refine (iha _ _ hC.drew.i.v1).mono ?_); rintro e u' ⟨rfl, hb⟩; (first | (replace hC := hC.go hb) | (replace hC := hC.drew.go hb)); clear hb)
          | (go_at_call 58; refine (hB _ _).mono ?_; rintro e u' ⟨rfl, hb⟩; (first | (replace hC := hC.go hb) | (replace hC := hC.drew.go hb)); clear hb))
      all_goals
        have e : bs ta ++ bs [byteZ yd] ++ bs (wrapB true tb) = bs R := by rw [hT3.out, bs_app, bs_app, List.append_assoc]; rfl
        have hB8 := hC.j.below
        go_wp2_with fail
        go_ret
        exact ⟨by rw [← e]; rfl, by first | exact hB8 | exact hB8.drew⟩

end Go.Proofs.YthofogokpolhdaaGreatDoor.Parses

