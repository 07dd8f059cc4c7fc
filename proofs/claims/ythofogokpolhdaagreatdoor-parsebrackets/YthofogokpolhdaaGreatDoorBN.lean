/-
  Brackets around a tree's text, any number of them: how deep they stand, and what is read. No program in this text but the table.
-/
import Derived.Test.YthofogokpolhdaaGreatDoorQW
import Derived.Test.YthofogokpolhdaaGreatDoorRN
namespace Go.Proofs.YthofogokpolhdaaGreatDoor.Parses
open Go.Proofs.YthofogokpolhdaaGreatDoor.Trees (Stp Tr brkZ inZ takesZ)
open Go.Proofs.YthofogokpolhdaaGreatDoor.Toks
open Go.Proofs.YthofogokpolhdaaGreatDoor.Style (stZ plainL)
set_option linter.unusedVariables false
set_option linter.unusedSimpArgs false

/-! ### How deep brackets stand -/

def kindsP (l : List Pc) : List Int := l.map Pc.kind
def foldD (l : List Int) (p : Int × Int) : Int × Int := l.foldl deepS p
theorem foldD_app (a b : List Int) (p : Int × Int) : foldD (a ++ b) p = foldD b (foldD a p) := List.foldl_append
theorem foldD_plain {l : List Int} (h : ∀ x ∈ l, turnZ x = 0) {d m : Int} (hd : d ≤ m) : foldD l (d, m) = (d, m) := by
  induction l with
  | nil => rfl
  | cons x l ih =>
    show foldD l (deepS (d, m) x) = _
    have e : deepS (d, m) x = (d, m) := by
      unfold deepS
      dsimp only
      rw [h x (by simp), Int.add_zero, Int.max_eq_left hd]
    rw [e]
    exact ih fun y hy => h y (by simp [hy])
theorem foldD_wrap {l : List Pc} {q : Nat} (h : ∀ d m : Int, d ≤ m → foldD (kindsP l) (d, m) = (d, max m (d + q))) (b : Bool) {d m : Int} (hd : d ≤ m) : foldD (kindsP (wrapP b l)) (d, m) = (d, max m (d + ((q + if b = true then 1 else 0 : Nat) : Int))) := by
  cases b with
  | false => exact h d m hd
  | true =>
    unfold wrapP kindsP
    rw [if_pos rfl, if_pos rfl, List.map_cons, List.map_append]
    show foldD (kindsP l ++ [8]) (deepS (d, m) 7) = _
    have e7 : deepS (d, m) 7 = (d + 1, max m (d + 1)) := rfl
    rw [e7, foldD_app, h _ _ (by omega)]
    show deepS _ 8 = _
    have e8 : ∀ p : Int × Int, deepS p 8 = (p.1 + -1, max p.2 (p.1 + -1)) := fun p => rfl
    rw [e8]
    dsimp only
    refine Prod.ext (by dsimp only; omega) ?_
    dsimp only
    omega
theorem kinds_pow (k : Nat) (n : Int) : ∀ x ∈ kindsP (powP k n), turnZ x = 0 := by
  intro x hx
  unfold powP kindsP at hx
  split at hx
  · cases hx
  · rw [List.map_append, List.map_append] at hx
    rcases List.mem_append.1 hx with hx | hx
    · split at hx
      · rw [List.map_cons, List.map_nil, List.mem_singleton] at hx
        rw [hx]; rfl
      · cases hx
    · rcases List.mem_append.1 hx with hx | hx
      · split at hx
        · rw [List.map_cons, List.map_nil, List.mem_singleton] at hx
          rw [hx]; rfl
        · cases hx
      · rw [List.map_cons, List.map_nil, List.mem_singleton] at hx
        rw [hx]; rfl
theorem deep_tree (k : Nat) : ∀ (T : Tr) (d m : Int), d ≤ m → foldD (kindsP (pcsT k T)) (d, m) = (d, max m (d + (T.nest : Int)))
  | .leaf x, d, m, hd => by
    show _ = (d, max m (d + 0))
    rw [Int.add_zero, Int.max_eq_left hd]
    refine foldD_plain (fun y hy => ?_) hd
    unfold pcsT at hy
    split at hy
    · rw [kindsP, List.map_cons, List.map_nil, List.mem_singleton] at hy
      rw [hy]; rfl
    · split at hy
      · rw [kindsP, List.map_cons] at hy
        rcases List.mem_cons.1 hy with hy | hy
        · rw [hy]; rfl
        · exact kinds_pow k x.n y hy
      · rw [kindsP, List.map_cons, List.map_nil, List.mem_singleton] at hy
        rw [hy]; rfl
  | .one x a, d, m, hd => by
    have ih := foldD_wrap (deep_tree k a) (brkZ x.op a.top.op) hd
    have en : ((a.nest + if brkZ x.op a.top.op = true then 1 else 0 : Nat) : Int) = ((Tr.one x a).nest : Int) := rfl
    unfold pcsT
    split
    · unfold kindsP at ih ⊢
      rw [List.map_append]
      show foldD (_ ++ [9]) _ = _
      rw [foldD_app, ih, en]
      show foldD [9] _ = _
      exact foldD_plain (fun y hy => by rw [List.mem_singleton] at hy; rw [hy]; rfl) (by omega)
    · unfold kindsP at ih ⊢
      rw [List.map_cons]
      show foldD _ (deepS (d, m) 5) = _
      have e5 : deepS (d, m) 5 = (d, m) := foldD_plain (l := [5]) (fun y hy => by rw [List.mem_singleton] at hy; rw [hy]; rfl) hd
      rw [e5, ih, en]
  | .two x a b, d, m, hd => by
    have iha := deep_tree k a d m hd
    have ihb := fun m' hm' => foldD_wrap (deep_tree k b) (brkZ x.op b.top.op) (d := d) (m := m') hm'
    have en : ((b.nest + if brkZ x.op b.top.op = true then 1 else 0 : Nat) : Int) = ((b.nest + inZ x.op b.top.op : Nat) : Int) := rfl
    have eT : ((Tr.two x a b).nest : Int) = max (a.nest : Int) ((b.nest + inZ x.op b.top.op : Nat) : Int) := by
      show ((max a.nest (b.nest + inZ x.op b.top.op) : Nat) : Int) = _
      omega
    unfold pcsT
    unfold kindsP at iha ihb ⊢
    rw [List.map_append, foldD_app, iha, List.map_cons]
    show foldD _ (deepS _ _) = _
    obtain ⟨o, ho, ht⟩ : ∃ o, (if x.op = 3 then onePc 4 (byteZ (stZ ((k : Int) + 1)).mul) else onePc 5 (byteZ (stZ ((k : Int) + 1)).div)).kind = o ∧ turnZ o = 0 := by
      split
      · exact ⟨4, rfl, rfl⟩
      · exact ⟨5, rfl, rfl⟩
    rw [ho]
    have e5 : deepS (d, max m (d + (a.nest : Int))) o = (d, max m (d + (a.nest : Int))) := foldD_plain (l := [o]) (fun y hy => by rw [List.mem_singleton] at hy; rw [hy]; exact ht) (by omega)
    rw [e5, ihb _ (by omega), en, eT]
    refine Prod.ext rfl ?_
    dsimp only
    omega
theorem placed_kinds (n : Int) : ∀ (ps : List Pc) (p : Nat), kindsL ((placed n p ps).map Prod.fst) = kindsP ps
  | [], _ => rfl
  | x :: r, p => by
    show x.kind :: kindsL ((placed n (p + (rawP n x).length) r).map Prod.fst) = x.kind :: kindsP r
    rw [placed_kinds n r]
theorem toks_raws {n : Int} {ps : List Pc} (h : ∀ x ∈ ps, PcOk n x) (hs : Sep ps) : toks n (raws n ps) = (placed n 0 ps).map Prod.fst := by
  have hl := lex_pieces ps 0 [] h hs (fun _ _ c J' e => by cases e)
  rw [List.append_nil, lexL_none (r := []) rfl, List.append_nil] at hl
  unfold toks
  rw [hl]
theorem nests_txt {k : Nat} {T : Tr} (h : Fits k T) : nestZ ((k : Int) + 1) (txtT k T) = (T.nest : Int) := by
  unfold nestZ txtT
  rw [toks_raws h.oks (pcs_sep k T), placed_kinds]
  show (foldD (kindsP (pcsT k T)) (0, 0)).2 = _
  rw [deep_tree k T 0 0 (Int.le_refl 0)]
  dsimp only
  omega

/-! ### Too deep -/

/-- Going over tokens the reading comes to a bracket that is too deep. -/
def Deeps (pow : Bool) (L : List Tok) (i m : Nat) (s : Rd) : Prop := ∃ m1 s1, m1 < m ∧ Goes pow L i m1 s s1 ∧ firstG pow L (i + m1) s1 (rowOf s1.may) = .deep
theorem Deeps.behind {pow : Bool} {L : List Tok} {i q m : Nat} {s s' : Rd} (g : Goes pow L i q s s') (h : Deeps pow L (i + q) m s') : Deeps pow L i (q + m) s := by
  obtain ⟨m1, s1, hl, g1, e⟩ := h
  exact ⟨q + m1, s1, by omega, g.trans g1, by rw [← Nat.add_assoc]; exact e⟩
theorem Deeps.mono {pow : Bool} {L : List Tok} {i m m' : Nat} {s : Rd} (h : Deeps pow L i m s) (hm : m ≤ m') : Deeps pow L i m' s := by
  obtain ⟨m1, s1, hl, g1, e⟩ := h
  exact ⟨m1, s1, by omega, g1, e⟩
theorem Deeps.now {pow : Bool} {L : List Tok} {i m : Nat} {s : Rd} (h : firstG pow L i s (rowOf s.may) = .deep) (hm : 0 < m) : Deeps pow L i m s := ⟨0, s, hm, Goes.zero _ _ _ _, h⟩
theorem Deeps.bad {pow : Bool} {L : List Tok} {i m M : Nat} {s : Rd} (h : Deeps pow L i m s) (hm : m ≤ M) : ∃ j, readG pow L i M s = .bad 13 j := by
  obtain ⟨m1, s1, hl, g1, e⟩ := h
  have g := g1 (M - m1)
  rw [show m1 + (M - m1) = M by omega] at g
  refine ⟨i + m1, ?_⟩
  rw [g, show M - m1 = (M - m1 - 1) + 1 by omega]
  unfold readG
  rw [e]
def DeepI (k : Nat) (L : List Tok) (T : Tr) : Prop := ∀ i s, s.may ≤ 1 → 1 ≤ s.waits.length → s.waits.length ≤ 33 → 33 < s.waits.length + T.nest → Has L i (pcsT k T) → (T.top.op = 1 ∨ T.top.op = 2 ∨ T.top.op = 6 ∨ T.top.op = 7) → Deeps (powN k) L i (pcsT k T).length s
def DeepM (k : Nat) (L : List Tok) (T : Tr) : Prop := ∀ i s W, s.may = 0 → s.waits = W ++ [0] → s.waits.length ≤ 33 → 33 < s.waits.length + T.nest → Has L i (pcsT k T) → Deeps (powN k) L i (pcsT k T).length s

theorem deep_wrap {k : Nat} {L : List Tok} {T : Tr} (hI : DeepI k L T) (hM : DeepM k L T) (b : Bool) (hb : b = true ∨ (T.top.op = 1 ∨ T.top.op = 2 ∨ T.top.op = 6 ∨ T.top.op = 7)) {i : Nat} {s : Rd} (hm : s.may ≤ 1) (hw : 1 ≤ s.waits.length) (hw2 : s.waits.length ≤ 33)
    (hn : 33 < s.waits.length + (T.nest + if b = true then 1 else 0)) (h : Has L i (wrapP b (pcsT k T))) : Deeps (powN k) L i (wrapP b (pcsT k T)).length s := by
  cases b with
  | false =>
    exact hI i s hm hw hw2 hn h (by rcases hb with h | h; cases h; exact h)
  | true =>
    unfold wrapP at h ⊢
    rw [if_pos rfl] at h ⊢
    rw [if_pos rfl] at hn
    obtain ⟨⟨a1, a2, _, _⟩, h'⟩ := h
    obtain ⟨h1, _⟩ := h'.app
    have el : (onePc 7 40 :: (pcsT k T ++ [onePc 8 41])).length = 1 + ((pcsT k T).length + 1) := by
      simp only [List.length_cons, List.length_append, List.length_nil]; omega
    rw [el]
    by_cases h33 : s.waits.length = 33
    · exact Deeps.now (no_left (pow := powN k) hm a1 a2 h33) (by omega)
    · have g1 := Goes.one (pow := powN k) (go_left (pow := powN k) hm a1 a2 h33)
      have hl : (openS s).waits.length = s.waits.length + 1 := by show (s.waits ++ [0]).length = _; rw [List.length_append, List.length_singleton]
      exact (Deeps.behind g1 (hM (i + 1) (openS s) s.waits rfl rfl (by omega) (by omega) h1)).mono (by omega)

theorem deep_read {k : Nat} {L : List Tok} {ok : Int → Int → Bool} : ∀ T : Tr, T.good ok → (∀ x ∈ T.flat, FitS k x) → DeepI k L T ∧ DeepM k L T
  | .leaf x, hg, hf => by
    refine ⟨fun i s hm hw hw2 hn hH ho => ?_, fun i s W hm hw hw2 hn hH => ?_⟩
    · have : s.waits.length + 0 ≤ 33 := hw2
      exact absurd hn (by show ¬ 33 < s.waits.length + 0; omega)
    · exact absurd hn (by show ¬ 33 < s.waits.length + 0; omega)
  | .one x a, hg, hf => by
    have hx := hf x (by simp [Tr.flat])
    obtain ⟨aI, aM⟩ := deep_read a hg.2 (fun y hy => hf y (by simp [Tr.flat, hy]))
    have hat := (hf a.top (by simp [Tr.flat, top_mem])).op
    have hop : x.op = 5 ∨ x.op = 6 := by
      have := hg.1.2
      have ho := hx.op
      unfold takesZ at this
      split at this
      · cases this
      · split at this
        · omega
        · cases this
    by_cases h6 : x.op = 6
    · have e : pcsT k (.one x a) = wrapP (brkZ x.op a.top.op) (pcsT k a) ++ [⟨9, x.text, 0⟩] := by show (if x.op = 6 then _ else _) = _; rw [if_pos h6]
      have hI : DeepI k L (.one x a) := by
        intro i s hm hw hw2 hn hH ho
        rw [e] at hH ⊢
        obtain ⟨hH1, _⟩ := hH.app
        exact (deep_wrap aI aM (brkZ x.op a.top.op) (brk_item (by omega) hat) hm hw hw2 (by rw [← in_if]; exact hn) hH1).mono (by rw [List.length_append]; omega)
      exact ⟨hI, fun i s W hm hw hw2 hn hH => hI i s (by omega) (by rw [hw, List.length_append, List.length_singleton]; omega) hw2 hn hH (by show x.op = 1 ∨ x.op = 2 ∨ x.op = 6 ∨ x.op = 7; omega)⟩
    · have h5 : x.op = 5 := by omega
      have e : pcsT k (.one x a) = onePc 5 (byteZ (stZ ((k : Int) + 1)).div) :: wrapP (brkZ x.op a.top.op) (pcsT k a) := by show (if x.op = 6 then _ else _) = _; rw [if_neg h6]
      refine ⟨fun i s hm hw hw2 hn hH ho => ?_, fun i s W hm hw hw2 hn hH => ?_⟩
      · exfalso
        have ho' : x.op = 1 ∨ x.op = 2 ∨ x.op = 6 ∨ x.op = 7 := ho
        omega
      · rw [e] at hH ⊢
        obtain ⟨⟨a1, a2, a3, a4⟩, hH1⟩ := hH
        have g1 := Goes.one (pow := powN k) (go_inv (pow := powN k) hm a1 a2)
        have hww : (waitS s 5).waits = W ++ [5] := by show s.waits.dropLast ++ [5] = _; rw [hw, List.dropLast_concat]
        rw [hw, List.length_append, List.length_singleton] at hn hw2
        have hd := deep_wrap aI aM (brkZ x.op a.top.op) (brk_item (by omega) hat) (s := waitS s 5) (i := i + 1) (by show (1 : Nat) ≤ 1; omega) (by rw [hww, List.length_append, List.length_singleton]; omega) (by rw [hww, List.length_append, List.length_singleton]; omega)
          (by rw [← in_if, hww, List.length_append, List.length_singleton]; exact hn) hH1
        exact (Deeps.behind g1 hd).mono (by rw [List.length_cons]; omega)
  | .two x a b, hg, hf => by
    have hx := hf x (by simp [Tr.flat])
    obtain ⟨aI, aM⟩ := deep_read a hg.2.1 (fun y hy => hf y (by simp [Tr.flat, hy]))
    obtain ⟨bI, bM⟩ := deep_read b hg.2.2 (fun y hy => hf y (by simp [Tr.flat, hy]))
    have aR := (reads_tree (k := k) (L := L) a hg.2.1 (fun y hy => hf y (by simp [Tr.flat, hy]))).2
    have hbt := (hf b.top (by simp [Tr.flat, top_mem])).op
    have hop : x.op = 3 ∨ x.op = 4 := by
      have := hg.1.2
      unfold takesZ at this
      split at this
      · assumption
      · split at this <;> cases this
    refine ⟨fun i s hm hw hw2 hn hH ho => ?_, fun i s W hm hw hw2 hn hH => ?_⟩
    · exfalso
      have ho' : x.op = 1 ∨ x.op = 2 ∨ x.op = 6 ∨ x.op = 7 := ho
      omega
    · have hn' : 33 < s.waits.length + max a.nest (b.nest + inZ x.op b.top.op) := hn
      obtain ⟨hH1, ⟨c1, c2, _, _⟩, hH2⟩ := Has.app (show Has L i (pcsT k a ++ (if x.op = 3 then onePc 4 (byteZ (stZ ((k : Int) + 1)).mul) else onePc 5 (byteZ (stZ ((k : Int) + 1)).div)) :: wrapP (brkZ x.op b.top.op) (pcsT k b)) from hH)
      have el : (pcsT k (.two x a b)).length = (pcsT k a).length + (1 + (wrapP (brkZ x.op b.top.op) (pcsT k b)).length) := by
        show (pcsT k a ++ _ :: wrapP (brkZ x.op b.top.op) (pcsT k b)).length = _
        rw [List.length_append, List.length_cons]; omega
      rw [el]
      by_cases ha : 33 < s.waits.length + a.nest
      · exact (aM i s W hm hw hw2 ha hH1).mono (by omega)
      · obtain ⟨s1, A, w, g1, w1, t1, n1, b1⟩ := aR i s W hm hw (by omega) hH1
        have ck : (L.getD (i + (pcsT k a).length) default).kind = x.op + 1 := by
          rw [c2]
          rcases hop with h | h
          · rw [if_pos h, h]; rfl
          · rw [if_neg (by omega), h]; rfl
        have g2 := Goes.one (pow := powN k) (go_oper (pow := powN k) b1 c1 hop ck)
        obtain ⟨e1, e2⟩ := close_of w1
        have hww : (waitS (closeS s1) x.op).waits = W ++ [x.op] := by show (closeS s1).waits.dropLast ++ [x.op] = _; rw [e2, w1, List.dropLast_concat]
        rw [hw, List.length_append, List.length_singleton] at hn' hw2 ha
        have hd := deep_wrap bI bM (brkZ x.op b.top.op) (brk_item (by omega) hbt) (s := waitS (closeS s1) x.op) (i := i + (pcsT k a).length + 1) (by show (1 : Nat) ≤ 1; omega) (by rw [hww, List.length_append, List.length_singleton]; omega) (by rw [hww, List.length_append, List.length_singleton]; omega)
          (by rw [← in_if, hww, List.length_append, List.length_singleton]; omega) hH2
        exact Deeps.behind g1 (Deeps.behind g2 hd)

/-! ### Many brackets -/

def wraps (l : List Pc) : Nat → List Pc
  | 0 => l
  | j + 1 => wrapP true (wraps l j)
theorem wraps_len (l : List Pc) : ∀ j, (wraps l j).length = l.length + 2 * j
  | 0 => rfl
  | j + 1 => by show (wrapP true (wraps l j)).length = _; rw [wrap_len, if_pos rfl, wraps_len l j]; omega
theorem raws_wraps (n : Int) (l : List Pc) : ∀ j, raws n (wraps l j) = List.replicate j 40 ++ raws n l ++ List.replicate j 41
  | 0 => by show raws n l = _; simp
  | j + 1 => by
    show raws n (wrapP true (wraps l j)) = _
    rw [raws_brk, raws_wraps n l j, List.replicate_succ, List.replicate_succ', List.cons_append, List.cons_append]
    simp only [List.append_assoc]
theorem ok_wraps {k : Nat} {T : Tr} (h : Fits k T) : ∀ j, (∀ x ∈ wraps (pcsT k T) j, PcOk ((k : Int) + 1) x) ∧ Sep (wraps (pcsT k T) j)
  | 0 => ⟨h.oks, pcs_sep k T⟩
  | j + 1 => ⟨ok_wrap h.k5 true (ok_wraps h j).1, sep_wrap true (ok_wraps h j).2⟩
/-- Gone over so many brackets around a tree's text. -/
theorem gone_wraps {k : Nat} {T : Tr} (h : Fits k T) {L : List Tok} : ∀ (j i : Nat) (s : Rd), s.may ≤ 1 → 1 ≤ s.waits.length → s.waits.length + (T.nest + (j + 1)) ≤ 33 → Has L i (wraps (pcsT k T) (j + 1)) →
    ∃ s' A, Goes (powN k) L i (wraps (pcsT k T) (j + 1)).length s s' ∧ s'.waits = s.waits ∧ s'.tree = s.tree ++ A ∧ Nm k L A T.flat ∧ Behind s'.may
  | 0, i, s, hm, hw, hn, hH => by
    obtain ⟨s', A, g, h1, h2, h3, h4, _⟩ := gone_brk h hm hw hn hH
    exact ⟨s', A, g, h1, h2, h3, h4⟩
  | j + 1, i, s, hm, hw, hn, hH => by
    have hH' : Has L i (onePc 7 40 :: (wraps (pcsT k T) (j + 1) ++ [onePc 8 41])) := hH
    obtain ⟨⟨a1, a2, _, _⟩, h'⟩ := hH'
    obtain ⟨h1, ⟨c1, c2, _, _⟩, _⟩ := h'.app
    have g1 := Goes.one (pow := powN k) (go_left (pow := powN k) hm a1 a2 (by omega))
    have hl : (openS s).waits.length = s.waits.length + 1 := by show (s.waits ++ [0]).length = _; rw [List.length_append, List.length_singleton]
    obtain ⟨s1, A, g2, hw1, ht1, hN, hB⟩ := gone_wraps h j (i + 1) (openS s) (by show (0 : Nat) ≤ 1; omega) (by omega) (by omega) h1
    have hw1' : s1.waits = s.waits ++ [0] := hw1
    have g3 := Goes.one (pow := powN k) (go_right (pow := powN k) hB c1 c2 (by rw [hw1', List.length_append, List.length_singleton]; omega))
    obtain ⟨e1, e2⟩ := close_of hw1'
    refine ⟨mayS { closeS s1 with waits := s1.waits.dropLast } 6, A, ?_, ?_, ?_, hN, .inr (.inr (.inl rfl))⟩
    · have := g1.trans (g2.trans g3)
      have el : (wraps (pcsT k T) (j + 1 + 1)).length = 1 + ((wraps (pcsT k T) (j + 1)).length + 1) := by rw [wraps_len, wraps_len]; omega
      rw [el]; exact this
    · show s1.waits.dropLast = s.waits
      rw [hw1', List.dropLast_concat]
    · show (closeS s1).tree = _
      rw [e1, if_pos rfl, List.append_nil, ht1]; rfl
theorem deep_wraps {k : Nat} {T : Tr} (h : Fits k T) {L : List Tok} : ∀ (j i : Nat) (s : Rd), s.may ≤ 1 → 1 ≤ s.waits.length → s.waits.length ≤ 33 → 33 < s.waits.length + (T.nest + (j + 1)) → Has L i (wraps (pcsT k T) (j + 1)) → Deeps (powN k) L i (wraps (pcsT k T) (j + 1)).length s
  | 0, i, s, hm, hw, hw2, hn, hH => by
    obtain ⟨ok, hg⟩ := h.good
    obtain ⟨dI, dM⟩ := deep_read (k := k) (L := L) T hg h.fit
    exact deep_wrap dI dM true (.inl rfl) hm hw hw2 (by rw [if_pos rfl]; exact hn) hH
  | j + 1, i, s, hm, hw, hw2, hn, hH => by
    have hH' : Has L i (onePc 7 40 :: (wraps (pcsT k T) (j + 1) ++ [onePc 8 41])) := hH
    obtain ⟨⟨a1, a2, _, _⟩, h'⟩ := hH'
    obtain ⟨h1, _⟩ := h'.app
    have el : (wraps (pcsT k T) (j + 1 + 1)).length = 1 + ((wraps (pcsT k T) (j + 1)).length + 1) := by rw [wraps_len, wraps_len]; omega
    rw [el]
    by_cases h33 : s.waits.length = 33
    · exact Deeps.now (no_left (pow := powN k) hm a1 a2 h33) (by omega)
    · have g1 := Goes.one (pow := powN k) (go_left (pow := powN k) hm a1 a2 h33)
      have hl : (openS s).waits.length = s.waits.length + 1 := by show (s.waits ++ [0]).length = _; rw [List.length_append, List.length_singleton]
      exact (Deeps.behind g1 (deep_wraps h j (i + 1) (openS s) (by show (0 : Nat) ≤ 1; omega) (by omega) (by omega) (by omega) h1)).mono (by omega)
/-- P11.1: brackets around a text change nothing. -/
theorem wraps_end {k : Nat} {T : Tr} (h : Fits k T) {m : Nat} (hm : m + T.nest ≤ 32) (size : Int) : treeAll k (pToks ((k : Int) + 1) (List.replicate m 40 ++ txtT k T ++ List.replicate m 41)) size = .ok T.flat := by
  cases m with
  | zero =>
    have e : List.replicate 0 (40 : UInt8) ++ txtT k T ++ List.replicate 0 41 = txtT k T := by simp
    rw [e]; exact back_end h size
  | succ j =>
    have e : List.replicate (j + 1) (40 : UInt8) ++ txtT k T ++ List.replicate (j + 1) 41 = raws ((k : Int) + 1) (wraps (pcsT k T) (j + 1)) := (raws_wraps _ _ _).symm
    obtain ⟨ho, hs⟩ := ok_wraps h (j + 1)
    obtain ⟨_, hH, hl⟩ := toks_pcs ho hs
    rw [e]
    generalize pToks ((k : Int) + 1) (raws ((k : Int) + 1) (wraps (pcsT k T) (j + 1))) = L at *
    obtain ⟨s, A, g, h1, h2, h3, h4⟩ := gone_wraps h (L := L) j 0 startR (by show (0 : Nat) ≤ 1; omega) (by show 1 ≤ 1; omega) (by show 1 + (T.nest + (j + 1)) ≤ 33; omega) hH
    have hw : s.waits = [] ++ [0] := h1
    have ge := Goes.one (go_end (pow := powN k) (L := L) (i := 0 + (wraps (pcsT k T) (j + 1)).length) (s := s) h4 (by omega) (by rw [hw]; simp)) 0
    obtain ⟨e1, _⟩ := close_of hw
    unfold treeAll readAll
    rw [hl, g 1]
    rw [Nat.add_zero] at ge
    rw [ge]
    refine nm_tree ?_
    rw [e1, if_pos rfl, List.append_nil, h2]
    exact h3
/-- P11.1: more than may be are refused. -/
theorem wraps_deep {k : Nat} {T : Tr} (h : Fits k T) {m : Nat} (h31 : T.nest ≤ 31) (hm : 32 < m + T.nest) (size : Int) : ∃ pl, treeAll k (pToks ((k : Int) + 1) (List.replicate m 40 ++ txtT k T ++ List.replicate m 41)) size = .error (13, pl, 0) := by
  cases m with
  | zero => omega
  | succ j =>
    have e : List.replicate (j + 1) (40 : UInt8) ++ txtT k T ++ List.replicate (j + 1) 41 = raws ((k : Int) + 1) (wraps (pcsT k T) (j + 1)) := (raws_wraps _ _ _).symm
    obtain ⟨ho, hs⟩ := ok_wraps h (j + 1)
    obtain ⟨_, hH, hl⟩ := toks_pcs ho hs
    rw [e]
    generalize pToks ((k : Int) + 1) (raws ((k : Int) + 1) (wraps (pcsT k T) (j + 1))) = L at *
    have hd := deep_wraps h (L := L) j 0 startR (by show (0 : Nat) ≤ 1; omega) (by show 1 ≤ 1; omega) (by show 1 ≤ 33; omega) (by show 33 < 1 + (T.nest + (j + 1)); omega) hH
    obtain ⟨p, hp⟩ := hd.bad (M := L.length + 1) (by omega)
    refine ⟨placeG L size p, ?_⟩
    unfold treeAll readAll
    rw [hp]; rfl

end Go.Proofs.YthofogokpolhdaaGreatDoor.Parses
