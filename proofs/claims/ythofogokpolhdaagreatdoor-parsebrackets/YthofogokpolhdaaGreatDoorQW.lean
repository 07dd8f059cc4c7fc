/-
  Texts of trees in brackets, with a note behind, behind an operator: what they are parsed to. No program in this text but the table.
-/
import Derived.Test.YthofogokpolhdaaGreatDoorQAX
namespace Go.Proofs.YthofogokpolhdaaGreatDoor.Parses
open Go.Proofs.YthofogokpolhdaaGreatDoor.Trees (Stp Tr)
open Go.Proofs.YthofogokpolhdaaGreatDoor.Toks
open Go.Proofs.YthofogokpolhdaaGreatDoor.Style (stZ plainL)
set_option linter.unusedVariables false
set_option linter.unusedSimpArgs false

theorem raws_brk (n : Int) (l : List Pc) : raws n (wrapP true l) = 40 :: (raws n l ++ [41]) := by
  show raws n (onePc 7 40 :: (l ++ [onePc 8 41])) = _
  show rawP n (onePc 7 40) ++ raws n (l ++ [onePc 8 41]) = _
  rw [raws_app]; rfl
def notePc (t : List UInt8) : Pc := ⟨9, t, 0⟩
def noteStp (o : Int) (t : List UInt8) : Stp := ⟨o, -1, 0, 0, 0, t⟩
def noteTx (k : Nat) (t : List UInt8) : List UInt8 := byteZ (stZ ((k : Int) + 1)).op :: (t ++ [byteZ (stZ ((k : Int) + 1)).cl])
theorem raws_nt (k : Nat) (t : List UInt8) : raws ((k : Int) + 1) [notePc t] = noteTx k t := by
  show rawP _ _ ++ [] = _
  rw [List.append_nil]; rfl
theorem oks_wrap {k : Nat} {T : Tr} (h : Fits k T) : (∀ x ∈ wrapP true (pcsT k T), PcOk ((k : Int) + 1) x) ∧ Sep (wrapP true (pcsT k T)) := ⟨ok_wrap h.k5 true h.oks, sep_wrap true (pcs_sep k T)⟩
/-- Gone over a tree's text in brackets, as an item. -/
theorem gone_brk {k : Nat} {T : Tr} (h : Fits k T) {L : List Tok} {i : Nat} {s : Rd} (hm : s.may ≤ 1) (hw : 1 ≤ s.waits.length) (hn : s.waits.length + (T.nest + 1) ≤ 33) (hH : Has L i (wrapP true (pcsT k T))) :
    ∃ s' A, Goes (powN k) L i (wrapP true (pcsT k T)).length s s' ∧ s'.waits = s.waits ∧ s'.tree = s.tree ++ A ∧ Nm k L A T.flat ∧ Behind s'.may ∧ s'.may ≠ 7 := by
  obtain ⟨ok, hg⟩ := h.good
  obtain ⟨rI, rM⟩ := reads_tree (L := L) T hg h.fit
  obtain ⟨s', A, g, h1, h2, h3, h4, h5⟩ := reads_wrap rI rM true (.inl rfl) hm hw (by rw [if_pos rfl]; exact hn) hH
  exact ⟨s', A, g, h1, h2, h3, h4, h5 rfl⟩
theorem behind_not7 {m : Nat} (h : Behind m) (h7 : m ≠ 7) : m = 2 ∨ m = 3 ∨ m = 6 := by
  rcases h with h | h | h | h
  · exact .inl h
  · exact .inr (.inl h)
  · exact .inr (.inr h)
  · exact absurd h h7

/-- A note behind brackets. -/
theorem note_end {k : Nat} {T : Tr} (h : Fits k T) (h31 : T.nest ≤ 31) {t : List UInt8} (ht : plainL (stZ ((k : Int) + 1)) t = true) (size : Int) :
    treeAll k (pToks ((k : Int) + 1) (40 :: (txtT k T ++ [41]) ++ noteTx k t)) size = .ok (T.flat ++ [noteStp 6 t]) := by
  have e : 40 :: (txtT k T ++ [41]) ++ noteTx k t = raws ((k : Int) + 1) (wrapP true (pcsT k T) ++ [notePc t]) := by rw [raws_app, raws_brk, raws_nt]; rfl
  obtain ⟨ho, hs⟩ := oks_wrap h
  obtain ⟨_, hH, hl⟩ := toks_pcs (n := (k : Int) + 1) (ps := wrapP true (pcsT k T) ++ [notePc t]) (fun x hx => by
    rcases List.mem_append.1 hx with hx | hx
    · exact ho x hx
    · rw [List.mem_singleton.1 hx]; exact ok_note ht) (sep_app hs trivial (by show (3 : Int) ≤ 9; omega))
  rw [e]
  generalize pToks ((k : Int) + 1) (raws ((k : Int) + 1) (wrapP true (pcsT k T) ++ [notePc t])) = L at *
  obtain ⟨hH1, ⟨a1, a2, a3, _⟩, _⟩ := hH.app
  obtain ⟨s, A, g, h1, h2, h3, h4, h5⟩ := gone_brk h (s := startR) (by show (0 : Nat) ≤ 1; omega) (by show 1 ≤ 1; omega) (by show 1 + (T.nest + 1) ≤ 33; omega) hH1
  have g2 := Goes.one (go_note (pow := powN k) (behind_not7 h4 h5) a1 a2)
  rw [List.length_append, List.length_singleton] at hl
  generalize hq : (wrapP true (pcsT k T)).length = q at *
  have g3 := (g.trans g2) 1
  have hw : (mayS (putS s ⟨6, -1, 0, 0, 0, (L.getD (0 + q) default).text⟩) 7).waits = [] ++ [0] := h1
  have ge := Goes.one (go_end (pow := powN k) (L := L) (i := 0 + (q + 1)) (s := mayS (putS s ⟨6, -1, 0, 0, 0, (L.getD (0 + q) default).text⟩) 7) (.inr (.inr (.inr rfl))) (by omega) (by rw [hw]; simp)) 0
  obtain ⟨e1, _⟩ := close_of hw
  unfold treeAll readAll
  rw [hl, show q + 1 + 1 = (q + 1) + 1 from rfl, g3]
  rw [Nat.add_zero] at ge
  rw [ge]
  refine nm_tree ?_
  rw [e1, if_pos rfl, List.append_nil]
  show Nm k L (s.tree ++ [⟨6, -1, 0, 0, 0, (L.getD (0 + q) default).text⟩]) _
  rw [h2, a3]
  show Nm k L ([] ++ A ++ [noteStp 6 t]) _
  rw [List.nil_append]
  exact h3.app (Nm.plain (by show (6 : Int) ≠ 2; decide))
/-- A second one. -/
theorem note_two {k : Nat} {T : Tr} (h : Fits k T) (h31 : T.nest ≤ 31) {t : List UInt8} (ht : plainL (stZ ((k : Int) + 1)) t = true) (size : Int) :
    treeAll k (pToks ((k : Int) + 1) (40 :: (txtT k T ++ [41]) ++ noteTx k t ++ noteTx k t)) size = .error (14, ((txtT k T).length : Int) + 2 + ((noteTx k t).length : Int), 0) := by
  have e : 40 :: (txtT k T ++ [41]) ++ noteTx k t ++ noteTx k t = raws ((k : Int) + 1) ((wrapP true (pcsT k T) ++ [notePc t]) ++ [notePc t]) := by rw [raws_app, raws_app, raws_brk, raws_nt]; rfl
  obtain ⟨ho, hs⟩ := oks_wrap h
  have hs2 : Sep ((wrapP true (pcsT k T) ++ [notePc t]) ++ [notePc t]) := sep_app (sep_app hs trivial (by show (3 : Int) ≤ 9; omega)) trivial (by show (3 : Int) ≤ 9; omega)
  obtain ⟨hL, hH, hl⟩ := toks_pcs (n := (k : Int) + 1) (ps := (wrapP true (pcsT k T) ++ [notePc t]) ++ [notePc t]) (fun x hx => by
    rcases List.mem_append.1 hx with hx | hx
    · rcases List.mem_append.1 hx with hx | hx
      · exact ho x hx
      · rw [List.mem_singleton.1 hx]; exact ok_note ht
    · rw [List.mem_singleton.1 hx]; exact ok_note ht) hs2
  have hp := at_end (n := (k : Int) + 1) (ps := wrapP true (pcsT k T) ++ [notePc t]) (p := notePc t) (r := []) (q := 0) []
  rw [List.append_nil, ← hL] at hp
  have hlen : (raws ((k : Int) + 1) (wrapP true (pcsT k T) ++ [notePc t])).length = (txtT k T).length + 2 + (noteTx k t).length := by
    rw [raws_app, raws_brk, raws_nt, List.length_append, List.length_cons, List.length_append, List.length_singleton]; rfl
  rw [hlen] at hp
  rw [e]
  generalize pToks ((k : Int) + 1) (raws ((k : Int) + 1) ((wrapP true (pcsT k T) ++ [notePc t]) ++ [notePc t])) = L at *
  obtain ⟨hH1, ⟨b1, b2, _, _⟩, _⟩ := hH.app
  obtain ⟨hH2, ⟨a1, a2, a3, _⟩, _⟩ := hH1.app
  obtain ⟨s, A, g, h1, h2, h3, h4, h5⟩ := gone_brk h (s := startR) (by show (0 : Nat) ≤ 1; omega) (by show 1 ≤ 1; omega) (by show 1 + (T.nest + 1) ≤ 33; omega) hH2
  have g2 := Goes.one (go_note (pow := powN k) (behind_not7 h4 h5) a1 a2)
  have hq2 : (wrapP true (pcsT k T) ++ [notePc t]).length = (wrapP true (pcsT k T)).length + 1 := by rw [List.length_append, List.length_singleton]
  rw [List.length_append, List.length_singleton, hq2] at hl
  rw [hq2] at b1 b2 hp
  generalize hq : (wrapP true (pcsT k T)).length = q at *
  have g3 := (g.trans g2) 2
  have hno := no_note (pow := powN k) (L := L) (i := 0 + (q + 1)) (s := mayS (putS s ⟨6, -1, 0, 0, 0, (L.getD (0 + q) default).text⟩) 7) rfl b1 b2
  unfold treeAll readAll
  rw [hl, show q + 1 + 1 + 1 = (q + 1) + 2 from rfl, g3]
  unfold readG
  rw [hno]
  show Except.error (14, placeG L size (0 + (q + 1)), 0) = _
  unfold placeG
  rw [if_pos b1, Nat.zero_add, hp]
  have e5 : ((0 + ((txtT k T).length + 2 + (noteTx k t).length) : Nat) : Int) = ((txtT k T).length : Int) + 2 + ((noteTx k t).length : Int) := by omega
  show Except.error (14, ((0 + ((txtT k T).length + 2 + (noteTx k t).length) : Nat) : Int), 0) = _
  rw [e5]
/-- A note alone. -/
theorem note_alone {k : Nat} (hk : k < 5) {t : List UInt8} (ht : plainL (stZ ((k : Int) + 1)) t = true) (size : Int) :
    treeAll k (pToks ((k : Int) + 1) (noteTx k t)) size = .ok [noteStp 7 t] := by
  rw [← raws_nt]
  obtain ⟨_, hH, hl⟩ := toks_pcs (n := (k : Int) + 1) (ps := [notePc t]) (fun x hx => by rw [List.mem_singleton.1 hx]; exact ok_note ht) trivial
  generalize pToks ((k : Int) + 1) (raws ((k : Int) + 1) [notePc t]) = L at *
  obtain ⟨⟨a1, a2, a3, _⟩, _⟩ := hH
  rw [List.length_singleton] at hl
  have g1 := Goes.one (go_alone (pow := powN k) (s := startR) (by show (0 : Nat) ≤ 1; omega) a1 a2) 1
  have hw : (mayS (putS startR ⟨7, -1, 0, 0, 0, (L.getD 0 default).text⟩) 7).waits = [] ++ [0] := rfl
  have ge := Goes.one (go_end (pow := powN k) (L := L) (i := 0 + 1) (s := mayS (putS startR ⟨7, -1, 0, 0, 0, (L.getD 0 default).text⟩) 7) (.inr (.inr (.inr rfl))) (by omega) (by rw [hw]; simp)) 0
  obtain ⟨e1, _⟩ := close_of hw
  unfold treeAll readAll
  rw [hl, g1]
  rw [Nat.add_zero] at ge
  rw [ge]
  refine nm_tree ?_
  rw [e1, if_pos rfl, List.append_nil]
  show Nm k L ([] ++ [⟨7, -1, 0, 0, 0, (L.getD 0 default).text⟩]) _
  rw [a3, List.nil_append]
  exact Nm.plain (by show (7 : Int) ≠ 2; decide)
/-- An operator, and brackets behind it. -/
theorem join_end {k : Nat} {T U : Tr} (h : Fits k T) (hU : Fits k U) (h31 : U.nest ≤ 31) {op : Int} (ho : op = 3 ∨ op = 4) (size : Int) :
    treeAll k (pToks ((k : Int) + 1) (txtT k T ++ [if op = 3 then byteZ (stZ ((k : Int) + 1)).mul else byteZ (stZ ((k : Int) + 1)).div] ++ 40 :: (txtT k U ++ [41]))) size = .ok (T.flat ++ U.flat ++ [opStep op]) := by
  have k5 := kd_five h.k5
  obtain ⟨p, hp⟩ : ∃ p, (if op = 3 then onePc 4 (byteZ (stZ ((k : Int) + 1)).mul) else onePc 5 (byteZ (stZ ((k : Int) + 1)).div)) = p := ⟨_, rfl⟩
  have hpk : p.kind = op + 1 := by
    rw [← hp]
    rcases ho with rfl | rfl
    · rw [if_pos rfl]; rfl
    · rw [if_neg (by decide)]; rfl
  have hpo : PcOk ((k : Int) + 1) p := by
    rw [← hp]
    split
    · exact ok_kind k5.2.2.2.2.1 (by omega)
    · exact ok_kind k5.2.2.2.2.2.1 (by omega)
  have hpr : raws ((k : Int) + 1) [p] = [if op = 3 then byteZ (stZ ((k : Int) + 1)).mul else byteZ (stZ ((k : Int) + 1)).div] := by
    rw [← hp]
    split <;> rfl
  have e : txtT k T ++ [if op = 3 then byteZ (stZ ((k : Int) + 1)).mul else byteZ (stZ ((k : Int) + 1)).div] ++ 40 :: (txtT k U ++ [41]) = raws ((k : Int) + 1) (pcsT k T ++ p :: wrapP true (pcsT k U)) := by
    rw [raws_app]
    show _ = _ ++ (raws _ ([p] ++ wrapP true (pcsT k U)))
    rw [raws_app, raws_brk, hpr, List.append_assoc]; rfl
  obtain ⟨wo, ws⟩ := oks_wrap hU
  obtain ⟨_, hH, hl⟩ := toks_pcs (n := (k : Int) + 1) (ps := pcsT k T ++ p :: wrapP true (pcsT k U)) (fun x hx => by
    rcases List.mem_append.1 hx with hx | hx
    · exact h.oks x hx
    · rcases List.mem_cons.1 hx with hx | hx
      · rw [hx]; exact hpo
      · exact wo x hx) (sep_app (pcs_sep k T) (sep_cons (by rw [hpk]; omega) ws) (by rw [hpk]; omega))
  rw [e]
  generalize pToks ((k : Int) + 1) (raws ((k : Int) + 1) (pcsT k T ++ p :: wrapP true (pcsT k U))) = L at *
  obtain ⟨hH1, ⟨a1, a2, _, _⟩, hH2⟩ := hH.app
  obtain ⟨s, A, w, g, hw, hN, ht, hB⟩ := gone h hH1
  rw [hpk] at a2
  rw [Nat.zero_add] at a1 a2 hH2
  have g2 := Goes.one (go_oper (pow := powN k) hB a1 ho a2)
  obtain ⟨e1, e2⟩ := close_of (W := []) hw
  have hww : (waitS (closeS s) op).waits = [] ++ [op] := by show (closeS s).waits.dropLast ++ [op] = _; rw [e2, hw]; rfl
  obtain ⟨s', A', g3, h1, h2, h3, h4, h5⟩ := gone_brk hU (L := L) (i := (pcsT k T).length + 1) (s := waitS (closeS s) op) (by show (1 : Nat) ≤ 1; omega) (by rw [hww]; simp) (by rw [hww]; show 1 + (U.nest + 1) ≤ 33; omega) hH2
  rw [List.length_append, List.length_cons] at hl
  generalize hq : (wrapP true (pcsT k U)).length = q at *
  generalize hr : (pcsT k T).length = r at *
  have gA := g.trans (by rw [Nat.zero_add]; exact g2.trans g3) 1
  have hw' : s'.waits = [] ++ [op] := h1.trans hww
  obtain ⟨f1, _⟩ := close_of hw'
  have ge := Goes.one (go_end (pow := powN k) (L := L) (i := 0 + (r + (1 + q))) (s := s') h4 (by omega) (by rw [hw']; simp)) 0
  unfold treeAll readAll
  rw [hl, show r + (q + 1) + 1 = r + (1 + q) + 1 by omega, gA]
  rw [Nat.add_zero] at ge
  rw [ge]
  refine nm_tree ?_
  rw [f1, if_neg (by omega), h2]
  show Nm k L ((closeS s).tree ++ A' ++ [opStep op]) _
  rw [e1, ht]
  exact (hN.app h3).app (Nm.plain (by show op ≠ 2; omega))

end Go.Proofs.YthofogokpolhdaaGreatDoor.Parses
