/-
  Contract of the law's nests: how deep brackets stand in a text's tokens.
-/
import Derived.Test.YthofogokpolhdaaGreatDoorXX
namespace Go.Proofs.YthofogokpolhdaaGreatDoor.Parses
open Go.RowKit Go.Shelf
open Go.Proofs.YthofogokpolhdaaGreatDoor.Style (bs bs_size)
open Go.Proofs.YthofogokpolhdaaGreatDoor.Toks
set_option linter.unusedVariables false
set_option linter.unusedSimpArgs false

def turnZ (k : Int) : Int := if k = 7 then 1 else if k = 8 then -1 else 0
def deepS (p : Int × Int) (k : Int) : Int × Int := (p.1 + turnZ k, max p.2 (p.1 + turnZ k))
def deepF (L : List Int) : Int × Int := L.foldl deepS (0, 0)
theorem deep_next (L : List Int) (k : Int) : deepF (L ++ [k]) = deepS (deepF L) k := by unfold deepF; rw [List.foldl_append]; rfl
theorem turn_one (k : Int) : -1 ≤ turnZ k ∧ turnZ k ≤ 1 := by unfold turnZ; split <;> (try split) <;> omega
theorem deep_bound (L : List Int) : ∀ p : Int × Int, 0 ≤ p.2 → -(L.length : Int) + p.1 ≤ (L.foldl deepS p).1 ∧ (L.foldl deepS p).1 ≤ L.length + p.1 ∧ 0 ≤ (L.foldl deepS p).2 ∧ (L.foldl deepS p).2 ≤ max p.2 (L.length + p.1) := by
  induction L with
  | nil => intro p h; simp only [List.foldl_nil, List.length_nil]; omega
  | cons k L ih =>
    intro p h
    have ht := turn_one k
    have := ih (deepS p k) (by unfold deepS; dsimp only; omega)
    rw [List.foldl_cons]
    unfold deepS at this ⊢
    dsimp only at this ⊢
    rw [List.length_cons]
    omega
def kindsL (L : List Tok) : List Int := L.map Tok.kind
def nestZ (n : Int) (s : List UInt8) : Int := (deepF (kindsL (toks n s))).2

theorem toks_grid {W : World} {o : Option Addr} {c : Nat} {L : List Tok} (h : ToksAt W (.slice o L.length c) L) (hl : 0 < L.length) : ∃ b, o = some ⟨b, 0, none⟩ ∧ Grid W b 4 L.length (cellK L) := by
  rcases h with ⟨h0, _⟩ | ⟨b, c', hs, _, _, hg⟩
  · omega
  · injection hs with e1 e2 e3
    exact ⟨b, e1, hg⟩
theorem fldE (a b : Value) (w : World) : (Instr.field 60 (.agg #[a, b]) 0).run Tryz.prog w = .ok a w := by kernel_rfl

set_option maxRecDepth 100000 in
set_option maxHeartbeats 4000000 in
theorem nests_any (n : Int) (s : List UInt8) (w : World) (hl : s.length ≤ 1000) :
    Calls Tryz.prog 18 #[.int .i64 n, .string (bs s)] w fun e w' => e = .returned (.int .i64 (nestZ n s)) ∧ Below w.heap.size w w' := by
  have hEa := fun W => reach_any n s W hl
  have hln : (toks n s).length ≤ 1000 := by unfold toks; rw [List.length_map]; have := lex_len n s; omega
  unfold nestZ
  generalize toks n s = L at *
  generalize (endL 0 (lexL n 0 s) : Int) = ee at hEa
  have hli : (L.length : Int) ≤ 1000 := by omega
  go_enter Tryz.func18, Tryz.ntmps18
  go_wp2_with fail
  refine (hEa w).mono ?_
  rintro e w1 ⟨⟨o, c, rfl, hT, _⟩, hb⟩
  clear hEa
  have hfe := fldE
  go_wp2_with fail
  go_loopw [6, 7, 8] (fun d m x wr => ∃ i : Nat, d = .int .i64 (deepF ((kindsL L).take i)).1 ∧ m = .int .i64 (deepF ((kindsL L).take i)).2 ∧ x = .int .i64 (i : Int) ∧ i ≤ L.length ∧ w1 = wr) (fun _ _ x _ => (L.length - intOf x).toNat)
  case atStart => exact ⟨0, rfl, rfl, rfl, by omega, rfl⟩
  case round =>
    obtain ⟨i, rfl, rfl, rfl, hi, rfl⟩ := hrel
    have hbd := deep_bound ((kindsL L).take i) (0, 0) (by decide)
    have hbl : ((kindsL L).take i).length ≤ L.length := by unfold kindsL; rw [List.length_take, List.length_map]; omega
    by_cases hil : i < L.length
    · have hii : (i : Int) < (L.length : Int) := by omega
      obtain ⟨b, ho, hG⟩ := toks_grid hT (by omega)
      have hc0 := hG.1 i hil 0 (by omega)
      have hnx : deepF ((kindsL L).take (i + 1)) = deepS (deepF ((kindsL L).take i)) ((L.getD i default).kind) := by
        rw [← deep_next]
        congr 1
        unfold kindsL
        rw [List.take_add_one, List.getElem?_map, List.getElem?_eq_getElem hil, List.getD_eq_getElem?_getD, List.getElem?_eq_getElem hil]
        rfl
      have hcv : cellK L i 0 = .int .i64 (L.getD i default).kind := rfl
      rw [hcv] at hc0
      simp only [Nat.add_zero] at hc0
      generalize (L.getD i default).kind = kd1 at hc0 hnx
      unfold deepF at hnx hbd ⊢
      generalize List.foldl deepS (0, 0) ((kindsL L).take i) = p at *
      obtain ⟨d, m⟩ := p
      dsimp only at hbd ⊢
      subst ho
      have hbi : -1000 ≤ d ∧ d ≤ 1000 ∧ 0 ≤ m ∧ m ≤ 1000 := by
        simp only [Int.add_zero] at hbd
        omega
      clear hbd hbl hG hcv
      have fin : ∀ d' m' : Int, deepS (d, m) kd1 = (d', m') → ∃ j : Nat, Value.int .i64 d' = .int .i64 (List.foldl deepS (0, 0) ((kindsL L).take j)).1 ∧ Value.int .i64 m' = .int .i64 (List.foldl deepS (0, 0) ((kindsL L).take j)).2 ∧ Value.int .i64 ((i : Int) + 1) = .int .i64 (j : Int) ∧ j ≤ L.length := fun d' m' e => ⟨i + 1, by rw [hnx, e], by rw [hnx, e], by rw [Int.natCast_add]; rfl, by omega⟩
      clear hnx
      have e : deepS (d, m) kd1 = (d + turnZ kd1, max m (d + turnZ kd1)) := rfl
      have HF := Lib.hid (fin _ _ e)
      clear fin e
      by_cases h7 : kd1 = 7
      · subst h7
        have ht : turnZ 7 = 1 := rfl
        rw [ht] at HF
        go_wp2_with fail
        exact ⟨by obtain ⟨j, e1, e2, e3, hj⟩ := HF.out; exact ⟨j, e1, e2, e3, hj, trivial⟩, by show ((L.length : Int) - ((i : Int) + 1)).toNat < ((L.length : Int) - (i : Int)).toNat; omega⟩
      · by_cases h8 : kd1 = 8
        · subst h8
          have ht : turnZ 8 = -1 := rfl
          rw [ht] at HF
          go_wp2_with fail
          exact ⟨by obtain ⟨j, e1, e2, e3, hj⟩ := HF.out; exact ⟨j, e1, e2, e3, hj, trivial⟩, by show ((L.length : Int) - ((i : Int) + 1)).toNat < ((L.length : Int) - (i : Int)).toNat; omega⟩
        · have ht : turnZ kd1 = 0 := by unfold turnZ; rw [if_neg h7, if_neg h8]
          rw [ht, Int.add_zero] at HF
          have b7 : (kd1 == 7) = false := by simpa using h7
          have b8 : (kd1 == 8) = false := by simpa using h8
          go_wp2_with fail
          exact ⟨by obtain ⟨j, e1, e2, e3, hj⟩ := HF.out; exact ⟨j, e1, e2, e3, hj, trivial⟩, by show ((L.length : Int) - ((i : Int) + 1)).toNat < ((L.length : Int) - (i : Int)).toNat; omega⟩
    · clear hbd hbl
      have he : i = L.length := by omega
      subst he
      have ht : (kindsL L).take L.length = kindsL L := List.take_of_length_le (by unfold kindsL; rw [List.length_map]; omega)
      rw [ht]
      go_wp2_with fail
      go_ret
      exact ⟨rfl, hb⟩

end Go.Proofs.YthofogokpolhdaaGreatDoor.Parses
