/-
  Contracts of drachmref11's byteOf, digits. Contracts of drachmref10's atom, begins. Contract of drachmref10's find. Contracts of drachmref10's text, Text, told, Told. Contracts of drachmref10's told, Told, Text. Contract of drachmref11's sym.
-/
import Derived.Test.YthofogokpolhdaaGreatDoorQAX
import Derived.Test.YthofogokpolhdaaGreatDoorY6X
import Derived.Test.YthofogokpolhdaaGreatDoorC1X
import Derived.Test.YthofogokpolhdaaGreatDoorSCX
import Derived.BigQuiet
import Derived.StillTailTactics
namespace Go.Proofs.YthofogokpolhdaaGreatDoor.Parses
open Go.RowKit Go.Shelf
open Go.Proofs.YthofogokpolhdaaGreatDoor.Style (bs bs_size bs_app one_byte)
open Go.Lib (decDigits)
set_option linter.unusedVariables false
set_option linter.unusedSimpArgs false

theorem u8_wrap (n : Int) (h : 0 ≤ n ∧ n ≤ 255) : IntKind.u8.wrap n = n := by
  show n % 256 = n
  omega

set_option maxRecDepth 100000 in
set_option maxHeartbeats 2000000 in
theorem byteOf_any (c : Int) (w : World) : Calls Tryz.prog 58 #[.int .u8 c] w fun e w' => e = .returned (.string (bs [byteZ c])) ∧ Below w.heap.size w w' := by
  have ob := one_byte
  have hu : Below w.heap.size w (w.alloc (.cells #[.int .u8 c] 5)) := by go_grown
  go_enter Tryz.func58, Tryz.ntmps58
  go_wp2
  go_ret
  exact ⟨rfl, hu⟩

theorem dec_step (u : Nat) (h : 10 ≤ u) (S : List UInt8) : decDigits u ++ S = decDigits (u / 10) ++ UInt8.ofNat (48 + u % 10) :: S := by
  rw [decDigits, dif_neg (by omega), List.append_assoc]; rfl
theorem dec_last (u : Nat) (h : u < 10) (S : List UInt8) : decDigits u ++ S = UInt8.ofNat (48 + u) :: S := by
  rw [decDigits, dif_pos h]; rfl
theorem dec_len (u : Nat) (h : u ≤ 9223372036854775807) : (decDigits u).length ≤ 19 := by
  have key : ∀ (m u : Nat), u < 10 ^ m → 1 ≤ m → (decDigits u).length ≤ m := by
    intro m
    induction m with
    | zero => intro u _ h; omega
    | succ m ih =>
      intro u hu _
      rw [decDigits]
      split
      · simp
      · rename_i h10
        rw [List.length_append, List.length_singleton]
        have hm : 1 ≤ m := by
          rcases Nat.eq_zero_or_pos m with h0 | h0
          · subst h0; simp at hu; omega
          · exact h0
        have := ih (u / 10) (by rw [Nat.pow_succ] at hu; omega) hm
        omega
  exact key 19 u (by omega) (by omega)

set_option maxRecDepth 100000 in
set_option maxHeartbeats 4000000 in
theorem digits_any (u : Nat) (w : World) (hu0 : u ≤ 9223372036854775807) : Calls Tryz.prog 59 #[.int .i64 (u : Int)] w fun e w' => e = .returned (.string (bs (decDigits u))) ∧ Below w.heap.size w w' := by
  have ob := one_byte
  have z3 : ∀ x, (bs [x]).size = 1 := fun x => rfl
  have HL := Lib.hid (dec_len u hu0)
  go_enter Tryz.func59, Tryz.ntmps59
  go_wp2_with fail
  go_loopw [0, 3] (fun a b wr => ∃ (v : Nat) (S : List UInt8), a = .int .i64 (v : Int) ∧ b = .string (bs S) ∧ v ≤ 9223372036854775807 ∧ Hid (decDigits u = decDigits v ++ S) ∧ Below w.heap.size w wr) (fun a _ _ => (intOf a).toNat)
  case atStart => exact ⟨u, [], rfl, rfl, hu0, (by show _ = _; rw [List.append_nil]), Below.refl _ _⟩
  case round =>
    obtain ⟨v, S, rfl, rfl, hv, HD, hb⟩ := hrel
    have hSl : (bs S).size ≤ 19 := by
      rw [bs_size]
      have := HL.out
      rw [HD.out, List.length_append] at this
      omega
    by_cases h10 : 10 ≤ v
    · have hi : (10 : Int) ≤ (v : Int) := by omega
      have HN : Hid (decDigits u = decDigits (v / 10) ++ UInt8.ofNat (48 + v % 10) :: S) := by
        show _ = _
        rw [HD.out, dec_step v h10]
      go_wp2_with fail
      refine ⟨⟨v / 10, UInt8.ofNat (48 + v % 10) :: S, by simp, ?_, by omega, HN, hb.alloc hb.size _⟩, by simp only [intOf]; omega⟩
      rw [bs_app, UInt8.ofNat_add]; rfl
    · have hi : ¬ (10 : Int) ≤ (v : Int) := by omega
      have HN : Hid (decDigits u = UInt8.ofNat (48 + v) :: S) := by
        show _ = _
        rw [HD.out, dec_last v (by omega)]
      have hvi : (v : Int) < 10 := by omega
      go_wp2_with fail
      go_ret
      refine ⟨?_, hb.alloc hb.size _⟩
      rw [HN.out, bs_app, UInt8.ofNat_add]; rfl

end Go.Proofs.YthofogokpolhdaaGreatDoor.Parses

namespace Go.Proofs.YthofogokpolhdaaGreatDoor.Syms
open Go.RowKit Go.Shelf
open Go.Proofs.YthofogokpolhdaaGreatDoor.Atoms (Row Pre C5 tableRs tablePs)
open Go.Proofs.YthofogokpolhdaaGreatDoor.Style (bs bs_size)
open Go.Proofs.YthofogokpolhdaaGreatDoor.Toks (cell_lt cell_same)
set_option linter.unusedVariables false
set_option linter.unusedSimpArgs false

/-- The document's table, as a value. -/
def tbV (ba bp ca cp : Nat) (rows : List Row) (ps : List Pre) : Value := .agg #[.slice (some ⟨ba, 0, none⟩) rows.length ca, .slice (some ⟨bp, 0, none⟩) ps.length cp]

set_option maxRecDepth 100000 in
set_option maxHeartbeats 2000000 in
theorem ratom_v (n : Int) (k : Nat) (c : List UInt8) (hk : n = (k : Int) + 1) (hk5 : k < 5) (ba bp ca cp : Nat) (rows : List Row) (ps : List Pre) (w : World) (h : NI w ba bp ca cp rows ps) (hr : rows.length ≤ 1000) :
    Calls Tryz.prog 105 #[tbV ba bp ca cp rows ps, .int .i64 n, .string (bs c)] w fun e w' => e = .returned (.int .i64 (calledZ rows k c)) ∧ Below w.heap.size w w' := by
  have hu : Below w.heap.size w (w.alloc (.cells #[.slice (some ⟨ba, 0, none⟩) rows.length ca, .slice (some ⟨bp, 0, none⟩) ps.length cp] 89)) := (Below.refl _ _).alloc (Nat.le_refl _) _
  have h1 := h.go hu
  have hla := h.la
  have hlt : w.heap.size < (w.alloc (.cells #[.slice (some ⟨ba, 0, none⟩) rows.length ca, .slice (some ⟨bp, 0, none⟩) ps.length cp] 89)).heap.size := by rw [World.size_alloc]; omega
  have y0 : (w.alloc (.cells #[.slice (some ⟨ba, 0, none⟩) rows.length ca, .slice (some ⟨bp, 0, none⟩) ps.length cp] 89)).cell? ⟨w.heap.size, 0, none⟩ = some (.slice (some ⟨ba, 0, none⟩) rows.length ca) := by simp [go_sem]
  have hrI : (rows.length : Int) ≤ 1000 := by omega
  have hkn : n - 1 = (k : Int) := by omega
  have hn1 : 1 ≤ n ∧ n ≤ 5 := by omega
  subst hk
  unfold tbV
  by_cases hc0 : c = []
  · subst hc0
    have hE : Hid (calledZ rows k [] = -1) := by show _ = _; unfold calledZ; rw [if_pos rfl]
    have hce : ((bs []).toList == []) = true := by rw [Trees.bs_list]; rfl
    have hcn : ((bs []).toList != []) = false := by rw [Trees.bs_list]; rfl
    rw [hE.out]
    clear h h1
    go_enter Tryz.func105, Tryz.ntmps105
    go_wp2_with fail
    generalize w.alloc (.cells #[.slice (some ⟨ba, 0, none⟩) rows.length ca, .slice (some ⟨bp, 0, none⟩) ps.length cp] 89) = W0 at *
    go_loopw [7] (fun x wr => ∃ i : Nat, x = .int .i64 (i : Int) ∧ i ≤ rows.length ∧ Below W0.heap.size W0 wr) (fun x _ => ((rows.length : Int) - intOf x).toNat)
    case atStart => exact ⟨0, rfl, by omega, Below.refl _ _⟩
    case round =>
      obtain ⟨i, rfl, hir, hB⟩ := hrel
      have z0 := (hB.cell (p := ⟨w.heap.size, 0, none⟩) hlt).trans y0
      by_cases hi : i < rows.length
      · have hiI : (i : Int) < rows.length := by omega
        go_wp2_with fail
        exact ⟨⟨i + 1, by simp, by omega, hB⟩, by simp only [intOf]; omega⟩
      · have hiI : ¬ (i : Int) < rows.length := by omega
        go_wp2_with fail
        go_ret
        exact ⟨rfl, hu.trans (hB.mono hu.size)⟩
  · have hce : ((bs c).toList == []) = false := by
      rw [Trees.bs_list]
      simpa using hc0
    have hcn : ((bs c).toList != []) = true := by
      rw [Trees.bs_list]
      simpa using hc0
    have hZ : Hid (calledZ rows k c = calledF rows k c 0 rows.length) := by show _ = _; unfold calledZ; rw [if_neg hc0]
    obtain ⟨R, hR⟩ : ∃ R, calledZ rows k c = R := ⟨_, rfl⟩
    rw [hR]
    have HR : Hid (calledF rows k c 0 rows.length = R) := hZ.out.symm.trans hR
    clear hZ hR hc0 h
    go_enter Tryz.func105, Tryz.ntmps105
    go_wp2_with fail
    generalize w.alloc (.cells #[.slice (some ⟨ba, 0, none⟩) rows.length ca, .slice (some ⟨bp, 0, none⟩) ps.length cp] 89) = W0 at *
    go_loopw [7] (fun x wr => ∃ i : Nat, x = .int .i64 (i : Int) ∧ i ≤ rows.length ∧ Hid (calledF rows k c i (rows.length - i) = R) ∧ Below W0.heap.size W0 wr) (fun x _ => ((rows.length : Int) - intOf x).toNat)
    case atStart => exact ⟨0, rfl, by omega, by rw [Nat.sub_zero]; exact HR, Below.refl _ _⟩
    case round =>
      clear HR
      obtain ⟨i, rfl, hir, HI, hB⟩ := hrel
      have z0 := (hB.cell (p := ⟨w.heap.size, 0, none⟩) hlt).trans y0
      by_cases hi : i < rows.length
      · have hiI : (i : Int) < rows.length := by omega
        have hA := (h1.go hB).a i hi k hk5
        obtain ⟨m, hm⟩ : ∃ m, rows.length - i = m + 1 := ⟨rows.length - i - 1, by omega⟩
        rw [hm] at HI
        have hm2 : rows.length - (i + 1) = m := by omega
        have HST := Lib.hid (called_step rows k c i m)
        have HCC := Lib.hid (show codeA rows k i = (rows.getD i default).c5.get k from rfl)
        generalize (rows.getD i default).c5.get k = ci at *
        by_cases e : ci = c
        · have eb : ((bs ci).toList == (bs c).toList) = true := by rw [e]; exact beq_self_eq_true _
          have HE : Hid (R = (i : Int)) := by
            show _ = _
            have h2 := HI.out
            rw [HST.out, if_pos (HCC.out.trans e)] at h2
            exact h2.symm
          clear e HI HST HCC
          go_wp2_with fail
          go_ret
          exact ⟨by rw [HE.out]; rfl, hu.trans (hB.mono hu.size)⟩
        · have eb : ((bs ci).toList == (bs c).toList) = false := by
            rw [Trees.bs_list, Trees.bs_list]
            simpa using e
          have HE : Hid (calledF rows k c (i + 1) m = R) := by
            show _ = _
            have h2 := HI.out
            rw [HST.out, if_neg (fun h => e (HCC.out.symm.trans h))] at h2
            exact h2
          clear e HI HST HCC
          go_wp2_with fail
          exact ⟨⟨i + 1, by simp, by omega, by rw [hm2]; exact HE, hB⟩, by simp only [intOf]; omega⟩
      · have hiI : ¬ (i : Int) < rows.length := by omega
        have hie : i = rows.length := by omega
        have HE : Hid (R = -1) := by
          show _ = _
          have h2 := HI.out
          rw [hie, Nat.sub_self] at h2
          exact h2.symm
        clear hie
        go_wp2_with fail
        go_ret
        exact ⟨by rw [HE.out]; rfl, hu.trans (hB.mono hu.size)⟩

theorem prefix_take (p s : List UInt8) : p.isPrefixOf s = (s.take p.length == p) := by
  rw [Bool.eq_iff_iff, List.isPrefixOf_iff_prefix, List.prefix_iff_eq_take, beq_iff_eq]
  exact eq_comm
def beginsZ (s p : List UInt8) : Bool := decide (p ≠ []) && (decide (p.length < s.length) && Lib.hasPrefix s p)
set_option maxRecDepth 100000 in
set_option maxHeartbeats 1000000 in
theorem begins_v (s p : List UInt8) (w : World) (hs : s.length ≤ 1000) (hp : p.length ≤ 1000) :
    Calls Tryz.prog 106 #[.string (bs s), .string (bs p)] w fun e w' => e = .returned (.bool (beginsZ s p)) ∧ w = w' := by
  have hzs : ((bs s).size : Int) = (s.length : Int) := by rw [bs_size]
  have hzp : ((bs p).size : Int) = (p.length : Int) := by rw [bs_size]
  have hsi : (s.length : Int) ≤ 1000 := by omega
  have hpi : (p.length : Int) ≤ 1000 := by omega
  by_cases hp0 : p = []
  · subst hp0
    have hce : ((bs []).toList == []) = true := by rw [Trees.bs_list]; rfl
    have hcn : ((bs []).toList != []) = false := by rw [Trees.bs_list]; rfl
    have HR : Hid (beginsZ s [] = false) := rfl
    rw [HR.out]
    go_enter Tryz.func106, Tryz.ntmps106
    go_wp2_with fail
    go_ret
    exact ⟨rfl, rfl⟩
  have hem : (bs p).toList.isEmpty = false := by
    rw [Trees.bs_list]
    simpa using hp0
  by_cases hl : p.length < s.length
  · have hli : (p.length : Int) < s.length := by omega
    have hle : p.length ≤ (bs s).size := by rw [bs_size]; omega
    obtain ⟨R, hR⟩ : ∃ R, beginsZ s p = R := ⟨_, rfl⟩
    rw [hR]
    have HR := Lib.hid hR
    clear hR
    go_enter Tryz.func106, Tryz.ntmps106
    go_wp2_with fail
    go_ret
    refine ⟨?_, rfl⟩
    rw [← HR.out]
    unfold beginsZ
    rw [Style.bs_extract, Trees.bs_list, Trees.bs_list, decide_eq_true hp0, decide_eq_true hl]
    simp only [Nat.sub_zero, List.drop_zero, Bool.true_and, Lib.hasPrefix]
    rw [prefix_take]
    · rfl
    · omega
  · have hli : ¬ (p.length : Int) < s.length := by omega
    have HR : Hid (beginsZ s p = false) := by
      show _ = _
      unfold beginsZ; rw [decide_eq_false hl]; simp
    rw [HR.out]
    go_enter Tryz.func106, Tryz.ntmps106
    go_wp2_with fail
    go_ret
    exact ⟨rfl, rfl⟩

end Go.Proofs.YthofogokpolhdaaGreatDoor.Syms

namespace Go.Proofs.YthofogokpolhdaaGreatDoor.Syms
open Go.RowKit Go.Shelf
open Go.Proofs.YthofogokpolhdaaGreatDoor.Atoms (Row Pre C5 tableRs tablePs)
open Go.Proofs.YthofogokpolhdaaGreatDoor.Style (bs bs_size)
open Go.Proofs.YthofogokpolhdaaGreatDoor.Toks (cell_lt cell_same)
set_option linter.unusedVariables false
set_option linter.unusedSimpArgs false

theorem called_nil (rows : List Row) (k : Nat) : calledZ rows k [] = -1 := by unfold calledZ; rw [if_pos rfl]
theorem metric_begins {rows : List Row} {k : Nat} {s c : List UInt8} (hs : calledZ rows k s = -1) : (beginsZ s c = true ∧ metricZ rows k (s.drop c.length) = true) ↔ (Lib.hasPrefix s c = true ∧ metricZ rows k (s.drop c.length) = true) := by
  constructor
  · rintro ⟨h1, h2⟩
    unfold beginsZ at h1
    rw [Bool.and_eq_true, Bool.and_eq_true] at h1
    exact ⟨h1.2.2, h2⟩
  · rintro ⟨h1, h2⟩
    refine ⟨?_, h2⟩
    have hm : calledZ rows k (s.drop c.length) ≠ -1 := by
      unfold metricZ at h2
      rw [Bool.and_eq_true, decide_eq_true_eq] at h2
      exact h2.1
    have hc : c ≠ [] := by
      rintro rfl
      exact hm hs
    have hl : c.length < s.length := by
      have := (List.isPrefixOf_iff_prefix.1 h1).length_le
      rcases Nat.lt_or_ge c.length s.length with h | h
      · exact h
      · exfalso
        rw [List.drop_eq_nil_of_le h] at hm
        exact hm (called_nil rows k)
    unfold beginsZ
    rw [decide_eq_true hc, decide_eq_true hl, h1]; rfl
theorem rpref_step (rows : List Row) (ps : List Pre) (k : Nat) (s : List UInt8) (i m : Nat) (hs : calledZ rows k s = -1) :
    prefF rows ps k s i (m + 1) = if beginsZ s (codeP ps k i) = true ∧ metricZ rows k (s.drop (codeP ps k i).length) = true then ((i : Int), calledZ rows k (s.drop (codeP ps k i).length)) else prefF rows ps k s (i + 1) m := by
  show (if Lib.hasPrefix s (codeP ps k i) = true ∧ metricZ rows k (s.drop (codeP ps k i).length) = true then _ else _) = _
  by_cases h : Lib.hasPrefix s (codeP ps k i) = true ∧ metricZ rows k (s.drop (codeP ps k i).length) = true
  · rw [if_pos h, if_pos ((metric_begins hs).2 h)]
  · rw [if_neg h, if_neg (fun h' => h ((metric_begins hs).1 h'))]

/-- The result's box. -/
structure SymBox (W : World) (b : Nat) : Prop where
  x0 : W.cell? ⟨b, 0, none⟩ = some (.int .i64 0)
  x1 : W.cell? ⟨b, 1, none⟩ = some (.int .i64 0)
  x2 : W.cell? ⟨b, 2, none⟩ = some (.bool false)
  xf : ∀ j, W.frozen? ⟨b, j, none⟩ = false
/-- It is laid. -/
theorem SymBox.laid {w W : World} {b : Nat} (h : SymBox W b) (a0 a1 a2 : Value) (hb : w.heap.size ≤ b) (hw : Below w.heap.size w W) :
    (((W.setCell ⟨b, 0, none⟩ a0).setCell ⟨b, 1, none⟩ a1).setCell ⟨b, 2, none⟩ a2).cell? ⟨b, 0, none⟩ = some a0 ∧ (((W.setCell ⟨b, 0, none⟩ a0).setCell ⟨b, 1, none⟩ a1).setCell ⟨b, 2, none⟩ a2).cell? ⟨b, 1, none⟩ = some a1 ∧ (((W.setCell ⟨b, 0, none⟩ a0).setCell ⟨b, 1, none⟩ a1).setCell ⟨b, 2, none⟩ a2).cell? ⟨b, 2, none⟩ = some a2 ∧ Below w.heap.size w (((W.setCell ⟨b, 0, none⟩ a0).setCell ⟨b, 1, none⟩ a1).setCell ⟨b, 2, none⟩ a2) := by
  obtain ⟨x0, x1, x2, _⟩ := h
  exact ⟨by simp [go_sem, x0, x1, x2], by simp [go_sem, x0, x1, x2], by simp [go_sem, x0, x1, x2], ((hw.setCell (p := ⟨b, 0, none⟩) hb _).setCell (p := ⟨b, 1, none⟩) hb _).setCell (p := ⟨b, 2, none⟩) hb _⟩

set_option maxRecDepth 100000 in
set_option maxHeartbeats 1000000 in
theorem rfind_v (n : Int) (k : Nat) (s : List UInt8) (hk : n = (k : Int) + 1) (hk5 : k < 5) (ba bp ca cp : Nat) (rows : List Row) (ps : List Pre) (w : World) (h : NI w ba bp ca cp rows ps) (hr : rows.length ≤ 1000) (hps : ps.length ≤ 1000) (hsl : s.length ≤ 1000)
    (hcp : ∀ i, i < ps.length → (codeP ps k i).length ≤ 1000) (a b : Int) (ok : Bool) (hR : findZ rows ps k s = (a, b)) (hok : decide (b ≠ -1) = ok) :
    Calls Tryz.prog 87 #[tbV ba bp ca cp rows ps, .int .i64 n, .string (bs s)] w fun e w' => e = .returned (.agg #[.int .i64 a, .int .i64 b, .bool ok]) ∧ Below w.heap.size w w' := by
  have hu : Below w.heap.size w ((w.alloc (.cells #[.slice (some ⟨ba, 0, none⟩) rows.length ca, .slice (some ⟨bp, 0, none⟩) ps.length cp] 89)).alloc (.cells #[.int .i64 0, .int .i64 0, .bool false] 152)) := by go_grown
  have h1 := h.go hu
  have hla := h.la
  have hlp := h.lp
  have hlt : w.heap.size + 1 < ((w.alloc (.cells #[.slice (some ⟨ba, 0, none⟩) rows.length ca, .slice (some ⟨bp, 0, none⟩) ps.length cp] 89)).alloc (.cells #[.int .i64 0, .int .i64 0, .bool false] 152)).heap.size := by rw [World.size_alloc, World.size_alloc]; omega
  have y0 : ((w.alloc (.cells #[.slice (some ⟨ba, 0, none⟩) rows.length ca, .slice (some ⟨bp, 0, none⟩) ps.length cp] 89)).alloc (.cells #[.int .i64 0, .int .i64 0, .bool false] 152)).cell? ⟨w.heap.size, 0, none⟩ = some (.slice (some ⟨ba, 0, none⟩) rows.length ca) := by simp [go_sem]
  have y1 : ((w.alloc (.cells #[.slice (some ⟨ba, 0, none⟩) rows.length ca, .slice (some ⟨bp, 0, none⟩) ps.length cp] 89)).alloc (.cells #[.int .i64 0, .int .i64 0, .bool false] 152)).cell? ⟨w.heap.size, 1, none⟩ = some (.slice (some ⟨bp, 0, none⟩) ps.length cp) := by simp [go_sem]
  have x0 : ((w.alloc (.cells #[.slice (some ⟨ba, 0, none⟩) rows.length ca, .slice (some ⟨bp, 0, none⟩) ps.length cp] 89)).alloc (.cells #[.int .i64 0, .int .i64 0, .bool false] 152)).cell? ⟨w.heap.size + 1, 0, none⟩ = some (.int .i64 0) := by simp [go_sem]
  have x1 : ((w.alloc (.cells #[.slice (some ⟨ba, 0, none⟩) rows.length ca, .slice (some ⟨bp, 0, none⟩) ps.length cp] 89)).alloc (.cells #[.int .i64 0, .int .i64 0, .bool false] 152)).cell? ⟨w.heap.size + 1, 1, none⟩ = some (.int .i64 0) := by simp [go_sem]
  have x2 : ((w.alloc (.cells #[.slice (some ⟨ba, 0, none⟩) rows.length ca, .slice (some ⟨bp, 0, none⟩) ps.length cp] 89)).alloc (.cells #[.int .i64 0, .int .i64 0, .bool false] 152)).cell? ⟨w.heap.size + 1, 2, none⟩ = some (.bool false) := by simp [go_sem]
  have xf : ∀ j, ((w.alloc (.cells #[.slice (some ⟨ba, 0, none⟩) rows.length ca, .slice (some ⟨bp, 0, none⟩) ps.length cp] 89)).alloc (.cells #[.int .i64 0, .int .i64 0, .bool false] 152)).frozen? ⟨w.heap.size + 1, j, none⟩ = false := fun j => by simp [go_sem]
  have HX : ∀ W', Below ((w.alloc (.cells #[.slice (some ⟨ba, 0, none⟩) rows.length ca, .slice (some ⟨bp, 0, none⟩) ps.length cp] 89)).alloc (.cells #[.int .i64 0, .int .i64 0, .bool false] 152)).heap.size ((w.alloc (.cells #[.slice (some ⟨ba, 0, none⟩) rows.length ca, .slice (some ⟨bp, 0, none⟩) ps.length cp] 89)).alloc (.cells #[.int .i64 0, .int .i64 0, .bool false] 152)) W' → SymBox W' (w.heap.size + 1) := fun W' hb => ⟨(hb.cell (p := ⟨w.heap.size + 1, 0, none⟩) hlt).trans x0, (hb.cell (p := ⟨w.heap.size + 1, 1, none⟩) hlt).trans x1, (hb.cell (p := ⟨w.heap.size + 1, 2, none⟩) hlt).trans x2, fun j => (hb.frozen (p := ⟨w.heap.size + 1, j, none⟩) hlt).trans (xf j)⟩
  clear x0 x1 x2 xf
  have hrI : (rows.length : Int) ≤ 1000 := by omega
  have hpI : (ps.length : Int) ≤ 1000 := by omega
  have hsI : (s.length : Int) ≤ 1000 := by omega
  have hzs : ((bs s).size : Int) = (s.length : Int) := by rw [bs_size]
  have hkn : n - 1 = (k : Int) := by omega
  have hn1 : 1 ≤ n ∧ n ≤ 5 := by omega
  have hAt := fun c W (hW : NI W ba bp ca cp rows ps) => ratom_v n k c hk hk5 ba bp ca cp rows ps W hW hr
  have hNI := h1
  clear h
  subst hk
  unfold tbV at hAt ⊢
  have HOK := Lib.hid hok
  clear hok
  have HRR := Lib.hid hR
  clear hR
  go_enter Tryz.func87, Tryz.ntmps87
  go_wp2_with fail
  generalize (w.alloc (.cells #[.slice (some ⟨ba, 0, none⟩) rows.length ca, .slice (some ⟨bp, 0, none⟩) ps.length cp] 89)).alloc (.cells #[.int .i64 0, .int .i64 0, .bool false] 152) = W0 at *
  refine (hAt s W0 h1).mono ?_
  rintro e w1 ⟨rfl, hb1⟩
  rcases called_cases rows k s with hno | ⟨j, hj, hjl⟩
  rotate_left
  · rw [hj]
    have HE : Hid ((-1, (j : Int)) = (a, b)) := by
      show _ = _
      have h2 := HRR.out
      unfold findZ at h2
      rw [if_pos (by rw [hj]; omega), hj] at h2
      exact h2
    have HO : Hid (ok = true) := by
      show _ = _
      have h3 := HE.out
      injection h3 with _ h4
      rw [← HOK.out, ← h4]
      exact decide_eq_true (by omega)
    have hX := HX w1 hb1
    have HL := Lib.hid (hX.laid (.int .i64 (-1)) (.int .i64 (j : Int)) (.bool true) (by omega) (hu.trans (hb1.mono hu.size)))
    obtain ⟨x0, x1, x2, xf⟩ := hX
    have f0 := xf 0
    have f1 := xf 1
    have f2 := xf 2
    clear hj hjl hb1 HX xf
    go_wp2_with fail
    obtain ⟨l0, l1, l2, hB⟩ := HL.out
    refine bodyPost_ret (v := .agg #[.int .i64 (-1), .int .i64 (j : Int), .bool true]) (by simp [results, Tryz.results87, go_sem, l0, l1, l2]) rfl ⟨?_, hB⟩
    have h3 := HE.out
    injection h3 with h4 h5
    rw [HO.out, ← h4, ← h5]
  · rw [hno]
    have HP : Hid (prefF rows ps k s 0 ps.length = (a, b)) := by
      show _ = _
      have h2 := HRR.out
      unfold findZ at h2
      rw [if_neg (by rw [hno]; simp)] at h2
      exact h2
    have HS := fun i m => Lib.hid (rpref_step rows ps k s i m hno)
    clear hno HRR
    go_wp2_with fail
    go_loopw [8] (fun x wr => ∃ i : Nat, x = .int .i64 (i : Int) ∧ i ≤ ps.length ∧ Hid (prefF rows ps k s i (ps.length - i) = (a, b)) ∧ Below W0.heap.size W0 wr) (fun x _ => ((ps.length : Int) - intOf x).toNat)
    case atStart => exact ⟨0, rfl, by omega, by rw [Nat.sub_zero]; exact HP, hb1⟩
    case round =>
      clear HP hb1
      obtain ⟨i, rfl, hir, HI, hB⟩ := hrel
      have z0 := (hB.cell (p := ⟨w.heap.size, 0, none⟩) (Nat.lt_of_succ_lt hlt)).trans y0
      have z1 := (hB.cell (p := ⟨w.heap.size, 1, none⟩) (Nat.lt_of_succ_lt hlt)).trans y1
      by_cases hi : i < ps.length
      · have hiI : (i : Int) < ps.length := by omega
        have hP := (hNI.go hB).p i hi k hk5
        obtain ⟨m, hm⟩ : ∃ m, ps.length - i = m + 1 := ⟨ps.length - i - 1, by omega⟩
        rw [hm] at HI
        have hm2 : ps.length - (i + 1) = m := by omega
        have HST := HS i m
        have hcl := hcp i hi
        have HCC := Lib.hid (show codeP ps k i = (ps.getD i default).c5.get k from rfl)
        rw [HCC.out] at HST hcl
        clear HS hcp
        generalize (ps.getD i default).c5.get k = c at *
        have hbg := begins_v s c wr hsl hcl
        have hrest := hAt (s.drop c.length)
        clear hAt
        go_wp2_with fail
        refine hbg.mono ?_
        rintro e w2 ⟨rfl, rfl⟩
        clear hbg
        cases hbz : beginsZ s c with
        | false =>
          have HE : Hid (prefF rows ps k s (i + 1) m = (a, b)) := by
            show _ = _
            have h2 := HI.out
            rw [HST.out, if_neg (by rw [hbz]; simp)] at h2
            exact h2
          clear HI HST HCC hrest hbz hP
          go_wp2_with fail
          exact ⟨⟨i + 1, by simp, by omega, by rw [hm2]; exact HE, hB⟩, by simp only [intOf]; omega⟩
        | true =>
          have hll : c.length < s.length ∧ c ≠ [] := by
            have := hbz
            unfold beginsZ at this
            rw [Bool.and_eq_true, Bool.and_eq_true, decide_eq_true_eq, decide_eq_true_eq] at this
            exact ⟨this.2.1, this.1⟩
          have hcz : ((bs c).size : Int) = (c.length : Int) := by rw [bs_size]
          have hlc : (c.length : Int) ≤ (s.length : Int) := by omega
          have hle : c.length ≤ (bs s).size := by rw [bs_size]; omega
          have eS : Hid ((bs s).extract c.length (bs s).size = bs (s.drop c.length)) := by
            show _ = _
            rw [bs_size, Style.bs_extract _ _ _ (Nat.le_refl _), List.take_length]
          have HTT : Hid (∀ j : Nat, calledZ rows k (s.drop c.length) = (j : Int) → (rows.getD j default).m = true → ((i : Int), (j : Int)) = (a, b)) := by
            intro j hj hm
            have h2 := HI.out
            rw [HST.out, if_pos ⟨hbz, by unfold metricZ; rw [hj, Int.toNat_natCast, hm, decide_eq_true (by omega)]; rfl⟩, hj] at h2
            exact h2
          have HFF : Hid (metricZ rows k (s.drop c.length) = false → prefF rows ps k s (i + 1) m = (a, b)) := by
            intro hm
            have h2 := HI.out
            rw [HST.out, if_neg (by rw [hm]; simp)] at h2
            exact h2
          clear HI HST HCC hbz hP hll
          go_wp2_with fail
          go_still_tail 6, (by kernel_rfl)
          change wpList _ _ _ _ _ wr.drew
          have hBd := hB.drew
          clear z0 z1
          generalize wr.drew = wd at *
          go_wp2_with fail
          rw [eS.out]
          refine (hrest wd (hNI.go hBd)).mono ?_
          rintro e w2 ⟨rfl, hb2⟩
          have hB2 := hBd.trans (hb2.mono hBd.size)
          rcases called_cases rows k (s.drop c.length) with hno | ⟨j, hj, hjl⟩
          · have HE : Hid (prefF rows ps k s (i + 1) m = (a, b)) := HFF.out (by unfold metricZ; rw [hno]; rfl)
            rw [hno]
            clear hno HFF HTT hrest eS
            go_wp2_with fail
            exact ⟨⟨i + 1, by simp, by omega, by rw [hm2]; exact HE, hB2⟩, by simp only [intOf]; omega⟩
          · have hM := (hNI.go hB2).m j hjl
            have hjI : (j : Int) < rows.length := by omega
            have q0 := (hB2.cell (p := ⟨w.heap.size, 0, none⟩) (Nat.lt_of_succ_lt hlt)).trans y0
            have HF2 : Hid ((rows.getD j default).m = false → prefF rows ps k s (i + 1) m = (a, b)) := fun hm => HFF.out (by unfold metricZ; rw [hj, Int.toNat_natCast, hm]; simp)
            have HT2 : Hid ((rows.getD j default).m = true → ((i : Int), (j : Int)) = (a, b)) := fun hm => HTT.out j hj hm
            rw [hj]
            generalize (rows.getD j default).m = mt at *
            clear hj HFF HTT hrest eS
            cases mt with
            | false =>
              have HE := Lib.hid (HF2.out rfl)
              clear HF2 HT2
              go_wp2_with fail
              exact ⟨⟨i + 1, by simp, by omega, by rw [hm2]; exact HE, hB2⟩, by simp only [intOf]; omega⟩
            | true =>
              have HE := Lib.hid (HT2.out rfl)
              have HO : Hid (ok = true) := by
                show _ = _
                have h3 := HE.out
                injection h3 with _ h4
                rw [← HOK.out, ← h4]
                exact decide_eq_true (by omega)
              have hX := HX w2 hB2
              have HL := Lib.hid (hX.laid (.int .i64 (i : Int)) (.int .i64 (j : Int)) (.bool true) (by omega) (hu.trans (hB2.mono hu.size)))
              obtain ⟨x0, x1, x2, xf⟩ := hX
              have f0 := xf 0
              have f1 := xf 1
              have f2 := xf 2
              clear HF2 HT2 HX xf hB hBd hB2
              go_wp2_with fail
              obtain ⟨l0, l1, l2, hB⟩ := HL.out
              refine bodyPost_ret (v := .agg #[.int .i64 (i : Int), .int .i64 (j : Int), .bool true]) (by simp [results, Tryz.results87, go_sem, l0, l1, l2]) rfl ⟨?_, hB⟩
              have h3 := HE.out
              injection h3 with h4 h5
              rw [HO.out, ← h4, ← h5]
      · have hiI : ¬ (i : Int) < ps.length := by omega
        have hie : i = ps.length := by omega
        have HE : Hid ((-1, -1) = (a, b)) := by
          show _ = _
          have h2 := HI.out
          rw [hie, Nat.sub_self] at h2
          exact h2
        have HO : Hid (ok = false) := by
          show _ = _
          have h3 := HE.out
          injection h3 with _ h4
          rw [← HOK.out, ← h4]; rfl
        have hX := HX wr hB
        have HL := Lib.hid (hX.laid (.int .i64 (-1)) (.int .i64 (-1)) (.bool false) (by omega) (hu.trans (hB.mono hu.size)))
        obtain ⟨x0, x1, x2, xf⟩ := hX
        have f0 := xf 0
        have f1 := xf 1
        have f2 := xf 2
        clear hie HX xf hB
        go_wp2_with fail
        obtain ⟨l0, l1, l2, hB⟩ := HL.out
        refine bodyPost_ret (v := .agg #[.int .i64 (-1), .int .i64 (-1), .bool false]) (by simp [results, Tryz.results87, go_sem, l0, l1, l2]) rfl ⟨?_, hB⟩
        have h3 := HE.out
        injection h3 with h4 h5
        rw [HO.out, ← h4, ← h5]

end Go.Proofs.YthofogokpolhdaaGreatDoor.Syms

namespace Go.Proofs.YthofogokpolhdaaGreatDoor.Syms
open Go.RowKit Go.Shelf
open Go.Proofs.YthofogokpolhdaaGreatDoor.Atoms (Row Pre C5 tableRs tablePs TableEnd refTable_any)
open Go.Proofs.YthofogokpolhdaaGreatDoor.Style (bs bs_size bs_app)
open Go.Proofs.YthofogokpolhdaaGreatDoor.Toks (cell_lt cell_same)
open Go.Proofs.YthofogokpolhdaaGreatDoor.Parses (textS toldS)
set_option linter.unusedVariables false
set_option linter.unusedSimpArgs false
attribute [local irreducible] tableRs tablePs findZ

theorem code_shortA : ∀ k, k < 5 → ∀ i, i < tableRs.length → (codeA tableRs k i).length ≤ 1000 := by
  intro k hk i hi
  have h : ∀ j : Fin 5, ∀ p ∈ tableRs, (p.c5.get j.val).length ≤ 1000 := by decide +kernel
  unfold codeA
  refine h ⟨k, hk⟩ _ ?_
  rw [List.getD_eq_getElem?_getD, List.getElem?_eq_getElem hi]
  exact List.getElem_mem _

set_option maxRecDepth 100000 in
set_option maxHeartbeats 1000000 in
theorem rtext_v (k : Nat) (pf : Int) (a : Nat) (hk5 : k < 5) (ha : a < tableRs.length) (hpf : -1 ≤ pf ∧ pf < (tablePs.length : Int)) (ba bp ca cp : Nat) (w : World) (h : NI w ba bp ca cp tableRs tablePs) :
    Calls Tryz.prog 86 #[tbV ba bp ca cp tableRs tablePs, .int .i64 ((k : Int) + 1), .int .i64 pf, .int .i64 (a : Int)] w fun e w' => e = .returned (.string (bs (textS k pf (a : Int)))) ∧ Below w.heap.size w w' := by
  have hu : Below w.heap.size w (w.alloc (.cells #[.slice (some ⟨ba, 0, none⟩) tableRs.length ca, .slice (some ⟨bp, 0, none⟩) tablePs.length cp] 89)) := (Below.refl _ _).alloc (Nat.le_refl _) _
  have h1 := h.go hu
  have y0 : (w.alloc (.cells #[.slice (some ⟨ba, 0, none⟩) tableRs.length ca, .slice (some ⟨bp, 0, none⟩) tablePs.length cp] 89)).cell? ⟨w.heap.size, 0, none⟩ = some (.slice (some ⟨ba, 0, none⟩) tableRs.length ca) := by simp [go_sem]
  have y1 : (w.alloc (.cells #[.slice (some ⟨ba, 0, none⟩) tableRs.length ca, .slice (some ⟨bp, 0, none⟩) tablePs.length cp] 89)).cell? ⟨w.heap.size, 1, none⟩ = some (.slice (some ⟨bp, 0, none⟩) tablePs.length cp) := by simp [go_sem]
  have hT : Hid (textS k pf (a : Int) = if codeA tableRs k a = [] ∨ pf = -1 then codeA tableRs k a
    else if codeP tablePs k pf.toNat = [] ∨ (tableRs.getD a default).m = false then []
    else codeP tablePs k pf.toNat ++ codeA tableRs k a) := by
    show _ = _
    unfold textS
    rw [if_neg (by omega), Int.toNat_natCast]
  have hla := h1.la
  have hlp := h1.lp
  have l48 : (tableRs.length : Int) = 48 := by rw [len_R]; rfl
  have l20 : (tablePs.length : Int) = 20 := by rw [len_P]; rfl
  have L48 := len_R
  have L20 := len_P
  have hsa := code_shortA k hk5
  have hsp := codes_short k hk5
  generalize tableRs = rows at *
  generalize tablePs = ps at *
  clear h
  have hA := h1.a a ha k hk5
  have hM := h1.m a ha
  have hPall := fun i hi => h1.p i hi k hk5
  have hsA := hsa a ha
  have hCA := Lib.hid (show codeA rows k a = (rows.getD a default).c5.get k from rfl)
  rw [hCA.out] at hT hsA
  unfold tbV
  have hem : (bs []).toList.isEmpty = true := by rw [Trees.bs_list]; rfl
  have hce : ((bs []).toList == []) = true := by rw [Trees.bs_list]; rfl
  have d1 : decide ((a : Int) < 0) = false := decide_eq_false (by omega)
  have d2 : decide ((rows.length : Int) ≤ (a : Int)) = false := decide_eq_false (by omega)
  have d3 : decide (pf < -1) = false := decide_eq_false (by omega)
  have d4 : decide ((ps.length : Int) ≤ pf) = false := decide_eq_false (by omega)
  have haI : (a : Int) < rows.length := by omega
  have hki : (k : Int) < 5 := by omega
  have hkn : (k : Int) + 1 - 1 = (k : Int) := by omega
  generalize (rows.getD a default).c5.get k = ca' at *
  generalize (rows.getD a default).m = mt at *
  obtain ⟨R, hR⟩ : ∃ R, textS k pf (a : Int) = R := ⟨_, rfl⟩
  rw [hR] at hT ⊢
  have hrI : (rows.length : Int) ≤ 1000 := by omega
  have hpI0 : (ps.length : Int) ≤ 1000 := by omega
  clear hR hsa l48 l20 L48 L20
  by_cases hA0 : ca' = []
  · subst hA0
    have HR : Hid (R = []) := by
      show _ = _
      rw [hT.out, if_pos (.inl rfl)]
    clear hT
    go_enter Tryz.func86, Tryz.ntmps86
    go_upto_region 1 with fail
    generalize w.alloc (.cells #[.slice (some ⟨ba, 0, none⟩) rows.length ca, .slice (some ⟨bp, 0, none⟩) ps.length cp] 89) = W at *
    go_wp2_with fail
    go_ret
    exact ⟨by rw [HR.out]; rfl, hu⟩
  have hen : ((bs ca').toList == []) = false := by rw [Trees.bs_list]; simpa using hA0
  have hee : (bs ca').toList.isEmpty = false := by rw [Trees.bs_list]; simpa using hA0
  by_cases hp1 : pf = -1
  · subst hp1
    have HR : Hid (R = ca') := by
      show _ = _
      rw [hT.out, if_pos (.inr rfl)]
    clear hT
    go_enter Tryz.func86, Tryz.ntmps86
    go_upto_region 1 with fail
    generalize w.alloc (.cells #[.slice (some ⟨ba, 0, none⟩) rows.length ca, .slice (some ⟨bp, 0, none⟩) ps.length cp] 89) = W at *
    go_wp2_with fail
    go_ret
    exact ⟨by rw [HR.out]; rfl, hu⟩
  have hpe : (pf == -1) = false := by simpa using hp1
  obtain ⟨p, rfl⟩ : ∃ p : Nat, pf = (p : Int) := ⟨pf.toNat, by omega⟩
  have hpl : p < ps.length := by omega
  have hP := hPall p hpl
  clear hPall
  have hsP := hsp p hpl
  have hCP := Lib.hid (show codeP ps k p = (ps.getD p default).c5.get k from rfl)
  rw [Int.toNat_natCast, hCP.out] at hT
  rw [hCP.out] at hsP
  clear hCP hsp
  generalize (ps.getD p default).c5.get k = cq at *
  have hpI : (p : Int) < ps.length := by omega
  rw [if_neg (by rintro (h | h); exact hA0 h; exact hp1 h)] at hT
  clear hp1 hA0
  by_cases hP0 : cq = []
  · subst hP0
    have HR : Hid (R = []) := by
      show _ = _
      rw [hT.out, if_pos (.inl rfl)]
    clear hT
    go_enter Tryz.func86, Tryz.ntmps86
    go_upto_region 1 with fail
    generalize w.alloc (.cells #[.slice (some ⟨ba, 0, none⟩) rows.length ca, .slice (some ⟨bp, 0, none⟩) ps.length cp] 89) = W at *
    go_wp2_with fail
    go_ret
    exact ⟨by rw [HR.out]; rfl, hu⟩
  have hpn : ((bs cq).toList == []) = false := by rw [Trees.bs_list]; simpa using hP0
  have hpe2 : (bs cq).toList.isEmpty = false := by rw [Trees.bs_list]; simpa using hP0
  have z1 : (bs ca').size ≤ 1000 := by rw [bs_size]; exact hsA
  have z2 : (bs cq).size ≤ 1000 := by rw [bs_size]; exact hsP
  cases mt with
  | false =>
    have HR : Hid (R = []) := by
      show _ = _
      rw [hT.out, if_pos (.inr rfl)]
    clear hT hP0
    go_enter Tryz.func86, Tryz.ntmps86
    go_upto_region 1 with fail
    generalize w.alloc (.cells #[.slice (some ⟨ba, 0, none⟩) rows.length ca, .slice (some ⟨bp, 0, none⟩) ps.length cp] 89) = W at *
    go_wp2_with fail
    go_ret
    exact ⟨by rw [HR.out]; rfl, hu⟩
  | true =>
    have HR : Hid (R = cq ++ ca') := by
      show _ = _
      rw [hT.out, if_neg (by rintro (h | h); exact hP0 h; cases h)]
    clear hT hP0
    go_enter Tryz.func86, Tryz.ntmps86
    go_upto_region 1 with fail
    generalize w.alloc (.cells #[.slice (some ⟨ba, 0, none⟩) rows.length ca, .slice (some ⟨bp, 0, none⟩) ps.length cp] 89) = W at *
    go_wp2_with fail
    go_ret
    refine ⟨?_, hu⟩
    rw [HR.out, ← bs_app]; rfl

end Go.Proofs.YthofogokpolhdaaGreatDoor.Syms

namespace Go.Proofs.YthofogokpolhdaaGreatDoor.Syms
open Go.RowKit Go.Shelf
open Go.Proofs.YthofogokpolhdaaGreatDoor.Atoms (Row Pre C5 tableRs tablePs TableEnd refTable_any)
open Go.Proofs.YthofogokpolhdaaGreatDoor.Style (bs bs_size bs_app)
open Go.Proofs.YthofogokpolhdaaGreatDoor.Toks (cell_lt cell_same)
open Go.Proofs.YthofogokpolhdaaGreatDoor.Parses (textS toldS)
set_option linter.unusedVariables false
set_option linter.unusedSimpArgs false
attribute [local irreducible] tableRs tablePs findZ

theorem text_short (k : Nat) (hk : k < 5) (pf a : Int) : (textS k pf a).length ≤ 1000 := by
  have hA : ∀ i, i < tableRs.length → (codeA tableRs k i).length ≤ 400 := by
    intro i hi
    have h : ∀ j : Fin 5, ∀ p ∈ tableRs, (p.c5.get j.val).length ≤ 400 := by decide +kernel
    unfold codeA
    refine h ⟨k, hk⟩ _ ?_
    rw [List.getD_eq_getElem?_getD, List.getElem?_eq_getElem hi]
    exact List.getElem_mem _
  have hP : ∀ i, i < tablePs.length → (codeP tablePs k i).length ≤ 400 := by
    intro i hi
    have h : ∀ j : Fin 5, ∀ p ∈ tablePs, (p.c5.get j.val).length ≤ 400 := by decide +kernel
    unfold codeP
    refine h ⟨k, hk⟩ _ ?_
    rw [List.getD_eq_getElem?_getD, List.getElem?_eq_getElem hi]
    exact List.getElem_mem _
  unfold textS
  split
  · simp
  · rename_i h0
    have := hA a.toNat (by omega)
    split
    · omega
    · split
      · simp
      · have := hP pf.toNat (by omega)
        rw [List.length_append]; omega

set_option maxRecDepth 100000 in
set_option maxHeartbeats 1000000 in
theorem told_v (k : Nat) (pf : Int) (a : Nat) (hk5 : k < 5) (ha : a < tableRs.length) (hpf : -1 ≤ pf ∧ pf < (tablePs.length : Int)) (ba bp ca cp : Nat) (w : World) (h : NI w ba bp ca cp tableRs tablePs) :
    Calls Tryz.prog 55 #[tbV ba bp ca cp tableRs tablePs, .int .i64 ((k : Int) + 1), .int .i64 pf, .int .i64 (a : Int)] w fun e w' => e = .returned (.bool (toldS k pf (a : Int))) ∧ Below w.heap.size w w' := by
  have hX := rtext_v k pf a hk5 ha hpf ba bp ca cp
  have hS := text_short k hk5 pf (a : Int)
  have hF := fun W hW => rfind_v ((k : Int) + 1) k (textS k pf (a : Int)) rfl hk5 ba bp ca cp tableRs tablePs W hW (by rw [len_R]; omega) (by rw [len_P]; omega) hS (codes_short k hk5) (symZ k (textS k pf (a : Int))).1 (symZ k (textS k pf (a : Int))).2 _ rfl rfl
  have hR : Hid (toldS k pf (a : Int) = (decide (textS k pf (a : Int) ≠ []) && decide (symZ k (textS k pf (a : Int)) = (pf, (a : Int))))) := rfl
  obtain ⟨R, hRR⟩ : ∃ R, toldS k pf (a : Int) = R := ⟨_, rfl⟩
  rw [hRR] at hR ⊢
  generalize symZ k (textS k pf (a : Int)) = g at *
  generalize textS k pf (a : Int) = s at *
  obtain ⟨g1, g2⟩ := g
  dsimp only at hF
  clear hRR hS
  have hu : Below w.heap.size w (w.alloc (.cells #[.slice (some ⟨ba, 0, none⟩) tableRs.length ca, .slice (some ⟨bp, 0, none⟩) tablePs.length cp] 89)) := (Below.refl _ _).alloc (Nat.le_refl _) _
  have t0 : (w.alloc (.cells #[.slice (some ⟨ba, 0, none⟩) tableRs.length ca, .slice (some ⟨bp, 0, none⟩) tablePs.length cp] 89)).cell? ⟨w.heap.size, 0, none⟩ = some (.slice (some ⟨ba, 0, none⟩) tableRs.length ca) := by simp [go_sem]
  have t1 : (w.alloc (.cells #[.slice (some ⟨ba, 0, none⟩) tableRs.length ca, .slice (some ⟨bp, 0, none⟩) tablePs.length cp] 89)).cell? ⟨w.heap.size, 1, none⟩ = some (.slice (some ⟨bp, 0, none⟩) tablePs.length cp) := by simp [go_sem]
  unfold tbV at hX hF ⊢
  go_enter Tryz.func55, Tryz.ntmps55
  go_wp2_with fail
  refine (hX _ (h.go hu)).mono ?_
  rintro e w1 ⟨rfl, hb1⟩
  have y0 := (hb1.cell (p := ⟨w.heap.size, 0, none⟩) (cell_lt t0)).trans t0
  have y1 := (hb1.cell (p := ⟨w.heap.size, 1, none⟩) (cell_lt t1)).trans t1
  go_wp2_with fail
  refine (hF w1 ((h.go hu).go hb1)).mono ?_
  rintro e w2 ⟨rfl, hb2⟩
  have hB := (hu.trans (hb1.mono hu.size)).trans (hb2.mono (hu.trans (hb1.mono hu.size)).size)
  clear y0 y1 t0 t1 hb1 hb2 hu
  by_cases hs0 : s = []
  · subst hs0
    have hce : ((bs []).toList == []) = true := by rw [Trees.bs_list]; rfl
    have hem : (bs []).toList.isEmpty = true := by rw [Trees.bs_list]; rfl
    have HR : Hid (R = false) := by
      show _ = _
      rw [hR.out]; rfl
    clear hR hX hF
    go_wp2_with fail
    go_ret
    refine ⟨by rw [HR.out]; rfl, ?_⟩
    first | exact hB | exact hB.trans ((by go_grown : Below _ _ _).mono hB.size)
  · have hem : (bs s).toList.isEmpty = false := by rw [Trees.bs_list]; simpa using hs0
    by_cases hg2 : g2 = (a : Int)
    · subst hg2
      have hne : decide ((a : Int) ≠ -1) = true := decide_eq_true (by omega)
      by_cases hg1 : g1 = pf
      · subst hg1
        have HR : Hid (R = true) := by
          show _ = _
          rw [hR.out, decide_eq_true hs0]; simp
        rw [hne]
        clear hR hX hF hne
        go_wp2_with fail
        go_ret
        refine ⟨by rw [HR.out]; rfl, ?_⟩
        first | exact hB | exact hB.trans ((by go_grown : Below _ _ _).mono hB.size)
      · have HR : Hid (R = false) := by
          show _ = _
          rw [hR.out, decide_eq_false (fun e => hg1 (congrArg Prod.fst e))]; simp
        have hgb : (g1 == pf) = false := by simpa using hg1
        rw [hne]
        clear hR hX hF hne
        go_wp2_with fail
        go_ret
        refine ⟨by rw [HR.out]; rfl, ?_⟩
        first | exact hB | exact hB.trans ((by go_grown : Below _ _ _).mono hB.size)
    · have HR : Hid (R = false) := by
        show _ = _
        rw [hR.out, decide_eq_false (fun e => hg2 (congrArg Prod.snd e))]; simp
      have hgb : (g2 == (a : Int)) = false := by simpa using hg2
      generalize decide (g2 ≠ -1) = ok
      clear hR hX hF
      cases ok <;> by_cases hg1 : g1 = pf
      all_goals
        first | subst hg1 | (have hgc : (g1 == pf) = false := by simpa using hg1)
        go_wp2_with fail
        go_ret
        refine ⟨by rw [HR.out]; rfl, ?_⟩
        first | exact hB | exact hB.trans ((by go_grown : Below _ _ _).mono hB.size)

set_option maxRecDepth 100000 in
set_option maxHeartbeats 1000000 in
theorem rTold_v (k : Nat) (pf : Int) (a : Nat) (hk5 : k < 5) (ha : a < tableRs.length) (hpf : -1 ≤ pf ∧ pf < (tablePs.length : Int)) (w : World) :
    Calls Tryz.prog 34 #[.int .i64 ((k : Int) + 1), .int .i64 pf, .int .i64 (a : Int)] w fun e w' => e = .returned (.bool (toldS k pf (a : Int))) ∧ Below w.heap.size w w' := by
  have hT := refTable_any w
  have hV := fun ba bp ca cp W hW => told_v k pf a hk5 ha hpf ba bp ca cp W hW
  unfold tbV at hV
  generalize toldS k pf (a : Int) = R at *
  have hki : (k : Int) < 5 := by omega
  have hk1 : (1 : Int) ≤ (k : Int) + 1 := by omega
  have hk2 : (k : Int) + 1 ≤ 5 := by omega
  go_enter Tryz.func34, Tryz.ntmps34
  go_wp2_with fail
  refine hT.mono ?_
  rintro e w1 ⟨sa, sp, S, rfl, hTab, hb1⟩
  obtain ⟨ba, bp, ca, cp, rfl, rfl, hNI⟩ := ni_of hTab
  clear hT hTab
  go_wp2_with fail
  refine (hV ba bp ca cp w1 hNI).mono ?_
  rintro e w2 ⟨rfl, hb2⟩
  have hB := hb1.trans (hb2.mono hb1.size)
  clear hV hNI
  go_wp2_with fail
  go_ret
  exact ⟨rfl, hB⟩

set_option maxRecDepth 100000 in
set_option maxHeartbeats 1000000 in
theorem rText_v (k : Nat) (pf : Int) (a : Nat) (hk5 : k < 5) (ha : a < tableRs.length) (hpf : -1 ≤ pf ∧ pf < (tablePs.length : Int)) (w : World) :
    Calls Tryz.prog 91 #[.int .i64 ((k : Int) + 1), .int .i64 pf, .int .i64 (a : Int)] w fun e w' => e = .returned (.string (bs (textS k pf (a : Int)))) ∧ Below w.heap.size w w' := by
  have hT := refTable_any w
  have hV := fun ba bp ca cp W hW => rtext_v k pf a hk5 ha hpf ba bp ca cp W hW
  unfold tbV at hV
  generalize textS k pf (a : Int) = R at *
  have hki : (k : Int) < 5 := by omega
  have hk1 : ¬ (k : Int) + 1 < 1 := by omega
  have hk2 : ¬ 5 < (k : Int) + 1 := by omega
  go_enter Tryz.func91, Tryz.ntmps91
  go_wp2_with fail
  refine hT.mono ?_
  rintro e w1 ⟨sa, sp, S, rfl, hTab, hb1⟩
  obtain ⟨ba, bp, ca, cp, rfl, rfl, hNI⟩ := ni_of hTab
  clear hT hTab
  go_wp2_with fail
  refine (hV ba bp ca cp w1 hNI).mono ?_
  rintro e w2 ⟨rfl, hb2⟩
  have hB := hb1.trans (hb2.mono hb1.size)
  clear hV hNI
  go_wp2_with fail
  go_ret
  exact ⟨rfl, hB⟩

end Go.Proofs.YthofogokpolhdaaGreatDoor.Syms

namespace Go.Proofs.YthofogokpolhdaaGreatDoor.Parses
open Go.RowKit Go.Shelf
open Go.Proofs.YthofogokpolhdaaGreatDoor.Trees (Stp Tr StAt)
open Go.Proofs.YthofogokpolhdaaGreatDoor.Style (bs bs_size bs_app stZ St rof_any)
open Go.Proofs.YthofogokpolhdaaGreatDoor.Toks (cell_lt cell_same)
open Go.Proofs.YthofogokpolhdaaGreatDoor.Syms (rText_v text_short)
open Go.Proofs.YthofogokpolhdaaGreatDoor.Atoms (tableRs tablePs)
open Go.Lib (decDigits)
set_option linter.unusedVariables false
set_option linter.unusedSimpArgs false

/-- A symbol's bytes, its power's. -/
def powB (k : Nat) (n : Int) : List UInt8 := if n = 1 then [] else (if powN k = true then [94] else []) ++ ((if n < 0 then [45] else []) ++ decDigits n.natAbs)
theorem raws_pow (k : Nat) (n : Int) : raws ((k : Int) + 1) (powP k n) = powB k n := by
  have one : ∀ c, raws ((k : Int) + 1) [onePc 3 c] = [c] := fun c => rfl
  have six : raws ((k : Int) + 1) [onePc 6 94] = [94] := rfl
  have num : ∀ u, raws ((k : Int) + 1) [numP u] = decDigits u := fun u => by
    show rawP _ (numP u) ++ [] = _
    rw [List.append_nil]; rfl
  unfold powP powB
  split
  · rfl
  · rw [raws_app, raws_app, num]
    split <;> split <;> rfl
theorem pow_len (k : Nat) (n : Int) (hn : -99 ≤ n ∧ n ≤ 99) : (powB k n).length ≤ 21 := by
  have := dec_len n.natAbs (by omega)
  unfold powB
  split
  · simp
  · rw [List.length_append, List.length_append]
    have a : (if powN k = true then [(94 : UInt8)] else []).length ≤ 1 := by split <;> simp
    have b : (if n < 0 then [(45 : UInt8)] else []).length ≤ 1 := by split <;> simp
    omega

set_option maxRecDepth 100000 in
set_option maxHeartbeats 2000000 in
theorem sym_v (k : Nat) (pf : Int) (a : Nat) (n : Int) (hk5 : k < 5) (ha : a < tableRs.length) (hpf : -1 ≤ pf ∧ pf < (tablePs.length : Int)) (hn : -99 ≤ n ∧ n ≤ 99) (w : World) :
    Calls Tryz.prog 60 #[.int .i64 ((k : Int) + 1), Stp.v ⟨2, pf, (a : Int), n, 0, []⟩] w fun e w' => e = .returned (.string (bs (textS k pf (a : Int) ++ powB k n))) ∧ Below w.heap.size w w' := by
  have hT := fun W => rText_v k pf a hk5 ha hpf W
  have hO := fun W => rof_any ((k : Int) + 1) W
  have hB := fun c W => byteOf_any c W
  have hD := fun u W hu => digits_any u W hu
  have hsl := text_short k hk5 pf (a : Int)
  have hpl := pow_len k n hn
  have hP : Hid (powB k n = if n = 1 then [] else (if powN k = true then [94] else []) ++ ((if n < 0 then [45] else []) ++ decDigits n.natAbs)) := rfl
  have hpw : powN k = ((stZ ((k : Int) + 1)).pow != 0) := rfl
  have h94 : (stZ ((k : Int) + 1)).pow = 0 ∨ (stZ ((k : Int) + 1)).pow = 94 := by
    match k, hk5 with
    | 0, _ => exact .inl rfl
    | 1, _ => exact .inl rfl
    | 2, _ => exact .inr rfl
    | 3, _ => exact .inl rfl
    | 4, _ => exact .inr rfl
  generalize stZ ((k : Int) + 1) = y at *
  obtain ⟨yf, ym, yd, yp, yo, yc⟩ := y
  simp only [St.v] at hO hpw h94
  generalize textS k pf (a : Int) = s at *
  generalize powB k n = P at *
  have zs : (bs s).size ≤ 1000 := by rw [bs_size]; exact hsl
  have hdl := dec_len n.natAbs (by omega)
  generalize hdd : decDigits n.natAbs = Dg at *
  have zd : (bs Dg).size ≤ 19 := by rw [bs_size]; exact hdl
  simp only [Stp.v]
  have HDD := Lib.hid hdd
  clear hdd
  have hu : Below w.heap.size w (w.alloc (.cells #[.int .i64 2, .int .i64 pf, .int .i64 (a : Int), .int .i64 n, .int .i64 0, .string (bs [])] 47)) := by go_grown
  have c3 : (w.alloc (.cells #[.int .i64 2, .int .i64 pf, .int .i64 (a : Int), .int .i64 n, .int .i64 0, .string (bs [])] 47)).cell? ⟨w.heap.size, 3, none⟩ = some (.int .i64 n) := by simp [go_sem]
  go_enter Tryz.func60, Tryz.ntmps60
  go_wp2_with fail
  generalize w.alloc (.cells #[.int .i64 2, .int .i64 pf, .int .i64 (a : Int), .int .i64 n, .int .i64 0, .string (bs [])] 47) = W0 at *
  refine (hT _).mono ?_
  rintro e w1 ⟨rfl, hb1⟩
  have d3 := (hb1.cell (p := ⟨w.heap.size, 3, none⟩) (cell_lt c3)).trans c3
  have hb1 := hu.trans (hb1.mono hu.size)
  clear c3 hT hu
  by_cases h1 : n = 1
  · subst h1
    have HP : Hid (P = []) := by show _ = _; rw [hP.out, if_pos rfl]
    clear hP hO hB hD
    go_wp2_with fail
    go_ret
    refine ⟨?_, hb1⟩
    rw [HP.out, List.append_nil]; rfl
  · have HP : Hid (P = (if powN k = true then [94] else []) ++ ((if n < 0 then [45] else []) ++ Dg)) := by show _ = _; rw [hP.out, if_neg h1]
    have z3 : ∀ x, (bs [x]).size = 1 := fun x => rfl
    have hna : (n == 1) = false := by simpa using h1
    clear hP
    go_wp2_with fail
    refine (hO _).mono ?_
    rintro e w2 ⟨rfl, hb2⟩
    have hu2 := alloc_own w2 (.cells #[.bool yf, .int .u8 ym, .int .u8 yd, .int .u8 yp, .int .u8 yo, .int .u8 yc] 43)
    have e3 := (hu2.cell (p := ⟨w.heap.size, 3, none⟩) (cell_lt ((hb2.cell (p := ⟨w.heap.size, 3, none⟩) (cell_lt d3)).trans d3))).trans ((hb2.cell (p := ⟨w.heap.size, 3, none⟩) (cell_lt d3)).trans d3)
    have y3 : (w2.alloc (.cells #[.bool yf, .int .u8 ym, .int .u8 yd, .int .u8 yp, .int .u8 yo, .int .u8 yc] 43)).cell? ⟨w2.heap.size, 3, none⟩ = some (.int .u8 yp) := by simp [go_sem]
    have hbx := (hb1.trans (hb2.mono hb1.size)).trans (hu2.mono (hb1.trans (hb2.mono hb1.size)).size)
    clear d3 hb2 hu2 hO hb1
    by_cases hneg : n < 0
    · have hnn : -n = (n.natAbs : Int) := by omega
      have hD2 := hD n.natAbs
      rw [HDD.out, ← hnn] at hD2
      have hD3 := fun W => hD2 W (by omega)
      rcases h94 with rfl | rfl
      · have HP2 : Hid (P = [45] ++ Dg) := by show _ = _; rw [HP.out, hpw, if_pos hneg]; rfl
        clear HP hpw hD hD2 hB hnn h1
        go_wp2_with fail
        generalize w2.alloc (.cells #[.bool yf, .int .u8 ym, .int .u8 yd, .int .u8 0, .int .u8 yo, .int .u8 yc] 43) = W2 at *
        refine (hD3 _).mono ?_
        rintro e w4 ⟨rfl, hb4⟩
        have hbx := hbx.trans (hb4.mono hbx.size)
        clear hb4 hD3 e3 y3
        go_wp2_with fail
        go_ret
        refine ⟨?_, hbx⟩
        rw [HP2.out, ← bs_app, ← bs_app, ← ByteArray.append_assoc]; rfl
      · have HP2 : Hid (P = [94] ++ ([45] ++ Dg)) := by show _ = _; rw [HP.out, hpw, if_pos hneg]; rfl
        clear HP hpw hD hD2 hnn h1
        go_wp2_with fail
        generalize w2.alloc (.cells #[.bool yf, .int .u8 ym, .int .u8 yd, .int .u8 94, .int .u8 yo, .int .u8 yc] 43) = W2 at *
        refine (hB 94 _).mono ?_
        rintro e w3 ⟨rfl, hb3⟩
        rw [show byteZ 94 = 94 from rfl]
        have f3 := (hb3.cell (p := ⟨w.heap.size, 3, none⟩) (cell_lt e3)).trans e3
        have hbx := hbx.trans (hb3.mono hbx.size)
        have z4 : (bs s ++ bs [94]).size ≤ 1001 := by rw [ByteArray.size_append, z3]; omega
        clear hb3 hB e3 y3
        go_wp2_with fail
        refine (hD3 _).mono ?_
        rintro e w4 ⟨rfl, hb4⟩
        have hbx := hbx.trans (hb4.mono hbx.size)
        clear hb4 hD3 f3
        go_wp2_with fail
        go_ret
        refine ⟨?_, hbx⟩
        rw [HP2.out, ← bs_app, ← bs_app, ← bs_app, ← ByteArray.append_assoc, ← ByteArray.append_assoc]; rfl
    · obtain ⟨m, rfl⟩ : ∃ m : Nat, n = (m : Int) := ⟨n.toNat, by omega⟩
      rw [Int.natAbs_natCast] at HDD
      have hD2 := hD m
      rw [HDD.out] at hD2
      have hD3 := fun W => hD2 W (by omega)
      rcases h94 with rfl | rfl
      · have HP2 : Hid (P = Dg) := by show _ = _; rw [HP.out, hpw, if_neg hneg]; rfl
        clear HP hpw hD hD2 hB h1
        go_wp2_with fail
        generalize w2.alloc (.cells #[.bool yf, .int .u8 ym, .int .u8 yd, .int .u8 0, .int .u8 yo, .int .u8 yc] 43) = W2 at *
        refine (hD3 _).mono ?_
        rintro e w4 ⟨rfl, hb4⟩
        have hbx := hbx.trans (hb4.mono hbx.size)
        clear hb4 hD3 e3 y3
        go_wp2_with fail
        go_ret
        refine ⟨?_, hbx⟩
        rw [HP2.out, ← bs_app]; rfl
      · have HP2 : Hid (P = [94] ++ Dg) := by show _ = _; rw [HP.out, hpw, if_neg hneg]; rfl
        clear HP hpw hD hD2 h1
        go_wp2_with fail
        generalize w2.alloc (.cells #[.bool yf, .int .u8 ym, .int .u8 yd, .int .u8 94, .int .u8 yo, .int .u8 yc] 43) = W2 at *
        refine (hB 94 _).mono ?_
        rintro e w3 ⟨rfl, hb3⟩
        rw [show byteZ 94 = 94 from rfl]
        have f3 := (hb3.cell (p := ⟨w.heap.size, 3, none⟩) (cell_lt e3)).trans e3
        have hbx := hbx.trans (hb3.mono hbx.size)
        have z4 : (bs s ++ bs [94]).size ≤ 1001 := by rw [ByteArray.size_append, z3]; omega
        clear hb3 hB e3 y3
        go_wp2_with fail
        refine (hD3 _).mono ?_
        rintro e w4 ⟨rfl, hb4⟩
        have hbx := hbx.trans (hb4.mono hbx.size)
        clear hb4 hD3 f3
        go_wp2_with fail
        go_ret
        refine ⟨?_, hbx⟩
        rw [HP2.out, ← bs_app, ← bs_app, ← ByteArray.append_assoc]; rfl

end Go.Proofs.YthofogokpolhdaaGreatDoor.Parses

