/-
  Contracts of the law's rest and sym, of the document's Loose, In, Next.
-/
import Derived.Test.YteakgagjacjhiaaUI
import Derived.Test.YteakgagjacjhiaaUE
namespace Go.Proofs.Yteakgagjacjhiaa.Trees
open Go.RowKit Go.Shelf
open Go.Proofs.Yteakgagjacjhiaa.Style (bs bs_size bs_at getD_at bs_of)
open Go.Proofs.Yteakgagjacjhiaa.Toks (cell_lt cell_same)
set_option linter.unusedVariables false
set_option linter.unusedSimpArgs false

def restN (x : Int) (n : Nat) : Nat := (x % (n : Int)).toNat
theorem restN_lt (x : Int) (n : Nat) (h : 0 < n) : restN x n < n := by
  have h1 := Int.emod_lt_of_pos x (show (0 : Int) < n by omega)
  have h2 := Int.emod_nonneg x (show (n : Int) ≠ 0 by omega)
  unfold restN; omega
theorem rest_eq (x n : Int) : (x.tmod n + n) % n = x % n := by
  have h := Int.mul_tdiv_add_tmod x n
  rw [Int.add_emod_right]
  calc x.tmod n % n = (x.tmod n + n * x.tdiv n) % n := by rw [Int.add_mul_emod_self_left]
    _ = x % n := by rw [Int.add_comm, h]

set_option maxRecDepth 100000 in
theorem rest_any (x : Int) (n : Nat) (w : World) (h : 1 ≤ n) (hn : n ≤ 1000000) :
    Calls Try.prog 14 #[.int .i64 x, .int .i64 n] w fun e w' => e = .returned (.int .i64 (restN x n)) ∧ w = w' := by
  have hn0 : (0 : Int) < n := by omega
  have hnn : ¬ (n : Int) = 0 := by omega
  have hle : (n : Int) ≤ 1000000 := by omega
  have hl : -(n : Int) < x.tmod n := Int.lt_tmod_of_pos x hn0
  have hr : x.tmod n < n := Int.tmod_lt_of_pos x hn0
  have HE := Lib.hid (rest_eq x n)
  have HN : Hid (((restN x n : Nat) : Int) = x % (n : Int)) := by
    show _ = _
    have := Int.emod_nonneg x hnn
    unfold restN; omega
  go_enter Try.func14, Try.ntmps14
  go_wp2
  go_ret
  exact ⟨by rw [HE.out, HN.out]; rfl, rfl⟩

def symS (a : Int) : Stp := ⟨2, -1, a, 1, 0, []⟩
set_option maxRecDepth 100000 in
theorem lsym_any (a : Int) (w : World) :
    Calls Try.prog 19 #[.int .i64 a] w fun e w' => e = .returned (symS a).v ∧ Below w.heap.size w w' := by
  go_enter Try.func19, Try.ntmps19
  go_wp2
  refine bodyPost_ret (v := (symS a).v) (by simp [results, Try.results19, go_sem, symS, Stp.v]; try rfl) rfl ⟨rfl, by go_grown⟩

/-- Brackets stand around what has that last step, on the right, whatever it is of. -/
def looseZ (op : Int) : Bool := decide (op = 3 ∨ op = 4 ∨ op = 5)
set_option maxRecDepth 100000 in
set_option maxHeartbeats 2000000 in
theorem loose_any (s : Value) (L : List Stp) (w : World) (hV : View w s L) (h0 : 1 ≤ L.length) (hl : L.length ≤ 100000) :
    Calls Try.prog 61 #[s] w fun e w' => e = .returned (.bool (looseZ (L.getD (L.length - 1) default).op)) ∧ Below w.heap.size w w' := by
  obtain ⟨o, c, rfl, hlc, hv⟩ := hV
  obtain ⟨n, hn⟩ : ∃ n, L.length = n + 1 := ⟨L.length - 1, by omega⟩
  obtain ⟨b, off, rfl, v0, _⟩ := hv n (by omega)
  rw [show L.length - 1 = n by omega]
  have hni : (n : Int) ≤ 100000 := by omega
  have hnn : ((n + 1 : Nat) : Int) = (n : Int) + 1 := by omega
  clear hv
  rw [hn]
  generalize (L.getD n default).op = op at *
  unfold looseZ
  by_cases h3 : op = 3
  · subst h3; go_enter Try.func61, Try.ntmps61; go_wp2; go_ret; exact ⟨by first | rfl | simp, by first | exact Below.refl _ _ | go_grown⟩
  by_cases h4 : op = 4
  · subst h4; go_enter Try.func61, Try.ntmps61; go_wp2; go_ret; exact ⟨by first | rfl | simp, by first | exact Below.refl _ _ | go_grown⟩
  by_cases h5 : op = 5
  · subst h5; go_enter Try.func61, Try.ntmps61; go_wp2; go_ret; exact ⟨by first | rfl | simp, by first | exact Below.refl _ _ | go_grown⟩
  have e3 : (op == 3) = false := by simpa using h3
  have e4 : (op == 4) = false := by simpa using h4
  have e5 : (op == 5) = false := by simpa using h5
  rw [decide_eq_false (by omega)]
  go_enter Try.func61, Try.ntmps61
  go_wp2
  go_ret
  exact ⟨by first | rfl | simp, by first | exact Below.refl _ _ | go_grown⟩

end Go.Proofs.Yteakgagjacjhiaa.Trees
