/-
  Contracts of frac.apart, partsOf, turned, times, form, join, each by one Lean function of the numbers; the world below stays as it was.
-/
import Derived.Test.YtjklbnakgkffnaaDoorF3
import Derived.Test.YtjklbnakgkffnaaDoorFM
namespace Go.Proofs.YtjklbnakgkffnaaDoor.Frac
open Go.RowKit
open Go.Proofs.YtjklbnakgkffnaaDoor.Whole
set_option linter.unusedVariables false
set_option linter.unusedSimpArgs false

def Pt.v (p : Pt) : Value := .agg #[.int .i64 p.n, .int .i64 p.d, .int .i64 p.e2, .int .i64 p.e5]
def Got.v (g : Got) : Value := .tuple #[.agg #[.int .i64 g.n, .int .i64 g.d, .int .i64 g.t], .int .i64 g.e]
def onceV : Option Pt → Value
  | some z => .tuple #[z.v, .bool true]
  | none => .tuple #[.agg #[.int .i64 0, .int .i64 0, .int .i64 0, .int .i64 0], .bool false]

theorem apart_any (n ten : Int) (w : World) (hT : OfTen w) (hn : n.natAbs ≤ 9223372036854775807) (ht : -2000 ≤ ten) (ht' : ten ≤ 2000) :
    Calls Tryd.prog 61 #[.int .i64 n, .int .i64 ten] w fun e w' => e = .returned (apartP n ten).v ∧ Below w.heap.size w w' := by
  unfold apartP
  by_cases h0 : n = 0
  · rw [if_pos h0, h0]; exact apart_zero ten w hT ht ht'
  · rw [if_neg h0]; exact apart_yes n ten w hT (by omega) (by omega) h0 ht ht'

theorem partsOf_any (n d ten : Int) (w : World) (hT : OfTen w) (hn : n.natAbs ≤ 9223372036854775807) (ht : -1000 ≤ ten) (ht' : ten ≤ 1000) :
    Calls Tryd.prog 64 #[.agg #[.int .i64 n, .int .i64 d, .int .i64 ten]] w fun e w' => e = .returned (partsP n d ten).v ∧ Below w.heap.size w w' := by
  unfold partsP apartP
  by_cases h0 : n = 0
  · rw [if_pos h0, h0]; exact partsOf_zero d ten w hT ht ht'
  · rw [if_neg h0]; exact partsOf_yes n d ten w hT (by omega) (by omega) h0 ht ht'

theorem turned_any (p : Pt) (w : World) (h : p.Ok 1000000) :
    Calls Tryd.prog 63 #[p.v] w fun e w' => e = .returned (turnP p).v ∧ Below w.heap.size w w' := by
  obtain ⟨h1, h2, h3, h4, h5, h6, h7⟩ := h
  unfold turnP
  by_cases h0 : p.n < 0
  · rw [if_pos h0]; exact turned_neg p.n p.d p.e2 p.e5 w (by omega) h0 (by omega) h3 h4 h5 h6 h7
  · rw [if_neg h0]; exact turned_pos p.n p.d p.e2 p.e5 w (by omega) h4 h5 h6 h7

/-- In the world w the block b holds p. -/
def Lies (w : World) (b : Nat) (p : Pt) : Prop := w.cell? ⟨b, 0, none⟩ = some (.int .i64 p.n) ∧ w.cell? ⟨b, 1, none⟩ = some (.int .i64 p.d) ∧ w.cell? ⟨b, 2, none⟩ = some (.int .i64 p.e2) ∧ w.cell? ⟨b, 3, none⟩ = some (.int .i64 p.e5) ∧ b < w.heap.size

theorem Lies.below {w w' : World} {b : Nat} {p : Pt} {B : Nat} (h : Lies w b p) (hb : Below B w w') (hB : b < B) : Lies w' b p := by
  obtain ⟨h0, h1, h2, h3, hz⟩ := h
  exact ⟨(hb.cell (p := ⟨b, 0, none⟩) hB).trans h0, (hb.cell (p := ⟨b, 1, none⟩) hB).trans h1, (hb.cell (p := ⟨b, 2, none⟩) hB).trans h2, (hb.cell (p := ⟨b, 3, none⟩) hB).trans h3, by have := hb.size; omega⟩

theorem times1_any (x y : Pt) (b : Nat) (w : World) (hy : Lies w b y) (hx : x.Ok 1000000) (ho : y.Ok 1000000) :
    Calls Tryd.prog 85 #[x.v, .pointer (some ⟨b, 0, none⟩)] w fun e w' => e = .returned (onceV (timesP x y)) ∧ Below w.heap.size w w' := by
  obtain ⟨c0, c1, c2, c3, hz⟩ := hy
  obtain ⟨h1, h2, h3, h4, h5, h6, h7⟩ := hx
  obtain ⟨k1, k2, k3, k4, k5, k6, k7⟩ := ho
  have g1 := gcd_pos_r x.n y.d k2
  have g2 := gcd_pos_r y.n x.d h2
  unfold timesP
  by_cases f1 : (timesN x y).natAbs ≤ 9223372036854775807
  · by_cases f2 : (timesD x y).natAbs ≤ 9223372036854775807
    · rw [if_pos ⟨f1, f2⟩]
      exact times1_yes x.n x.d x.e2 x.e5 y.n y.d y.e2 y.e5 _ _ _ _ b w hz c0 c1 c2 c3 (by omega) (by omega) (by omega) (by omega) (by omega) (by omega) (by omega) (by omega) ⟨h4, h5⟩ ⟨h6, h7⟩ ⟨k4, k5⟩ ⟨k6, k7⟩ rfl rfl g1 g2 rfl rfl f1 f2
    · rw [if_neg (fun h => f2 h.2)]
      exact times1_no2 x.n x.d x.e2 x.e5 y.n y.d y.e2 y.e5 _ _ _ _ b w hz c0 c1 c2 c3 (by omega) (by omega) (by omega) (by omega) (by omega) (by omega) (by omega) (by omega) ⟨h4, h5⟩ ⟨h6, h7⟩ ⟨k4, k5⟩ ⟨k6, k7⟩ rfl rfl g1 g2 rfl rfl f1 (Nat.lt_of_not_le f2)
  · by_cases f2 : (timesD x y).natAbs ≤ 9223372036854775807
    · rw [if_neg (fun h => f1 h.1)]
      exact times1_no1 x.n x.d x.e2 x.e5 y.n y.d y.e2 y.e5 _ _ _ _ b w hz c0 c1 c2 c3 (by omega) (by omega) (by omega) (by omega) (by omega) (by omega) (by omega) (by omega) ⟨h4, h5⟩ ⟨h6, h7⟩ ⟨k4, k5⟩ ⟨k6, k7⟩ rfl rfl g1 g2 rfl rfl (Nat.lt_of_not_le f1) f2
    · rw [if_neg (fun h => f1 h.1)]
      exact times1_no3 x.n x.d x.e2 x.e5 y.n y.d y.e2 y.e5 _ _ _ _ b w hz c0 c1 c2 c3 (by omega) (by omega) (by omega) (by omega) (by omega) (by omega) (by omega) (by omega) ⟨h4, h5⟩ ⟨h6, h7⟩ ⟨k4, k5⟩ ⟨k6, k7⟩ rfl rfl g1 g2 rfl rfl (Nat.lt_of_not_le f1) (Nat.lt_of_not_le f2)

theorem form_any (p : Pt) (w : World) (hT : OfTen w) (h : p.Ok 500000) :
    Calls Tryd.prog 83 #[p.v] w fun e w' => e = .returned (formP p).v ∧ Below w.heap.size w w' := by
  obtain ⟨n, d, e2, e5⟩ := p
  obtain ⟨h1, h2, h3, h4, h5, h6, h7⟩ := h
  simp only at h1 h2 h3 h4 h5 h6 h7
  unfold formP
  simp only []
  by_cases h0 : n = 0
  · rw [if_pos h0]; subst h0; exact form_zero d e2 e5 w
  rw [if_neg h0]
  by_cases hle : e2 ≤ e5
  · rw [if_pos hle]
    unfold formAt
    by_cases hf : e2 < -1000 ∨ 1000 < e2
    · rw [if_pos hf]; exact form_far1 n d e2 e5 w h0 hle hf
    rw [if_neg hf]
    have he : e5 = e2 + ((e5 - e2).toNat : Nat) := by omega
    by_cases hN : (n * 5 ^ (e5 - e2).toNat).natAbs ≤ 9223372036854775807
    · rw [if_pos hN]
      have := form_five n d e2 _ (e5 - e2).toNat w hT h0 (by omega) (by omega) (by omega) (by omega) (by omega) rfl hN
      rw [← he] at this; exact this
    · rw [if_neg hN]
      have := form_five_over n d e2 _ (e5 - e2).toNat w hT h0 (by omega) (by omega) (by omega) (by omega) (by omega) rfl (Nat.lt_of_not_le hN)
      rw [← he] at this; exact this
  · rw [if_neg hle]
    unfold formAt
    by_cases hf : e5 < -1000 ∨ 1000 < e5
    · rw [if_pos hf]; exact form_far2 n d e2 e5 w h0 (by omega) hf
    rw [if_neg hf]
    have he : e2 = e5 + ((e2 - e5).toNat : Nat) := by omega
    by_cases hN : (n * 2 ^ (e2 - e5).toNat).natAbs ≤ 9223372036854775807
    · rw [if_pos hN]
      have := form_two n d e5 _ (e2 - e5).toNat w hT h0 (by omega) (by omega) (by omega) (by omega) (by omega) rfl hN
      rw [← he] at this; exact this
    · rw [if_neg hN]
      have := form_two_over n d e5 _ (e2 - e5).toNat w hT h0 (by omega) (by omega) (by omega) (by omega) (by omega) rfl (Nat.lt_of_not_le hN)
      rw [← he] at this; exact this

/-- How join's world stands at the head of a round: its own two blocks are the number so far, and the result. -/
def JoinAt (w v : World) (z : Pt) : Prop :=
  Below w.heap.size w v ∧ Lies v w.heap.size z ∧ (∀ j, v.frozen? ⟨w.heap.size, j, none⟩ = false) ∧ v.cell? ⟨w.heap.size + 1, 0, none⟩ = some (.int .i64 0) ∧ v.cell? ⟨w.heap.size + 1, 1, none⟩ = some (.int .i64 0) ∧ v.cell? ⟨w.heap.size + 1, 2, none⟩ = some (.int .i64 0) ∧ (∀ j, v.frozen? ⟨w.heap.size + 1, j, none⟩ = false) ∧ w.heap.size + 1 < v.heap.size

theorem JoinAt.below {w v v' : World} {z : Pt} (h : JoinAt w v z) (hb : Below v.heap.size v v') : JoinAt w v' z := by
  obtain ⟨h1, h2, h3, h4, h5, h6, h7, h8⟩ := h
  have hz := h2.2.2.2.2
  refine ⟨h1.trans (hb.mono (by omega)), h2.below hb hz, fun j => (hb.frozen (p := ⟨w.heap.size, j, none⟩) hz).trans (h3 j), (hb.cell (p := ⟨w.heap.size + 1, 0, none⟩) h8).trans h4, (hb.cell (p := ⟨w.heap.size + 1, 1, none⟩) h8).trans h5, (hb.cell (p := ⟨w.heap.size + 1, 2, none⟩) h8).trans h6, fun j => (hb.frozen (p := ⟨w.heap.size + 1, j, none⟩) h8).trans (h7 j), ?_⟩
  have := hb.size
  omega

theorem JoinAt.set {w v : World} {z : Pt} (h : JoinAt w v z) (y : Pt) :
    JoinAt w ((((v.setCell ⟨w.heap.size, 0, none⟩ (.int .i64 y.n)).setCell ⟨w.heap.size, 1, none⟩ (.int .i64 y.d)).setCell ⟨w.heap.size, 2, none⟩ (.int .i64 y.e2)).setCell ⟨w.heap.size, 3, none⟩ (.int .i64 y.e5)) y := by
  obtain ⟨h1, ⟨l0, l1, l2, l3, l4⟩, h3, h4, h5, h6, h7, h8⟩ := h
  refine ⟨by go_grown, ⟨?_, ?_, ?_, ?_, ?_⟩, fun j => ?_, ?_, ?_, ?_, fun j => ?_, ?_⟩
  all_goals simp [go_sem, *]

set_option maxRecDepth 100000 in
set_option maxHeartbeats 1000000 in
theorem join_any (x y : Pt) (k b : Nat) (w : World) (hT : OfTen w) (hy : Lies w b y) (hx : x.Ok 4000) (ho : y.Ok 4000) (hk : k ≤ 99) :
    Calls Tryd.prog 60 #[x.v, .int .i64 k, .func (.func 85) #[] #[.pointer (some ⟨b, 0, none⟩)]] w fun e w' => e = .returned (joinP x k y).v ∧ Below w.heap.size w w' := by
  have hbz := hy.2.2.2.2
  unfold Pt.v
  go_enter Tryd.func60, Tryd.ntmps60
  go_wp2
  go_loopw [10] (fun c v => ∃ (i : Nat) (z : Pt), c = .int .i64 i ∧ i ≤ k ∧ z.Ok (4000 * (i + 1)) ∧ Hid (joinP z (k - i) y = joinP x k y) ∧ JoinAt w v z) (fun c _ => k - (intOf c).toNat)
  case atStart =>
    refine ⟨0, x, rfl, by omega, hx, rfl, by go_grown, ⟨?_, ?_, ?_, ?_, ?_⟩, fun j => ?_, ?_, ?_, ?_, fun j => ?_, ?_⟩
    all_goals simp [go_sem]
  case round =>
    obtain ⟨i, z, rfl, hi, hz, HJ, hA⟩ := hrel
    have hA0 := hA
    obtain ⟨b0, ⟨l0, l1, l2, l3, l4⟩, fr, r0, r1, r2, rf, hs⟩ := hA0
    have hyv := hy.below b0 hbz
    by_cases hlt : i < k
    · go_wp2_with fail
      refine (times1_any z y b _ hyv (hz.more (by omega)) (ho.more (by omega))).mono ?_
      rintro e v' ⟨rfl, hb⟩
      obtain ⟨b0, ⟨l0, l1, l2, l3, l4⟩, fr, r0, r1, r2, rf, hs⟩ := hA.below hb
      cases ht : timesP z y with
      | none =>
        have HO : Hid (joinP x k y = over) := by
          show joinP x k y = over
          rw [← HJ.out, show k - i = (k - i - 1) + 1 from by omega]
          unfold joinP
          rw [ht]
        clear ht
        unfold onceV
        go_wp2
        refine bodyPost_ret (v := over.v) (by simp [results, Tryd.results60, go_sem, over, Got.v, r0, r1, r2]) rfl ⟨by rw [HO.out], ?_⟩
        go_grown
      | some z' =>
        have HO : Hid (joinP z' (k - (i + 1)) y = joinP x k y) := by
          show joinP z' (k - (i + 1)) y = joinP x k y
          rw [← HJ.out, show k - i = (k - (i + 1)) + 1 from by omega, joinP]
          rw [ht]
        have HZ := Lib.hid (times_ok hz ho ht)
        clear ht
        unfold onceV Pt.v
        go_wp2
        go_roundw
        case rel => exact ⟨i + 1, z', by go_num, by omega, HZ.out.more (by omega), HO, JoinAt.set ⟨b0, ⟨l0, l1, l2, l3, l4⟩, fr, r0, r1, r2, rf, hs⟩ z'⟩
        case measure => simp only [intOf]; omega
    · obtain rfl : i = k := by omega
      go_wp2_with fail
      refine (form_any z _ (hT.below b0) (hz.more (by omega))).mono ?_
      rintro e v' ⟨rfl, hb⟩
      obtain ⟨b0, ⟨l0, l1, l2, l3, l4⟩, fr, r0, r1, r2, rf, hs⟩ := hA.below hb
      have HE : Hid (formP z = joinP x i y) := by
        have := HJ.out
        rw [Nat.sub_self] at this
        exact this
      unfold Got.v
      go_wp2
      refine bodyPost_ret (v := (formP z).v) (by simp [results, Tryd.results60, go_sem, Got.v, r0, r1, r2]) rfl ⟨by rw [HE.out], ?_⟩
      go_grown
end Go.Proofs.YtjklbnakgkffnaaDoor.Frac
