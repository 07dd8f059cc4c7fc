/-
  Contract of frac.Read, by one Lean function of the text; the world below stays as it was.
-/
import Derived.Test.YtjklbnakgkffnaaDoorT4
namespace Go.Proofs.YtjklbnakgkffnaaDoor.Texts
open Go.RowKit
open Go.Proofs.YtjklbnakgkffnaaDoor.Whole
open Go.Proofs.YtjklbnakgkffnaaDoor.Frac
set_option linter.unusedVariables false
set_option linter.unusedSimpArgs false

theorem cut_len (s : List UInt8) (c : UInt8) : (cutB s c).1.length ≤ s.length ∧ (cutB s c).2.1.length ≤ s.length := by
  unfold cutB
  split
  · simp only [List.length_take, List.length_drop]; omega
  · simp

/-- A box of a frac that may be written. -/
def OwnF (v : World) (b : Nat) (n d t : Int) : Prop := LiesF v b n d t ∧ ∀ j, v.frozen? ⟨b, j, none⟩ = false
/-- How the world stands within frac.Read: room for the answer, and the frac that is read. -/
def ReadAt (w v : World) (b : Nat) (n d t : Int) : Prop := Below w.heap.size w v ∧ Room v w.heap.size ∧ OwnF v b n d t ∧ w.heap.size < b
theorem ReadAt.below {w v v' : World} {b : Nat} {n d t : Int} (h : ReadAt w v b n d t) (hb : Below v.heap.size v v') : ReadAt w v' b n d t := by
  obtain ⟨h1, h2, ⟨h3, h4⟩, h5⟩ := h
  exact ⟨Below.go h1 hb, h2.below hb h2.2.2.2.2, ⟨h3.go hb, fun j => (hb.frozen (p := ⟨b, j, none⟩) h3.2.2.2).trans (h4 j)⟩, h5⟩
theorem ReadAt.set0 {w v : World} {b : Nat} {n d t : Int} (h : ReadAt w v b n d t) (x : Int) : ReadAt w (v.setCell ⟨b, 0, none⟩ (.int .i64 x)) b x d t := by
  obtain ⟨h1, ⟨r0, r1, r2, rf, rz⟩, ⟨⟨f0, f1, f2, fz⟩, ff⟩, hb⟩ := h
  have n1 : ¬ w.heap.size = b := by omega
  have n2 : w.heap.size ≤ b := by omega
  refine ⟨by go_grown, ⟨?_, ?_, ?_, fun j => ?_, ?_⟩, ⟨⟨?_, ?_, ?_, ?_⟩, fun j => ?_⟩, hb⟩
  all_goals simp [go_sem, *]
theorem ReadAt.set1 {w v : World} {b : Nat} {n d t : Int} (h : ReadAt w v b n d t) (x : Int) : ReadAt w (v.setCell ⟨b, 1, none⟩ (.int .i64 x)) b n x t := by
  obtain ⟨h1, ⟨r0, r1, r2, rf, rz⟩, ⟨⟨f0, f1, f2, fz⟩, ff⟩, hb⟩ := h
  have n1 : ¬ w.heap.size = b := by omega
  have n2 : w.heap.size ≤ b := by omega
  refine ⟨by go_grown, ⟨?_, ?_, ?_, fun j => ?_, ?_⟩, ⟨⟨?_, ?_, ?_, ?_⟩, fun j => ?_⟩, hb⟩
  all_goals simp [go_sem, *]
theorem ReadAt.set2 {w v : World} {b : Nat} {n d t : Int} (h : ReadAt w v b n d t) (x : Int) : ReadAt w (v.setCell ⟨b, 2, none⟩ (.int .i64 x)) b n d x := by
  obtain ⟨h1, ⟨r0, r1, r2, rf, rz⟩, ⟨⟨f0, f1, f2, fz⟩, ff⟩, hb⟩ := h
  have n1 : ¬ w.heap.size = b := by omega
  have n2 : w.heap.size ≤ b := by omega
  refine ⟨by go_grown, ⟨?_, ?_, ?_, fun j => ?_, ?_⟩, ⟨⟨?_, ?_, ?_, ?_⟩, fun j => ?_⟩, hb⟩
  all_goals simp [go_sem, *]
theorem ReadAt.new {w v : World} (h : Below w.heap.size w v) (hr : Room v w.heap.size) : ReadAt w (v.alloc (.cells #[.int .i64 0, .int .i64 0, .int .i64 0] 24)) v.heap.size 0 0 0 := by
  have hz := hr.2.2.2.2
  refine ⟨by go_grown, hr.below (B := v.heap.size) (by go_grown) hz, ⟨⟨?_, ?_, ?_, ?_⟩, fun j => ?_⟩, hz⟩
  all_goals simp [go_sem]

theorem bs_toList (a : List UInt8) : (bs a).toList = a := by
  rw [ByteArray.toList_eq]; rfl

theorem bs_inj {a b : List UInt8} (h : bs a = bs b) : a = b := by
  have h1 : (bs a).data = (bs b).data := by rw [h]
  simpa [bs] using h1

theorem numI_le (l : List UInt8) : numI l ≤ 9223372036854775807 := by
  rcases end3 (Lib.parseIntB 64 l) with ⟨v, hp⟩ | hp | hp
  · have hv : numI l = v := by unfold numI; rw [hp]
    rw [hv]
    cases l with
    | nil => simp [Lib.parseIntB] at hp
    | cons c r =>
      simp only [Lib.parseIntB] at hp
      split at hp
      · cases hp
      · cases hp
      · split at hp
        · cases hp
        · split at hp
          · cases hp
          · rename_i u _ h1 h2
            simp only [Lib.NumEnd.ok.injEq] at hp
            rw [← hp]
            split
            · omega
            · rename_i h3
              have : ¬ 2 ^ (64 - 1) ≤ u := fun h => h1 ⟨h3, h⟩
              omega
  · have hv : numI l = Lib.intSat 64 l := by unfold numI; rw [hp]
    rw [hv]; unfold Lib.intSat; split <;> decide
  · have hv : numI l = 0 := numI_zero l hp
    rw [hv]; decide

/-- What frac.Read answers. -/
def readG (s : List UInt8) : Got := if textF (cand s).1 (cand s).2.1 (cand s).2.2 = s then ⟨(cand s).1, (cand s).2.1, (cand s).2.2, 0⟩ else ⟨0, 0, 0, 20⟩

set_option maxRecDepth 100000 in
set_option maxHeartbeats 4000000 in
theorem read_any (s : List UInt8) (w : World) (hE : Env w) (hs : s.length ≤ 1000) :
    Calls Tryd.prog 12 #[.string (bs s)] w fun e w' => e = .returned (readG s).v ∧ Below w.heap.size w w' := by
  obtain ⟨ls, lt⟩ := cut_len s 101
  have HQ : Hid (quoL s = (cutB s 101).1) := rfl
  have HT : Hid (tenL s = if (cutB s 101).2.2 then (cutB s 101).2.1 else [48]) := rfl
  obtain ⟨ln, ld⟩ := cut_len (cutB s 101).1 47
  have HN : Hid (numL (quoL s) = (cutB (cutB s 101).1 47).1) := rfl
  have HD : Hid (denL (quoL s) = if (cutB (cutB s 101).1 47).2.2 then (cutB (cutB s 101).1 47).2.1 else [49]) := rfl
  have hB : Below w.heap.size w (w.alloc (.cells #[.int .i64 0, .int .i64 0, .int .i64 0] 24)) := by go_grown
  have hR := Room.new w
  have hE0 := hE
  clear hE
  go_enter Tryd.func12, Tryd.ntmps12
  go_wp2_with fail
  refine (cut_any s 101 _ hs).mono ?_
  rintro e w1 ⟨rfl, hb⟩
  replace hR := hR.below hb hR.2.2.2.2
  replace hB := Below.go hB hb
  clear hb
  generalize cutB s 101 = C at *
  obtain ⟨Q, T, B⟩ := C
  simp only at *
  cases B
  all_goals
    go_wp2_with fail
    first
      | simp only [show (ByteArray.mk #[48]) = bs [48] from rfl]
        have HY : Hid (tenL s = [48]) := by show _ = _; have := HT.out; simpa using this
        have lY : ([48] : List UInt8).length ≤ 1000 := by decide
        clear HT lt
        generalize ([48] : List UInt8) = Y at *
      | have HY : Hid (tenL s = T) := by show _ = _; have := HT.out; simpa using this
        have lY : T.length ≤ 1000 := by omega
        clear HT lt
        generalize T = Y at *
    refine (cut_any Q 47 _ (by omega)).mono ?_
    rintro e w2 ⟨rfl, hb⟩
    replace hR := hR.below hb hR.2.2.2.2
    replace hB := Below.go hB hb
    clear hb
    generalize cutB Q 47 = C at *
    obtain ⟨N, D, B⟩ := C
    simp only at *
    have hA := ReadAt.new hB hR
    clear hB hR
    cases B
  all_goals
    go_wp2_with fail
    first
      | simp only [show (ByteArray.mk #[49]) = bs [49] from rfl]
        have HX : Hid (denL (quoL s) = [49]) := by show _ = _; have := HD.out; simpa using this
        have lX : ([49] : List UInt8).length ≤ 1000 := by decide
        clear HD ld
        generalize ([49] : List UInt8) = X at *
      | have HX : Hid (denL (quoL s) = D) := by show _ = _; have := HD.out; simpa using this
        have lX : D.length ≤ 1000 := by omega
        clear HD ld
        generalize D = X at *
    refine (pint_any N _ (hE0.below hA.1).2.2.1 (hE0.below hA.1).2.2.2 (by omega)).mono ?_
    rintro e w3 ⟨ev, rfl, hb⟩
    replace hA := hA.below hb
    clear hb
    obtain ⟨hB, hR, ⟨⟨c0, c1, c2, cz⟩, cf⟩, hlt⟩ := id hA
    go_wp2_with fail
    clear hB hR c0 c1 c2 cz cf hlt
    replace hA := hA.set0 (numI N)
    refine (pint_any X _ (hE0.below hA.1).2.2.1 (hE0.below hA.1).2.2.2 lX).mono ?_
    rintro e w4 ⟨ev2, rfl, hb⟩
    replace hA := hA.below hb
    clear hb
    obtain ⟨hB, hR, ⟨⟨c0, c1, c2, cz⟩, cf⟩, hlt⟩ := id hA
    go_wp2_with fail
    clear hB hR c0 c1 c2 cz cf hlt
    replace hA := hA.set1 (numI X)
    refine (atoi_any Y _ (hE0.below hA.1).2.2.1 (hE0.below hA.1).2.2.2 lY).mono ?_
    rintro e w5 ⟨ev3, rfl, hb⟩
    replace hA := hA.below hb
    clear hb
    have HA2 := hA.set2 (numA Y)
    obtain ⟨hB, hR, ⟨⟨c0, c1, c2, cz⟩, cf⟩, hlt⟩ := id hA
    go_wp2_with fail
    clear hB hR c0 c1 c2 cz cf hlt hA
    have HC : Hid (cand s = (numI N, numI X, numA Y)) := by
      show cand s = _; unfold cand; rw [HN.out, HX.out, HY.out]
    have HG : Hid (readG s = if textF (numI N) (numI X) (numA Y) = s then ⟨numI N, numI X, numA Y, 0⟩ else ⟨0, 0, 0, 20⟩) := by
      show readG s = _; unfold readG; rw [HC.out]
    refine (text_any _ _ _ _ (hE0.below HA2.1) (numI_le N) (numI_le X)).mono ?_
    rintro e w6 ⟨rfl, hb⟩
    replace HA2 := HA2.below hb
    clear hb HC HN HX HY
    generalize textF (numI N) (numI X) (numA Y) = tx at *
    generalize numI N = x1 at *
    generalize numI X = x2 at *
    generalize numA Y = x3 at *
    obtain ⟨hB, ⟨r0, r1, r2, rf, rz⟩, ⟨⟨c0, c1, c2, cz⟩, cf⟩, hlt⟩ := id HA2
    have n1 : ¬ w.heap.size = w2.heap.size := by omega
    by_cases he : tx = s
    · have HR : Hid (readG s = ⟨x1, x2, x3, 0⟩) := by show _ = _; rw [HG.out, if_pos he]
      have hq : ((bs tx).toList == (bs s).toList) = true := by rw [he]; simp
      have hq2 : ((bs tx).toList != (bs s).toList) = false := by rw [he]; simp
      clear he
      go_wp2
      refine bodyPost_ret (v := (⟨x1, x2, x3, 0⟩ : Got).v) (by simp [results, Tryd.results12, go_sem, Got.v, r0, r1, r2, c0, c1, c2, rf, n1]) rfl ⟨by rw [HR.out], ?_⟩
      go_grown
    · have HR : Hid (readG s = ⟨0, 0, 0, 20⟩) := by show _ = _; rw [HG.out, if_neg he]
      have hq : ((bs tx).toList == (bs s).toList) = false := by rw [beq_eq_false_iff_ne, bs_toList, bs_toList]; exact he
      have hq2 : ((bs tx).toList != (bs s).toList) = true := by rw [bne_iff_ne, bs_toList, bs_toList]; exact he
      clear he
      go_wp2
      refine bodyPost_ret (v := (⟨0, 0, 0, 20⟩ : Got).v) (by simp [results, Tryd.results12, go_sem, Got.v, r0, r1, r2, c0, c1, c2, rf, n1]) rfl ⟨by rw [HR.out], ?_⟩
      go_grown

end Go.Proofs.YtjklbnakgkffnaaDoor.Texts
