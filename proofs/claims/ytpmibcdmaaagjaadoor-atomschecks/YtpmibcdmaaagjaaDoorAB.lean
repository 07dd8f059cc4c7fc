/-
  Contracts of atoms.wrongPrefix, Check.
-/
import Derived.Test.YtpmibcdmaaagjaaDoorA9
namespace Go.Proofs.YtpmibcdmaaagjaaDoor.Atoms
open Go.RowKit
set_option linter.unusedVariables false
set_option linter.unusedSimpArgs false

/-- The slice s holds these prefixes. -/
def PrefsSl (w : World) (s : Value) (ps : List Pre) : Prop := SliceAt w s 6 ps.length (cellP ps)
structure FitsP (ps : List Pre) : Prop where
  len : ps.length ≤ 1000000
  fine : ∀ i, (ps.getD i default).c5.Fine
theorem pre_cells {V : World} {b n : Nat} {ps : List Pre} (hg : Grid V b 6 n (cellP ps)) (k : Nat) (hk : k < n) (r : Pre) (hr : ps.getD k default = r) :
    V.cell? ⟨b, k * 6, none⟩ = some (.string (bs r.c0)) ∧ V.cell? ⟨b, k * 6 + 1, none⟩ = some (.string (bs r.c1)) ∧ V.cell? ⟨b, k * 6 + 2, none⟩ = some (.string (bs r.c2)) ∧ V.cell? ⟨b, k * 6 + 3, none⟩ = some (.string (bs r.c3))
    ∧ V.cell? ⟨b, k * 6 + 4, none⟩ = some (.string (bs r.c4)) ∧ V.cell? ⟨b, k * 6 + 5, none⟩ = some (.int .i64 r.ten) := by
  subst hr
  exact ⟨hg.1 k hk 0 (by omega), hg.1 k hk 1 (by omega), hg.1 k hk 2 (by omega), hg.1 k hk 3 (by omega), hg.1 k hk 4 (by omega), hg.1 k hk 5 (by omega)⟩
theorem wrongP_none {ps : List Pre} {m k : Nat} {K : List (List Int)} (h : addP K (ps.getD k default).codes = none) : wrongP ps (m + 1) k K = k := by
  show (match addP K (ps.getD k default).codes with | none => (k : Int) | some K' => _) = _
  rw [h]
theorem wrongP_row {ps : List Pre} {m k : Nat} {K K' : List (List Int)} (h : addP K (ps.getD k default).codes = some K') (hr : decide (-30 ≤ (ps.getD k default).ten ∧ (ps.getD k default).ten ≤ 30) = false) : wrongP ps (m + 1) k K = k := by
  show (match addP K (ps.getD k default).codes with | none => (k : Int) | some K' => if -30 ≤ (ps.getD k default).ten ∧ (ps.getD k default).ten ≤ 30 then wrongP ps m (k + 1) K' else k) = _
  rw [h]
  simp only []
  rw [if_neg (by simpa using hr)]
theorem wrongP_next {ps : List Pre} {m k : Nat} {K K' : List (List Int)} (h : addP K (ps.getD k default).codes = some K') (hr : decide (-30 ≤ (ps.getD k default).ten ∧ (ps.getD k default).ten ≤ 30) = true) : wrongP ps (m + 1) k K = wrongP ps m (k + 1) K' := by
  show (match addP K (ps.getD k default).codes with | none => (k : Int) | some K' => if -30 ≤ (ps.getD k default).ten ∧ (ps.getD k default).ten ≤ 30 then wrongP ps m (k + 1) K' else k) = _
  rw [h]
  simp only []
  rw [if_pos (by simpa using hr)]

theorem wrongP_in (ps : List Pre) : ∀ (m i : Nat) (K : List (List Int)), -1 ≤ wrongP ps m i K ∧ wrongP ps m i K ≤ (i + m : Nat)
  | 0, i, K => by show -1 ≤ (-1 : Int) ∧ (-1 : Int) ≤ _; omega
  | m + 1, i, K => by
    cases h : addP K (ps.getD i default).codes with
    | none => rw [wrongP_none h]; omega
    | some K' =>
      by_cases hd : decide (-30 ≤ (ps.getD i default).ten ∧ (ps.getD i default).ten ≤ 30) = true
      · rw [wrongP_next h hd]
        have := wrongP_in ps m (i + 1) K'
        omega
      · rw [wrongP_row h (by simpa using hd)]; omega

set_option maxRecDepth 100000 in
set_option maxHeartbeats 4000000 in
theorem wrongPrefix_any (sa sp : Value) (ps : List Pre) (M : Nat) (K : List (List Int)) (w : World) (hf : FitsP ps) (hA : PrefsSl w sp ps) (hM : MapAt w M K) :
    Calls Tryd.prog 18 #[.agg #[sa, sp], .map (some M)] w fun e w' => e = .returned (.int .i64 (wrongP ps ps.length 0 K)) ∧ But M w w' := by
  obtain ⟨o, c, rfl⟩ := SliceAt.slice hA
  have hu : Below w.heap.size w (w.alloc (.cells #[sa, .slice o ps.length c] 29)) := by go_grown
  have hM1 := hM.go hu
  have hln := hf.len
  obtain ⟨res, hres⟩ : ∃ res, wrongP ps ps.length 0 K = res := ⟨_, rfl⟩
  rw [hres]
  have HRES := Lib.hid hres
  clear hres
  have hA1 : ∀ b, o = some ⟨b, 0, none⟩ → 0 < ps.length → b ≠ M ∧ Grid w b 6 ps.length (cellP ps) := by
    intro b hb hn
    rcases hA with ⟨h0, _⟩ | ⟨b', c', he, _, _, hg⟩
    · omega
    · injection he with e1 e2 e3
      rw [hb] at e1
      injection e1 with e1
      injection e1 with e1
      rw [e1]
      exact ⟨hM.no_cell (hg.1 0 hn 0 (by omega)), hg⟩
  have ho : 0 < ps.length → ∃ b, o = some ⟨b, 0, none⟩ := by
    intro hn
    rcases hA with ⟨h0, _⟩ | ⟨b', c', he, _⟩
    · omega
    · injection he with e1 e2 e3
      exact ⟨b', e1⟩
  have HA1 := Lib.hid hA1
  have HO := Lib.hid ho
  clear hA hA1 ho hM
  go_enter Tryd.func18, Tryd.ntmps18
  go_wp2
  go_loopw [10] (fun x wr => ∃ (k : Nat) (K' : List (List Int)), x = .int .i64 k ∧ k ≤ ps.length ∧ Hid (res = wrongP ps (ps.length - k) k K') ∧ MapAt wr M K' ∧ But M w wr) (fun x _ => (ps.length - intOf x).toNat)
  case atStart => exact ⟨0, K, rfl, by omega, HRES.out.symm, hM1, But.of hu⟩
  case round =>
    clear hM1 hu
    obtain ⟨k, K', rfl, hk, hL, hM, hB⟩ := hrel
    by_cases hkn : k < ps.length
    · have hki : (k : Int) < (ps.length : Int) := by omega
      obtain ⟨b, rfl⟩ := HO.out (by omega)
      obtain ⟨hbM, hg⟩ := HA1.out b rfl (by omega)
      replace hg := hB.grid hg hbM
      have HL : Hid (res = wrongP ps ((ps.length - k - 1) + 1) k K') := by
        show _ = _
        rw [hL.out]
        congr 1; omega
      have hrf := hf.fine k
      obtain ⟨r, hr⟩ : ∃ r, ps.getD k default = r := ⟨_, rfl⟩
      obtain ⟨d0, d1, d2, d3, d4, d5⟩ := pre_cells hg k hkn r hr
      rw [hr] at hrf
      have HR := Lib.hid hr
      clear hr hg hL
      have hu : Below wr.heap.size wr (wr.alloc (.cells #[.string (bs r.c0), .string (bs r.c1), .string (bs r.c2), .string (bs r.c3), .string (bs r.c4), .int .i64 r.ten] 49)) := by go_grown
      have hadd := add_any r.c5 M K' _ hrf (hM.go hu)
      have hbM2 : wr.heap.size ≠ M := by have := hM.lt; omega
      have hten : (wr.alloc (.cells #[.string (bs r.c0), .string (bs r.c1), .string (bs r.c2), .string (bs r.c3), .string (bs r.c4), .int .i64 r.ten] 49)).cell? ⟨wr.heap.size, 5, none⟩ = some (.int .i64 r.ten) := by simp [go_sem]
      go_wp2_with fail
      refine hadd.mono ?_
      rintro e W2 ⟨hB2, hend⟩
      replace hten := cell_same hten (hB2.block wr.heap.size (by rw [World.size_alloc]; omega) hbM2)
      replace hB := (hB.trans (But.of (M := M) hu)).trans hB2
      clear hadd hu d0 d1 d2 d3 d4 d5
      rcases hend with ⟨K2, hK2, rfl, hM2⟩ | ⟨hK2, rfl⟩
      · have HA : Hid (addP K' (ps.getD k default).codes = some K2) := by show _ = _; rw [HR.out]; exact hK2
        clear hK2
        have hw := fun V => within_any r.ten 30 V (by omega) (by omega)
        obtain ⟨v, hv⟩ : ∃ v, decide (-30 ≤ r.ten ∧ r.ten ≤ 30) = v := ⟨_, rfl⟩
        rw [hv] at hw
        have HV := Lib.hid hv
        clear hv
        cases v with
        | true =>
          go_wp2_with (go_at_call 33; refine (hw _).mono ?_; rintro e w' ⟨rfl, rfl⟩)
          go_roundw
          case rel =>
            refine ⟨k + 1, K2, rfl, by omega, ?_, hM2, hB⟩
            show _ = _
            rw [HL.out, wrongP_next HA.out (by rw [HR.out]; exact HV.out), Nat.sub_sub]
          case measure => simp only [intOf]; omega
        | false =>
          go_wp2_with (go_at_call 33; refine (hw _).mono ?_; rintro e w' ⟨rfl, rfl⟩)
          go_ret
          exact ⟨by rw [HL.out, wrongP_row HA.out (by rw [HR.out]; exact HV.out)]; rfl, hB⟩
      · have HA : Hid (addP K' (ps.getD k default).codes = none) := by show _ = _; rw [HR.out]; exact hK2
        clear hK2
        go_wp2
        go_ret
        exact ⟨by rw [HL.out, wrongP_none HA.out]; rfl, hB⟩
    · have hke : k = ps.length := by omega
      have hki : ¬ (k : Int) < (ps.length : Int) := by omega
      have HZ : Hid (res = -1) := by show _ = _; rw [hL.out, hke, Nat.sub_self]; rfl
      clear hke hL
      go_wp2
      go_ret
      exact ⟨by rw [HZ.out]; rfl, hB⟩

set_option maxRecDepth 100000 in
set_option maxHeartbeats 4000000 in
theorem check_any (sa sp : Value) (rows : List Row) (S : Nat → Value) (ps : List Pre) (w : World) (hf : Fits rows) (hfp : FitsP ps) (hA : AtomsSl w sa rows S) (hP : PrefsSl w sp ps) (hT : Frac.OfTen w) :
    Calls Tryd.prog 8 #[.agg #[sa, sp]] w fun e w' => e = .returned (.int .i64 (checkT rows ps)) ∧ Below w.heap.size w w' := by
  obtain ⟨o, c, rfl⟩ := SliceAt.slice hA.1
  obtain ⟨o2, c2, rfl⟩ := SliceAt.slice hP
  have hl1 := hf.len
  have hl2 := hfp.len
  by_cases h1 : 100 < rows.length
  · have e : checkT rows ps = ((rows.length + ps.length : Nat) : Int) := by unfold checkT; rw [if_pos (.inl h1)]
    rw [e]; clear e
    have hi : (100 : Int) < rows.length := by omega
    have hB : Below w.heap.size w (w.alloc (.cells #[.slice o rows.length c, .slice o2 ps.length c2] 29)) := by go_grown
    go_enter Tryd.func8, Tryd.ntmps8
    go_wp2
    go_ret
    exact ⟨by simp, hB⟩
  by_cases h2 : 30 < ps.length
  · have e : checkT rows ps = ((rows.length + ps.length : Nat) : Int) := by unfold checkT; rw [if_pos (.inr h2)]
    rw [e]; clear e
    have hi : (rows.length : Int) ≤ 100 := by omega
    have hi2 : (30 : Int) < ps.length := by omega
    have hB : Below w.heap.size w (w.alloc (.cells #[.slice o rows.length c, .slice o2 ps.length c2] 29)) := by go_grown
    go_enter Tryd.func8, Tryd.ntmps8
    go_wp2
    go_ret
    exact ⟨by simp, hB⟩
  have HC : Hid (checkT rows ps = if wrongA rows rows.length 0 [] ≠ -1 then wrongA rows rows.length 0 [] else if wrongP ps ps.length 0 [] ≠ -1 then (rows.length : Int) + wrongP ps ps.length 0 [] else -1) := by
    show _ = _
    unfold checkT
    rw [if_neg (by omega)]
  have hi : (rows.length : Int) ≤ 100 := by omega
  have hi2 : (ps.length : Int) ≤ 30 := by omega
  have hu : Below w.heap.size w ((w.alloc (.cells #[.slice o rows.length c, .slice o2 ps.length c2] 29)).alloc (.map #[] 0)) := by go_grown
  have hM := MapAt.new (w.alloc (.cells #[.slice o rows.length c, .slice o2 ps.length c2] 29))
  rw [World.size_alloc] at hM
  have hwa := wrongAtom_any _ (.slice o2 ps.length c2) rows S (w.heap.size + 1) [] _ hf (hA.go hu) hM (hT.below hu)
  have hP1 := SliceAt.go hP hu
  have b0 : ((w.alloc (.cells #[.slice o rows.length c, .slice o2 ps.length c2] 29)).alloc (.map #[] 0)).cell? ⟨w.heap.size, 0, none⟩ = some (.slice o rows.length c) := by simp [go_sem]
  have b1 : ((w.alloc (.cells #[.slice o rows.length c, .slice o2 ps.length c2] 29)).alloc (.map #[] 0)).cell? ⟨w.heap.size, 1, none⟩ = some (.slice o2 ps.length c2) := by simp [go_sem]
  obtain ⟨va, hva⟩ : ∃ va, wrongA rows rows.length 0 [] = va := ⟨_, rfl⟩
  obtain ⟨vp, hvp⟩ : ∃ vp, wrongP ps ps.length 0 [] = vp := ⟨_, rfl⟩
  obtain ⟨vc, hvc⟩ : ∃ vc, checkT rows ps = vc := ⟨_, rfl⟩
  have HP := Lib.hid hvp
  have hvin := wrongP_in ps ps.length 0 []
  rw [hvp] at hvin
  obtain ⟨hv1, hv2⟩ := hvin
  rw [hva] at hwa
  replace HC : Hid (vc = if va ≠ -1 then va else if vp ≠ -1 then (rows.length : Int) + vp else -1) := by
    show _ = _
    rw [← hvc, HC.out, hva, hvp]
  rw [hvc]
  clear hva hvp hvc hA
  have hmm := @run_makeMap Tryd.prog
  have hbelow : ∀ V, But (w.heap.size + 1) ((w.alloc (.cells #[.slice o rows.length c, .slice o2 ps.length c2] 29)).alloc (.map #[] 0)) V → Below w.heap.size w V := fun V h =>
    hu.trans (h.below (by simp only [World.size_alloc]; omega) (by omega))
  have hbox : ∀ V, But (w.heap.size + 1) ((w.alloc (.cells #[.slice o rows.length c, .slice o2 ps.length c2] 29)).alloc (.map #[] 0)) V → V.cell? ⟨w.heap.size, 0, none⟩ = some (.slice o rows.length c) ∧ V.cell? ⟨w.heap.size, 1, none⟩ = some (.slice o2 ps.length c2) := fun V h =>
    have hs := h.block w.heap.size (by simp only [World.size_alloc]; omega) (by omega)
    ⟨cell_same b0 hs, cell_same b1 hs⟩
  have HB := Lib.hid hbelow
  have HX := Lib.hid hbox
  clear hbelow hbox b0 b1
  go_enter Tryd.func8, Tryd.ntmps8
  go_wp2_with fail
  refine hwa.mono ?_
  rintro e w1 ⟨rfl, hB1, hmap⟩
  clear hwa
  by_cases ha : va = -1
  · obtain ⟨K1, hM1⟩ := hmap ha
    have ea : (va != -1) = false := by simp [ha]
    obtain ⟨oc, hcl, hM2⟩ := hM1.clear
    have hB2 := hB1.trans (But.put (w.heap.size + 1) w1 oc)
    have hP2 : PrefsSl (w1.putObj (w.heap.size + 1) oc) (.slice o2 ps.length c2) ps := by
      rcases hP1 with h | ⟨b, c', he, hc', hsp, hg⟩
      · exact .inl h
      · have hbn : b ≠ w.heap.size + 1 := by
          have := (SliceAt.go hP (Below.refl _ _))
          rcases hP with ⟨h0, he0⟩ | ⟨b'', c'', he', _, _, hg'⟩
          · rw [he0] at he; cases he
          · rw [he'] at he
            injection he with e1
            injection e1 with e1
            injection e1 with e1
            have := hg'.2.2
            omega
        exact .inr ⟨b, c', he, hc', hsp.block (hB2.block b hg.2.2 hbn), hB2.grid hg hbn⟩
    have hwp := wrongPrefix_any (.slice o rows.length c) _ ps (w.heap.size + 1) [] _ hfp hP2 hM2
    rw [HP.out] at hwp
    obtain ⟨b0, b1⟩ := HX.out _ hB2
    have HA := Lib.hid ha
    clear ha hM hM1 hP2 hmap hP1 hP hM2
    go_wp2_with fail
    refine hwp.mono ?_
    rintro e w3 ⟨rfl, hB3⟩
    replace hB2 := hB2.trans hB3
    clear hwp b0 b1 hB3
    obtain ⟨b0, b1⟩ := HX.out _ hB2
    by_cases hp : vp = -1
    · have ep : (vp != -1) = false := by simp [hp]
      have HV : Hid (vc = -1) := by show _ = _; rw [HC.out, if_neg (by simpa using HA.out), if_neg (by simpa using hp)]
      clear hp
      go_wp2
      go_ret
      exact ⟨by rw [HV.out]; rfl, HB.out _ hB2⟩
    · have ep : (vp != -1) = true := by simpa using hp
      have HV : Hid (vc = (rows.length : Int) + vp) := by show _ = _; rw [HC.out, if_neg (by simpa using HA.out), if_pos hp]
      clear hp
      go_wp2
      go_ret
      exact ⟨by rw [HV.out]; simp, HB.out _ hB2⟩
  · have ea : (va != -1) = true := by simpa using ha
    have HV : Hid (vc = va) := by show _ = _; rw [HC.out, if_pos ha]
    clear ha hmap
    go_wp2
    go_ret
    exact ⟨by rw [HV.out]; rfl, HB.out _ hB1⟩

end Go.Proofs.YtpmibcdmaaagjaaDoor.Atoms
