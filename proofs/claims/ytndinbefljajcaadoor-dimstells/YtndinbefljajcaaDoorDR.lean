/-
  The contract of dims.Read: what it answers at any text; the world below stays as it was.
-/
import Derived.Test.YtndinbefljajcaaDoorD6
namespace Go.Proofs.YtndinbefljajcaaDoor.Dims
open Go.RowKit Go.Shelf
open Go.Proofs.YtndinbefljajcaaDoor.Texts (numA numA_zero)
set_option linter.unusedVariables false
set_option linter.unusedSimpArgs false

theorem num_split : ∀ b : List UInt8, b.length = (b.takeWhile isNum).length + (b.dropWhile isNum).length ∧ b.take (b.takeWhile isNum).length = b.takeWhile isNum
  | [] => by simp
  | c :: b => by
    have ih := num_split b
    by_cases h : isNum c = true
    · simp only [List.takeWhile_cons, List.dropWhile_cons, h, if_true, List.length_cons, List.take_succ_cons, ih.2, and_true]
      omega
    · simp [List.takeWhile_cons, List.dropWhile_cons, h]

/-- The text's rest lies in a box of its own. -/
def RestAt (W : World) (B : Nat) (r : List UInt8) : Prop := W.cell? ⟨B, 0, none⟩ = some (.string (bs r)) ∧ W.frozen? ⟨B, 0, none⟩ = false ∧ B < W.heap.size
theorem RestAt.below {W W' : World} {B B' : Nat} {r : List UInt8} (h : RestAt W B r) (hb : Below B' W W') (hl : B < B') : RestAt W' B r :=
  ⟨(hb.cell (p := ⟨B, 0, none⟩) hl).trans h.1, (hb.frozen (p := ⟨B, 0, none⟩) hl).trans h.2.1, by have := hb.size; have := h.2.2; omega⟩
theorem RestAt.put {W : World} {B : Nat} {r : List UInt8} (h : RestAt W B r) (q : List UInt8) : RestAt (W.setCell ⟨B, 0, none⟩ (.string (bs q))) B q :=
  ⟨World.cell?_setCell_same _ _ _ h.1, (World.frozen?_setCell _ _ _ _).trans h.2.1, by rw [World.size_setCell]; exact h.2.2⟩

/-- A block beyond the package variables. -/
def Past (B : Nat) : Prop := 0 < B ∧ 2 < B ∧ 3 < B ∧ 6 < B
theorem Past.mono {B B' : Nat} (h : Past B) (hl : B ≤ B') : Past B' := ⟨by have := h.1; omega, by have := h.2.1; omega, by have := h.2.2.1; omega, by have := h.2.2.2; omega⟩
theorem pow_global : Tryd.prog.globalNamed "internal/strconv.uint64pow10" = some 6 := by kernel_rfl
theorem Env.past {W : World} (h : Env W) : Past W.heap.size :=
  ⟨h.1.2, h.2.2.1.1, h.2.2.2.1, World.block_lt_of_cell? _ _ (h.2.1.cell pow_global 0 (by decide))⟩
/-- What the package variables hold stands where all below a later block does. -/
theorem Env.under {W W' : World} {B : Nat} (h : Env W) (hB : Past B) (hk : Below B W W') : Env W' := by
  obtain ⟨⟨l1, l2⟩, ht, ⟨e1, ev, e2, e3⟩, ⟨f1, fv, f2, f3⟩⟩ := h
  have hs := hk.size
  refine ⟨⟨fun i hi => (hk.cell (p := ⟨0, i, none⟩) hB.1).trans (l1 i hi), by omega⟩, ?_, ⟨by omega, ev, (hk.cell (p := ⟨2, 0, none⟩) hB.2.1).trans e2, e3⟩, ⟨by omega, fv, (hk.cell (p := ⟨3, 0, none⟩) hB.2.2.1).trans f2, f3⟩⟩
  unfold Tab Lib.TabIs World.var? at ht ⊢
  rw [pow_global] at ht ⊢
  simp only [Option.bind_some] at ht ⊢
  rw [hk.block _ hB.2.2.2]
  exact ht
theorem Env.put {W : World} {B : Nat} {v : Value} (h : Env W) (hB : Past B) : Env (W.setCell ⟨B, 0, none⟩ v) :=
  h.under hB ((Below.refl _ _).setCell (p := ⟨B, 0, none⟩) (Nat.le_refl _) v)

/-- What a call of the function does to the world: it may turn the rest; it may make memory. -/
def Turned (B : Nat) (W W' : World) : Prop := Below B W W' ∧ Owns (B + 1) W W'
theorem Turned.refl (B : Nat) (W : World) : Turned B W W := ⟨Below.refl _ _, Owns.refl _ _⟩
theorem Turned.below {B : Nat} {W V V' : World} (h : Turned B W V) (hz : B ≤ W.heap.size) (hb : Below V.heap.size V V') : Turned B W V' :=
  ⟨Below.goB h.1 (Nat.le_trans hz h.1.size) hb, Nat.le_trans h.2.1 hb.size, fun b h1 h2 => (hb.block b (Nat.lt_of_lt_of_le h2 h.2.1)).trans (h.2.2 b h1 h2)⟩
theorem Turned.put {B : Nat} {W V : World} (h : Turned B W V) (v : Value) : Turned B W (V.setCell ⟨B, 0, none⟩ v) :=
  ⟨h.1.setCell (p := ⟨B, 0, none⟩) (Nat.le_refl _) v, by rw [World.size_setCell]; exact h.2.1, fun b h1 h2 => (Below.heap_setCell V ⟨B, 0, none⟩ v b (by show b ≠ B; omega)).trans (h.2.2 b h1 h2)⟩

set_option maxRecDepth 100000 in
set_option maxHeartbeats 2000000 in
theorem read1_yes (i : Nat) (hi : i < 7) (x : Int) (B : Nat) (b : List UInt8) (W : World) (hE : Env W) (hR : RestAt W B (letter i :: b)) (hl : b.length ≤ 900) (hG : Past B) :
    Calls Tryd.prog 25 #[.int .i64 i, .int .i64 x, .pointer (some ⟨B, 0, none⟩)] W fun e W' => e = .returned (.int .i64 (numA (b.takeWhile isNum))) ∧ RestAt W' B (b.dropWhile isNum) ∧ Turned B W W' := by
  have hT := Turned.refl B W
  have c0 := hR.1
  have c1 := hE.1.1 i hi
  have i7 : (i : Int) < 7 := by omega
  have hcp := cutp_any (letter i :: b) (letter i)
  have h1 : Lib.trimPrefix (letter i :: b) [letter i] = b := by simp [Lib.trimPrefix, Lib.hasPrefix]
  have h2 : Lib.hasPrefix (letter i :: b) [letter i] = true := by simp [Lib.hasPrefix]
  rw [h1, h2] at hcp
  obtain ⟨n1, n2⟩ := num_split b
  have HN := Lib.hid n2
  have htr := trim_any b
  have hat := atoi_any (b.takeWhile isNum)
  have s1 : (bs b).size = b.length := bs_size b
  have s2 : (bs (b.dropWhile isNum)).size = (b.dropWhile isNum).length := bs_size _
  have s3 : (bs b).extract 0 (b.takeWhile isNum).length = bs (b.takeWhile isNum) := by rw [bs_extract, n2]; simp
  clear h1 h2 n2
  generalize b.takeWhile isNum = P at *
  generalize b.dropWhile isNum = Q at *
  generalize letter i :: b = S at *
  have hsub : (b.length : Int) - (Q.length : Int) = (P.length : Int) := by omega
  go_enter Tryd.func25, Tryd.ntmps25
  go_wp2
  go_region_held3 (fun v => v.cell? ⟨B, 0, none⟩ = some (.string (bs S)) ∧ v.cell? ⟨0, i, none⟩ = some (.string (bs [letter i])))
    (first | exact ⟨c0, c1⟩ | go_keep)
    (first | (go_at_call 26; refine (hcp _).mono ?_; rintro e w' ⟨rfl, rfl⟩))
  go_wp2_with fail
  replace hT := hT.below (V' := W.drew) (Nat.le_of_lt hR.2.2) (by go_grown)
  replace hE : Env W.drew := hE.below (by go_grown)
  replace hR : RestAt W.drew B S := hR
  have hz0 : B ≤ W.heap.size := Nat.le_of_lt hR.2.2
  refine (htr _).mono ?_
  rintro e w1 ⟨rfl, hb⟩
  replace hT := hT.below hz0 hb
  replace hR := hR.below hb hR.2.2
  replace hE := hE.below hb
  clear hb c0 c1 hcp htr
  have c0 := hR.1
  have cf := hR.2.1
  have hT2 := hT.put (.string (bs Q))
  have hR2 := hR.put Q
  have hE2 : Env (w1.setCell ⟨B, 0, none⟩ (.string (bs Q))) := hE.put hG
  have c2 := hR2.1
  go_wp2_with fail
  clear hT hR hE c0 cf
  generalize w1.setCell ⟨B, 0, none⟩ (.string (bs Q)) = U at *
  refine (hat _ hE2.2.2.1 hE2.2.2.2 (by omega)).mono ?_
  rintro e w2 ⟨ev, rfl, hb⟩
  replace hT2 := hT2.below hz0 hb
  replace hR2 := hR2.below hb hR2.2.2
  clear hb
  go_wp2
  go_ret
  exact ⟨rfl, hR2, hT2⟩

set_option maxRecDepth 100000 in
set_option maxHeartbeats 2000000 in
theorem read1_no (i : Nat) (hi : i < 7) (x : Int) (B : Nat) (r : List UInt8) (W : World) (hE : Env W) (hR : RestAt W B r) (hn : Lib.hasPrefix r [letter i] = false) :
    Calls Tryd.prog 25 #[.int .i64 i, .int .i64 x, .pointer (some ⟨B, 0, none⟩)] W fun e W' => e = .returned (.int .i64 0) ∧ RestAt W' B r ∧ Turned B W W' := by
  have hT := Turned.refl B W
  have c0 := hR.1
  have c1 := hE.1.1 i hi
  have i7 : (i : Int) < 7 := by omega
  have hcp := cutp_any r (letter i)
  rw [hn] at hcp
  have hz0 : B ≤ W.heap.size := Nat.le_of_lt hR.2.2
  go_enter Tryd.func25, Tryd.ntmps25
  go_wp2
  go_region_held3 (fun v => v.cell? ⟨B, 0, none⟩ = some (.string (bs r)) ∧ v.cell? ⟨0, i, none⟩ = some (.string (bs [letter i])))
    (first | exact ⟨c0, c1⟩ | go_keep)
    (first | (go_at_call 26; refine (hcp _).mono ?_; rintro e w' ⟨rfl, rfl⟩))
  go_wp2
  go_ret
  exact ⟨rfl, hR, hT.below hz0 (by go_grown)⟩

theorem read1_any (i : Nat) (hi : i < 7) (x : Int) (B : Nat) (r : List UInt8) (W : World) (hE : Env W) (hR : RestAt W B r) (hl : r.length ≤ 900) (hG : Past B) :
    Calls Tryd.prog 25 #[.int .i64 i, .int .i64 x, .pointer (some ⟨B, 0, none⟩)] W fun e W' => e = .returned (.int .i64 (stepG i r).1) ∧ RestAt W' B (stepG i r).2 ∧ Turned B W W' := by
  cases r with
  | nil => exact read1_no i hi x B [] W hE hR rfl
  | cons c b =>
    by_cases h : c = letter i
    · subst h
      have hs : stepG i (letter i :: b) = (numA (b.takeWhile isNum), b.dropWhile isNum) := by simp [stepG]
      rw [hs]
      exact read1_yes i hi x B b W hE hR (by simp only [List.length_cons] at hl; omega) hG
    · have hs : stepG i (c :: b) = (0, c :: b) := by simp [stepG, h]
      rw [hs]
      refine read1_no i hi x B (c :: b) W hE hR ?_
      have h' : ¬ letter i = c := fun e => h e.symm
      simp [Lib.hasPrefix, List.isPrefixOf, h']

theorem rest_len (s : List UInt8) : ∀ k, (restG s k).length ≤ s.length
  | 0 => Nat.le_refl _
  | k + 1 => by
    have ih := rest_len s k
    simp only [restG]
    generalize restG s k = r at *
    cases r with
    | nil => simp [stepG]
    | cons c b =>
      simp only [stepG]
      split
      · have := (num_split b).1
        simp only [List.length_cons] at ih
        show (b.dropWhile isNum).length ≤ _
        omega
      · exact ih

theorem each_read (s : List UInt8) (hs : s.length ≤ 900) (B : Nat) (V : World) (hE : Env V) (hR : RestAt V B s) (hG : Past B) :
    Calls Tryd.prog 24 #[dZero.v, .func (.func 25) #[] #[.pointer (some ⟨B, 0, none⟩)]] V fun e w' => e = .returned (candG s).v ∧ Below B V w' := by
  have hl := hR.2.2
  refine (each_any dZero 25 _ (powG s) (fun i W => RestAt W B (restG s i) ∧ Below B V W) V (enters_of Tryd.func25 (by kernel_rfl) rfl) ?_ ?_ ⟨hR, Below.refl _ _⟩).mono ?_
  · intro i W W' h hb
    exact ⟨h.1.below hb hl, h.2.trans (hb.mono (by omega))⟩
  · intro i hi W h hz
    refine (read1_any i hi _ B (restG s i) W (hE.under hG h.2) h.1 (Nat.le_trans (rest_len s i) hs) hG).mono ?_
    rintro e W' ⟨rfl, hr, ht⟩
    exact ⟨rfl, ⟨hr, h.2.trans ht.1⟩, ht.2.1, fun b h1 h2 => ht.2.2 b (by omega) h2⟩
  · rintro e w' ⟨rfl, h⟩
    exact ⟨rfl, h.2⟩

theorem numA_fine (l : List UInt8) : -9223372036854775808 ≤ numA l ∧ numA l ≤ 9223372036854775807 := by
  rcases end3 (Lib.atoiAll l) with ⟨v, hp⟩ | hp | hp
  · have hv : numA l = v := by unfold numA; rw [hp]
    rw [hv]
    cases l with
    | nil => simp [Lib.atoiAll] at hp
    | cons c r =>
      simp only [Lib.atoiAll] at hp
      split at hp
      · cases hp
      · cases hp
      · split at hp
        · cases hp
        · split at hp
          · cases hp
          · rename_i u _ h1 h2
            simp only [Lib.NumEnd.ok.injEq] at hp
            rw [← hp]
            split
            · rename_i h3
              have : ¬ 9223372036854775808 < u := fun h => h2 ⟨h3, h⟩
              omega
            · rename_i h3
              have : ¬ 9223372036854775808 ≤ u := fun h => h1 ⟨h3, h⟩
              omega
  · have hv : numA l = Lib.atoiSat l := by unfold numA; rw [hp]
    rw [hv]; unfold Lib.atoiSat; split <;> decide
  · have hv : numA l = 0 := numA_zero l hp
    rw [hv]; decide

theorem cand_fine (s : List UInt8) : Fine (candG s) := by
  intro i hi
  unfold candG
  rw [get_of _ i hi]
  unfold powG
  generalize restG s i = r
  cases r with
  | nil => simp [stepG]
  | cons c b =>
    simp only [stepG]
    split
    · exact numA_fine _
    · simp

/-- How the world stands within Read. -/
def ReadAt (w v : World) : Prop := Below w.heap.size w v ∧ Lies7 v w.heap.size dZero.get
theorem ReadAt.below {w v v' : World} {B : Nat} (h : ReadAt w v) (hb : Below B v v') (hB : w.heap.size < B) : ReadAt w v' :=
  ⟨h.1.trans (hb.mono (by omega)), h.2.below hb hB⟩

set_option maxRecDepth 100000 in
set_option maxHeartbeats 2000000 in
theorem read_any (s : List UInt8) (hs : s.length ≤ 900) (w : World) (hE : Env w) :
    Calls Tryd.prog 10 #[.string (bs s)] w fun e w' => e = .returned (.tuple #[(readG s).1.v, .bool (readG s).2]) ∧ Below w.heap.size w w' := by
  have hG : Past (w.heap.size + 1) := hE.past.mono (by omega)
  have hA : ReadAt w (w.alloc (.cells #[.int .i64 0, .int .i64 0, .int .i64 0, .int .i64 0, .int .i64 0, .int .i64 0, .int .i64 0] 23)) := ⟨by go_grown, Lies7.new w dZero⟩
  have hR : RestAt ((w.alloc (.cells #[.int .i64 0, .int .i64 0, .int .i64 0, .int .i64 0, .int .i64 0, .int .i64 0, .int .i64 0] 23)).alloc (.cells #[.string (bs s)] 9)) (w.heap.size + 1) s := by
    refine ⟨?_, ?_, ?_⟩ <;> simp [go_sem]
  replace hA := hA.below (B := w.heap.size + 1) (v' := (w.alloc (.cells #[.int .i64 0, .int .i64 0, .int .i64 0, .int .i64 0, .int .i64 0, .int .i64 0, .int .i64 0] 23)).alloc (.cells #[.string (bs s)] 9)) (by go_grown) (by omega)
  replace hE : Env ((w.alloc (.cells #[.int .i64 0, .int .i64 0, .int .i64 0, .int .i64 0, .int .i64 0, .int .i64 0, .int .i64 0] 23)).alloc (.cells #[.string (bs s)] 9)) := hE.below (by go_grown)
  have hEa := each_read s hs (w.heap.size + 1) _ hE hR hG
  have hT := fun v hv => text_any (candG s) v hv (cand_fine s)
  have HG : Hid (readG s = if textD (candG s) = s then (candG s, true) else (dZero, false)) := by show _ = _; unfold readG; rfl
  generalize textD (candG s) = T at *
  generalize candG s = O at *
  simp only [D7.v, dZero] at hEa hT ⊢
  go_enter Tryd.func10, Tryd.ntmps10
  go_wp2_with fail
  refine hEa.mono ?_
  rintro e w1 ⟨rfl, hb⟩
  replace hA := hA.below hb (by omega)
  replace hE := hE.under hG hb
  clear hb hR hEa
  have hO := Lies7.new w1 O
  have hz1 : w.heap.size < w1.heap.size := hA.2.2.2
  replace hE : Env (w1.alloc (.cells #[.int .i64 O.a0, .int .i64 O.a1, .int .i64 O.a2, .int .i64 O.a3, .int .i64 O.a4, .int .i64 O.a5, .int .i64 O.a6] 23)) := hE.below (by go_grown)
  replace hA := hA.below (B := w1.heap.size) (v' := w1.alloc (.cells #[.int .i64 O.a0, .int .i64 O.a1, .int .i64 O.a2, .int .i64 O.a3, .int .i64 O.a4, .int .i64 O.a5, .int .i64 O.a6] 23)) (by go_grown) hz1
  go_wp2_with fail
  generalize w1.alloc (.cells #[.int .i64 O.a0, .int .i64 O.a1, .int .i64 O.a2, .int .i64 O.a3, .int .i64 O.a4, .int .i64 O.a5, .int .i64 O.a6] 23) = U at *
  refine (hT _ hE).mono ?_
  rintro e w2 ⟨rfl, hb⟩
  replace hA := hA.below hb hA.2.2.2
  replace hO := hO.below hb hO.2.2
  clear hb
  obtain ⟨hB, hZ⟩ := id hA
  obtain ⟨m0, m1, m2, m3, m4, m5, m6⟩ := hZ.cells
  have mf := hZ.2.1
  have tl : ∀ l : List UInt8, (bs l).toList = l := bs_toList
  by_cases h : T = s
  · have e1 : (T == s) = true := by simp [h]
    have e2 : (T != s) = false := by simp [h]
    have HG2 := Lib.hid (HG.out.trans (if_pos h))
    clear HG h
    obtain ⟨c0, c1, c2, c3, c4, c5, c6⟩ := hO.cells
    simp only [D7.get] at c0 c1 c2 c3 c4 c5 c6
    go_wp2
    refine bodyPost_ret (v := .tuple #[O.v, .bool true]) (by simp [results, Tryd.results10, go_sem, D7.v, m0, m1, m2, m3, m4, m5, m6]) rfl ⟨by rw [HG2.out]; rfl, ?_⟩
    go_grown
  · have e1 : (T == s) = false := by simpa using h
    have e2 : (T != s) = true := by simpa using h
    have HG2 := Lib.hid (HG.out.trans (if_neg h))
    clear HG h
    go_wp2
    refine bodyPost_ret (v := .tuple #[dZero.v, .bool false]) (by simp [results, Tryd.results10, go_sem, D7.v, dZero, m0, m1, m2, m3, m4, m5, m6]) rfl ⟨by rw [HG2.out]; rfl, ?_⟩
    go_grown

end Go.Proofs.YtndinbefljajcaaDoor.Dims
