/-
  The reader of package parse: behindSymbol, close, and those that take a token. The reader of package parse: those that take a token.
-/
import Derived.Test.YthofogokpolhdaaGreatDoorRIX
namespace Go.Proofs.YthofogokpolhdaaGreatDoor.Parses
open Go.RowKit Go.Shelf
open Go.Proofs.YthofogokpolhdaaGreatDoor.Trees (Stp StepsAt cellS StAt elem_step cell_oneS)
open Go.Proofs.YthofogokpolhdaaGreatDoor.Toks (Tok ToksAt cellK cell_lt cell_same SliceAt Above Grid Spare Elem elem_of append_any both wpList_app)
open Go.Proofs.YthofogokpolhdaaGreatDoor.Style (bs bs_size bs_at getD_at bs_of)
set_option linter.unusedVariables false
set_option linter.unusedSimpArgs false

theorem drewN_b {W : World} (m : Nat) : Below W.heap.size W (W.drewN m) := ⟨rfl, rfl, rfl, Nat.le_refl _, fun _ _ => rfl⟩

set_option maxRecDepth 100000 in
set_option maxHeartbeats 2000000 in
theorem behindSymbol_v (w0 : World) (st : Value) (L : List Tok) (size : Int) (pow : Bool) (vm vw vt : Value) (s : Rd) (w : World) (h : RdM w0 st L size pow vm vw vt s w) :
    Calls Tryz.prog 133 #[.pointer (some ⟨w0.heap.size, 0, none⟩)] w fun e w' => e = .returned (.tuple #[]) ∧ RdI w0 st L size pow (mayS s (if pow = true then 2 else 3)) w' := by
  have hlt := h.lt
  have hu1 : Below w.heap.size w (w.alloc (.cells #[.func (.func 149) #[.pointer (some ⟨w0.heap.size, 0, none⟩)] #[], .func (.func 150) #[.pointer (some ⟨w0.heap.size, 0, none⟩)] #[], .func (.func 151) #[.pointer (some ⟨w0.heap.size, 0, none⟩)] #[], .func (.func 152) #[.pointer (some ⟨w0.heap.size, 0, none⟩)] #[], .func (.func 153) #[.pointer (some ⟨w0.heap.size, 0, none⟩)] #[]] 85)) := (Below.refl _ _).alloc (Nat.le_refl _) _
  have hl1 : SliceAt (w.alloc (.cells #[.func (.func 149) #[.pointer (some ⟨w0.heap.size, 0, none⟩)] #[], .func (.func 150) #[.pointer (some ⟨w0.heap.size, 0, none⟩)] #[], .func (.func 151) #[.pointer (some ⟨w0.heap.size, 0, none⟩)] #[], .func (.func 152) #[.pointer (some ⟨w0.heap.size, 0, none⟩)] #[], .func (.func 153) #[.pointer (some ⟨w0.heap.size, 0, none⟩)] #[]] 85)) (.slice (some ⟨w.heap.size, 0, none⟩) 5 5) 1 5 (cellF w0.heap.size (rowOf 2)) := by
    refine .inr ⟨w.heap.size, 5, rfl, Nat.le_refl _, fun j hj => ?_, fun i hi j hj => ?_, fun j => by simp [go_sem], by rw [World.size_alloc]; omega⟩
    · have hj' : j < 5 := by omega
      match j, hj' with
      | 0, _ => simp [go_sem]
      | 1, _ => simp [go_sem]
      | 2, _ => simp [go_sem]
      | 3, _ => simp [go_sem]
      | 4, _ => simp [go_sem]
    · have : j = 0 := by omega
      subst this
      match i, hi with
      | 0, _ => simp [go_sem, cellF, rowOf, fnOf]
      | 1, _ => simp [go_sem, cellF, rowOf, fnOf]
      | 2, _ => simp [go_sem, cellF, rowOf, fnOf]
      | 3, _ => simp [go_sem, cellF, rowOf, fnOf]
      | 4, _ => simp [go_sem, cellF, rowOf, fnOf]
  have hA1 : Above (w0.heap.size + 1) (.slice (some ⟨w.heap.size, 0, none⟩) 5 5) := fun a n c e => by injection e with e; injection e with e; subst e; exact hlt
  have hask1 := ask_v _ w0 st L size pow vm vw vt s _ (h.go hu1) ⟨_, _, _, rfl⟩ 2 hl1 hA1 (apart_new h.wts _ _ _ (Nat.le_refl _)).1 (apart_new h.tre _ _ _ (Nat.le_refl _)).1
  have hu2 : Below w.heap.size w (w.alloc (.cells #[.func (.func 154) #[.pointer (some ⟨w0.heap.size, 0, none⟩)] #[], .func (.func 155) #[.pointer (some ⟨w0.heap.size, 0, none⟩)] #[], .func (.func 150) #[.pointer (some ⟨w0.heap.size, 0, none⟩)] #[], .func (.func 151) #[.pointer (some ⟨w0.heap.size, 0, none⟩)] #[], .func (.func 152) #[.pointer (some ⟨w0.heap.size, 0, none⟩)] #[], .func (.func 153) #[.pointer (some ⟨w0.heap.size, 0, none⟩)] #[]] 85)) := (Below.refl _ _).alloc (Nat.le_refl _) _
  have hl2 : SliceAt (w.alloc (.cells #[.func (.func 154) #[.pointer (some ⟨w0.heap.size, 0, none⟩)] #[], .func (.func 155) #[.pointer (some ⟨w0.heap.size, 0, none⟩)] #[], .func (.func 150) #[.pointer (some ⟨w0.heap.size, 0, none⟩)] #[], .func (.func 151) #[.pointer (some ⟨w0.heap.size, 0, none⟩)] #[], .func (.func 152) #[.pointer (some ⟨w0.heap.size, 0, none⟩)] #[], .func (.func 153) #[.pointer (some ⟨w0.heap.size, 0, none⟩)] #[]] 85)) (.slice (some ⟨w.heap.size, 0, none⟩) 6 6) 1 6 (cellF w0.heap.size (rowOf 3)) := by
    refine .inr ⟨w.heap.size, 6, rfl, Nat.le_refl _, fun j hj => ?_, fun i hi j hj => ?_, fun j => by simp [go_sem], by rw [World.size_alloc]; omega⟩
    · have hj' : j < 6 := by omega
      match j, hj' with
      | 0, _ => simp [go_sem]
      | 1, _ => simp [go_sem]
      | 2, _ => simp [go_sem]
      | 3, _ => simp [go_sem]
      | 4, _ => simp [go_sem]
      | 5, _ => simp [go_sem]
    · have : j = 0 := by omega
      subst this
      match i, hi with
      | 0, _ => simp [go_sem, cellF, rowOf, fnOf]
      | 1, _ => simp [go_sem, cellF, rowOf, fnOf]
      | 2, _ => simp [go_sem, cellF, rowOf, fnOf]
      | 3, _ => simp [go_sem, cellF, rowOf, fnOf]
      | 4, _ => simp [go_sem, cellF, rowOf, fnOf]
      | 5, _ => simp [go_sem, cellF, rowOf, fnOf]
  have hA2 : Above (w0.heap.size + 1) (.slice (some ⟨w.heap.size, 0, none⟩) 6 6) := fun a n c e => by injection e with e; injection e with e; subst e; exact hlt
  have hask2 := ask_v _ w0 st L size pow vm vw vt s _ (h.go hu2) ⟨_, _, _, rfl⟩ 3 hl2 hA2 (apart_new h.wts _ _ _ (Nat.le_refl _)).1 (apart_new h.tre _ _ _ (Nat.le_refl _)).1
  have c2 := h.c2
  clear h hl1 hl2 hA1 hA2 hu1 hu2
  cases pow with
  | true =>
    go_enter Tryz.func133, Tryz.ntmps133
    go_wp2_with fail
    refine hask1.mono ?_
    rintro e w2 ⟨rfl, hE⟩
    have HE := Lib.hid (RdI.of hE)
    clear hE hask1 hask2
    go_wp2_with fail
    first | go_end0 | refine bodyPost_ret (results_none rfl _ _ _) rfl ?_
    exact ⟨rfl, HE.out⟩
  | false =>
    go_enter Tryz.func133, Tryz.ntmps133
    go_wp2_with fail
    refine hask2.mono ?_
    rintro e w2 ⟨rfl, hE⟩
    have HE := Lib.hid (RdI.of hE)
    clear hE hask1 hask2
    go_wp2_with fail
    go_end0
    exact ⟨rfl, HE.out⟩

theorem RdM.last {w0 : World} {st : Value} {L : List Tok} {size : Int} {pow : Bool} {vm vw vt : Value} {s : Rd} {W : World} (h : RdM w0 st L size pow vm vw vt s W) {n : Nat} (hn : s.waits.length = n + 1) :
    ∃ b c, vw = .slice (some ⟨b, 0, none⟩) (n + 1) c ∧ W.cell? ⟨b, n, none⟩ = some (.int .i64 (s.waits.getLastD 0)) := by
  obtain ⟨b, c, h1, h2, _⟩ := h.wait_put hn 0
  exact ⟨b, c, h1, h2⟩

set_option maxRecDepth 100000 in
set_option maxHeartbeats 2000000 in
theorem close_v (w0 : World) (st : Value) (L : List Tok) (size : Int) (pow : Bool) (vm vw vt : Value) (s : Rd) (w : World) (h : RdM w0 st L size pow vm vw vt s w) (n : Nat) (hn : s.waits.length = n + 1) (hl : n ≤ 1000) (ht : s.tree.length ≤ 1000) :
    Calls Tryz.prog 165 #[.pointer (some ⟨w0.heap.size, 0, none⟩)] w fun e w' => e = .returned (.tuple #[]) ∧ RdI w0 st L size pow (closeS s) w' := by
  obtain ⟨b, c, rfl, x1⟩ := h.last hn
  have hli : (n : Int) ≤ 1000 := by omega
  have hput := fun (k : Nat) => put_v (s.waits.getLastD 0) 0 0 0 0 [] w0 st L size pow _ _ _ _ _ (h.go (drewN_b (W := w) k)) ht
  have c4 := h.c4
  have hno : s.waits.getLastD 0 = 0 → ∀ k, Hid (RdI w0 st L size pow (closeS s) (w.drewN k)) := fun e k => by
    show RdI _ _ _ _ _ _ _
    unfold closeS
    rw [if_pos e]
    exact RdI.of (h.go (drewN_b k))
  have hyes : s.waits.getLastD 0 ≠ 0 → Hid (closeS s = putS s (opStep (s.waits.getLastD 0))) := fun e => by
    show _ = _
    unfold closeS
    rw [if_neg e]
  generalize s.waits.getLastD 0 = wl at *
  clear h
  go_enter Tryz.func165, Tryz.ntmps165
  go_upto_region 0 with fail
  go_quiet (fail)
  by_cases e0 : wl = 0
  · have HN := hno e0 nq
    subst e0
    clear hput hyes hno
    go_wp2_with fail
    go_end0
    exact ⟨rfl, HN.out⟩
  · have HY := hyes e0
    have hp := hput nq
    clear hput hyes hno
    have eb : (wl == 0) = false := by simpa using e0
    go_wp2_with fail
    refine hp.mono ?_
    rintro e w2 ⟨rfl, v, hE⟩
    have HE := Lib.hid (RdI.of hE)
    clear hE hp
    go_wp2_with fail
    go_end0
    refine ⟨rfl, ?_⟩
    rw [HY.out]
    exact HE.out

end Go.Proofs.YthofogokpolhdaaGreatDoor.Parses

namespace Go.Proofs.YthofogokpolhdaaGreatDoor.Parses
open Go.RowKit Go.Shelf
open Go.Proofs.YthofogokpolhdaaGreatDoor.Trees (Stp StepsAt cellS StAt elem_step cell_oneS)
open Go.Proofs.YthofogokpolhdaaGreatDoor.Toks (Tok ToksAt cellK cell_lt cell_same SliceAt Above Grid Spare Elem elem_of append_any both wpList_app)
open Go.Proofs.YthofogokpolhdaaGreatDoor.Style (bs bs_size bs_at getD_at bs_of)
set_option linter.unusedVariables false
set_option linter.unusedSimpArgs false

/-- What a panic tells. -/
def refV (err at_ len : Int) : Value := .iface 101 (.agg #[.slice none 0 0, .int .i64 err, .int .i64 at_, .int .i64 len])
/-- How one that is asked answers. -/
def Took (w0 : World) (st : Value) (L : List Tok) (size : Int) (pow : Bool) (s : Rd) (i : Nat) (w : World) (g : Got) (e : Ending) (W : World) : Prop :=
  match g with
  | .go s' => e = .returned (.bool true) ∧ RdI w0 st L size pow s' W
  | .no => e = .returned (.bool false) ∧ w = W
  | .deep => e = .panicked [{ v := refV 13 (placeG L size i) 0, recovered := false }] ∧ RdI w0 st L size pow s W

set_option maxRecDepth 100000 in
set_option maxHeartbeats 2000000 in
theorem inverse_t (i : Nat) (w0 : World) (st : Value) (L : List Tok) (size : Int) (pow : Bool) (vm vw vt : Value) (s : Rd) (w : World) (h : RdM w0 st L size pow vm vw vt s w) (hL : L.length ≤ 1000) (n : Nat) (hn : s.waits.length = n + 1) (hl : n ≤ 32) (ht : s.tree.length ≤ 990) :
    Calls Tryz.prog 116 #[.pointer (some ⟨w0.heap.size, 0, none⟩), .int .i64 (i : Int)] w (Took w0 st L size pow s i w (inverseG L i s)) := by
  have hI := RdI.of h
  have hk := is_v i 5 w0 st L size pow vm vw vt s w h hL
  cases hc : isK L i 5 with
  | false =>
    rw [hc] at hk
    have HG : Hid (inverseG L i s = .no) := by show _ = _; unfold inverseG; simp [hc]
    rw [HG.out]
    have HI := Lib.hid hI
    clear hI h hc HG
    go_enter Tryz.func116, Tryz.ntmps116
    go_wp2_with fail
    refine hk.mono ?_
    rintro e w2 ⟨rfl, rfl⟩
    clear hk
    go_wp2_with fail
    go_ret
    exact ⟨rfl, rfl⟩
  | true =>
    rw [hc] at hk
    have HG : Hid (inverseG L i s = .go (waitS s 5)) := by show _ = _; unfold inverseG; simp [hc]
    rw [HG.out]
    clear HG
    have hw := wait_v 5 w0 st L size pow vm vw vt s w h n hn (by omega)
    clear hI h hc
    go_enter Tryz.func116, Tryz.ntmps116
    go_wp2_with fail
    refine hk.mono ?_
    rintro e w2 ⟨rfl, rfl⟩
    clear hk
    go_wp2_with fail
    refine hw.mono ?_
    rintro e w3 ⟨rfl, hE⟩
    clear hw
    have HE := Lib.hid hE
    clear hE
    go_wp2_with fail
    go_ret
    exact ⟨rfl, HE.out⟩

set_option maxRecDepth 100000 in
set_option maxHeartbeats 2000000 in
theorem raise_t (i : Nat) (w0 : World) (st : Value) (L : List Tok) (size : Int) (pow : Bool) (vm vw vt : Value) (s : Rd) (w : World) (h : RdM w0 st L size pow vm vw vt s w) (hL : L.length ≤ 1000) (n : Nat) (hn : s.waits.length = n + 1) (hl : n ≤ 32) (ht : s.tree.length ≤ 990) :
    Calls Tryz.prog 149 #[.pointer (some ⟨w0.heap.size, 0, none⟩), .int .i64 (i : Int)] w (Took w0 st L size pow s i w (raiseG L i s)) := by
  have hI := RdI.of h
  have hk := is_v i 6 w0 st L size pow vm vw vt s w h hL
  cases hc : isK L i 6 with
  | false =>
    rw [hc] at hk
    have HG : Hid (raiseG L i s = .no) := by show _ = _; unfold raiseG; simp [hc]
    rw [HG.out]
    have HI := Lib.hid hI
    clear hI h hc HG
    go_enter Tryz.func149, Tryz.ntmps149
    go_wp2_with fail
    refine hk.mono ?_
    rintro e w2 ⟨rfl, rfl⟩
    clear hk
    go_wp2_with fail
    go_ret
    exact ⟨rfl, rfl⟩
  | true =>
    rw [hc] at hk
    have HG : Hid (raiseG L i s = .go (mayS s 4)) := by show _ = _; unfold raiseG; simp [hc]
    rw [HG.out]
    clear HG
    have hw := behindPow_v w0 st L size pow vm vw vt s w h
    clear hI h hc
    go_enter Tryz.func149, Tryz.ntmps149
    go_wp2_with fail
    refine hk.mono ?_
    rintro e w2 ⟨rfl, rfl⟩
    clear hk
    go_wp2_with fail
    refine hw.mono ?_
    rintro e w3 ⟨rfl, hE0⟩
    have hE := RdI.of2 hE0
    clear hw hE0
    have HE := Lib.hid hE
    clear hE
    go_wp2_with fail
    go_ret
    exact ⟨rfl, HE.out⟩

set_option maxRecDepth 100000 in
set_option maxHeartbeats 2000000 in
theorem symbol_t (i : Nat) (w0 : World) (st : Value) (L : List Tok) (size : Int) (pow : Bool) (vm vw vt : Value) (s : Rd) (w : World) (h : RdM w0 st L size pow vm vw vt s w) (hL : L.length ≤ 1000) (n : Nat) (hn : s.waits.length = n + 1) (hl : n ≤ 32) (ht : s.tree.length ≤ 990) :
    Calls Tryz.prog 117 #[.pointer (some ⟨w0.heap.size, 0, none⟩), .int .i64 (i : Int)] w (Took w0 st L size pow s i w (symbolG pow L i s)) := by
  have hI := RdI.of h
  have hk := is_v i 1 w0 st L size pow vm vw vt s w h hL
  cases hc : isK L i 1 with
  | false =>
    rw [hc] at hk
    have HG : Hid (symbolG pow L i s = .no) := by show _ = _; unfold symbolG; simp [hc]
    rw [HG.out]
    have HI := Lib.hid hI
    clear hI h hc HG
    go_enter Tryz.func117, Tryz.ntmps117
    go_wp2_with fail
    refine hk.mono ?_
    rintro e w2 ⟨rfl, rfl⟩
    clear hk
    go_wp2_with fail
    go_ret
    exact ⟨rfl, rfl⟩
  | true =>
    rw [hc] at hk
    have HG : Hid (symbolG pow L i s = .go (mayS { putS s ⟨2, -1, (i : Int), 1, 0, []⟩ with below := false } (if pow = true then 2 else 3))) := by show _ = _; unfold symbolG; rw [if_pos hc]; rfl
    rw [HG.out]
    clear HG
    have hp := put_v 2 0 (i : Int) 1 0 [] w0 st L size pow vm vw vt s w h (by omega)
    have hbS := fun a b c q W (hM : RdM w0 st L size pow a b c q W) => behindSymbol_v w0 st L size pow a b c q W hM
    generalize (if pow = true then 2 else 3) = kk at hbS ⊢
    clear hI h hc
    go_enter Tryz.func117, Tryz.ntmps117
    go_wp2_with fail
    refine hk.mono ?_
    rintro e w2 ⟨rfl, rfl⟩
    clear hk
    go_wp2_with fail
    refine hp.mono ?_
    rintro e w3 ⟨rfl, v, hM⟩
    have hM2 := hM.sign false
    have hb := hbS _ _ _ _ _ hM2
    have c5 := hM.c5
    have f5 := hM.fr 5
    clear hp hM hM2 hbS
    go_wp2_with fail
    refine hb.mono ?_
    rintro e w4 ⟨rfl, hE⟩
    clear hb
    have HE := Lib.hid hE
    clear hE
    go_wp2_with fail
    go_ret
    exact ⟨rfl, HE.out⟩

set_option maxRecDepth 100000 in
set_option maxHeartbeats 2000000 in
theorem noted_t (op : Int) (i : Nat) (w0 : World) (st : Value) (L : List Tok) (size : Int) (pow : Bool) (vm vw vt : Value) (s : Rd) (w : World) (h : RdM w0 st L size pow vm vw vt s w) (hL : L.length ≤ 1000) (n : Nat) (hn : s.waits.length = n + 1) (hl : n ≤ 32) (ht : s.tree.length ≤ 990) :
    Calls Tryz.prog 136 #[.pointer (some ⟨w0.heap.size, 0, none⟩), .int .i64 (i : Int), .int .i64 op] w (Took w0 st L size pow s i w (notedG L i s op)) := by
  have hI := RdI.of h
  have hk := is_v i 9 w0 st L size pow vm vw vt s w h hL
  cases hc : isK L i 9 with
  | false =>
    rw [hc] at hk
    have HG : Hid (notedG L i s op = .no) := by show _ = _; unfold notedG; simp [hc]
    rw [HG.out]
    have HI := Lib.hid hI
    clear hI h hc HG
    go_enter Tryz.func136, Tryz.ntmps136
    go_wp2_with fail
    refine hk.mono ?_
    rintro e w2 ⟨rfl, rfl⟩
    clear hk
    go_wp2_with fail
    go_ret
    exact ⟨rfl, rfl⟩
  | true =>
    rw [hc] at hk
    have hii : i < L.length := by unfold isK at hc; rw [Bool.and_eq_true] at hc; exact of_decide_eq_true hc.1
    obtain ⟨b, c, rfl, t0, t1, t2, t3⟩ := h.tok hii
    have hiI : (i : Int) < L.length := by omega
    have hLI : (L.length : Int) ≤ 1000 := by omega
    have c0 := h.c0
    have HG : Hid (notedG L i s op = .go (mayS (putS s ⟨op, -1, 0, 0, 0, (L.getD i default).text⟩) 7)) := by show _ = _; unfold notedG; simp [hc]
    rw [HG.out]
    clear HG
    generalize (L.getD i default).text = tx at *
    have hp := put_v op 0 0 0 0 tx w0 _ L size pow vm vw vt s w h (by omega)
    clear t0 t1 t3
    clear hI h hc
    go_enter Tryz.func136, Tryz.ntmps136
    go_wp2_with fail
    refine hk.mono ?_
    rintro e w2 ⟨rfl, rfl⟩
    clear hk
    go_wp2_with fail
    refine hp.mono ?_
    rintro e w3 ⟨rfl, v, hM⟩
    have hb := behindNote_v w0 _ L size pow _ _ _ _ _ hM
    clear hp hM c0 t2
    go_wp2_with fail
    refine hb.mono ?_
    rintro e w4 ⟨rfl, hE0⟩
    have hE := RdI.of2 hE0
    clear hb hE0
    have HE := Lib.hid hE
    clear hE
    go_wp2_with fail
    go_ret
    exact ⟨rfl, HE.out⟩

set_option maxRecDepth 100000 in
theorem alone_t (i : Nat) (w0 : World) (st : Value) (L : List Tok) (size : Int) (pow : Bool) (vm vw vt : Value) (s : Rd) (w : World) (h : RdM w0 st L size pow vm vw vt s w) (hL : L.length ≤ 1000) (n : Nat) (hn : s.waits.length = n + 1) (hl : n ≤ 32) (ht : s.tree.length ≤ 990) :
    Calls Tryz.prog 120 #[.pointer (some ⟨w0.heap.size, 0, none⟩), .int .i64 (i : Int)] w (Took w0 st L size pow s i w (notedG L i s 7)) := by
  have hN := noted_t 7 i w0 st L size pow vm vw vt s w h hL n hn hl ht
  have key : ∀ e W, Took w0 st L size pow s i w (notedG L i s 7) e W → ∃ b, e = .returned (.bool b) ∧ Took w0 st L size pow s i w (notedG L i s 7) (.returned (.bool b)) W := by
    intro e W hT
    unfold notedG at hT ⊢
    split at hT
    · obtain ⟨rfl, h2⟩ := hT
      exact ⟨true, rfl, by rw [if_pos (by assumption)]; exact ⟨rfl, h2⟩⟩
    · obtain ⟨rfl, h2⟩ := hT
      exact ⟨false, rfl, by rw [if_neg (by assumption)]; exact ⟨rfl, h2⟩⟩
  clear h
  go_enter Tryz.func120, Tryz.ntmps120
  go_wp2_with fail
  refine hN.mono ?_
  intro e w2 hT
  obtain ⟨b, rfl, hT2⟩ := key e w2 hT
  have HT := Lib.hid hT2
  clear hT hT2 key hN
  go_wp2_with fail
  go_ret
  exact HT.out

set_option maxRecDepth 100000 in
theorem note_t (i : Nat) (w0 : World) (st : Value) (L : List Tok) (size : Int) (pow : Bool) (vm vw vt : Value) (s : Rd) (w : World) (h : RdM w0 st L size pow vm vw vt s w) (hL : L.length ≤ 1000) (n : Nat) (hn : s.waits.length = n + 1) (hl : n ≤ 32) (ht : s.tree.length ≤ 990) :
    Calls Tryz.prog 150 #[.pointer (some ⟨w0.heap.size, 0, none⟩), .int .i64 (i : Int)] w (Took w0 st L size pow s i w (notedG L i s 6)) := by
  have hN := noted_t 6 i w0 st L size pow vm vw vt s w h hL n hn hl ht
  have key : ∀ e W, Took w0 st L size pow s i w (notedG L i s 6) e W → ∃ b, e = .returned (.bool b) ∧ Took w0 st L size pow s i w (notedG L i s 6) (.returned (.bool b)) W := by
    intro e W hT
    unfold notedG at hT ⊢
    split at hT
    · obtain ⟨rfl, h2⟩ := hT
      exact ⟨true, rfl, by rw [if_pos (by assumption)]; exact ⟨rfl, h2⟩⟩
    · obtain ⟨rfl, h2⟩ := hT
      exact ⟨false, rfl, by rw [if_neg (by assumption)]; exact ⟨rfl, h2⟩⟩
  clear h
  go_enter Tryz.func150, Tryz.ntmps150
  go_wp2_with fail
  refine hN.mono ?_
  intro e w2 hT
  obtain ⟨b, rfl, hT2⟩ := key e w2 hT
  have HT := Lib.hid hT2
  clear hT hT2 key hN
  go_wp2_with fail
  go_ret
  exact HT.out

set_option maxRecDepth 100000 in
set_option maxHeartbeats 2000000 in
theorem number_t (i : Nat) (w0 : World) (st : Value) (L : List Tok) (size : Int) (pow : Bool) (vm vw vt : Value) (s : Rd) (w : World) (h : RdM w0 st L size pow vm vw vt s w) (hL : L.length ≤ 1000) (n : Nat) (hn : s.waits.length = n + 1) (hl : n ≤ 32) (ht : s.tree.length ≤ 990) :
    Calls Tryz.prog 118 #[.pointer (some ⟨w0.heap.size, 0, none⟩), .int .i64 (i : Int)] w (Took w0 st L size pow s i w (numberG L i s)) := by
  have hI := RdI.of h
  have hk := is_v i 2 w0 st L size pow vm vw vt s w h hL
  cases hc : isK L i 2 with
  | false =>
    rw [hc] at hk
    have HG : Hid (numberG L i s = .no) := by show _ = _; unfold numberG; simp [hc]
    rw [HG.out]
    have HI := Lib.hid hI
    clear hI h hc HG
    go_enter Tryz.func118, Tryz.ntmps118
    go_wp2_with fail
    refine hk.mono ?_
    rintro e w2 ⟨rfl, rfl⟩
    clear hk
    go_wp2_with fail
    go_ret
    exact ⟨rfl, rfl⟩
  | true =>
    rw [hc] at hk
    have hii : i < L.length := by unfold isK at hc; rw [Bool.and_eq_true] at hc; exact of_decide_eq_true hc.1
    obtain ⟨b, c, rfl, t0, t1, t2, t3⟩ := h.tok hii
    have hiI : (i : Int) < L.length := by omega
    have hLI : (L.length : Int) ≤ 1000 := by omega
    have c0 := h.c0
    by_cases hnum : 1 ≤ (L.getD i default).num
    · have HG : Hid (numberG L i s = .go (mayS (putS s ⟨1, -1, 0, 0, (L.getD i default).num, []⟩) 6)) := by show _ = _; unfold numberG; rw [if_pos ⟨hc, hnum⟩]
      rw [HG.out]
      clear HG
      generalize (L.getD i default).num = nm at *
      have hp := put_v 1 0 0 0 nm [] w0 _ L size pow vm vw vt s w h (by omega)
      have hn1 : ¬ nm < 1 := by omega
      clear hI h hc t0 t1 t2
      go_enter Tryz.func118, Tryz.ntmps118
      go_wp2_with fail
      refine hk.mono ?_
      rintro e w2 ⟨rfl, rfl⟩
      clear hk
      go_wp2_with fail
      refine hp.mono ?_
      rintro e w3 ⟨rfl, v, hM⟩
      have hb := behindBase_v w0 _ L size pow _ _ _ _ _ hM
      clear hp hM c0 t3
      go_wp2_with fail
      refine hb.mono ?_
      rintro e w4 ⟨rfl, hE0⟩
      have HE := Lib.hid (RdI.of2 hE0)
      clear hb hE0
      go_wp2_with fail
      go_ret
      exact ⟨rfl, HE.out⟩
    · have HG : Hid (numberG L i s = .no) := by show _ = _; unfold numberG; rw [if_neg (fun h => hnum h.2)]
      rw [HG.out]
      have HI := Lib.hid hI
      generalize (L.getD i default).num = nm at *
      have hn1 : nm < 1 := by omega
      clear hI h hc t0 t1 t2 HG hnum
      go_enter Tryz.func118, Tryz.ntmps118
      go_wp2_with fail
      refine hk.mono ?_
      rintro e w2 ⟨rfl, rfl⟩
      clear hk
      go_wp2_with fail
      go_ret
      exact ⟨rfl, rfl⟩

set_option maxRecDepth 100000 in
set_option maxHeartbeats 2000000 in
theorem sign_t (i : Nat) (w0 : World) (st : Value) (L : List Tok) (size : Int) (pow : Bool) (vm vw vt : Value) (s : Rd) (w : World) (h : RdM w0 st L size pow vm vw vt s w) (hL : L.length ≤ 1000) (n : Nat) (hn : s.waits.length = n + 1) (hl : n ≤ 32) (ht : s.tree.length ≤ 990) :
    Calls Tryz.prog 154 #[.pointer (some ⟨w0.heap.size, 0, none⟩), .int .i64 (i : Int)] w (Took w0 st L size pow s i w (signG L i s)) := by
  have hI := RdI.of h
  have hk := is_v i 3 w0 st L size pow vm vw vt s w h hL
  cases hc : isK L i 3 with
  | false =>
    rw [hc] at hk
    have HG : Hid (signG L i s = .no) := by show _ = _; unfold signG; simp [hc]
    rw [HG.out]
    have HI := Lib.hid hI
    clear hI h hc HG
    go_enter Tryz.func154, Tryz.ntmps154
    go_wp2_with fail
    refine hk.mono ?_
    rintro e w2 ⟨rfl, rfl⟩
    clear hk
    go_wp2_with fail
    go_ret
    exact ⟨rfl, rfl⟩
  | true =>
    rw [hc] at hk
    have hii : i < L.length := by unfold isK at hc; rw [Bool.and_eq_true] at hc; exact of_decide_eq_true hc.1
    obtain ⟨b, c, rfl, t0, t1, t2, t3⟩ := h.tok hii
    have hiI : (i : Int) < L.length := by omega
    have hLI : (L.length : Int) ≤ 1000 := by omega
    have c0 := h.c0
    have c5 := h.c5
    have f5 := h.fr 5
    have htx : ((bs (L.getD i default).text).toList == [45]) = decide ((L.getD i default).text = [45]) := by rw [Trees.bs_list, Bool.eq_iff_iff]; simp
    have hM2 := h.sign ((bs (L.getD i default).text).toList == [45])
    have HG : Hid (signG L i s = .go (mayS { s with below := ((bs (L.getD i default).text).toList == [45]) } 5)) := by show _ = _; unfold signG; rw [if_pos hc, htx]; rfl
    rw [HG.out]
    clear HG
    clear htx
    generalize (L.getD i default).text = tx at *
    have hb := behindSign_v w0 _ L size pow _ _ _ _ _ hM2
    clear t0 t1 t3 hM2
    clear hI h hc
    go_enter Tryz.func154, Tryz.ntmps154
    go_wp2_with fail
    refine hk.mono ?_
    rintro e w2 ⟨rfl, rfl⟩
    clear hk
    go_wp2_with fail
    refine hb.mono ?_
    rintro e w3 ⟨rfl, hE0⟩
    have hE := RdI.of2 hE0
    clear hb hE0
    have HE := Lib.hid hE
    clear hE
    go_wp2_with fail
    go_ret
    exact ⟨rfl, HE.out⟩

end Go.Proofs.YthofogokpolhdaaGreatDoor.Parses

