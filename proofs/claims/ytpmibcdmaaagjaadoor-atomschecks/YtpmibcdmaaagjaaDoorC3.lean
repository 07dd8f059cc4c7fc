/-
  Atoms, terms and prefixes held against themselves. Contract of drachmref05.SameAtom at two that are the same.
-/
import Derived.Test.YtpmibcdmaaagjaaDoorC2
namespace Go.Proofs.YtpmibcdmaaagjaaDoor.Atoms
open Go.RowKit Go.Shelf
set_option linter.unusedVariables false
set_option linter.unusedSimpArgs false

theorem two_of {α β : Type} {f : α → β} {l : List α} {x y : β} (h : l.map f = [x, y]) : ∃ a b, l = [a, b] ∧ f a = x ∧ f b = y := by
  rcases l with _ | ⟨a, _ | ⟨b, _ | ⟨c, l⟩⟩⟩
  · simp at h
  · simp at h
  · simp only [List.map_cons, List.map_nil, List.cons.injEq, and_true] at h
    exact ⟨a, b, rfl, h.1, h.2⟩
  · simp at h
theorem g0 (a b c d e : Value) (w : World) : (part 9 #[a, b, c, d, e] 0).run Tryd.prog w = .ok a w := by kernel_rfl
theorem g1 (a b c d e : Value) (w : World) : (part 9 #[a, b, c, d, e] 1).run Tryd.prog w = .ok b w := by kernel_rfl
theorem g2 (a b c d e : Value) (w : World) : (part 9 #[a, b, c, d, e] 2).run Tryd.prog w = .ok c w := by kernel_rfl
theorem g3 (a b c d e : Value) (w : World) : (part 9 #[a, b, c, d, e] 3).run Tryd.prog w = .ok d w := by kernel_rfl
theorem g4 (a b c d e : Value) (w : World) : (part 9 #[a, b, c, d, e] 4).run Tryd.prog w = .ok e w := by kernel_rfl
theorem eq5_same (a b c d e : ByteArray) (k : Nat) (w : World) : (Op.equalIn (k + 2) 37 (.agg #[.string a, .string b, .string c, .string d, .string e]) (.agg #[.string a, .string b, .string c, .string d, .string e])).run Tryd.prog w = .ok true w := by
  have hu : Tryd.prog.underlying 37 = some (.array 5 9) := by kernel_rfl
  obtain ⟨i, hi⟩ : ∃ i, Tryd.prog.info? 9 = some i := Option.isSome_iff_exists.1 (by kernel_rfl)
  have hc : Tryd.prog.cellsOf 9 = 1 := by kernel_rfl
  have hs : Tryd.prog.underlying 9 = some .string := by kernel_rfl
  have e9 : ∀ x : ByteArray, (Op.equalIn (k + 1) 9 (.string x) (.string x)).run Tryd.prog w = .ok true w := fun x => by rw [run_equalIn_string w k 9 x x hs]; simp
  rw [show k + 2 = (k + 1) + 1 from rfl, run_equalIn_array w (k + 1) _ _ hu hi, hc, show List.range 5 = [0, 1, 2, 3, 4] from rfl]
  simp only [Op.eqItems, Nat.mul_one, Sem.run_bind, g0, g1, g2, g3, g4, e9, Result.andThen_ok, Bool.not_true, Bool.false_eq_true, if_false, Sem.run_pure]
theorem h0 (a b : Value) (w : World) : (part 3 #[a, b] 0).run Tryd.prog w = .ok a w := by kernel_rfl
theorem h1 (a b : Value) (w : World) : (part 3 #[a, b] 1).run Tryd.prog w = .ok b w := by kernel_rfl
theorem eqT_same (x y : Int) (k : Nat) (w : World) : (Op.equalIn (k + 2) 47 (.agg #[.int .i64 x, .int .i64 y]) (.agg #[.int .i64 x, .int .i64 y])).run Tryd.prog w = .ok true w := by
  have hu : Tryd.prog.underlying 47 = some (.struct (Tryd.prog.fieldsOf 47)) := by kernel_rfl
  have hp : Tryd.prog.stoodInHeld 47 = false := by kernel_rfl
  have hF : (Tryd.prog.fieldsOf 47).toList.map (fun f => (f.name, f.type, f.offset)) = [("Atom", 3, 0), ("Exp", 3, 1)] := by kernel_rfl
  have u2 : Tryd.prog.underlying 3 = some (.int .i64) := by kernel_rfl
  have e2 : ∀ x : Int, (Op.equalIn (k + 1) 3 (.int .i64 x) (.int .i64 x)).run Tryd.prog w = .ok true w := fun x => by rw [run_equalIn_int w k 3 .i64 .i64 x x u2]; simp
  rw [show k + 2 = (k + 1) + 1 from rfl, run_equalIn_struct w (k + 1) _ _ _ hu hp]
  obtain ⟨f0, f1, hl, q0, q1⟩ := two_of hF
  simp only [Prod.mk.injEq] at q0 q1
  obtain ⟨q00, q01, q02⟩ := q0
  obtain ⟨q10, q11, q12⟩ := q1
  rw [hl, Op.eqFields.eq_2, Op.eqFields.eq_2, Op.eqFields.eq_1, q00, q01, q02, q10, q11, q12]
  simp only [ne_eq, String.reduceEq, not_false_eq_true, if_true, Sem.run_bind, h0, h1, e2, Result.andThen_ok, Bool.not_true, Bool.false_eq_true, if_false, Sem.run_pure]
theorem k0 (a b c d e f : Value) (w : World) : (part 37 #[a, b, c, d, e, f] 0).run Tryd.prog w = .ok (.agg #[a, b, c, d, e]) w := by kernel_rfl
theorem k1 (a b c d e f : Value) (w : World) : (part 3 #[a, b, c, d, e, f] 5).run Tryd.prog w = .ok f w := by kernel_rfl
theorem eqP_same (a b c d e : ByteArray) (x : Int) (k : Nat) (w : World) : (Op.equalIn (k + 3) 49 (.agg #[.string a, .string b, .string c, .string d, .string e, .int .i64 x]) (.agg #[.string a, .string b, .string c, .string d, .string e, .int .i64 x])).run Tryd.prog w = .ok true w := by
  have hu : Tryd.prog.underlying 49 = some (.struct (Tryd.prog.fieldsOf 49)) := by kernel_rfl
  have hp : Tryd.prog.stoodInHeld 49 = false := by kernel_rfl
  have hF : (Tryd.prog.fieldsOf 49).toList.map (fun f => (f.name, f.type, f.offset)) = [("Codes", 37, 0), ("Ten", 3, 5)] := by kernel_rfl
  have u2 : Tryd.prog.underlying 3 = some (.int .i64) := by kernel_rfl
  have e2 : ∀ x : Int, (Op.equalIn (k + 2) 3 (.int .i64 x) (.int .i64 x)).run Tryd.prog w = .ok true w := fun x => by rw [run_equalIn_int w (k + 1) 3 .i64 .i64 x x u2]; simp
  have e5 := eq5_same a b c d e k w
  rw [show k + 3 = (k + 2) + 1 from rfl, run_equalIn_struct w (k + 2) _ _ _ hu hp]
  obtain ⟨f0, f1, hl, q0, q1⟩ := two_of hF
  simp only [Prod.mk.injEq] at q0 q1
  obtain ⟨q00, q01, q02⟩ := q0
  obtain ⟨q10, q11, q12⟩ := q1
  rw [hl, Op.eqFields.eq_2, Op.eqFields.eq_2, Op.eqFields.eq_1, q00, q01, q02, q10, q11, q12]
  simp only [ne_eq, String.reduceEq, not_false_eq_true, if_true, Sem.run_bind, k0, k1, e2, e5, Result.andThen_ok, Bool.not_true, Bool.false_eq_true, if_false, Sem.run_pure]
theorem ne5 (a b c d e : ByteArray) (w : World) : (binOp BinOp.neq 37 (.agg #[.string a, .string b, .string c, .string d, .string e]) (.agg #[.string a, .string b, .string c, .string d, .string e])).run Tryd.prog w = .ok (.bool false) w := by
  have h := eq5_same a b c d e 9998 w
  simp [go_sem, h]
theorem neT (x y : Int) (w : World) : (binOp BinOp.neq 47 (.agg #[.int .i64 x, .int .i64 y]) (.agg #[.int .i64 x, .int .i64 y])).run Tryd.prog w = .ok (.bool false) w := by
  have h := eqT_same x y 9998 w
  simp [go_sem, h]
theorem eqP (a b c d e : ByteArray) (x : Int) (w : World) : (binOp BinOp.eql 49 (.agg #[.string a, .string b, .string c, .string d, .string e, .int .i64 x]) (.agg #[.string a, .string b, .string c, .string d, .string e, .int .i64 x])).run Tryd.prog w = .ok (.bool true) w := by
  have h := eqP_same a b c d e x 9997 w
  simp [go_sem, h]

/-- How the world stands in SameAtom. -/
structure SameI (w wr : World) (r : Row) (o1 o2 : Option Addr) (c1 c2 : Nat) : Prop where
  one : AtomBox wr w.heap.size r (.slice o1 r.ts.length c1)
  two : AtomBox wr (w.heap.size + 1) r (.slice o2 r.ts.length c2)
  t1 : TermsAt wr (.slice o1 r.ts.length c1) r.ts
  t2 : TermsAt wr (.slice o2 r.ts.length c2) r.ts
  below : Below w.heap.size w wr
theorem TermsAt.grid {w : World} {o : Option Addr} {c : Nat} {ts : List (Int × Int)} (h : TermsAt w (.slice o ts.length c) ts) (h0 : 0 < ts.length) : ∃ b, o = some ⟨b, 0, none⟩ ∧ Grid w b 2 ts.length (cellT ts) := by
  rcases h with ⟨hh, _⟩ | ⟨b, c', he, _, _, hg⟩
  · omega
  · injection he with e1 e2 e3
    exact ⟨b, e1, hg⟩
theorem SameI.drew {w wr : World} {r : Row} {o1 o2 : Option Addr} {c1 c2 : Nat} (h : SameI w wr r o1 o2 c1 c2) : SameI w wr.drew r o1 o2 c1 c2 :=
  ⟨h.one, h.two, h.t1, h.t2, h.below.drew⟩

set_option maxRecDepth 100000 in
set_option maxHeartbeats 8000000 in
theorem same_yes (r : Row) (s1 s2 : Value) (w : World) (h1 : TermsAt w s1 r.ts) (h2 : TermsAt w s2 r.ts) (hl : r.ts.length ≤ 1000000) :
    Calls Tryd.prog 11 #[.agg (r.cs s1), .agg (r.cs s2)] w fun e w' => e = .returned (.bool true) ∧ Below w.heap.size w w' := by
  obtain ⟨o1, c1, rfl⟩ := SliceAt.slice h1
  obtain ⟨o2, c2, rfl⟩ := SliceAt.slice h2
  have hI : SameI w ((w.alloc (.cells (r.cs (.slice o1 r.ts.length c1)) 40)).alloc (.cells (r.cs (.slice o2 r.ts.length c2)) 40)) r o1 o2 c1 c2 := by
    have hu1 : Below w.heap.size w (w.alloc (.cells (r.cs (.slice o1 r.ts.length c1)) 40)) := (Below.refl _ _).alloc (Nat.le_refl _) _
    have hu2 : Below (w.heap.size + 1) (w.alloc (.cells (r.cs (.slice o1 r.ts.length c1)) 40)) ((w.alloc (.cells (r.cs (.slice o1 r.ts.length c1)) 40)).alloc (.cells (r.cs (.slice o2 r.ts.length c2)) 40)) := (Below.refl _ _).alloc (by rw [World.size_alloc]; omega) _
    have hz : (w.alloc (.cells (r.cs (.slice o1 r.ts.length c1)) 40)).heap.size = w.heap.size + 1 := World.size_alloc _ _
    have n2 := AtomBox.new (w.alloc (.cells (r.cs (.slice o1 r.ts.length c1)) 40)) r (.slice o2 r.ts.length c2)
    rw [hz] at n2
    rw [← hz] at hu2
    exact ⟨Grid.go (AtomBox.new w r _) hu2, n2, (h1.go hu1).go hu2, (h2.go hu1).go hu2, hu1.trans (hu2.mono (by omega))⟩
  have q5 := ne5
  have qT := neT
  obtain ⟨x0, x1, x2, x3, x4, x5, x6, x7, x8, x9, x10, x11⟩ := AtomBox.cells hI.one
  obtain ⟨y0, y1, y2, y3, y4, y5, y6, y7, y8, y9, y10, y11⟩ := AtomBox.cells hI.two
  simp only [Row.cs] at hI x0 x1 x2 x3 x4 x5 x6 x7 x8 x9 x10 x11 y0 y1 y2 y3 y4 y5 y6 y7 y8 y9 y10 y11 ⊢
  clear h1 h2
  go_enter Tryd.func11, Tryd.ntmps11
  go_wp2
  clear x0 x1 x2 x3 x4 x5 x6 x7 x8 x9 x10 x11 y0 y1 y2 y3 y4 y5 y6 y7 y8 y9 y10 y11
  go_loopw [5] (fun x wr => ∃ j : Nat, x = .int .i64 j ∧ j ≤ r.ts.length ∧ SameI w wr r o1 o2 c1 c2) (fun x _ => (r.ts.length - intOf x).toNat)
  case atStart => exact ⟨0, rfl, by omega, hI⟩
  case round =>
    clear hI
    obtain ⟨j, rfl, hj, hI⟩ := hrel
    have x11 := (AtomBox.cells hI.one).2.2.2.2.2.2.2.2.2.2.2
    have y11 := (AtomBox.cells hI.two).2.2.2.2.2.2.2.2.2.2.2
    by_cases hjl : j < r.ts.length
    · have hji : (j : Int) < (r.ts.length : Int) := by omega
      obtain ⟨b1, rfl, g1⟩ := TermsAt.grid hI.t1 (by omega)
      obtain ⟨b2, rfl, g2⟩ := TermsAt.grid hI.t2 (by omega)
      obtain ⟨tj, htj⟩ : ∃ tj, r.ts.getD j default = tj := ⟨_, rfl⟩
      have q1 : wr.cell? ⟨b1, j * 2, none⟩ = some (.int .i64 tj.1) := by rw [← htj]; exact g1.1 j hjl 0 (by omega)
      have q2 : wr.cell? ⟨b1, j * 2 + 1, none⟩ = some (.int .i64 tj.2) := by rw [← htj]; exact g1.1 j hjl 1 (by omega)
      have q3 : wr.cell? ⟨b2, j * 2, none⟩ = some (.int .i64 tj.1) := by rw [← htj]; exact g2.1 j hjl 0 (by omega)
      have q4 : wr.cell? ⟨b2, j * 2 + 1, none⟩ = some (.int .i64 tj.2) := by rw [← htj]; exact g2.1 j hjl 1 (by omega)
      clear htj g1 g2
      go_wp2
      go_region
      all_goals
        go_wp2
        go_roundw
        case rel => exact ⟨j + 1, rfl, by omega, hI.drew⟩
        case measure => simp only [intOf]; omega
    · have hji : ¬ (j : Int) < (r.ts.length : Int) := by omega
      have hje : j = r.ts.length := by omega
      clear hje
      go_wp2
      go_ret
      exact ⟨rfl, hI.below⟩

end Go.Proofs.YtpmibcdmaaagjaaDoor.Atoms
