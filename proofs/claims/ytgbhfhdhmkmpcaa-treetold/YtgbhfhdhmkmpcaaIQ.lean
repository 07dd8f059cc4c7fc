/-
  A region that only reads, inside a round: one walk in the text's order serves every order.
-/
import Derived.Test.YtgbhfhdhmkmpcaaX0
import Derived.Sort.QuietIn
namespace Go.Proofs.Ytgbhfhdhmkmpcaa.Ranges
open Go Go.RowKit
set_option linter.unusedVariables false
set_option linter.unusedSimpArgs false

variable {F : Fence} {n : Nat} {P : Program} {ops : Array Oper} {md : Region.Mode} {C : World → Prop}

/-- No operation puts a call off. -/
def calmOps (l : List Oper) : Bool := l.all fun o => match o.op with
  | .defer _ => false
  | _ => true
theorem calm_of {l : List Oper} (h : calmOps l = true) {o : Oper} (ho : o ∈ l) : ∀ c, o.op ≠ .defer c := fun c hc => by
  have := List.all_eq_true.1 h o ho
  rw [hc] at this
  cases this
theorem quiet_runs {o : Oper} {a : Act} {K : Act → Prop} {K' : Act → World → Prop} {Q' : Exit → Act → World → Prop} {W : World} (hd : ∀ c, o.op ≠ .defer c) (hW : C W) (hK : ∀ a W', C W' → K a → K' a W')
    (ha : o.askedIn F P a C) (hq : o.quietIn F n P a C K) : o.wpIn F n P a W K' Q' := by
  obtain ⟨v, hv, hk⟩ := hq
  have hr := hv W hW
  refine ⟨ha W hW, ?_⟩
  rw [Oper.semAt_eq _ _ _ hd]
  unfold Oper.quietAtIn at hr
  cases e : (execOp a.eval o).run P W with
  | halt x W' => rw [e] at hr; exact hr.elim
  | ok x W' =>
    rw [e] at hr
    cases x with
    | value u =>
      obtain ⟨rfl, rfl⟩ := hr
      exact hK _ _ hW hk
    | skip =>
      obtain ⟨rfl, rfl⟩ := hr
      exact hK _ _ hW hk
    | enter f args =>
      obtain ⟨rfl, h1, h2⟩ := hr
      exact ⟨h1, h2.mono fun e W'' h => by obtain ⟨rfl, h⟩ := h; exact hK _ _ h hk⟩
    | _ => exact hr.elim
theorem quiet_any {Q : Act → Prop} {Q' : Exit → Act → World → Prop} (hd : ∀ (i : Nat) (o : Oper), ops[i]? = some o → ∀ c, o.op ≠ .defer c) (hQ : ∀ a W, C W → Q a → Q' .normal a W) :
    ∀ (fuel : Nat) (listed : Array Bool) (a : Act) (W : World), C W → wpAnyQIn F n P md ops C Q fuel listed a → wpAnyIn F n P md ops Q' fuel listed a W := by
  intro fuel
  induction fuel with
  | zero => exact fun listed a W hW h => ⟨h.1, hQ _ _ hW h.2⟩
  | succ k ih =>
    refine fun listed a W hW h => ⟨fun h0 => hQ _ _ hW (h.1 h0), fun i hi => ?_⟩
    have hi2 := h.2 i hi
    unfold qOpIn at hi2
    unfold wpOpIn
    cases e : ops[i]? with
    | none =>
      simp only [e] at hi2
      exact ih _ _ _ hW hi2
    | some o =>
      simp only [e] at hi2
      obtain ⟨h1, h2⟩ := hi2
      by_cases hw : Region.wanted o (yielded ops a.tmps) = true
      · rw [if_pos hw] at h2
        show (if _ then _ else _)
        rw [if_pos hw]
        exact quiet_runs (hd i o e) hW (fun a' W' hW' hk => ih _ _ _ hW' hk) h1 h2
      · rw [if_neg hw] at h2
        show (if _ then _ else _)
        rw [if_neg hw]
        exact ⟨h1 W hW, ih _ _ _ hW h2⟩
theorem region_quiet_round {id : Nat} {Q : Exit → Act → World → Prop} {a : Act} {W : World} {l : List Oper} (hc : calmOps l = true) (hm : P.follows .mixedOrders = true) (hB : Region.lexB .any l.toArray = true)
    (h : wpQuietIn F n P l.toArray (fun W' => ∃ k, W' = W.drewN k) (fun a' => ∀ W', (∃ k, W' = W.drewN k) → Q .normal a' W') l a) : (Code.region id l.toArray true).wpIn F n P Q a W := by
  simp only [Region.lexB, Bool.and_eq_true] at hB
  have h2 := wpAnyQIn_lex (F := F) (n := n) (C := fun W' => ∃ k, W' = W.drewN k) (md := .any) hB.1 l 0 (Array.replicate l.toArray.size false) a (by simp) (by simpa using hB.2) h
  refine wpIn_region_any hm (quiet_any (Q := fun a' => ∀ W', (∃ k, W' = W.drewN k) → Q .normal a' W') ?_ (fun _ W' hW' h => h W' hW') _ _ _ _ ⟨1, rfl⟩ (by simpa using h2))
  intro i o hi
  have : o ∈ l := by
    simp only [List.getElem?_toArray] at hi
    exact List.mem_of_getElem? hi
  exact calm_of hc this

end Go.Proofs.Ytgbhfhdhmkmpcaa.Ranges
