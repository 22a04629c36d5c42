import Derived.Test.YtckhhkgemkklnaaDoorQSN
/-
  SagaEnds ..: the record that succeeds, kind by kind, and where Allowed holds it.
-/
namespace Go.Proofs.YtckhhkgemkklnaaDoor
open Go Go.RowKit
open Wb

/-- what happy looks for: the first kind of the list that is not 4 -/
theorem happy_first (S : Sg) (h : chkS S = true) (he : S.x.ended = false) (k : Nat) (hk : k ≤ (allowedP S).length) (h4 : ∀ j (hj : j < (allowedP S).length), j < k → (allowedP S)[j] = 4) : ∃ hk : k < (allowedP S).length, (allowedP S)[k] = 4 ∨ (allowedP S)[k] = happyK S := by
  have e := allowed_eq S h he
  unfold happyK
  generalize allowedP S = l at *
  subst e
  cases ha : S.x.atEnd with
  | true =>
    simp only [ha, ↓reduceIte] at hk h4 ⊢
    match k, hk with
    | 0, _ => exact ⟨by simp, .inr rfl⟩
    | 1, _ => have := h4 0 (by simp) (by omega); simp at this
  | false =>
    by_cases hp : S.x.ph = 1 <;> cases hf : S.x.fl <;> simp only [ha, hp, hf, ↓reduceIte, Bool.false_eq_true] at hk h4 ⊢
    · match k, hk with
      | 0, _ => exact ⟨by simp, .inr rfl⟩
      | 1, _ => have := h4 0 (by simp) (by omega); simp at this
    · match k, hk with
      | 0, _ => exact ⟨by simp, .inr rfl⟩
      | 1, _ => have := h4 0 (by simp) (by omega); simp at this
      | 2, _ => have := h4 0 (by simp) (by omega); simp at this
    · match k, hk with
      | 0, _ => exact ⟨by simp, .inr rfl⟩
      | 1, _ => have := h4 0 (by simp) (by omega); simp at this
    · match k, hk with
      | 0, _ => exact ⟨by simp, .inl rfl⟩
      | 1, _ => exact ⟨by simp, .inr rfl⟩
      | 2, _ => have := h4 1 (by simp) (by omega); simp at this
/-- the kinds it can be, and the phase each belongs to -/
theorem happy_kinds (S : Sg) : happyK S = 7 ∨ (happyK S = 2 ∨ happyK S = 3) ∧ S.x.ph = 1 ∨ (happyK S = 5 ∨ happyK S = 6) ∧ S.x.ph ≠ 1 := by
  unfold happyK
  cases S.x.atEnd <;> by_cases hp : S.x.ph = 1 <;> cases S.x.fl <;> simp [hp]
end Go.Proofs.YtckhhkgemkklnaaDoor
