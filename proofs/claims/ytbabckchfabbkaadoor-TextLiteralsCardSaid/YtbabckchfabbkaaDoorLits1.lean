/-
  Escapes are ASCII: a literal can be read by jumps.
-/
import Derived.Test.YtbabckchfabbkaaDoorRnd3
namespace Go.Proofs.YtbabckchfabbkaaDoor
open Go Go.RowKit Go.Lib
open Tx

namespace Tx
/-- n bytes, all of them ASCII, stand at q -/
def Low (s : ByteArray) (n : Nat) : Prop := n ≤ s.size ∧ ∀ i, i < n → at' s i < 128
theorem low_pre {s p : ByteArray} (h : pre s p = true) (hp : ∀ i, i < p.size → at' p i < 128) : Low s p.size :=
  ⟨pre_size s p h, fun i hi => by rw [pre_at h i hi]; exact hp i hi⟩
theorem low_p2 (b : UInt8) (hb : b.toNat < 128) : ∀ i, i < (⟨#[92, b]⟩ : ByteArray).size → at' ⟨#[92, b]⟩ i < 128 := by
  intro i hi
  have hi2 : i < 2 := hi
  match i, hi2 with
  | 0, _ => show (92 : UInt8).toNat < 128; decide
  | 1, _ => exact hb
theorem dec_hv {t : ByteArray} {p d : Nat} (h : hv (Utf8.decode t p).1 = some d) : at' t p < 128 ∧ (Utf8.decode t p).1 = at' t p := by
  have h1 := hv_low h
  have h2 : (Utf8.decode t p).1 < 128 := h1
  by_cases h3 : at' t p < 128
  · exact ⟨h3, by rw [dec_ascii t p h3]⟩
  · exfalso
    have h4 := dec_low t p h2
    have key := rd_stray (fun k => at' t (p + k)) (t.size - p) (at_lt t _) (at_lt t _) (at_lt t _)
    have hs : stray t p = true := by
      unfold stray
      rw [Bool.and_eq_true, decide_eq_true_eq, decide_eq_true_eq]
      exact ⟨by omega, h4⟩
    rw [stray_eq, Bool.and_eq_true, decide_eq_true_eq] at hs
    omega
theorem dec_low_at {t : ByteArray} {p : Nat} (h2 : (Utf8.decode t p).1 < 128) : at' t p < 128 ∧ (Utf8.decode t p).1 = at' t p := by
  by_cases h3 : at' t p < 128
  · exact ⟨h3, by rw [dec_ascii t p h3]⟩
  · exfalso
    have h4 := dec_low t p h2
    have hs : stray t p = true := by
      unfold stray
      rw [Bool.and_eq_true, decide_eq_true_eq, decide_eq_true_eq]
      exact ⟨by omega, h4⟩
    rw [stray_eq, Bool.and_eq_true, decide_eq_true_eq] at hs
    omega
theorem erL_low (t : ByteArray) : ∀ (k p v : Nat), t.size - p ≤ k → (∀ i, i < p → at' t i < 128) → (erL t p v).2 ≠ 0 → 4 ≤ (erL t p v).2 ∧ (erL t p v).2 - 3 ≤ t.size ∧ ∀ i, i < (erL t p v).2 - 3 → at' t i < 128
  | 0, p, v, hk, _, h => by
    rw [erL_out t p v (by omega)] at h
    exact (h rfl).elim
  | k + 1, p, v, hk, hl, h => by
    by_cases hp : p < t.size
    · by_cases h2 : (Utf8.decode t p).1 = 125 ∧ 0 < p ∧ Utf8.valid (v : Int) = true
      · have ha := dec_low_at (t := t) (p := p) (by omega)
        rw [erL_end t p v hp h2]
        refine ⟨by show 4 ≤ p + 4; omega, by show p + 4 - 3 ≤ t.size; omega, fun i hi => ?_⟩
        have hi' : i < p + 4 - 3 := hi
        by_cases hip : i < p
        · exact hl i hip
        · obtain rfl : i = p := by omega
          exact ha.1
      · cases hn : hv (Utf8.decode t p).1 with
        | none =>
          rw [erL_no t p v hp h2 hn] at h
          exact (h rfl).elim
        | some d =>
          by_cases h6 : p = 6
          · subst h6
            rw [erL_six t v d hp h2 hn] at h
            exact (h rfl).elim
          · rw [← erL_on t p v d hp h6 h2 hn] at h ⊢
            refine erL_low t k (p + 1) _ (by omega) (fun i hi => ?_) h
            by_cases hip : i < p
            · exact hl i hip
            · obtain rfl : i = p := by omega
              exact (dec_hv hn).1
    · rw [erL_out t p v hp] at h
      exact (h rfl).elim
theorem esc_low (s : ByteArray) (h : (esc s).2 ≠ 0) : Low s (esc s).2 := by
  revert h
  unfold esc
  split
  · rename_i hp
    have hl := low_pre hp (low_p2 120 (by decide))
    unfold eb
    split
    · intro h; exact (h rfl).elim
    · split
      · rename_i h4 _ _ a b ha hb
        intro _
        refine ⟨by show 4 ≤ s.size; omega, fun i hi => ?_⟩
        have hi4 : i < 4 := hi
        match i, hi4 with
        | 0, _ => exact hl.2 0 (by show (0 : Nat) < 2; decide)
        | 1, _ => exact hl.2 1 (by show (1 : Nat) < 2; decide)
        | 2, _ => exact hv_low ha
        | 3, _ => exact hv_low hb
      · intro h; exact (h rfl).elim
  · split
    · rename_i hp
      intro h
      have hps : 3 ≤ s.size := pre_size _ _ hp
      have h1 := erL_low (s.extract 3 s.size) _ 0 0 (Nat.le_refl _) (fun i hi => by omega) h
      rw [size_cut s 3 s.size (Nat.le_refl _)] at h1
      refine ⟨by omega, fun i hi => ?_⟩
      by_cases hi3 : i < 3
      · have hq := pre_at hp i hi3
        rw [hq]
        match i, hi3 with
        | 0, _ => show (92 : UInt8).toNat < 128; decide
        | 1, _ => show (117 : UInt8).toNat < 128; decide
        | 2, _ => show (123 : UInt8).toNat < 128; decide
      · have h2 := h1.2.2 (i - 3) (by omega)
        rw [at_cut s 3 s.size (i - 3) (Nat.le_refl _) (by omega), show 3 + (i - 3) = i by omega] at h2
        exact h2
    · split
      · rename_i hp
        intro _
        exact low_pre hp (low_p2 34 (by decide))
      · split
        · rename_i hp
          intro _
          exact low_pre hp (low_p2 92 (by decide))
        · split
          · rename_i hp
            intro _
            exact low_pre hp (low_p2 110 (by decide))
          · split
            · rename_i hp
              intro _
              exact low_pre hp (low_p2 116 (by decide))
            · split
              · rename_i hp
                intro _
                exact low_pre hp (low_p2 114 (by decide))
              · intro h; exact (h rfl).elim
/-- the reading goes on behind the escape -/
theorem con_jump (z : ByteArray) (q : Nat) (L : List UInt8) (e : Nat) (hq : q < z.size) (he : e ≤ q) (h92 : at' z q = 92) (h : (esc (z.extract q z.size)).2 ≠ 0) :
    con z (q + (esc (z.extract q z.size)).2) (L ++ (esc (z.extract q z.size)).1.data.toList) (q + (esc (z.extract q z.size)).2) = con z q L e ∧ q + (esc (z.extract q z.size)).2 ≤ z.size := by
  have hl := esc_low _ h
  have hd : Utf8.decode z q = (92, 1) := by rw [dec_ascii z q (by omega), h92]
  have e1 := con_e z q L e hq (by omega) (by rw [hd]) h
  rw [hd] at e1
  have hsz := hl.1
  rw [size_cut z q z.size (Nat.le_refl _)] at hsz
  refine ⟨?_, by omega⟩
  rw [← e1]
  generalize hX : esc (z.extract q z.size) = X at *
  have h1 := con_skips z (L ++ X.1.data.toList) (q + X.2) (X.2 - 1) (q + 1) (fun i hi => by
    have h2 := hl.2 (i + 1) (by omega)
    rw [at_cut z q z.size (i + 1) (Nat.le_refl _) (by omega), show q + (i + 1) = q + 1 + i by omega] at h2
    exact ⟨by omega, h2⟩) (by omega)
  rw [h1, show q + 1 + (X.2 - 1) = q + X.2 by omega]
end Tx
end Go.Proofs.YtbabckchfabbkaaDoor
