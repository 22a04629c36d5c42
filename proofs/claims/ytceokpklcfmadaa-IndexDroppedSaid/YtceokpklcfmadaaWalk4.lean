/-
  wire: ReadUint.
-/
import Derived.Test.YtceokpklcfmadaaWalk3
namespace Go.Proofs.Ytceokpklcfmadaa
open Go Go.RowKit
open Wb

def tup3 (a : Nat) (b : Int) (c : Nat) : Value := .tuple #[.int .u64 (a : Int), .int .i64 b, .int .i64 (c : Int)]

theorem and127 (c : Nat) (hc : c < 256) : bits .and .u8 (c : Int) 127 = ((c % 128 : Nat) : Int) := by
  have h0 := u8_and_nat c 127 hc (by decide)
  have e : c &&& 127 = c % 128 := Nat.and_two_pow_sub_one_eq_mod c 7
  rw [e] at h0
  exact h0
theorem shift_or (acc c j : Nat) (hc : c < 256) (hacc : acc < 2 ^ (7 * j)) (hj : j ≤ 9) (h9 : j = 9 → c ≤ 1) :
    bits .or .u64 (acc : Int) (IntKind.u64.wrap (IntKind.u64.wrap (bits .and .u8 (c : Int) 127) * 2 ^ (7 * j))) = ((acc + c % 128 * 2 ^ (7 * j) : Nat) : Int) := by
  rw [and127 c hc]
  have hlt : c % 128 * 2 ^ (7 * j) < 18446744073709551616 := by
    by_cases h : j = 9
    · have := h9 h
      subst h
      have h3 : c % 128 ≤ 1 := by omega
      exact Nat.lt_of_le_of_lt (Nat.mul_le_mul_right (2 ^ (7 * 9)) h3) (by decide)
    · have h1 : 2 ^ (7 * j) ≤ 2 ^ (7 * 8) := Nat.pow_le_pow_right (by decide) (by omega)
      have h2 : c % 128 * 2 ^ (7 * j) ≤ 127 * 2 ^ (7 * 8) := Nat.mul_le_mul (by omega) h1
      exact Nat.lt_of_le_of_lt h2 (by decide)
  have hal : acc < 18446744073709551616 := by
    have h1 : 2 ^ (7 * j) ≤ 2 ^ (7 * 9) := Nat.pow_le_pow_right (by decide) (by omega)
    exact Nat.lt_trans (Nat.lt_of_lt_of_le hacc h1) (by decide)
  have w1 : IntKind.u64.wrap ((c % 128 : Nat) : Int) = ((c % 128 : Nat) : Int) := by rw [IntKind.wrap_u64]; omega
  have cast : ((c % 128 : Nat) : Int) * 2 ^ (7 * j) = ((c % 128 * 2 ^ (7 * j) : Nat) : Int) := by
    rw [Int.natCast_mul, Int.natCast_pow]
    rfl
  rw [w1, cast]
  have w2 : IntKind.u64.wrap ((c % 128 * 2 ^ (7 * j) : Nat) : Int) = ((c % 128 * 2 ^ (7 * j) : Nat) : Int) := by
    rw [IntKind.wrap_u64]
    omega
  rw [w2, u64_or_nat acc _ hal hlt, or_add (7 * j) acc (c % 128) hacc]

set_option maxHeartbeats 1000000 in
theorem readUint_in (v : Value) (l : List Nat) (p : Nat) (w : World) (h : Bs w v l) (hp : p < l.length) (hlen : l.length ≤ 140737488355328) (R : Nat × Nat × Nat) (hR : Wn.rd (l.drop p) 0 0 = R) :
    Calls Try.prog 66 #[v, .int .i64 (p : Int)] w fun e w' => e = .returned (tup3 R.1 (if R.2.2 = 0 then ((p + R.2.1 : Nat) : Int) else 0) R.2.2) ∧ w = w' := by
  have hg := h.good
  have hob := h
  rcases h.cases with ⟨hnil, _⟩ | ⟨_, b', off, cap, rfl, hl, hm, hcell⟩
  · subst hnil; simp at hp
  unfold maxLen at hm
  have HR : Hid (Wn.rd (l.drop p) 0 0 = R) := hR
  clear hR
  obtain ⟨V, hV⟩ : ∃ V : Value, V = tup3 R.1 (if R.2.2 = 0 then ((p + R.2.1 : Nat) : Int) else 0) R.2.2 := ⟨_, rfl⟩
  rw [← hV]
  have HV : Hid (V = tup3 R.1 (if R.2.2 = 0 then ((p + R.2.1 : Nat) : Int) else 0) R.2.2) := hV
  clear hV
  go_enter Try.func66, Try.ntmps66
  go_wp2_with fail
  refine (outside_no _ l _ _ hob (by omega) (by omega)).mono ?_
  rintro e w1 ⟨rfl, rfl⟩
  clear hob h
  have hcp : ¬ cap = p := by omega
  go_wp2
  go_loop [7, 17] (fun x i => ∃ (j acc : Nat), p + j ≤ l.length ∧ j ≤ 9 ∧ i = .int .i64 (j : Int) ∧ x = .int .u64 (acc : Int) ∧ acc < 2 ^ (7 * j) ∧ Wn.rd (l.drop (p + j)) j acc = R) (fun _ i => l.length - (intOf i).toNat)
  case atStart => exact ⟨0, 0, by omega, by omega, rfl, rfl, by simp, HR.out⟩
  case round =>
    obtain ⟨j, acc, hj, hj9, rfl, rfl, hacc, hrd⟩ := hrel
    have HRd : Hid (Wn.rd (l.drop (p + j)) j acc = R) := hrd
    have HA : Hid (acc < 2 ^ (7 * j)) := hacc
    clear hrd hacc HR
    by_cases hlt : p + j < l.length
    · have hcj := hcell (p + j) hlt
      have h256 := ok_get hg (p + j) hlt
      have HD : Hid (l.drop (p + j) = l[p + j] :: l.drop (p + j + 1)) := List.drop_eq_getElem_cons hlt
      rw [← Nat.add_assoc] at hcj
      clear hcell
      generalize l[p + j] = c at *
      have hrd : Wn.rd (c :: l.drop (p + j + 1)) j acc = R := by rw [← HD.out]; exact HRd.out
      clear HRd HD
      by_cases hw : j = 9 ∧ 1 < c
      · rw [Wn.rd_wide _ _ _ _ hw] at hrd
        have HF : Hid (V = .tuple #[.int .u64 0, .int .i64 0, .int .i64 12]) := by
          show _ = _
          rw [HV.out, ← hrd]
          rfl
        have d9 : ((j : Int) == 9) = true := beq_iff_eq.2 (by omega)
        have d1 : (1 : Int) < (c : Int) := by omega
        clear hrd hw
        go_wp2
        go_ret3
        exact ⟨by rw [HF.out]; rfl, rfl⟩
      · have hso := shift_or acc c j h256 HA.out hj9 (fun e => by omega)
        by_cases h128 : 128 ≤ c
        · rw [Wn.rd_more _ _ _ _ hw h128] at hrd
          have HF : Hid (Wn.rd (l.drop (p + j + 1)) (j + 1) (acc + c % 128 * 2 ^ (7 * j)) = R) := hrd
          have hnew : acc + c % 128 * 2 ^ (7 * j) < 2 ^ (7 * (j + 1)) := by
            rw [Wn.pow_step]
            have h1 : c % 128 * 2 ^ (7 * j) ≤ 127 * 2 ^ (7 * j) := Nat.mul_le_mul_right _ (by omega)
            have h2 := HA.out
            omega
          have HW : Hid (acc + c % 128 * 2 ^ (7 * j) < 2 ^ (7 * (j + 1))) := hnew
          generalize acc + c % 128 * 2 ^ (7 * j) = acc' at *
          have d9 : ((j : Int) == 9) = false := beq_eq_false_iff_ne.2 (by omega)
          have d128 : (128 : Int) ≤ (c : Int) := by omega
          have j8 : j ≤ 8 := by omega
          clear hrd hw hnew
          go_wp2
          go_round
          case rel => exact ⟨j + 1, acc', by omega, by omega, by go_num, by first | rfl | rw [hso], HW.out, HF.out⟩
          case measure => simp [intOf]; omega
        · have d128 : ¬ (128 : Int) ≤ (c : Int) := by omega
          by_cases h0 : c = 0 ∧ 0 < j
          · rw [Wn.rd_min _ _ _ _ h0.1 h0.2] at hrd
            have HF : Hid (V = .tuple #[.int .u64 0, .int .i64 0, .int .i64 11]) := by
              show _ = _
              rw [HV.out, ← hrd]
              rfl
            obtain ⟨rfl, hj0⟩ := h0
            clear hrd hw
            by_cases h9 : j = 9
            · have d9 : ((j : Int) == 9) = true := beq_iff_eq.2 (by omega)
              clear h9
              go_wp2
              go_ret3
              exact ⟨by rw [HF.out]; rfl, rfl⟩
            · have d9 : ((j : Int) == 9) = false := beq_eq_false_iff_ne.2 (by omega)
              go_wp2
              go_ret3
              exact ⟨by rw [HF.out]; rfl, rfl⟩
          · rw [Wn.rd_last _ _ _ _ hw (by omega) h0] at hrd
            have HF : Hid ((acc + c % 128 * 2 ^ (7 * j), j + 1, 0) = R) := hrd
            generalize acc + c % 128 * 2 ^ (7 * j) = acc' at *
            have fin : ∀ x : Int, x = (acc' : Int) → Ending.returned (.tuple #[.int .u64 x, .int .i64 ((p : Int) + (j : Int) + 1), .int .i64 0]) = .returned V := by
              rintro x rfl
              rw [HV.out, ← HF.out]
              unfold tup3
              simp
              omega
            have FN : Hid (∀ x : Int, x = (acc' : Int) → Ending.returned (.tuple #[.int .u64 x, .int .i64 ((p : Int) + (j : Int) + 1), .int .i64 0]) = .returned V) := fin
            clear hrd fin
            by_cases h9 : j = 9
            · have d9 : ((j : Int) == 9) = true := beq_iff_eq.2 (by omega)
              have d1 : ¬ (1 : Int) < (c : Int) := by omega
              have d0 : ((c : Int) == 0) = false := beq_eq_false_iff_ne.2 (by omega)
              clear h9 hw h0
              go_wp2
              go_ret3
              exact ⟨by first | exact FN.out _ rfl | exact FN.out _ hso, rfl⟩
            · have d9 : ((j : Int) == 9) = false := beq_eq_false_iff_ne.2 (by omega)
              by_cases hc0 : c = 0
              · have d0 : ((c : Int) == 0) = true := beq_iff_eq.2 (by omega)
                have dj : ¬ (0 : Int) < (j : Int) := by omega
                clear hw h0 h9 hc0
                go_wp2
                go_ret3
                exact ⟨by first | exact FN.out _ rfl | exact FN.out _ hso, rfl⟩
              · have d0 : ((c : Int) == 0) = false := beq_eq_false_iff_ne.2 (by omega)
                clear hw h0 h9 hc0
                go_wp2
                go_ret3
                exact ⟨by first | exact FN.out _ rfl | exact FN.out _ hso, rfl⟩
    · have HF : Hid (V = .tuple #[.int .u64 0, .int .i64 0, .int .i64 10]) := by
        have h1 := HRd.out
        rw [List.drop_eq_nil_of_le (by omega)] at h1
        show _ = _
        rw [HV.out, ← h1]
        rfl
      go_wp2
      go_ret3
      exact ⟨by rw [HF.out]; rfl, rfl⟩
end Go.Proofs.Ytceokpklcfmadaa
