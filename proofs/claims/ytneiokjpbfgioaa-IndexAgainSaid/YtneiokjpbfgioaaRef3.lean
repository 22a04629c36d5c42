/-
  The document's answer: annalsref1's ReadUint.
-/
import Derived.Test.YtneiokjpbfgioaaRef3Num
import Derived.Test.YtneiokjpbfgioaaWalk5
namespace Go.Proofs.Ytneiokjpbfgioaa
open Go Go.RowKit
open Wb

theorem getElem_drop' (l : List Nat) (q j : Nat) (h : j < (l.drop q).length) : (l.drop q)[j] = l[q + j]'(by rw [List.length_drop] at h; omega) := by simp
theorem val_lt : ∀ (l : List Nat) , Wn.val l < 2 ^ (7 * l.length)
  | [] => by simp [Wn.val]
  | c :: r => by
    have := val_lt r
    have h2 : c % 128 < 128 := Nat.mod_lt _ (by decide)
    show c % 128 + 128 * Wn.val r < 2 ^ (7 * (r.length + 1))
    rw [Wn.pow_step]
    omega
theorem val_drop_le : ∀ (l : List Nat) (m : Nat), Wn.val (l.drop m) ≤ Wn.val l
  | l, 0 => by simp
  | [], m + 1 => by simp
  | c :: r, m + 1 => by
    have := val_drop_le r m
    show Wn.val (r.drop m) ≤ c % 128 + 128 * Wn.val r
    omega
theorem val_step (l : List Nat) (m : Nat) (h : m < l.length) : Wn.val (l.drop m) = Wn.val (l.drop (m + 1)) * 128 + l[m] % 128 := by
  rw [List.drop_eq_getElem_cons h]
  show l[m] % 128 + 128 * Wn.val (l.drop (m + 1)) = _
  omega
theorem val_fits (l : List Nat) (n : Nat) (hn : n < l.length) (h9 : n ≤ 9) (hl : n = 9 → l[n] ≤ 1) : Wn.val (l.take (n + 1)) < 18446744073709551616 := by
  by_cases h : n = 9
  · rw [List.take_succ_eq_append_getElem hn, Wn.val_snoc]
    have h1 := val_lt (l.take n)
    have hlen : (l.take n).length = n := by rw [List.length_take]; omega
    rw [hlen] at h1 ⊢
    have h2 := hl h
    subst h
    have h3 : l[9] % 128 ≤ 1 := Nat.le_trans (Nat.mod_le _ _) h2
    have h4 : l[9] % 128 * 2 ^ (7 * 9) ≤ 1 * 2 ^ (7 * 9) := Nat.mul_le_mul_right _ h3
    have e : (2 : Nat) ^ (7 * 9) = 9223372036854775808 := by decide
    omega
  · have h1 := val_lt (l.take (n + 1))
    have hlen : (l.take (n + 1)).length = n + 1 := by rw [List.length_take]; omega
    rw [hlen] at h1
    have h2 : (2 : Nat) ^ (7 * (n + 1)) ≤ 2 ^ 63 := Nat.pow_le_pow_right (by decide) (by omega)
    have e : (2 : Nat) ^ 63 = 9223372036854775808 := by decide
    omega
theorem ru_at (l : List Nat) (q : Nat) (hq : q ≤ l.length) : Wn.ru l (q : Int) = ((Wn.rd (l.drop q) 0 0).1, (if (Wn.rd (l.drop q) 0 0).2.2 = 0 then (q : Int) + ((Wn.rd (l.drop q) 0 0).2.1 : Int) else 0), (Wn.rd (l.drop q) 0 0).2.2) := by
  unfold Wn.ru
  rw [if_neg (by omega), Int.toNat_natCast]

set_option maxRecDepth 20000 in
set_option maxHeartbeats 2000000 in
theorem rru_any (v : Value) (l : List Nat) (p : Int) (w : World) (h : Bs w v l) (hlen : l.length ≤ 140737488355328) :
    Calls Try.prog 45 #[v, .int .i64 p] w fun e w' => e = .returned (tup3 (Wn.ru l p).1 (Wn.ru l p).2.1 (Wn.ru l p).2.2) ∧ w = w' := by
  have hg := h.good
  obtain ⟨ao, cap, rfl, hl, hm, hn, hc⟩ := h.shape
  by_cases ho : p < 0 ∨ (l.length : Int) < p
  · rw [Wn.ru_out l p ho]
    unfold tup3
    clear hc hn
    rcases ho with ho | ho
    · go_enter Try.func45, Try.ntmps45
      go_wp2
      go_ret3
      exact ⟨rfl, rfl⟩
    · have hp0 : ¬ p < 0 := by omega
      go_enter Try.func45, Try.ntmps45
      go_wp2
      go_ret3
      exact ⟨rfl, rfl⟩
  · obtain ⟨q, rfl⟩ := Int.eq_ofNat_of_zero_le (show 0 ≤ p by omega)
    have hq : q ≤ l.length := by omega
    clear ho
    obtain ⟨V, hV⟩ : ∃ V, V = (Wn.ru l (q : Int)).1 := ⟨_, rfl⟩
    obtain ⟨E, hE⟩ : ∃ E, E = (Wn.ru l (q : Int)).2.1 := ⟨_, rfl⟩
    obtain ⟨N, hN⟩ : ∃ N, N = (Wn.ru l (q : Int)).2.2 := ⟨_, rfl⟩
    rw [← hV, ← hE, ← hN]
    have HS : Hid (V = (Wn.ru l (q : Int)).1 ∧ E = (Wn.ru l (q : Int)).2.1 ∧ N = (Wn.ru l (q : Int)).2.2) := ⟨hV, hE, hN⟩
    clear hV hE hN
    unfold tup3
    go_enter Try.func45, Try.ntmps45
    go_wp2
    go_loop [7] (fun x => ∃ n : Nat, n ≤ 9 ∧ q + n ≤ l.length ∧ x = .int .i64 (n : Int) ∧ ∀ j (_ : j < n) (h2 : q + j < l.length), 128 ≤ l[q + j]) (fun x => 9 - (intOf x).toNat)
    case atStart => exact ⟨0, by omega, by omega, rfl, fun j hj => absurd hj (Nat.not_lt_zero _)⟩
    case round =>
      obtain ⟨n, hn9, hql, rfl, hbig⟩ := hrel
      have HB : Hid (∀ j (_ : j < n) (h2 : q + j < l.length), 128 ≤ l[q + j]) := hbig
      clear hbig
      by_cases he : q + n = l.length
      · have HR : Hid (V = 0 ∧ E = 0 ∧ N = 10) := by
          have h1 := Wn.rd_short (l.drop q) n (by rw [List.length_drop]; omega) hn9 (fun j hj h2 => by rw [getElem_drop']; exact HB.out j hj _)
          have h3 := HS.out
          rw [ru_at l q hq, h1] at h3
          exact ⟨h3.1, h3.2.1, h3.2.2⟩
        obtain ⟨rfl, rfl, rfl⟩ := HR.out
        clear HS HB hc HR
        by_cases h9 : n = 9
        · subst h9
          go_wp2
          go_ret3
          exact ⟨rfl, rfl⟩
        · go_wp2
          go_ret3
          exact ⟨rfl, rfl⟩
      · have hlt : q + n < l.length := by omega
        obtain ⟨b, off, rfl, hcell⟩ := hc (List.ne_nil_of_length_pos (by omega))
        have hck := hcell (q + n) hlt
        have h256 := ok_get hg (q + n) hlt
        have HC : Hid (∀ j (h : j < l.length), w.cell? ⟨b, off + j, none⟩ = some (.int .u8 (l[j] : Int)) ∧ l[j] < 256) := fun j h => ⟨hcell j h, ok_get hg j h⟩
        clear hc hcell hg h
        by_cases hgo : n < 9 ∧ 128 ≤ l[q + n]
        · have HB2 : Hid (∀ j (_ : j < n + 1) (h2 : q + j < l.length), 128 ≤ l[q + j]) := fun j hj h2 => by
            rcases Nat.lt_succ_iff_lt_or_eq.1 hj with h | h
            · exact HB.out j h h2
            · subst h
              exact hgo.2
          obtain ⟨hg9, hgc⟩ := hgo
          clear HB HS HC
          generalize l[q + n] = c at *
          go_wp2
          go_round
          case rel => exact ⟨n + 1, by omega, by omega, by go_num, HB2.out⟩
          case measure => simp [intOf]; omega
        · have HL : Hid (Wn.rd (l.drop q) 0 0 = if n = 9 ∧ 1 < l[q + n] then (0, 0, 12) else if l[q + n] = 0 ∧ 0 < n then (0, 0, 11) else (Wn.val ((l.drop q).take (n + 1)), n + 1, 0)) := by
            have h1 := Wn.rd_lastb (l.drop q) n (by rw [List.length_drop]; omega) hn9 (fun j hj h2 => by rw [getElem_drop']; exact HB.out j hj _) (by rw [getElem_drop']; omega)
            rw [getElem_drop'] at h1
            exact h1
          clear HB
          have hlast : n = 9 ∨ l[q + n] < 128 := by omega
          by_cases hA : n = 9 ∧ 1 < l[q + n]
          · have HR : Hid (V = 0 ∧ E = 0 ∧ N = 12) := by
              have h3 := HS.out
              rw [ru_at l q hq, HL.out, if_pos hA] at h3
              exact ⟨h3.1, h3.2.1, h3.2.2⟩
            obtain ⟨rfl, rfl, rfl⟩ := HR.out
            obtain ⟨rfl, hA2⟩ := hA
            clear HS HL HC HR hgo hlast
            generalize l[q + 9] = c at *
            go_wp2
            go_ret3
            exact ⟨rfl, rfl⟩
          · by_cases hB : l[q + n] = 0 ∧ 0 < n
            · have HR : Hid (V = 0 ∧ E = 0 ∧ N = 11) := by
                have h3 := HS.out
                rw [ru_at l q hq, HL.out, if_neg hA, if_pos hB] at h3
                exact ⟨h3.1, h3.2.1, h3.2.2⟩
              obtain ⟨rfl, rfl, rfl⟩ := HR.out
              obtain ⟨hB1, hB2⟩ := hB
              clear HS HL HC HR hgo hlast hA
              generalize l[q + n] = c at *
              subst hB1
              by_cases h9 : n = 9
              · subst h9
                go_wp2
                go_ret3
                exact ⟨rfl, rfl⟩
              · go_wp2
                go_ret3
                exact ⟨rfl, rfl⟩
            · obtain ⟨T, hT⟩ : ∃ T, T = (l.drop q).take (n + 1) := ⟨_, rfl⟩
              have HR : Hid (V = Wn.val T ∧ E = (q : Int) + ((n + 1 : Nat) : Int) ∧ N = 0) := by
                have h3 := HS.out
                rw [ru_at l q hq, HL.out, if_neg hA, if_neg hB] at h3
                rw [hT]
                exact ⟨h3.1, h3.2.1, h3.2.2⟩
              have HV : Hid (V = Wn.val T) := HR.out.1
              have hE2 : E = (q : Int) + (n : Int) + 1 := by have := HR.out.2.1; omega
              obtain rfl := HR.out.2.2
              subst hE2
              have HT : Hid (T.length = n + 1 ∧ ∀ m (h1 : m < T.length) (h2 : q + m < l.length), T[m] = l[q + m]) := by
                subst hT
                refine ⟨by rw [List.length_take, List.length_drop]; omega, fun m h1 h2 => ?_⟩
                simp
              have HF : Hid (Wn.val T < 18446744073709551616) := by
                rw [hT]
                exact val_fits (l.drop q) n (by rw [List.length_drop]; omega) hn9 (fun e => by rw [getElem_drop']; omega)
              have HZ : Hid (Wn.val (T.drop (n + 1)) = 0) := by
                show _ = _
                rw [List.drop_eq_nil_of_le (by rw [HT.out.1]; exact Nat.le_refl _)]
                rfl
              clear HS HL HR hgo hT
              have hcz : ¬ (l[q + n] = 0 ∧ 0 < n) := hB
              have hcA : ¬ (n = 9 ∧ 1 < l[q + n]) := hA
              clear hA hB
              generalize l[q + n] = c at *
              by_cases h9 : n = 9
              · subst h9
                have hc1 : ¬ (1 : Int) < (c : Int) := by omega
                have hc0 : ¬ c = 0 := by omega
                clear hcz hcA hlast
                go_wp2
                go_loop [9, 10] (fun x i => ∃ m : Nat, m ≤ 9 + 1 ∧ i = .int .i64 ((m : Int) - 1) ∧ x = .int .u64 ((Wn.val (T.drop m) : Nat) : Int)) (fun _ i => (intOf i + 1).toNat)
                case atStart => exact ⟨9 + 1, Nat.le_refl _, by go_num, by rw [HZ.out]; rfl⟩
                case round =>
                  obtain ⟨m, hmn, rfl, rfl⟩ := hrel
                  by_cases hm0 : m = 0
                  · subst hm0
                    have HV0 : Hid (Wn.val (T.drop 0) = V) := by show _ = _; rw [List.drop_zero]; exact HV.out.symm
                    generalize Wn.val (T.drop 0) = X at *
                    obtain rfl : X = V := HV0.out
                    go_wp2
                    go_ret3
                    exact ⟨rfl, rfl⟩
                  · obtain ⟨k, rfl⟩ : ∃ k, m = k + 1 := ⟨m - 1, by omega⟩
                    obtain ⟨hck2, hc256⟩ := HC.out (q + k) (by omega)
                    have HST : Hid (Wn.val (T.drop k) = Wn.val (T.drop (k + 1)) * 128 + l[q + k]'(by omega) % 128) := by
                      have h1 := val_step T k (by rw [HT.out.1]; omega)
                      rw [HT.out.2 k _ _] at h1
                      exact h1
                    have hbd : Wn.val (T.drop (k + 1)) * 128 + l[q + k]'(by omega) % 128 < 18446744073709551616 := by
                      rw [← HST.out]
                      exact Nat.lt_of_le_of_lt (val_drop_le T k) HF.out
                    generalize l[q + k]'(by omega) = c2 at *
                    generalize Wn.val (T.drop (k + 1)) = X at *
                    have hX : X * 128 < 18446744073709551616 := by omega
                    go_wp2
                    go_round
                    case rel => exact ⟨k, by omega, by go_num, by rw [HST.out]; go_num⟩
                    case measure => simp [intOf] <;> omega
              · have hc128 : c < 128 := by omega
                by_cases hn0 : n = 0
                · subst hn0
                  clear hcz hcA hlast h9
                  simp only [Nat.add_zero] at hck
                  go_wp2
                  go_loop [9, 10] (fun x i => ∃ m : Nat, m ≤ 0 + 1 ∧ i = .int .i64 ((m : Int) - 1) ∧ x = .int .u64 ((Wn.val (T.drop m) : Nat) : Int)) (fun _ i => (intOf i + 1).toNat)
                  case atStart => exact ⟨0 + 1, Nat.le_refl _, by go_num, by rw [HZ.out]; rfl⟩
                  case round =>
                    obtain ⟨m, hmn, rfl, rfl⟩ := hrel
                    by_cases hm0 : m = 0
                    · subst hm0
                      have HV0 : Hid (Wn.val (T.drop 0) = V) := by show _ = _; rw [List.drop_zero]; exact HV.out.symm
                      generalize Wn.val (T.drop 0) = X at *
                      obtain rfl : X = V := HV0.out
                      go_wp2
                      go_ret3
                      exact ⟨rfl, rfl⟩
                    · obtain ⟨k, rfl⟩ : ∃ k, m = k + 1 := ⟨m - 1, by omega⟩
                      obtain ⟨hck2, hc256⟩ := HC.out (q + k) (by omega)
                      have HST : Hid (Wn.val (T.drop k) = Wn.val (T.drop (k + 1)) * 128 + l[q + k]'(by omega) % 128) := by
                        have h1 := val_step T k (by rw [HT.out.1]; omega)
                        rw [HT.out.2 k _ _] at h1
                        exact h1
                      have hbd : Wn.val (T.drop (k + 1)) * 128 + l[q + k]'(by omega) % 128 < 18446744073709551616 := by
                        rw [← HST.out]
                        exact Nat.lt_of_le_of_lt (val_drop_le T k) HF.out
                      generalize l[q + k]'(by omega) = c2 at *
                      generalize Wn.val (T.drop (k + 1)) = X at *
                      have hX : X * 128 < 18446744073709551616 := by omega
                      go_wp2
                      go_round
                      case rel => exact ⟨k, by omega, by go_num, by rw [HST.out]; go_num⟩
                      case measure => simp [intOf] <;> omega
                · have hc0 : ¬ c = 0 := by omega
                  clear hcz hcA hlast
                  go_wp2
                  go_loop [9, 10] (fun x i => ∃ m : Nat, m ≤ n + 1 ∧ i = .int .i64 ((m : Int) - 1) ∧ x = .int .u64 ((Wn.val (T.drop m) : Nat) : Int)) (fun _ i => (intOf i + 1).toNat)
                  case atStart => exact ⟨n + 1, Nat.le_refl _, by go_num, by rw [HZ.out]; rfl⟩
                  case round =>
                    obtain ⟨m, hmn, rfl, rfl⟩ := hrel
                    by_cases hm0 : m = 0
                    · subst hm0
                      have HV0 : Hid (Wn.val (T.drop 0) = V) := by show _ = _; rw [List.drop_zero]; exact HV.out.symm
                      generalize Wn.val (T.drop 0) = X at *
                      obtain rfl : X = V := HV0.out
                      go_wp2
                      go_ret3
                      exact ⟨rfl, rfl⟩
                    · obtain ⟨k, rfl⟩ : ∃ k, m = k + 1 := ⟨m - 1, by omega⟩
                      obtain ⟨hck2, hc256⟩ := HC.out (q + k) (by omega)
                      have HST : Hid (Wn.val (T.drop k) = Wn.val (T.drop (k + 1)) * 128 + l[q + k]'(by omega) % 128) := by
                        have h1 := val_step T k (by rw [HT.out.1]; omega)
                        rw [HT.out.2 k _ _] at h1
                        exact h1
                      have hbd : Wn.val (T.drop (k + 1)) * 128 + l[q + k]'(by omega) % 128 < 18446744073709551616 := by
                        rw [← HST.out]
                        exact Nat.lt_of_le_of_lt (val_drop_le T k) HF.out
                      generalize l[q + k]'(by omega) = c2 at *
                      generalize Wn.val (T.drop (k + 1)) = X at *
                      have hX : X * 128 < 18446744073709551616 := by omega
                      go_wp2
                      go_round
                      case rel => exact ⟨k, by omega, by go_num, by rw [HST.out]; go_num⟩
                      case measure => simp [intOf] <;> omega
end Go.Proofs.Ytneiokjpbfgioaa
