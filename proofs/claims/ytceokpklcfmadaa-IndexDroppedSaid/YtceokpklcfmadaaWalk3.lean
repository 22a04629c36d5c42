/-
  wire: Uint, ReadUint.
-/
import Derived.Test.YtceokpklcfmadaaWalk2
namespace Go.Proofs.Ytceokpklcfmadaa
open Go Go.RowKit
open Wb

theorem or128 (u : Nat) : bits .or .u8 ((u : Int) % 256) 128 = ((128 + u % 128 : Nat) : Int) := by
  rw [show ((u : Int) % 256) = ((u % 256 : Nat) : Int) by omega]
  have h0 := u8_or_nat (u % 256) 128 (by omega) (by decide)
  refine h0.trans ?_
  congr 1
  have h : (u % 256) ||| 128 = 128 + u % 128 := by
    have e : u % 256 = u % 128 + (u / 128 % 2) * 2 ^ 7 := by omega
    have hb : u % 128 < 2 ^ 7 := by omega
    rcases Nat.mod_two_eq_zero_or_one (u / 128) with h0 | h0
    · rw [e, h0]
      have := or_add 7 (u % 128) 1 hb
      simp at this ⊢
      omega
    · rw [e, h0, Nat.one_mul, ← Nat.one_mul (2 ^ 7), ← or_add 7 (u % 128) 1 hb, Nat.or_assoc]
      have e2 : (1 * 2 ^ 7 ||| 128 : Nat) = 1 * 2 ^ 7 := by decide
      rw [e2, or_add 7 (u % 128) 1 hb]
      omega
  exact h

set_option maxHeartbeats 800000 in
theorem uint_any (v : Nat) (w : World) (hv : v < 18446744073709551616) :
    Calls Try.prog 52 #[.int .u64 (v : Int)] w fun e w' => ∃ v', e = .returned v' ∧ Own w.heap.size w' v' (Wn.uint v) ∧ Below w.heap.size w w' := by
  have hin := info5
  obtain ⟨i0, hi, hz0, hz1, hz2⟩ := info_parts info5
  have hv2 : (v : Int) < 18446744073709551616 := by omega
  go_enter Try.func52, Try.ntmps52
  go_wp2_with (at_make; refine wpList_make_own _ rfl _ _ 44 rfl w.heap.size 5 i0 (.int .u8 0) 1 Try.underlying44 hi hz0 hz1 _ _ _ 10 rfl rfl rfl (by rw [hz2]; decide) (by unfold maxLen; decide) (Nat.le_refl _) ?_)
  intro w1 hown1 hgr1
  have ho1 : Own w.heap.size w1 (.slice (some ⟨w.heap.size, 0, none⟩) 0 10) [] := ⟨hown1, ok_nil⟩
  have hb1 : Below w.heap.size w w1 := (Below.refl _ w).grown hgr1 (Nat.le_refl _) (fun k hk => by cases hk)
  clear hown1 hgr1
  go_wp2
  go_loopw [0, 3] (fun x o wr => ∃ (u : Nat) (pre : List Nat), u < 18446744073709551616 ∧ x = .int .u64 (u : Int) ∧ pre ++ Wn.uint u = Wn.uint v ∧ Own w.heap.size wr o pre ∧ Below w.heap.size w wr) (fun x _ _ => (intOf x).toNat)
  case atStart => exact ⟨v, [], hv, rfl, rfl, ho1, hb1⟩
  case round =>
    obtain ⟨u, pre, hu, rfl, hpre, hown, hbel⟩ := hrel
    have HP : Hid (pre ++ Wn.uint u = Wn.uint v) := hpre
    clear hpre ho1 hb1
    have hu2 : (u : Int) < 18446744073709551616 := by omega
    have hsz := hbel.size
    have hL : pre.length ≤ 10 := by
      have h1 := congrArg List.length HP.out
      have h2 := Wn.uint_len10 v hv
      simp at h1
      omega
    have HO : Hid (∀ o, Own w.heap.size (wr.alloc o) u3 pre) := fun o => hown.alloc o
    by_cases hbig : 128 ≤ u
    · have n1 := or128 u
      have HN : Hid ((pre ++ [128 + u % 128]) ++ Wn.uint (u / 128) = Wn.uint v) := by
        show _ = _
        rw [← HP.out, Wn.uint_big u hbig]
        simp
      have hc : 128 + u % 128 < 256 := by omega
      generalize 128 + u % 128 = c at *
      have hbig2 : (128 : Int) ≤ (u : Int) := by omega
      go_wp2_with (at_builtin; refine wpList_append _ rfl (.tmp 7) (.tmp 11) 44 rfl w.heap.size hin Try.underlying44 _ pre rfl (HO.out _) _ [c] rfl (Bs.one _ c hc _ rfl) (by simp; omega) (by simp; omega) ?_)
      intro v' w' ho' hb' _
      have R : Hid (Own w.heap.size w' v' (pre ++ [c]) ∧ Below w.heap.size w w') := ⟨ho', (hbel.alloc hsz _).trans hb'⟩
      clear ho' hb' hown HO
      go_wp2
      go_roundw
      case rel => exact ⟨u / 128, pre ++ [c], by omega, by go_num, HN.out, R.out.1, R.out.2⟩
      case measure => simp [intOf]; omega
    · have hsm : u < 128 := by omega
      have HN : Hid (pre ++ [u] = Wn.uint v) := by
        show _ = _
        rw [← HP.out, Wn.uint_small u hsm]
      have hsm2 : ¬ (128 : Int) ≤ (u : Int) := by omega
      go_wp2_with (at_builtin; refine wpList_append _ rfl (.tmp 15) (.tmp 18) 44 rfl w.heap.size hin Try.underlying44 _ pre rfl (HO.out _) _ [u] rfl (Bs.one _ u (by omega) _ (by omega)) (by simp; omega) (by simp; omega) ?_)
      intro v' w' ho' hb' _
      have R : Hid (Own w.heap.size w' v' (Wn.uint v) ∧ Below w.heap.size w w') := ⟨by rw [← HN.out]; exact ho', (hbel.alloc hsz _).trans hb'⟩
      clear ho' hb' hown HO
      go_wp2
      go_ret
      exact ⟨_, rfl, R.out.1, R.out.2⟩
end Go.Proofs.Ytceokpklcfmadaa
