import Derived.Test.YtceokpklcfmadaaQW1
/-
  The document's answer: annalsref1's Uint, Part, Join, Bytes, Sum.
-/
namespace Go.Proofs.Ytceokpklcfmadaa
open Go Go.RowKit
open Wb

set_option maxHeartbeats 800000 in
theorem ruint_any (v : Nat) (w : World) (hv : v < 18446744073709551616) :
    Calls Try.prog 59 #[.int .u64 (v : Int)] w fun e w' => ∃ v', e = .returned v' ∧ Own w.heap.size w' v' (Wn.uint v) ∧ Below w.heap.size w w' := by
  have hin := info5
  have hv2 : (v : Int) < 18446744073709551616 := by omega
  go_enter Try.func59, Try.ntmps59
  go_wp2
  go_loopw [0, 3] (fun x o wr => ∃ (u : Nat) (pre : List Nat), u < 18446744073709551616 ∧ x = .int .u64 (u : Int) ∧ pre ++ Wn.uint u = Wn.uint v ∧ Own w.heap.size wr o pre ∧ Below w.heap.size w wr) (fun x _ _ => (intOf x).toNat)
  case atStart => exact ⟨v, [], hv, rfl, rfl, Own.nil _ _, Below.refl _ _⟩
  case round =>
    obtain ⟨u, pre, hu, rfl, hpre, hown, hbel⟩ := hrel
    have HP : Hid (pre ++ Wn.uint u = Wn.uint v) := hpre
    clear hpre
    have hu2 : (u : Int) < 18446744073709551616 := by omega
    have hsz := hbel.size
    have hL : pre.length ≤ 10 := by
      have h1 := congrArg List.length HP.out
      have h2 := Wn.uint_len10 v hv
      simp at h1
      omega
    have HO : Hid (∀ o, Own w.heap.size (wr.alloc o) u3 pre) := fun o => hown.alloc o
    by_cases hbig : 128 ≤ u
    · have HN : Hid ((pre ++ [128 + u % 128]) ++ Wn.uint (u / 128) = Wn.uint v) := by
        show _ = _
        rw [← HP.out, Wn.uint_big u hbig]
        simp
      have hbig2 : (127 : Int) < (u : Int) := by omega
      go_wp2_with (at_builtin; refine wpList_append _ rfl (.tmp 6) (.tmp 11) 44 rfl w.heap.size hin Try.underlying44 _ pre rfl (HO.out _) _ [128 + u % 128] rfl (Bs.one _ (128 + u % 128) (by omega) _ (by omega)) (by simp; omega) (by simp; omega) ?_)
      intro v' w' ho' hb' _
      have R : Hid (Own w.heap.size w' v' (pre ++ [128 + u % 128]) ∧ Below w.heap.size w w') := ⟨ho', (hbel.alloc hsz _).trans hb'⟩
      clear ho' hb' hown HO
      go_wp2
      go_roundw
      case rel => exact ⟨u / 128, pre ++ [128 + u % 128], by omega, by go_num, HN.out, R.out.1, R.out.2⟩
      case measure => simp [intOf]; omega
    · have hsm : u < 128 := by omega
      have HN : Hid (pre ++ [u] = Wn.uint v) := by
        show _ = _
        rw [← HP.out, Wn.uint_small u hsm]
      have hsm2 : ¬ (127 : Int) < (u : Int) := by omega
      go_wp2_with (at_builtin; refine wpList_append _ rfl (.tmp 15) (.tmp 18) 44 rfl w.heap.size hin Try.underlying44 _ pre rfl (HO.out _) _ [u] rfl (Bs.one _ u (by omega) _ (by omega)) (by simp; omega) (by simp; omega) ?_)
      intro v' w' ho' hb' _
      have R : Hid (Own w.heap.size w' v' (Wn.uint v) ∧ Below w.heap.size w w') := ⟨by rw [← HN.out]; exact ho', (hbel.alloc hsz _).trans hb'⟩
      clear ho' hb' hown HO
      go_wp2
      go_ret
      exact ⟨_, rfl, R.out.1, R.out.2⟩

theorem rseg_snoc (l : List Nat) (lo k : Nat) (h1 : lo ≤ k) (h2 : k < l.length) : (l.take (k + 1)).drop lo = (l.take k).drop lo ++ [l[k]] := by
  rw [List.take_succ_eq_append_getElem h2, List.drop_append_of_le_length (by simp; omega)]

theorem rstep_num (r : Nat) (hr : r < 4294967296) : bits .xor .u32 ((r : Int) / 2) 3988292384 = ((r / 2 ^^^ 3988292384 : Nat) : Int) := by
  rw [show ((r : Int) / 2) = ((r / 2 : Nat) : Int) by omega]
  exact u32_xor_nat (r / 2) 3988292384 (by omega) (by decide)
def stp : Nat → Nat → Nat
  | 0, r => r
  | k + 1, r => Wm.step (stp k r)
theorem stp8 (r c : Nat) : stp 8 (r ^^^ c) = Wm.feed r c := rfl
theorem stp_lt : ∀ k r, r < 4294967296 → stp k r < 4294967296
  | 0, _, h => h
  | k + 1, r, h => Wm.step_lt _ (stp_lt k r h)

end Go.Proofs.Ytceokpklcfmadaa
