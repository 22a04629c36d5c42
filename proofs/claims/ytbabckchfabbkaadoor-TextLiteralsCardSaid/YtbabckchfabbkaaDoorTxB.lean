/-
  Package text: Valid, Clip; the law package's cutText.
-/
import Derived.Test.YtbabckchfabbkaaDoorTxA
namespace Go.Proofs.YtbabckchfabbkaaDoor
open Go Go.RowKit
open Tx

set_option maxRecDepth 100000 in
theorem valid_any (s : ByteArray) (w : World) :
    Calls Tryd.prog 25 #[.string s] w fun e w' => e = .returned (.int .i64 (vld s 0)) ∧ Below w.heap.size w w' := by
  have HU : Hid (∀ p, Below w.heap.size w (w.iter s p)) := fun p => up_iter w s p
  go_enter Tryd.func25, Tryd.ntmps25
  go_wp2
  go_loopw [] (fun w' => ∃ (pos : Nat), w' = w.iter s pos ∧ vld s pos = vld s 0) (fun w' => s.size - w'.iterPos w.heap.size)
  case atStart => exact ⟨0, rfl, rfl⟩
  case round =>
    obtain ⟨pos, rfl, hv⟩ := hrel
    have HV : Hid (vld s pos = vld s 0) := hv
    clear hv
    by_cases hp : pos < s.size
    · have hnx : ∀ ty, (Instr.next (.pointer (some ⟨w.heap.size, 0, none⟩)) true ty).run Tryd.prog (w.iter s pos) = _ := fun ty => run_next_any w s pos ty hp
      have hd := decode_fits s pos hp
      go_wp2_with fail
      refine (stray_any s pos _ hp).mono ?_
      rintro e w1 ⟨rfl, rfl⟩
      cases hs : stray s pos with
      | true =>
        have HR : Hid ((pos : Int) = vld s 0) := by show _ = _; rw [← HV.out, vld_hit s pos hp hs]
        clear hs
        go_wp2
        go_ret
        rw [HR.out]
        exact ⟨rfl, HU.out _⟩
      | false =>
        have HR : Hid (vld s (pos + (Utf8.decode s pos).2) = vld s 0) := by show _ = _; rw [← HV.out, vld_step s pos hp hs]
        clear hs
        go_wp2
        go_roundw
        case rel => exact ⟨_, rfl, HR.out⟩
        case measure => simp; omega
    · have hnx : ∀ ty, (Instr.next (.pointer (some ⟨w.heap.size, 0, none⟩)) true ty).run Tryd.prog (w.iter s pos) = _ := fun ty => run_next_end w s pos ty hp
      go_wp2
      go_ret
      rw [← HV.out, vld_end s pos hp]
      exact ⟨rfl, HU.out _⟩

set_option maxRecDepth 100000 in
theorem clip_any (s : ByteArray) (n : Int) (w : World) (hn : n < 9223372036854775808) :
    Calls Tryd.prog 26 #[.string s, .int .i64 n] w fun e w' => e = .returned (.string (clip s n)) ∧ Below w.heap.size w w' := by
  have HU : Hid (∀ p, Below w.heap.size w (w.iter s p)) := fun p => up_iter w s p
  have HC : Hid (clip s n = s.extract 0 (offs s n.toNat 0)) := rfl
  generalize clip s n = c at *
  have H0 : Hid (∃ k, offs s n.toNat 0 = k) := ⟨_, rfl⟩
  obtain ⟨k, hk0⟩ := H0.out
  have HK : Hid (offs s n.toNat 0 = k) := hk0
  clear hk0 H0
  go_enter Tryd.func26, Tryd.ntmps26
  go_wp2
  go_loopw [1] (fun m w' => ∃ (pos : Nat) (x : Int), w' = w.iter s pos ∧ m = .int .i64 x ∧ x ≤ n ∧ (x < 0 → x = n) ∧ offs s x.toNat pos = k ∧ pos ≤ s.size) (fun _ w' => s.size - w'.iterPos w.heap.size)
  case atStart => exact ⟨0, n, rfl, rfl, Int.le_refl _, fun _ => rfl, HK.out, Nat.zero_le _⟩
  case round =>
    obtain ⟨pos, x, rfl, rfl, hx, hx0, ho, hle⟩ := hrel
    have HO : Hid (offs s x.toNat pos = k) := ho
    have HX : Hid (x < 0 → x = n) := hx0
    clear ho hx0
    by_cases hp : pos < s.size
    · have hnx : ∀ ty, (Instr.next (.pointer (some ⟨w.heap.size, 0, none⟩)) true ty).run Tryd.prog (w.iter s pos) = _ := fun ty => run_next_any w s pos ty hp
      have hd := decode_fits s pos hp
      by_cases h1 : x < 1
      · have HR : Hid (pos = k) := by
          show _ = _
          rw [← HO.out, show x.toNat = 0 by omega]
          rfl
        go_wp2
        go_ret
        rw [HC.out, HK.out, ← HR.out]
        exact ⟨rfl, HU.out _⟩
      · have HR : Hid (offs s (x - 1).toNat (pos + (Utf8.decode s pos).2) = k) := by
          show _ = _
          rw [← HO.out, show x.toNat = (x - 1).toNat + 1 by omega, offs, if_pos hp]
        go_wp2
        go_roundw
        case rel => exact ⟨_, x - 1, rfl, by go_num, by omega, by omega, HR.out, hd.2.1⟩
        case measure => simp; omega
    · have hnx : ∀ ty, (Instr.next (.pointer (some ⟨w.heap.size, 0, none⟩)) true ty).run Tryd.prog (w.iter s pos) = _ := fun ty => run_next_end w s pos ty hp
      have HR : Hid (k = s.size) := by
        show _ = _
        rw [← HO.out, offs_end s _ pos hp]
        omega
      go_wp2
      go_ret
      rw [HC.out, HK.out, HR.out, ByteArray.extract_zero_size]
      exact ⟨rfl, HU.out _⟩

/-- cutText -/
def cutT (s : ByteArray) : ByteArray := if s.size ≤ 131072 then s else s.extract 0 131072
theorem cutT_le (s : ByteArray) : (cutT s).size ≤ 131072 := by
  unfold cutT
  split
  · assumption
  · rw [size_cut s 0 131072 (by omega)]
    omega
theorem cut_any (s : ByteArray) (w : World) :
    Calls Tryd.prog 8 #[.string s] w fun e w' => e = .returned (.string (cutT s)) ∧ w' = w := by
  by_cases h : s.size ≤ 131072
  · have HC : Hid (cutT s = s) := by show _ = _; rw [cutT, if_pos h]
    go_enter Tryd.func8, Tryd.ntmps8
    go_wp2
    go_ret
    rw [HC.out]
    exact ⟨rfl, rfl⟩
  · have HC : Hid (cutT s = s.extract 0 131072) := by show _ = _; rw [cutT, if_neg h]
    go_enter Tryd.func8, Tryd.ntmps8
    go_wp2
    go_ret
    rw [HC.out]
    exact ⟨rfl, rfl⟩
end Go.Proofs.YtbabckchfabbkaaDoor
