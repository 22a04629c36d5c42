import Derived.Test.YtdnackjakfiffaaGreatDoorQW1
/-
  The document's answer: annalsref1's Uint, Part, Join, Bytes, Sum.
-/
namespace Go.Proofs.YtdnackjakfiffaaGreatDoor
open Go Go.RowKit
open Wb

theorem rseg_snoc (l : List Nat) (lo k : Nat) (h1 : lo ≤ k) (h2 : k < l.length) : (l.take (k + 1)).drop lo = (l.take k).drop lo ++ [l[k]] := by
  rw [List.take_succ_eq_append_getElem h2, List.drop_append_of_le_length (by simp; omega)]

set_option maxHeartbeats 400000 in
theorem rpart_any (v : Value) (l : List Nat) (lo hi : Nat) (w : World) (h : Bs w v l) (hlen : l.length ≤ 140737488355328) (h1 : lo ≤ hi) (h2 : hi ≤ l.length) :
    Calls Tryz.prog 43 #[v, .int .i64 (lo : Int), .int .i64 (hi : Int)] w fun e w' => ∃ v', e = .returned v' ∧ Own w.heap.size w' v' ((l.take hi).drop lo) ∧ Below w.heap.size w w' := by
  have hin := info5
  have hg := h.good
  obtain ⟨ao, cap, rfl, hl, hm, hn, hc⟩ := h.shape
  unfold maxLen at hm
  go_enter Tryz.func43, Tryz.ntmps43
  go_wp2
  go_loopw [7, 8] (fun v i wr => ∃ k : Nat, lo ≤ k ∧ k ≤ hi ∧ i = .int .i64 (k : Int) ∧ Own w.heap.size wr v ((l.take k).drop lo) ∧ Below w.heap.size w wr) (fun _ i _ => hi - (intOf i).toNat)
  case atStart => exact ⟨lo, Nat.le_refl _, h1, rfl, by rw [List.drop_eq_nil_of_le (by simp; omega)]; exact Own.nil _ _, Below.refl _ _⟩
  case round =>
    obtain ⟨k, hk1, hk2, rfl, hown, hbel⟩ := hrel
    by_cases hlt : k < hi
    · have hkl : k < l.length := by omega
      obtain ⟨b, off, rfl, hcell⟩ := hc (List.ne_nil_of_length_pos (by omega))
      have hck := (hbel.cell (p := ⟨b, off + k, none⟩) (World.block_lt_of_cell? _ _ (hcell k hkl))).trans (hcell k hkl)
      have h256 := ok_get hg k hkl
      have HS : Hid ((l.take (k + 1)).drop lo = (l.take k).drop lo ++ [l[k]]) := rseg_snoc l lo k hk1 hkl
      have hL : ((l.take k).drop lo).length ≤ k := by simp; omega
      have HO : Hid (∀ o, Own w.heap.size (wr.alloc o) u7 ((l.take k).drop lo)) := fun o => hown.alloc o
      have hsz := hbel.size
      clear hc hcell hn
      generalize l[k] = c at *
      generalize (l.take k).drop lo = m at *
      go_wp2_with (at_builtin; refine wpList_append _ rfl (.tmp 15) (.tmp 20) 30 rfl w.heap.size hin Tryz.underlying30 _ m rfl (HO.out _) _ [c] rfl (Bs.one _ c h256 _ rfl) (by simp; omega) (by simp; omega) ?_)
      intro v' w' ho' hb' _
      have R : Own w.heap.size w' v' ((l.take (k + 1)).drop lo) ∧ Below w.heap.size w w' := ⟨by rw [HS.out]; exact ho', (hbel.alloc hsz _).trans hb'⟩
      clear ho' hb' hown HO HS
      go_wp2
      go_roundw
      case rel => exact ⟨k + 1, by omega, by omega, by go_num, R.1, R.2⟩
      case measure => simp [intOf]; omega
    · obtain rfl : k = hi := by omega
      go_wp2
      go_ret
      exact ⟨_, rfl, hown, hbel⟩

theorem rstep_num (r : Nat) (hr : r < 4294967296) : bits .xor .u32 ((r : Int) / 2) 3988292384 = ((r / 2 ^^^ 3988292384 : Nat) : Int) := by
  rw [show ((r : Int) / 2) = ((r / 2 : Nat) : Int) by omega]
  exact u32_xor_nat (r / 2) 3988292384 (by omega) (by decide)
def stp : Nat → Nat → Nat
  | 0, r => r
  | k + 1, r => Wm.step (stp k r)
theorem stp8 (r c : Nat) : stp 8 (r ^^^ c) = Wm.feed r c := rfl
theorem stp_lt : ∀ k r, r < 4294967296 → stp k r < 4294967296
  | 0, _, h => h
  | k + 1, r, h => Wm.step_lt _ (stp_lt k r h)

end Go.Proofs.YtdnackjakfiffaaGreatDoor
