/-
  The law package's small helpers: first, part, join.
-/
import Derived.Test.YtppgijgmhjfdfaaDoorInfo
namespace Go.Proofs.YtppgijgmhjfdfaaDoor
open Go Go.RowKit
open Wb

theorem seg_snoc (l : List Nat) (lo k : Nat) (h1 : lo ≤ k) (h2 : k < l.length) : (l.take (k + 1)).drop lo = (l.take k).drop lo ++ [l[k]] := by
  rw [List.take_succ_eq_append_getElem h2, List.drop_append_of_le_length (by simp; omega)]

theorem seg_end (l : List Nat) (lo k : Nat) (hi : Int) (h1 : lo ≤ k) (h2 : k = lo ∨ ((k : Int) ≤ hi ∧ k ≤ l.length)) (h3 : hi ≤ (k : Int) ∨ l.length ≤ k) : (l.take hi.toNat).drop lo = (l.take k).drop lo := by
  rcases h2 with rfl | ⟨h2, h4⟩
  · rw [List.drop_eq_nil_of_le (by simp; omega), List.drop_eq_nil_of_le (by simp; omega)]
  · rcases h3 with h3 | h3
    · rw [show hi.toNat = k by omega]
    · rw [List.take_of_length_le (by omega), List.take_of_length_le h3]

set_option maxHeartbeats 400000 in
theorem part_any (v : Value) (l : List Nat) (lo hi : Int) (w : World) (h : Bs w v l) (hlen : l.length ≤ 140737488355328) (hhi : hi ≤ 9223372036854775807) :
    Calls Tryd.prog 7 #[v, .int .i64 lo, .int .i64 hi] w fun e w' => ∃ v', e = .returned v' ∧ Own w.heap.size w' v' ((l.take hi.toNat).drop lo.toNat) ∧ Below w.heap.size w w' := by
  have hg := h.good
  have key : ∀ lo' : Nat, (lo < 0 ∧ lo' = 0 ∨ 0 ≤ lo ∧ lo = (lo' : Int)) → Calls Tryd.prog 7 #[v, .int .i64 lo, .int .i64 hi] w fun e w' => ∃ v', e = .returned v' ∧ Own w.heap.size w' v' ((l.take hi.toNat).drop lo') ∧ Below w.heap.size w w' := by
    intro lo' hlo
    obtain ⟨ao, cap, rfl, hl, hm, hn, hc⟩ := h.shape
    unfold maxLen at hm
    have hin := info5
    rcases hlo with ⟨hneg, hz⟩ | ⟨hnn, rfl⟩
    · have HZ : Hid (lo' = 0) := hz
      clear hz
      go_enter Tryd.func7, Tryd.ntmps7
      go_wp2
      go_loopw [7, 8] (fun v i wr => ∃ k : Nat, lo' ≤ k ∧ (k = lo' ∨ ((k : Int) ≤ hi ∧ k ≤ l.length)) ∧ i = .int .i64 k ∧ Own w.heap.size wr v ((l.take k).drop lo') ∧ Below w.heap.size w wr) (fun _ i _ => l.length - (intOf i).toNat)
      case atStart => exact ⟨lo', Nat.le_refl _, .inl rfl, by rw [HZ.out]; rfl, by rw [List.drop_eq_nil_of_le (by simp; omega)]; exact Own.nil _ _, Below.refl _ _⟩
      case round =>
        obtain ⟨k, hk1, hk2, rfl, hown, hbel⟩ := hrel
        by_cases hc1 : (k : Int) < hi
        · by_cases hc2 : k < l.length
          · obtain ⟨b, off, rfl, hcell⟩ := hc (List.ne_nil_of_length_pos (by omega))
            have hck := (hbel.cell (p := ⟨b, off + k, none⟩) (World.block_lt_of_cell? _ _ (hcell k hc2))).trans (hcell k hc2)
            have h256 := ok_get hg k hc2
            have HS : Hid ((l.take (k + 1)).drop lo' = (l.take k).drop lo' ++ [l[k]]) := seg_snoc l lo' k hk1 hc2
            have hL : ((l.take k).drop lo').length ≤ k := by simp; omega
            have HO : Hid (∀ o, Own w.heap.size (wr.alloc o) u7 ((l.take k).drop lo')) := fun o => hown.alloc o
            have hsz := hbel.size
            clear hc hcell hn
            generalize l[k] = c at *
            generalize (l.take k).drop lo' = m at *
            go_wp2_with (at_builtin; refine wpList_append _ rfl (.tmp 23) (.tmp 28) 25 rfl w.heap.size hin Tryd.underlying25 _ m rfl (HO.out _) _ [c] rfl (Bs.one _ c h256 _ rfl) (by simp; omega) (by simp; omega) ?_)
            intro v' w' ho' hb' _
            have R : Own w.heap.size w' v' ((l.take (k + 1)).drop lo') ∧ Below w.heap.size w w' := ⟨by rw [HS.out]; exact ho', (hbel.alloc hsz _).trans hb'⟩
            clear ho' hb' hown HO HS
            go_wp2
            go_roundw
            case rel => exact ⟨k + 1, by omega, .inr ⟨by omega, by omega⟩, by go_num, R.1, R.2⟩
            case measure => simp [intOf]; omega
          · have HE : Hid ((l.take hi.toNat).drop lo' = (l.take k).drop lo') := seg_end l lo' k hi hk1 hk2 (.inr (by omega))
            go_wp2
            go_ret
            exact ⟨_, rfl, by rw [HE.out]; exact hown, hbel⟩
        · have HE : Hid ((l.take hi.toNat).drop lo' = (l.take k).drop lo') := seg_end l lo' k hi hk1 hk2 (.inl (by omega))
          go_wp2
          go_ret
          exact ⟨_, rfl, by rw [HE.out]; exact hown, hbel⟩
    · go_enter Tryd.func7, Tryd.ntmps7
      go_wp2
      go_loopw [7, 8] (fun v i wr => ∃ k : Nat, lo' ≤ k ∧ (k = lo' ∨ ((k : Int) ≤ hi ∧ k ≤ l.length)) ∧ i = .int .i64 k ∧ Own w.heap.size wr v ((l.take k).drop lo') ∧ Below w.heap.size w wr) (fun _ i _ => l.length - (intOf i).toNat)
      case atStart => exact ⟨lo', Nat.le_refl _, .inl rfl, rfl, by rw [List.drop_eq_nil_of_le (by simp; omega)]; exact Own.nil _ _, Below.refl _ _⟩
      case round =>
        obtain ⟨k, hk1, hk2, rfl, hown, hbel⟩ := hrel
        by_cases hc1 : (k : Int) < hi
        · by_cases hc2 : k < l.length
          · obtain ⟨b, off, rfl, hcell⟩ := hc (List.ne_nil_of_length_pos (by omega))
            have hck := (hbel.cell (p := ⟨b, off + k, none⟩) (World.block_lt_of_cell? _ _ (hcell k hc2))).trans (hcell k hc2)
            have h256 := ok_get hg k hc2
            have HS : Hid ((l.take (k + 1)).drop lo' = (l.take k).drop lo' ++ [l[k]]) := seg_snoc l lo' k hk1 hc2
            have hL : ((l.take k).drop lo').length ≤ k := by simp; omega
            have HO : Hid (∀ o, Own w.heap.size (wr.alloc o) u7 ((l.take k).drop lo')) := fun o => hown.alloc o
            have hsz := hbel.size
            clear hc hcell hn
            generalize l[k] = c at *
            generalize (l.take k).drop lo' = m at *
            go_wp2_with (at_builtin; refine wpList_append _ rfl (.tmp 23) (.tmp 28) 25 rfl w.heap.size hin Tryd.underlying25 _ m rfl (HO.out _) _ [c] rfl (Bs.one _ c h256 _ rfl) (by simp; omega) (by simp; omega) ?_)
            intro v' w' ho' hb' _
            have R : Own w.heap.size w' v' ((l.take (k + 1)).drop lo') ∧ Below w.heap.size w w' := ⟨by rw [HS.out]; exact ho', (hbel.alloc hsz _).trans hb'⟩
            clear ho' hb' hown HO HS
            go_wp2
            go_roundw
            case rel => exact ⟨k + 1, by omega, .inr ⟨by omega, by omega⟩, by go_num, R.1, R.2⟩
            case measure => simp [intOf]; omega
          · have HE : Hid ((l.take hi.toNat).drop lo' = (l.take k).drop lo') := seg_end l lo' k hi hk1 hk2 (.inr (by omega))
            go_wp2
            go_ret
            exact ⟨_, rfl, by rw [HE.out]; exact hown, hbel⟩
        · have HE : Hid ((l.take hi.toNat).drop lo' = (l.take k).drop lo') := seg_end l lo' k hi hk1 hk2 (.inl (by omega))
          go_wp2
          go_ret
          exact ⟨_, rfl, by rw [HE.out]; exact hown, hbel⟩
  by_cases hneg : lo < 0
  · have := key 0 (.inl ⟨hneg, rfl⟩)
    rwa [show lo.toNat = 0 by omega]
  · have := key lo.toNat (.inr ⟨by omega, by omega⟩)
    exact this
end Go.Proofs.YtppgijgmhjfdfaaDoor
