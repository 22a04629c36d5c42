/-
  The small functions of package wire: outside, sumBytes, readSum, own; the law package's num, same.
-/
import Derived.Test.YtppgijgmhjfdfaaDoorInfo
import Derived.Test.YtppgijgmhjfdfaaDoorNum
import Derived.Deep.QuietTactic
import Derived.BigQuiet
import Derived.Laws.CopyOwn
namespace Go.Proofs.YtppgijgmhjfdfaaDoor
open Go Go.RowKit
open Wb

theorem outside_yes (v : Value) (l : List Nat) (at' : Int) (w : World) (h : Bs w v l) (ho : at' < 0 ∨ (l.length : Int) < at') :
    Calls Tryd.prog 28 #[v, .int .i64 at'] w fun e w' => e = .returned (.bool true) ∧ w = w' := by
  obtain ⟨ao, cap, rfl, hl, hm, hn, hc⟩ := h.shape
  clear hc hn h
  by_cases h1 : at' < 0
  · go_enter Tryd.func28, Tryd.ntmps28
    go_wp2
    go_ret
    exact ⟨rfl, rfl⟩
  · have h2 : (l.length : Int) < at' := by omega
    go_enter Tryd.func28, Tryd.ntmps28
    go_wp2
    go_ret
    exact ⟨rfl, rfl⟩
theorem outside_no (v : Value) (l : List Nat) (at' : Int) (w : World) (h : Bs w v l) (h0 : 0 ≤ at') (h1 : at' ≤ (l.length : Int)) :
    Calls Tryd.prog 28 #[v, .int .i64 at'] w fun e w' => e = .returned (.bool false) ∧ w = w' := by
  obtain ⟨ao, cap, rfl, hl, hm, hn, hc⟩ := h.shape
  clear hc hn h
  have d1 : decide (at' < 0) = false := decide_eq_false (by omega)
  have d2 : decide ((l.length : Int) < at') = false := decide_eq_false (by omega)
  go_enter Tryd.func28, Tryd.ntmps28
  go_wp2
  go_ret
  exact ⟨rfl, rfl⟩

def le4 (s : Nat) : List Nat := [s % 256, s / 256 % 256, s / 65536 % 256, s / 16777216 % 256]
theorem le4_ok (s : Nat) : ok (le4 s) := by
  intro x hx
  simp [le4] at hx
  omega
theorem sumBytes_any (s : Nat) (w : World) (hs : s < 4294967296) :
    Calls Tryd.prog 19 #[.int .u32 (s : Int)] w fun e w' => ∃ v', e = .returned v' ∧ Own w.heap.size w' v' (le4 s) ∧ Below w.heap.size w w' := by
  have HO : Hid (∀ (x0 x1 x2 x3 : Int), x0 = ((s % 256 : Nat) : Int) → x1 = ((s / 256 % 256 : Nat) : Int) → x2 = ((s / 65536 % 256 : Nat) : Int) → x3 = ((s / 16777216 % 256 : Nat) : Int) →
      Own w.heap.size (w.alloc (.cells #[.int .u8 x0, .int .u8 x1, .int .u8 x2, .int .u8 x3] 5)) (.slice (some ⟨w.heap.size, 0, none⟩) 4 4) (le4 s)) := by
    rintro x0 x1 x2 x3 rfl rfl rfl rfl
    exact Own.lit w (le4 s) (le4_ok s) (Nat.le_refl _) (by simp [le4, maxLen]) _ rfl
  go_enter Tryd.func19, Tryd.ntmps19
  go_wp2
  go_ret
  exact ⟨_, rfl, HO.out _ _ _ _ (by omega) (by omega) (by omega) (by omega), up0 _ _⟩

set_option maxHeartbeats 400000 in
theorem same_any (va vb : Value) (a b : List Nat) (w : World) (ha : Bs w va a) (hb : Bs w vb b) :
    Calls Tryd.prog 13 #[va, vb] w fun e w' => e = .returned (.bool (decide (a = b))) ∧ Below w.heap.size w w' := by
  obtain ⟨aoa, capa, rfl, hla, hma, hna, hca⟩ := ha.shape
  obtain ⟨aob, capb, rfl, hlb, hmb, hnb, hcb⟩ := hb.shape
  unfold maxLen at hma hmb
  have ga := ha.good
  have gb := hb.good
  by_cases hlen : a.length = b.length
  · have HL : Hid (a.length = b.length) := hlen
    have d0 : ((a.length : Int) != (b.length : Int)) = false := by simp [hlen]
    clear hlen
    go_enter Tryd.func13, Tryd.ntmps13
    go_wp2
    go_loopw [5] (fun i wr => ∃ k : Nat, k ≤ a.length ∧ i = .int .i64 k ∧ a.take k = b.take k ∧ Below w.heap.size w wr) (fun i _ => a.length - (intOf i).toNat)
    case atStart => exact ⟨0, Nat.zero_le _, rfl, by simp, Below.refl _ _⟩
    case round =>
      obtain ⟨k, hk, rfl, heq, hbel⟩ := hrel
      have HQ : Hid (a.take k = b.take k) := heq
      clear heq
      by_cases hlt : k < a.length
      · have hlt' : k < b.length := by rw [← HL.out]; exact hlt
        obtain ⟨b1, off1, rfl, hcell1⟩ := hca (List.ne_nil_of_length_pos (by omega))
        obtain ⟨b2, off2, rfl, hcell2⟩ := hcb (List.ne_nil_of_length_pos (by omega))
        have q1 := (hbel.cell (p := ⟨b1, off1 + k, none⟩) (World.block_lt_of_cell? _ _ (hcell1 k hlt))).trans (hcell1 k hlt)
        have q2 := (hbel.cell (p := ⟨b2, off2 + k, none⟩) (World.block_lt_of_cell? _ _ (hcell2 k hlt'))).trans (hcell2 k hlt')
        clear hca hcb hcell1 hcell2 hna hnb ha hb
        by_cases hxy : a[k] = b[k]
        · have HS : Hid (a.take (k + 1) = b.take (k + 1)) := by
            show _ = _
            rw [List.take_succ_eq_append_getElem hlt, List.take_succ_eq_append_getElem hlt', HQ.out, hxy]
          rw [hxy] at q1
          generalize b[k] = y at *
          have d1 : ((y : Int) != (y : Int)) = false := by simp
          clear hxy
          go_wp2
          go_quiet (fail)
          go_wp2
          go_roundw
          case rel => exact ⟨k + 1, by omega, by go_num, HS.out, below_drewN hbel _⟩
          case measure => simp [intOf]; omega
        · have HN : Hid (¬ a = b) := by
            intro e
            subst e
            exact hxy rfl
          have d1 : ((a[k] : Int) != (b[k] : Int)) = true := by rw [bne_iff_ne]; omega
          generalize a[k] = x at *
          generalize b[k] = y at *
          clear hxy
          go_wp2
          go_quiet (fail)
          go_wp2
          go_ret
          exact ⟨by rw [decide_eq_false HN.out]; rfl, below_drewN hbel _⟩
      · have HE : Hid (a = b) := by
          have h := HQ.out
          rw [List.take_of_length_le (by omega), List.take_of_length_le (by rw [← HL.out]; omega)] at h
          exact h
        go_wp2
        go_ret
        exact ⟨by rw [decide_eq_true HE.out]; rfl, hbel⟩
  · have HN : Hid (¬ a = b) := fun e => hlen (by rw [e])
    have d0 : ((a.length : Int) != (b.length : Int)) = true := by rw [bne_iff_ne]; omega
    clear hlen hca hcb
    go_enter Tryd.func13, Tryd.ntmps13
    go_wp2
    go_ret
    exact ⟨by rw [decide_eq_false HN.out]; rfl, Below.refl _ _⟩
end Go.Proofs.YtppgijgmhjfdfaaDoor
