/-
  ManifestOne: the law's own functions.
-/
import Derived.Test.YtfccimacloagiaaDoorMp9
namespace Go.Proofs.YtfccimacloagiaaDoor
open Go Go.RowKit
open Wb

set_option maxHeartbeats 400000 in
theorem sameB_any (va vb : Value) (a b : List Nat) (w : World) (ha : Bs w va a) (hb : Bs w vb b) :
    Calls Tryd.prog 13 #[va, vb] w fun e w' => e = .returned (.bool (decide (a = b))) ∧ Below w.heap.size w w' := by
  obtain ⟨aoa, capa, rfl, hla, hma, hna, hca⟩ := ha.shape
  obtain ⟨aob, capb, rfl, hlb, hmb, hnb, hcb⟩ := hb.shape
  unfold maxLen at hma hmb
  have ga := ha.good
  have gb := hb.good
  by_cases hlen : a.length = b.length
  · have HL : Hid (a.length = b.length) := hlen
    have d0 : ((a.length : Int) != (b.length : Int)) = false := by simp [hlen]
    clear hlen
    go_enter Tryd.func13, Tryd.ntmps13
    go_wp2
    go_loopw [5] (fun i wr => ∃ k : Nat, k ≤ a.length ∧ i = .int .i64 k ∧ a.take k = b.take k ∧ Below w.heap.size w wr) (fun i _ => a.length - (intOf i).toNat)
    case atStart => exact ⟨0, Nat.zero_le _, rfl, by simp, Below.refl _ _⟩
    case round =>
      obtain ⟨k, hk, rfl, heq, hbel⟩ := hrel
      have HQ : Hid (a.take k = b.take k) := heq
      clear heq
      by_cases hlt : k < a.length
      · have hlt' : k < b.length := by rw [← HL.out]; exact hlt
        obtain ⟨b1, off1, rfl, hcell1⟩ := hca (List.ne_nil_of_length_pos (by omega))
        obtain ⟨b2, off2, rfl, hcell2⟩ := hcb (List.ne_nil_of_length_pos (by omega))
        have q1 := (hbel.cell (p := ⟨b1, off1 + k, none⟩) (World.block_lt_of_cell? _ _ (hcell1 k hlt))).trans (hcell1 k hlt)
        have q2 := (hbel.cell (p := ⟨b2, off2 + k, none⟩) (World.block_lt_of_cell? _ _ (hcell2 k hlt'))).trans (hcell2 k hlt')
        clear hca hcb hcell1 hcell2 hna hnb ha hb
        by_cases hxy : a[k] = b[k]
        · have HS : Hid (a.take (k + 1) = b.take (k + 1)) := by
            show _ = _
            rw [List.take_succ_eq_append_getElem hlt, List.take_succ_eq_append_getElem hlt', HQ.out, hxy]
          rw [hxy] at q1
          generalize b[k] = y at *
          have d1 : ((y : Int) != (y : Int)) = false := by simp
          clear hxy
          go_wp2
          go_quiet (fail)
          go_wp2
          go_roundw
          case rel => exact ⟨k + 1, by omega, by go_num, HS.out, below_drewN hbel _⟩
          case measure => simp [intOf]; omega
        · have HN : Hid (¬ a = b) := by
            intro e
            subst e
            exact hxy rfl
          have d1 : ((a[k] : Int) != (b[k] : Int)) = true := by rw [bne_iff_ne]; omega
          generalize a[k] = x at *
          generalize b[k] = y at *
          clear hxy
          go_wp2
          go_quiet (fail)
          go_wp2
          go_ret
          exact ⟨by rw [decide_eq_false HN.out]; rfl, below_drewN hbel _⟩
      · have HE : Hid (a = b) := by
          have h := HQ.out
          rw [List.take_of_length_le (by omega), List.take_of_length_le (by rw [← HL.out]; omega)] at h
          exact h
        go_wp2
        go_ret
        exact ⟨by rw [decide_eq_true HE.out]; rfl, hbel⟩
  · have HN : Hid (¬ a = b) := fun e => hlen (by rw [e])
    have d0 : ((a.length : Int) != (b.length : Int)) = true := by rw [bne_iff_ne]; omega
    clear hlen hca hcb
    go_enter Tryd.func13, Tryd.ntmps13
    go_wp2
    go_ret
    exact ⟨by rw [decide_eq_false HN.out]; rfl, Below.refl _ _⟩

theorem SgsAt.cells {w : World} {v : Value} {l : List Sg} (h : SgsAt w v l) : ∃ ao, ∃ cap : Nat, v = .slice ao l.length cap ∧ l.length ≤ cap ∧ cap ≤ maxLen ∧ ∀ (k : Nat) (s : Sg), l[k]? = some s → ∃ b off, ao = some ⟨b, off, none⟩ ∧ w.cell? ⟨b, off + k * 3, none⟩ = some (.int .i64 s.n) ∧ w.cell? ⟨b, off + k * 3 + 1, none⟩ = some (.int .i64 s.s) ∧ w.cell? ⟨b, off + k * 3 + 2, none⟩ = some (.int .i64 s.c) := by
  obtain ⟨ao, cap, e, h1, h2, hc⟩ := h
  refine ⟨ao, cap, e, h1, h2, fun k s hs => ?_⟩
  obtain ⟨b, off, e2, hr⟩ := hc k s hs
  exact ⟨b, off, e2, hr 0 _ rfl, hr 1 _ rfl, hr 2 _ rfl⟩
set_option maxRecDepth 100000 in
set_option maxHeartbeats 4000000 in
theorem same_yes (m : Mf) (v1 v2 : Value) (w : World) (h1 : SgsAt w v1 m.l) (h2 : SgsAt w v2 m.l) :
    Calls Tryd.prog 12 #[mfv m v1, mfv m v2] w fun e w' => e = .returned (.bool true) ∧ Below w.heap.size w w' := by
  have HS1 : Hid (∀ w', Below w.heap.size w w' → SgsAt w' v1 m.l) := fun w' hb => h1.kept hb
  have HS2 : Hid (∀ w', Below w.heap.size w w' → SgsAt w' v2 m.l) := fun w' hb => h2.kept hb
  obtain ⟨a1, c1, rfl, hc11, hc12, _⟩ := h1
  obtain ⟨a2, c2, rfl, hc21, hc22, _⟩ := h2
  unfold maxLen at hc12 hc22
  obtain ⟨g, vv, x, t, l⟩ := m
  unfold mfv
  simp only at *
  obtain ⟨W, hW⟩ : ∃ W, W = (w.alloc (.cells #[.int .i64 g, .int .i64 vv, .int .i64 x, .int .i64 t, .slice a1 l.length c1] 24)).alloc (.cells #[.int .i64 g, .int .i64 vv, .int .i64 x, .int .i64 t, .slice a2 l.length c2] 24) := ⟨_, rfl⟩
  have HBW : Hid (Below w.heap.size w W ∧ W.heap.size = w.heap.size + 2) := ⟨by rw [hW]; exact up (up0 _ _) _, by rw [hW, heap1, heap1]⟩
  have hm1 : Mb W w.heap.size ⟨g, vv, x, t, []⟩ (.slice a1 l.length c1) := by rw [hW]; exact (mb_new w ⟨g, vv, x, t, []⟩ _ 24).block (alloc_old _ _ _ (by rw [heap1]; omega))
  have hm2 : Mb W (w.heap.size + 1) ⟨g, vv, x, t, []⟩ (.slice a2 l.length c2) := by
    have := mb_new (w.alloc (.cells #[.int .i64 g, .int .i64 vv, .int .i64 x, .int .i64 t, .slice a1 l.length c1] 24)) ⟨g, vv, x, t, []⟩ (.slice a2 l.length c2) 24
    rw [heap1] at this
    rw [hW]
    exact this
  have HCE : Hid (∀ w', Below W.heap.size W w' → w'.cell? ⟨w.heap.size, 4, none⟩ = some (.slice a1 l.length c1) ∧ w'.cell? ⟨w.heap.size + 1, 4, none⟩ = some (.slice a2 l.length c2)) := fun w' hb => ⟨(hm1.block (hb.block _ (by rw [HBW.out.2]; omega))).cells.2.2.2.2, (hm2.block (hb.block _ (by rw [HBW.out.2]; omega))).cells.2.2.2.2⟩
  have HWW : Hid (∀ w', Below W.heap.size W w' → Below w.heap.size w w') := fun w' hb => andThen HBW.out.1 hb
  have HWE : Hid (W = (w.alloc (.cells #[.int .i64 g, .int .i64 vv, .int .i64 x, .int .i64 t, .slice a1 l.length c1] 24)).alloc (.cells #[.int .i64 g, .int .i64 vv, .int .i64 x, .int .i64 t, .slice a2 l.length c2] 24)) := hW
  clear hW hm1 hm2
  go_enter Tryd.func12, Tryd.ntmps12
  go_wp2
  rw [← HWE.out]
  go_loopw [5] (fun i wr => ∃ k : Nat, k ≤ l.length ∧ i = .int .i64 (k : Int) ∧ Below W.heap.size W wr) (fun i _ => l.length - (intOf i).toNat)
  case atStart => exact ⟨0, Nat.zero_le _, rfl, Below.refl _ _⟩
  case round =>
    obtain ⟨k, hk, rfl, hbel⟩ := hrel
    obtain ⟨q1, q2⟩ := HCE.out _ hbel
    by_cases hlt : k < l.length
    · obtain ⟨s, hs⟩ : ∃ s, l[k]? = some s := ⟨l[k], List.getElem?_eq_getElem hlt⟩
      obtain ⟨ao1, cap1, e1, _, _, hr1⟩ := (HS1.out _ (HWW.out _ hbel)).cells
      obtain ⟨ao2, cap2, e2, _, _, hr2⟩ := (HS2.out _ (HWW.out _ hbel)).cells
      simp only [Value.slice.injEq] at e1 e2
      obtain ⟨rfl, _, rfl⟩ := e1
      obtain ⟨rfl, _, rfl⟩ := e2
      obtain ⟨b1, off1, rfl, x0, x1, x2⟩ := hr1 k s hs
      obtain ⟨b2, off2, rfl, y0, y1, y2⟩ := hr2 k s hs
      clear hr1 hr2 HS1 HS2 HCE HWE HWW hs
      obtain ⟨n, z, c⟩ := s
      simp only at x0 x1 x2 y0 y1 y2
      go_wp2
      go_quiet (fail)
      go_wp2
      go_roundw
      case rel => exact ⟨k + 1, by omega, by go_num, below_drewN hbel _⟩
      case measure => simp [intOf]; omega
    · obtain rfl : k = l.length := by omega
      have HB := HWW.out _ hbel
      clear hbel
      go_wp2
      go_ret
      exact ⟨rfl, HB⟩
end Go.Proofs.YtfccimacloagiaaDoor
