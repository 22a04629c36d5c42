/-
  ManifestChecks: intactSegs, cutSegs.
-/
import Derived.Test.YtfccimacloagiaaDoorMq6
namespace Go.Proofs.YtfccimacloagiaaDoor
open Go Go.RowKit
open Wb

theorem head_at {w : World} {ao : Option Addr} {cap : Nat} {l : List Sg} (h : SgsAt w (.slice ao (l.length + 2) cap) (l ++ marksS)) : SgsAt w (.slice ao l.length cap) l := by
  have h1 : SgsAt w (.slice ao (l ++ marksS).length cap) (l ++ marksS) := by
    rw [List.length_append]
    exact h
  have h2 := h1.take l.length (by rw [List.length_append]; omega)
  rw [List.take_left'] at h2
  · exact h2
  · rfl
set_option maxRecDepth 100000 in
set_option maxHeartbeats 8000000 in
theorem intactSegs_yes (m : Mf) (ao : Option Addr) (cap : Nat) (v2 : Value) (w : World) (h : SgsAt w (.slice ao (m.l.length + 2) cap) (m.l ++ marksS)) (h2 : SgsAt w v2 m.l) :
    Calls Tryd.prog 17 #[mfv m (.slice ao m.l.length cap), mfv m v2] w fun e w' => e = .returned (.bool true) ∧ Below w.heap.size w w' := by
  have HSY : Hid (∀ w', Below w.heap.size w w' → Calls Tryd.prog 12 #[mfv m (.slice ao m.l.length cap), mfv m v2] w' fun e w'' => e = .returned (.bool true) ∧ Below w'.heap.size w' w'') := fun w' hb => same_yes m _ _ w' (head_at (h.kept hb)) (h2.kept hb)
  have HRC : Hid (∀ w', Below w.heap.size w w' → ∃ b off, ao = some ⟨b, off, none⟩ ∧ w'.cell? ⟨b, off + m.l.length * 3, none⟩ = some (.int .i64 (-201)) ∧ w'.cell? ⟨b, off + m.l.length * 3 + 1, none⟩ = some (.int .i64 0) ∧ w'.cell? ⟨b, off + m.l.length * 3 + 2, none⟩ = some (.int .i64 0) ∧ w'.cell? ⟨b, off + (m.l.length + 1) * 3, none⟩ = some (.int .i64 (-202)) ∧ w'.cell? ⟨b, off + (m.l.length + 1) * 3 + 1, none⟩ = some (.int .i64 0) ∧ w'.cell? ⟨b, off + (m.l.length + 1) * 3 + 2, none⟩ = some (.int .i64 0)) := fun w' hb => by
    obtain ⟨ao', cap', e, _, _, hcc⟩ := (h.kept hb).cells
    simp only [Value.slice.injEq] at e
    obtain ⟨rfl, _, rfl⟩ := e
    obtain ⟨b, off, e1, x0, x1, x2⟩ := hcc m.l.length ⟨-201, 0, 0⟩ (by rw [List.getElem?_append_right (Nat.le_refl _)]; simp [marksS])
    obtain ⟨b', off', e2, y0, y1, y2⟩ := hcc (m.l.length + 1) ⟨-202, 0, 0⟩ (by rw [List.getElem?_append_right (by omega)]; simp [marksS])
    rw [e1] at e2
    simp only [Option.some.injEq, Addr.mk.injEq, and_true] at e2
    obtain ⟨rfl, rfl⟩ := e2
    exact ⟨b, off, e1, x0, x1, x2, y0, y1, y2⟩
  obtain ⟨ao0, cap0, e0, hc1, hc2, _⟩ := h
  simp only [Value.slice.injEq] at e0
  obtain ⟨rfl, -, rfl⟩ := e0
  rw [List.length_append] at hc1
  have hc3 : m.l.length + 2 ≤ cap := hc1
  clear hc1
  unfold maxLen at hc2
  obtain ⟨a2, c2, rfl, hc21, hc22, _⟩ := h2
  unfold maxLen at hc22
  obtain ⟨b, off, rfl, _⟩ := HRC.out w (Below.refl _ _)
  obtain ⟨g, vv, x, t, l⟩ := m
  unfold mfv at HSY ⊢
  simp only at HSY HRC hc3 hc21 ⊢
  obtain ⟨W, hW⟩ : ∃ W, W = (w.alloc (.cells #[.int .i64 g, .int .i64 vv, .int .i64 x, .int .i64 t, .slice (some ⟨b, off, none⟩) l.length cap] 24)).alloc (.cells #[.int .i64 g, .int .i64 vv, .int .i64 x, .int .i64 t, .slice a2 l.length c2] 24) := ⟨_, rfl⟩
  have HBW : Hid (Below w.heap.size w W ∧ W.heap.size = w.heap.size + 2) := ⟨by rw [hW]; exact up (up0 _ _) _, by rw [hW, heap1, heap1]⟩
  have hm1 : Mb W w.heap.size ⟨g, vv, x, t, []⟩ (.slice (some ⟨b, off, none⟩) l.length cap) := by rw [hW]; exact (mb_new w ⟨g, vv, x, t, []⟩ _ 24).block (alloc_old _ _ _ (by rw [heap1]; omega))
  have hm2 : Mb W (w.heap.size + 1) ⟨g, vv, x, t, []⟩ (.slice a2 l.length c2) := by
    have := mb_new (w.alloc (.cells #[.int .i64 g, .int .i64 vv, .int .i64 x, .int .i64 t, .slice (some ⟨b, off, none⟩) l.length cap] 24)) ⟨g, vv, x, t, []⟩ (.slice a2 l.length c2) 24
    rw [heap1] at this
    rw [hW]
    exact this
  have HCE : Hid (∀ w', Below W.heap.size W w' → w'.cell? ⟨w.heap.size, 4, none⟩ = some (.slice (some ⟨b, off, none⟩) l.length cap) ∧ w'.cell? ⟨w.heap.size + 1, 4, none⟩ = some (.slice a2 l.length c2)) := fun w' hb => ⟨(hm1.block (hb.block _ (by rw [HBW.out.2]; omega))).cells.2.2.2.2, (hm2.block (hb.block _ (by rw [HBW.out.2]; omega))).cells.2.2.2.2⟩
  have HWE : Hid (W = (w.alloc (.cells #[.int .i64 g, .int .i64 vv, .int .i64 x, .int .i64 t, .slice (some ⟨b, off, none⟩) l.length cap] 24)).alloc (.cells #[.int .i64 g, .int .i64 vv, .int .i64 x, .int .i64 t, .slice a2 l.length c2] 24)) := hW
  clear hW hm1 hm2
  go_enter Tryd.func17, Tryd.ntmps17
  go_wp2_with fail
  rw [← HWE.out]
  refine (HSY.out _ HBW.out.1).mono ?_
  rintro e w1 ⟨rfl, b1⟩
  have B1 := andThen HBW.out.1 b1
  obtain ⟨q1, q2⟩ := HCE.out _ b1
  obtain ⟨b', off', e', x0, x1, x2, y0, y1, y2⟩ := HRC.out _ B1
  simp only [Option.some.injEq, Addr.mk.injEq, and_true] at e'
  obtain ⟨rfl, rfl⟩ := e'
  have hcn : cap ≤ 9223372036854775807 := by omega
  have hi0 : (l.length : Int) + 2 ≤ (cap : Int) := by omega
  have hi1 : (l.length : Int) < (l.length : Int) + 2 := by omega
  have hi2 : (l.length : Int) + 1 < (l.length : Int) + 2 := by omega
  clear b1 HSY HRC HCE HWE hc2
  go_wp2
  go_ret
  exact ⟨rfl, B1⟩
set_option maxRecDepth 100000 in
set_option maxHeartbeats 4000000 in
theorem cutSegs2_any (m : Mf) (v : Value) (w0 w : World) (h : SgsAt w0 v m.l) (hz : NoneZ v) :
    Calls Tryd.prog 7 #[mfv m v] w fun e w' => ∃ v', e = .returned (mfv ⟨m.g, m.v, m.x, m.t, m.l.take 300⟩ v') ∧ (∀ w'', Below w0.heap.size w0 w'' → SgsAt w'' v' (m.l.take 300)) ∧ NoneZ v' ∧ Below w.heap.size w w' := by
  have HS : Hid (SgsAt w0 v m.l) := h
  obtain ⟨ao, cap, rfl, hc1, hc2, _⟩ := h
  unfold maxLen at hc2
  have HNZ : Hid (∀ n, NoneZ (.slice ao n cap)) := fun n ao' n' cap' e e2 => by
    simp only [Value.slice.injEq] at e
    exact hz ao' m.l.length cap' (by rw [e.1, e.2.2]) e2
  clear hz
  obtain ⟨g, vv, x, t, l⟩ := m
  unfold mfv
  simp only at HS HNZ hc1 ⊢
  by_cases h3 : 300 < l.length
  · have HK : Hid (∀ w', Below w0.heap.size w0 w' → SgsAt w' (.slice ao 300 cap) (l.take 300)) := fun w' hb => (HS.out.kept hb).take 300 (by omega)
    clear HS
    go_enter Tryd.func7, Tryd.ntmps7
    go_wp2
    go_returns
    exact ⟨_, rfl, HK.out, HNZ.out _, by go_grown⟩
  · have HT : Hid (l.take 300 = l) := List.take_of_length_le (by omega)
    have HK : Hid (∀ w', Below w0.heap.size w0 w' → SgsAt w' (.slice ao l.length cap) l) := fun w' hb => HS.out.kept hb
    rw [HT.out]
    clear HS HT
    go_enter Tryd.func7, Tryd.ntmps7
    go_wp2
    go_returns
    exact ⟨_, rfl, HK.out, HNZ.out _, by go_grown⟩
end Go.Proofs.YtfccimacloagiaaDoor
