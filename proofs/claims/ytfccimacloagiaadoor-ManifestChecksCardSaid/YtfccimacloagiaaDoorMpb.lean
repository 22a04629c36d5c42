/-
  ManifestOne: cutSegs, small.
-/
import Derived.Test.YtfccimacloagiaaDoorMpa
namespace Go.Proofs.YtfccimacloagiaaDoor
open Go Go.RowKit
open Wb

theorem SgsAt.take {w : World} {ao : Option Addr} {cap : Nat} {l : List Sg} (h : SgsAt w (.slice ao l.length cap) l) (n : Nat) (hn : n ≤ l.length) : SgsAt w (.slice ao n cap) (l.take n) := by
  obtain ⟨ao', cap', e, h1, h2, hc⟩ := h
  simp only [Value.slice.injEq] at e
  obtain ⟨rfl, _, rfl⟩ := e
  refine ⟨ao, cap, by rw [List.length_take, Nat.min_eq_left hn], by rw [List.length_take]; omega, h2, fun k s hs => hc k s ?_⟩
  have hk := (List.getElem?_eq_some_iff.1 hs).1
  rw [List.length_take] at hk
  rw [List.getElem?_take] at hs
  rw [if_pos (by omega)] at hs
  exact hs
set_option maxRecDepth 100000 in
set_option maxHeartbeats 4000000 in
theorem cutSegs_any (m : Mf) (v : Value) (w0 w : World) (h : SgsAt w0 v m.l) :
    Calls Tryd.prog 7 #[mfv m v] w fun e w' => ∃ v', e = .returned (mfv ⟨m.g, m.v, m.x, m.t, m.l.take 300⟩ v') ∧ (∀ w'', Below w0.heap.size w0 w'' → SgsAt w'' v' (m.l.take 300)) ∧ Below w.heap.size w w' := by
  have HS : Hid (SgsAt w0 v m.l) := h
  obtain ⟨ao, cap, rfl, hc1, hc2, _⟩ := h
  unfold maxLen at hc2
  obtain ⟨g, vv, x, t, l⟩ := m
  unfold mfv
  simp only at *
  by_cases h3 : 300 < l.length
  · have HK : Hid (∀ w', Below w0.heap.size w0 w' → SgsAt w' (.slice ao 300 cap) (l.take 300)) := fun w' hb => (HS.out.kept hb).take 300 (by omega)
    clear HS
    go_enter Tryd.func7, Tryd.ntmps7
    go_wp2
    go_returns
    exact ⟨_, rfl, HK.out, by go_grown⟩
  · have HT : Hid (l.take 300 = l) := List.take_of_length_le (by omega)
    have HK : Hid (∀ w', Below w0.heap.size w0 w' → SgsAt w' (.slice ao l.length cap) l) := fun w' hb => HS.out.kept hb
    rw [HT.out]
    clear HS HT
    go_enter Tryd.func7, Tryd.ntmps7
    go_wp2
    go_returns
    exact ⟨_, rfl, HK.out, by go_grown⟩
def smallM : Mf := ⟨1, 3, 2, 0, [⟨1, 0, 0⟩]⟩
theorem small_ok : chkM smallM = 0 := by decide
set_option maxRecDepth 100000 in
theorem small_any (w : World) : Calls Tryd.prog 9 #[] w fun e w' => ∃ v, e = .returned (mfv smallM v) ∧ SgsAt w' v smallM.l ∧ Below w.heap.size w w' := by
  unfold mfv smallM
  simp only
  go_enter Tryd.func9, Tryd.ntmps9
  go_wp2
  go_returns
  refine ⟨_, rfl, ?_, by go_grown⟩
  refine ⟨_, 1, rfl, by simp, by simp [maxLen], fun k s hs => ?_⟩
  obtain rfl : k = 0 := by
    have := (List.getElem?_eq_some_iff.1 hs).1
    simpa using this
  simp at hs
  subst hs
  refine ⟨_, _, rfl, fun j u hj => ?_⟩
  have h9 := World.cell?_alloc_new (w.alloc (.cells #[.int .i64 1, .int .i64 3, .int .i64 2, .int .i64 0, .slice (some ⟨w.heap.size + 1, 0, none⟩) 1 1] 24)) #[.int .i64 1, .int .i64 0, .int .i64 0] 46 j
  rw [heap1] at h9
  rw [show 0 + 0 * 3 + j = j by omega, h9]
  simpa [sgc] using hj
end Go.Proofs.YtfccimacloagiaaDoor
