/-
  ManifestChecks: laidSegs.
-/
import Derived.Test.YtfccimacloagiaaDoorMq5
namespace Go.Proofs.YtfccimacloagiaaDoor
open Go Go.RowKit
open Wb

def NoneZ (v : Value) : Prop := ∀ ao n cap, v = .slice ao n cap → ao = none → cap = 0
theorem nz_some (p : Addr) (n c : Nat) : ∀ ao n' cap, Value.slice (some p) n c = .slice ao n' cap → ao = none → cap = 0 := by
  intro ao n' cap e e2
  subst e2
  simp at e
def marksS : List Sg := [⟨-201, 0, 0⟩, ⟨-202, 0, 0⟩]
theorem marks_at (w : World) (t : TypeId) : SgsAt (w.alloc (.cells #[.int .i64 (-201), .int .i64 0, .int .i64 0, .int .i64 (-202), .int .i64 0, .int .i64 0] t)) (.slice (some ⟨w.heap.size, 0, none⟩) 2 2) marksS := by
  refine ⟨_, 2, rfl, Nat.le_refl _, by unfold maxLen; omega, fun k s hs => ⟨w.heap.size, 0, rfl, fun j u hj => ?_⟩⟩
  have hk := (List.getElem?_eq_some_iff.1 hs).1
  have hk2 : k < 2 := hk
  have hj3 : j < 3 := by have := (List.getElem?_eq_some_iff.1 hj).1; simpa [sgc] using this
  have h9 := World.cell?_alloc_new w #[.int .i64 (-201), .int .i64 0, .int .i64 0, .int .i64 (-202), .int .i64 0, .int .i64 0] t (0 + k * 3 + j)
  rw [h9]
  match k, hk2, j, hj3 with
  | 0, _, 0, _ => simp [marksS] at hs; subst hs; simpa [sgc] using hj
  | 0, _, 1, _ => simp [marksS] at hs; subst hs; simpa [sgc] using hj
  | 0, _, 2, _ => simp [marksS] at hs; subst hs; simpa [sgc] using hj
  | 1, _, 0, _ => simp [marksS] at hs; subst hs; simpa [sgc] using hj
  | 1, _, 1, _ => simp [marksS] at hs; subst hs; simpa [sgc] using hj
  | 1, _, 2, _ => simp [marksS] at hs; subst hs; simpa [sgc] using hj
set_option maxRecDepth 100000 in
set_option maxHeartbeats 8000000 in
theorem laidSegs_any (m : Mf) (v : Value) (w : World) (h : SgsAt w v m.l) (hz : NoneZ v) (h300 : m.l.length ≤ 300) :
    Calls Tryd.prog 15 #[mfv m v] w fun e w' => ∃ ao, ∃ cap : Nat, e = .returned (mfv m (.slice ao m.l.length cap)) ∧ SgR w.heap.size w' (.slice ao (m.l.length + 2) cap) (m.l ++ marksS) ∧ Below w.heap.size w w' := by
  have hin := infoSg3
  have HSA : Hid (∀ w', Below w.heap.size w w' → SgsAt w' v m.l) := fun w' hb => h.kept hb
  obtain ⟨ao, cap, rfl, hc1, hc2, _⟩ := h
  unfold maxLen at hc2
  obtain ⟨g, vv, x, t, l⟩ := m
  unfold mfv
  simp only at HSA hc1 h300 ⊢
  obtain ⟨W, hW⟩ : ∃ W, W = ((w.alloc (.cells #[.int .i64 g, .int .i64 vv, .int .i64 x, .int .i64 t, .slice ao l.length cap] 24)).alloc (.cells #[.int .i64 0, .int .i64 0, .int .i64 0, .int .i64 0, .slice none 0 0] 24)) := ⟨_, rfl⟩
  have HWE : Hid (W = ((w.alloc (.cells #[.int .i64 g, .int .i64 vv, .int .i64 x, .int .i64 t, .slice ao l.length cap] 24)).alloc (.cells #[.int .i64 0, .int .i64 0, .int .i64 0, .int .i64 0, .slice none 0 0] 24)) ∧ W.heap.size = w.heap.size + 2) := ⟨hW, by rw [hW, heap1, heap1]⟩
  have HBW : Hid (Below w.heap.size w W) := by show Below _ _ _; rw [hW]; exact up (up0 _ _) _
  have HM1 : Hid (Mb W w.heap.size ⟨g, vv, x, t, []⟩ (.slice ao l.length cap)) := by show Mb _ _ _ _; rw [hW]; exact (mb_new w ⟨g, vv, x, t, []⟩ _ 24).block (alloc_old _ _ _ (by rw [heap1]; omega))
  have HM2 : Hid (Mb W (w.heap.size + 1) zeroM (.slice none 0 0)) := by
    have := mb_new (w.alloc (.cells #[.int .i64 g, .int .i64 vv, .int .i64 x, .int .i64 t, .slice ao l.length cap] 24)) zeroM (.slice none 0 0) 24
    rw [heap1] at this
    show Mb _ _ _ _
    rw [hW]
    exact this
  have HNZ : Hid (∀ ao' n cap', Value.slice ao l.length cap = .slice ao' n cap' → ao' = none → cap' = 0) := hz
  have m4 := HM1.out.cells.2.2.2.2
  clear hW hz
  go_enter Tryd.func15, Tryd.ntmps15
  go_upto_region 1 with fail
  rw [← HWE.out.1]
  go_wp2_with (at_builtin; refine wpList_append_segs _ rfl (.const (.slice none 0 0)) (.tmp 5) 22 rfl W.heap.size hin Tryd.underlying22 _ [] rfl (SgR.nil _ _) _ l rfl (HSA.out _ HBW.out) HNZ.out (by simp; omega) (Nat.le_refl _) ?_)
  intro v3 w3 hs3 g3 hat3
  obtain ⟨a3, c3, e3⟩ : ∃ a3, ∃ c3 : Nat, v3 = .slice a3 l.length c3 := by
    obtain ⟨a3, c3, e, _⟩ := hs3.at
    exact ⟨a3, c3, e⟩
  subst e3
  have HS3 : Hid (∀ o, SgR W.heap.size (w3.alloc o) (.slice a3 l.length c3) l ∧ W.heap.size ≤ (w3.alloc o).heap.size) := fun o => ⟨hs3.kept (up0 _ _), by rw [heap1]; have := g3.size; omega⟩
  have HB3 : Hid (Below W.heap.size W w3) := ⟨g3.os, g3.tape, g3.output, g3.size, fun q hq => g3.block q hq (by simp [Value.ownBlock])⟩
  have HU3 : Hid (∀ q, (Value.slice a3 l.length c3).ownBlock = some q → W.heap.size ≤ q) := fun q hq => (World.ownsRow.lt hs3 q hq).1
  clear hs3 g3 hat3 m4 HSA
  go_wp2_with (at_builtin; refine wpList_append_segs _ rfl (.tmp 6) (.tmp 9) 22 rfl W.heap.size hin Tryd.underlying22 _ l rfl (HS3.out _).1 _ marksS rfl (marks_at w3 _) (nz_some _ _ _) (by simp [marksS]; omega) (HS3.out _).2 ?_)
  intro v5 w5 hs5 g5 hat5
  obtain ⟨a5, c5, e5, hc51, hc52⟩ : ∃ a5, ∃ c5 : Nat, v5 = .slice a5 (l.length + 2) c5 ∧ l.length + 2 ≤ c5 ∧ c5 ≤ maxLen := by
    obtain ⟨a5, c5, e, h1, h2, _⟩ := hs5.at
    rw [List.length_append] at e h1
    exact ⟨a5, c5, e, h1, h2⟩
  subst e5
  unfold maxLen at hc52
  have HB5 : Hid (Below W.heap.size W w5) := (up HB3.out _).grown g5 (HS3.out _).2 (fun q hq => HU3.out q hq)
  have HS5 : Hid (SgR W.heap.size w5 (.slice a5 (l.length + 2) c5) (l ++ marksS)) := hs5
  have hm5 := HM1.out.block (HB5.out.block _ (by rw [HWE.out.2]; omega))
  have hr5 := HM2.out.block (HB5.out.block (w.heap.size + 1) (by rw [HWE.out.2]; omega))
  obtain ⟨W6, hW6⟩ : ∃ W6, W6 = w5.setCell ⟨w.heap.size, 4, none⟩ (.slice a5 l.length c5) := ⟨_, rfl⟩
  have hm6 : Mb W6 w.heap.size ⟨g, vv, x, t, []⟩ (.slice a5 l.length c5) := by rw [hW6]; exact hm5.put4 _
  have hr6 : Mb W6 (w.heap.size + 1) zeroM (.slice none 0 0) := by rw [hW6]; exact hr5.block ((Only.set w.heap.size w5 4 _).block _ (by omega))
  have HB6 : Hid (Below w.heap.size w W6) := by
    show Below _ _ _
    rw [hW6]
    exact (HBW.out.trans (HB5.out.mono HBW.out.size)).setCell (p := ⟨w.heap.size, 4, none⟩) (Nat.le_refl _) _
  have HS6 : Hid (SgR w.heap.size (store5 W6 (w.heap.size + 1) ⟨g, vv, x, t, []⟩ (.slice a5 l.length c5)) (.slice a5 (l.length + 2) c5) (l ++ marksS)) := by
    have hsz := HWE.out.2
    refine (HS5.out.block (fun q hq => ?_)).weak (by omega)
    have h9 := (World.ownsRow.lt HS5.out q hq).1
    rw [store5_block _ _ _ _ q (by omega), hW6]
    exact (Only.set w.heap.size w5 4 _).block q (by omega)
  have HW6 : Hid (W6 = w5.setCell ⟨w.heap.size, 4, none⟩ (.slice a5 l.length c5)) := hW6
  have l4 := hm5.cells.2.2.2.2
  have f4 := hm5.frozen 4
  obtain ⟨m0, m1, m2, m3, m4⟩ := hm6.cells
  simp only at m0 m1 m2 m3 m4
  obtain ⟨r0, r1, r2, r3, r4⟩ := hr6.cells
  unfold zeroM at r0 r1 r2 r3
  simp only at r0 r1 r2 r3
  have z0 := hr6.frozen 0
  have z1 := hr6.frozen 1
  have z2 := hr6.frozen 2
  have z3 := hr6.frozen 3
  have z4 := hr6.frozen 4
  have HEN : Hid (Mb (store5 W6 (w.heap.size + 1) ⟨g, vv, x, t, []⟩ (.slice a5 l.length c5)) (w.heap.size + 1) ⟨g, vv, x, t, []⟩ (.slice a5 l.length c5) ∧ Below w.heap.size w (store5 W6 (w.heap.size + 1) ⟨g, vv, x, t, []⟩ (.slice a5 l.length c5))) := ⟨hr6.store _ _, store5_below HB6.out (by omega) _ _⟩
  clear hs5 g5 hat5 hm5 hr5 hm6 hr6 hW6 HS3 HB3 HU3 HM1 HM2 HWE HB5 HS5
  go_upto_region 3 with fail
  rw [← HW6.out]
  clear HW6 l4 f4
  go_wp2
  obtain ⟨WE, hWE⟩ : ∃ WE, WE = store5 W6 (w.heap.size + 1) ⟨g, vv, x, t, []⟩ (.slice a5 l.length c5) := ⟨_, rfl⟩
  rw [← hWE] at HEN HS6
  have hWE2 : WE = (((((W6.setCell ⟨w.heap.size + 1, 0, none⟩ (.int .i64 g)).setCell ⟨w.heap.size + 1, 1, none⟩ (.int .i64 vv)).setCell ⟨w.heap.size + 1, 2, none⟩ (.int .i64 x)).setCell ⟨w.heap.size + 1, 3, none⟩ (.int .i64 t)).setCell ⟨w.heap.size + 1, 4, none⟩ (.slice a5 l.length c5)) := hWE
  rw [← hWE2]
  clear hWE hWE2
  obtain ⟨y0, y1, y2, y3, y4⟩ := HEN.out.1.cells
  simp only at y0 y1 y2 y3 y4
  clear r0 r1 r2 r3 r4 z0 z1 z2 z3 z4 m0 m1 m2 m3 m4
  (try simp only [Exit.inBlock, Exit.then])
  refine bodyPost_ret (by simp [results, Tryd.results15, go_sem, y0, y1, y2, y3, y4]; try rfl) rfl ?_
  exact ⟨a5, c5, rfl, HS6.out, HEN.out.2⟩
end Go.Proofs.YtfccimacloagiaaDoor
