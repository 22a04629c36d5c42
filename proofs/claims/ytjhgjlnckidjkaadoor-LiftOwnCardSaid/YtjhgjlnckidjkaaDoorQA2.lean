import Derived.Deep.Cut
import Derived.Test.YtjhgjlnckidjkaaDoorQA1
import Derived.Test.YtjhgjlnckidjkaaDoorQU3
import Derived.Test.YtjhgjlnckidjkaaDoorQL3
/-
  LiftAgain: turned.
-/
namespace Go.Proofs.YtjhgjlnckidjkaaDoor
open Go Go.RowKit
open Wb

/-- what turned leaves -/
def TPost (B : Nat) (w : World) (v : Value) (n : Nat) (e : Ending) (w' : World) : Prop := ∃ ps', e = .returned (.tuple #[]) ∧ Rws B w' v ps' ∧ ps'.length = n ∧ LGood (ps'.map Prod.fst) ∧ Below B w w'
theorem numT_fit (j : Nat) (z : Int) (r : Rec) (h : r.x.fit) (h1 : -9223372036854775808 ≤ z) (h2 : z ≤ 9223372036854775807) : (numT j z r).x.fit := by
  rw [fit_iff] at h
  unfold numT
  split
  · rw [fit_iff]; exact h
  · split
    · rw [fit_iff]; exact ⟨⟨h1, h2⟩, h.2⟩
    · split
      · rw [fit_iff]; exact ⟨h.1, ⟨h1, h2⟩, h.2.2⟩
      · rw [fit_iff]; exact ⟨h.1, h.2.1, ⟨h1, h2⟩, h.2.2.2⟩
theorem numT_nm (j : Nat) (z : Int) (r : Rec) : (numT j z r).nm = r.nm ∧ (numT j z r).l = r.l := by unfold numT; split; exact ⟨rfl, rfl⟩; split; exact ⟨rfl, rfl⟩; split <;> exact ⟨rfl, rfl⟩
theorem good_set {ps : List (Rec × Value)} (h : LGood (ps.map Prod.fst)) (i : Nat) (q : Rec × Value) (hq : q.1.nm.size ≤ 1048576 ∧ q.1.x.fit ∧ q.1.l.length ≤ 1048576) : LGood ((ps.set i q).map Prod.fst) := by
  refine ⟨fun r hr => ?_, by rw [List.length_map, List.length_set]; have := h.few; rw [List.length_map] at this; exact this⟩
  obtain ⟨p, hp, rfl⟩ := List.mem_map.1 hr
  rcases List.mem_or_eq_of_mem_set hp with hp | rfl
  · exact h.each _ (List.mem_map.2 ⟨p, hp, rfl⟩)
  · exact hq
theorem wrapUp (c : Nat) (h : c < 256) : IntKind.wrap .u8 ((c : Int) + 1) = (((c + 1) % 256 : Nat) : Int) := by
  by_cases hc : c = 255
  · subst hc; decide
  · have h1 : (c + 1) % 256 = c + 1 := Nat.mod_eq_of_lt (by omega)
    rw [h1]
    unfold IntKind.wrap
    simp [IntKind.bits, IntKind.signed]
    omega
set_option maxRecDepth 100000 in
theorem turned_nil (at1 kd by1 : Int) (ao : Option Addr) (cap : Nat) (B : Nat) (w : World) (h : Rws B w (.slice ao 0 cap) []) (hB : B ≤ w.heap.size) :
    Calls Tryd.prog 31 #[.slice ao 0 cap, .agg #[.int .i64 at1, .int .i64 kd, .int .i64 by1]] w fun e w' => TPost B w (.slice ao 0 cap) 0 e w' := by
  have HF : Hid (∀ o, Rws B (w.alloc o) (.slice ao 0 cap) [] ∧ Below B w (w.alloc o)) := fun o => ⟨h.kept (up0 _ _), (Below.refl _ _).alloc hB o⟩
  clear h
  go_enter Tryd.func31, Tryd.ntmps31
  go_wp2
  go_returns
  exact ⟨[], rfl, (HF.out _).1, rfl, ⟨(fun r hr => nomatch hr), by simp⟩, (HF.out _).2⟩
set_option maxRecDepth 100000 in
set_option maxHeartbeats 2000000 in
theorem turned_ep (at1 kd by1 : Int) (B : Nat) (w : World) (g cap : Nat) (ps : List (Rec × Value)) (h : Rws B w (.slice (some ⟨g, 0, none⟩) ps.length cap) ps) (hG : LGood (ps.map Prod.fst)) (hB : B ≤ w.heap.size) (_h1 : -9223372036854775808 ≤ by1) (_h2 : by1 ≤ 9223372036854775807) (I : Nat) (hI : I < ps.length) (hz : Int.tmod at1 (ps.length : Int) = (I : Int)) (k0 : kd ≠ 0) (k1 : kd ≠ 1) (k2 : kd ≠ 2) (k3 : kd ≠ 3) (k4 : kd ≠ 4) :
    Calls Tryd.prog 31 #[.slice (some ⟨g, 0, none⟩) ps.length cap, .agg #[.int .i64 at1, .int .i64 kd, .int .i64 by1]] w fun e w' => TPost B w (.slice (some ⟨g, 0, none⟩) ps.length cap) ps.length e w' := by
  have hfew : ps.length ≤ 1048576 := by have := hG.few; rwa [List.length_map] at this
  have hn0 : ((ps.length : Int) == 0) = false := by rw [beq_eq_false_iff_ne]; omega
  have hn1 : (ps.length : Int) ≠ 0 := by omega
  have hgB : B ≤ g := (World.ownsRow.lt h.recs.1 g rfl).1
  have hcap : ps.length ≤ cap ∧ cap ≤ 9223372036854775807 := by
    rcases h.recs.1.2 with ⟨e, _⟩ | ⟨g', cap', cur, e, _, _, h3, h4, _⟩
    · cases e
    · simp only [Value.slice.injEq] at e
      unfold maxLen at h4
      omega
  have HF : Hid (Rws B (w.alloc (.cells #[.int .i64 at1, .int .i64 kd, .int .i64 by1] 60)) (.slice (some ⟨g, 0, none⟩) ps.length cap) ps ∧ Below B w (w.alloc (.cells #[.int .i64 at1, .int .i64 kd, .int .i64 by1] 60)) ∧ (w.alloc (.cells #[.int .i64 at1, .int .i64 kd, .int .i64 by1] 60)).cell? ⟨w.heap.size, 0, none⟩ = some (.int .i64 at1) ∧ (w.alloc (.cells #[.int .i64 at1, .int .i64 kd, .int .i64 by1] 60)).cell? ⟨w.heap.size, 1, none⟩ = some (.int .i64 kd) ∧ (w.alloc (.cells #[.int .i64 at1, .int .i64 kd, .int .i64 by1] 60)).cell? ⟨w.heap.size, 2, none⟩ = some (.int .i64 by1)) := ⟨h.kept (up0 _ _), (Below.refl _ _).alloc hB _, by rw [World.cell?_alloc_new]; rfl, by rw [World.cell?_alloc_new]; rfl, by rw [World.cell?_alloc_new]; rfl⟩
  clear h
  go_enter Tryd.func31, Tryd.ntmps31
  go_upto_region 1 with fail
  have HF' := HF.out
  clear HF
  generalize w.alloc (.cells #[.int .i64 at1, .int .i64 kd, .int .i64 by1] 60) = W at HF' ⊢
  generalize w.heap.size = gt at HF' ⊢
  obtain ⟨h, hBW, t0, t1, t2⟩ := HF'
  have e0 : (kd == 0) = false := by rw [beq_eq_false_iff_ne]; exact k0
  have e1 : (kd == 1) = false := by rw [beq_eq_false_iff_ne]; exact k1
  have e2 : (kd == 2) = false := by rw [beq_eq_false_iff_ne]; exact k2
  have e3 : (kd == 3) = false := by rw [beq_eq_false_iff_ne]; exact k3
  have e4 : (kd == 4) = false := by rw [beq_eq_false_iff_ne]; exact k4
  have HX : Hid (Rws B W (.slice (some ⟨g, 0, none⟩) ps.length cap) ps ∧ Below B w W) := ⟨h, hBW⟩
  clear h hBW k0 k1 k2 k3 k4
  go_wp2
  go_returns
  exact ⟨ps, rfl, HX.out.1, rfl, hG, HX.out.2⟩
set_option maxRecDepth 100000 in
set_option maxHeartbeats 2000000 in
theorem turned_1p (at1 by1 : Int) (B : Nat) (w : World) (g cap : Nat) (ps : List (Rec × Value)) (h : Rws B w (.slice (some ⟨g, 0, none⟩) ps.length cap) ps) (hG : LGood (ps.map Prod.fst)) (hB : B ≤ w.heap.size) (h1 : -9223372036854775808 ≤ by1) (h2 : by1 ≤ 9223372036854775807) (I : Nat) (hI : I < ps.length) (hz : Int.tmod at1 (ps.length : Int) = (I : Int))  :
    Calls Tryd.prog 31 #[.slice (some ⟨g, 0, none⟩) ps.length cap, .agg #[.int .i64 at1, .int .i64 1, .int .i64 by1]] w fun e w' => TPost B w (.slice (some ⟨g, 0, none⟩) ps.length cap) ps.length e w' := by
  have hfew : ps.length ≤ 1048576 := by have := hG.few; rwa [List.length_map] at this
  have hn0 : ((ps.length : Int) == 0) = false := by rw [beq_eq_false_iff_ne]; omega
  have hn1 : (ps.length : Int) ≠ 0 := by omega
  have hgB : B ≤ g := (World.ownsRow.lt h.recs.1 g rfl).1
  have hcap : ps.length ≤ cap ∧ cap ≤ 9223372036854775807 := by
    rcases h.recs.1.2 with ⟨e, _⟩ | ⟨g', cap', cur, e, _, _, h3, h4, _⟩
    · cases e
    · simp only [Value.slice.injEq] at e
      unfold maxLen at h4
      omega
  have HF : Hid (Rws B (w.alloc (.cells #[.int .i64 at1, .int .i64 1, .int .i64 by1] 60)) (.slice (some ⟨g, 0, none⟩) ps.length cap) ps ∧ Below B w (w.alloc (.cells #[.int .i64 at1, .int .i64 1, .int .i64 by1] 60)) ∧ (w.alloc (.cells #[.int .i64 at1, .int .i64 1, .int .i64 by1] 60)).cell? ⟨w.heap.size, 0, none⟩ = some (.int .i64 at1) ∧ (w.alloc (.cells #[.int .i64 at1, .int .i64 1, .int .i64 by1] 60)).cell? ⟨w.heap.size, 1, none⟩ = some (.int .i64 1) ∧ (w.alloc (.cells #[.int .i64 at1, .int .i64 1, .int .i64 by1] 60)).cell? ⟨w.heap.size, 2, none⟩ = some (.int .i64 by1)) := ⟨h.kept (up0 _ _), (Below.refl _ _).alloc hB _, by rw [World.cell?_alloc_new]; rfl, by rw [World.cell?_alloc_new]; rfl, by rw [World.cell?_alloc_new]; rfl⟩
  clear h
  go_enter Tryd.func31, Tryd.ntmps31
  go_upto_region 1 with fail
  have HF' := HF.out
  clear HF
  generalize w.alloc (.cells #[.int .i64 at1, .int .i64 1, .int .i64 by1] 60) = W at HF' ⊢
  generalize w.heap.size = gt at HF' ⊢
  obtain ⟨h, hBW, t0, t1, t2⟩ := HF'
  have cj : W.cell? ⟨g, I * 12 + 3, none⟩ = some (.int .i64 ps[I].1.x.p) := by
    show W.cell? ⟨g, (I * 12 + 3), none⟩ = _
    rw [World.ownsRow.cellAt h.recs.1 (I * 12 + 3) (by omega), rcls_get ps I hI 3 (by decide)]
    rfl
  have fj : W.frozen? ⟨g, I * 12 + 3, none⟩ = false := World.ownsRow.frozenAt h.recs.1 _
  have HX : Hid (Rws B (W.setCell ⟨g, I * 12 + 3, none⟩ (.int .i64 by1)) (.slice (some ⟨g, 0, none⟩) ps.length cap) (ps.set I (numT 3 by1 ps[I].1, ps[I].2)) ∧ Below B w (W.setCell ⟨g, I * 12 + 3, none⟩ (.int .i64 by1)) ∧ LGood ((ps.set I (numT 3 by1 ps[I].1, ps[I].2)).map Prod.fst)) := by
    have hr := hG.each ps[I].1 (List.mem_map.2 ⟨_, List.getElem_mem hI, rfl⟩)
    refine ⟨h.num I 3 hI (by decide) by1, Below.setCell hBW (show B ≤ g from hgB) _, good_set hG I _ ⟨?_, numT_fit _ _ _ hr.2.1 h1 h2, ?_⟩⟩
    · rw [(numT_nm _ _ _).1]; exact hr.1
    · rw [(numT_nm _ _ _).2]; exact hr.2.2
  clear h hBW
  generalize ps[I].1.x.p = old at *
  go_wp2
  go_returns
  exact ⟨_, rfl, HX.out.1, by rw [List.length_set], HX.out.2.2, HX.out.2.1⟩
set_option maxRecDepth 100000 in
set_option maxHeartbeats 2000000 in
theorem turned_2p (at1 by1 : Int) (B : Nat) (w : World) (g cap : Nat) (ps : List (Rec × Value)) (h : Rws B w (.slice (some ⟨g, 0, none⟩) ps.length cap) ps) (hG : LGood (ps.map Prod.fst)) (hB : B ≤ w.heap.size) (h1 : -9223372036854775808 ≤ by1) (h2 : by1 ≤ 9223372036854775807) (I : Nat) (hI : I < ps.length) (hz : Int.tmod at1 (ps.length : Int) = (I : Int))  :
    Calls Tryd.prog 31 #[.slice (some ⟨g, 0, none⟩) ps.length cap, .agg #[.int .i64 at1, .int .i64 2, .int .i64 by1]] w fun e w' => TPost B w (.slice (some ⟨g, 0, none⟩) ps.length cap) ps.length e w' := by
  have hfew : ps.length ≤ 1048576 := by have := hG.few; rwa [List.length_map] at this
  have hn0 : ((ps.length : Int) == 0) = false := by rw [beq_eq_false_iff_ne]; omega
  have hn1 : (ps.length : Int) ≠ 0 := by omega
  have hgB : B ≤ g := (World.ownsRow.lt h.recs.1 g rfl).1
  have hcap : ps.length ≤ cap ∧ cap ≤ 9223372036854775807 := by
    rcases h.recs.1.2 with ⟨e, _⟩ | ⟨g', cap', cur, e, _, _, h3, h4, _⟩
    · cases e
    · simp only [Value.slice.injEq] at e
      unfold maxLen at h4
      omega
  have HF : Hid (Rws B (w.alloc (.cells #[.int .i64 at1, .int .i64 2, .int .i64 by1] 60)) (.slice (some ⟨g, 0, none⟩) ps.length cap) ps ∧ Below B w (w.alloc (.cells #[.int .i64 at1, .int .i64 2, .int .i64 by1] 60)) ∧ (w.alloc (.cells #[.int .i64 at1, .int .i64 2, .int .i64 by1] 60)).cell? ⟨w.heap.size, 0, none⟩ = some (.int .i64 at1) ∧ (w.alloc (.cells #[.int .i64 at1, .int .i64 2, .int .i64 by1] 60)).cell? ⟨w.heap.size, 1, none⟩ = some (.int .i64 2) ∧ (w.alloc (.cells #[.int .i64 at1, .int .i64 2, .int .i64 by1] 60)).cell? ⟨w.heap.size, 2, none⟩ = some (.int .i64 by1)) := ⟨h.kept (up0 _ _), (Below.refl _ _).alloc hB _, by rw [World.cell?_alloc_new]; rfl, by rw [World.cell?_alloc_new]; rfl, by rw [World.cell?_alloc_new]; rfl⟩
  clear h
  go_enter Tryd.func31, Tryd.ntmps31
  go_upto_region 1 with fail
  have HF' := HF.out
  clear HF
  generalize w.alloc (.cells #[.int .i64 at1, .int .i64 2, .int .i64 by1] 60) = W at HF' ⊢
  generalize w.heap.size = gt at HF' ⊢
  obtain ⟨h, hBW, t0, t1, t2⟩ := HF'
  have cj : W.cell? ⟨g, I * 12 + 2, none⟩ = some (.int .i64 ps[I].1.x.s) := by
    show W.cell? ⟨g, (I * 12 + 2), none⟩ = _
    rw [World.ownsRow.cellAt h.recs.1 (I * 12 + 2) (by omega), rcls_get ps I hI 2 (by decide)]
    rfl
  have fj : W.frozen? ⟨g, I * 12 + 2, none⟩ = false := World.ownsRow.frozenAt h.recs.1 _
  have HX : Hid (Rws B (W.setCell ⟨g, I * 12 + 2, none⟩ (.int .i64 by1)) (.slice (some ⟨g, 0, none⟩) ps.length cap) (ps.set I (numT 2 by1 ps[I].1, ps[I].2)) ∧ Below B w (W.setCell ⟨g, I * 12 + 2, none⟩ (.int .i64 by1)) ∧ LGood ((ps.set I (numT 2 by1 ps[I].1, ps[I].2)).map Prod.fst)) := by
    have hr := hG.each ps[I].1 (List.mem_map.2 ⟨_, List.getElem_mem hI, rfl⟩)
    refine ⟨h.num I 2 hI (by decide) by1, Below.setCell hBW (show B ≤ g from hgB) _, good_set hG I _ ⟨?_, numT_fit _ _ _ hr.2.1 h1 h2, ?_⟩⟩
    · rw [(numT_nm _ _ _).1]; exact hr.1
    · rw [(numT_nm _ _ _).2]; exact hr.2.2
  clear h hBW
  generalize ps[I].1.x.s = old at *
  go_wp2
  go_returns
  exact ⟨_, rfl, HX.out.1, by rw [List.length_set], HX.out.2.2, HX.out.2.1⟩
set_option maxRecDepth 100000 in
set_option maxHeartbeats 2000000 in
theorem turned_3p (at1 by1 : Int) (B : Nat) (w : World) (g cap : Nat) (ps : List (Rec × Value)) (h : Rws B w (.slice (some ⟨g, 0, none⟩) ps.length cap) ps) (hG : LGood (ps.map Prod.fst)) (hB : B ≤ w.heap.size) (h1 : -9223372036854775808 ≤ by1) (h2 : by1 ≤ 9223372036854775807) (I : Nat) (hI : I < ps.length) (hz : Int.tmod at1 (ps.length : Int) = (I : Int))  :
    Calls Tryd.prog 31 #[.slice (some ⟨g, 0, none⟩) ps.length cap, .agg #[.int .i64 at1, .int .i64 3, .int .i64 by1]] w fun e w' => TPost B w (.slice (some ⟨g, 0, none⟩) ps.length cap) ps.length e w' := by
  have hfew : ps.length ≤ 1048576 := by have := hG.few; rwa [List.length_map] at this
  have hn0 : ((ps.length : Int) == 0) = false := by rw [beq_eq_false_iff_ne]; omega
  have hn1 : (ps.length : Int) ≠ 0 := by omega
  have hgB : B ≤ g := (World.ownsRow.lt h.recs.1 g rfl).1
  have hcap : ps.length ≤ cap ∧ cap ≤ 9223372036854775807 := by
    rcases h.recs.1.2 with ⟨e, _⟩ | ⟨g', cap', cur, e, _, _, h3, h4, _⟩
    · cases e
    · simp only [Value.slice.injEq] at e
      unfold maxLen at h4
      omega
  have HF : Hid (Rws B (w.alloc (.cells #[.int .i64 at1, .int .i64 3, .int .i64 by1] 60)) (.slice (some ⟨g, 0, none⟩) ps.length cap) ps ∧ Below B w (w.alloc (.cells #[.int .i64 at1, .int .i64 3, .int .i64 by1] 60)) ∧ (w.alloc (.cells #[.int .i64 at1, .int .i64 3, .int .i64 by1] 60)).cell? ⟨w.heap.size, 0, none⟩ = some (.int .i64 at1) ∧ (w.alloc (.cells #[.int .i64 at1, .int .i64 3, .int .i64 by1] 60)).cell? ⟨w.heap.size, 1, none⟩ = some (.int .i64 3) ∧ (w.alloc (.cells #[.int .i64 at1, .int .i64 3, .int .i64 by1] 60)).cell? ⟨w.heap.size, 2, none⟩ = some (.int .i64 by1)) := ⟨h.kept (up0 _ _), (Below.refl _ _).alloc hB _, by rw [World.cell?_alloc_new]; rfl, by rw [World.cell?_alloc_new]; rfl, by rw [World.cell?_alloc_new]; rfl⟩
  clear h
  go_enter Tryd.func31, Tryd.ntmps31
  go_upto_region 1 with fail
  have HF' := HF.out
  clear HF
  generalize w.alloc (.cells #[.int .i64 at1, .int .i64 3, .int .i64 by1] 60) = W at HF' ⊢
  generalize w.heap.size = gt at HF' ⊢
  obtain ⟨h, hBW, t0, t1, t2⟩ := HF'
  have cj : W.cell? ⟨g, I * 12, none⟩ = some (.int .i64 ps[I].1.x.v) := by
    show W.cell? ⟨g, (I * 12 + 0), none⟩ = _
    rw [World.ownsRow.cellAt h.recs.1 (I * 12 + 0) (by omega), rcls_get ps I hI 0 (by decide)]
    rfl
  have fj : W.frozen? ⟨g, I * 12, none⟩ = false := World.ownsRow.frozenAt h.recs.1 _
  have HX : Hid (Rws B (W.setCell ⟨g, I * 12, none⟩ (.int .i64 by1)) (.slice (some ⟨g, 0, none⟩) ps.length cap) (ps.set I (numT 0 by1 ps[I].1, ps[I].2)) ∧ Below B w (W.setCell ⟨g, I * 12, none⟩ (.int .i64 by1)) ∧ LGood ((ps.set I (numT 0 by1 ps[I].1, ps[I].2)).map Prod.fst)) := by
    have hr := hG.each ps[I].1 (List.mem_map.2 ⟨_, List.getElem_mem hI, rfl⟩)
    refine ⟨h.num I 0 hI (by decide) by1, Below.setCell hBW (show B ≤ g from hgB) _, good_set hG I _ ⟨?_, numT_fit _ _ _ hr.2.1 h1 h2, ?_⟩⟩
    · rw [(numT_nm _ _ _).1]; exact hr.1
    · rw [(numT_nm _ _ _).2]; exact hr.2.2
  clear h hBW
  generalize ps[I].1.x.v = old at *
  go_wp2
  go_returns
  exact ⟨_, rfl, HX.out.1, by rw [List.length_set], HX.out.2.2, HX.out.2.1⟩
set_option maxRecDepth 100000 in
set_option maxHeartbeats 2000000 in
theorem turned_4p (at1 by1 : Int) (B : Nat) (w : World) (g cap : Nat) (ps : List (Rec × Value)) (h : Rws B w (.slice (some ⟨g, 0, none⟩) ps.length cap) ps) (hG : LGood (ps.map Prod.fst)) (hB : B ≤ w.heap.size) (h1 : -9223372036854775808 ≤ by1) (h2 : by1 ≤ 9223372036854775807) (I : Nat) (hI : I < ps.length) (hz : Int.tmod at1 (ps.length : Int) = (I : Int))  :
    Calls Tryd.prog 31 #[.slice (some ⟨g, 0, none⟩) ps.length cap, .agg #[.int .i64 at1, .int .i64 4, .int .i64 by1]] w fun e w' => TPost B w (.slice (some ⟨g, 0, none⟩) ps.length cap) ps.length e w' := by
  have hfew : ps.length ≤ 1048576 := by have := hG.few; rwa [List.length_map] at this
  have hn0 : ((ps.length : Int) == 0) = false := by rw [beq_eq_false_iff_ne]; omega
  have hn1 : (ps.length : Int) ≠ 0 := by omega
  have hgB : B ≤ g := (World.ownsRow.lt h.recs.1 g rfl).1
  have hcap : ps.length ≤ cap ∧ cap ≤ 9223372036854775807 := by
    rcases h.recs.1.2 with ⟨e, _⟩ | ⟨g', cap', cur, e, _, _, h3, h4, _⟩
    · cases e
    · simp only [Value.slice.injEq] at e
      unfold maxLen at h4
      omega
  have HF : Hid (Rws B (w.alloc (.cells #[.int .i64 at1, .int .i64 4, .int .i64 by1] 60)) (.slice (some ⟨g, 0, none⟩) ps.length cap) ps ∧ Below B w (w.alloc (.cells #[.int .i64 at1, .int .i64 4, .int .i64 by1] 60)) ∧ (w.alloc (.cells #[.int .i64 at1, .int .i64 4, .int .i64 by1] 60)).cell? ⟨w.heap.size, 0, none⟩ = some (.int .i64 at1) ∧ (w.alloc (.cells #[.int .i64 at1, .int .i64 4, .int .i64 by1] 60)).cell? ⟨w.heap.size, 1, none⟩ = some (.int .i64 4) ∧ (w.alloc (.cells #[.int .i64 at1, .int .i64 4, .int .i64 by1] 60)).cell? ⟨w.heap.size, 2, none⟩ = some (.int .i64 by1)) := ⟨h.kept (up0 _ _), (Below.refl _ _).alloc hB _, by rw [World.cell?_alloc_new]; rfl, by rw [World.cell?_alloc_new]; rfl, by rw [World.cell?_alloc_new]; rfl⟩
  clear h
  go_enter Tryd.func31, Tryd.ntmps31
  go_upto_region 1 with fail
  have HF' := HF.out
  clear HF
  generalize w.alloc (.cells #[.int .i64 at1, .int .i64 4, .int .i64 by1] 60) = W at HF' ⊢
  generalize w.heap.size = gt at HF' ⊢
  obtain ⟨h, hBW, t0, t1, t2⟩ := HF'
  have cj : W.cell? ⟨g, I * 12 + 1, none⟩ = some (.int .i64 ps[I].1.x.k) := by
    show W.cell? ⟨g, (I * 12 + 1), none⟩ = _
    rw [World.ownsRow.cellAt h.recs.1 (I * 12 + 1) (by omega), rcls_get ps I hI 1 (by decide)]
    rfl
  have fj : W.frozen? ⟨g, I * 12 + 1, none⟩ = false := World.ownsRow.frozenAt h.recs.1 _
  have HX : Hid (Rws B (W.setCell ⟨g, I * 12 + 1, none⟩ (.int .i64 by1)) (.slice (some ⟨g, 0, none⟩) ps.length cap) (ps.set I (numT 1 by1 ps[I].1, ps[I].2)) ∧ Below B w (W.setCell ⟨g, I * 12 + 1, none⟩ (.int .i64 by1)) ∧ LGood ((ps.set I (numT 1 by1 ps[I].1, ps[I].2)).map Prod.fst)) := by
    have hr := hG.each ps[I].1 (List.mem_map.2 ⟨_, List.getElem_mem hI, rfl⟩)
    refine ⟨h.num I 1 hI (by decide) by1, Below.setCell hBW (show B ≤ g from hgB) _, good_set hG I _ ⟨?_, numT_fit _ _ _ hr.2.1 h1 h2, ?_⟩⟩
    · rw [(numT_nm _ _ _).1]; exact hr.1
    · rw [(numT_nm _ _ _).2]; exact hr.2.2
  clear h hBW
  generalize ps[I].1.x.k = old at *
  go_wp2
  go_returns
  exact ⟨_, rfl, HX.out.1, by rw [List.length_set], HX.out.2.2, HX.out.2.1⟩
set_option maxRecDepth 100000 in
set_option maxHeartbeats 2000000 in
theorem turned_0ep (at1 by1 : Int) (B : Nat) (w : World) (g cap : Nat) (ps : List (Rec × Value)) (h : Rws B w (.slice (some ⟨g, 0, none⟩) ps.length cap) ps) (hG : LGood (ps.map Prod.fst)) (hB : B ≤ w.heap.size) (_h1 : -9223372036854775808 ≤ by1) (_h2 : by1 ≤ 9223372036854775807) (I : Nat) (hI : I < ps.length) (hz : Int.tmod at1 (ps.length : Int) = (I : Int)) (hl : ∀ r d, ps[I]? = some (r, d) → r.l.length = 0) :
    Calls Tryd.prog 31 #[.slice (some ⟨g, 0, none⟩) ps.length cap, .agg #[.int .i64 at1, .int .i64 0, .int .i64 by1]] w fun e w' => TPost B w (.slice (some ⟨g, 0, none⟩) ps.length cap) ps.length e w' := by
  have hfew : ps.length ≤ 1048576 := by have := hG.few; rwa [List.length_map] at this
  have hn0 : ((ps.length : Int) == 0) = false := by rw [beq_eq_false_iff_ne]; omega
  have hn1 : (ps.length : Int) ≠ 0 := by omega
  have hgB : B ≤ g := (World.ownsRow.lt h.recs.1 g rfl).1
  have hcap : ps.length ≤ cap ∧ cap ≤ 9223372036854775807 := by
    rcases h.recs.1.2 with ⟨e, _⟩ | ⟨g', cap', cur, e, _, _, h3, h4, _⟩
    · cases e
    · simp only [Value.slice.injEq] at e
      unfold maxLen at h4
      omega
  have HF : Hid (Rws B (w.alloc (.cells #[.int .i64 at1, .int .i64 0, .int .i64 by1] 60)) (.slice (some ⟨g, 0, none⟩) ps.length cap) ps ∧ Below B w (w.alloc (.cells #[.int .i64 at1, .int .i64 0, .int .i64 by1] 60)) ∧ (w.alloc (.cells #[.int .i64 at1, .int .i64 0, .int .i64 by1] 60)).cell? ⟨w.heap.size, 0, none⟩ = some (.int .i64 at1) ∧ (w.alloc (.cells #[.int .i64 at1, .int .i64 0, .int .i64 by1] 60)).cell? ⟨w.heap.size, 1, none⟩ = some (.int .i64 0) ∧ (w.alloc (.cells #[.int .i64 at1, .int .i64 0, .int .i64 by1] 60)).cell? ⟨w.heap.size, 2, none⟩ = some (.int .i64 by1)) := ⟨h.kept (up0 _ _), (Below.refl _ _).alloc hB _, by rw [World.cell?_alloc_new]; rfl, by rw [World.cell?_alloc_new]; rfl, by rw [World.cell?_alloc_new]; rfl⟩
  clear h
  go_enter Tryd.func31, Tryd.ntmps31
  go_upto_region 1 with fail
  have HF' := HF.out
  clear HF
  generalize w.alloc (.cells #[.int .i64 at1, .int .i64 0, .int .i64 by1] 60) = W at HF' ⊢
  generalize w.heap.size = gt at HF' ⊢
  obtain ⟨h, hBW, t0, t1, t2⟩ := HF'
  obtain ⟨r, d, hpi⟩ : ∃ r d, ps[I]? = some (r, d) := ⟨ps[I].1, ps[I].2, List.getElem?_eq_getElem hI⟩
  have hpe : ps[I] = (r, d) := (List.getElem?_eq_some_iff.1 hpi).2
  have hrl := hG.each r (List.mem_map.2 ⟨_, List.mem_of_getElem? hpi, rfl⟩)
  have c11 : W.cell? ⟨g, I * 12 + 11, none⟩ = some d := by
    rw [World.ownsRow.cellAt h.recs.1 (I * 12 + 11) (by omega), rcls_get ps I hI 11 (by decide), hpe]
    rfl
  have how := h.own _ (List.mem_of_getElem? hpi)
  have hl0 := hl r d hpi
  obtain ⟨ad, cd, e5, _⟩ := how.bs.shape
  have e6 : d = .slice ad r.l.length cd := e5
  subst e6
  rw [hl0] at c11
  have HX : Hid (Rws B W (.slice (some ⟨g, 0, none⟩) ps.length cap) ps ∧ Below B w W) := ⟨h, hBW⟩
  clear h hBW how hl hpi hpe hrl hl0
  go_wp2
  go_returns
  exact ⟨ps, rfl, HX.out.1, rfl, hG, HX.out.2⟩
set_option maxRecDepth 100000 in
set_option maxHeartbeats 2000000 in
theorem turned_0pp (at1 by1 : Int) (B : Nat) (w : World) (g cap : Nat) (ps : List (Rec × Value)) (h : Rws B w (.slice (some ⟨g, 0, none⟩) ps.length cap) ps) (hG : LGood (ps.map Prod.fst)) (hB : B ≤ w.heap.size) (_h1 : -9223372036854775808 ≤ by1) (_h2 : by1 ≤ 9223372036854775807) (I : Nat) (hI : I < ps.length) (hz : Int.tmod at1 (ps.length : Int) = (I : Int)) (r : Rec) (d : Value) (hpi : ps[I]? = some (r, d)) (K : Nat) (hK : K < r.l.length) (hy : Int.tmod by1 (r.l.length : Int) = (K : Int)) :
    Calls Tryd.prog 31 #[.slice (some ⟨g, 0, none⟩) ps.length cap, .agg #[.int .i64 at1, .int .i64 0, .int .i64 by1]] w fun e w' => TPost B w (.slice (some ⟨g, 0, none⟩) ps.length cap) ps.length e w' := by
  have hfew : ps.length ≤ 1048576 := by have := hG.few; rwa [List.length_map] at this
  have hn0 : ((ps.length : Int) == 0) = false := by rw [beq_eq_false_iff_ne]; omega
  have hn1 : (ps.length : Int) ≠ 0 := by omega
  have hgB : B ≤ g := (World.ownsRow.lt h.recs.1 g rfl).1
  have hcap : ps.length ≤ cap ∧ cap ≤ 9223372036854775807 := by
    rcases h.recs.1.2 with ⟨e, _⟩ | ⟨g', cap', cur, e, _, _, h3, h4, _⟩
    · cases e
    · simp only [Value.slice.injEq] at e
      unfold maxLen at h4
      omega
  have HF : Hid (Rws B (w.alloc (.cells #[.int .i64 at1, .int .i64 0, .int .i64 by1] 60)) (.slice (some ⟨g, 0, none⟩) ps.length cap) ps ∧ Below B w (w.alloc (.cells #[.int .i64 at1, .int .i64 0, .int .i64 by1] 60)) ∧ (w.alloc (.cells #[.int .i64 at1, .int .i64 0, .int .i64 by1] 60)).cell? ⟨w.heap.size, 0, none⟩ = some (.int .i64 at1) ∧ (w.alloc (.cells #[.int .i64 at1, .int .i64 0, .int .i64 by1] 60)).cell? ⟨w.heap.size, 1, none⟩ = some (.int .i64 0) ∧ (w.alloc (.cells #[.int .i64 at1, .int .i64 0, .int .i64 by1] 60)).cell? ⟨w.heap.size, 2, none⟩ = some (.int .i64 by1)) := ⟨h.kept (up0 _ _), (Below.refl _ _).alloc hB _, by rw [World.cell?_alloc_new]; rfl, by rw [World.cell?_alloc_new]; rfl, by rw [World.cell?_alloc_new]; rfl⟩
  clear h
  go_enter Tryd.func31, Tryd.ntmps31
  go_upto_region 1 with fail
  have HF' := HF.out
  clear HF
  generalize w.alloc (.cells #[.int .i64 at1, .int .i64 0, .int .i64 by1] 60) = W at HF' ⊢
  generalize w.heap.size = gt at HF' ⊢
  obtain ⟨h, hBW, t0, t1, t2⟩ := HF'
  have hpe : ps[I] = (r, d) := (List.getElem?_eq_some_iff.1 hpi).2
  have hrl := hG.each r (List.mem_map.2 ⟨_, List.mem_of_getElem? hpi, rfl⟩)
  have c11 : W.cell? ⟨g, I * 12 + 11, none⟩ = some d := by
    rw [World.ownsRow.cellAt h.recs.1 (I * 12 + 11) (by omega), rcls_get ps I hI 11 (by decide), hpe]
    rfl
  have how := h.own _ (List.mem_of_getElem? hpi)
  rcases how.shape with ⟨_, h0⟩ | ⟨gd, cd, e5, hgd, _, hlc, hcm, hcell⟩
  · have h00 : r.l = [] := h0
    rw [h00] at hK
    simp at hK
  have e6 : d = .slice (some ⟨gd, 0, none⟩) r.l.length cd := e5
  subst e6
  unfold maxLen at hcm
  have hm1 : ((r.l.length : Int) == 0) = false := by rw [beq_eq_false_iff_ne]; omega
  have hm2 : (r.l.length : Int) ≠ 0 := by omega
  have hm3 : (0 : Int) < (r.l.length : Int) := by omega
  have hlen := hrl.2.2
  have cK := hcell K hK
  have c256 := ok_get how.good K hK
  have fK : W.frozen? ⟨gd, K, none⟩ = false := World.ownsRow.frozenAt how.row _
  have HX : Hid (Rws B (W.drew.setCell ⟨gd, K, none⟩ (.int .u8 (((r.l[K] + 1) % 256 : Nat) : Int))) (.slice (some ⟨g, 0, none⟩) ps.length cap) (ps.set I (⟨r.x, r.nm, r.l.set K ((r.l[K] + 1) % 256)⟩, .slice (some ⟨gd, 0, none⟩) r.l.length cd)) ∧ Below B w (W.drew.setCell ⟨gd, K, none⟩ (.int .u8 (((r.l[K] + 1) % 256 : Nat) : Int))) ∧ LGood ((ps.set I (⟨r.x, r.nm, r.l.set K ((r.l[K] + 1) % 256)⟩, .slice (some ⟨gd, 0, none⟩) r.l.length cd)).map Prod.fst)) := by
    refine ⟨(h.kept (Below.drew (Below.refl _ _))).byte I K _ r hpi hK (Nat.mod_lt _ (by decide)), Below.setCell (Below.drew hBW) (show B ≤ gd from hgd) _, good_set hG I _ ⟨hrl.1, hrl.2.1, ?_⟩⟩
    show (r.l.set K _).length ≤ _
    rw [List.length_set]
    exact hrl.2.2
  have ew := wrapUp r.l[K] c256
  clear h hBW how hpi hpe hrl hcell
  generalize r.l[K] = c at *
  generalize (c + 1) % 256 = c2 at *
  go_wp2
  go_region
  all_goals
    go_wp2
    go_returns
    exact ⟨_, rfl, HX.out.1, by rw [List.length_set], HX.out.2.2, HX.out.2.1⟩
set_option maxRecDepth 100000 in
set_option maxHeartbeats 2000000 in
theorem turned_0np (at1 by1 : Int) (B : Nat) (w : World) (g cap : Nat) (ps : List (Rec × Value)) (h : Rws B w (.slice (some ⟨g, 0, none⟩) ps.length cap) ps) (hG : LGood (ps.map Prod.fst)) (hB : B ≤ w.heap.size) (_h1 : -9223372036854775808 ≤ by1) (_h2 : by1 ≤ 9223372036854775807) (I : Nat) (hI : I < ps.length) (hz : Int.tmod at1 (ps.length : Int) = (I : Int)) (r : Rec) (d : Value) (hpi : ps[I]? = some (r, d)) (K : Nat) (hK : K < r.l.length) (y : Int) (hy : Int.tmod by1 (r.l.length : Int) = y) (hy0 : y < 0) (hyK : y + (r.l.length : Int) = (K : Int)) :
    Calls Tryd.prog 31 #[.slice (some ⟨g, 0, none⟩) ps.length cap, .agg #[.int .i64 at1, .int .i64 0, .int .i64 by1]] w fun e w' => TPost B w (.slice (some ⟨g, 0, none⟩) ps.length cap) ps.length e w' := by
  have hfew : ps.length ≤ 1048576 := by have := hG.few; rwa [List.length_map] at this
  have hn0 : ((ps.length : Int) == 0) = false := by rw [beq_eq_false_iff_ne]; omega
  have hn1 : (ps.length : Int) ≠ 0 := by omega
  have hgB : B ≤ g := (World.ownsRow.lt h.recs.1 g rfl).1
  have hcap : ps.length ≤ cap ∧ cap ≤ 9223372036854775807 := by
    rcases h.recs.1.2 with ⟨e, _⟩ | ⟨g', cap', cur, e, _, _, h3, h4, _⟩
    · cases e
    · simp only [Value.slice.injEq] at e
      unfold maxLen at h4
      omega
  have HF : Hid (Rws B (w.alloc (.cells #[.int .i64 at1, .int .i64 0, .int .i64 by1] 60)) (.slice (some ⟨g, 0, none⟩) ps.length cap) ps ∧ Below B w (w.alloc (.cells #[.int .i64 at1, .int .i64 0, .int .i64 by1] 60)) ∧ (w.alloc (.cells #[.int .i64 at1, .int .i64 0, .int .i64 by1] 60)).cell? ⟨w.heap.size, 0, none⟩ = some (.int .i64 at1) ∧ (w.alloc (.cells #[.int .i64 at1, .int .i64 0, .int .i64 by1] 60)).cell? ⟨w.heap.size, 1, none⟩ = some (.int .i64 0) ∧ (w.alloc (.cells #[.int .i64 at1, .int .i64 0, .int .i64 by1] 60)).cell? ⟨w.heap.size, 2, none⟩ = some (.int .i64 by1)) := ⟨h.kept (up0 _ _), (Below.refl _ _).alloc hB _, by rw [World.cell?_alloc_new]; rfl, by rw [World.cell?_alloc_new]; rfl, by rw [World.cell?_alloc_new]; rfl⟩
  clear h
  go_enter Tryd.func31, Tryd.ntmps31
  go_upto_region 1 with fail
  have HF' := HF.out
  clear HF
  generalize w.alloc (.cells #[.int .i64 at1, .int .i64 0, .int .i64 by1] 60) = W at HF' ⊢
  generalize w.heap.size = gt at HF' ⊢
  obtain ⟨h, hBW, t0, t1, t2⟩ := HF'
  have hpe : ps[I] = (r, d) := (List.getElem?_eq_some_iff.1 hpi).2
  have hrl := hG.each r (List.mem_map.2 ⟨_, List.mem_of_getElem? hpi, rfl⟩)
  have c11 : W.cell? ⟨g, I * 12 + 11, none⟩ = some d := by
    rw [World.ownsRow.cellAt h.recs.1 (I * 12 + 11) (by omega), rcls_get ps I hI 11 (by decide), hpe]
    rfl
  have how := h.own _ (List.mem_of_getElem? hpi)
  rcases how.shape with ⟨_, h0⟩ | ⟨gd, cd, e5, hgd, _, hlc, hcm, hcell⟩
  · have h00 : r.l = [] := h0
    rw [h00] at hK
    simp at hK
  have e6 : d = .slice (some ⟨gd, 0, none⟩) r.l.length cd := e5
  subst e6
  unfold maxLen at hcm
  have hm1 : ((r.l.length : Int) == 0) = false := by rw [beq_eq_false_iff_ne]; omega
  have hm2 : (r.l.length : Int) ≠ 0 := by omega
  have hm3 : (0 : Int) < (r.l.length : Int) := by omega
  have hlen := hrl.2.2
  have cK := hcell K hK
  have c256 := ok_get how.good K hK
  have fK : W.frozen? ⟨gd, K, none⟩ = false := World.ownsRow.frozenAt how.row _
  have HX : Hid (Rws B (W.drew.setCell ⟨gd, K, none⟩ (.int .u8 (((r.l[K] + 1) % 256 : Nat) : Int))) (.slice (some ⟨g, 0, none⟩) ps.length cap) (ps.set I (⟨r.x, r.nm, r.l.set K ((r.l[K] + 1) % 256)⟩, .slice (some ⟨gd, 0, none⟩) r.l.length cd)) ∧ Below B w (W.drew.setCell ⟨gd, K, none⟩ (.int .u8 (((r.l[K] + 1) % 256 : Nat) : Int))) ∧ LGood ((ps.set I (⟨r.x, r.nm, r.l.set K ((r.l[K] + 1) % 256)⟩, .slice (some ⟨gd, 0, none⟩) r.l.length cd)).map Prod.fst)) := by
    refine ⟨(h.kept (Below.drew (Below.refl _ _))).byte I K _ r hpi hK (Nat.mod_lt _ (by decide)), Below.setCell (Below.drew hBW) (show B ≤ gd from hgd) _, good_set hG I _ ⟨hrl.1, hrl.2.1, ?_⟩⟩
    show (r.l.set K _).length ≤ _
    rw [List.length_set]
    exact hrl.2.2
  have ew := wrapUp r.l[K] c256
  clear h hBW how hpi hpe hrl hcell
  generalize r.l[K] = c at *
  generalize (c + 1) % 256 = c2 at *
  go_wp2
  go_region
  all_goals
    go_wp2
    go_returns
    exact ⟨_, rfl, HX.out.1, by rw [List.length_set], HX.out.2.2, HX.out.2.1⟩
set_option maxRecDepth 100000 in
set_option maxHeartbeats 2000000 in
theorem turned_en (at1 kd by1 : Int) (B : Nat) (w : World) (g cap : Nat) (ps : List (Rec × Value)) (h : Rws B w (.slice (some ⟨g, 0, none⟩) ps.length cap) ps) (hG : LGood (ps.map Prod.fst)) (hB : B ≤ w.heap.size) (_h1 : -9223372036854775808 ≤ by1) (_h2 : by1 ≤ 9223372036854775807) (I : Nat) (hI : I < ps.length) (z : Int) (hz : Int.tmod at1 (ps.length : Int) = z) (hz0 : z < 0) (hzI : z + (ps.length : Int) = (I : Int)) (k0 : kd ≠ 0) (k1 : kd ≠ 1) (k2 : kd ≠ 2) (k3 : kd ≠ 3) (k4 : kd ≠ 4) :
    Calls Tryd.prog 31 #[.slice (some ⟨g, 0, none⟩) ps.length cap, .agg #[.int .i64 at1, .int .i64 kd, .int .i64 by1]] w fun e w' => TPost B w (.slice (some ⟨g, 0, none⟩) ps.length cap) ps.length e w' := by
  have hfew : ps.length ≤ 1048576 := by have := hG.few; rwa [List.length_map] at this
  have hn0 : ((ps.length : Int) == 0) = false := by rw [beq_eq_false_iff_ne]; omega
  have hn1 : (ps.length : Int) ≠ 0 := by omega
  have hgB : B ≤ g := (World.ownsRow.lt h.recs.1 g rfl).1
  have hcap : ps.length ≤ cap ∧ cap ≤ 9223372036854775807 := by
    rcases h.recs.1.2 with ⟨e, _⟩ | ⟨g', cap', cur, e, _, _, h3, h4, _⟩
    · cases e
    · simp only [Value.slice.injEq] at e
      unfold maxLen at h4
      omega
  have HF : Hid (Rws B (w.alloc (.cells #[.int .i64 at1, .int .i64 kd, .int .i64 by1] 60)) (.slice (some ⟨g, 0, none⟩) ps.length cap) ps ∧ Below B w (w.alloc (.cells #[.int .i64 at1, .int .i64 kd, .int .i64 by1] 60)) ∧ (w.alloc (.cells #[.int .i64 at1, .int .i64 kd, .int .i64 by1] 60)).cell? ⟨w.heap.size, 0, none⟩ = some (.int .i64 at1) ∧ (w.alloc (.cells #[.int .i64 at1, .int .i64 kd, .int .i64 by1] 60)).cell? ⟨w.heap.size, 1, none⟩ = some (.int .i64 kd) ∧ (w.alloc (.cells #[.int .i64 at1, .int .i64 kd, .int .i64 by1] 60)).cell? ⟨w.heap.size, 2, none⟩ = some (.int .i64 by1)) := ⟨h.kept (up0 _ _), (Below.refl _ _).alloc hB _, by rw [World.cell?_alloc_new]; rfl, by rw [World.cell?_alloc_new]; rfl, by rw [World.cell?_alloc_new]; rfl⟩
  clear h
  go_enter Tryd.func31, Tryd.ntmps31
  go_upto_region 1 with fail
  have HF' := HF.out
  clear HF
  generalize w.alloc (.cells #[.int .i64 at1, .int .i64 kd, .int .i64 by1] 60) = W at HF' ⊢
  generalize w.heap.size = gt at HF' ⊢
  obtain ⟨h, hBW, t0, t1, t2⟩ := HF'
  have e0 : (kd == 0) = false := by rw [beq_eq_false_iff_ne]; exact k0
  have e1 : (kd == 1) = false := by rw [beq_eq_false_iff_ne]; exact k1
  have e2 : (kd == 2) = false := by rw [beq_eq_false_iff_ne]; exact k2
  have e3 : (kd == 3) = false := by rw [beq_eq_false_iff_ne]; exact k3
  have e4 : (kd == 4) = false := by rw [beq_eq_false_iff_ne]; exact k4
  have HX : Hid (Rws B W (.slice (some ⟨g, 0, none⟩) ps.length cap) ps ∧ Below B w W) := ⟨h, hBW⟩
  clear h hBW k0 k1 k2 k3 k4
  go_wp2
  go_returns
  exact ⟨ps, rfl, HX.out.1, rfl, hG, HX.out.2⟩
set_option maxRecDepth 100000 in
set_option maxHeartbeats 2000000 in
theorem turned_1n (at1 by1 : Int) (B : Nat) (w : World) (g cap : Nat) (ps : List (Rec × Value)) (h : Rws B w (.slice (some ⟨g, 0, none⟩) ps.length cap) ps) (hG : LGood (ps.map Prod.fst)) (hB : B ≤ w.heap.size) (h1 : -9223372036854775808 ≤ by1) (h2 : by1 ≤ 9223372036854775807) (I : Nat) (hI : I < ps.length) (z : Int) (hz : Int.tmod at1 (ps.length : Int) = z) (hz0 : z < 0) (hzI : z + (ps.length : Int) = (I : Int))  :
    Calls Tryd.prog 31 #[.slice (some ⟨g, 0, none⟩) ps.length cap, .agg #[.int .i64 at1, .int .i64 1, .int .i64 by1]] w fun e w' => TPost B w (.slice (some ⟨g, 0, none⟩) ps.length cap) ps.length e w' := by
  have hfew : ps.length ≤ 1048576 := by have := hG.few; rwa [List.length_map] at this
  have hn0 : ((ps.length : Int) == 0) = false := by rw [beq_eq_false_iff_ne]; omega
  have hn1 : (ps.length : Int) ≠ 0 := by omega
  have hgB : B ≤ g := (World.ownsRow.lt h.recs.1 g rfl).1
  have hcap : ps.length ≤ cap ∧ cap ≤ 9223372036854775807 := by
    rcases h.recs.1.2 with ⟨e, _⟩ | ⟨g', cap', cur, e, _, _, h3, h4, _⟩
    · cases e
    · simp only [Value.slice.injEq] at e
      unfold maxLen at h4
      omega
  have HF : Hid (Rws B (w.alloc (.cells #[.int .i64 at1, .int .i64 1, .int .i64 by1] 60)) (.slice (some ⟨g, 0, none⟩) ps.length cap) ps ∧ Below B w (w.alloc (.cells #[.int .i64 at1, .int .i64 1, .int .i64 by1] 60)) ∧ (w.alloc (.cells #[.int .i64 at1, .int .i64 1, .int .i64 by1] 60)).cell? ⟨w.heap.size, 0, none⟩ = some (.int .i64 at1) ∧ (w.alloc (.cells #[.int .i64 at1, .int .i64 1, .int .i64 by1] 60)).cell? ⟨w.heap.size, 1, none⟩ = some (.int .i64 1) ∧ (w.alloc (.cells #[.int .i64 at1, .int .i64 1, .int .i64 by1] 60)).cell? ⟨w.heap.size, 2, none⟩ = some (.int .i64 by1)) := ⟨h.kept (up0 _ _), (Below.refl _ _).alloc hB _, by rw [World.cell?_alloc_new]; rfl, by rw [World.cell?_alloc_new]; rfl, by rw [World.cell?_alloc_new]; rfl⟩
  clear h
  go_enter Tryd.func31, Tryd.ntmps31
  go_upto_region 1 with fail
  have HF' := HF.out
  clear HF
  generalize w.alloc (.cells #[.int .i64 at1, .int .i64 1, .int .i64 by1] 60) = W at HF' ⊢
  generalize w.heap.size = gt at HF' ⊢
  obtain ⟨h, hBW, t0, t1, t2⟩ := HF'
  have cj : W.cell? ⟨g, I * 12 + 3, none⟩ = some (.int .i64 ps[I].1.x.p) := by
    show W.cell? ⟨g, (I * 12 + 3), none⟩ = _
    rw [World.ownsRow.cellAt h.recs.1 (I * 12 + 3) (by omega), rcls_get ps I hI 3 (by decide)]
    rfl
  have fj : W.frozen? ⟨g, I * 12 + 3, none⟩ = false := World.ownsRow.frozenAt h.recs.1 _
  have HX : Hid (Rws B (W.setCell ⟨g, I * 12 + 3, none⟩ (.int .i64 by1)) (.slice (some ⟨g, 0, none⟩) ps.length cap) (ps.set I (numT 3 by1 ps[I].1, ps[I].2)) ∧ Below B w (W.setCell ⟨g, I * 12 + 3, none⟩ (.int .i64 by1)) ∧ LGood ((ps.set I (numT 3 by1 ps[I].1, ps[I].2)).map Prod.fst)) := by
    have hr := hG.each ps[I].1 (List.mem_map.2 ⟨_, List.getElem_mem hI, rfl⟩)
    refine ⟨h.num I 3 hI (by decide) by1, Below.setCell hBW (show B ≤ g from hgB) _, good_set hG I _ ⟨?_, numT_fit _ _ _ hr.2.1 h1 h2, ?_⟩⟩
    · rw [(numT_nm _ _ _).1]; exact hr.1
    · rw [(numT_nm _ _ _).2]; exact hr.2.2
  clear h hBW
  generalize ps[I].1.x.p = old at *
  go_wp2
  go_returns
  exact ⟨_, rfl, HX.out.1, by rw [List.length_set], HX.out.2.2, HX.out.2.1⟩
set_option maxRecDepth 100000 in
set_option maxHeartbeats 2000000 in
theorem turned_2n (at1 by1 : Int) (B : Nat) (w : World) (g cap : Nat) (ps : List (Rec × Value)) (h : Rws B w (.slice (some ⟨g, 0, none⟩) ps.length cap) ps) (hG : LGood (ps.map Prod.fst)) (hB : B ≤ w.heap.size) (h1 : -9223372036854775808 ≤ by1) (h2 : by1 ≤ 9223372036854775807) (I : Nat) (hI : I < ps.length) (z : Int) (hz : Int.tmod at1 (ps.length : Int) = z) (hz0 : z < 0) (hzI : z + (ps.length : Int) = (I : Int))  :
    Calls Tryd.prog 31 #[.slice (some ⟨g, 0, none⟩) ps.length cap, .agg #[.int .i64 at1, .int .i64 2, .int .i64 by1]] w fun e w' => TPost B w (.slice (some ⟨g, 0, none⟩) ps.length cap) ps.length e w' := by
  have hfew : ps.length ≤ 1048576 := by have := hG.few; rwa [List.length_map] at this
  have hn0 : ((ps.length : Int) == 0) = false := by rw [beq_eq_false_iff_ne]; omega
  have hn1 : (ps.length : Int) ≠ 0 := by omega
  have hgB : B ≤ g := (World.ownsRow.lt h.recs.1 g rfl).1
  have hcap : ps.length ≤ cap ∧ cap ≤ 9223372036854775807 := by
    rcases h.recs.1.2 with ⟨e, _⟩ | ⟨g', cap', cur, e, _, _, h3, h4, _⟩
    · cases e
    · simp only [Value.slice.injEq] at e
      unfold maxLen at h4
      omega
  have HF : Hid (Rws B (w.alloc (.cells #[.int .i64 at1, .int .i64 2, .int .i64 by1] 60)) (.slice (some ⟨g, 0, none⟩) ps.length cap) ps ∧ Below B w (w.alloc (.cells #[.int .i64 at1, .int .i64 2, .int .i64 by1] 60)) ∧ (w.alloc (.cells #[.int .i64 at1, .int .i64 2, .int .i64 by1] 60)).cell? ⟨w.heap.size, 0, none⟩ = some (.int .i64 at1) ∧ (w.alloc (.cells #[.int .i64 at1, .int .i64 2, .int .i64 by1] 60)).cell? ⟨w.heap.size, 1, none⟩ = some (.int .i64 2) ∧ (w.alloc (.cells #[.int .i64 at1, .int .i64 2, .int .i64 by1] 60)).cell? ⟨w.heap.size, 2, none⟩ = some (.int .i64 by1)) := ⟨h.kept (up0 _ _), (Below.refl _ _).alloc hB _, by rw [World.cell?_alloc_new]; rfl, by rw [World.cell?_alloc_new]; rfl, by rw [World.cell?_alloc_new]; rfl⟩
  clear h
  go_enter Tryd.func31, Tryd.ntmps31
  go_upto_region 1 with fail
  have HF' := HF.out
  clear HF
  generalize w.alloc (.cells #[.int .i64 at1, .int .i64 2, .int .i64 by1] 60) = W at HF' ⊢
  generalize w.heap.size = gt at HF' ⊢
  obtain ⟨h, hBW, t0, t1, t2⟩ := HF'
  have cj : W.cell? ⟨g, I * 12 + 2, none⟩ = some (.int .i64 ps[I].1.x.s) := by
    show W.cell? ⟨g, (I * 12 + 2), none⟩ = _
    rw [World.ownsRow.cellAt h.recs.1 (I * 12 + 2) (by omega), rcls_get ps I hI 2 (by decide)]
    rfl
  have fj : W.frozen? ⟨g, I * 12 + 2, none⟩ = false := World.ownsRow.frozenAt h.recs.1 _
  have HX : Hid (Rws B (W.setCell ⟨g, I * 12 + 2, none⟩ (.int .i64 by1)) (.slice (some ⟨g, 0, none⟩) ps.length cap) (ps.set I (numT 2 by1 ps[I].1, ps[I].2)) ∧ Below B w (W.setCell ⟨g, I * 12 + 2, none⟩ (.int .i64 by1)) ∧ LGood ((ps.set I (numT 2 by1 ps[I].1, ps[I].2)).map Prod.fst)) := by
    have hr := hG.each ps[I].1 (List.mem_map.2 ⟨_, List.getElem_mem hI, rfl⟩)
    refine ⟨h.num I 2 hI (by decide) by1, Below.setCell hBW (show B ≤ g from hgB) _, good_set hG I _ ⟨?_, numT_fit _ _ _ hr.2.1 h1 h2, ?_⟩⟩
    · rw [(numT_nm _ _ _).1]; exact hr.1
    · rw [(numT_nm _ _ _).2]; exact hr.2.2
  clear h hBW
  generalize ps[I].1.x.s = old at *
  go_wp2
  go_returns
  exact ⟨_, rfl, HX.out.1, by rw [List.length_set], HX.out.2.2, HX.out.2.1⟩
set_option maxRecDepth 100000 in
set_option maxHeartbeats 2000000 in
theorem turned_3n (at1 by1 : Int) (B : Nat) (w : World) (g cap : Nat) (ps : List (Rec × Value)) (h : Rws B w (.slice (some ⟨g, 0, none⟩) ps.length cap) ps) (hG : LGood (ps.map Prod.fst)) (hB : B ≤ w.heap.size) (h1 : -9223372036854775808 ≤ by1) (h2 : by1 ≤ 9223372036854775807) (I : Nat) (hI : I < ps.length) (z : Int) (hz : Int.tmod at1 (ps.length : Int) = z) (hz0 : z < 0) (hzI : z + (ps.length : Int) = (I : Int))  :
    Calls Tryd.prog 31 #[.slice (some ⟨g, 0, none⟩) ps.length cap, .agg #[.int .i64 at1, .int .i64 3, .int .i64 by1]] w fun e w' => TPost B w (.slice (some ⟨g, 0, none⟩) ps.length cap) ps.length e w' := by
  have hfew : ps.length ≤ 1048576 := by have := hG.few; rwa [List.length_map] at this
  have hn0 : ((ps.length : Int) == 0) = false := by rw [beq_eq_false_iff_ne]; omega
  have hn1 : (ps.length : Int) ≠ 0 := by omega
  have hgB : B ≤ g := (World.ownsRow.lt h.recs.1 g rfl).1
  have hcap : ps.length ≤ cap ∧ cap ≤ 9223372036854775807 := by
    rcases h.recs.1.2 with ⟨e, _⟩ | ⟨g', cap', cur, e, _, _, h3, h4, _⟩
    · cases e
    · simp only [Value.slice.injEq] at e
      unfold maxLen at h4
      omega
  have HF : Hid (Rws B (w.alloc (.cells #[.int .i64 at1, .int .i64 3, .int .i64 by1] 60)) (.slice (some ⟨g, 0, none⟩) ps.length cap) ps ∧ Below B w (w.alloc (.cells #[.int .i64 at1, .int .i64 3, .int .i64 by1] 60)) ∧ (w.alloc (.cells #[.int .i64 at1, .int .i64 3, .int .i64 by1] 60)).cell? ⟨w.heap.size, 0, none⟩ = some (.int .i64 at1) ∧ (w.alloc (.cells #[.int .i64 at1, .int .i64 3, .int .i64 by1] 60)).cell? ⟨w.heap.size, 1, none⟩ = some (.int .i64 3) ∧ (w.alloc (.cells #[.int .i64 at1, .int .i64 3, .int .i64 by1] 60)).cell? ⟨w.heap.size, 2, none⟩ = some (.int .i64 by1)) := ⟨h.kept (up0 _ _), (Below.refl _ _).alloc hB _, by rw [World.cell?_alloc_new]; rfl, by rw [World.cell?_alloc_new]; rfl, by rw [World.cell?_alloc_new]; rfl⟩
  clear h
  go_enter Tryd.func31, Tryd.ntmps31
  go_upto_region 1 with fail
  have HF' := HF.out
  clear HF
  generalize w.alloc (.cells #[.int .i64 at1, .int .i64 3, .int .i64 by1] 60) = W at HF' ⊢
  generalize w.heap.size = gt at HF' ⊢
  obtain ⟨h, hBW, t0, t1, t2⟩ := HF'
  have cj : W.cell? ⟨g, I * 12, none⟩ = some (.int .i64 ps[I].1.x.v) := by
    show W.cell? ⟨g, (I * 12 + 0), none⟩ = _
    rw [World.ownsRow.cellAt h.recs.1 (I * 12 + 0) (by omega), rcls_get ps I hI 0 (by decide)]
    rfl
  have fj : W.frozen? ⟨g, I * 12, none⟩ = false := World.ownsRow.frozenAt h.recs.1 _
  have HX : Hid (Rws B (W.setCell ⟨g, I * 12, none⟩ (.int .i64 by1)) (.slice (some ⟨g, 0, none⟩) ps.length cap) (ps.set I (numT 0 by1 ps[I].1, ps[I].2)) ∧ Below B w (W.setCell ⟨g, I * 12, none⟩ (.int .i64 by1)) ∧ LGood ((ps.set I (numT 0 by1 ps[I].1, ps[I].2)).map Prod.fst)) := by
    have hr := hG.each ps[I].1 (List.mem_map.2 ⟨_, List.getElem_mem hI, rfl⟩)
    refine ⟨h.num I 0 hI (by decide) by1, Below.setCell hBW (show B ≤ g from hgB) _, good_set hG I _ ⟨?_, numT_fit _ _ _ hr.2.1 h1 h2, ?_⟩⟩
    · rw [(numT_nm _ _ _).1]; exact hr.1
    · rw [(numT_nm _ _ _).2]; exact hr.2.2
  clear h hBW
  generalize ps[I].1.x.v = old at *
  go_wp2
  go_returns
  exact ⟨_, rfl, HX.out.1, by rw [List.length_set], HX.out.2.2, HX.out.2.1⟩
set_option maxRecDepth 100000 in
set_option maxHeartbeats 2000000 in
theorem turned_4n (at1 by1 : Int) (B : Nat) (w : World) (g cap : Nat) (ps : List (Rec × Value)) (h : Rws B w (.slice (some ⟨g, 0, none⟩) ps.length cap) ps) (hG : LGood (ps.map Prod.fst)) (hB : B ≤ w.heap.size) (h1 : -9223372036854775808 ≤ by1) (h2 : by1 ≤ 9223372036854775807) (I : Nat) (hI : I < ps.length) (z : Int) (hz : Int.tmod at1 (ps.length : Int) = z) (hz0 : z < 0) (hzI : z + (ps.length : Int) = (I : Int))  :
    Calls Tryd.prog 31 #[.slice (some ⟨g, 0, none⟩) ps.length cap, .agg #[.int .i64 at1, .int .i64 4, .int .i64 by1]] w fun e w' => TPost B w (.slice (some ⟨g, 0, none⟩) ps.length cap) ps.length e w' := by
  have hfew : ps.length ≤ 1048576 := by have := hG.few; rwa [List.length_map] at this
  have hn0 : ((ps.length : Int) == 0) = false := by rw [beq_eq_false_iff_ne]; omega
  have hn1 : (ps.length : Int) ≠ 0 := by omega
  have hgB : B ≤ g := (World.ownsRow.lt h.recs.1 g rfl).1
  have hcap : ps.length ≤ cap ∧ cap ≤ 9223372036854775807 := by
    rcases h.recs.1.2 with ⟨e, _⟩ | ⟨g', cap', cur, e, _, _, h3, h4, _⟩
    · cases e
    · simp only [Value.slice.injEq] at e
      unfold maxLen at h4
      omega
  have HF : Hid (Rws B (w.alloc (.cells #[.int .i64 at1, .int .i64 4, .int .i64 by1] 60)) (.slice (some ⟨g, 0, none⟩) ps.length cap) ps ∧ Below B w (w.alloc (.cells #[.int .i64 at1, .int .i64 4, .int .i64 by1] 60)) ∧ (w.alloc (.cells #[.int .i64 at1, .int .i64 4, .int .i64 by1] 60)).cell? ⟨w.heap.size, 0, none⟩ = some (.int .i64 at1) ∧ (w.alloc (.cells #[.int .i64 at1, .int .i64 4, .int .i64 by1] 60)).cell? ⟨w.heap.size, 1, none⟩ = some (.int .i64 4) ∧ (w.alloc (.cells #[.int .i64 at1, .int .i64 4, .int .i64 by1] 60)).cell? ⟨w.heap.size, 2, none⟩ = some (.int .i64 by1)) := ⟨h.kept (up0 _ _), (Below.refl _ _).alloc hB _, by rw [World.cell?_alloc_new]; rfl, by rw [World.cell?_alloc_new]; rfl, by rw [World.cell?_alloc_new]; rfl⟩
  clear h
  go_enter Tryd.func31, Tryd.ntmps31
  go_upto_region 1 with fail
  have HF' := HF.out
  clear HF
  generalize w.alloc (.cells #[.int .i64 at1, .int .i64 4, .int .i64 by1] 60) = W at HF' ⊢
  generalize w.heap.size = gt at HF' ⊢
  obtain ⟨h, hBW, t0, t1, t2⟩ := HF'
  have cj : W.cell? ⟨g, I * 12 + 1, none⟩ = some (.int .i64 ps[I].1.x.k) := by
    show W.cell? ⟨g, (I * 12 + 1), none⟩ = _
    rw [World.ownsRow.cellAt h.recs.1 (I * 12 + 1) (by omega), rcls_get ps I hI 1 (by decide)]
    rfl
  have fj : W.frozen? ⟨g, I * 12 + 1, none⟩ = false := World.ownsRow.frozenAt h.recs.1 _
  have HX : Hid (Rws B (W.setCell ⟨g, I * 12 + 1, none⟩ (.int .i64 by1)) (.slice (some ⟨g, 0, none⟩) ps.length cap) (ps.set I (numT 1 by1 ps[I].1, ps[I].2)) ∧ Below B w (W.setCell ⟨g, I * 12 + 1, none⟩ (.int .i64 by1)) ∧ LGood ((ps.set I (numT 1 by1 ps[I].1, ps[I].2)).map Prod.fst)) := by
    have hr := hG.each ps[I].1 (List.mem_map.2 ⟨_, List.getElem_mem hI, rfl⟩)
    refine ⟨h.num I 1 hI (by decide) by1, Below.setCell hBW (show B ≤ g from hgB) _, good_set hG I _ ⟨?_, numT_fit _ _ _ hr.2.1 h1 h2, ?_⟩⟩
    · rw [(numT_nm _ _ _).1]; exact hr.1
    · rw [(numT_nm _ _ _).2]; exact hr.2.2
  clear h hBW
  generalize ps[I].1.x.k = old at *
  go_wp2
  go_returns
  exact ⟨_, rfl, HX.out.1, by rw [List.length_set], HX.out.2.2, HX.out.2.1⟩
set_option maxRecDepth 100000 in
set_option maxHeartbeats 2000000 in
theorem turned_0en (at1 by1 : Int) (B : Nat) (w : World) (g cap : Nat) (ps : List (Rec × Value)) (h : Rws B w (.slice (some ⟨g, 0, none⟩) ps.length cap) ps) (hG : LGood (ps.map Prod.fst)) (hB : B ≤ w.heap.size) (_h1 : -9223372036854775808 ≤ by1) (_h2 : by1 ≤ 9223372036854775807) (I : Nat) (hI : I < ps.length) (z : Int) (hz : Int.tmod at1 (ps.length : Int) = z) (hz0 : z < 0) (hzI : z + (ps.length : Int) = (I : Int)) (hl : ∀ r d, ps[I]? = some (r, d) → r.l.length = 0) :
    Calls Tryd.prog 31 #[.slice (some ⟨g, 0, none⟩) ps.length cap, .agg #[.int .i64 at1, .int .i64 0, .int .i64 by1]] w fun e w' => TPost B w (.slice (some ⟨g, 0, none⟩) ps.length cap) ps.length e w' := by
  have hfew : ps.length ≤ 1048576 := by have := hG.few; rwa [List.length_map] at this
  have hn0 : ((ps.length : Int) == 0) = false := by rw [beq_eq_false_iff_ne]; omega
  have hn1 : (ps.length : Int) ≠ 0 := by omega
  have hgB : B ≤ g := (World.ownsRow.lt h.recs.1 g rfl).1
  have hcap : ps.length ≤ cap ∧ cap ≤ 9223372036854775807 := by
    rcases h.recs.1.2 with ⟨e, _⟩ | ⟨g', cap', cur, e, _, _, h3, h4, _⟩
    · cases e
    · simp only [Value.slice.injEq] at e
      unfold maxLen at h4
      omega
  have HF : Hid (Rws B (w.alloc (.cells #[.int .i64 at1, .int .i64 0, .int .i64 by1] 60)) (.slice (some ⟨g, 0, none⟩) ps.length cap) ps ∧ Below B w (w.alloc (.cells #[.int .i64 at1, .int .i64 0, .int .i64 by1] 60)) ∧ (w.alloc (.cells #[.int .i64 at1, .int .i64 0, .int .i64 by1] 60)).cell? ⟨w.heap.size, 0, none⟩ = some (.int .i64 at1) ∧ (w.alloc (.cells #[.int .i64 at1, .int .i64 0, .int .i64 by1] 60)).cell? ⟨w.heap.size, 1, none⟩ = some (.int .i64 0) ∧ (w.alloc (.cells #[.int .i64 at1, .int .i64 0, .int .i64 by1] 60)).cell? ⟨w.heap.size, 2, none⟩ = some (.int .i64 by1)) := ⟨h.kept (up0 _ _), (Below.refl _ _).alloc hB _, by rw [World.cell?_alloc_new]; rfl, by rw [World.cell?_alloc_new]; rfl, by rw [World.cell?_alloc_new]; rfl⟩
  clear h
  go_enter Tryd.func31, Tryd.ntmps31
  go_upto_region 1 with fail
  have HF' := HF.out
  clear HF
  generalize w.alloc (.cells #[.int .i64 at1, .int .i64 0, .int .i64 by1] 60) = W at HF' ⊢
  generalize w.heap.size = gt at HF' ⊢
  obtain ⟨h, hBW, t0, t1, t2⟩ := HF'
  obtain ⟨r, d, hpi⟩ : ∃ r d, ps[I]? = some (r, d) := ⟨ps[I].1, ps[I].2, List.getElem?_eq_getElem hI⟩
  have hpe : ps[I] = (r, d) := (List.getElem?_eq_some_iff.1 hpi).2
  have hrl := hG.each r (List.mem_map.2 ⟨_, List.mem_of_getElem? hpi, rfl⟩)
  have c11 : W.cell? ⟨g, I * 12 + 11, none⟩ = some d := by
    rw [World.ownsRow.cellAt h.recs.1 (I * 12 + 11) (by omega), rcls_get ps I hI 11 (by decide), hpe]
    rfl
  have how := h.own _ (List.mem_of_getElem? hpi)
  have hl0 := hl r d hpi
  obtain ⟨ad, cd, e5, _⟩ := how.bs.shape
  have e6 : d = .slice ad r.l.length cd := e5
  subst e6
  rw [hl0] at c11
  have HX : Hid (Rws B W (.slice (some ⟨g, 0, none⟩) ps.length cap) ps ∧ Below B w W) := ⟨h, hBW⟩
  clear h hBW how hl hpi hpe hrl hl0
  go_wp2
  go_returns
  exact ⟨ps, rfl, HX.out.1, rfl, hG, HX.out.2⟩
set_option maxRecDepth 100000 in
set_option maxHeartbeats 2000000 in
theorem turned_0pn (at1 by1 : Int) (B : Nat) (w : World) (g cap : Nat) (ps : List (Rec × Value)) (h : Rws B w (.slice (some ⟨g, 0, none⟩) ps.length cap) ps) (hG : LGood (ps.map Prod.fst)) (hB : B ≤ w.heap.size) (_h1 : -9223372036854775808 ≤ by1) (_h2 : by1 ≤ 9223372036854775807) (I : Nat) (hI : I < ps.length) (z : Int) (hz : Int.tmod at1 (ps.length : Int) = z) (hz0 : z < 0) (hzI : z + (ps.length : Int) = (I : Int)) (r : Rec) (d : Value) (hpi : ps[I]? = some (r, d)) (K : Nat) (hK : K < r.l.length) (hy : Int.tmod by1 (r.l.length : Int) = (K : Int)) :
    Calls Tryd.prog 31 #[.slice (some ⟨g, 0, none⟩) ps.length cap, .agg #[.int .i64 at1, .int .i64 0, .int .i64 by1]] w fun e w' => TPost B w (.slice (some ⟨g, 0, none⟩) ps.length cap) ps.length e w' := by
  have hfew : ps.length ≤ 1048576 := by have := hG.few; rwa [List.length_map] at this
  have hn0 : ((ps.length : Int) == 0) = false := by rw [beq_eq_false_iff_ne]; omega
  have hn1 : (ps.length : Int) ≠ 0 := by omega
  have hgB : B ≤ g := (World.ownsRow.lt h.recs.1 g rfl).1
  have hcap : ps.length ≤ cap ∧ cap ≤ 9223372036854775807 := by
    rcases h.recs.1.2 with ⟨e, _⟩ | ⟨g', cap', cur, e, _, _, h3, h4, _⟩
    · cases e
    · simp only [Value.slice.injEq] at e
      unfold maxLen at h4
      omega
  have HF : Hid (Rws B (w.alloc (.cells #[.int .i64 at1, .int .i64 0, .int .i64 by1] 60)) (.slice (some ⟨g, 0, none⟩) ps.length cap) ps ∧ Below B w (w.alloc (.cells #[.int .i64 at1, .int .i64 0, .int .i64 by1] 60)) ∧ (w.alloc (.cells #[.int .i64 at1, .int .i64 0, .int .i64 by1] 60)).cell? ⟨w.heap.size, 0, none⟩ = some (.int .i64 at1) ∧ (w.alloc (.cells #[.int .i64 at1, .int .i64 0, .int .i64 by1] 60)).cell? ⟨w.heap.size, 1, none⟩ = some (.int .i64 0) ∧ (w.alloc (.cells #[.int .i64 at1, .int .i64 0, .int .i64 by1] 60)).cell? ⟨w.heap.size, 2, none⟩ = some (.int .i64 by1)) := ⟨h.kept (up0 _ _), (Below.refl _ _).alloc hB _, by rw [World.cell?_alloc_new]; rfl, by rw [World.cell?_alloc_new]; rfl, by rw [World.cell?_alloc_new]; rfl⟩
  clear h
  go_enter Tryd.func31, Tryd.ntmps31
  go_upto_region 1 with fail
  have HF' := HF.out
  clear HF
  generalize w.alloc (.cells #[.int .i64 at1, .int .i64 0, .int .i64 by1] 60) = W at HF' ⊢
  generalize w.heap.size = gt at HF' ⊢
  obtain ⟨h, hBW, t0, t1, t2⟩ := HF'
  have hpe : ps[I] = (r, d) := (List.getElem?_eq_some_iff.1 hpi).2
  have hrl := hG.each r (List.mem_map.2 ⟨_, List.mem_of_getElem? hpi, rfl⟩)
  have c11 : W.cell? ⟨g, I * 12 + 11, none⟩ = some d := by
    rw [World.ownsRow.cellAt h.recs.1 (I * 12 + 11) (by omega), rcls_get ps I hI 11 (by decide), hpe]
    rfl
  have how := h.own _ (List.mem_of_getElem? hpi)
  rcases how.shape with ⟨_, h0⟩ | ⟨gd, cd, e5, hgd, _, hlc, hcm, hcell⟩
  · have h00 : r.l = [] := h0
    rw [h00] at hK
    simp at hK
  have e6 : d = .slice (some ⟨gd, 0, none⟩) r.l.length cd := e5
  subst e6
  unfold maxLen at hcm
  have hm1 : ((r.l.length : Int) == 0) = false := by rw [beq_eq_false_iff_ne]; omega
  have hm2 : (r.l.length : Int) ≠ 0 := by omega
  have hm3 : (0 : Int) < (r.l.length : Int) := by omega
  have hlen := hrl.2.2
  have cK := hcell K hK
  have c256 := ok_get how.good K hK
  have fK : W.frozen? ⟨gd, K, none⟩ = false := World.ownsRow.frozenAt how.row _
  have HX : Hid (Rws B (W.drew.setCell ⟨gd, K, none⟩ (.int .u8 (((r.l[K] + 1) % 256 : Nat) : Int))) (.slice (some ⟨g, 0, none⟩) ps.length cap) (ps.set I (⟨r.x, r.nm, r.l.set K ((r.l[K] + 1) % 256)⟩, .slice (some ⟨gd, 0, none⟩) r.l.length cd)) ∧ Below B w (W.drew.setCell ⟨gd, K, none⟩ (.int .u8 (((r.l[K] + 1) % 256 : Nat) : Int))) ∧ LGood ((ps.set I (⟨r.x, r.nm, r.l.set K ((r.l[K] + 1) % 256)⟩, .slice (some ⟨gd, 0, none⟩) r.l.length cd)).map Prod.fst)) := by
    refine ⟨(h.kept (Below.drew (Below.refl _ _))).byte I K _ r hpi hK (Nat.mod_lt _ (by decide)), Below.setCell (Below.drew hBW) (show B ≤ gd from hgd) _, good_set hG I _ ⟨hrl.1, hrl.2.1, ?_⟩⟩
    show (r.l.set K _).length ≤ _
    rw [List.length_set]
    exact hrl.2.2
  have ew := wrapUp r.l[K] c256
  clear h hBW how hpi hpe hrl hcell
  generalize r.l[K] = c at *
  generalize (c + 1) % 256 = c2 at *
  go_wp2
  go_region
  all_goals
    go_wp2
    go_returns
    exact ⟨_, rfl, HX.out.1, by rw [List.length_set], HX.out.2.2, HX.out.2.1⟩
set_option maxRecDepth 100000 in
set_option maxHeartbeats 2000000 in
theorem turned_0nn (at1 by1 : Int) (B : Nat) (w : World) (g cap : Nat) (ps : List (Rec × Value)) (h : Rws B w (.slice (some ⟨g, 0, none⟩) ps.length cap) ps) (hG : LGood (ps.map Prod.fst)) (hB : B ≤ w.heap.size) (_h1 : -9223372036854775808 ≤ by1) (_h2 : by1 ≤ 9223372036854775807) (I : Nat) (hI : I < ps.length) (z : Int) (hz : Int.tmod at1 (ps.length : Int) = z) (hz0 : z < 0) (hzI : z + (ps.length : Int) = (I : Int)) (r : Rec) (d : Value) (hpi : ps[I]? = some (r, d)) (K : Nat) (hK : K < r.l.length) (y : Int) (hy : Int.tmod by1 (r.l.length : Int) = y) (hy0 : y < 0) (hyK : y + (r.l.length : Int) = (K : Int)) :
    Calls Tryd.prog 31 #[.slice (some ⟨g, 0, none⟩) ps.length cap, .agg #[.int .i64 at1, .int .i64 0, .int .i64 by1]] w fun e w' => TPost B w (.slice (some ⟨g, 0, none⟩) ps.length cap) ps.length e w' := by
  have hfew : ps.length ≤ 1048576 := by have := hG.few; rwa [List.length_map] at this
  have hn0 : ((ps.length : Int) == 0) = false := by rw [beq_eq_false_iff_ne]; omega
  have hn1 : (ps.length : Int) ≠ 0 := by omega
  have hgB : B ≤ g := (World.ownsRow.lt h.recs.1 g rfl).1
  have hcap : ps.length ≤ cap ∧ cap ≤ 9223372036854775807 := by
    rcases h.recs.1.2 with ⟨e, _⟩ | ⟨g', cap', cur, e, _, _, h3, h4, _⟩
    · cases e
    · simp only [Value.slice.injEq] at e
      unfold maxLen at h4
      omega
  have HF : Hid (Rws B (w.alloc (.cells #[.int .i64 at1, .int .i64 0, .int .i64 by1] 60)) (.slice (some ⟨g, 0, none⟩) ps.length cap) ps ∧ Below B w (w.alloc (.cells #[.int .i64 at1, .int .i64 0, .int .i64 by1] 60)) ∧ (w.alloc (.cells #[.int .i64 at1, .int .i64 0, .int .i64 by1] 60)).cell? ⟨w.heap.size, 0, none⟩ = some (.int .i64 at1) ∧ (w.alloc (.cells #[.int .i64 at1, .int .i64 0, .int .i64 by1] 60)).cell? ⟨w.heap.size, 1, none⟩ = some (.int .i64 0) ∧ (w.alloc (.cells #[.int .i64 at1, .int .i64 0, .int .i64 by1] 60)).cell? ⟨w.heap.size, 2, none⟩ = some (.int .i64 by1)) := ⟨h.kept (up0 _ _), (Below.refl _ _).alloc hB _, by rw [World.cell?_alloc_new]; rfl, by rw [World.cell?_alloc_new]; rfl, by rw [World.cell?_alloc_new]; rfl⟩
  clear h
  go_enter Tryd.func31, Tryd.ntmps31
  go_upto_region 1 with fail
  have HF' := HF.out
  clear HF
  generalize w.alloc (.cells #[.int .i64 at1, .int .i64 0, .int .i64 by1] 60) = W at HF' ⊢
  generalize w.heap.size = gt at HF' ⊢
  obtain ⟨h, hBW, t0, t1, t2⟩ := HF'
  have hpe : ps[I] = (r, d) := (List.getElem?_eq_some_iff.1 hpi).2
  have hrl := hG.each r (List.mem_map.2 ⟨_, List.mem_of_getElem? hpi, rfl⟩)
  have c11 : W.cell? ⟨g, I * 12 + 11, none⟩ = some d := by
    rw [World.ownsRow.cellAt h.recs.1 (I * 12 + 11) (by omega), rcls_get ps I hI 11 (by decide), hpe]
    rfl
  have how := h.own _ (List.mem_of_getElem? hpi)
  rcases how.shape with ⟨_, h0⟩ | ⟨gd, cd, e5, hgd, _, hlc, hcm, hcell⟩
  · have h00 : r.l = [] := h0
    rw [h00] at hK
    simp at hK
  have e6 : d = .slice (some ⟨gd, 0, none⟩) r.l.length cd := e5
  subst e6
  unfold maxLen at hcm
  have hm1 : ((r.l.length : Int) == 0) = false := by rw [beq_eq_false_iff_ne]; omega
  have hm2 : (r.l.length : Int) ≠ 0 := by omega
  have hm3 : (0 : Int) < (r.l.length : Int) := by omega
  have hlen := hrl.2.2
  have cK := hcell K hK
  have c256 := ok_get how.good K hK
  have fK : W.frozen? ⟨gd, K, none⟩ = false := World.ownsRow.frozenAt how.row _
  have HX : Hid (Rws B (W.drew.setCell ⟨gd, K, none⟩ (.int .u8 (((r.l[K] + 1) % 256 : Nat) : Int))) (.slice (some ⟨g, 0, none⟩) ps.length cap) (ps.set I (⟨r.x, r.nm, r.l.set K ((r.l[K] + 1) % 256)⟩, .slice (some ⟨gd, 0, none⟩) r.l.length cd)) ∧ Below B w (W.drew.setCell ⟨gd, K, none⟩ (.int .u8 (((r.l[K] + 1) % 256 : Nat) : Int))) ∧ LGood ((ps.set I (⟨r.x, r.nm, r.l.set K ((r.l[K] + 1) % 256)⟩, .slice (some ⟨gd, 0, none⟩) r.l.length cd)).map Prod.fst)) := by
    refine ⟨(h.kept (Below.drew (Below.refl _ _))).byte I K _ r hpi hK (Nat.mod_lt _ (by decide)), Below.setCell (Below.drew hBW) (show B ≤ gd from hgd) _, good_set hG I _ ⟨hrl.1, hrl.2.1, ?_⟩⟩
    show (r.l.set K _).length ≤ _
    rw [List.length_set]
    exact hrl.2.2
  have ew := wrapUp r.l[K] c256
  clear h hBW how hpi hpe hrl hcell
  generalize r.l[K] = c at *
  generalize (c + 1) % 256 = c2 at *
  go_wp2
  go_region
  all_goals
    go_wp2
    go_returns
    exact ⟨_, rfl, HX.out.1, by rw [List.length_set], HX.out.2.2, HX.out.2.1⟩
theorem tmod_place (a : Int) (n : Nat) (hn : 0 < n) : ∃ I : Nat, I < n ∧ (Int.tmod a (n : Int) = (I : Int) ∨ ∃ z, Int.tmod a (n : Int) = z ∧ z < 0 ∧ z + (n : Int) = (I : Int)) := by
  have h1 := Int.tmod_lt_of_pos a (show (0 : Int) < (n : Int) by omega)
  have h2 : -(n : Int) < Int.tmod a (n : Int) := by
    have := Int.lt_tmod_of_pos a (show (0 : Int) < (n : Int) by omega)
    omega
  by_cases h : 0 ≤ Int.tmod a (n : Int)
  · exact ⟨(Int.tmod a (n : Int)).toNat, by omega, .inl (by omega)⟩
  · exact ⟨(Int.tmod a (n : Int) + n).toNat, by omega, .inr ⟨_, rfl, by omega, by omega⟩⟩
theorem turned_any (at1 kd by1 : Int) (v : Value) (B : Nat) (w : World) (ps : List (Rec × Value)) (h : Rws B w v ps) (hG : LGood (ps.map Prod.fst)) (hB : B ≤ w.heap.size) (h1 : -9223372036854775808 ≤ by1) (h2 : by1 ≤ 9223372036854775807) :
    Calls Tryd.prog 31 #[v, .agg #[.int .i64 at1, .int .i64 kd, .int .i64 by1]] w fun e w' => TPost B w v ps.length e w' := by
  by_cases hn : ps.length = 0
  · obtain rfl : ps = [] := List.eq_nil_of_length_eq_zero hn
    obtain ⟨ao, cap, rfl, _⟩ := h.recs.shape
    exact turned_nil at1 kd by1 ao cap B w h hB
  obtain ⟨ao, cap, rfl, _, hga, _⟩ := h.recs.shape
  obtain ⟨g, rfl⟩ := hga 0 (by omega)
  obtain ⟨I, hI, hz⟩ := tmod_place at1 ps.length (by omega)
  by_cases k0 : kd = 0
  · subst k0
    obtain ⟨r, d, hpi⟩ : ∃ r d, ps[I]? = some (r, d) := ⟨ps[I].1, ps[I].2, List.getElem?_eq_getElem hI⟩
    by_cases hl : r.l.length = 0
    · have hl' : ∀ r d, ps[I]? = some (r, d) → r.l.length = 0 := fun r' d' hp => by
        obtain ⟨rfl, _⟩ := Prod.mk.inj (Option.some.inj (hpi.symm.trans hp))
        exact hl
      rcases hz with hz | ⟨z, hz, hz0, hzI⟩
      · exact turned_0ep at1 by1 B w g cap ps h hG hB h1 h2 I hI hz hl'
      · exact turned_0en at1 by1 B w g cap ps h hG hB h1 h2 I hI z hz hz0 hzI hl'
    · obtain ⟨K, hK, hy⟩ := tmod_place by1 r.l.length (by omega)
      rcases hz with hz | ⟨z, hz, hz0, hzI⟩
      · rcases hy with hy | ⟨y, hy, hy0, hyK⟩
        · exact turned_0pp at1 by1 B w g cap ps h hG hB h1 h2 I hI hz r d hpi K hK hy
        · exact turned_0np at1 by1 B w g cap ps h hG hB h1 h2 I hI hz r d hpi K hK y hy hy0 hyK
      · rcases hy with hy | ⟨y, hy, hy0, hyK⟩
        · exact turned_0pn at1 by1 B w g cap ps h hG hB h1 h2 I hI z hz hz0 hzI r d hpi K hK hy
        · exact turned_0nn at1 by1 B w g cap ps h hG hB h1 h2 I hI z hz hz0 hzI r d hpi K hK y hy hy0 hyK
  by_cases k1 : kd = 1
  · subst k1
    rcases hz with hz | ⟨z, hz, hz0, hzI⟩
    · exact turned_1p at1 by1 B w g cap ps h hG hB h1 h2 I hI hz
    · exact turned_1n at1 by1 B w g cap ps h hG hB h1 h2 I hI z hz hz0 hzI
  by_cases k2 : kd = 2
  · subst k2
    rcases hz with hz | ⟨z, hz, hz0, hzI⟩
    · exact turned_2p at1 by1 B w g cap ps h hG hB h1 h2 I hI hz
    · exact turned_2n at1 by1 B w g cap ps h hG hB h1 h2 I hI z hz hz0 hzI
  by_cases k3 : kd = 3
  · subst k3
    rcases hz with hz | ⟨z, hz, hz0, hzI⟩
    · exact turned_3p at1 by1 B w g cap ps h hG hB h1 h2 I hI hz
    · exact turned_3n at1 by1 B w g cap ps h hG hB h1 h2 I hI z hz hz0 hzI
  by_cases k4 : kd = 4
  · subst k4
    rcases hz with hz | ⟨z, hz, hz0, hzI⟩
    · exact turned_4p at1 by1 B w g cap ps h hG hB h1 h2 I hI hz
    · exact turned_4n at1 by1 B w g cap ps h hG hB h1 h2 I hI z hz hz0 hzI
  rcases hz with hz | ⟨z, hz, hz0, hzI⟩
  · exact turned_ep at1 kd by1 B w g cap ps h hG hB h1 h2 I hI hz k0 k1 k2 k3 k4
  · exact turned_en at1 kd by1 B w g cap ps h hG hB h1 h2 I hI z hz hz0 hzI k0 k1 k2 k3 k4
end Go.Proofs.YtjhgjlnckidjkaaDoor
