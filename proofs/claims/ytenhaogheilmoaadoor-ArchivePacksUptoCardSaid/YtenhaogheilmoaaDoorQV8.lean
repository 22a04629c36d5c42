import Derived.Lib.SlBytesConst
import Derived.Test.YtenhaogheilmoaaDoorQV7
/-
  Package archive: Read.
-/
namespace Go.Proofs.YtenhaogheilmoaaDoor
open Go Go.RowKit
open Wb

theorem OutT.weak {B B2 : Nat} {w : World} {v : Value} {ps : List (Rec × Value)} (h : OutT B2 w v ps) (hB : B ≤ B2) : OutT B w v ps := by
  refine ⟨⟨h.1.1, ?_⟩, fun p hp => own_weak (h.2 p hp) hB⟩
  rcases h.1.2 with h1 | ⟨g, cap, cur, e, hb, rest⟩
  · exact .inl h1
  · exact .inr ⟨g, cap, cur, e, Nat.le_trans hB hb, rest⟩
theorem read_is (l : List Nat) : Ar.read recC l = if 8388608 < l.length then none else if l.take 5 ≠ Ar.hd then none else rdF l := by
  unfold Ar.read rdF
  split
  · rfl
  split
  · rfl
  split
  · rfl
  cases Ar.nums (rf l 5).1 with
  | none => rfl
  | some tn =>
    obtain ⟨top, n⟩ := tn
    simp only
    cases Ar.recs recC l n (rf l 5).2.1 [] with
    | none => rfl
    | some x => rfl
/-- the head as the program writes it -/
theorem hd_new (w : World) : Bs (w.alloc (.cells #[.int .u8 65, .int .u8 78, .int .u8 65, .int .u8 82, .int .u8 1] 5 (5, 6))) (.slice (some ⟨w.heap.size, 0, none⟩) 5 5) Ar.hd := by
  refine ⟨⟨some ⟨w.heap.size, 0, none⟩, 5, rfl, Nat.le_refl _, by simp [maxLen], fun e => (by cases e), fun _ => ⟨w.heap.size, 0, rfl, fun j hj => ?_⟩⟩, fun x hx => by simp [Ar.hd] at hx; omega⟩
  have hj5 : j < 5 := hj
  rw [Nat.zero_add]
  have hh : (w.alloc (.cells #[.int .u8 65, .int .u8 78, .int .u8 65, .int .u8 82, .int .u8 1] 5 (5, 6))).heap[w.heap.size]? = some (.cells #[.int .u8 65, .int .u8 78, .int .u8 65, .int .u8 82, .int .u8 1] 5 (5, 6)) := Array.getElem?_push_size
  match j, hj5 with
  | 0, _ | 1, _ | 2, _ | 3, _ | 4, _ => unfold World.cell?; rw [hh]; rfl
theorem hd_conv (w : World) : (convert 25 25 (.slice (some ⟨w.heap.size, 0, none⟩) 5 5)).run Tryd.prog (w.alloc (.cells #[.int .u8 65, .int .u8 78, .int .u8 65, .int .u8 82, .int .u8 1] 5)) = .ok (.slice (some ⟨w.heap.size, 0, none⟩) 5 5) (w.alloc (.cells #[.int .u8 65, .int .u8 78, .int .u8 65, .int .u8 82, .int .u8 1] 5 (5, 6))) := Lib.run_convert_bytes_const (P := Tryd.prog) w 25 5 #[.int .u8 65, .int .u8 78, .int .u8 65, .int .u8 82, .int .u8 1] 5 5 Tryd.underlying25 Tryd.underlying5
def RdPost (O : Option (Nat × List Rec)) (w : World) (e : Ending) (w' : World) : Prop :=
  Below w.heap.size w w' ∧ match O with
  | none => ∃ z at_ : Int, z ≠ 0 ∧ e = .returned (.tuple #[.agg #[.int .i64 0, .slice none 0 0], .int .i64 z, .int .i64 at_])
  | some (top, rs) => ∃ vr ps, e = .returned (.tuple #[.agg #[.int .i64 (top : Int), vr], .int .i64 0, .int .i64 0]) ∧ OutT w.heap.size w' vr ps ∧ ps.map Prod.fst = rs
set_option maxRecDepth 100000 in
set_option maxHeartbeats 8000000 in
theorem arread_any (v : Value) (l : List Nat) (w : World) (h : Bs w v l) (hT : Tab w) (hT2 : Text.TabP 3 .i32 Text.Tx.lets w) (hG : TagsT w) :
    Calls Tryd.prog 14 #[v] w fun e w' => RdPost (Ar.read recC l) w e w' := by
  obtain ⟨X, hX⟩ : ∃ X, Ar.read recC l = X := ⟨_, rfl⟩
  rw [hX]
  rw [read_is] at hX
  obtain ⟨ao, cap, rfl, hc1, hc2, hc3, -⟩ := h.shape
  unfold maxLen at hc2
  by_cases k1 : 8388608 < l.length
  · rw [if_pos k1] at hX
    subst hX
    have hk1 : ((8388608 : Int) < (l.length : Int)) = True := by simp; omega
    have HK : Hid (8388608 < l.length) := k1
    clear k1 h hT hT2 hG
    go_enter Tryd.func14, Tryd.ntmps14
    go_wp2_with fail
    refine bodyPost_ret (by simp [results, Tryd.results14, go_sem]; try rfl) rfl ?_
    exact ⟨by first | exact up0 _ _ | exact Below.setCell (Below.setCell (up0 _ _) (Nat.le_refl _) _) (Nat.le_refl _) _, 2, 8388608, by decide, rfl⟩
  · rw [if_neg k1] at hX
    have hk1 : ((8388608 : Int) < (l.length : Int)) = False := by simp; omega
    have HHP : Hid (∀ W vb, Below w.heap.size w W → Bs W vb Ar.hd → Calls Tryd.prog 28 #[.slice ao l.length cap, vb] W fun e w' => e = .returned (.bool (decide (l.take 5 = Ar.hd))) ∧ w' = W) := fun W vb hb hv => arhasp_any _ vb l Ar.hd W (h.kept hb) hv
    have kc := hd_conv (w.alloc (.cells #[.int .i64 0, .slice none 0 0] 30))
    rw [heap_one] at kc
    have HLT : Hid (Bs ((w.alloc (.cells #[.int .i64 0, .slice none 0 0] 30)).alloc (.cells #[.int .u8 65, .int .u8 78, .int .u8 65, .int .u8 82, .int .u8 1] 5 (5, 6))) (.slice (some ⟨w.heap.size + 1, 0, none⟩) 5 5) Ar.hd) := by
      have e := hd_new (w.alloc (.cells #[.int .i64 0, .slice none 0 0] 30))
      rw [heap_one] at e
      exact e
    have HK : Hid (¬ 8388608 < l.length) := k1
    have HRF : Hid (∀ (w0 W : World) (g : Nat), Below w.heap.size w w0 → ARd W g (.slice ao l.length cap) 5 0 0 (.slice none 0 0) → w0.heap.size ≤ g → Below w0.heap.size w0 W → Calls Tryd.prog 29 #[.pointer (some ⟨g, 0, none⟩)] W fun e w' => RfPost w0.heap.size g (.slice ao l.length cap) (rdF l) w0 e w') := fun w0 W g b0 a hg bw => arrfr_any g _ l w0 W a hg (h.kept b0) (by omega) (hT.kept b0) (hT2.kept b0) (hG.kept b0) bw
    clear k1 h hT hT2 hG
    by_cases k2 : l.take 5 = Ar.hd
    · rw [if_neg (by simpa using k2)] at hX
      have hd : decide (l.take 5 = Ar.hd) = true := decide_eq_true k2
      rw [hd] at HHP
      clear k2 hd
      rw [hX] at HRF
      clear hX
      cases X with
      | none =>
        go_enter Tryd.func14, Tryd.ntmps14
        go_wp2_with fail
        refine (HHP.out _ _ (up (up0 _ _) _) HLT.out).mono ?_
        rintro e w1 ⟨rfl, rfl⟩
        obtain ⟨w0, hw0⟩ : ∃ w0, w0 = (w.alloc (.cells #[.int .i64 0, .slice none 0 0] 30)).alloc (.cells #[.int .u8 65, .int .u8 78, .int .u8 65, .int .u8 82, .int .u8 1] 5 (5, 6)) := ⟨_, rfl⟩
        have hL : LB w0 w.heap.size 30 [.int .i64 0, .slice none 0 0] := by rw [hw0]; exact (lb_new w _ _).kept (up0 _ _)
        have hb0 : Below w.heap.size w w0 := by rw [hw0]; exact up (up0 _ _) _
        rw [← hw0]
        have H0 : Hid (LB w0 w.heap.size 30 [.int .i64 0, .slice none 0 0] ∧ Below w.heap.size w w0) := And.intro hL hb0
        clear hw0 hL hb0 HHP HLT kc
        go_wp2_with fail
        refine (HRF.out w0 _ w0.heap.size H0.out.2 (lb_new w0 _ _) (Nat.le_refl _) (up0 _ _)).mono ?_
        rintro e w3 ⟨b3, z, hz, rfl, C, zt, LC, hC⟩
        have hzb : (z != 0) = true := by simp [hz]
        have hc1 := LC.cell 1 _ hC
        have LX : LB w3 w.heap.size 30 [.int .i64 0, .slice none 0 0] := H0.out.1.kept b3
        have y0 := LX.cell 0 _ rfl
        have y1 := LX.cell 1 _ rfl
        have f0 := LX.free 0
        have f1 := LX.free 1
        have HB3 : Hid (Below w.heap.size w w3) := H0.out.2.trans (b3.mono H0.out.2.size)
        have hgg : w0.heap.size ≠ w.heap.size := Ne.symm (Nat.ne_of_lt H0.out.1.lt)
        have hgg2 : w.heap.size ≠ w0.heap.size := Ne.symm hgg
        have HW : Hid (∃ W, W = ((w3.setCell ⟨w.heap.size, 0, none⟩ (.int .i64 0)).setCell ⟨w.heap.size, 1, none⟩ (.slice none 0 0)).drew ∧ LB W w.heap.size 30 [.int .i64 0, .slice none 0 0] ∧ Below w.heap.size w W) := ⟨_, rfl, ((LX.set 0 _).set 1 _).kept (Below.drew (Below.refl _ _)), Below.drew (Below.setCell (Below.setCell HB3.out (Nat.le_refl _) _) (Nat.le_refl _) _)⟩
        clear LX LC hC b3 H0 HRF
        go_wp2_with fail
        go_region
        obtain ⟨W, hW, LW, BW⟩ := HW.out
        rw [← hW]
        have v0 := LW.cell 0 _ rfl
        have v1 := LW.cell 1 _ rfl
        have HBW : Hid (Below w.heap.size w W) := BW
        clear hW LW BW HW y0 y1 f0 f1 hc1
        go_wp2_with fail
        refine bodyPost_ret (by simp [results, Tryd.results14, go_sem, v0, v1]; try rfl) rfl ?_
        exact ⟨HBW.out, z, zt, hz, rfl⟩
      | some tr =>
        obtain ⟨top, rs⟩ := tr
        go_enter Tryd.func14, Tryd.ntmps14
        go_wp2_with fail
        refine (HHP.out _ _ (up (up0 _ _) _) HLT.out).mono ?_
        rintro e w1 ⟨rfl, rfl⟩
        obtain ⟨w0, hw0⟩ : ∃ w0, w0 = (w.alloc (.cells #[.int .i64 0, .slice none 0 0] 30)).alloc (.cells #[.int .u8 65, .int .u8 78, .int .u8 65, .int .u8 82, .int .u8 1] 5 (5, 6)) := ⟨_, rfl⟩
        have hL : LB w0 w.heap.size 30 [.int .i64 0, .slice none 0 0] := by rw [hw0]; exact (lb_new w _ _).kept (up0 _ _)
        have hb0 : Below w.heap.size w w0 := by rw [hw0]; exact up (up0 _ _) _
        rw [← hw0]
        have H0 : Hid (LB w0 w.heap.size 30 [.int .i64 0, .slice none 0 0] ∧ Below w.heap.size w w0) := And.intro hL hb0
        clear hw0 hL hb0 HHP HLT kc
        go_wp2_with fail
        refine (HRF.out w0 _ w0.heap.size H0.out.2 (lb_new w0 _ _) (Nat.le_refl _) (up0 _ _)).mono ?_
        rintro e w3 ⟨b3, rfl, at_, lf, vr, ps, a3, o3, hm3⟩
        have HB3 : Hid (Below w.heap.size w w3 ∧ w.heap.size ≤ w0.heap.size ∧ OutT w0.heap.size w3 vr ps) := ⟨H0.out.2.trans (b3.mono H0.out.2.size), H0.out.2.size, o3⟩
        have HM3 : Hid (ps.map Prod.fst = rs) := hm3
        have LX : LB w3 w.heap.size 30 [.int .i64 0, .slice none 0 0] := H0.out.1.kept b3
        obtain ⟨av, nv, cv, rfl⟩ : ∃ a n c, vr = .slice a n c := by rcases o3.1.2 with ⟨e, _⟩ | ⟨_, _, _, e, _⟩ <;> exact ⟨_, _, _, e⟩
        have LA : LB w3 w0.heap.size 60 [.slice ao l.length cap, .int .i64 at_, .int .u64 (lf : Int), .int .i64 (top : Int), .slice av nv cv] := a3
        have z3 := LA.cell 3 _ rfl
        have z4 := LA.cell 4 _ rfl
        have y0 := LX.cell 0 _ rfl
        have y1 := LX.cell 1 _ rfl
        have f0 := LX.free 0
        have f1 := LX.free 1
        have HW : Hid (∃ W, W = (w3.setCell ⟨w.heap.size, 0, none⟩ (.int .i64 (top : Int))).setCell ⟨w.heap.size, 1, none⟩ (.slice av nv cv) ∧ LB W w.heap.size 30 [.int .i64 (top : Int), .slice av nv cv] ∧ Below w.heap.size w W ∧ OutT w.heap.size W (.slice av nv cv) ps) := ⟨_, rfl, (LX.set 0 _).set 1 _, Below.setCell (Below.setCell HB3.out.1 (Nat.le_refl _) _) (Nat.le_refl _) _, (HB3.out.2.2.but LX (by decide) (by decide) (fun b hb _ => (set_other _ _ _ _ hb).trans (set_other _ _ _ _ hb))).weak HB3.out.2.1⟩
        clear LX LA a3 o3 hm3 b3 H0 HRF
        go_wp2_with fail
        obtain ⟨W, hW, LW, BW, OW⟩ := HW.out
        rw [← hW]
        have v0 := LW.cell 0 _ rfl
        have v1 := LW.cell 1 _ rfl
        refine bodyPost_ret (by simp [results, Tryd.results14, go_sem, v0, v1]; try rfl) rfl ?_
        exact ⟨BW, _, ps, rfl, OW, HM3.out⟩
    · rw [if_pos k2] at hX
      subst hX
      have hd : decide (l.take 5 = Ar.hd) = false := decide_eq_false k2
      rw [hd] at HHP
      clear k2 hd HRF
      go_enter Tryd.func14, Tryd.ntmps14
      go_wp2_with fail
      refine (HHP.out _ _ (up (up0 _ _) _) HLT.out).mono ?_
      rintro e w1 ⟨rfl, rfl⟩
      clear HHP HLT kc
      go_wp2_with fail
      refine bodyPost_ret (by simp [results, Tryd.results14, go_sem]; try rfl) rfl ?_
      exact ⟨by first | exact up (up0 _ _) _ | exact Below.setCell (Below.setCell (up (up0 _ _) _) (Nat.le_refl _) _) (Nat.le_refl _) _, 170, 0, by decide, rfl⟩
end Go.Proofs.YtenhaogheilmoaaDoor
