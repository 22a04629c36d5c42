import Derived.Deep.RegionHeld3
import Derived.Test.YtdnackjakfiffaaGreatDoorQS3
/-
  Package saga: inPhase, onTurn.
-/
namespace Go.Proofs.YtdnackjakfiffaaGreatDoor
open Go Go.RowKit
open Wb

/-- the table of kinds stands -/
def KindsT (w : World) : Prop := ∀ k : Nat, k < 8 → w.cell? ⟨3, 2 * k, none⟩ = some (.int .i64 (kph k)) ∧ w.cell? ⟨3, 2 * k + 1, none⟩ = some (.bool (lands k))
theorem KindsT.kept {w w' : World} (h : KindsT w) (hb : Below w.heap.size w w') : KindsT w' := fun k hk =>
  ⟨(hb.cell (p := ⟨3, 2 * k, none⟩) (World.block_lt_of_cell? _ _ (h k hk).1)).trans (h k hk).1, (hb.cell (p := ⟨3, 2 * k + 1, none⟩) (World.block_lt_of_cell? _ _ (h k hk).2)).trans (h k hk).2⟩
theorem bdrewN {B : Nat} {a w : World} (h : Below B a w) (n : Nat) : Below B a (w.drewN n) := ⟨h.os, h.tape, h.output, h.size, h.block⟩
/-- the cells of a record -/
def rcE (x : Nums) (nm : ByteArray) (d : Value) : List Value := [.int .i64 x.v, .int .i64 x.k, .int .i64 x.s, .int .i64 x.p, .int .i64 x.t, .int .i64 x.a, .int .i64 x.l, .int .i64 x.c, .int .i64 x.n, .int .i64 x.i, .string nm, d]
theorem rv_letter (x : Nums) (nm : ByteArray) (d : Value) : ∃ E : List Value, rv x nm d = .agg E.toArray ∧ (Tryz.prog.info? 32).map (·.size) = some E.length ∧ E = rcE x nm d := ⟨_, rfl, infoRec, rfl⟩
theorem boxed2 (w : World) (D E : List Value) (t t2 : TypeId) : ((w.alloc (.cells D.toArray t)).alloc (.cells E.toArray t2)).rangeAt w.heap.size 0 D ∧ ((w.alloc (.cells D.toArray t)).alloc (.cells E.toArray t2)).rangeAt (w.heap.size + 1) 0 E ∧ Below w.heap.size w ((w.alloc (.cells D.toArray t)).alloc (.cells E.toArray t2)) := by
  refine ⟨range_kept (range_new w D t) (up0 _ _), ?_, up (up0 _ _) _⟩
  have h := range_new (w.alloc (.cells D.toArray t)) E t2
  have e : (w.alloc (.cells D.toArray t)).heap.size = w.heap.size + 1 := Array.size_push _
  rwa [e] at h
set_option maxRecDepth 100000 in
set_option maxHeartbeats 2000000 in
theorem inPh_any (S : Sg) (h : SH) (k : Int) (w : World) (hk : 1 ≤ k ∧ k ≤ 7) (hT : KindsT w) : Calls Tryz.prog 104 #[sv S h, .int .i64 k] w fun e w' => e = .returned (.bool (S.x.inPh k)) ∧ Below w.heap.size w w' := by
  obtain rfl | rfl | rfl | rfl | rfl | rfl | rfl : k = 1 ∨ k = 2 ∨ k = 3 ∨ k = 4 ∨ k = 5 ∨ k = 6 ∨ k = 7 := by omega
  · have t0 : (w.alloc (.cells (scl S h).toArray 43)).cell? ⟨3, 2, none⟩ = some (.int .i64 0) := ((hT.kept (up0 _ _)) 1 (by decide)).1
    have H1 : Hid (S.x.inPh 1 = true) := by show _ = _; rfl
    rw [H1.out]
    unfold scl at t0
    unfold sv
    clear hT hk H1
    go_enter Tryz.func104, Tryz.ntmps104
    go_wp2
    go_quiet (fail)
    go_wp2
    go_ret
    exact ⟨rfl, bdrewN (up0 _ _) _⟩
  · have t0 : (w.alloc (.cells (scl S h).toArray 43)).cell? ⟨3, 4, none⟩ = some (.int .i64 1) := ((hT.kept (up0 _ _)) 2 (by decide)).1
    have H1 : Hid (S.x.inPh 2 = (1 == S.x.ph)) := by show _ = _; rfl
    rw [H1.out]
    unfold scl at t0
    unfold sv
    clear hT hk H1
    go_enter Tryz.func104, Tryz.ntmps104
    go_wp2
    go_quiet (fail)
    go_wp2
    go_ret
    exact ⟨rfl, bdrewN (up0 _ _) _⟩
  · have t0 : (w.alloc (.cells (scl S h).toArray 43)).cell? ⟨3, 6, none⟩ = some (.int .i64 1) := ((hT.kept (up0 _ _)) 3 (by decide)).1
    have H1 : Hid (S.x.inPh 3 = (1 == S.x.ph)) := by show _ = _; rfl
    rw [H1.out]
    unfold scl at t0
    unfold sv
    clear hT hk H1
    go_enter Tryz.func104, Tryz.ntmps104
    go_wp2
    go_quiet (fail)
    go_wp2
    go_ret
    exact ⟨rfl, bdrewN (up0 _ _) _⟩
  · have t0 : (w.alloc (.cells (scl S h).toArray 43)).cell? ⟨3, 8, none⟩ = some (.int .i64 0) := ((hT.kept (up0 _ _)) 4 (by decide)).1
    have H1 : Hid (S.x.inPh 4 = true) := by show _ = _; rfl
    rw [H1.out]
    unfold scl at t0
    unfold sv
    clear hT hk H1
    go_enter Tryz.func104, Tryz.ntmps104
    go_wp2
    go_quiet (fail)
    go_wp2
    go_ret
    exact ⟨rfl, bdrewN (up0 _ _) _⟩
  · have t0 : (w.alloc (.cells (scl S h).toArray 43)).cell? ⟨3, 10, none⟩ = some (.int .i64 2) := ((hT.kept (up0 _ _)) 5 (by decide)).1
    have H1 : Hid (S.x.inPh 5 = (2 == S.x.ph)) := by show _ = _; rfl
    rw [H1.out]
    unfold scl at t0
    unfold sv
    clear hT hk H1
    go_enter Tryz.func104, Tryz.ntmps104
    go_wp2
    go_quiet (fail)
    go_wp2
    go_ret
    exact ⟨rfl, bdrewN (up0 _ _) _⟩
  · have t0 : (w.alloc (.cells (scl S h).toArray 43)).cell? ⟨3, 12, none⟩ = some (.int .i64 2) := ((hT.kept (up0 _ _)) 6 (by decide)).1
    have H1 : Hid (S.x.inPh 6 = (2 == S.x.ph)) := by show _ = _; rfl
    rw [H1.out]
    unfold scl at t0
    unfold sv
    clear hT hk H1
    go_enter Tryz.func104, Tryz.ntmps104
    go_wp2
    go_quiet (fail)
    go_wp2
    go_ret
    exact ⟨rfl, bdrewN (up0 _ _) _⟩
  · have t0 : (w.alloc (.cells (scl S h).toArray 43)).cell? ⟨3, 14, none⟩ = some (.int .i64 0) := ((hT.kept (up0 _ _)) 7 (by decide)).1
    have H1 : Hid (S.x.inPh 7 = true) := by show _ = _; rfl
    rw [H1.out]
    unfold scl at t0
    unfold sv
    clear hT hk H1
    go_enter Tryz.func104, Tryz.ntmps104
    go_wp2
    go_quiet (fail)
    go_wp2
    go_ret
    exact ⟨rfl, bdrewN (up0 _ _) _⟩
set_option maxRecDepth 100000 in
set_option maxHeartbeats 2000000 in
theorem onTurn_end (S : Sg) (h : SH) (x : Nums) (nm : ByteArray) (d : Value) (w : World) (hk : x.k = 7) : Calls Tryz.prog 105 #[sv S h, rv x nm d] w fun e w' => e = .returned (.bool (S.x.onTurn x.k x.p)) ∧ Below w.heap.size w w' := by
  have HA0 : ∀ w', Calls Tryz.prog 55 #[sv S h] w' fun e w'' => e = .returned (.bool S.x.atEnd) ∧ Below w'.heap.size w' w'' := fun w' => atEnd_any S h w'
  have H0 : Hid (S.x.onTurn x.k x.p = S.x.atEnd) := by show _ = _; unfold SN.onTurn; rw [if_pos hk]
  rw [H0.out]
  have HK : Hid (x.k = 7) := hk
  clear hk
  obtain ⟨D, hD, hL, hE⟩ := sv_letter S h
  obtain ⟨E, hD2, hL2, hE2⟩ := rv_letter x nm d
  rw [hD, hD2]
  try rw [hD] at HA0
  try rw [hD2] at HA0
  have HA : Hid _ := HA0
  have HL : Hid _ := hL
  have HE : Hid (D = scl S h) := hE
  have HL2 : Hid _ := hL2
  have HE2 : Hid (E = rcE x nm d) := hE2
  have HX : Hid (∀ t t2, ((w.alloc (.cells D.toArray t)).alloc (.cells E.toArray t2)).rangeAt w.heap.size 0 D ∧ ((w.alloc (.cells D.toArray t)).alloc (.cells E.toArray t2)).rangeAt (w.heap.size + 1) 0 E ∧ Below w.heap.size w ((w.alloc (.cells D.toArray t)).alloc (.cells E.toArray t2))) := fun t t2 => boxed2 w D E t t2
  clear hD hL hE hD2 hL2 hE2 HA0
  have r1 : ∀ t t2, ((w.alloc (.cells D.toArray t)).alloc (.cells E.toArray t2)).cell? ⟨w.heap.size + 1, 1, none⟩ = some (.int .i64 7) := fun t t2 => range_cell (HX.out t t2).2.1 1 _ (by rw [HE2.out, ← HK.out]; rfl)
  go_enter Tryz.func105, Tryz.ntmps105
  go_wp2_with (first | (refine wpList_load_mid rfl 43 _ rfl w.heap.size 0 rfl D _ (HX.out _ _).1 Tryz.underlying43 rfl HL.out ?_) | (refine wpList_load_midG rfl 43 _ rfl w.heap.size 0 rfl D _ (HX.out _ _).1 Tryz.underlying43 rfl HL.out ?_))
  refine (HA.out _).mono ?_
  rintro e w1 ⟨rfl, b1⟩
  have B1 := andThen (HX.out _ _).2.2 b1
  clear b1 HX HA HE HE2 HL HL2 HK r1
  go_wp2
  go_ret
  exact ⟨rfl, B1⟩
set_option maxRecDepth 100000 in
set_option maxHeartbeats 2000000 in
theorem onTurn_t (S : Sg) (h : SH) (x : Nums) (nm : ByteArray) (d : Value) (w : World) (hk : (x.k == 7) = false) (ha : S.x.atEnd = true) : Calls Tryz.prog 105 #[sv S h, rv x nm d] w fun e w' => e = .returned (.bool (S.x.onTurn x.k x.p)) ∧ Below w.heap.size w w' := by
  have HA0 : ∀ w', Calls Tryz.prog 55 #[sv S h] w' fun e w'' => e = .returned (.bool true) ∧ Below w'.heap.size w' w'' := fun w' => by rw [← ha]; exact atEnd_any S h w'
  have H0 : Hid (S.x.onTurn x.k x.p = false) := by show _ = _; unfold SN.onTurn; rw [if_neg (by simpa using hk), ha]; rfl
  rw [H0.out]
  clear ha H0
  obtain ⟨D, hD, hL, hE⟩ := sv_letter S h
  obtain ⟨E, hD2, hL2, hE2⟩ := rv_letter x nm d
  rw [hD, hD2]
  try rw [hD] at HA0
  try rw [hD2] at HA0
  have HA : Hid _ := HA0
  have HL : Hid _ := hL
  have HE : Hid (D = scl S h) := hE
  have HL2 : Hid _ := hL2
  have HE2 : Hid (E = rcE x nm d) := hE2
  have HX : Hid (∀ t t2, ((w.alloc (.cells D.toArray t)).alloc (.cells E.toArray t2)).rangeAt w.heap.size 0 D ∧ ((w.alloc (.cells D.toArray t)).alloc (.cells E.toArray t2)).rangeAt (w.heap.size + 1) 0 E ∧ Below w.heap.size w ((w.alloc (.cells D.toArray t)).alloc (.cells E.toArray t2))) := fun t t2 => boxed2 w D E t t2
  clear hD hL hE hD2 hL2 hE2 HA0
  have r1 : ∀ t t2, ((w.alloc (.cells D.toArray t)).alloc (.cells E.toArray t2)).cell? ⟨w.heap.size + 1, 1, none⟩ = some (.int .i64 x.k) := fun t t2 => range_cell (HX.out t t2).2.1 1 _ (by rw [HE2.out]; rfl)
  have HR : Hid (∀ w' : World, w'.rangeAt (w.heap.size + 1) 0 E → w'.cell? ⟨w.heap.size + 1, 3, none⟩ = some (.int .i64 x.p)) := fun w' hr => range_cell hr 3 _ (by rw [HE2.out]; rfl)
  go_enter Tryz.func105, Tryz.ntmps105
  go_wp2_with fail
  refine wp_region_held_drew (S := fun w' : World => w'.rangeAt w.heap.size 0 D ∧ w'.rangeAt (w.heap.size + 1) 0 E ∧ w'.cell? ⟨w.heap.size + 1, 3, none⟩ = some (.int .i64 x.p) ∧ Below w.heap.size w w') (by kernel_rfl) ?_ (fun hH => ?_)
  · exact ⟨range_kept (HX.out _ _).1 (Below.drew (Below.refl _ _)), range_kept (HX.out _ _).2.1 (Below.drew (Below.refl _ _)), HR.out _ (range_kept (HX.out _ _).2.1 (Below.drew (Below.refl _ _))), Below.drew (HX.out _ _).2.2⟩
  refine wpAnyH_take (i := 0) rfl (by kernel_rfl) (by kernel_rfl) (by kernel_rfl) (fun _ _ _ h => h) (yieldsIf_load_mid (by rfl) _ _ rfl _ _ rfl D _ (fun w' hSw => hSw.1) Tryz.underlying43 rfl HL.out) hH ?_
  simp only [Act.put, List.setIfInBounds_toArray, List.set_cons_zero, List.set_cons_succ, List.getElem_toArray, List.getElem_cons_zero]
  refine wpAnyH_ready (rs := [1]) (by kernel_rfl) (by simp) ?_
  refine AllReadyH.cons rfl (fun K hK => ?_) AllReadyH.nil
  go_simp
  refine (HA.out _).mono ?_
  rintro e w1 ⟨rfl, b1⟩
  refine hK.out _ _ ?_ (fun hH2 => ?_)
  · exact ⟨range_kept hH.1 b1, range_kept hH.2.1 b1, HR.out _ (range_kept hH.2.1 b1), andThen hH.2.2.2 b1⟩
  clear hK K hH
  have hH := hH2
  clear hH2
  refine wpAnyH_take (i := 2) (v := ?v1) rfl (by kernel_rfl) (by kernel_rfl) (by kernel_rfl) (fun _ _ _ h => h) (Or.inl ⟨by rfl, ?hy1⟩) hH ?rest1
  case hy1 => intro w' hSw; (try dsimp only at hSw); go_simp; all_goals rfl
  simp only [Act.put, List.setIfInBounds_toArray, List.set_cons_zero, List.set_cons_succ, List.getElem_toArray, List.getElem_cons_zero, List.getElem_cons_succ]
  refine wpAnyH_take (i := 3) (v := ?v2) rfl (by kernel_rfl) (by kernel_rfl) (by kernel_rfl) (fun _ _ _ h => h) (Or.inl ⟨by rfl, ?hy2⟩) hH ?rest2
  case hy2 => intro w' hSw; (try dsimp only at hSw); go_simp; all_goals rfl
  simp only [Act.put, List.setIfInBounds_toArray, List.set_cons_zero, List.set_cons_succ, List.getElem_toArray, List.getElem_cons_zero, List.getElem_cons_succ]
  refine wpAnyH_take (i := 4) rfl (by kernel_rfl) (by kernel_rfl) (by kernel_rfl) (fun _ _ _ h => h) (Or.inr ⟨by rfl, rfl⟩) hH ?_
  simp only [Act.put, List.setIfInBounds_toArray, List.set_cons_zero, List.set_cons_succ, List.getElem_toArray, List.getElem_cons_zero, List.getElem_cons_succ]
  refine wpAnyH_take (i := 5) rfl (by kernel_rfl) (by kernel_rfl) (by kernel_rfl) (fun _ _ _ h => h) (Or.inr ⟨by rfl, rfl⟩) hH ?_
  simp only [Act.put, List.setIfInBounds_toArray, List.set_cons_zero, List.set_cons_succ, List.getElem_toArray, List.getElem_cons_zero, List.getElem_cons_succ]
  refine wpAnyH_take (i := 6) rfl (by kernel_rfl) (by kernel_rfl) (by kernel_rfl) (fun _ _ _ h => h) (Or.inr ⟨by rfl, rfl⟩) hH ?_
  simp only [Act.put, List.setIfInBounds_toArray, List.set_cons_zero, List.set_cons_succ, List.getElem_toArray, List.getElem_cons_zero, List.getElem_cons_succ]
  refine wpAnyH_take (i := 7) rfl (by kernel_rfl) (by kernel_rfl) (by kernel_rfl) (fun _ _ _ h => h) (Or.inr ⟨by rfl, rfl⟩) hH ?_
  simp only [Act.put, List.setIfInBounds_toArray, List.set_cons_zero, List.set_cons_succ, List.getElem_toArray, List.getElem_cons_zero, List.getElem_cons_succ]
  refine wpAnyH_take (i := 8) rfl (by kernel_rfl) (by kernel_rfl) (by kernel_rfl) (fun _ _ _ h => h) (Or.inr ⟨by rfl, rfl⟩) hH ?_
  simp only [Act.put, List.setIfInBounds_toArray, List.set_cons_zero, List.set_cons_succ, List.getElem_toArray, List.getElem_cons_zero, List.getElem_cons_succ]
  refine wpAnyH_take (i := 9) (v := ?v3) rfl (by kernel_rfl) (by kernel_rfl) (by kernel_rfl) (fun _ _ _ h => h) (Or.inl ⟨by rfl, ?hy3⟩) hH ?rest3
  case hy3 => intro w' hSw; (try dsimp only at hSw); go_simp; all_goals rfl
  simp only [Act.put, List.setIfInBounds_toArray, List.set_cons_zero, List.set_cons_succ, List.getElem_toArray, List.getElem_cons_zero, List.getElem_cons_succ]
  refine wpAnyH_take (i := 10) (v := ?v4) rfl (by kernel_rfl) (by kernel_rfl) (by kernel_rfl) (fun _ _ _ h => h) (Or.inl ⟨by rfl, ?hy4⟩) hH ?rest4
  case hy4 => intro w' hSw; (try dsimp only at hSw); go_simp; all_goals rfl
  simp only [Act.put, List.setIfInBounds_toArray, List.set_cons_zero, List.set_cons_succ, List.getElem_toArray, List.getElem_cons_zero, List.getElem_cons_succ]
  refine wpAnyH_done (by kernel_rfl) ?_ _
  have BF := hH.2.2.2
  clear hH
  go_wp2
  go_ret
  exact ⟨rfl, BF⟩
set_option maxRecDepth 100000 in
set_option maxHeartbeats 2000000 in
theorem onTurn_f (S : Sg) (h : SH) (x : Nums) (nm : ByteArray) (d : Value) (w : World) (hn : 0 ≤ S.x.nx ∧ S.x.nx ≤ 32) (hk : (x.k == 7) = false) (ha : S.x.atEnd = false) : Calls Tryz.prog 105 #[sv S h, rv x nm d] w fun e w' => e = .returned (.bool (S.x.onTurn x.k x.p)) ∧ Below w.heap.size w w' := by
  have HA0 : ∀ w', Calls Tryz.prog 55 #[sv S h] w' fun e w'' => e = .returned (.bool false) ∧ Below w'.heap.size w' w'' := fun w' => by rw [← ha]; exact atEnd_any S h w'
  have HU0 : ∀ w', Calls Tryz.prog 57 #[sv S h] w' fun e w'' => e = .returned (.int .i64 S.x.turn) ∧ Below w'.heap.size w' w'' := fun w' => turn_any S h w' hn
  have H0 : Hid (S.x.onTurn x.k x.p = (x.p == S.x.turn)) := by show _ = _; unfold SN.onTurn; rw [if_neg (by simpa using hk), ha]; rfl
  rw [H0.out]
  clear hn ha H0
  obtain ⟨D, hD, hL, hE⟩ := sv_letter S h
  obtain ⟨E, hD2, hL2, hE2⟩ := rv_letter x nm d
  rw [hD, hD2]
  try rw [hD] at HA0
  try rw [hD2] at HA0
  try rw [hD] at HU0
  try rw [hD2] at HU0
  have HA : Hid _ := HA0
  have HU : Hid _ := HU0
  have HL : Hid _ := hL
  have HE : Hid (D = scl S h) := hE
  have HL2 : Hid _ := hL2
  have HE2 : Hid (E = rcE x nm d) := hE2
  have HX : Hid (∀ t t2, ((w.alloc (.cells D.toArray t)).alloc (.cells E.toArray t2)).rangeAt w.heap.size 0 D ∧ ((w.alloc (.cells D.toArray t)).alloc (.cells E.toArray t2)).rangeAt (w.heap.size + 1) 0 E ∧ Below w.heap.size w ((w.alloc (.cells D.toArray t)).alloc (.cells E.toArray t2))) := fun t t2 => boxed2 w D E t t2
  clear hD hL hE hD2 hL2 hE2 HA0 HU0
  have r1 : ∀ t t2, ((w.alloc (.cells D.toArray t)).alloc (.cells E.toArray t2)).cell? ⟨w.heap.size + 1, 1, none⟩ = some (.int .i64 x.k) := fun t t2 => range_cell (HX.out t t2).2.1 1 _ (by rw [HE2.out]; rfl)
  have HR : Hid (∀ w' : World, w'.rangeAt (w.heap.size + 1) 0 E → w'.cell? ⟨w.heap.size + 1, 3, none⟩ = some (.int .i64 x.p)) := fun w' hr => range_cell hr 3 _ (by rw [HE2.out]; rfl)
  go_enter Tryz.func105, Tryz.ntmps105
  go_wp2_with fail
  refine wp_region_held_drew (S := fun w' : World => w'.rangeAt w.heap.size 0 D ∧ w'.rangeAt (w.heap.size + 1) 0 E ∧ w'.cell? ⟨w.heap.size + 1, 3, none⟩ = some (.int .i64 x.p) ∧ Below w.heap.size w w') (by kernel_rfl) ?_ (fun hH => ?_)
  · exact ⟨range_kept (HX.out _ _).1 (Below.drew (Below.refl _ _)), range_kept (HX.out _ _).2.1 (Below.drew (Below.refl _ _)), HR.out _ (range_kept (HX.out _ _).2.1 (Below.drew (Below.refl _ _))), Below.drew (HX.out _ _).2.2⟩
  refine wpAnyH_take (i := 0) rfl (by kernel_rfl) (by kernel_rfl) (by kernel_rfl) (fun _ _ _ h => h) (yieldsIf_load_mid (by rfl) _ _ rfl _ _ rfl D _ (fun w' hSw => hSw.1) Tryz.underlying43 rfl HL.out) hH ?_
  simp only [Act.put, List.setIfInBounds_toArray, List.set_cons_zero, List.set_cons_succ, List.getElem_toArray, List.getElem_cons_zero]
  refine wpAnyH_ready (rs := [1]) (by kernel_rfl) (by simp) ?_
  refine AllReadyH.cons rfl (fun K hK => ?_) AllReadyH.nil
  go_simp
  refine (HA.out _).mono ?_
  rintro e w1 ⟨rfl, b1⟩
  refine hK.out _ _ ?_ (fun hH2 => ?_)
  · exact ⟨range_kept hH.1 b1, range_kept hH.2.1 b1, HR.out _ (range_kept hH.2.1 b1), andThen hH.2.2.2 b1⟩
  clear hK K hH
  have hH := hH2
  clear hH2
  refine wpAnyH_take (i := 2) (v := ?v5) rfl (by kernel_rfl) (by kernel_rfl) (by kernel_rfl) (fun _ _ _ h => h) (Or.inl ⟨by rfl, ?hy5⟩) hH ?rest5
  case hy5 => intro w' hSw; (try dsimp only at hSw); go_simp; all_goals rfl
  simp only [Act.put, List.setIfInBounds_toArray, List.set_cons_zero, List.set_cons_succ, List.getElem_toArray, List.getElem_cons_zero, List.getElem_cons_succ]
  refine wpAnyH_take (i := 3) (v := ?v6) rfl (by kernel_rfl) (by kernel_rfl) (by kernel_rfl) (fun _ _ _ h => h) (Or.inl ⟨by rfl, ?hy6⟩) hH ?rest6
  case hy6 => intro w' hSw; (try dsimp only at hSw); go_simp; all_goals rfl
  simp only [Act.put, List.setIfInBounds_toArray, List.set_cons_zero, List.set_cons_succ, List.getElem_toArray, List.getElem_cons_zero, List.getElem_cons_succ]
  refine wpAnyH_take (i := 4) (v := ?v7) rfl (by kernel_rfl) (by kernel_rfl) (by kernel_rfl) (fun _ _ _ h => h) (Or.inl ⟨by rfl, ?hy7⟩) hH ?rest7
  case hy7 => intro w' hSw; (try dsimp only at hSw); go_simp; all_goals rfl
  simp only [Act.put, List.setIfInBounds_toArray, List.set_cons_zero, List.set_cons_succ, List.getElem_toArray, List.getElem_cons_zero, List.getElem_cons_succ]
  refine wpAnyH_take (i := 5) (v := ?v8) rfl (by kernel_rfl) (by kernel_rfl) (by kernel_rfl) (fun _ _ _ h => h) (Or.inl ⟨by rfl, ?hy8⟩) hH ?rest8
  case hy8 => intro w' hSw; (try dsimp only at hSw); go_simp; all_goals rfl
  simp only [Act.put, List.setIfInBounds_toArray, List.set_cons_zero, List.set_cons_succ, List.getElem_toArray, List.getElem_cons_zero, List.getElem_cons_succ]
  refine wpAnyH_take (i := 6) rfl (by kernel_rfl) (by kernel_rfl) (by kernel_rfl) (fun _ _ _ h => h) (yieldsIf_load_mid (by rfl) _ _ rfl _ _ rfl D _ (fun w' hSw => hSw.1) Tryz.underlying43 rfl HL.out) hH ?_
  simp only [Act.put, List.setIfInBounds_toArray, List.set_cons_zero, List.set_cons_succ, List.getElem_toArray, List.getElem_cons_zero, List.getElem_cons_succ]
  refine wpAnyH_ready (rs := [7]) (by kernel_rfl) (by simp) ?_
  refine AllReadyH.cons rfl (fun K hK => ?_) AllReadyH.nil
  go_simp
  refine (HU.out _).mono ?_
  rintro e w2 ⟨rfl, b2⟩
  refine hK.out _ _ ?_ (fun hH2 => ?_)
  · exact ⟨range_kept hH.1 b2, range_kept hH.2.1 b2, HR.out _ (range_kept hH.2.1 b2), andThen hH.2.2.2 b2⟩
  clear hK K hH
  have hH := hH2
  clear hH2
  refine wpAnyH_take (i := 8) (v := ?v9) rfl (by kernel_rfl) (by kernel_rfl) (by kernel_rfl) (fun _ _ _ h => h) (Or.inl ⟨by rfl, ?hy9⟩) hH ?rest9
  case hy9 => intro w' hSw; (try dsimp only at hSw); go_simp; all_goals rfl
  simp only [Act.put, List.setIfInBounds_toArray, List.set_cons_zero, List.set_cons_succ, List.getElem_toArray, List.getElem_cons_zero, List.getElem_cons_succ]
  refine wpAnyH_take (i := 9) (v := ?v10) rfl (by kernel_rfl) (by kernel_rfl) (by kernel_rfl) (fun _ _ _ h => h) (Or.inl ⟨by rfl, ?hy10⟩) hH ?rest10
  case hy10 => intro w' hSw; (try dsimp only at hSw); go_simp; all_goals rfl
  simp only [Act.put, List.setIfInBounds_toArray, List.set_cons_zero, List.set_cons_succ, List.getElem_toArray, List.getElem_cons_zero, List.getElem_cons_succ]
  refine wpAnyH_take (i := 10) (v := ?v11) rfl (by kernel_rfl) (by kernel_rfl) (by kernel_rfl) (fun _ _ _ h => h) (Or.inl ⟨by rfl, ?hy11⟩) hH ?rest11
  case hy11 => intro w' hSw; (try dsimp only at hSw); go_simp; all_goals rfl
  simp only [Act.put, List.setIfInBounds_toArray, List.set_cons_zero, List.set_cons_succ, List.getElem_toArray, List.getElem_cons_zero, List.getElem_cons_succ]
  refine wpAnyH_done (by kernel_rfl) ?_ _
  have BF := hH.2.2.2
  clear hH
  go_wp2
  go_ret
  exact ⟨rfl, BF⟩
theorem onTurn_any (S : Sg) (h : SH) (x : Nums) (nm : ByteArray) (d : Value) (w : World) (hn : 0 ≤ S.x.nx ∧ S.x.nx ≤ 32) : Calls Tryz.prog 105 #[sv S h, rv x nm d] w fun e w' => e = .returned (.bool (S.x.onTurn x.k x.p)) ∧ Below w.heap.size w w' := by
  by_cases hk : x.k = 7
  · exact onTurn_end S h x nm d w hk
  · cases ha : S.x.atEnd with
    | true => exact onTurn_t S h x nm d w (by rw [beq_eq_false_iff_ne]; exact hk) ha
    | false => exact onTurn_f S h x nm d w hn (by rw [beq_eq_false_iff_ne]; exact hk) ha
end Go.Proofs.YtdnackjakfiffaaGreatDoor
