import Derived.RegionTactic
import Derived.Test.YtdnackjakfiffaaGreatDoorQS6
import Derived.Test.YtdnackjakfiffaaGreatDoorQS2
/-
  Package saga: start, fail, end.
-/
namespace Go.Proofs.YtdnackjakfiffaaGreatDoor
open Go Go.RowKit
open Wb

/-- a record's box behind what was there -/
theorem lb_rec (w : World) (g : Nat) (t t2 : TypeId) (C E : List Value) (L : LB w g t C) : LB (w.alloc (.cells E.toArray t2)) g t C ∧ LB (w.alloc (.cells E.toArray t2)) w.heap.size t2 E ∧ Below w.heap.size w (w.alloc (.cells E.toArray t2)) := ⟨L.kept (up0 _ _), lb_new _ _ _, up0 _ _⟩
theorem below_le {a b : Nat} {w w' : World} (h : Below a w w') (hb : b ≤ a) : Below b w w' := h.mono hb

set_option maxRecDepth 100000 in
set_option maxHeartbeats 2000000 in
theorem start_any (S : Sg) (h : SH) (x : Nums) (nm : ByteArray) (d : Value) (g : Nat) (w : World) (L : LB w g 126 (scl S h)) : Calls Tryz.prog 107 #[.pointer (some ⟨g, 0, none⟩), rv x nm d] w fun e w' => e = .returned (.tuple #[]) ∧ LB w' g 126 (scl { S with x := { S.x with fl := true, tr := x.t } } h) ∧ Below g w w' := by
  obtain ⟨E, hD2, hL2, hE2⟩ := rv_letter x nm d
  rw [hD2]
  obtain ⟨C, hC⟩ : ∃ C, scl S h = C := ⟨_, rfl⟩
  rw [hC] at L
  have HC : Hid (C = scl S h) := hC.symm
  have HE2 : Hid (E = rcE x nm d) := hE2
  have hg : g ≠ w.heap.size := Nat.ne_of_lt L.lt
  have hg2 : w.heap.size ≠ g := Ne.symm hg
  have HX : Hid (∀ t, LB (w.alloc (.cells E.toArray t)) g 126 C ∧ LB (w.alloc (.cells E.toArray t)) w.heap.size t E ∧ Below w.heap.size w (w.alloc (.cells E.toArray t))) := fun t => lb_rec w g _ t C E L
  have HLT : Hid (g ≤ w.heap.size) := Nat.le_of_lt L.lt
  clear hD2 hL2 hE2 hC L
  go_enter Tryz.func107, Tryz.ntmps107
  go_wp2
  have HX1 : Hid _ := HX.out 32
  clear HX
  generalize w.alloc (.cells E.toArray 32) = W1 at HX1 ⊢
  have c9 := HX1.out.1.cell 9 (.bool S.x.fl) (by rw [HC.out]; rfl)
  have f9 := HX1.out.1.free 9
  have c10 := HX1.out.1.cell 10 (.int .i64 S.x.tr) (by rw [HC.out]; rfl)
  have f10 := HX1.out.1.free 10
  have r4 := HX1.out.2.1.cell 4 (.int .i64 x.t) (by rw [HE2.out]; rfl)
  go_region
  go_wp2
  go_end0
  exact ⟨rfl, by have e := ((HX1.out.1.set 9 (.bool true)).set 10 (.int .i64 x.t)); rw [HC.out] at e; exact e, Below.drew (Below.setCell (Below.setCell (below_le HX1.out.2.2 HLT.out) (Nat.le_refl _) _) (Nat.le_refl _) _)⟩
set_option maxRecDepth 100000 in
set_option maxHeartbeats 2000000 in
theorem end1_any (S : Sg) (h : SH) (x : Nums) (nm : ByteArray) (d : Value) (g : Nat) (w : World) (L : LB w g 126 (scl S h)) (hp : (S.x.ph == 1) = true) : Calls Tryz.prog 111 #[.pointer (some ⟨g, 0, none⟩), rv x nm d] w fun e w' => e = .returned (.tuple #[]) ∧ LB w' g 126 (scl { S with x := { S.x with ph := 3 } } h) ∧ Below g w w' := by
  obtain ⟨E, hD2, hL2, hE2⟩ := rv_letter x nm d
  rw [hD2]
  obtain ⟨C, hC⟩ : ∃ C, scl S h = C := ⟨_, rfl⟩
  rw [hC] at L
  have HC : Hid (C = scl S h) := hC.symm
  have HE2 : Hid (E = rcE x nm d) := hE2
  have hg : g ≠ w.heap.size := Nat.ne_of_lt L.lt
  have hg2 : w.heap.size ≠ g := Ne.symm hg
  have HX : Hid (∀ t, LB (w.alloc (.cells E.toArray t)) g 126 C ∧ LB (w.alloc (.cells E.toArray t)) w.heap.size t E ∧ Below w.heap.size w (w.alloc (.cells E.toArray t))) := fun t => lb_rec w g _ t C E L
  have HLT : Hid (g ≤ w.heap.size) := Nat.le_of_lt L.lt
  clear hD2 hL2 hE2 hC L
  go_enter Tryz.func111, Tryz.ntmps111
  have HX1 : Hid _ := HX.out 32
  have c7 := HX1.out.1.cell 7 (.int .i64 S.x.ph) (by rw [HC.out]; rfl)
  have f7 := HX1.out.1.free 7
  clear HX
  go_wp2
  go_end0
  exact ⟨rfl, by have e := (HX1.out.1.set 7 (.int .i64 3)); rw [HC.out] at e; exact e, Below.setCell (below_le HX1.out.2.2 HLT.out) (Nat.le_refl _) _⟩
set_option maxRecDepth 100000 in
set_option maxHeartbeats 2000000 in
theorem end2_any (S : Sg) (h : SH) (x : Nums) (nm : ByteArray) (d : Value) (g : Nat) (w : World) (L : LB w g 126 (scl S h)) (hp : (S.x.ph == 1) = false) : Calls Tryz.prog 111 #[.pointer (some ⟨g, 0, none⟩), rv x nm d] w fun e w' => e = .returned (.tuple #[]) ∧ LB w' g 126 (scl { S with x := { S.x with ph := 4 } } h) ∧ Below g w w' := by
  obtain ⟨E, hD2, hL2, hE2⟩ := rv_letter x nm d
  rw [hD2]
  obtain ⟨C, hC⟩ : ∃ C, scl S h = C := ⟨_, rfl⟩
  rw [hC] at L
  have HC : Hid (C = scl S h) := hC.symm
  have HE2 : Hid (E = rcE x nm d) := hE2
  have hg : g ≠ w.heap.size := Nat.ne_of_lt L.lt
  have hg2 : w.heap.size ≠ g := Ne.symm hg
  have HX : Hid (∀ t, LB (w.alloc (.cells E.toArray t)) g 126 C ∧ LB (w.alloc (.cells E.toArray t)) w.heap.size t E ∧ Below w.heap.size w (w.alloc (.cells E.toArray t))) := fun t => lb_rec w g _ t C E L
  have HLT : Hid (g ≤ w.heap.size) := Nat.le_of_lt L.lt
  clear hD2 hL2 hE2 hC L
  go_enter Tryz.func111, Tryz.ntmps111
  have HX1 : Hid _ := HX.out 32
  have c7 := HX1.out.1.cell 7 (.int .i64 S.x.ph) (by rw [HC.out]; rfl)
  have f7 := HX1.out.1.free 7
  clear HX
  go_wp2
  go_end0
  exact ⟨rfl, by have e := (HX1.out.1.set 7 (.int .i64 4)); rw [HC.out] at e; exact e, Below.setCell (below_le HX1.out.2.2 HLT.out) (Nat.le_refl _) _⟩
set_option maxRecDepth 100000 in
set_option maxHeartbeats 2000000 in
theorem fail0_any (S : Sg) (h : SH) (x : Nums) (nm : ByteArray) (d : Value) (g : Nat) (w : World) (L : LB w g 126 (scl S h)) (hp : (x.l == 0) = true) : Calls Tryz.prog 109 #[.pointer (some ⟨g, 0, none⟩), rv x nm d] w fun e w' => e = .returned (.tuple #[]) ∧ LB w' g 126 (scl { S with x := { S.x with fl := false } } h) ∧ Below g w w' := by
  obtain ⟨E, hD2, hL2, hE2⟩ := rv_letter x nm d
  rw [hD2]
  obtain ⟨C, hC⟩ : ∃ C, scl S h = C := ⟨_, rfl⟩
  rw [hC] at L
  have HC : Hid (C = scl S h) := hC.symm
  have HE2 : Hid (E = rcE x nm d) := hE2
  have hg : g ≠ w.heap.size := Nat.ne_of_lt L.lt
  have hg2 : w.heap.size ≠ g := Ne.symm hg
  have HX : Hid (∀ t, LB (w.alloc (.cells E.toArray t)) g 126 C ∧ LB (w.alloc (.cells E.toArray t)) w.heap.size t E ∧ Below w.heap.size w (w.alloc (.cells E.toArray t))) := fun t => lb_rec w g _ t C E L
  have HLT : Hid (g ≤ w.heap.size) := Nat.le_of_lt L.lt
  clear hD2 hL2 hE2 hC L
  go_enter Tryz.func109, Tryz.ntmps109
  have HX1 : Hid _ := HX.out 32
  have c9 := HX1.out.1.cell 9 (.bool S.x.fl) (by rw [HC.out]; rfl)
  have f9 := HX1.out.1.free 9
  have r6 := HX1.out.2.1.cell 6 (.int .i64 x.l) (by rw [HE2.out]; rfl)
  clear HX
  go_wp2
  refine bodyPost_ret (results_none rfl _ _ _) rfl ?_
  exact ⟨rfl, by have e := (HX1.out.1.set 9 (.bool false)); rw [HC.out] at e; exact e, Below.setCell (below_le HX1.out.2.2 HLT.out) (Nat.le_refl _) _⟩
set_option maxRecDepth 100000 in
set_option maxHeartbeats 2000000 in
theorem fail1_any (S : Sg) (h : SH) (x : Nums) (nm : ByteArray) (ad : Option Addr) (l : List Nat) (cd : Nat) (g : Nat) (w : World) (L : LB w g 126 (scl S h)) (hp : (x.l == 0) = false) : Calls Tryz.prog 109 #[.pointer (some ⟨g, 0, none⟩), rv x nm (.slice ad l.length cd)] w fun e w' => e = .returned (.tuple #[]) ∧ LB w' g 126 (scl { S with x := { S.x with fl := false, tr := 0, ph := 2, fs := x.p, fc := x.c }, fail := l } { h with af := ad, cf := cd }) ∧ Below g w w' := by
  obtain ⟨E, hD2, hL2, hE2⟩ := rv_letter x nm (.slice ad l.length cd)
  rw [hD2]
  obtain ⟨C, hC⟩ : ∃ C, scl S h = C := ⟨_, rfl⟩
  rw [hC] at L
  have HC : Hid (C = scl S h) := hC.symm
  have HE2 : Hid (E = rcE x nm (.slice ad l.length cd)) := hE2
  have hg : g ≠ w.heap.size := Nat.ne_of_lt L.lt
  have hg2 : w.heap.size ≠ g := Ne.symm hg
  have HX : Hid (∀ t, LB (w.alloc (.cells E.toArray t)) g 126 C ∧ LB (w.alloc (.cells E.toArray t)) w.heap.size t E ∧ Below w.heap.size w (w.alloc (.cells E.toArray t))) := fun t => lb_rec w g _ t C E L
  have HLT : Hid (g ≤ w.heap.size) := Nat.le_of_lt L.lt
  clear hD2 hL2 hE2 hC L
  go_enter Tryz.func109, Tryz.ntmps109
  have HX1 : Hid _ := HX.out 32
  clear HX
  have c9 := HX1.out.1.cell 9 (.bool S.x.fl) (by rw [HC.out]; rfl)
  have f9 := HX1.out.1.free 9
  have c10 := HX1.out.1.cell 10 (.int .i64 S.x.tr) (by rw [HC.out]; rfl)
  have f10 := HX1.out.1.free 10
  have c7 := HX1.out.1.cell 7 (.int .i64 S.x.ph) (by rw [HC.out]; rfl)
  have f7 := HX1.out.1.free 7
  have c13 := HX1.out.1.cell 13 (.int .i64 S.x.fs) (by rw [HC.out]; rfl)
  have f13 := HX1.out.1.free 13
  have c14 := HX1.out.1.cell 14 (.int .i64 S.x.fc) (by rw [HC.out]; rfl)
  have f14 := HX1.out.1.free 14
  have c15 := HX1.out.1.cell 15 (.slice h.af S.fail.length h.cf) (by rw [HC.out]; rfl)
  have f15 := HX1.out.1.free 15
  have r6 := HX1.out.2.1.cell 6 (.int .i64 x.l) (by rw [HE2.out]; rfl)
  have r3 := HX1.out.2.1.cell 3 (.int .i64 x.p) (by rw [HE2.out]; rfl)
  have r7 := HX1.out.2.1.cell 7 (.int .i64 x.c) (by rw [HE2.out]; rfl)
  have r11 := HX1.out.2.1.cell 11 (.slice ad l.length cd) (by rw [HE2.out]; rfl)
  go_wp2
  have HX2 : Hid _ := HX1.out
  have HW : Hid (∃ W2, W2 = ((((w.alloc (.cells E.toArray 32)).setCell ⟨g, 9, none⟩ (.bool false)).setCell ⟨g, 10, none⟩ (.int .i64 0)).setCell ⟨g, 7, none⟩ (.int .i64 2)) ∧ LB W2 g 126 (((C.set 9 (.bool false)).set 10 (.int .i64 0)).set 7 (.int .i64 2)) ∧ LB W2 w.heap.size 32 E ∧ Below g w W2) := ⟨_, rfl, ((HX1.out.1.set _ _).set _ _).set _ _, ((HX1.out.2.1.other _ _ hg2).other _ _ hg2).other _ _ hg2, Below.setCell (Below.setCell (Below.setCell (below_le HX1.out.2.2 HLT.out) (Nat.le_refl _) _) (Nat.le_refl _) _) (Nat.le_refl _) _⟩
  obtain ⟨W2, hW2, l1, l2, b2⟩ := HW.out
  rw [← hW2]
  clear hW2 HW HX1 HX2 c9 f9 c10 f10 c7 f7 c13 f13 c14 f14 c15 f15 r6 r3 r7 r11
  obtain ⟨C2, hC2⟩ : ∃ C2, ((C.set 9 (.bool false)).set 10 (.int .i64 0)).set 7 (.int .i64 2) = C2 := ⟨_, rfl⟩
  rw [hC2] at l1
  have HC2 : Hid (C2 = scl { S with x := { S.x with fl := false, tr := 0, ph := 2 } } h) := by show _ = _; rw [← hC2, HC.out]; rfl
  clear hC2 HC
  refine wp_region_held_drew (S := fun w' : World => w'.cell? ⟨w.heap.size, 3, none⟩ = some (.int .i64 x.p) ∧ w'.cell? ⟨w.heap.size, 7, none⟩ = some (.int .i64 x.c) ∧ w'.cell? ⟨w.heap.size, 11, none⟩ = some (.slice ad l.length cd)) (by kernel_rfl) ?_ (fun hH => ?_)
  · exact ⟨(l2.kept (Below.drew (Below.refl _ _))).cell 3 _ (by rw [HE2.out]; rfl), (l2.kept (Below.drew (Below.refl _ _))).cell 7 _ (by rw [HE2.out]; rfl), (l2.kept (Below.drew (Below.refl _ _))).cell 11 _ (by rw [HE2.out]; rfl)⟩
  have HL1 : Hid (LB W2.drew g 126 C2 ∧ LB W2.drew w.heap.size 32 E ∧ Below g w W2.drew) := ⟨l1.kept (Below.drew (Below.refl _ _)), l2.kept (Below.drew (Below.refl _ _)), Below.drew b2⟩
  clear l1 l2 b2
  generalize W2.drew = W3 at *
  have c13 := HL1.out.1.cell 13 (.int .i64 S.x.fs) (by rw [HC2.out]; rfl)
  have f13 := HL1.out.1.free 13
  have c14 := HL1.out.1.cell 14 (.int .i64 S.x.fc) (by rw [HC2.out]; rfl)
  have f14 := HL1.out.1.free 14
  have c15 := HL1.out.1.cell 15 (.slice h.af S.fail.length h.cf) (by rw [HC2.out]; rfl)
  have f15 := HL1.out.1.free 15
  refine wpAnyH_take (i := 0) (v := ?v1) rfl (by kernel_rfl) (by kernel_rfl) (by kernel_rfl) (fun _ _ _ h => h) (Or.inl ⟨by rfl, ?hy1⟩) hH ?rest1
  case hy1 => intro w' hSw; (try dsimp only at hSw); go_simp; all_goals rfl
  simp only [Act.put, List.setIfInBounds_toArray, List.set_cons_zero, List.set_cons_succ, List.getElem_toArray, List.getElem_cons_zero]
  refine wpAnyH_take (i := 1) (v := ?v2) rfl (by kernel_rfl) (by kernel_rfl) (by kernel_rfl) (fun _ _ _ h => h) (Or.inl ⟨by rfl, ?hy2⟩) hH ?rest2
  case hy2 => intro w' hSw; (try dsimp only at hSw); go_simp; all_goals rfl
  simp only [Act.put, List.setIfInBounds_toArray, List.set_cons_zero, List.set_cons_succ, List.getElem_toArray, List.getElem_cons_zero, List.getElem_cons_succ]
  refine wpAnyH_take (i := 2) (v := ?v3) rfl (by kernel_rfl) (by kernel_rfl) (by kernel_rfl) (fun _ _ _ h => h) (Or.inl ⟨by rfl, ?hy3⟩) hH ?rest3
  case hy3 => intro w' hSw; (try dsimp only at hSw); go_simp; all_goals rfl
  simp only [Act.put, List.setIfInBounds_toArray, List.set_cons_zero, List.set_cons_succ, List.getElem_toArray, List.getElem_cons_zero, List.getElem_cons_succ]
  refine wpAnyH_take (i := 3) (v := ?v4) rfl (by kernel_rfl) (by kernel_rfl) (by kernel_rfl) (fun _ _ _ h => h) (Or.inl ⟨by rfl, ?hy4⟩) hH ?rest4
  case hy4 => intro w' hSw; (try dsimp only at hSw); go_simp; all_goals rfl
  simp only [Act.put, List.setIfInBounds_toArray, List.set_cons_zero, List.set_cons_succ, List.getElem_toArray, List.getElem_cons_zero, List.getElem_cons_succ]
  refine wpAnyH_take (i := 4) (v := ?v5) rfl (by kernel_rfl) (by kernel_rfl) (by kernel_rfl) (fun _ _ _ h => h) (Or.inl ⟨by rfl, ?hy5⟩) hH ?rest5
  case hy5 => intro w' hSw; (try dsimp only at hSw); go_simp; all_goals rfl
  simp only [Act.put, List.setIfInBounds_toArray, List.set_cons_zero, List.set_cons_succ, List.getElem_toArray, List.getElem_cons_zero, List.getElem_cons_succ]
  refine wpAnyH_take (i := 5) (v := ?v6) rfl (by kernel_rfl) (by kernel_rfl) (by kernel_rfl) (fun _ _ _ h => h) (Or.inl ⟨by rfl, ?hy6⟩) hH ?rest6
  case hy6 => intro w' hSw; (try dsimp only at hSw); go_simp; all_goals rfl
  simp only [Act.put, List.setIfInBounds_toArray, List.set_cons_zero, List.set_cons_succ, List.getElem_toArray, List.getElem_cons_zero, List.getElem_cons_succ]
  refine wpAnyH_take (i := 6) (v := ?v7) rfl (by kernel_rfl) (by kernel_rfl) (by kernel_rfl) (fun _ _ _ h => h) (Or.inl ⟨by rfl, ?hy7⟩) hH ?rest7
  case hy7 => intro w' hSw; (try dsimp only at hSw); go_simp; all_goals rfl
  simp only [Act.put, List.setIfInBounds_toArray, List.set_cons_zero, List.set_cons_succ, List.getElem_toArray, List.getElem_cons_zero, List.getElem_cons_succ]
  refine wpAnyH_take (i := 7) (v := ?v8) rfl (by kernel_rfl) (by kernel_rfl) (by kernel_rfl) (fun _ _ _ h => h) (Or.inl ⟨by rfl, ?hy8⟩) hH ?rest8
  case hy8 => intro w' hSw; (try dsimp only at hSw); go_simp; all_goals rfl
  simp only [Act.put, List.setIfInBounds_toArray, List.set_cons_zero, List.set_cons_succ, List.getElem_toArray, List.getElem_cons_zero, List.getElem_cons_succ]
  refine wpAnyH_take (i := 8) (v := ?v9) rfl (by kernel_rfl) (by kernel_rfl) (by kernel_rfl) (fun _ _ _ h => h) (Or.inl ⟨by rfl, ?hy9⟩) hH ?rest9
  case hy9 => intro w' hSw; (try dsimp only at hSw); go_simp; all_goals rfl
  simp only [Act.put, List.setIfInBounds_toArray, List.set_cons_zero, List.set_cons_succ, List.getElem_toArray, List.getElem_cons_zero, List.getElem_cons_succ]
  refine wpAnyH_take (i := 9) (v := ?v10) rfl (by kernel_rfl) (by kernel_rfl) (by kernel_rfl) (fun _ _ _ h => h) (Or.inl ⟨by rfl, ?hy10⟩) hH ?rest10
  case hy10 => intro w' hSw; (try dsimp only at hSw); go_simp; all_goals rfl
  simp only [Act.put, List.setIfInBounds_toArray, List.set_cons_zero, List.set_cons_succ, List.getElem_toArray, List.getElem_cons_zero, List.getElem_cons_succ]
  refine wpAnyH_take (i := 10) (v := ?v11) rfl (by kernel_rfl) (by kernel_rfl) (by kernel_rfl) (fun _ _ _ h => h) (Or.inl ⟨by rfl, ?hy11⟩) hH ?rest11
  case hy11 => intro w' hSw; (try dsimp only at hSw); go_simp; all_goals rfl
  simp only [Act.put, List.setIfInBounds_toArray, List.set_cons_zero, List.set_cons_succ, List.getElem_toArray, List.getElem_cons_zero, List.getElem_cons_succ]
  refine wpAnyH_ready (rs := [11]) (by kernel_rfl) (by simp) ?_
  refine AllReadyH.cons rfl (fun K hK => ?_) AllReadyH.nil
  go_simp
  refine hK.out _ _ ?_ (fun hH2 => ?_)
  · exact ⟨by simp [World.cell?_setCell_far, hg, hH.1], by simp [World.cell?_setCell_far, hg, hH.2.1], by simp [World.cell?_setCell_far, hg, hH.2.2]⟩
  clear hK K hH
  have hH := hH2
  clear hH2
  refine wpAnyH_take (i := 12) (v := ?v12) rfl (by kernel_rfl) (by kernel_rfl) (by kernel_rfl) (fun _ _ _ h => h) (Or.inl ⟨by rfl, ?hy12⟩) hH ?rest12
  case hy12 => intro w' hSw; (try dsimp only at hSw); go_simp; all_goals rfl
  simp only [Act.put, List.setIfInBounds_toArray, List.set_cons_zero, List.set_cons_succ, List.getElem_toArray, List.getElem_cons_zero, List.getElem_cons_succ]
  refine wpAnyH_take (i := 13) (v := ?v13) rfl (by kernel_rfl) (by kernel_rfl) (by kernel_rfl) (fun _ _ _ h => h) (Or.inl ⟨by rfl, ?hy13⟩) hH ?rest13
  case hy13 => intro w' hSw; (try dsimp only at hSw); go_simp; all_goals rfl
  simp only [Act.put, List.setIfInBounds_toArray, List.set_cons_zero, List.set_cons_succ, List.getElem_toArray, List.getElem_cons_zero, List.getElem_cons_succ]
  refine wpAnyH_ready (rs := [14]) (by kernel_rfl) (by simp) ?_
  refine AllReadyH.cons rfl (fun K hK => ?_) AllReadyH.nil
  go_simp
  refine hK.out _ _ ?_ (fun hH2 => ?_)
  · exact ⟨by simp [World.cell?_setCell_far, hg, hH.1], by simp [World.cell?_setCell_far, hg, hH.2.1], by simp [World.cell?_setCell_far, hg, hH.2.2]⟩
  clear hK K hH
  have hH := hH2
  clear hH2
  refine wpAnyH_take (i := 15) (v := ?v14) rfl (by kernel_rfl) (by kernel_rfl) (by kernel_rfl) (fun _ _ _ h => h) (Or.inl ⟨by rfl, ?hy14⟩) hH ?rest14
  case hy14 => intro w' hSw; (try dsimp only at hSw); go_simp; all_goals rfl
  simp only [Act.put, List.setIfInBounds_toArray, List.set_cons_zero, List.set_cons_succ, List.getElem_toArray, List.getElem_cons_zero, List.getElem_cons_succ]
  refine wpAnyH_take (i := 16) (v := ?v15) rfl (by kernel_rfl) (by kernel_rfl) (by kernel_rfl) (fun _ _ _ h => h) (Or.inl ⟨by rfl, ?hy15⟩) hH ?rest15
  case hy15 => intro w' hSw; (try dsimp only at hSw); go_simp; all_goals rfl
  simp only [Act.put, List.setIfInBounds_toArray, List.set_cons_zero, List.set_cons_succ, List.getElem_toArray, List.getElem_cons_zero, List.getElem_cons_succ]
  refine wpAnyH_ready (rs := [17]) (by kernel_rfl) (by simp) ?_
  refine AllReadyH.cons rfl (fun K hK => ?_) AllReadyH.nil
  go_simp
  refine hK.out _ _ ?_ (fun hH2 => ?_)
  · exact ⟨by simp [World.cell?_setCell_far, hg, hH.1], by simp [World.cell?_setCell_far, hg, hH.2.1], by simp [World.cell?_setCell_far, hg, hH.2.2]⟩
  clear hK K hH
  have hH := hH2
  clear hH2
  refine wpAnyH_done (by kernel_rfl) ?_ _
  clear hH
  go_wp2
  go_end0
  exact ⟨rfl, by have e := ((HL1.out.1.set 13 (.int .i64 x.p)).set 14 (.int .i64 x.c)).set 15 (.slice ad l.length cd); rw [HC2.out] at e; exact e, Below.setCell (Below.setCell (Below.setCell HL1.out.2.2 (Nat.le_refl _) _) (Nat.le_refl _) _) (Nat.le_refl _) _⟩
end Go.Proofs.YtdnackjakfiffaaGreatDoor

/-
  Package saga: done, undone.
-/
namespace Go.Proofs.YtdnackjakfiffaaGreatDoor
open Go Go.RowKit
open Wb

/-- but for block g and a row nothing that was there below g is another, and nothing at all below B -/
structure But (B g : Nat) (row : Option Nat) (w w' : World) : Prop where
  below : Below B w w'
  rest : ∀ b, b < g → row ≠ some b → w'.heap[b]? = w.heap[b]?
theorem own_other {B g : Nat} {row : Option Nat} {w w' : World} {d : Value} {l : List Nat} (h : Own B w d l) (hb : But B g row w w') (h1 : ∀ b, d.ownBlock = some b → b < g ∧ row ≠ some b) : Own B w' d l := own_keptB h fun b e => hb.rest b (h1 b e).1 (h1 b e).2
theorem ownp_other {B g : Nat} {row : Option Nat} {w w' : World} {v : Value} {ls : List (List Nat)} (h : OwnP B w v ls) (hb : But B g row w w') (hg : w.heap.size ≤ g + 1) (hgv : v.ownBlock ≠ some g) (h1 : row ≠ v.ownBlock ∨ v.ownBlock = none) (h2 : ∀ b, row = some b → ∃ cs z, w.heap[b]? = some (.cells cs 30 z)) (h3 : ∃ cs, w.heap[g]? = some (.cells cs 126)) : OwnP B w' v ls := by
  obtain ⟨vs, r1, r2, r3⟩ := h
  refine ⟨vs, row_kept2 r1 fun b e => hb.rest b ?_ ?_, r2, fun j a b => own_keptB (r3 j a b) fun c e => hb.rest c ?_ ?_⟩
  · have := (row_block r1 b e).2
    have h9 : b ≠ g := fun e2 => hgv (by rw [e, e2])
    omega
  · intro e2
    rcases h1 with h1 | h1
    · exact h1 (by rw [e, e2])
    · rw [h1] at e; cases e
  · have h8 := (own_block (r3 j a b) c e).2
    have h9 : c ≠ g := by
      rintro rfl
      obtain ⟨cs, h3⟩ := h3
      rcases (r3 j a b).row.2 with ⟨e3, _⟩ | ⟨g', cap, cur, e3, _, hg', _⟩
      · rw [e3] at e; simp [Value.ownBlock] at e
      · rw [e3] at e; simp [Value.ownBlock] at e; subst e; rw [hg'] at h3; simp at h3
    omega
  · intro e2
    obtain ⟨cs, z, h4⟩ := h2 c e2
    rcases (r3 j a b).row.2 with ⟨e3, _⟩ | ⟨g', cap, cur, e3, _, hg', _⟩
    · rw [e3] at e; simp [Value.ownBlock] at e
    · rw [e3] at e; simp [Value.ownBlock] at e; subst e; rw [hg'] at h4; simp at h4
theorem row_typed {B : Nat} {w : World} {v : Value} {vs : List Value} (h : Row B w v vs) (b : Nat) (e : v.ownBlock = some b) : ∃ cs z, w.heap[b]? = some (.cells cs 30 z) := by
  rcases h.2 with ⟨rfl, _⟩ | ⟨g', cap, cur, rfl, _, hg', _⟩
  · simp [Value.ownBlock] at e
  · simp [Value.ownBlock] at e
    subst e
    exact ⟨_, _, hg'⟩

set_option maxRecDepth 100000 in
set_option maxHeartbeats 4000000 in
theorem done_any (S : Sg) (h : SH) (x : Nums) (nm : ByteArray) (ad : Option Addr) (l : List Nat) (cd : Nat) (B g : Nat) (w : World) (L : LB w g 126 (scl S h)) (hB : B ≤ g) (hR : OwnP B w (.slice h.ao S.outs.length h.co) S.outs) (hd : Own B w (.slice ad l.length cd) l) (hn : 0 ≤ S.x.nx ∧ S.x.nx ≤ 32) (hs : S.outs.length ≤ 100) :
    Calls Tryz.prog 108 #[.pointer (some ⟨g, 0, none⟩), rv x nm (.slice ad l.length cd)] w fun e w' => ∃ a', ∃ c' : Nat, e = .returned (.tuple #[]) ∧ LB w' g 126 (scl { S with x := { S.x with fl := false, tr := 0, nx := S.x.nx + 1 }, outs := S.outs ++ [l] } { h with ao := a', co := c' }) ∧ OwnP B w' (.slice a' (S.outs.length + 1) c') (S.outs ++ [l]) ∧ But B g (Value.slice h.ao S.outs.length h.co).ownBlock w w' := by
  obtain ⟨E, hD2, hL2, hE2⟩ := rv_letter x nm (.slice ad l.length cd)
  rw [hD2]
  obtain ⟨C, hC⟩ : ∃ C, scl S h = C := ⟨_, rfl⟩
  rw [hC] at L
  have HC : Hid (C = scl S h) := hC.symm
  have HE2 : Hid (E = rcE x nm (.slice ad l.length cd)) := hE2
  have hg : g ≠ w.heap.size := Nat.ne_of_lt L.lt
  have hg2 : w.heap.size ≠ g := Ne.symm hg
  have HIN : Hid ((Tryz.prog.info? 30).map (fun i => (i.zero, i.size, i.bytes)) = some (some (.slice none 0 0), 1, 24)) := info22
  have i1 : IntKind.i64.wrap (S.x.nx + 1) = S.x.nx + 1 := IntWalk.i64_in _ (by omega)
  obtain ⟨vs, hr, hvl, hve⟩ := hR
  have HX := lb_rec w g 126 32 C E L
  have hlt := L.lt
  have HLT : Hid (g < w.heap.size) := L.lt
  have hoth : ∀ b, b < w.heap.size → b ≠ g → ((((w.alloc (.cells E.toArray 32)).setCell ⟨g, 9, none⟩ (.bool false)).setCell ⟨g, 10, none⟩ (.int .i64 0)).setCell ⟨g, 8, none⟩ (.int .i64 (S.x.nx + 1))).heap[b]? = w.heap[b]? := fun b hb hne => by rw [set_other _ _ _ _ hne, set_other _ _ _ _ hne, set_other _ _ _ _ hne, heap_old _ _ _ hb]
  have hrg : (Value.slice h.ao S.outs.length h.co).ownBlock ≠ some g := fun e => by obtain ⟨cs, z, h9⟩ := row_typed hr g e; rw [L] at h9; simp at h9
  have hdg : ∀ (v : Value) (m : List Nat), Own B w v m → v.ownBlock ≠ some g := fun v m hv e => by rcases hv.row.2 with ⟨e3, _⟩ | ⟨g', cap, cur, e3, _, hg', _⟩; (· rw [e3] at e; simp [Value.ownBlock] at e); (· rw [e3] at e; simp [Value.ownBlock] at e; subst e; rw [L] at hg'; simp at hg')
  have HW : Hid (∃ W2, W2 = ((((w.alloc (.cells E.toArray 32)).setCell ⟨g, 9, none⟩ (.bool false)).setCell ⟨g, 10, none⟩ (.int .i64 0)).setCell ⟨g, 8, none⟩ (.int .i64 (S.x.nx + 1))) ∧ LB W2 g 126 (((C.set 9 (.bool false)).set 10 (.int .i64 0)).set 8 (.int .i64 (S.x.nx + 1))) ∧ LB W2 w.heap.size 32 E ∧ Below g w W2 ∧ Row B W2 (.slice h.ao S.outs.length h.co) vs ∧ (∀ j (h : j < vs.length) (h2 : j < S.outs.length), Own B W2 vs[j] S.outs[j]) ∧ Own B W2 (.slice ad l.length cd) l ∧ (∀ b, b < w.heap.size → b ≠ g → W2.heap[b]? = w.heap[b]?) ∧ w.heap.size < W2.heap.size) := ⟨_, rfl, ((HX.1.set _ _).set _ _).set _ _, ((HX.2.1.other _ _ hg2).other _ _ hg2).other _ _ hg2, Below.setCell (Below.setCell (Below.setCell (below_le HX.2.2 (Nat.le_of_lt hlt)) (Nat.le_refl _) _) (Nat.le_refl _) _) (Nat.le_refl _) _, row_kept2 hr (fun b e => hoth b (row_block hr b e).2 (fun e2 => hrg (by rw [e, e2]))), fun j a b => own_keptB (hve j a b) (fun c e => hoth c (own_block (hve j a b) c e).2 (fun e2 => hdg _ _ (hve j a b) (by rw [e, e2]))), own_keptB hd (fun c e => hoth c (own_block hd c e).2 (fun e2 => hdg _ _ hd (by rw [e, e2]))), hoth, (((HX.2.1.other _ _ hg2).other _ _ hg2).other _ _ hg2).lt⟩
  have HC0 := HX.1
  have c9 := HX.1.cell 9 (.bool S.x.fl) (by rw [HC.out]; rfl)
  have f9 := HX.1.free 9
  have c10 := HX.1.cell 10 (.int .i64 S.x.tr) (by rw [HC.out]; rfl)
  have f10 := HX.1.free 10
  have c8 := HX.1.cell 8 (.int .i64 S.x.nx) (by rw [HC.out]; rfl)
  have f8 := HX.1.free 8
  have HVL : Hid (vs.length = S.outs.length) := hvl
  clear hD2 hL2 hE2 hC L hr hvl hve hd HX hoth hrg hdg HC0 hlt
  go_enter Tryz.func108, Tryz.ntmps108
  go_wp2
  obtain ⟨W2, hW2, HW3⟩ := HW.out
  rw [← hW2]
  have HW4 : Hid _ := HW3
  clear hW2 HW HW3 c9 f9 c10 f10 c8 f8
  obtain ⟨C2, hC2⟩ : ∃ C2, ((C.set 9 (.bool false)).set 10 (.int .i64 0)).set 8 (.int .i64 (S.x.nx + 1)) = C2 := ⟨_, rfl⟩
  rw [hC2] at HW4
  have HC2 : Hid (C2 = scl { S with x := { S.x with fl := false, tr := 0, nx := S.x.nx + 1 } } h) := by show _ = _; rw [← hC2, HC.out]; rfl
  clear hC2 HC i1
  have HKEEP : Hid (∀ W W' : World, (LB W g 126 C2 ∧ LB W w.heap.size 32 E ∧ Below g w W ∧ Row B W (.slice h.ao S.outs.length h.co) vs ∧ (∀ j (h : j < vs.length) (h2 : j < S.outs.length), Own B W vs[j] S.outs[j]) ∧ Own B W (.slice ad l.length cd) l ∧ (∀ b, b < w.heap.size → b ≠ g → W.heap[b]? = w.heap[b]?) ∧ w.heap.size < W.heap.size) → Below W.heap.size W W' → (LB W' g 126 C2 ∧ LB W' w.heap.size 32 E ∧ Below g w W' ∧ Row B W' (.slice h.ao S.outs.length h.co) vs ∧ (∀ j (h : j < vs.length) (h2 : j < S.outs.length), Own B W' vs[j] S.outs[j]) ∧ Own B W' (.slice ad l.length cd) l ∧ (∀ b, b < w.heap.size → b ≠ g → W'.heap[b]? = w.heap[b]?) ∧ w.heap.size < W'.heap.size)) := fun W W' H b9 => ⟨H.1.kept b9, H.2.1.kept b9, H.2.2.1.trans (below_le b9 (Nat.le_of_lt H.1.lt)), H.2.2.2.1.kept b9, fun j a b => (H.2.2.2.2.1 j a b).kept b9, H.2.2.2.2.2.1.kept b9, fun b h1 h2 => (b9.block b (Nat.lt_trans h1 H.2.2.2.2.2.2.2)).trans (H.2.2.2.2.2.2.1 b h1 h2), Nat.lt_of_lt_of_le H.2.2.2.2.2.2.2 b9.size⟩
  have HFIN : Hid (∀ (W W' : World) (v' : Value), (LB W g 126 C2 ∧ LB W w.heap.size 32 E ∧ Below g w W ∧ Row B W (.slice h.ao S.outs.length h.co) vs ∧ (∀ j (h : j < vs.length) (h2 : j < S.outs.length), Own B W vs[j] S.outs[j]) ∧ Own B W (.slice ad l.length cd) l ∧ (∀ b, b < w.heap.size → b ≠ g → W.heap[b]? = w.heap[b]?) ∧ w.heap.size < W.heap.size) → Row B W' v' (vs ++ [.slice ad l.length cd]) → Below B W W' → W.grownBy W' (Value.slice h.ao S.outs.length h.co).ownBlock → ∃ a', ∃ c' : Nat, LB (W'.setCell ⟨g, 11, none⟩ v') g 126 (scl { S with x := { S.x with fl := false, tr := 0, nx := S.x.nx + 1 }, outs := S.outs ++ [l] } { h with ao := a', co := c' }) ∧ OwnP B (W'.setCell ⟨g, 11, none⟩ v') (.slice a' (S.outs.length + 1) c') (S.outs ++ [l]) ∧ But B g (Value.slice h.ao S.outs.length h.co).ownBlock w (W'.setCell ⟨g, 11, none⟩ v')) := by
    intro W W' v' H hrow hb' hgr
    have hrg : (Value.slice h.ao S.outs.length h.co).ownBlock ≠ some g := fun e => by obtain ⟨cs, z, h9⟩ := row_typed H.2.2.2.1 g e; rw [H.1] at h9; simp at h9
    have hpush := OwnP.push H.2.2.2.1 HVL.out H.2.2.2.2.1 H.2.2.2.2.2.1 hrow hgr
    have hLg : LB W' g 126 C2 := (hgr.block g H.1.lt (Ne.symm hrg)).trans H.1
    obtain ⟨a', c', e'⟩ := hpush.shape
    have hln : (S.outs ++ [l]).length = S.outs.length + 1 := by simp
    rw [hln] at e'
    subst e'
    have hrow2 : (Value.slice a' (S.outs.length + 1) c').ownBlock ≠ some g := fun e => by obtain ⟨cs, z, h9⟩ := row_typed hrow g e; rw [hLg] at h9; simp at h9
    refine ⟨a', c', ?_, ?_, ⟨?_, ?_⟩⟩
    · have e := hLg.set 11 (.slice a' (S.outs.length + 1) c')
      rw [HC2.out] at e
      have e3 : scl { S with x := { S.x with fl := false, tr := 0, nx := S.x.nx + 1 }, outs := S.outs ++ [l] } { h with ao := a', co := c' } = (scl { S with x := { S.x with fl := false, tr := 0, nx := S.x.nx + 1 } } h).set 11 (.slice a' (S.outs.length + 1) c') := by simp [scl]
      rw [e3]; exact e
    · obtain ⟨us, u1, u2, u3⟩ := hpush
      refine ⟨us, row_kept2 u1 (fun b e => set_other _ _ _ _ (fun e2 => hrow2 (by rw [e]; exact congrArg some e2))), u2, fun j a b => own_keptB (u3 j a b) (fun c e => set_other _ _ _ _ (fun e2 => ?_))⟩
      rcases (u3 j a b).row.2 with ⟨e3, _⟩ | ⟨g', cap, cur, e3, _, hg', _⟩
      · rw [e3] at e; simp [Value.ownBlock] at e
      · rw [e3] at e; simp [Value.ownBlock] at e; subst e; have e2' : g' = g := e2; subst e2'; rw [hLg] at hg'; simp at hg'
    · exact Below.setCell ((below_le H.2.2.1 hB).trans hb') hB _
    · intro b hbg hne
      rw [set_other _ _ _ _ (show b ≠ g by omega), hgr.block b (by have := H.1.lt; omega) (Ne.symm hne)]
      exact H.2.2.2.2.2.2.1 b (Nat.lt_trans hbg HLT.out) (by omega)
  refine wp_region_held_drew (S := fun _ => True) (by kernel_rfl) trivial (fun hH => ?_)
  have H1 : Hid (LB W2.drew g 126 C2 ∧ LB W2.drew w.heap.size 32 E ∧ Below g w W2.drew ∧ Row B W2.drew (.slice h.ao S.outs.length h.co) vs ∧ (∀ j (h : j < vs.length) (h2 : j < S.outs.length), Own B W2.drew vs[j] S.outs[j]) ∧ Own B W2.drew (.slice ad l.length cd) l ∧ (∀ b, b < w.heap.size → b ≠ g → W2.drew.heap[b]? = w.heap[b]?) ∧ w.heap.size < W2.drew.heap.size) := HKEEP.out _ _ HW4.out (Below.drew (Below.refl _ _))
  clear HW4
  generalize W2.drew = W3 at *
  have cO := H1.out.1.cell 11 (.slice h.ao S.outs.length h.co) (by rw [HC2.out]; rfl)
  have cR := H1.out.2.1.cell 11 (.slice ad l.length cd) (by rw [HE2.out]; rfl)
  refine wpAnyH_take (i := 0) (v := ?v1) rfl (by kernel_rfl) (by kernel_rfl) (by kernel_rfl) (fun _ _ _ h => h) (Or.inl ⟨by rfl, ?hy1⟩) hH ?rest1
  case hy1 => intro w' hSw; (try dsimp only at hSw); go_simp; all_goals rfl
  simp only [Act.put, List.setIfInBounds_toArray, List.set_cons_zero, List.set_cons_succ, List.getElem_toArray, List.getElem_cons_zero]
  refine wpAnyH_take (i := 1) (v := ?v2) rfl (by kernel_rfl) (by kernel_rfl) (by kernel_rfl) (fun _ _ _ h => h) (Or.inl ⟨by rfl, ?hy2⟩) hH ?rest2
  case hy2 => intro w' hSw; (try dsimp only at hSw); go_simp; all_goals rfl
  simp only [Act.put, List.setIfInBounds_toArray, List.set_cons_zero, List.set_cons_succ, List.getElem_toArray, List.getElem_cons_zero, List.getElem_cons_succ]
  refine wpAnyH_take (i := 2) (v := ?v3) rfl (by kernel_rfl) (by kernel_rfl) (by kernel_rfl) (fun _ _ _ h => h) (Or.inl ⟨by rfl, ?hy3⟩) hH ?rest3
  case hy3 => intro w' hSw; (try dsimp only at hSw); go_simp; all_goals rfl
  simp only [Act.put, List.setIfInBounds_toArray, List.set_cons_zero, List.set_cons_succ, List.getElem_toArray, List.getElem_cons_zero, List.getElem_cons_succ]
  refine wpAnyH_take (i := 3) (v := ?v4) rfl (by kernel_rfl) (by kernel_rfl) (by kernel_rfl) (fun _ _ _ h => h) (Or.inl ⟨by rfl, ?hy4⟩) hH ?rest4
  case hy4 => intro w' hSw; (try dsimp only at hSw); go_simp; all_goals rfl
  simp only [Act.put, List.setIfInBounds_toArray, List.set_cons_zero, List.set_cons_succ, List.getElem_toArray, List.getElem_cons_zero, List.getElem_cons_succ]
  refine wpAnyH_take (i := 5) (v := ?v5) rfl (by kernel_rfl) (by kernel_rfl) (by kernel_rfl) (fun _ _ _ h => h) (Or.inl ⟨by rfl, ?hy5⟩) hH ?rest5
  case hy5 => intro w' hSw; (try dsimp only at hSw); go_simp; all_goals rfl
  simp only [Act.put, List.setIfInBounds_toArray, List.set_cons_zero, List.set_cons_succ, List.getElem_toArray, List.getElem_cons_zero, List.getElem_cons_succ]
  refine wpAnyH_ready (rs := [4, 6]) (by kernel_rfl) (by simp) ?_
  refine AllReadyH.cons rfl (fun K hK => ?p1) ?p2
  case' p1 =>
    go_simp
    refine hK.out _ _ trivial (fun _ => ?_)
    clear hK K
    refine wpAnyH_ready (rs := [6]) (by kernel_rfl) (by simp) ?_
    refine AllReadyH.cons rfl (fun K hK => ?_) AllReadyH.nil
    go_simp
    refine hK.out _ _ trivial (fun _ => ?_)
    clear hK K
    refine wpAnyH_ready (rs := [7]) (by kernel_rfl) (by simp) ?_
    refine AllReadyH.cons rfl (fun K hK => ?_) AllReadyH.nil
    go_simp
    refine hK.out _ _ trivial (fun _ => ?_)
    clear hK K
    have H2 : Hid (LB (W3.alloc (.cells #[.slice ad l.length cd] 30)) g 126 C2 ∧ LB (W3.alloc (.cells #[.slice ad l.length cd] 30)) w.heap.size 32 E ∧ Below g w (W3.alloc (.cells #[.slice ad l.length cd] 30)) ∧ Row B (W3.alloc (.cells #[.slice ad l.length cd] 30)) (.slice h.ao S.outs.length h.co) vs ∧ (∀ j (h : j < vs.length) (h2 : j < S.outs.length), Own B (W3.alloc (.cells #[.slice ad l.length cd] 30)) vs[j] S.outs[j]) ∧ Own B (W3.alloc (.cells #[.slice ad l.length cd] 30)) (.slice ad l.length cd) l ∧ (∀ b, b < w.heap.size → b ≠ g → (W3.alloc (.cells #[.slice ad l.length cd] 30)).heap[b]? = w.heap[b]?) ∧ w.heap.size < (W3.alloc (.cells #[.slice ad l.length cd] 30)).heap.size) := HKEEP.out _ _ H1.out (up0 _ _)
    have HCE : Hid ((W3.alloc (.cells #[.slice ad l.length cd] 30)).cell? ⟨W3.heap.size, 0, none⟩ = some (.slice ad l.length cd)) := by show _ = _; rw [World.cell?_alloc_new]; rfl
    have cO2 := H2.out.1.cell 11 (.slice h.ao S.outs.length h.co) (by rw [HC2.out]; rfl)
  case' p2 =>
    refine AllReadyH.cons rfl (fun K hK => ?_) AllReadyH.nil
    go_simp
    refine hK.out _ _ trivial (fun _ => ?_)
    clear hK K
    refine wpAnyH_ready (rs := [4, 7]) (by kernel_rfl) (by simp) ?_
    refine AllReadyH.cons rfl (fun K hK => ?p3) ?p4
    case' p3 =>
      go_simp
      refine hK.out _ _ trivial (fun _ => ?_)
      clear hK K
      refine wpAnyH_ready (rs := [7]) (by kernel_rfl) (by simp) ?_
      refine AllReadyH.cons rfl (fun K hK => ?_) AllReadyH.nil
      go_simp
      refine hK.out _ _ trivial (fun _ => ?_)
      clear hK K
      have H2 : Hid (LB (W3.alloc (.cells #[.slice ad l.length cd] 30)) g 126 C2 ∧ LB (W3.alloc (.cells #[.slice ad l.length cd] 30)) w.heap.size 32 E ∧ Below g w (W3.alloc (.cells #[.slice ad l.length cd] 30)) ∧ Row B (W3.alloc (.cells #[.slice ad l.length cd] 30)) (.slice h.ao S.outs.length h.co) vs ∧ (∀ j (h : j < vs.length) (h2 : j < S.outs.length), Own B (W3.alloc (.cells #[.slice ad l.length cd] 30)) vs[j] S.outs[j]) ∧ Own B (W3.alloc (.cells #[.slice ad l.length cd] 30)) (.slice ad l.length cd) l ∧ (∀ b, b < w.heap.size → b ≠ g → (W3.alloc (.cells #[.slice ad l.length cd] 30)).heap[b]? = w.heap[b]?) ∧ w.heap.size < (W3.alloc (.cells #[.slice ad l.length cd] 30)).heap.size) := HKEEP.out _ _ H1.out (up0 _ _)
      have HCE : Hid ((W3.alloc (.cells #[.slice ad l.length cd] 30)).cell? ⟨W3.heap.size, 0, none⟩ = some (.slice ad l.length cd)) := by show _ = _; rw [World.cell?_alloc_new]; rfl
      have cO2 := H2.out.1.cell 11 (.slice h.ao S.outs.length h.co) (by rw [HC2.out]; rfl)
    case' p4 =>
      refine AllReadyH.cons rfl (fun K hK => ?_) AllReadyH.nil
      go_simp
      refine hK.out _ _ trivial (fun _ => ?_)
      clear hK K
      have H2 : Hid (LB (W3.alloc (.cells #[.slice ad l.length cd] 30)) g 126 C2 ∧ LB (W3.alloc (.cells #[.slice ad l.length cd] 30)) w.heap.size 32 E ∧ Below g w (W3.alloc (.cells #[.slice ad l.length cd] 30)) ∧ Row B (W3.alloc (.cells #[.slice ad l.length cd] 30)) (.slice h.ao S.outs.length h.co) vs ∧ (∀ j (h : j < vs.length) (h2 : j < S.outs.length), Own B (W3.alloc (.cells #[.slice ad l.length cd] 30)) vs[j] S.outs[j]) ∧ Own B (W3.alloc (.cells #[.slice ad l.length cd] 30)) (.slice ad l.length cd) l ∧ (∀ b, b < w.heap.size → b ≠ g → (W3.alloc (.cells #[.slice ad l.length cd] 30)).heap[b]? = w.heap[b]?) ∧ w.heap.size < (W3.alloc (.cells #[.slice ad l.length cd] 30)).heap.size) := HKEEP.out _ _ H1.out (up0 _ _)
      have HCE : Hid ((W3.alloc (.cells #[.slice ad l.length cd] 30)).cell? ⟨W3.heap.size, 0, none⟩ = some (.slice ad l.length cd)) := by show _ = _; rw [World.cell?_alloc_new]; rfl
      have cO2 := H2.out.1.cell 11 (.slice h.ao S.outs.length h.co) (by rw [HC2.out]; rfl)
      refine wpAnyH_ready (rs := [4]) (by kernel_rfl) (by simp) ?_
      refine AllReadyH.cons rfl (fun K hK => ?_) AllReadyH.nil
      go_simp
      refine hK.out _ _ trivial (fun _ => ?_)
      clear hK K
  all_goals
    refine wpAnyH_ready (rs := [8]) (by kernel_rfl) (by simp) ?_
    refine AllReadyH.cons rfl (fun K hK => ?_) AllReadyH.nil
    refine step_push rfl (.tmp 21) (.tmp 24) 41 rfl B HIN.out Tryz.underlying41 (.slice h.ao S.outs.length h.co) vs rfl H2.out.2.2.2.1 W3.heap.size (.slice ad l.length cd) rfl HCE.out rfl (by rw [HVL.out]; omega) (Nat.le_trans hB (Nat.le_of_lt H2.out.1.lt)) ?_
    intro v' w' hrow hb' hgr
    have HF : Hid _ := HFIN.out _ _ _ H2.out hrow hb' hgr
    have hrg : (Value.slice h.ao S.outs.length h.co).ownBlock ≠ some g := fun e => by obtain ⟨cs, z, h9⟩ := row_typed H2.out.2.2.2.1 g e; rw [H2.out.1] at h9; simp at h9
    have hLg : LB w' g 126 C2 := (hgr.block g H2.out.1.lt (Ne.symm hrg)).trans H2.out.1
    have cg := hLg.cell 11 (.slice h.ao S.outs.length h.co) (by rw [HC2.out]; rfl)
    have fg := hLg.free 11
    have h1c : v'.oneCell' = true := by rcases Row.shape hrow with ⟨e, _⟩ | ⟨_, _, e, _⟩ <;> (rw [e]; rfl)
    obtain ⟨a9, n9, c9, e9⟩ : ∃ a n c, v' = .slice a n c := by rcases Row.shape hrow with ⟨e, _⟩ | ⟨_, _, e, _⟩ <;> exact ⟨_, _, _, e⟩
    subst e9
    refine hK.out _ _ trivial (fun _ => ?_)
    clear hK K hrow hb' hgr hrg hLg h1c H1 H2 cO cO2 cR HKEEP HFIN
    simp only [Act.put, List.setIfInBounds_toArray, List.set_cons_zero, List.set_cons_succ, List.getElem_toArray, List.getElem_cons_zero, List.getElem_cons_succ]
    refine zqk 9 rfl hH ?_
    simp only [Act.put, List.setIfInBounds_toArray, List.set_cons_zero, List.set_cons_succ, List.getElem_toArray, List.getElem_cons_zero, List.getElem_cons_succ]
    refine zqk 10 rfl hH ?_
    simp only [Act.put, List.setIfInBounds_toArray, List.set_cons_zero, List.set_cons_succ, List.getElem_toArray, List.getElem_cons_zero, List.getElem_cons_succ]
    refine wpAnyH_ready (rs := [11]) (by kernel_rfl) (by simp) ?_
    refine AllReadyH.cons rfl (fun K hK => ?_) AllReadyH.nil
    go_simp
    refine hK.out _ _ trivial (fun _ => ?_)
    clear hK K
    refine wpAnyH_done (by kernel_rfl) ?_ _
    go_wp2
    go_end0
    obtain ⟨a', c', q1, q2, q3⟩ := HF.out
    exact ⟨rfl, a', c', q1, q2, q3⟩
set_option maxRecDepth 100000 in
set_option maxHeartbeats 4000000 in
theorem undone_any (S : Sg) (h : SH) (x : Nums) (nm : ByteArray) (ad : Option Addr) (l : List Nat) (cd : Nat) (B g : Nat) (w : World) (L : LB w g 126 (scl S h)) (hB : B ≤ g) (hR : OwnP B w (.slice h.au S.und.length h.cu) S.und) (hd : Own B w (.slice ad l.length cd) l) (hn : 0 ≤ S.x.nx ∧ S.x.nx ≤ 32) (hs : S.und.length ≤ 100) :
    Calls Tryz.prog 110 #[.pointer (some ⟨g, 0, none⟩), rv x nm (.slice ad l.length cd)] w fun e w' => ∃ a', ∃ c' : Nat, e = .returned (.tuple #[]) ∧ LB w' g 126 (scl { S with x := { S.x with fl := false, tr := 0, nx := S.x.nx - 1 }, und := S.und ++ [l] } { h with au := a', cu := c' }) ∧ OwnP B w' (.slice a' (S.und.length + 1) c') (S.und ++ [l]) ∧ But B g (Value.slice h.au S.und.length h.cu).ownBlock w w' := by
  obtain ⟨E, hD2, hL2, hE2⟩ := rv_letter x nm (.slice ad l.length cd)
  rw [hD2]
  obtain ⟨C, hC⟩ : ∃ C, scl S h = C := ⟨_, rfl⟩
  rw [hC] at L
  have HC : Hid (C = scl S h) := hC.symm
  have HE2 : Hid (E = rcE x nm (.slice ad l.length cd)) := hE2
  have hg : g ≠ w.heap.size := Nat.ne_of_lt L.lt
  have hg2 : w.heap.size ≠ g := Ne.symm hg
  have HIN : Hid ((Tryz.prog.info? 30).map (fun i => (i.zero, i.size, i.bytes)) = some (some (.slice none 0 0), 1, 24)) := info22
  have i1 : IntKind.i64.wrap (S.x.nx - 1) = S.x.nx - 1 := IntWalk.i64_in _ (by omega)
  obtain ⟨vs, hr, hvl, hve⟩ := hR
  have HX := lb_rec w g 126 32 C E L
  have hlt := L.lt
  have HLT : Hid (g < w.heap.size) := L.lt
  have hoth : ∀ b, b < w.heap.size → b ≠ g → ((((w.alloc (.cells E.toArray 32)).setCell ⟨g, 9, none⟩ (.bool false)).setCell ⟨g, 10, none⟩ (.int .i64 0)).setCell ⟨g, 8, none⟩ (.int .i64 (S.x.nx - 1))).heap[b]? = w.heap[b]? := fun b hb hne => by rw [set_other _ _ _ _ hne, set_other _ _ _ _ hne, set_other _ _ _ _ hne, heap_old _ _ _ hb]
  have hrg : (Value.slice h.au S.und.length h.cu).ownBlock ≠ some g := fun e => by obtain ⟨cs, z, h9⟩ := row_typed hr g e; rw [L] at h9; simp at h9
  have hdg : ∀ (v : Value) (m : List Nat), Own B w v m → v.ownBlock ≠ some g := fun v m hv e => by rcases hv.row.2 with ⟨e3, _⟩ | ⟨g', cap, cur, e3, _, hg', _⟩; (· rw [e3] at e; simp [Value.ownBlock] at e); (· rw [e3] at e; simp [Value.ownBlock] at e; subst e; rw [L] at hg'; simp at hg')
  have HW : Hid (∃ W2, W2 = ((((w.alloc (.cells E.toArray 32)).setCell ⟨g, 9, none⟩ (.bool false)).setCell ⟨g, 10, none⟩ (.int .i64 0)).setCell ⟨g, 8, none⟩ (.int .i64 (S.x.nx - 1))) ∧ LB W2 g 126 (((C.set 9 (.bool false)).set 10 (.int .i64 0)).set 8 (.int .i64 (S.x.nx - 1))) ∧ LB W2 w.heap.size 32 E ∧ Below g w W2 ∧ Row B W2 (.slice h.au S.und.length h.cu) vs ∧ (∀ j (h : j < vs.length) (h2 : j < S.und.length), Own B W2 vs[j] S.und[j]) ∧ Own B W2 (.slice ad l.length cd) l ∧ (∀ b, b < w.heap.size → b ≠ g → W2.heap[b]? = w.heap[b]?) ∧ w.heap.size < W2.heap.size) := ⟨_, rfl, ((HX.1.set _ _).set _ _).set _ _, ((HX.2.1.other _ _ hg2).other _ _ hg2).other _ _ hg2, Below.setCell (Below.setCell (Below.setCell (below_le HX.2.2 (Nat.le_of_lt hlt)) (Nat.le_refl _) _) (Nat.le_refl _) _) (Nat.le_refl _) _, row_kept2 hr (fun b e => hoth b (row_block hr b e).2 (fun e2 => hrg (by rw [e, e2]))), fun j a b => own_keptB (hve j a b) (fun c e => hoth c (own_block (hve j a b) c e).2 (fun e2 => hdg _ _ (hve j a b) (by rw [e, e2]))), own_keptB hd (fun c e => hoth c (own_block hd c e).2 (fun e2 => hdg _ _ hd (by rw [e, e2]))), hoth, (((HX.2.1.other _ _ hg2).other _ _ hg2).other _ _ hg2).lt⟩
  have HC0 := HX.1
  have c9 := HX.1.cell 9 (.bool S.x.fl) (by rw [HC.out]; rfl)
  have f9 := HX.1.free 9
  have c10 := HX.1.cell 10 (.int .i64 S.x.tr) (by rw [HC.out]; rfl)
  have f10 := HX.1.free 10
  have c8 := HX.1.cell 8 (.int .i64 S.x.nx) (by rw [HC.out]; rfl)
  have f8 := HX.1.free 8
  have HVL : Hid (vs.length = S.und.length) := hvl
  clear hD2 hL2 hE2 hC L hr hvl hve hd HX hoth hrg hdg HC0 hlt
  go_enter Tryz.func110, Tryz.ntmps110
  go_wp2
  obtain ⟨W2, hW2, HW3⟩ := HW.out
  rw [← hW2]
  have HW4 : Hid _ := HW3
  clear hW2 HW HW3 c9 f9 c10 f10 c8 f8
  obtain ⟨C2, hC2⟩ : ∃ C2, ((C.set 9 (.bool false)).set 10 (.int .i64 0)).set 8 (.int .i64 (S.x.nx - 1)) = C2 := ⟨_, rfl⟩
  rw [hC2] at HW4
  have HC2 : Hid (C2 = scl { S with x := { S.x with fl := false, tr := 0, nx := S.x.nx - 1 } } h) := by show _ = _; rw [← hC2, HC.out]; rfl
  clear hC2 HC i1
  have HKEEP : Hid (∀ W W' : World, (LB W g 126 C2 ∧ LB W w.heap.size 32 E ∧ Below g w W ∧ Row B W (.slice h.au S.und.length h.cu) vs ∧ (∀ j (h : j < vs.length) (h2 : j < S.und.length), Own B W vs[j] S.und[j]) ∧ Own B W (.slice ad l.length cd) l ∧ (∀ b, b < w.heap.size → b ≠ g → W.heap[b]? = w.heap[b]?) ∧ w.heap.size < W.heap.size) → Below W.heap.size W W' → (LB W' g 126 C2 ∧ LB W' w.heap.size 32 E ∧ Below g w W' ∧ Row B W' (.slice h.au S.und.length h.cu) vs ∧ (∀ j (h : j < vs.length) (h2 : j < S.und.length), Own B W' vs[j] S.und[j]) ∧ Own B W' (.slice ad l.length cd) l ∧ (∀ b, b < w.heap.size → b ≠ g → W'.heap[b]? = w.heap[b]?) ∧ w.heap.size < W'.heap.size)) := fun W W' H b9 => ⟨H.1.kept b9, H.2.1.kept b9, H.2.2.1.trans (below_le b9 (Nat.le_of_lt H.1.lt)), H.2.2.2.1.kept b9, fun j a b => (H.2.2.2.2.1 j a b).kept b9, H.2.2.2.2.2.1.kept b9, fun b h1 h2 => (b9.block b (Nat.lt_trans h1 H.2.2.2.2.2.2.2)).trans (H.2.2.2.2.2.2.1 b h1 h2), Nat.lt_of_lt_of_le H.2.2.2.2.2.2.2 b9.size⟩
  have HFIN : Hid (∀ (W W' : World) (v' : Value), (LB W g 126 C2 ∧ LB W w.heap.size 32 E ∧ Below g w W ∧ Row B W (.slice h.au S.und.length h.cu) vs ∧ (∀ j (h : j < vs.length) (h2 : j < S.und.length), Own B W vs[j] S.und[j]) ∧ Own B W (.slice ad l.length cd) l ∧ (∀ b, b < w.heap.size → b ≠ g → W.heap[b]? = w.heap[b]?) ∧ w.heap.size < W.heap.size) → Row B W' v' (vs ++ [.slice ad l.length cd]) → Below B W W' → W.grownBy W' (Value.slice h.au S.und.length h.cu).ownBlock → ∃ a', ∃ c' : Nat, LB (W'.setCell ⟨g, 12, none⟩ v') g 126 (scl { S with x := { S.x with fl := false, tr := 0, nx := S.x.nx - 1 }, und := S.und ++ [l] } { h with au := a', cu := c' }) ∧ OwnP B (W'.setCell ⟨g, 12, none⟩ v') (.slice a' (S.und.length + 1) c') (S.und ++ [l]) ∧ But B g (Value.slice h.au S.und.length h.cu).ownBlock w (W'.setCell ⟨g, 12, none⟩ v')) := by
    intro W W' v' H hrow hb' hgr
    have hrg : (Value.slice h.au S.und.length h.cu).ownBlock ≠ some g := fun e => by obtain ⟨cs, z, h9⟩ := row_typed H.2.2.2.1 g e; rw [H.1] at h9; simp at h9
    have hpush := OwnP.push H.2.2.2.1 HVL.out H.2.2.2.2.1 H.2.2.2.2.2.1 hrow hgr
    have hLg : LB W' g 126 C2 := (hgr.block g H.1.lt (Ne.symm hrg)).trans H.1
    obtain ⟨a', c', e'⟩ := hpush.shape
    have hln : (S.und ++ [l]).length = S.und.length + 1 := by simp
    rw [hln] at e'
    subst e'
    have hrow2 : (Value.slice a' (S.und.length + 1) c').ownBlock ≠ some g := fun e => by obtain ⟨cs, z, h9⟩ := row_typed hrow g e; rw [hLg] at h9; simp at h9
    refine ⟨a', c', ?_, ?_, ⟨?_, ?_⟩⟩
    · have e := hLg.set 12 (.slice a' (S.und.length + 1) c')
      rw [HC2.out] at e
      have e3 : scl { S with x := { S.x with fl := false, tr := 0, nx := S.x.nx - 1 }, und := S.und ++ [l] } { h with au := a', cu := c' } = (scl { S with x := { S.x with fl := false, tr := 0, nx := S.x.nx - 1 } } h).set 12 (.slice a' (S.und.length + 1) c') := by simp [scl]
      rw [e3]; exact e
    · obtain ⟨us, u1, u2, u3⟩ := hpush
      refine ⟨us, row_kept2 u1 (fun b e => set_other _ _ _ _ (fun e2 => hrow2 (by rw [e]; exact congrArg some e2))), u2, fun j a b => own_keptB (u3 j a b) (fun c e => set_other _ _ _ _ (fun e2 => ?_))⟩
      rcases (u3 j a b).row.2 with ⟨e3, _⟩ | ⟨g', cap, cur, e3, _, hg', _⟩
      · rw [e3] at e; simp [Value.ownBlock] at e
      · rw [e3] at e; simp [Value.ownBlock] at e; subst e; have e2' : g' = g := e2; subst e2'; rw [hLg] at hg'; simp at hg'
    · exact Below.setCell ((below_le H.2.2.1 hB).trans hb') hB _
    · intro b hbg hne
      rw [set_other _ _ _ _ (show b ≠ g by omega), hgr.block b (by have := H.1.lt; omega) (Ne.symm hne)]
      exact H.2.2.2.2.2.2.1 b (Nat.lt_trans hbg HLT.out) (by omega)
  refine wp_region_held_drew (S := fun _ => True) (by kernel_rfl) trivial (fun hH => ?_)
  have H1 : Hid (LB W2.drew g 126 C2 ∧ LB W2.drew w.heap.size 32 E ∧ Below g w W2.drew ∧ Row B W2.drew (.slice h.au S.und.length h.cu) vs ∧ (∀ j (h : j < vs.length) (h2 : j < S.und.length), Own B W2.drew vs[j] S.und[j]) ∧ Own B W2.drew (.slice ad l.length cd) l ∧ (∀ b, b < w.heap.size → b ≠ g → W2.drew.heap[b]? = w.heap[b]?) ∧ w.heap.size < W2.drew.heap.size) := HKEEP.out _ _ HW4.out (Below.drew (Below.refl _ _))
  clear HW4
  generalize W2.drew = W3 at *
  have cO := H1.out.1.cell 12 (.slice h.au S.und.length h.cu) (by rw [HC2.out]; rfl)
  have cR := H1.out.2.1.cell 11 (.slice ad l.length cd) (by rw [HE2.out]; rfl)
  refine wpAnyH_take (i := 0) (v := ?v6) rfl (by kernel_rfl) (by kernel_rfl) (by kernel_rfl) (fun _ _ _ h => h) (Or.inl ⟨by rfl, ?hy6⟩) hH ?rest6
  case hy6 => intro w' hSw; (try dsimp only at hSw); go_simp; all_goals rfl
  simp only [Act.put, List.setIfInBounds_toArray, List.set_cons_zero, List.set_cons_succ, List.getElem_toArray, List.getElem_cons_zero]
  refine wpAnyH_take (i := 1) (v := ?v7) rfl (by kernel_rfl) (by kernel_rfl) (by kernel_rfl) (fun _ _ _ h => h) (Or.inl ⟨by rfl, ?hy7⟩) hH ?rest7
  case hy7 => intro w' hSw; (try dsimp only at hSw); go_simp; all_goals rfl
  simp only [Act.put, List.setIfInBounds_toArray, List.set_cons_zero, List.set_cons_succ, List.getElem_toArray, List.getElem_cons_zero, List.getElem_cons_succ]
  refine wpAnyH_take (i := 2) (v := ?v8) rfl (by kernel_rfl) (by kernel_rfl) (by kernel_rfl) (fun _ _ _ h => h) (Or.inl ⟨by rfl, ?hy8⟩) hH ?rest8
  case hy8 => intro w' hSw; (try dsimp only at hSw); go_simp; all_goals rfl
  simp only [Act.put, List.setIfInBounds_toArray, List.set_cons_zero, List.set_cons_succ, List.getElem_toArray, List.getElem_cons_zero, List.getElem_cons_succ]
  refine wpAnyH_take (i := 3) (v := ?v9) rfl (by kernel_rfl) (by kernel_rfl) (by kernel_rfl) (fun _ _ _ h => h) (Or.inl ⟨by rfl, ?hy9⟩) hH ?rest9
  case hy9 => intro w' hSw; (try dsimp only at hSw); go_simp; all_goals rfl
  simp only [Act.put, List.setIfInBounds_toArray, List.set_cons_zero, List.set_cons_succ, List.getElem_toArray, List.getElem_cons_zero, List.getElem_cons_succ]
  refine wpAnyH_take (i := 5) (v := ?v10) rfl (by kernel_rfl) (by kernel_rfl) (by kernel_rfl) (fun _ _ _ h => h) (Or.inl ⟨by rfl, ?hy10⟩) hH ?rest10
  case hy10 => intro w' hSw; (try dsimp only at hSw); go_simp; all_goals rfl
  simp only [Act.put, List.setIfInBounds_toArray, List.set_cons_zero, List.set_cons_succ, List.getElem_toArray, List.getElem_cons_zero, List.getElem_cons_succ]
  refine wpAnyH_ready (rs := [4, 6]) (by kernel_rfl) (by simp) ?_
  refine AllReadyH.cons rfl (fun K hK => ?p1) ?p2
  case' p1 =>
    go_simp
    refine hK.out _ _ trivial (fun _ => ?_)
    clear hK K
    refine wpAnyH_ready (rs := [6]) (by kernel_rfl) (by simp) ?_
    refine AllReadyH.cons rfl (fun K hK => ?_) AllReadyH.nil
    go_simp
    refine hK.out _ _ trivial (fun _ => ?_)
    clear hK K
    refine wpAnyH_ready (rs := [7]) (by kernel_rfl) (by simp) ?_
    refine AllReadyH.cons rfl (fun K hK => ?_) AllReadyH.nil
    go_simp
    refine hK.out _ _ trivial (fun _ => ?_)
    clear hK K
    have H2 : Hid (LB (W3.alloc (.cells #[.slice ad l.length cd] 30)) g 126 C2 ∧ LB (W3.alloc (.cells #[.slice ad l.length cd] 30)) w.heap.size 32 E ∧ Below g w (W3.alloc (.cells #[.slice ad l.length cd] 30)) ∧ Row B (W3.alloc (.cells #[.slice ad l.length cd] 30)) (.slice h.au S.und.length h.cu) vs ∧ (∀ j (h : j < vs.length) (h2 : j < S.und.length), Own B (W3.alloc (.cells #[.slice ad l.length cd] 30)) vs[j] S.und[j]) ∧ Own B (W3.alloc (.cells #[.slice ad l.length cd] 30)) (.slice ad l.length cd) l ∧ (∀ b, b < w.heap.size → b ≠ g → (W3.alloc (.cells #[.slice ad l.length cd] 30)).heap[b]? = w.heap[b]?) ∧ w.heap.size < (W3.alloc (.cells #[.slice ad l.length cd] 30)).heap.size) := HKEEP.out _ _ H1.out (up0 _ _)
    have HCE : Hid ((W3.alloc (.cells #[.slice ad l.length cd] 30)).cell? ⟨W3.heap.size, 0, none⟩ = some (.slice ad l.length cd)) := by show _ = _; rw [World.cell?_alloc_new]; rfl
    have cO2 := H2.out.1.cell 12 (.slice h.au S.und.length h.cu) (by rw [HC2.out]; rfl)
  case' p2 =>
    refine AllReadyH.cons rfl (fun K hK => ?_) AllReadyH.nil
    go_simp
    refine hK.out _ _ trivial (fun _ => ?_)
    clear hK K
    refine wpAnyH_ready (rs := [4, 7]) (by kernel_rfl) (by simp) ?_
    refine AllReadyH.cons rfl (fun K hK => ?p3) ?p4
    case' p3 =>
      go_simp
      refine hK.out _ _ trivial (fun _ => ?_)
      clear hK K
      refine wpAnyH_ready (rs := [7]) (by kernel_rfl) (by simp) ?_
      refine AllReadyH.cons rfl (fun K hK => ?_) AllReadyH.nil
      go_simp
      refine hK.out _ _ trivial (fun _ => ?_)
      clear hK K
      have H2 : Hid (LB (W3.alloc (.cells #[.slice ad l.length cd] 30)) g 126 C2 ∧ LB (W3.alloc (.cells #[.slice ad l.length cd] 30)) w.heap.size 32 E ∧ Below g w (W3.alloc (.cells #[.slice ad l.length cd] 30)) ∧ Row B (W3.alloc (.cells #[.slice ad l.length cd] 30)) (.slice h.au S.und.length h.cu) vs ∧ (∀ j (h : j < vs.length) (h2 : j < S.und.length), Own B (W3.alloc (.cells #[.slice ad l.length cd] 30)) vs[j] S.und[j]) ∧ Own B (W3.alloc (.cells #[.slice ad l.length cd] 30)) (.slice ad l.length cd) l ∧ (∀ b, b < w.heap.size → b ≠ g → (W3.alloc (.cells #[.slice ad l.length cd] 30)).heap[b]? = w.heap[b]?) ∧ w.heap.size < (W3.alloc (.cells #[.slice ad l.length cd] 30)).heap.size) := HKEEP.out _ _ H1.out (up0 _ _)
      have HCE : Hid ((W3.alloc (.cells #[.slice ad l.length cd] 30)).cell? ⟨W3.heap.size, 0, none⟩ = some (.slice ad l.length cd)) := by show _ = _; rw [World.cell?_alloc_new]; rfl
      have cO2 := H2.out.1.cell 12 (.slice h.au S.und.length h.cu) (by rw [HC2.out]; rfl)
    case' p4 =>
      refine AllReadyH.cons rfl (fun K hK => ?_) AllReadyH.nil
      go_simp
      refine hK.out _ _ trivial (fun _ => ?_)
      clear hK K
      have H2 : Hid (LB (W3.alloc (.cells #[.slice ad l.length cd] 30)) g 126 C2 ∧ LB (W3.alloc (.cells #[.slice ad l.length cd] 30)) w.heap.size 32 E ∧ Below g w (W3.alloc (.cells #[.slice ad l.length cd] 30)) ∧ Row B (W3.alloc (.cells #[.slice ad l.length cd] 30)) (.slice h.au S.und.length h.cu) vs ∧ (∀ j (h : j < vs.length) (h2 : j < S.und.length), Own B (W3.alloc (.cells #[.slice ad l.length cd] 30)) vs[j] S.und[j]) ∧ Own B (W3.alloc (.cells #[.slice ad l.length cd] 30)) (.slice ad l.length cd) l ∧ (∀ b, b < w.heap.size → b ≠ g → (W3.alloc (.cells #[.slice ad l.length cd] 30)).heap[b]? = w.heap[b]?) ∧ w.heap.size < (W3.alloc (.cells #[.slice ad l.length cd] 30)).heap.size) := HKEEP.out _ _ H1.out (up0 _ _)
      have HCE : Hid ((W3.alloc (.cells #[.slice ad l.length cd] 30)).cell? ⟨W3.heap.size, 0, none⟩ = some (.slice ad l.length cd)) := by show _ = _; rw [World.cell?_alloc_new]; rfl
      have cO2 := H2.out.1.cell 12 (.slice h.au S.und.length h.cu) (by rw [HC2.out]; rfl)
      refine wpAnyH_ready (rs := [4]) (by kernel_rfl) (by simp) ?_
      refine AllReadyH.cons rfl (fun K hK => ?_) AllReadyH.nil
      go_simp
      refine hK.out _ _ trivial (fun _ => ?_)
      clear hK K
  all_goals
    refine wpAnyH_ready (rs := [8]) (by kernel_rfl) (by simp) ?_
    refine AllReadyH.cons rfl (fun K hK => ?_) AllReadyH.nil
    refine step_push rfl (.tmp 21) (.tmp 24) 41 rfl B HIN.out Tryz.underlying41 (.slice h.au S.und.length h.cu) vs rfl H2.out.2.2.2.1 W3.heap.size (.slice ad l.length cd) rfl HCE.out rfl (by rw [HVL.out]; omega) (Nat.le_trans hB (Nat.le_of_lt H2.out.1.lt)) ?_
    intro v' w' hrow hb' hgr
    have HF : Hid _ := HFIN.out _ _ _ H2.out hrow hb' hgr
    have hrg : (Value.slice h.au S.und.length h.cu).ownBlock ≠ some g := fun e => by obtain ⟨cs, z, h9⟩ := row_typed H2.out.2.2.2.1 g e; rw [H2.out.1] at h9; simp at h9
    have hLg : LB w' g 126 C2 := (hgr.block g H2.out.1.lt (Ne.symm hrg)).trans H2.out.1
    have cg := hLg.cell 12 (.slice h.au S.und.length h.cu) (by rw [HC2.out]; rfl)
    have fg := hLg.free 12
    have h1c : v'.oneCell' = true := by rcases Row.shape hrow with ⟨e, _⟩ | ⟨_, _, e, _⟩ <;> (rw [e]; rfl)
    obtain ⟨a9, n9, c9, e9⟩ : ∃ a n c, v' = .slice a n c := by rcases Row.shape hrow with ⟨e, _⟩ | ⟨_, _, e, _⟩ <;> exact ⟨_, _, _, e⟩
    subst e9
    refine hK.out _ _ trivial (fun _ => ?_)
    clear hK K hrow hb' hgr hrg hLg h1c H1 H2 cO cO2 cR HKEEP HFIN
    simp only [Act.put, List.setIfInBounds_toArray, List.set_cons_zero, List.set_cons_succ, List.getElem_toArray, List.getElem_cons_zero, List.getElem_cons_succ]
    refine zqk 9 rfl hH ?_
    simp only [Act.put, List.setIfInBounds_toArray, List.set_cons_zero, List.set_cons_succ, List.getElem_toArray, List.getElem_cons_zero, List.getElem_cons_succ]
    refine zqk 10 rfl hH ?_
    simp only [Act.put, List.setIfInBounds_toArray, List.set_cons_zero, List.set_cons_succ, List.getElem_toArray, List.getElem_cons_zero, List.getElem_cons_succ]
    refine wpAnyH_ready (rs := [11]) (by kernel_rfl) (by simp) ?_
    refine AllReadyH.cons rfl (fun K hK => ?_) AllReadyH.nil
    go_simp
    refine hK.out _ _ trivial (fun _ => ?_)
    clear hK K
    refine wpAnyH_done (by kernel_rfl) ?_ _
    go_wp2
    go_end0
    obtain ⟨a', c', q1, q2, q3⟩ := HF.out
    exact ⟨rfl, a', c', q1, q2, q3⟩
end Go.Proofs.YtdnackjakfiffaaGreatDoor
