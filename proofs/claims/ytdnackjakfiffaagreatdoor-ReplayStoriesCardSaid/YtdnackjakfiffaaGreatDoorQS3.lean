import Derived.Test.YtdnackjakfiffaaGreatDoorQS2
/-
  Package saga: Check, Finished.
-/
namespace Go.Proofs.YtdnackjakfiffaaGreatDoor
open Go Go.RowKit
open Wb

set_option maxRecDepth 100000 in
set_option maxHeartbeats 4000000 in
theorem wentOn_any (S : Sg) (h : SH) (w : World) : Calls Tryz.prog 31 #[sv S h] w fun e w' => e = .returned (.bool (wentOn S)) ∧ Below w.heap.size w w' := by
  unfold sv
  cases a1 : (S.x.fs != 0) with
  | true =>
    have H0 : Hid (wentOn S = false) := by show _ = _; unfold wentOn; rw [a1]; rfl
    rw [H0.out]
    clear H0
    go_enter Tryz.func31, Tryz.ntmps31
    go_wp2
    go_ret
    exact ⟨rfl, by go_grown⟩
  | false =>
    cases a2 : (S.x.fc != 0) with
    | true =>
      have H0 : Hid (wentOn S = false) := by show _ = _; unfold wentOn; rw [a1, a2]; rfl
      rw [H0.out]
      clear H0
      go_enter Tryz.func31, Tryz.ntmps31
      go_wp2
      go_ret
      exact ⟨rfl, by go_grown⟩
    | false =>
      cases a3 : ((S.fail.length : Int) != 0) with
      | true =>
        have H0 : Hid (wentOn S = false) := by show _ = _; unfold wentOn; rw [a1, a2, a3]; rfl
        rw [H0.out]
        clear H0
        go_enter Tryz.func31, Tryz.ntmps31
        go_wp2
        go_ret
        exact ⟨rfl, by go_grown⟩
      | false =>
        cases a4 : ((S.und.length : Int) != 0) with
        | true =>
          have H0 : Hid (wentOn S = false) := by show _ = _; unfold wentOn; rw [a1, a2, a3, a4]; rfl
          rw [H0.out]
          clear H0
          go_enter Tryz.func31, Tryz.ntmps31
          go_wp2
          go_ret
          exact ⟨rfl, by go_grown⟩
        | false =>
          cases a5 : win S.x.nx 0 S.x.cnt with
          | true =>
            cases a6 : ((S.outs.length : Int) != S.x.nx) with
            | true =>
              have H0 : Hid (wentOn S = false) := by show _ = _; unfold wentOn; rw [a1, a2, a3, a4, a5, a6]; rfl
              rw [H0.out]
              clear H0
              go_enter Tryz.func31, Tryz.ntmps31
              go_wp2_with fail
              refine (within_any _ _ _ _).mono ?_
              rw [a5]
              rintro e _ ⟨rfl, rfl⟩
              go_wp2
              go_ret
              exact ⟨rfl, by go_grown⟩
            | false =>
              cases a7 : (S.x.ph == 3) with
              | true =>
                have H0 : Hid (wentOn S = (S.x.nx == S.x.cnt)) := by show _ = _; unfold wentOn; rw [a1, a2, a3, a4, a5, a6, a7]; rfl
                rw [H0.out]
                clear H0
                go_enter Tryz.func31, Tryz.ntmps31
                go_wp2_with fail
                refine (within_any _ _ _ _).mono ?_
                rw [a5]
                rintro e _ ⟨rfl, rfl⟩
                go_wp2
                go_ret
                exact ⟨rfl, by go_grown⟩
              | false =>
                cases a8 : (S.x.nx == 0) with
                | true =>
                  cases a9 : (S.x.tr == 0) with
                  | true =>
                    have H0 : Hid (wentOn S = (S.x.la == S.x.beg)) := by show _ = _; unfold wentOn; rw [a1, a2, a3, a4, a5, a6, a7, a8, a9]; rfl
                    rw [H0.out]
                    clear H0
                    go_enter Tryz.func31, Tryz.ntmps31
                    go_wp2_with fail
                    refine (within_any _ _ _ _).mono ?_
                    rw [a5]
                    rintro e _ ⟨rfl, rfl⟩
                    go_wp2
                    go_ret
                    exact ⟨rfl, by go_grown⟩
                  | false =>
                    have H0 : Hid (wentOn S = true) := by show _ = _; unfold wentOn; rw [a1, a2, a3, a4, a5, a6, a7, a8, a9]; rfl
                    rw [H0.out]
                    clear H0
                    go_enter Tryz.func31, Tryz.ntmps31
                    go_wp2_with fail
                    refine (within_any _ _ _ _).mono ?_
                    rw [a5]
                    rintro e _ ⟨rfl, rfl⟩
                    go_wp2
                    go_ret
                    exact ⟨rfl, by go_grown⟩
                | false =>
                  have H0 : Hid (wentOn S = true) := by show _ = _; unfold wentOn; rw [a1, a2, a3, a4, a5, a6, a7, a8]; rfl
                  rw [H0.out]
                  clear H0
                  go_enter Tryz.func31, Tryz.ntmps31
                  go_wp2_with fail
                  refine (within_any _ _ _ _).mono ?_
                  rw [a5]
                  rintro e _ ⟨rfl, rfl⟩
                  go_wp2
                  go_ret
                  exact ⟨rfl, by go_grown⟩
          | false =>
            have H0 : Hid (wentOn S = false) := by show _ = _; unfold wentOn; rw [a1, a2, a3, a4, a5]; rfl
            rw [H0.out]
            clear H0
            go_enter Tryz.func31, Tryz.ntmps31
            go_wp2_with fail
            refine (within_any _ _ _ _).mono ?_
            rw [a5]
            rintro e _ ⟨rfl, rfl⟩
            go_wp2
            go_ret
            exact ⟨rfl, by go_grown⟩
set_option maxRecDepth 100000 in
set_option maxHeartbeats 4000000 in
theorem wentBack_any (S : Sg) (h : SH) (w : World) (hm : S.outs.length ≤ 9223372036854775807) : Calls Tryz.prog 32 #[sv S h] w fun e w' => e = .returned (.bool (wentBack S)) ∧ Below w.heap.size w w' := by
  have HBP0 : ∀ w', Calls Tryz.prog 56 #[sv S h, .int .i64 S.x.fs] w' fun e w'' => e = .returned (.bool (S.x.behind S.x.fs)) ∧ Below w'.heap.size w' w'' := fun w' => behind_any S h S.x.fs w'
  cases a1 : (S.x.fs != (S.outs.length : Int)) with
  | true =>
    have H0 : Hid (wentBack S = false) := by show _ = _; unfold wentBack; rw [a1]; rfl
    rw [H0.out]
    clear H0
    clear HBP0
    unfold sv
    go_enter Tryz.func32, Tryz.ntmps32
    go_wp2
    go_ret
    exact ⟨rfl, by go_grown⟩
  | false =>
    cases a2 : decide (S.x.cnt ≤ S.x.fs) with
    | true =>
      have H0 : Hid (wentBack S = false) := by show _ = _; unfold wentBack; rw [a1, a2]; rfl
      rw [H0.out]
      clear H0
      clear HBP0
      unfold sv
      go_enter Tryz.func32, Tryz.ntmps32
      go_wp2
      go_ret
      exact ⟨rfl, by go_grown⟩
    | false =>
      cases a3 : S.x.behind S.x.fs with
      | true =>
        have H0 : Hid (wentBack S = false) := by show _ = _; unfold wentBack; rw [a1, a2, a3]; rfl
        rw [H0.out]
        clear H0
        rw [a3] at HBP0
        obtain ⟨D, hD, hL, hE⟩ := sv_letter S h
        rw [hD] at HBP0 ⊢
        have HBP : Hid _ := HBP0
        have HL : Hid _ := hL
        have HE : Hid (D = scl S h) := hE
        have HX : Hid (∀ t, (w.alloc (.cells D.toArray t)).rangeAt w.heap.size 0 D ∧ Below w.heap.size w (w.alloc (.cells D.toArray t))) := fun t => boxed w D t
        clear hD hL hE HBP0
        have HR := (HX.out 43).1
        have d13 := range_cell HR 13 (.int .i64 S.x.fs) (by rw [HE.out]; rfl)
        have d11 := range_cell HR 11 (.slice h.ao S.outs.length h.co) (by rw [HE.out]; rfl)
        have d2 := range_cell HR 2 (.int .i64 S.x.cnt) (by rw [HE.out]; rfl)
        clear HR
        go_enter Tryz.func32, Tryz.ntmps32
        go_wp2_with (first | (refine wpList_load_mid rfl 43 _ rfl w.heap.size 0 rfl D _ (HX.out _).1 Tryz.underlying43 rfl HL.out ?_) | (refine wpList_load_midG rfl 43 _ rfl w.heap.size 0 rfl D _ (HX.out _).1 Tryz.underlying43 rfl HL.out ?_))
        refine (HBP.out _).mono ?_
        rintro e w1 ⟨rfl, b1⟩
        have B1 := andThen (HX.out _).2 b1
        have R1 := range_kept (HX.out _).1 b1
        clear b1 HX HBP R1 HE HL d13 d11 d2
        go_wp2
        go_ret
        exact ⟨rfl, B1⟩
      | false =>
        cases a4 : win S.x.nx 0 S.x.fs with
        | true =>
          cases a5 : ((S.und.length : Int) != S.x.fs - S.x.nx) with
          | true =>
            have H0 : Hid (wentBack S = false) := by show _ = _; unfold wentBack; rw [a1, a2, a3, a4, a5]; rfl
            rw [H0.out]
            clear H0
            have i1 : IntKind.i64.wrap (S.x.fs - S.x.nx) = S.x.fs - S.x.nx := IntWalk.i64_in _ (by have h1 := (win_iff _ _ _).1 a4; simp at a1; omega)
            rw [a3] at HBP0
            obtain ⟨D, hD, hL, hE⟩ := sv_letter S h
            rw [hD] at HBP0 ⊢
            have HBP : Hid _ := HBP0
            have HL : Hid _ := hL
            have HE : Hid (D = scl S h) := hE
            have HX : Hid (∀ t, (w.alloc (.cells D.toArray t)).rangeAt w.heap.size 0 D ∧ Below w.heap.size w (w.alloc (.cells D.toArray t))) := fun t => boxed w D t
            clear hD hL hE HBP0
            have HR := (HX.out 43).1
            have d13 := range_cell HR 13 (.int .i64 S.x.fs) (by rw [HE.out]; rfl)
            have d11 := range_cell HR 11 (.slice h.ao S.outs.length h.co) (by rw [HE.out]; rfl)
            have d2 := range_cell HR 2 (.int .i64 S.x.cnt) (by rw [HE.out]; rfl)
            clear HR
            go_enter Tryz.func32, Tryz.ntmps32
            go_wp2_with (first | (refine wpList_load_mid rfl 43 _ rfl w.heap.size 0 rfl D _ (HX.out _).1 Tryz.underlying43 rfl HL.out ?_) | (refine wpList_load_midG rfl 43 _ rfl w.heap.size 0 rfl D _ (HX.out _).1 Tryz.underlying43 rfl HL.out ?_))
            refine (HBP.out _).mono ?_
            rintro e w1 ⟨rfl, b1⟩
            have B1 := andThen (HX.out _).2 b1
            have R1 := range_kept (HX.out _).1 b1
            have c8 := range_cell R1 8 (.int .i64 S.x.nx) (by rw [HE.out]; rfl)
            have c13 := range_cell R1 13 (.int .i64 S.x.fs) (by rw [HE.out]; rfl)
            have c12 := range_cell R1 12 (.slice h.au S.und.length h.cu) (by rw [HE.out]; rfl)
            have c7 := range_cell R1 7 (.int .i64 S.x.ph) (by rw [HE.out]; rfl)
            clear b1 HX HBP R1 HE HL d13 d11 d2
            go_wp2_with fail
            refine (within_any _ _ _ _).mono ?_
            rw [a4]
            rintro e _ ⟨rfl, rfl⟩
            go_wp2
            go_ret
            exact ⟨rfl, B1⟩
          | false =>
            cases a6 : (S.x.ph == 2) with
            | true =>
              have H0 : Hid (wentBack S = true) := by show _ = _; unfold wentBack; rw [a1, a2, a3, a4, a5, a6]; rfl
              rw [H0.out]
              clear H0
              have i1 : IntKind.i64.wrap (S.x.fs - S.x.nx) = S.x.fs - S.x.nx := IntWalk.i64_in _ (by have h1 := (win_iff _ _ _).1 a4; simp at a1; omega)
              rw [a3] at HBP0
              obtain ⟨D, hD, hL, hE⟩ := sv_letter S h
              rw [hD] at HBP0 ⊢
              have HBP : Hid _ := HBP0
              have HL : Hid _ := hL
              have HE : Hid (D = scl S h) := hE
              have HX : Hid (∀ t, (w.alloc (.cells D.toArray t)).rangeAt w.heap.size 0 D ∧ Below w.heap.size w (w.alloc (.cells D.toArray t))) := fun t => boxed w D t
              clear hD hL hE HBP0
              have HR := (HX.out 43).1
              have d13 := range_cell HR 13 (.int .i64 S.x.fs) (by rw [HE.out]; rfl)
              have d11 := range_cell HR 11 (.slice h.ao S.outs.length h.co) (by rw [HE.out]; rfl)
              have d2 := range_cell HR 2 (.int .i64 S.x.cnt) (by rw [HE.out]; rfl)
              clear HR
              go_enter Tryz.func32, Tryz.ntmps32
              go_wp2_with (first | (refine wpList_load_mid rfl 43 _ rfl w.heap.size 0 rfl D _ (HX.out _).1 Tryz.underlying43 rfl HL.out ?_) | (refine wpList_load_midG rfl 43 _ rfl w.heap.size 0 rfl D _ (HX.out _).1 Tryz.underlying43 rfl HL.out ?_))
              refine (HBP.out _).mono ?_
              rintro e w1 ⟨rfl, b1⟩
              have B1 := andThen (HX.out _).2 b1
              have R1 := range_kept (HX.out _).1 b1
              have c8 := range_cell R1 8 (.int .i64 S.x.nx) (by rw [HE.out]; rfl)
              have c13 := range_cell R1 13 (.int .i64 S.x.fs) (by rw [HE.out]; rfl)
              have c12 := range_cell R1 12 (.slice h.au S.und.length h.cu) (by rw [HE.out]; rfl)
              have c7 := range_cell R1 7 (.int .i64 S.x.ph) (by rw [HE.out]; rfl)
              clear b1 HX HBP R1 HE HL d13 d11 d2
              go_wp2_with fail
              refine (within_any _ _ _ _).mono ?_
              rw [a4]
              rintro e _ ⟨rfl, rfl⟩
              go_wp2
              go_ret
              exact ⟨rfl, B1⟩
            | false =>
              have H0 : Hid (wentBack S = (S.x.nx == 0)) := by show _ = _; unfold wentBack; rw [a1, a2, a3, a4, a5, a6]; rfl
              rw [H0.out]
              clear H0
              have i1 : IntKind.i64.wrap (S.x.fs - S.x.nx) = S.x.fs - S.x.nx := IntWalk.i64_in _ (by have h1 := (win_iff _ _ _).1 a4; simp at a1; omega)
              rw [a3] at HBP0
              obtain ⟨D, hD, hL, hE⟩ := sv_letter S h
              rw [hD] at HBP0 ⊢
              have HBP : Hid _ := HBP0
              have HL : Hid _ := hL
              have HE : Hid (D = scl S h) := hE
              have HX : Hid (∀ t, (w.alloc (.cells D.toArray t)).rangeAt w.heap.size 0 D ∧ Below w.heap.size w (w.alloc (.cells D.toArray t))) := fun t => boxed w D t
              clear hD hL hE HBP0
              have HR := (HX.out 43).1
              have d13 := range_cell HR 13 (.int .i64 S.x.fs) (by rw [HE.out]; rfl)
              have d11 := range_cell HR 11 (.slice h.ao S.outs.length h.co) (by rw [HE.out]; rfl)
              have d2 := range_cell HR 2 (.int .i64 S.x.cnt) (by rw [HE.out]; rfl)
              clear HR
              go_enter Tryz.func32, Tryz.ntmps32
              go_wp2_with (first | (refine wpList_load_mid rfl 43 _ rfl w.heap.size 0 rfl D _ (HX.out _).1 Tryz.underlying43 rfl HL.out ?_) | (refine wpList_load_midG rfl 43 _ rfl w.heap.size 0 rfl D _ (HX.out _).1 Tryz.underlying43 rfl HL.out ?_))
              refine (HBP.out _).mono ?_
              rintro e w1 ⟨rfl, b1⟩
              have B1 := andThen (HX.out _).2 b1
              have R1 := range_kept (HX.out _).1 b1
              have c8 := range_cell R1 8 (.int .i64 S.x.nx) (by rw [HE.out]; rfl)
              have c13 := range_cell R1 13 (.int .i64 S.x.fs) (by rw [HE.out]; rfl)
              have c12 := range_cell R1 12 (.slice h.au S.und.length h.cu) (by rw [HE.out]; rfl)
              have c7 := range_cell R1 7 (.int .i64 S.x.ph) (by rw [HE.out]; rfl)
              clear b1 HX HBP R1 HE HL d13 d11 d2
              go_wp2_with fail
              refine (within_any _ _ _ _).mono ?_
              rw [a4]
              rintro e _ ⟨rfl, rfl⟩
              go_wp2
              go_ret
              exact ⟨rfl, B1⟩
        | false =>
          have H0 : Hid (wentBack S = false) := by show _ = _; unfold wentBack; rw [a1, a2, a3, a4]; rfl
          rw [H0.out]
          clear H0
          rw [a3] at HBP0
          obtain ⟨D, hD, hL, hE⟩ := sv_letter S h
          rw [hD] at HBP0 ⊢
          have HBP : Hid _ := HBP0
          have HL : Hid _ := hL
          have HE : Hid (D = scl S h) := hE
          have HX : Hid (∀ t, (w.alloc (.cells D.toArray t)).rangeAt w.heap.size 0 D ∧ Below w.heap.size w (w.alloc (.cells D.toArray t))) := fun t => boxed w D t
          clear hD hL hE HBP0
          have HR := (HX.out 43).1
          have d13 := range_cell HR 13 (.int .i64 S.x.fs) (by rw [HE.out]; rfl)
          have d11 := range_cell HR 11 (.slice h.ao S.outs.length h.co) (by rw [HE.out]; rfl)
          have d2 := range_cell HR 2 (.int .i64 S.x.cnt) (by rw [HE.out]; rfl)
          clear HR
          go_enter Tryz.func32, Tryz.ntmps32
          go_wp2_with (first | (refine wpList_load_mid rfl 43 _ rfl w.heap.size 0 rfl D _ (HX.out _).1 Tryz.underlying43 rfl HL.out ?_) | (refine wpList_load_midG rfl 43 _ rfl w.heap.size 0 rfl D _ (HX.out _).1 Tryz.underlying43 rfl HL.out ?_))
          refine (HBP.out _).mono ?_
          rintro e w1 ⟨rfl, b1⟩
          have B1 := andThen (HX.out _).2 b1
          have R1 := range_kept (HX.out _).1 b1
          have c8 := range_cell R1 8 (.int .i64 S.x.nx) (by rw [HE.out]; rfl)
          have c13 := range_cell R1 13 (.int .i64 S.x.fs) (by rw [HE.out]; rfl)
          have c12 := range_cell R1 12 (.slice h.au S.und.length h.cu) (by rw [HE.out]; rfl)
          have c7 := range_cell R1 7 (.int .i64 S.x.ph) (by rw [HE.out]; rfl)
          clear b1 HX HBP R1 HE HL d13 d11 d2
          go_wp2_with fail
          refine (within_any _ _ _ _).mono ?_
          rw [a4]
          rintro e _ ⟨rfl, rfl⟩
          go_wp2
          go_ret
          exact ⟨rfl, B1⟩
/-- what Check answers -/
def ckE (b : Bool) : Int := if b then 0 else 100
set_option maxRecDepth 100000 in
set_option maxHeartbeats 1000000 in
theorem scheck_b (S : Sg) (h : SH) (w : World) (k : SgAt w S h) (hT : Text.TabP 2 .i32 Text.Tx.lets w) (hnm : S.nm.size ≤ 140737488355000) (a1 : bnd S = false) : Calls Tryz.prog 15 #[sv S h] w fun e w' => e = .returned (.int .i64 (ckE (chkS S))) ∧ Below w.heap.size w w' := by
  have H0 : Hid (ckE (chkS S) = 100) := by show _ = _; unfold ckE chkS; rw [a1]; rfl
  rw [H0.out]
  clear H0
  have HBN0 : ∀ w', Below w.heap.size w w' → Calls Tryz.prog 28 #[sv S h] w' fun e w'' => e = .returned (.bool false) ∧ Below w'.heap.size w' w'' := fun w' hb => by rw [← a1]; exact bounded_any S h w' (k.kept hb) (hT.kept hb) hnm
  obtain ⟨D, hD, hL, hE⟩ := sv_letter S h
  rw [hD] at HBN0 ⊢
  have HBN : Hid _ := HBN0
  have HL : Hid _ := hL
  have HE : Hid (D = scl S h) := hE
  have HX : Hid (∀ t, (w.alloc (.cells D.toArray t)).rangeAt w.heap.size 0 D ∧ Below w.heap.size w (w.alloc (.cells D.toArray t))) := fun t => boxed w D t
  clear hD hL hE HBN0
  clear k hT hnm HE a1
  go_enter Tryz.func15, Tryz.ntmps15
  go_wp2_with (first | (refine wpList_load_mid rfl 43 _ rfl w.heap.size 0 rfl D _ (HX.out _).1 Tryz.underlying43 rfl HL.out ?_) | (refine wpList_load_midG rfl 43 _ rfl w.heap.size 0 rfl D _ (HX.out _).1 Tryz.underlying43 rfl HL.out ?_))
  refine (HBN.out _ (HX.out _).2).mono ?_
  rintro e w1 ⟨rfl, b1⟩
  have B1 := andThen (HX.out _).2 b1
  have R1 := range_kept (HX.out _).1 b1
  clear b1 HX HBN
  clear R1 HL
  go_wp2
  go_ret
  exact ⟨rfl, B1⟩
set_option maxRecDepth 100000 in
set_option maxHeartbeats 1000000 in
theorem scheck_s (S : Sg) (h : SH) (w : World) (k : SgAt w S h) (hT : Text.TabP 2 .i32 Text.Tx.lets w) (hnm : S.nm.size ≤ 140737488355000) (a1 : bnd S = true) (a2 : S.x.settled = false) : Calls Tryz.prog 15 #[sv S h] w fun e w' => e = .returned (.int .i64 (ckE (chkS S))) ∧ Below w.heap.size w w' := by
  have H0 : Hid (ckE (chkS S) = 100) := by show _ = _; unfold ckE chkS; rw [a1, a2]; rfl
  rw [H0.out]
  clear H0
  have HBN0 : ∀ w', Below w.heap.size w w' → Calls Tryz.prog 28 #[sv S h] w' fun e w'' => e = .returned (.bool true) ∧ Below w'.heap.size w' w'' := fun w' hb => by rw [← a1]; exact bounded_any S h w' (k.kept hb) (hT.kept hb) hnm
  have HSE0 : ∀ w', Calls Tryz.prog 29 #[sv S h] w' fun e w'' => e = .returned (.bool false) ∧ Below w'.heap.size w' w'' := fun w' => by rw [← a2]; exact settled_any S h w'
  obtain ⟨D, hD, hL, hE⟩ := sv_letter S h
  rw [hD] at HBN0 HSE0 ⊢
  have HBN : Hid _ := HBN0
  have HSE : Hid _ := HSE0
  have HL : Hid _ := hL
  have HE : Hid (D = scl S h) := hE
  have HX : Hid (∀ t, (w.alloc (.cells D.toArray t)).rangeAt w.heap.size 0 D ∧ Below w.heap.size w (w.alloc (.cells D.toArray t))) := fun t => boxed w D t
  clear hD hL hE HBN0 HSE0
  clear k hT hnm HE a1 a2
  go_enter Tryz.func15, Tryz.ntmps15
  go_wp2_with (first | (refine wpList_load_mid rfl 43 _ rfl w.heap.size 0 rfl D _ (HX.out _).1 Tryz.underlying43 rfl HL.out ?_) | (refine wpList_load_midG rfl 43 _ rfl w.heap.size 0 rfl D _ (HX.out _).1 Tryz.underlying43 rfl HL.out ?_))
  refine (HBN.out _ (HX.out _).2).mono ?_
  rintro e w1 ⟨rfl, b1⟩
  have B1 := andThen (HX.out _).2 b1
  have R1 := range_kept (HX.out _).1 b1
  clear b1 HX HBN
  go_wp2_with (first | (refine wpList_load_mid rfl 43 _ rfl w.heap.size 0 rfl D _ R1 Tryz.underlying43 rfl HL.out ?_) | (refine wpList_load_midG rfl 43 _ rfl w.heap.size 0 rfl D _ R1 Tryz.underlying43 rfl HL.out ?_))
  refine (HSE.out _).mono ?_
  rintro e w2 ⟨rfl, b2⟩
  have B2 := andThen B1 b2
  have R2 := range_kept R1 b2
  clear b2 B1 R1
  clear R2 HL
  go_wp2
  go_ret
  exact ⟨rfl, B2⟩
set_option maxRecDepth 100000 in
set_option maxHeartbeats 1000000 in
theorem scheck_f1 (S : Sg) (h : SH) (w : World) (k : SgAt w S h) (hT : Text.TabP 2 .i32 Text.Tx.lets w) (hnm : S.nm.size ≤ 140737488355000) (a1 : bnd S = true) (a2 : S.x.settled = true) (a3 : S.x.fwd = true) (a4 : wentOn S = true) : Calls Tryz.prog 15 #[sv S h] w fun e w' => e = .returned (.int .i64 (ckE (chkS S))) ∧ Below w.heap.size w w' := by
  have H0 : Hid (ckE (chkS S) = 0) := by show _ = _; unfold ckE chkS; rw [a1, a2, a3, a4]; rfl
  rw [H0.out]
  clear H0
  have HBN0 : ∀ w', Below w.heap.size w w' → Calls Tryz.prog 28 #[sv S h] w' fun e w'' => e = .returned (.bool true) ∧ Below w'.heap.size w' w'' := fun w' hb => by rw [← a1]; exact bounded_any S h w' (k.kept hb) (hT.kept hb) hnm
  have HSE0 : ∀ w', Calls Tryz.prog 29 #[sv S h] w' fun e w'' => e = .returned (.bool true) ∧ Below w'.heap.size w' w'' := fun w' => by rw [← a2]; exact settled_any S h w'
  have HFW0 : ∀ w', Calls Tryz.prog 30 #[sv S h] w' fun e w'' => e = .returned (.bool true) ∧ Below w'.heap.size w' w'' := fun w' => by rw [← a3]; exact fwd_any S h w'
  have HWO0 : ∀ w', Calls Tryz.prog 31 #[sv S h] w' fun e w'' => e = .returned (.bool true) ∧ Below w'.heap.size w' w'' := fun w' => by rw [← a4]; exact wentOn_any S h w'
  obtain ⟨D, hD, hL, hE⟩ := sv_letter S h
  rw [hD] at HBN0 HSE0 HFW0 HWO0 ⊢
  have HBN : Hid _ := HBN0
  have HSE : Hid _ := HSE0
  have HFW : Hid _ := HFW0
  have HWO : Hid _ := HWO0
  have HL : Hid _ := hL
  have HE : Hid (D = scl S h) := hE
  have HX : Hid (∀ t, (w.alloc (.cells D.toArray t)).rangeAt w.heap.size 0 D ∧ Below w.heap.size w (w.alloc (.cells D.toArray t))) := fun t => boxed w D t
  clear hD hL hE HBN0 HSE0 HFW0 HWO0
  clear k hT hnm HE a1 a2 a3 a4
  go_enter Tryz.func15, Tryz.ntmps15
  go_wp2_with (first | (refine wpList_load_mid rfl 43 _ rfl w.heap.size 0 rfl D _ (HX.out _).1 Tryz.underlying43 rfl HL.out ?_) | (refine wpList_load_midG rfl 43 _ rfl w.heap.size 0 rfl D _ (HX.out _).1 Tryz.underlying43 rfl HL.out ?_))
  refine (HBN.out _ (HX.out _).2).mono ?_
  rintro e w1 ⟨rfl, b1⟩
  have B1 := andThen (HX.out _).2 b1
  have R1 := range_kept (HX.out _).1 b1
  clear b1 HX HBN
  go_wp2_with (first | (refine wpList_load_mid rfl 43 _ rfl w.heap.size 0 rfl D _ R1 Tryz.underlying43 rfl HL.out ?_) | (refine wpList_load_midG rfl 43 _ rfl w.heap.size 0 rfl D _ R1 Tryz.underlying43 rfl HL.out ?_))
  refine (HSE.out _).mono ?_
  rintro e w2 ⟨rfl, b2⟩
  have B2 := andThen B1 b2
  have R2 := range_kept R1 b2
  clear b2 B1 R1
  go_wp2_with (first | (refine wpList_load_mid rfl 43 _ rfl w.heap.size 0 rfl D _ R2 Tryz.underlying43 rfl HL.out ?_) | (refine wpList_load_midG rfl 43 _ rfl w.heap.size 0 rfl D _ R2 Tryz.underlying43 rfl HL.out ?_))
  refine (HFW.out _).mono ?_
  rintro e w3 ⟨rfl, b3⟩
  have B3 := andThen B2 b3
  have R3 := range_kept R2 b3
  clear b3 B2 R2
  go_wp2_with (first | (refine wpList_load_mid rfl 43 _ rfl w.heap.size 0 rfl D _ R3 Tryz.underlying43 rfl HL.out ?_) | (refine wpList_load_midG rfl 43 _ rfl w.heap.size 0 rfl D _ R3 Tryz.underlying43 rfl HL.out ?_))
  refine (HWO.out _).mono ?_
  rintro e w4 ⟨rfl, b4⟩
  have B4 := andThen B3 b4
  have R4 := range_kept R3 b4
  clear b4 B3 R3
  clear R4 HL
  go_wp2
  go_ret
  exact ⟨rfl, B4⟩
set_option maxRecDepth 100000 in
set_option maxHeartbeats 1000000 in
theorem scheck_f0 (S : Sg) (h : SH) (w : World) (k : SgAt w S h) (hT : Text.TabP 2 .i32 Text.Tx.lets w) (hnm : S.nm.size ≤ 140737488355000) (a1 : bnd S = true) (a2 : S.x.settled = true) (a3 : S.x.fwd = true) (a4 : wentOn S = false) : Calls Tryz.prog 15 #[sv S h] w fun e w' => e = .returned (.int .i64 (ckE (chkS S))) ∧ Below w.heap.size w w' := by
  have H0 : Hid (ckE (chkS S) = 100) := by show _ = _; unfold ckE chkS; rw [a1, a2, a3, a4]; rfl
  rw [H0.out]
  clear H0
  have HBN0 : ∀ w', Below w.heap.size w w' → Calls Tryz.prog 28 #[sv S h] w' fun e w'' => e = .returned (.bool true) ∧ Below w'.heap.size w' w'' := fun w' hb => by rw [← a1]; exact bounded_any S h w' (k.kept hb) (hT.kept hb) hnm
  have HSE0 : ∀ w', Calls Tryz.prog 29 #[sv S h] w' fun e w'' => e = .returned (.bool true) ∧ Below w'.heap.size w' w'' := fun w' => by rw [← a2]; exact settled_any S h w'
  have HFW0 : ∀ w', Calls Tryz.prog 30 #[sv S h] w' fun e w'' => e = .returned (.bool true) ∧ Below w'.heap.size w' w'' := fun w' => by rw [← a3]; exact fwd_any S h w'
  have HWO0 : ∀ w', Calls Tryz.prog 31 #[sv S h] w' fun e w'' => e = .returned (.bool false) ∧ Below w'.heap.size w' w'' := fun w' => by rw [← a4]; exact wentOn_any S h w'
  obtain ⟨D, hD, hL, hE⟩ := sv_letter S h
  rw [hD] at HBN0 HSE0 HFW0 HWO0 ⊢
  have HBN : Hid _ := HBN0
  have HSE : Hid _ := HSE0
  have HFW : Hid _ := HFW0
  have HWO : Hid _ := HWO0
  have HL : Hid _ := hL
  have HE : Hid (D = scl S h) := hE
  have HX : Hid (∀ t, (w.alloc (.cells D.toArray t)).rangeAt w.heap.size 0 D ∧ Below w.heap.size w (w.alloc (.cells D.toArray t))) := fun t => boxed w D t
  clear hD hL hE HBN0 HSE0 HFW0 HWO0
  clear k hT hnm HE a1 a2 a3 a4
  go_enter Tryz.func15, Tryz.ntmps15
  go_wp2_with (first | (refine wpList_load_mid rfl 43 _ rfl w.heap.size 0 rfl D _ (HX.out _).1 Tryz.underlying43 rfl HL.out ?_) | (refine wpList_load_midG rfl 43 _ rfl w.heap.size 0 rfl D _ (HX.out _).1 Tryz.underlying43 rfl HL.out ?_))
  refine (HBN.out _ (HX.out _).2).mono ?_
  rintro e w1 ⟨rfl, b1⟩
  have B1 := andThen (HX.out _).2 b1
  have R1 := range_kept (HX.out _).1 b1
  clear b1 HX HBN
  go_wp2_with (first | (refine wpList_load_mid rfl 43 _ rfl w.heap.size 0 rfl D _ R1 Tryz.underlying43 rfl HL.out ?_) | (refine wpList_load_midG rfl 43 _ rfl w.heap.size 0 rfl D _ R1 Tryz.underlying43 rfl HL.out ?_))
  refine (HSE.out _).mono ?_
  rintro e w2 ⟨rfl, b2⟩
  have B2 := andThen B1 b2
  have R2 := range_kept R1 b2
  clear b2 B1 R1
  go_wp2_with (first | (refine wpList_load_mid rfl 43 _ rfl w.heap.size 0 rfl D _ R2 Tryz.underlying43 rfl HL.out ?_) | (refine wpList_load_midG rfl 43 _ rfl w.heap.size 0 rfl D _ R2 Tryz.underlying43 rfl HL.out ?_))
  refine (HFW.out _).mono ?_
  rintro e w3 ⟨rfl, b3⟩
  have B3 := andThen B2 b3
  have R3 := range_kept R2 b3
  clear b3 B2 R2
  go_wp2_with (first | (refine wpList_load_mid rfl 43 _ rfl w.heap.size 0 rfl D _ R3 Tryz.underlying43 rfl HL.out ?_) | (refine wpList_load_midG rfl 43 _ rfl w.heap.size 0 rfl D _ R3 Tryz.underlying43 rfl HL.out ?_))
  refine (HWO.out _).mono ?_
  rintro e w4 ⟨rfl, b4⟩
  have B4 := andThen B3 b4
  have R4 := range_kept R3 b4
  clear b4 B3 R3
  go_wp2_with (first | (refine wpList_load_mid rfl 43 _ rfl w.heap.size 0 rfl D _ R4 Tryz.underlying43 rfl HL.out ?_) | (refine wpList_load_midG rfl 43 _ rfl w.heap.size 0 rfl D _ R4 Tryz.underlying43 rfl HL.out ?_))
  refine (HFW.out _).mono ?_
  rintro e w5 ⟨rfl, b5⟩
  have B5 := andThen B4 b5
  have R5 := range_kept R4 b5
  clear b5 B4 R4
  clear R5 HL
  go_wp2
  go_ret
  exact ⟨rfl, B5⟩
set_option maxRecDepth 100000 in
set_option maxHeartbeats 1000000 in
theorem scheck_b1 (S : Sg) (h : SH) (w : World) (k : SgAt w S h) (hT : Text.TabP 2 .i32 Text.Tx.lets w) (hnm : S.nm.size ≤ 140737488355000) (a1 : bnd S = true) (a2 : S.x.settled = true) (a3 : S.x.fwd = false) (a5 : wentBack S = true) : Calls Tryz.prog 15 #[sv S h] w fun e w' => e = .returned (.int .i64 (ckE (chkS S))) ∧ Below w.heap.size w w' := by
  have H0 : Hid (ckE (chkS S) = 0) := by show _ = _; unfold ckE chkS; rw [a1, a2, a3, a5]; rfl
  rw [H0.out]
  clear H0
  have HBN0 : ∀ w', Below w.heap.size w w' → Calls Tryz.prog 28 #[sv S h] w' fun e w'' => e = .returned (.bool true) ∧ Below w'.heap.size w' w'' := fun w' hb => by rw [← a1]; exact bounded_any S h w' (k.kept hb) (hT.kept hb) hnm
  have HSE0 : ∀ w', Calls Tryz.prog 29 #[sv S h] w' fun e w'' => e = .returned (.bool true) ∧ Below w'.heap.size w' w'' := fun w' => by rw [← a2]; exact settled_any S h w'
  have HFW0 : ∀ w', Calls Tryz.prog 30 #[sv S h] w' fun e w'' => e = .returned (.bool false) ∧ Below w'.heap.size w' w'' := fun w' => by rw [← a3]; exact fwd_any S h w'
  have HWB0 : ∀ w', Calls Tryz.prog 32 #[sv S h] w' fun e w'' => e = .returned (.bool true) ∧ Below w'.heap.size w' w'' := fun w' => by rw [← a5]; exact wentBack_any S h w' (by obtain ⟨ao, cap, _, hm, _⟩ := k.outs.shape; simp [maxLen] at hm; omega)
  obtain ⟨D, hD, hL, hE⟩ := sv_letter S h
  rw [hD] at HBN0 HSE0 HFW0 HWB0 ⊢
  have HBN : Hid _ := HBN0
  have HSE : Hid _ := HSE0
  have HFW : Hid _ := HFW0
  have HWB : Hid _ := HWB0
  have HL : Hid _ := hL
  have HE : Hid (D = scl S h) := hE
  have HX : Hid (∀ t, (w.alloc (.cells D.toArray t)).rangeAt w.heap.size 0 D ∧ Below w.heap.size w (w.alloc (.cells D.toArray t))) := fun t => boxed w D t
  clear hD hL hE HBN0 HSE0 HFW0 HWB0
  clear k hT hnm HE a1 a2 a3 a5
  go_enter Tryz.func15, Tryz.ntmps15
  go_wp2_with (first | (refine wpList_load_mid rfl 43 _ rfl w.heap.size 0 rfl D _ (HX.out _).1 Tryz.underlying43 rfl HL.out ?_) | (refine wpList_load_midG rfl 43 _ rfl w.heap.size 0 rfl D _ (HX.out _).1 Tryz.underlying43 rfl HL.out ?_))
  refine (HBN.out _ (HX.out _).2).mono ?_
  rintro e w1 ⟨rfl, b1⟩
  have B1 := andThen (HX.out _).2 b1
  have R1 := range_kept (HX.out _).1 b1
  clear b1 HX HBN
  go_wp2_with (first | (refine wpList_load_mid rfl 43 _ rfl w.heap.size 0 rfl D _ R1 Tryz.underlying43 rfl HL.out ?_) | (refine wpList_load_midG rfl 43 _ rfl w.heap.size 0 rfl D _ R1 Tryz.underlying43 rfl HL.out ?_))
  refine (HSE.out _).mono ?_
  rintro e w2 ⟨rfl, b2⟩
  have B2 := andThen B1 b2
  have R2 := range_kept R1 b2
  clear b2 B1 R1
  go_wp2_with (first | (refine wpList_load_mid rfl 43 _ rfl w.heap.size 0 rfl D _ R2 Tryz.underlying43 rfl HL.out ?_) | (refine wpList_load_midG rfl 43 _ rfl w.heap.size 0 rfl D _ R2 Tryz.underlying43 rfl HL.out ?_))
  refine (HFW.out _).mono ?_
  rintro e w3 ⟨rfl, b3⟩
  have B3 := andThen B2 b3
  have R3 := range_kept R2 b3
  clear b3 B2 R2
  go_wp2_with (first | (refine wpList_load_mid rfl 43 _ rfl w.heap.size 0 rfl D _ R3 Tryz.underlying43 rfl HL.out ?_) | (refine wpList_load_midG rfl 43 _ rfl w.heap.size 0 rfl D _ R3 Tryz.underlying43 rfl HL.out ?_))
  refine (HFW.out _).mono ?_
  rintro e w4 ⟨rfl, b4⟩
  have B4 := andThen B3 b4
  have R4 := range_kept R3 b4
  clear b4 B3 R3
  go_wp2_with (first | (refine wpList_load_mid rfl 43 _ rfl w.heap.size 0 rfl D _ R4 Tryz.underlying43 rfl HL.out ?_) | (refine wpList_load_midG rfl 43 _ rfl w.heap.size 0 rfl D _ R4 Tryz.underlying43 rfl HL.out ?_))
  refine (HWB.out _).mono ?_
  rintro e w5 ⟨rfl, b5⟩
  have B5 := andThen B4 b5
  have R5 := range_kept R4 b5
  clear b5 B4 R4
  clear R5 HL
  go_wp2
  go_ret
  exact ⟨rfl, B5⟩
set_option maxRecDepth 100000 in
set_option maxHeartbeats 1000000 in
theorem scheck_b0 (S : Sg) (h : SH) (w : World) (k : SgAt w S h) (hT : Text.TabP 2 .i32 Text.Tx.lets w) (hnm : S.nm.size ≤ 140737488355000) (a1 : bnd S = true) (a2 : S.x.settled = true) (a3 : S.x.fwd = false) (a5 : wentBack S = false) : Calls Tryz.prog 15 #[sv S h] w fun e w' => e = .returned (.int .i64 (ckE (chkS S))) ∧ Below w.heap.size w w' := by
  have H0 : Hid (ckE (chkS S) = 100) := by show _ = _; unfold ckE chkS; rw [a1, a2, a3, a5]; rfl
  rw [H0.out]
  clear H0
  have HBN0 : ∀ w', Below w.heap.size w w' → Calls Tryz.prog 28 #[sv S h] w' fun e w'' => e = .returned (.bool true) ∧ Below w'.heap.size w' w'' := fun w' hb => by rw [← a1]; exact bounded_any S h w' (k.kept hb) (hT.kept hb) hnm
  have HSE0 : ∀ w', Calls Tryz.prog 29 #[sv S h] w' fun e w'' => e = .returned (.bool true) ∧ Below w'.heap.size w' w'' := fun w' => by rw [← a2]; exact settled_any S h w'
  have HFW0 : ∀ w', Calls Tryz.prog 30 #[sv S h] w' fun e w'' => e = .returned (.bool false) ∧ Below w'.heap.size w' w'' := fun w' => by rw [← a3]; exact fwd_any S h w'
  have HWB0 : ∀ w', Calls Tryz.prog 32 #[sv S h] w' fun e w'' => e = .returned (.bool false) ∧ Below w'.heap.size w' w'' := fun w' => by rw [← a5]; exact wentBack_any S h w' (by obtain ⟨ao, cap, _, hm, _⟩ := k.outs.shape; simp [maxLen] at hm; omega)
  obtain ⟨D, hD, hL, hE⟩ := sv_letter S h
  rw [hD] at HBN0 HSE0 HFW0 HWB0 ⊢
  have HBN : Hid _ := HBN0
  have HSE : Hid _ := HSE0
  have HFW : Hid _ := HFW0
  have HWB : Hid _ := HWB0
  have HL : Hid _ := hL
  have HE : Hid (D = scl S h) := hE
  have HX : Hid (∀ t, (w.alloc (.cells D.toArray t)).rangeAt w.heap.size 0 D ∧ Below w.heap.size w (w.alloc (.cells D.toArray t))) := fun t => boxed w D t
  clear hD hL hE HBN0 HSE0 HFW0 HWB0
  clear k hT hnm HE a1 a2 a3 a5
  go_enter Tryz.func15, Tryz.ntmps15
  go_wp2_with (first | (refine wpList_load_mid rfl 43 _ rfl w.heap.size 0 rfl D _ (HX.out _).1 Tryz.underlying43 rfl HL.out ?_) | (refine wpList_load_midG rfl 43 _ rfl w.heap.size 0 rfl D _ (HX.out _).1 Tryz.underlying43 rfl HL.out ?_))
  refine (HBN.out _ (HX.out _).2).mono ?_
  rintro e w1 ⟨rfl, b1⟩
  have B1 := andThen (HX.out _).2 b1
  have R1 := range_kept (HX.out _).1 b1
  clear b1 HX HBN
  go_wp2_with (first | (refine wpList_load_mid rfl 43 _ rfl w.heap.size 0 rfl D _ R1 Tryz.underlying43 rfl HL.out ?_) | (refine wpList_load_midG rfl 43 _ rfl w.heap.size 0 rfl D _ R1 Tryz.underlying43 rfl HL.out ?_))
  refine (HSE.out _).mono ?_
  rintro e w2 ⟨rfl, b2⟩
  have B2 := andThen B1 b2
  have R2 := range_kept R1 b2
  clear b2 B1 R1
  go_wp2_with (first | (refine wpList_load_mid rfl 43 _ rfl w.heap.size 0 rfl D _ R2 Tryz.underlying43 rfl HL.out ?_) | (refine wpList_load_midG rfl 43 _ rfl w.heap.size 0 rfl D _ R2 Tryz.underlying43 rfl HL.out ?_))
  refine (HFW.out _).mono ?_
  rintro e w3 ⟨rfl, b3⟩
  have B3 := andThen B2 b3
  have R3 := range_kept R2 b3
  clear b3 B2 R2
  go_wp2_with (first | (refine wpList_load_mid rfl 43 _ rfl w.heap.size 0 rfl D _ R3 Tryz.underlying43 rfl HL.out ?_) | (refine wpList_load_midG rfl 43 _ rfl w.heap.size 0 rfl D _ R3 Tryz.underlying43 rfl HL.out ?_))
  refine (HFW.out _).mono ?_
  rintro e w4 ⟨rfl, b4⟩
  have B4 := andThen B3 b4
  have R4 := range_kept R3 b4
  clear b4 B3 R3
  go_wp2_with (first | (refine wpList_load_mid rfl 43 _ rfl w.heap.size 0 rfl D _ R4 Tryz.underlying43 rfl HL.out ?_) | (refine wpList_load_midG rfl 43 _ rfl w.heap.size 0 rfl D _ R4 Tryz.underlying43 rfl HL.out ?_))
  refine (HWB.out _).mono ?_
  rintro e w5 ⟨rfl, b5⟩
  have B5 := andThen B4 b5
  have R5 := range_kept R4 b5
  clear b5 B4 R4
  clear R5 HL
  go_wp2
  go_ret
  exact ⟨rfl, B5⟩
theorem scheck_any (S : Sg) (h : SH) (w : World) (k : SgAt w S h) (hT : Text.TabP 2 .i32 Text.Tx.lets w) (hnm : S.nm.size ≤ 140737488355000) : Calls Tryz.prog 15 #[sv S h] w fun e w' => e = .returned (.int .i64 (ckE (chkS S))) ∧ Below w.heap.size w w' := by
  cases a1 : bnd S with
  | false => exact scheck_b S h w k hT hnm a1
  | true =>
    cases a2 : S.x.settled with
    | false => exact scheck_s S h w k hT hnm a1 a2
    | true =>
      cases a3 : S.x.fwd with
      | true =>
        cases a4 : wentOn S with
        | true => exact scheck_f1 S h w k hT hnm a1 a2 a3 a4
        | false => exact scheck_f0 S h w k hT hnm a1 a2 a3 a4
      | false =>
        cases a5 : wentBack S with
        | true => exact scheck_b1 S h w k hT hnm a1 a2 a3 a5
        | false => exact scheck_b0 S h w k hT hnm a1 a2 a3 a5
end Go.Proofs.YtdnackjakfiffaaGreatDoor
