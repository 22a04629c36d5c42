import Derived.Test.YtpikdngccgdhiaaDoorQM3
/-
  Package manifest: Decode.
-/
namespace Go.Proofs.YtpikdngccgdhiaaDoor
open Go Go.RowKit
open Wb

theorem rf_body_len (b : List Nat) (hok : ok b) (h : (rf b 0).2.2 = 0) : 0 < (rf b 0).1.length ∧ (rf b 0).1.length ≤ 1048576 := by
  obtain ⟨_, _, _, _, _, h1, h2, _⟩ := rf_there b 0 hok h
  exact ⟨h1, h2⟩
set_option maxRecDepth 100000 in
set_option maxHeartbeats 8000000 in
theorem decode_any (v : Value) (b : List Nat) (w : World) (hT : Tab w) (hb : Bs w v b) (hl : b.length ≤ 2000000) :
    Calls Tryd.prog 11 #[v] w fun e w' => ∃ sv, e = .returned (.tuple #[mfv (decM b).1 sv, .int .i64 ((decM b).2 : Int)]) ∧ SgR w.heap.size w' sv (decM b).1.l ∧ Below w.heap.size w w' := by
  have HRF : Hid (Calls Tryd.prog 30 #[v, .int .i64 0] (w.alloc (.cells #[.int .i64 0, .int .i64 0, .int .i64 0, .int .i64 0, .slice none 0 0] 24)) fun e w' => ∃ v', e = .returned (.tuple #[v', .int .i64 (rf b 0).2.1, .int .i64 ((rf b 0).2.2 : Int)]) ∧ Own (w.alloc (.cells #[.int .i64 0, .int .i64 0, .int .i64 0, .int .i64 0, .slice none 0 0] 24)).heap.size w' v' (rf b 0).1 ∧ Below (w.alloc (.cells #[.int .i64 0, .int .i64 0, .int .i64 0, .int .i64 0, .slice none 0 0] 24)).heap.size (w.alloc (.cells #[.int .i64 0, .int .i64 0, .int .i64 0, .int .i64 0, .slice none 0 0] 24)) w') := readFrame_any v b 0 _ (hT.kept (up0 _ _)) (hb.kept (up0 _ _)) (by omega)
  have HRS : Hid (∀ w', Below (w.alloc (.cells #[.int .i64 0, .int .i64 0, .int .i64 0, .int .i64 0, .slice none 0 0] 24)).heap.size (w.alloc (.cells #[.int .i64 0, .int .i64 0, .int .i64 0, .int .i64 0, .slice none 0 0] 24)) w' → Mb w' w.heap.size zeroM (.slice none 0 0)) := fun w' h => (mb_new w zeroM (.slice none 0 0) 24).block (h.block _ (by rw [heap1]; omega))
  have HBB : Hid (∀ w', Below (w.alloc (.cells #[.int .i64 0, .int .i64 0, .int .i64 0, .int .i64 0, .slice none 0 0] 24)).heap.size (w.alloc (.cells #[.int .i64 0, .int .i64 0, .int .i64 0, .int .i64 0, .slice none 0 0] 24)) w' → Below w.heap.size w w') := fun w' h => andThen (up0 w _) h
  have hok := hb.good
  obtain ⟨ab, cb, rfl, _⟩ := hb.shape
  clear hb hT
  rcases hrf : rf b 0 with ⟨body, en, er⟩
  rw [hrf] at HRF
  simp only at HRF
  by_cases he : er = 0
  · subst he
    have hbl := rf_body_len b hok (by rw [hrf])
    rw [hrf] at hbl
    simp only at hbl
    have HPA : Hid (∀ w' vb, Bs w' vb body → Calls Tryd.prog 31 #[vb] w' fun e w'' => ∃ sv, e = .returned (.tuple #[mfv (prs body).1 sv, .int .i64 ((prs body).2 : Int)]) ∧ SgR w'.heap.size w'' sv (prs body).1.l ∧ Below w'.heap.size w' w'') := fun w' vb h => parse_any vb body w' h (by omega)
    obtain ⟨c0, hc0⟩ : ∃ c0, body[0]? = some c0 := ⟨body[0], List.getElem?_eq_getElem hbl.1⟩
    have hhd : body.head? = some c0 := by rw [List.head?_eq_getElem?, hc0]
    by_cases h2 : en ≠ (b.length : Int) ∨ c0 ≠ 77
    · have HZ : Hid (decM b = (zeroM, 85)) := by
        show _ = _
        unfold decM
        rw [hrf]
        simp only
        have h9 : en ≠ (b.length : Int) ∨ body.head? ≠ some 77 := by
          rcases h2 with h | h
          · exact .inl h
          · exact .inr (by rw [hhd]; simpa using h)
        rw [if_neg (by simp), if_pos h9]
      have HF : Hid (∀ w', Below w.heap.size w w' → ∃ sv, Ending.returned (.tuple #[mfv zeroM (.slice none 0 0), .int .i64 85]) = .returned (.tuple #[mfv (decM b).1 sv, .int .i64 ((decM b).2 : Int)]) ∧ SgR w.heap.size w' sv (decM b).1.l ∧ Below w.heap.size w w') := fun w' hb => ⟨_, by rw [HZ.out]; rfl, by rw [HZ.out]; exact SgR.nil _ _, hb⟩
      clear HZ hrf HPA
      go_enter Tryd.func11, Tryd.ntmps11
      go_wp2_with fail
      refine HRF.out.mono ?_
      rintro e w1 ⟨vb, rfl, ho, b1⟩
      have BEL := b1
      obtain ⟨gb, cbb, rfl, hcell⟩ : ∃ gb, ∃ cbb : Nat, vb = .slice (some ⟨gb, 0, none⟩) body.length cbb ∧ w1.cell? ⟨gb, 0, none⟩ = some (.int .u8 (c0 : Int)) := by
        rcases ho.shape with ⟨_, h0⟩ | ⟨gd, cd, e5, hgd, _, hlc, hcm, hcl⟩
        · rw [h0] at hbl; simp at hbl
        · refine ⟨gd, cd, e5, ?_⟩
          rw [hcl 0 hbl.1]
          rw [List.getElem?_eq_getElem hbl.1] at hc0
          rw [Option.some.inj hc0]
      have hres := HRS.out _ BEL
      obtain ⟨r0, r1, r2, r3, r4⟩ := hres.cells
      have z0 := hres.frozen 0
      have z1 := hres.frozen 1
      have z2 := hres.frozen 2
      have z3 := hres.frozen 3
      have z4 := hres.frozen 4
      have hbn : (0 : Int) < (body.length : Int) := by omega
      have hc256 : c0 < 256 := ho.good c0 (List.mem_of_getElem? hc0)
      clear ho b1 hc0 hhd HRF
      by_cases h3 : en = (b.length : Int)
      · have h4 : ¬ (c0 : Int) = 77 := fun h => by
          rcases h2 with h2 | h2
          · exact h2 h3
          · omega
        subst h3
        clear h2
        have HEN : Hid (Mb (store5 w1 w.heap.size zeroM (.slice none 0 0)) w.heap.size zeroM (.slice none 0 0) ∧ Below w.heap.size w (store5 w1 w.heap.size zeroM (.slice none 0 0))) := ⟨hres.store zeroM _, store5_below (HBB.out _ BEL) (Nat.le_refl _) zeroM _⟩
        unfold zeroM at r0 r1 r2 r3
        simp only at r0 r1 r2 r3
        clear hres
        go_wp2
        obtain ⟨WE, hWE⟩ : ∃ WE, WE = store5 w1 w.heap.size zeroM (.slice none 0 0) := ⟨_, rfl⟩
        rw [← hWE] at HEN
        have hWE2 : WE = (((((w1.setCell ⟨w.heap.size, 0, none⟩ (.int .i64 0)).setCell ⟨w.heap.size, 1, none⟩ (.int .i64 0)).setCell ⟨w.heap.size, 2, none⟩ (.int .i64 0)).setCell ⟨w.heap.size, 3, none⟩ (.int .i64 0)).setCell ⟨w.heap.size, 4, none⟩ (.slice none 0 0)) := hWE
        rw [← hWE2]
        clear hWE hWE2
        obtain ⟨y0, y1, y2, y3, y4⟩ := HEN.out.1.cells
        clear r0 r1 r2 r3 r4 z0 z1 z2 z3 z4
        unfold zeroM at y0 y1 y2 y3
        simp only at y0 y1 y2 y3
        (try simp only [Exit.inBlock, Exit.then])
        refine bodyPost_ret (by simp [results, Tryd.results11, go_sem, y0, y1, y2, y3, y4]; try rfl) rfl ?_
        exact HF.out _ HEN.out.2
      · clear h2
        have HEN : Hid (Mb (store5 w1 w.heap.size zeroM (.slice none 0 0)) w.heap.size zeroM (.slice none 0 0) ∧ Below w.heap.size w (store5 w1 w.heap.size zeroM (.slice none 0 0))) := ⟨hres.store zeroM _, store5_below (HBB.out _ BEL) (Nat.le_refl _) zeroM _⟩
        unfold zeroM at r0 r1 r2 r3
        simp only at r0 r1 r2 r3
        clear hres
        go_wp2
        obtain ⟨WE, hWE⟩ : ∃ WE, WE = store5 w1 w.heap.size zeroM (.slice none 0 0) := ⟨_, rfl⟩
        rw [← hWE] at HEN
        have hWE2 : WE = (((((w1.setCell ⟨w.heap.size, 0, none⟩ (.int .i64 0)).setCell ⟨w.heap.size, 1, none⟩ (.int .i64 0)).setCell ⟨w.heap.size, 2, none⟩ (.int .i64 0)).setCell ⟨w.heap.size, 3, none⟩ (.int .i64 0)).setCell ⟨w.heap.size, 4, none⟩ (.slice none 0 0)) := hWE
        rw [← hWE2]
        clear hWE hWE2
        obtain ⟨y0, y1, y2, y3, y4⟩ := HEN.out.1.cells
        clear r0 r1 r2 r3 r4 z0 z1 z2 z3 z4
        unfold zeroM at y0 y1 y2 y3
        simp only at y0 y1 y2 y3
        (try simp only [Exit.inBlock, Exit.then])
        refine bodyPost_ret (by simp [results, Tryd.results11, go_sem, y0, y1, y2, y3, y4]; try rfl) rfl ?_
        exact HF.out _ HEN.out.2
    · have h3 : en = (b.length : Int) := by
        by_cases h : en = (b.length : Int)
        · exact h
        · exact absurd (.inl h) h2
      have h4 : c0 = 77 := by
        by_cases h : c0 = 77
        · exact h
        · exact absurd (.inr h) h2
      subst h3 h4
      have HDE : Hid (decM b = if (prs body).2 ≠ 0 then (zeroM, (prs body).2) else if chkM (prs body).1 ≠ 0 then (zeroM, chkM (prs body).1) else ((prs body).1, 0)) := by
        show _ = _
        unfold decM
        rw [hrf]
        simp only
        rw [if_neg (by simp), if_neg (by rw [hhd]; simp)]
      clear h2 hrf
      rcases hpr : prs body with ⟨m, pe⟩
      rw [hpr] at HPA HDE
      simp only at HPA HDE
      clear hpr
      have HCK : Hid (∀ w' sv, SgsAt w' sv m.l → Calls Tryd.prog 8 #[mfv m sv] w' fun e w'' => e = .returned (.int .i64 (chkM m : Int)) ∧ Below w'.heap.size w' w'') := fun w' sv h => check_any m sv w' h
      go_enter Tryd.func11, Tryd.ntmps11
      go_wp2_with fail
      refine HRF.out.mono ?_
      rintro e w1 ⟨vb, rfl, ho, b1⟩
      obtain ⟨gb, cbb, rfl, hcell⟩ : ∃ gb, ∃ cbb : Nat, vb = .slice (some ⟨gb, 0, none⟩) body.length cbb ∧ w1.cell? ⟨gb, 0, none⟩ = some (.int .u8 77) := by
        rcases ho.shape with ⟨_, h0⟩ | ⟨gd, cd, e5, hgd, _, hlc, hcm, hcl⟩
        · rw [h0] at hbl; simp at hbl
        · refine ⟨gd, cd, e5, ?_⟩
          rw [hcl 0 hbl.1]
          rw [List.getElem?_eq_getElem hbl.1] at hc0
          rw [Option.some.inj hc0]
          rfl
      have hbn : (0 : Int) < (body.length : Int) := by omega
      have HB1 : Hid (Bs w1 (.slice (some ⟨gb, 0, none⟩) body.length cbb) body ∧ Below (w.alloc (.cells #[.int .i64 0, .int .i64 0, .int .i64 0, .int .i64 0, .slice none 0 0] 24)).heap.size (w.alloc (.cells #[.int .i64 0, .int .i64 0, .int .i64 0, .int .i64 0, .slice none 0 0] 24)) w1) := ⟨ho.bs, b1⟩
      clear ho b1 hc0 hhd HRF
      go_wp2_with fail
      refine (HPA.out _ _ HB1.out.1).mono ?_
      rintro e w2 ⟨sv, rfl, hsg, b2⟩
      obtain ⟨asv, csv, esv⟩ : ∃ asv, ∃ csv : Nat, sv = .slice asv m.l.length csv := by
        obtain ⟨asv, csv, e, _⟩ := hsg.at
        exact ⟨asv, csv, e⟩
      subst esv
      have HB2 : Hid (Below (w.alloc (.cells #[.int .i64 0, .int .i64 0, .int .i64 0, .int .i64 0, .slice none 0 0] 24)).heap.size (w.alloc (.cells #[.int .i64 0, .int .i64 0, .int .i64 0, .int .i64 0, .slice none 0 0] 24)) w2) := HB1.out.2.trans (b2.mono HB1.out.2.size)
      have HSG : Hid (SgR w1.heap.size w2 (.slice asv m.l.length csv) m.l ∧ w.heap.size ≤ w1.heap.size) := ⟨hsg, (HBB.out _ HB1.out.2).size⟩
      clear hsg b2 HPA hcell
      by_cases hpe : pe = 0
      · subst hpe
        obtain ⟨g, vv, x, t, l⟩ := m
        simp only at *
        unfold mfv at *
        have HW3 : Hid (∀ o, SgsAt (w2.alloc o) (.slice asv l.length csv) l ∧ Below (w.alloc (.cells #[.int .i64 0, .int .i64 0, .int .i64 0, .int .i64 0, .slice none 0 0] 24)).heap.size (w.alloc (.cells #[.int .i64 0, .int .i64 0, .int .i64 0, .int .i64 0, .slice none 0 0] 24)) (w2.alloc o)) := fun o => ⟨(HSG.out.1.kept (up0 _ _)).at, up HB2.out _⟩
        go_wp2_with fail
        refine (HCK.out _ _ (HW3.out _).1).mono ?_
        rintro e w3 ⟨rfl, b3⟩
        have HB3 : Hid (Below (w.alloc (.cells #[.int .i64 0, .int .i64 0, .int .i64 0, .int .i64 0, .slice none 0 0] 24)).heap.size (w.alloc (.cells #[.int .i64 0, .int .i64 0, .int .i64 0, .int .i64 0, .slice none 0 0] 24)) w3) := (HW3.out _).2.trans (b3.mono (HW3.out _).2.size)
        have BEL := HB3.out
        have hmb : Mb w3 w2.heap.size ⟨g, vv, x, t, []⟩ (.slice asv l.length csv) := (mb_new w2 ⟨g, vv, x, t, []⟩ (.slice asv l.length csv) 24).block (b3.block _ (by rw [heap1]; omega))
        have HS3 : Hid (SgR w1.heap.size w3 (.slice asv l.length csv) l) := (HSG.out.1.kept (up0 _ _)).kept b3
        obtain ⟨m0, m1, m2, m3, m4⟩ := hmb.cells
        simp only at m0 m1 m2 m3 m4
        have hres := HRS.out _ BEL
        obtain ⟨r0, r1, r2, r3, r4⟩ := hres.cells
        have z0 := hres.frozen 0
        have z1 := hres.frozen 1
        have z2 := hres.frozen 2
        have z3 := hres.frozen 3
        have z4 := hres.frozen 4
        have HSZ : Hid (w.heap.size ≤ w1.heap.size) := HSG.out.2
        have HSZ2 : Hid (w.heap.size + 1 ≤ w1.heap.size) := by
          have h9 := HB1.out.2.size
          rw [heap1] at h9
          exact h9
        clear b3 HSG HCK hmb
        by_cases hc : chkM ⟨g, vv, x, t, l⟩ = 0
        · have HZ : Hid (decM b = (⟨g, vv, x, t, l⟩, 0)) := by
            show _ = _
            rw [HDE.out, if_neg (by simp), if_neg (by simp [hc])]
          rw [hc]
          have HEN : Hid (Mb (store5 w3 w.heap.size ⟨g, vv, x, t, []⟩ (.slice asv l.length csv)) w.heap.size ⟨g, vv, x, t, []⟩ (.slice asv l.length csv) ∧ (∃ sv, Ending.returned (.tuple #[.agg #[.int .i64 g, .int .i64 vv, .int .i64 x, .int .i64 t, .slice asv l.length csv], .int .i64 0]) = .returned (.tuple #[mfv (decM b).1 sv, .int .i64 ((decM b).2 : Int)]) ∧ SgR w.heap.size (store5 w3 w.heap.size ⟨g, vv, x, t, []⟩ (.slice asv l.length csv)) sv (decM b).1.l ∧ Below w.heap.size w (store5 w3 w.heap.size ⟨g, vv, x, t, []⟩ (.slice asv l.length csv)))) := ⟨hres.store _ _, _, by rw [HZ.out]; rfl, by
            rw [HZ.out]
            have h9 := HS3.out
            refine (h9.block (fun q hq => store5_block _ _ _ _ q ?_)).weak HSZ.out
            have h8 := (World.ownsRow.lt h9 q hq).1
            have h7 := HSZ2.out
            omega, store5_below (HBB.out _ BEL) (Nat.le_refl _) _ _⟩
          unfold zeroM at r0 r1 r2 r3
          simp only at r0 r1 r2 r3
          clear HZ HDE hc hres HS3
          go_wp2
          obtain ⟨WE, hWE⟩ : ∃ WE, WE = store5 w3 w.heap.size ⟨g, vv, x, t, []⟩ (.slice asv l.length csv) := ⟨_, rfl⟩
          rw [← hWE] at HEN
          have hWE2 : WE = (((((w3.setCell ⟨w.heap.size, 0, none⟩ (.int .i64 g)).setCell ⟨w.heap.size, 1, none⟩ (.int .i64 vv)).setCell ⟨w.heap.size, 2, none⟩ (.int .i64 x)).setCell ⟨w.heap.size, 3, none⟩ (.int .i64 t)).setCell ⟨w.heap.size, 4, none⟩ (.slice asv l.length csv)) := hWE
          rw [← hWE2]
          clear hWE hWE2
          obtain ⟨y0, y1, y2, y3, y4⟩ := HEN.out.1.cells
          simp only at y0 y1 y2 y3 y4
          clear r0 r1 r2 r3 r4 z0 z1 z2 z3 z4 m0 m1 m2 m3 m4
          (try simp only [Exit.inBlock, Exit.then])
          refine bodyPost_ret (by simp [results, Tryd.results11, go_sem, y0, y1, y2, y3, y4]; try rfl) rfl ?_
          exact HEN.out.2
        · have HZ : Hid (decM b = (zeroM, chkM ⟨g, vv, x, t, l⟩)) := by
            show _ = _
            rw [HDE.out, if_neg (by simp), if_pos hc]
          obtain ⟨ce, hce⟩ : ∃ ce, ce = chkM ⟨g, vv, x, t, l⟩ := ⟨_, rfl⟩
          rw [← hce] at HZ hc ⊢
          have hcz : ¬ (ce : Int) = 0 := by omega
          have HF : Hid (∀ w', Below w.heap.size w w' → ∃ sv, Ending.returned (.tuple #[mfv zeroM (.slice none 0 0), .int .i64 (ce : Int)]) = .returned (.tuple #[mfv (decM b).1 sv, .int .i64 ((decM b).2 : Int)]) ∧ SgR w.heap.size w' sv (decM b).1.l ∧ Below w.heap.size w w') := fun w' hb => ⟨_, by rw [HZ.out], by rw [HZ.out]; exact SgR.nil _ _, hb⟩
          clear HZ HDE hce hc HS3 m0 m1 m2 m3 m4
          have HEN : Hid (Mb (store5 w3 w.heap.size zeroM (.slice none 0 0)) w.heap.size zeroM (.slice none 0 0) ∧ Below w.heap.size w (store5 w3 w.heap.size zeroM (.slice none 0 0))) := ⟨hres.store zeroM _, store5_below (HBB.out _ BEL) (Nat.le_refl _) zeroM _⟩
          unfold zeroM at r0 r1 r2 r3
          simp only at r0 r1 r2 r3
          clear hres
          go_wp2
          obtain ⟨WE, hWE⟩ : ∃ WE, WE = store5 w3 w.heap.size zeroM (.slice none 0 0) := ⟨_, rfl⟩
          rw [← hWE] at HEN
          have hWE2 : WE = (((((w3.setCell ⟨w.heap.size, 0, none⟩ (.int .i64 0)).setCell ⟨w.heap.size, 1, none⟩ (.int .i64 0)).setCell ⟨w.heap.size, 2, none⟩ (.int .i64 0)).setCell ⟨w.heap.size, 3, none⟩ (.int .i64 0)).setCell ⟨w.heap.size, 4, none⟩ (.slice none 0 0)) := hWE
          rw [← hWE2]
          clear hWE hWE2
          obtain ⟨y0, y1, y2, y3, y4⟩ := HEN.out.1.cells
          clear r0 r1 r2 r3 r4 z0 z1 z2 z3 z4
          unfold zeroM at y0 y1 y2 y3
          simp only at y0 y1 y2 y3
          (try simp only [Exit.inBlock, Exit.then])
          refine bodyPost_ret (by simp [results, Tryd.results11, go_sem, y0, y1, y2, y3, y4]; try rfl) rfl ?_
          exact HF.out _ HEN.out.2
      · have HZ : Hid (decM b = (zeroM, pe)) := by
          show _ = _
          rw [HDE.out, if_pos hpe]
        have hpz : ¬ (pe : Int) = 0 := by omega
        have HF : Hid (∀ w', Below w.heap.size w w' → ∃ sv, Ending.returned (.tuple #[mfv zeroM (.slice none 0 0), .int .i64 (pe : Int)]) = .returned (.tuple #[mfv (decM b).1 sv, .int .i64 ((decM b).2 : Int)]) ∧ SgR w.heap.size w' sv (decM b).1.l ∧ Below w.heap.size w w') := fun w' hb => ⟨_, by rw [HZ.out], by rw [HZ.out]; exact SgR.nil _ _, hb⟩
        have HB4 : Hid (∀ o, Below (w.alloc (.cells #[.int .i64 0, .int .i64 0, .int .i64 0, .int .i64 0, .slice none 0 0] 24)).heap.size (w.alloc (.cells #[.int .i64 0, .int .i64 0, .int .i64 0, .int .i64 0, .slice none 0 0] 24)) (w2.alloc o)) := fun o => up HB2.out o
        obtain ⟨g, vv, x, t, l⟩ := m
        simp only at *
        unfold mfv at *
        obtain ⟨W3, hW3⟩ : ∃ W3, W3 = w2.alloc (.cells #[.int .i64 g, .int .i64 vv, .int .i64 x, .int .i64 t, .slice asv l.length csv] 24) := ⟨_, rfl⟩
        have BEL : Below (w.alloc (.cells #[.int .i64 0, .int .i64 0, .int .i64 0, .int .i64 0, .slice none 0 0] 24)).heap.size (w.alloc (.cells #[.int .i64 0, .int .i64 0, .int .i64 0, .int .i64 0, .slice none 0 0] 24)) W3 := by rw [hW3]; exact HB4.out _
        have HWE : Hid (W3 = w2.alloc (.cells #[.int .i64 g, .int .i64 vv, .int .i64 x, .int .i64 t, .slice asv l.length csv] 24)) := hW3
        clear HZ HDE hpe HSG HCK hW3
        go_upto_region 7 with fail
        rw [← HWE.out]
        have hres := HRS.out _ BEL
        obtain ⟨r0, r1, r2, r3, r4⟩ := hres.cells
        have z0 := hres.frozen 0
        have z1 := hres.frozen 1
        have z2 := hres.frozen 2
        have z3 := hres.frozen 3
        have z4 := hres.frozen 4
        have HEN : Hid (Mb (store5 W3 w.heap.size zeroM (.slice none 0 0)) w.heap.size zeroM (.slice none 0 0) ∧ Below w.heap.size w (store5 W3 w.heap.size zeroM (.slice none 0 0))) := ⟨hres.store zeroM _, store5_below (HBB.out _ BEL) (Nat.le_refl _) zeroM _⟩
        unfold zeroM at r0 r1 r2 r3
        simp only at r0 r1 r2 r3
        clear hres
        go_wp2
        obtain ⟨WE, hWE⟩ : ∃ WE, WE = store5 W3 w.heap.size zeroM (.slice none 0 0) := ⟨_, rfl⟩
        rw [← hWE] at HEN
        have hWE2 : WE = (((((W3.setCell ⟨w.heap.size, 0, none⟩ (.int .i64 0)).setCell ⟨w.heap.size, 1, none⟩ (.int .i64 0)).setCell ⟨w.heap.size, 2, none⟩ (.int .i64 0)).setCell ⟨w.heap.size, 3, none⟩ (.int .i64 0)).setCell ⟨w.heap.size, 4, none⟩ (.slice none 0 0)) := hWE
        rw [← hWE2]
        clear hWE hWE2
        obtain ⟨y0, y1, y2, y3, y4⟩ := HEN.out.1.cells
        clear r0 r1 r2 r3 r4 z0 z1 z2 z3 z4
        unfold zeroM at y0 y1 y2 y3
        simp only at y0 y1 y2 y3
        (try simp only [Exit.inBlock, Exit.then])
        refine bodyPost_ret (by simp [results, Tryd.results11, go_sem, y0, y1, y2, y3, y4]; try rfl) rfl ?_
        exact HF.out _ HEN.out.2
  · have HZ : Hid (decM b = (zeroM, er)) := by
      show _ = _
      unfold decM
      rw [hrf]
      simp only
      rw [if_pos he]
    have hz : ¬ (er : Int) = 0 := by omega
    have HF : Hid (∀ w', Below w.heap.size w w' → ∃ sv, Ending.returned (.tuple #[mfv zeroM (.slice none 0 0), .int .i64 (er : Int)]) = .returned (.tuple #[mfv (decM b).1 sv, .int .i64 ((decM b).2 : Int)]) ∧ SgR w.heap.size w' sv (decM b).1.l ∧ Below w.heap.size w w') := fun w' hb => ⟨_, by rw [HZ.out], by rw [HZ.out]; exact SgR.nil _ _, hb⟩
    clear HZ hrf he
    go_enter Tryd.func11, Tryd.ntmps11
    go_wp2_with fail
    refine HRF.out.mono ?_
    rintro e w1 ⟨vb, rfl, ho, b1⟩
    obtain ⟨a1, n1, c1, e1⟩ := own_slice ho
    subst e1
    have BEL := b1
    have hres := HRS.out _ BEL
    obtain ⟨r0, r1, r2, r3, r4⟩ := hres.cells
    have z0 := hres.frozen 0
    have z1 := hres.frozen 1
    have z2 := hres.frozen 2
    have z3 := hres.frozen 3
    have z4 := hres.frozen 4
    clear ho b1 HRF
    have HEN : Hid (Mb (store5 w1 w.heap.size zeroM (.slice none 0 0)) w.heap.size zeroM (.slice none 0 0) ∧ Below w.heap.size w (store5 w1 w.heap.size zeroM (.slice none 0 0))) := ⟨hres.store zeroM _, store5_below (HBB.out _ BEL) (Nat.le_refl _) zeroM _⟩
    unfold zeroM at r0 r1 r2 r3
    simp only at r0 r1 r2 r3
    clear hres
    go_wp2
    obtain ⟨WE, hWE⟩ : ∃ WE, WE = store5 w1 w.heap.size zeroM (.slice none 0 0) := ⟨_, rfl⟩
    rw [← hWE] at HEN
    have hWE2 : WE = (((((w1.setCell ⟨w.heap.size, 0, none⟩ (.int .i64 0)).setCell ⟨w.heap.size, 1, none⟩ (.int .i64 0)).setCell ⟨w.heap.size, 2, none⟩ (.int .i64 0)).setCell ⟨w.heap.size, 3, none⟩ (.int .i64 0)).setCell ⟨w.heap.size, 4, none⟩ (.slice none 0 0)) := hWE
    rw [← hWE2]
    clear hWE hWE2
    obtain ⟨y0, y1, y2, y3, y4⟩ := HEN.out.1.cells
    clear r0 r1 r2 r3 r4 z0 z1 z2 z3 z4
    unfold zeroM at y0 y1 y2 y3
    simp only at y0 y1 y2 y3
    (try simp only [Exit.inBlock, Exit.then])
    refine bodyPost_ret (by simp [results, Tryd.results11, go_sem, y0, y1, y2, y3, y4]; try rfl) rfl ?_
    exact HF.out _ HEN.out.2
end Go.Proofs.YtpikdngccgdhiaaDoor

/-
  ManifestOne: the law's own functions.
-/
namespace Go.Proofs.YtpikdngccgdhiaaDoor
open Go Go.RowKit
open Wb

set_option maxHeartbeats 400000 in
theorem sameB_any (va vb : Value) (a b : List Nat) (w : World) (ha : Bs w va a) (hb : Bs w vb b) :
    Calls Tryd.prog 13 #[va, vb] w fun e w' => e = .returned (.bool (decide (a = b))) ∧ Below w.heap.size w w' := by
  obtain ⟨aoa, capa, rfl, hla, hma, hna, hca⟩ := ha.shape
  obtain ⟨aob, capb, rfl, hlb, hmb, hnb, hcb⟩ := hb.shape
  unfold maxLen at hma hmb
  have ga := ha.good
  have gb := hb.good
  by_cases hlen : a.length = b.length
  · have HL : Hid (a.length = b.length) := hlen
    have d0 : ((a.length : Int) != (b.length : Int)) = false := by simp [hlen]
    clear hlen
    go_enter Tryd.func13, Tryd.ntmps13
    go_wp2
    go_loopw [5] (fun i wr => ∃ k : Nat, k ≤ a.length ∧ i = .int .i64 k ∧ a.take k = b.take k ∧ Below w.heap.size w wr) (fun i _ => a.length - (intOf i).toNat)
    case atStart => exact ⟨0, Nat.zero_le _, rfl, by simp, Below.refl _ _⟩
    case round =>
      obtain ⟨k, hk, rfl, heq, hbel⟩ := hrel
      have HQ : Hid (a.take k = b.take k) := heq
      clear heq
      by_cases hlt : k < a.length
      · have hlt' : k < b.length := by rw [← HL.out]; exact hlt
        obtain ⟨b1, off1, rfl, hcell1⟩ := hca (List.ne_nil_of_length_pos (by omega))
        obtain ⟨b2, off2, rfl, hcell2⟩ := hcb (List.ne_nil_of_length_pos (by omega))
        have q1 := (hbel.cell (p := ⟨b1, off1 + k, none⟩) (World.block_lt_of_cell? _ _ (hcell1 k hlt))).trans (hcell1 k hlt)
        have q2 := (hbel.cell (p := ⟨b2, off2 + k, none⟩) (World.block_lt_of_cell? _ _ (hcell2 k hlt'))).trans (hcell2 k hlt')
        clear hca hcb hcell1 hcell2 hna hnb ha hb
        by_cases hxy : a[k] = b[k]
        · have HS : Hid (a.take (k + 1) = b.take (k + 1)) := by
            show _ = _
            rw [List.take_succ_eq_append_getElem hlt, List.take_succ_eq_append_getElem hlt', HQ.out, hxy]
          rw [hxy] at q1
          generalize b[k] = y at *
          have d1 : ((y : Int) != (y : Int)) = false := by simp
          clear hxy
          go_wp2
          go_quiet (fail)
          go_wp2
          go_roundw
          case rel => exact ⟨k + 1, by omega, by go_num, HS.out, below_drewN hbel _⟩
          case measure => simp [intOf]; omega
        · have HN : Hid (¬ a = b) := by
            intro e
            subst e
            exact hxy rfl
          have d1 : ((a[k] : Int) != (b[k] : Int)) = true := by rw [bne_iff_ne]; omega
          generalize a[k] = x at *
          generalize b[k] = y at *
          clear hxy
          go_wp2
          go_quiet (fail)
          go_wp2
          go_ret
          exact ⟨by rw [decide_eq_false HN.out]; rfl, below_drewN hbel _⟩
      · have HE : Hid (a = b) := by
          have h := HQ.out
          rw [List.take_of_length_le (by omega), List.take_of_length_le (by rw [← HL.out]; omega)] at h
          exact h
        go_wp2
        go_ret
        exact ⟨by rw [decide_eq_true HE.out]; rfl, hbel⟩
  · have HN : Hid (¬ a = b) := fun e => hlen (by rw [e])
    have d0 : ((a.length : Int) != (b.length : Int)) = true := by rw [bne_iff_ne]; omega
    clear hlen hca hcb
    go_enter Tryd.func13, Tryd.ntmps13
    go_wp2
    go_ret
    exact ⟨by rw [decide_eq_false HN.out]; rfl, Below.refl _ _⟩

theorem SgsAt.cells {w : World} {v : Value} {l : List Sg} (h : SgsAt w v l) : ∃ ao, ∃ cap : Nat, v = .slice ao l.length cap ∧ l.length ≤ cap ∧ cap ≤ maxLen ∧ ∀ (k : Nat) (s : Sg), l[k]? = some s → ∃ b off, ao = some ⟨b, off, none⟩ ∧ w.cell? ⟨b, off + k * 3, none⟩ = some (.int .i64 s.n) ∧ w.cell? ⟨b, off + k * 3 + 1, none⟩ = some (.int .i64 s.s) ∧ w.cell? ⟨b, off + k * 3 + 2, none⟩ = some (.int .i64 s.c) := by
  obtain ⟨ao, cap, e, h1, h2, hc⟩ := h
  refine ⟨ao, cap, e, h1, h2, fun k s hs => ?_⟩
  obtain ⟨b, off, e2, hr⟩ := hc k s hs
  exact ⟨b, off, e2, hr 0 _ rfl, hr 1 _ rfl, hr 2 _ rfl⟩
set_option maxRecDepth 100000 in
set_option maxHeartbeats 4000000 in
theorem same_yes (m : Mf) (v1 v2 : Value) (w : World) (h1 : SgsAt w v1 m.l) (h2 : SgsAt w v2 m.l) :
    Calls Tryd.prog 12 #[mfv m v1, mfv m v2] w fun e w' => e = .returned (.bool true) ∧ Below w.heap.size w w' := by
  have HS1 : Hid (∀ w', Below w.heap.size w w' → SgsAt w' v1 m.l) := fun w' hb => h1.kept hb
  have HS2 : Hid (∀ w', Below w.heap.size w w' → SgsAt w' v2 m.l) := fun w' hb => h2.kept hb
  obtain ⟨a1, c1, rfl, hc11, hc12, _⟩ := h1
  obtain ⟨a2, c2, rfl, hc21, hc22, _⟩ := h2
  unfold maxLen at hc12 hc22
  obtain ⟨g, vv, x, t, l⟩ := m
  unfold mfv
  simp only at *
  obtain ⟨W, hW⟩ : ∃ W, W = (w.alloc (.cells #[.int .i64 g, .int .i64 vv, .int .i64 x, .int .i64 t, .slice a1 l.length c1] 24)).alloc (.cells #[.int .i64 g, .int .i64 vv, .int .i64 x, .int .i64 t, .slice a2 l.length c2] 24) := ⟨_, rfl⟩
  have HBW : Hid (Below w.heap.size w W ∧ W.heap.size = w.heap.size + 2) := ⟨by rw [hW]; exact up (up0 _ _) _, by rw [hW, heap1, heap1]⟩
  have hm1 : Mb W w.heap.size ⟨g, vv, x, t, []⟩ (.slice a1 l.length c1) := by rw [hW]; exact (mb_new w ⟨g, vv, x, t, []⟩ _ 24).block (alloc_old _ _ _ (by rw [heap1]; omega))
  have hm2 : Mb W (w.heap.size + 1) ⟨g, vv, x, t, []⟩ (.slice a2 l.length c2) := by
    have := mb_new (w.alloc (.cells #[.int .i64 g, .int .i64 vv, .int .i64 x, .int .i64 t, .slice a1 l.length c1] 24)) ⟨g, vv, x, t, []⟩ (.slice a2 l.length c2) 24
    rw [heap1] at this
    rw [hW]
    exact this
  have HCE : Hid (∀ w', Below W.heap.size W w' → w'.cell? ⟨w.heap.size, 4, none⟩ = some (.slice a1 l.length c1) ∧ w'.cell? ⟨w.heap.size + 1, 4, none⟩ = some (.slice a2 l.length c2)) := fun w' hb => ⟨(hm1.block (hb.block _ (by rw [HBW.out.2]; omega))).cells.2.2.2.2, (hm2.block (hb.block _ (by rw [HBW.out.2]; omega))).cells.2.2.2.2⟩
  have HWW : Hid (∀ w', Below W.heap.size W w' → Below w.heap.size w w') := fun w' hb => andThen HBW.out.1 hb
  have HWE : Hid (W = (w.alloc (.cells #[.int .i64 g, .int .i64 vv, .int .i64 x, .int .i64 t, .slice a1 l.length c1] 24)).alloc (.cells #[.int .i64 g, .int .i64 vv, .int .i64 x, .int .i64 t, .slice a2 l.length c2] 24)) := hW
  clear hW hm1 hm2
  go_enter Tryd.func12, Tryd.ntmps12
  go_wp2
  rw [← HWE.out]
  go_loopw [5] (fun i wr => ∃ k : Nat, k ≤ l.length ∧ i = .int .i64 (k : Int) ∧ Below W.heap.size W wr) (fun i _ => l.length - (intOf i).toNat)
  case atStart => exact ⟨0, Nat.zero_le _, rfl, Below.refl _ _⟩
  case round =>
    obtain ⟨k, hk, rfl, hbel⟩ := hrel
    obtain ⟨q1, q2⟩ := HCE.out _ hbel
    by_cases hlt : k < l.length
    · obtain ⟨s, hs⟩ : ∃ s, l[k]? = some s := ⟨l[k], List.getElem?_eq_getElem hlt⟩
      obtain ⟨ao1, cap1, e1, _, _, hr1⟩ := (HS1.out _ (HWW.out _ hbel)).cells
      obtain ⟨ao2, cap2, e2, _, _, hr2⟩ := (HS2.out _ (HWW.out _ hbel)).cells
      simp only [Value.slice.injEq] at e1 e2
      obtain ⟨rfl, _, rfl⟩ := e1
      obtain ⟨rfl, _, rfl⟩ := e2
      obtain ⟨b1, off1, rfl, x0, x1, x2⟩ := hr1 k s hs
      obtain ⟨b2, off2, rfl, y0, y1, y2⟩ := hr2 k s hs
      clear hr1 hr2 HS1 HS2 HCE HWE HWW hs
      obtain ⟨n, z, c⟩ := s
      simp only at x0 x1 x2 y0 y1 y2
      go_wp2
      go_quiet (fail)
      go_wp2
      go_roundw
      case rel => exact ⟨k + 1, by omega, by go_num, below_drewN hbel _⟩
      case measure => simp [intOf]; omega
    · obtain rfl : k = l.length := by omega
      have HB := HWW.out _ hbel
      clear hbel
      go_wp2
      go_ret
      exact ⟨rfl, HB⟩
end Go.Proofs.YtpikdngccgdhiaaDoor

/-
  ManifestOne: cutSegs, small.
-/
namespace Go.Proofs.YtpikdngccgdhiaaDoor
open Go Go.RowKit
open Wb

theorem SgsAt.take {w : World} {ao : Option Addr} {cap : Nat} {l : List Sg} (h : SgsAt w (.slice ao l.length cap) l) (n : Nat) (hn : n ≤ l.length) : SgsAt w (.slice ao n cap) (l.take n) := by
  obtain ⟨ao', cap', e, h1, h2, hc⟩ := h
  simp only [Value.slice.injEq] at e
  obtain ⟨rfl, _, rfl⟩ := e
  refine ⟨ao, cap, by rw [List.length_take, Nat.min_eq_left hn], by rw [List.length_take]; omega, h2, fun k s hs => hc k s ?_⟩
  have hk := (List.getElem?_eq_some_iff.1 hs).1
  rw [List.length_take] at hk
  rw [List.getElem?_take] at hs
  rw [if_pos (by omega)] at hs
  exact hs
set_option maxRecDepth 100000 in
set_option maxHeartbeats 4000000 in
theorem cutSegs_any (m : Mf) (v : Value) (w0 w : World) (h : SgsAt w0 v m.l) :
    Calls Tryd.prog 7 #[mfv m v] w fun e w' => ∃ v', e = .returned (mfv ⟨m.g, m.v, m.x, m.t, m.l.take 300⟩ v') ∧ (∀ w'', Below w0.heap.size w0 w'' → SgsAt w'' v' (m.l.take 300)) ∧ Below w.heap.size w w' := by
  have HS : Hid (SgsAt w0 v m.l) := h
  obtain ⟨ao, cap, rfl, hc1, hc2, _⟩ := h
  unfold maxLen at hc2
  obtain ⟨g, vv, x, t, l⟩ := m
  unfold mfv
  simp only at *
  by_cases h3 : 300 < l.length
  · have HK : Hid (∀ w', Below w0.heap.size w0 w' → SgsAt w' (.slice ao 300 cap) (l.take 300)) := fun w' hb => (HS.out.kept hb).take 300 (by omega)
    clear HS
    go_enter Tryd.func7, Tryd.ntmps7
    go_wp2
    go_returns
    exact ⟨_, rfl, HK.out, by go_grown⟩
  · have HT : Hid (l.take 300 = l) := List.take_of_length_le (by omega)
    have HK : Hid (∀ w', Below w0.heap.size w0 w' → SgsAt w' (.slice ao l.length cap) l) := fun w' hb => HS.out.kept hb
    rw [HT.out]
    clear HS HT
    go_enter Tryd.func7, Tryd.ntmps7
    go_wp2
    go_returns
    exact ⟨_, rfl, HK.out, by go_grown⟩
def smallM : Mf := ⟨1, 3, 2, 0, [⟨1, 0, 0⟩]⟩
theorem small_ok : chkM smallM = 0 := by decide
set_option maxRecDepth 100000 in
theorem small_any (w : World) : Calls Tryd.prog 9 #[] w fun e w' => ∃ v, e = .returned (mfv smallM v) ∧ SgsAt w' v smallM.l ∧ Below w.heap.size w w' := by
  unfold mfv smallM
  simp only
  go_enter Tryd.func9, Tryd.ntmps9
  go_wp2
  go_returns
  refine ⟨_, rfl, ?_, by go_grown⟩
  refine ⟨_, 1, rfl, by simp, by simp [maxLen], fun k s hs => ?_⟩
  obtain rfl : k = 0 := by
    have := (List.getElem?_eq_some_iff.1 hs).1
    simpa using this
  simp at hs
  subst hs
  refine ⟨_, _, rfl, fun j u hj => ?_⟩
  have h9 := World.cell?_alloc_new (w.alloc (.cells #[.int .i64 1, .int .i64 3, .int .i64 2, .int .i64 0, .slice (some ⟨w.heap.size + 1, 0, none⟩) 1 1] 24)) #[.int .i64 1, .int .i64 0, .int .i64 0] 46 j
  rw [heap1] at h9
  rw [show 0 + 0 * 3 + j = j by omega, h9]
  simpa [sgc] using hj
end Go.Proofs.YtpikdngccgdhiaaDoor

/-
  ManifestOne: the law.
-/
namespace Go.Proofs.YtpikdngccgdhiaaDoor
open Go Go.RowKit
open Wb

theorem bs_take {w : World} {ao : Option Addr} {cap : Nat} {l : List Nat} (h : Bs w (.slice ao l.length cap) l) (n : Nat) (hn : n ≤ l.length) : Bs w (.slice ao n cap) (l.take n) := by
  obtain ⟨ao', cap', e, h1, h2, h3, hc⟩ := h.shape
  simp only [Value.slice.injEq] at e
  obtain ⟨rfl, _, rfl⟩ := e
  refine ⟨⟨ao, cap, by rw [List.length_take, Nat.min_eq_left hn], by rw [List.length_take]; omega, h2, h3, fun hne => ?_⟩, fun x hx => h.good x (List.mem_of_mem_take hx)⟩
  obtain ⟨b, off, e, hcell⟩ := hc (fun e => hne (by rw [e]; simp))
  refine ⟨b, off, e, fun j hj => ?_⟩
  rw [List.length_take] at hj
  rw [hcell j (by omega)]
  simp
theorem decM_zero (b : List Nat) (h : (decM b).2 ≠ 0) : (decM b).1 = zeroM := by
  unfold decM at h ⊢
  split
  · rfl
  · split
    · rfl
    · split
      · rfl
      · split
        · rfl
        · rename_i h1 h2 h3 h4
          rw [if_neg h1, if_neg h2, if_neg h3, if_neg h4] at h
          exact absurd rfl h
set_option maxRecDepth 100000 in
set_option maxHeartbeats 8000000 in
theorem mone_any (m : Mf) (v bw : Value) (b : List Nat) (w : World) (hT : Tab w) (h : SgsAt w v m.l) (hb : Bs w bw b) (ht : m.t ≤ 9223372036854775807) :
    Calls Tryd.prog 3 #[mfv m v, bw] w fun e w' => e = .returned (.bool true) ∧ Below w.heap.size w w' := by
  have HTB : Hid (∀ w', Below w.heap.size w w' → Tab w') := fun w' hb => hT.kept hb
  obtain ⟨ab, cb, rfl, hb1, hb2, hb3, _⟩ := hb.shape
  unfold maxLen at hb2
  have HBS : Hid (∀ w', Below w.heap.size w w' → Bs w' (.slice ab b.length cb) b) := fun w' h => hb.kept h
  have HCU : Hid (∀ w', Below w.heap.size w w' → Calls Tryd.prog 7 #[mfv m v] w' fun e w'' => ∃ v', e = .returned (mfv ⟨m.g, m.v, m.x, m.t, m.l.take 300⟩ v') ∧ (∀ w2, Below w.heap.size w w2 → SgsAt w2 v' (m.l.take 300)) ∧ Below w'.heap.size w' w'') := fun w' _ => cutSegs_any m v w w' h
  have HSM : Hid (∀ w', Calls Tryd.prog 9 #[] w' fun e w'' => ∃ v, e = .returned (.agg #[.int .i64 1, .int .i64 3, .int .i64 2, .int .i64 0, v]) ∧ SgsAt w'' v smallM.l ∧ Below w'.heap.size w' w'') := fun w' => small_any w'
  have HCS : Hid (∀ w' v, SgsAt w' v smallM.l → Calls Tryd.prog 8 #[.agg #[.int .i64 1, .int .i64 3, .int .i64 2, .int .i64 0, v]] w' fun e w'' => e = .returned (.int .i64 0) ∧ Below w'.heap.size w' w'') := fun w' v hs => by
    have h9 := check_any smallM v w' hs
    rw [small_ok] at h9
    exact h9
  obtain ⟨ao, cap, rfl, _, _, _⟩ := h
  obtain ⟨g, vv, x, t, l⟩ := m
  unfold mfv at HCU ⊢
  simp only at *
  generalize l.take 300 = lt at *
  have HMB : Hid (∀ w', Below (w.alloc (.cells #[.int .i64 g, .int .i64 vv, .int .i64 x, .int .i64 t, .slice ao l.length cap] 24)).heap.size (w.alloc (.cells #[.int .i64 g, .int .i64 vv, .int .i64 x, .int .i64 t, .slice ao l.length cap] 24)) w' → Mb w' w.heap.size ⟨g, vv, x, t, []⟩ (.slice ao l.length cap)) := fun w' h => (mb_new w ⟨g, vv, x, t, []⟩ _ 24).block (h.block _ (by rw [heap1]; omega))
  have HW0 : Hid (∀ w', Below (w.alloc (.cells #[.int .i64 g, .int .i64 vv, .int .i64 x, .int .i64 t, .slice ao l.length cap] 24)).heap.size (w.alloc (.cells #[.int .i64 g, .int .i64 vv, .int .i64 x, .int .i64 t, .slice ao l.length cap] 24)) w' → Below w.heap.size w w') := fun w' h => andThen (up0 w _) h
  have HOK : Hid (ok b) := hb.good
  clear hb hT
  go_enter Tryd.func3, Tryd.ntmps3
  go_wp2_with fail
  refine (HCU.out _ (up0 _ _)).mono ?_
  rintro e w1 ⟨v1, rfl, hs1, b1⟩
  obtain ⟨a1, c1, e1⟩ : ∃ a1, ∃ c1 : Nat, v1 = .slice a1 lt.length c1 := by
    obtain ⟨a1, c1, e, _⟩ := hs1 w (Below.refl _ _)
    exact ⟨a1, c1, e⟩
  subst e1
  have hm1 := HMB.out _ b1
  obtain ⟨r0, r1, r2, r3, r4⟩ := hm1.cells
  simp only at r0 r1 r2 r3 r4
  have z0 := hm1.frozen 0
  have z1 := hm1.frozen 1
  have z2 := hm1.frozen 2
  have z3 := hm1.frozen 3
  have z4 := hm1.frozen 4
  obtain ⟨W, hW⟩ : ∃ W, W = store5 w1 w.heap.size ⟨g, vv, x, t, lt⟩ (.slice a1 lt.length c1) := ⟨_, rfl⟩
  have hWM : Mb W w.heap.size ⟨g, vv, x, t, lt⟩ (.slice a1 lt.length c1) := by rw [hW]; exact hm1.store ⟨g, vv, x, t, lt⟩ _
  have hWB : Below w.heap.size w W := by rw [hW]; exact store5_below (HW0.out _ b1) (Nat.le_refl _) _ _
  have hWS : W.heap.size = w1.heap.size := by rw [hW]; simp [store5, World.setCell]
  have hWL : w.heap.size < W.heap.size := by
    have h9 := b1.size
    rw [heap1] at h9
    omega
  have hWG : SgsAt W (.slice a1 lt.length c1) lt := hs1 W hWB
  have HBX : Hid (∀ w', Below W.heap.size W w' → w'.cell? ⟨w.heap.size, 0, none⟩ = some (.int .i64 g) ∧ w'.cell? ⟨w.heap.size, 1, none⟩ = some (.int .i64 vv) ∧ w'.cell? ⟨w.heap.size, 2, none⟩ = some (.int .i64 x) ∧ w'.cell? ⟨w.heap.size, 3, none⟩ = some (.int .i64 t) ∧ w'.cell? ⟨w.heap.size, 4, none⟩ = some (.slice a1 lt.length c1)) := fun w' hb => (hWM.block (hb.block _ hWL)).cells
  have HBE : Hid (∀ w', Below W.heap.size W w' → Below w.heap.size w w') := fun w' hb => andThen hWB hb
  have HLT : Hid (∀ w', Below W.heap.size W w' → SgsAt w' (.slice a1 lt.length c1) lt) := fun w' hb => hWG.kept hb
  have HWE : Hid (W = (((((w1.setCell ⟨w.heap.size, 0, none⟩ (.int .i64 g)).setCell ⟨w.heap.size, 1, none⟩ (.int .i64 vv)).setCell ⟨w.heap.size, 2, none⟩ (.int .i64 x)).setCell ⟨w.heap.size, 3, none⟩ (.int .i64 t)).setCell ⟨w.heap.size, 4, none⟩ (.slice a1 lt.length c1))) := hW
  clear hm1 b1 hs1 HMB HCU hW hWM hWB hWS hWL hWG HW0
  by_cases h6 : 65536 < b.length
  · obtain ⟨bb, hbb⟩ : ∃ bb, bb = b.take 65536 := ⟨_, rfl⟩
    have HBB : Hid (∀ w', Below w.heap.size w w' → Bs w' (.slice ab 65536 cb) bb) := fun w' hb => by
      rw [hbb]
      exact bs_take (HBS.out _ hb) 65536 (by omega)
    have HBLN : Hid (bb.length ≤ 65536 ∧ ok bb) := by
      rw [hbb]
      exact ⟨by rw [List.length_take]; omega, fun x hx => HOK.out x (List.mem_of_mem_take hx)⟩
    rcases hrm : decM bb with ⟨rm, re⟩
    have HRM : Hid (re = 0 → chkM rm = 0 ∧ rm.t ≤ 9223372036854775807 ∧ encM rm = bb) := fun h0 => by
      have h9 := enc_dec bb HBLN.out.2 rm (by rw [hrm, h0])
      exact ⟨h9.1, h9.2.2, h9.2.1⟩
    have HRZ : Hid (re ≠ 0 → rm = zeroM) := fun h0 => by
      have h9 := decM_zero bb (by rw [hrm]; exact h0)
      rw [hrm] at h9
      exact h9
    have HDB : Hid (∀ w', Below W.heap.size W w' → Calls Tryd.prog 11 #[.slice ab 65536 cb] w' fun e w'' => ∃ sv, e = .returned (.tuple #[mfv rm sv, .int .i64 (re : Int)]) ∧ SgR w'.heap.size w'' sv rm.l ∧ Below w'.heap.size w' w'') := fun w' hb => by
      have h9 := decode_any _ bb w' (HTB.out _ (HBE.out _ hb)) (HBB.out _ (HBE.out _ hb)) (by have := HBLN.out.1; omega)
      rw [hrm] at h9
      exact h9
    clear hrm hbb HBS
    unfold mfv at HDB
    go_wp2_with fail
    rw [← HWE.out]
    clear HWE r0 r1 r2 r3 r4 z0 z1 z2 z3 z4
    refine (HSM.out W).mono ?_
    rintro e w2 ⟨vs, rfl, hss, b2⟩
    obtain ⟨aS, cs, es⟩ : ∃ aS, ∃ cs : Nat, vs = .slice aS 1 cs := by
      obtain ⟨aS, cs, e, _⟩ := hss
      exact ⟨aS, cs, e⟩
    subst es
    have HS2 : Hid (SgsAt w2 (.slice aS 1 cs) smallM.l) := hss
    clear hss
    go_wp2_with fail
    refine (HCS.out _ _ HS2.out).mono ?_
    rintro e w3 ⟨rfl, b3⟩
    have B3 := andThen b2 b3
    clear b2 b3 HS2
    obtain ⟨q0, q1, q2, q3, q4⟩ := HBX.out _ B3
    by_cases hc : chkM ⟨g, vv, x, t, lt⟩ = 0
    · have HEG : Hid (Calls Tryd.prog 10 #[.agg #[.int .i64 g, .int .i64 vv, .int .i64 x, .int .i64 t, .slice a1 lt.length c1]] w3 fun e w' => ∃ v', e = .returned (.tuple #[v', .int .i64 0]) ∧ Own w3.heap.size w' v' (encM ⟨g, vv, x, t, lt⟩) ∧ Below w3.heap.size w3 w') := encode_good ⟨g, vv, x, t, lt⟩ _ w3 (HTB.out _ (HBE.out _ B3)) (HLT.out _ B3) hc ht
      have HCK : Hid (∀ w', Below W.heap.size W w' → Calls Tryd.prog 8 #[.agg #[.int .i64 g, .int .i64 vv, .int .i64 x, .int .i64 t, .slice a1 lt.length c1]] w' fun e w'' => e = .returned (.int .i64 0) ∧ Below w'.heap.size w' w'') := fun w' hb => by
        have h9 := check_any ⟨g, vv, x, t, lt⟩ _ w' (HLT.out _ hb)
        rw [hc] at h9
        exact h9
      have HDC : Hid (∀ w' cv, Below W.heap.size W w' → Bs w' cv (encM ⟨g, vv, x, t, lt⟩) → Calls Tryd.prog 11 #[cv] w' fun e w'' => ∃ sv, e = .returned (.tuple #[mfv ⟨g, vv, x, t, lt⟩ sv, .int .i64 0]) ∧ SgR w'.heap.size w'' sv lt ∧ Below w'.heap.size w' w'') := fun w' cv hb hs => by
        have h9 := decode_any cv (encM ⟨g, vv, x, t, lt⟩) w' (HTB.out _ (HBE.out _ hb)) hs (by
          have := bodyM_len hc ht
          unfold encM
          rw [fr_length]
          have h8 := Wn.uint_len3 (bodyM ⟨g, vv, x, t, lt⟩).length (by omega)
          omega)
        rw [dec_enc _ hc ht] at h9
        exact h9
      have HSY : Hid (∀ w' sv, Below W.heap.size W w' → SgsAt w' sv lt → Calls Tryd.prog 12 #[mfv ⟨g, vv, x, t, lt⟩ sv, .agg #[.int .i64 g, .int .i64 vv, .int .i64 x, .int .i64 t, .slice a1 lt.length c1]] w' fun e w'' => e = .returned (.bool true) ∧ Below w'.heap.size w' w'') := fun w' sv hb hs => same_yes ⟨g, vv, x, t, lt⟩ sv _ w' hs (HLT.out _ hb)
      clear hc
      unfold mfv at HDC HSY
      simp only at HDC HSY
      generalize encM ⟨g, vv, x, t, lt⟩ = enc at *
      go_wp2_with fail
      refine HEG.out.mono ?_
      rintro e w4 ⟨v4, rfl, ho4, b4⟩
      obtain ⟨a4, n4, c4, e4⟩ := own_slice ho4
      subst e4
      have B4 := andThen B3 b4
      have HO4 : Hid (Own w3.heap.size w4 (.slice a4 n4 c4) enc) := ho4
      obtain ⟨s0, s1, s2, s3, s4⟩ := HBX.out _ B4
      clear q0 q1 q2 q3 q4 b4 HEG ho4
      go_wp2_with fail
      refine (HCK.out _ B4).mono ?_
      rintro e w5 ⟨rfl, b5⟩
      have B5 := andThen B4 b5
      have HO5 : Hid (Bs w5 (.slice a4 n4 c4) enc) := (HO4.out.kept b5).bs
      clear s0 s1 s2 s3 s4 b5 HCK HO4
      go_wp2_with fail
      refine (HDC.out _ _ B5 HO5.out).mono ?_
      rintro e w6 ⟨sv, rfl, hs6, b6⟩
      have B6 := andThen B5 b6
      obtain ⟨a6, c6, e6⟩ : ∃ a6, ∃ c6 : Nat, sv = .slice a6 lt.length c6 := by
        obtain ⟨a6, c6, e, _⟩ := hs6.at
        exact ⟨a6, c6, e⟩
      subst e6
      have HS6 : Hid (∀ o, SgsAt (w6.alloc o) (.slice a6 lt.length c6) lt ∧ Below W.heap.size W (w6.alloc o)) := fun o => ⟨(hs6.kept (up0 _ _)).at, up B6 o⟩
      have s0 := fun o => (HBX.out _ (up B6 o)).1
      have s1 := fun o => (HBX.out _ (up B6 o)).2.1
      have s2 := fun o => (HBX.out _ (up B6 o)).2.2.1
      have s3 := fun o => (HBX.out _ (up B6 o)).2.2.2.1
      have s4 := fun o => (HBX.out _ (up B6 o)).2.2.2.2
      clear hs6 b6 HDC HO5 B6
      go_wp2_with fail
      refine (HSY.out _ _ (HS6.out _).2 (HS6.out _).1).mono ?_
      rintro e w7 ⟨rfl, b7⟩
      have B7 := andThen (HS6.out _).2 b7
      clear s0 s1 s2 s3 s4 b7 HS6 HSY
      go_wp2_with fail
      refine (HDB.out _ B7).mono ?_
      rintro e wd ⟨sv2, rfl, hsd, bd⟩
      have Bd := andThen B7 bd
      obtain ⟨as2, cs2, es2⟩ : ∃ as2, ∃ cs2 : Nat, sv2 = .slice as2 rm.l.length cs2 := by
        obtain ⟨as2, cs2, e, _⟩ := hsd.at
        exact ⟨as2, cs2, e⟩
      subst es2
      have HSD : Hid (∀ o, SgsAt (wd.alloc o) (.slice as2 rm.l.length cs2) rm.l ∧ Below W.heap.size W (wd.alloc o)) := fun o => ⟨(hsd.kept (up0 _ _)).at, up Bd o⟩
      clear hsd bd B7
      by_cases hre : re = 0
      · subst hre
        obtain ⟨hrc, hrt, hre⟩ := HRM.out rfl
        have HEG : Hid (∀ w' sv, Below W.heap.size W w' → SgsAt w' sv rm.l → Calls Tryd.prog 10 #[mfv rm sv] w' fun e w'' => ∃ v', e = .returned (.tuple #[v', .int .i64 0]) ∧ Own w'.heap.size w'' v' bb ∧ Below w'.heap.size w' w'') := fun w' sv hb hs => by
          have h9 := encode_good rm sv w' (HTB.out _ (HBE.out _ hb)) hs hrc hrt
          rw [hre] at h9
          exact h9
        clear hrc hrt hre HRM
        obtain ⟨rg, rv, rx, rt, rl⟩ := rm
        simp only at *
        unfold mfv at *
        go_wp2_with fail
        refine (HEG.out _ _ (HSD.out _).2 (HSD.out _).1).mono ?_
        rintro e we ⟨v9, rfl, ho9, b9⟩
        have B9 := andThen (HSD.out _).2 b9
        obtain ⟨a9, n9, c9, e9⟩ := own_slice ho9
        subst e9
        have HSB : Hid (Calls Tryd.prog 13 #[(.slice ab 65536 cb), .slice a9 n9 c9] we fun e w'' => e = .returned (.bool true) ∧ Below we.heap.size we w'') := by
          have h9 := sameB_any (.slice ab 65536 cb) (.slice a9 n9 c9) bb bb we (HBB.out _ (HBE.out _ B9)) ho9.bs
          rw [decide_eq_true rfl] at h9
          exact h9
        clear ho9 b9 HSD HEG
        go_wp2_with fail
        refine HSB.out.mono ?_
        rintro e wf ⟨rfl, bf⟩
        have HB10 := HBE.out _ (andThen B9 bf)
        clear bf B9
        go_wp2
        go_ret
        exact ⟨rfl, HB10⟩
      · have hrz : ¬ (re : Int) = 0 := by omega
        have hr0 := HRZ.out hre
        subst hr0
        have HSY : Hid (∀ w', Below W.heap.size W w' → SgsAt w' (.slice as2 zeroM.l.length cs2) zeroM.l → Calls Tryd.prog 12 #[mfv zeroM (.slice as2 zeroM.l.length cs2), mfv zeroM (.slice none 0 0)] w' fun e w'' => e = .returned (.bool true) ∧ Below w'.heap.size w' w'') := fun w' _ hs => same_yes zeroM _ _ w' hs ⟨none, 0, rfl, Nat.le_refl _, Nat.zero_le _, fun k s hk => by simp [zeroM] at hk⟩
        clear HRM HRZ hre
        unfold mfv zeroM at *
        simp only [List.length_nil] at *
        go_wp2_with fail
        refine (HSY.out _ (HSD.out _).2 (HSD.out _).1).mono ?_
        rintro e we ⟨rfl, b9⟩
        have HB10 := HBE.out _ (andThen (HSD.out _).2 b9)
        clear HSD HSY b9
        go_wp2
        go_ret
        exact ⟨rfl, HB10⟩
    · have HEG : Hid (Calls Tryd.prog 10 #[.agg #[.int .i64 g, .int .i64 vv, .int .i64 x, .int .i64 t, .slice a1 lt.length c1]] w3 fun e w' => e = .returned (.tuple #[.slice none 0 0, .int .i64 (chkM ⟨g, vv, x, t, lt⟩ : Int)]) ∧ Below w3.heap.size w3 w') := encode_bad ⟨g, vv, x, t, lt⟩ _ w3 (HLT.out _ B3) hc
      have HCK : Hid (∀ w', Below W.heap.size W w' → Calls Tryd.prog 8 #[.agg #[.int .i64 g, .int .i64 vv, .int .i64 x, .int .i64 t, .slice a1 lt.length c1]] w' fun e w'' => e = .returned (.int .i64 (chkM ⟨g, vv, x, t, lt⟩ : Int)) ∧ Below w'.heap.size w' w'') := fun w' hb => check_any ⟨g, vv, x, t, lt⟩ _ w' (HLT.out _ hb)
      obtain ⟨ce, hce⟩ : ∃ ce : Int, ce = (chkM ⟨g, vv, x, t, lt⟩ : Int) := ⟨_, rfl⟩
      have hcz : ¬ ce = 0 := by omega
      rw [← hce] at HEG HCK
      clear hc hce
      go_wp2_with fail
      refine HEG.out.mono ?_
      rintro e w4 ⟨rfl, b4⟩
      have B4 := andThen B3 b4
      obtain ⟨s0, s1, s2, s3, s4⟩ := HBX.out _ B4
      clear q0 q1 q2 q3 q4 b4 HEG
      go_wp2_with fail
      refine (HCK.out _ B4).mono ?_
      rintro e w5 ⟨rfl, b5⟩
      have B5 := andThen B4 b5
      clear s0 s1 s2 s3 s4 b5 HCK
      go_wp2_with fail
      refine (HDB.out _ B5).mono ?_
      rintro e wd ⟨sv2, rfl, hsd, bd⟩
      have Bd := andThen B5 bd
      obtain ⟨as2, cs2, es2⟩ : ∃ as2, ∃ cs2 : Nat, sv2 = .slice as2 rm.l.length cs2 := by
        obtain ⟨as2, cs2, e, _⟩ := hsd.at
        exact ⟨as2, cs2, e⟩
      subst es2
      have HSD : Hid (∀ o, SgsAt (wd.alloc o) (.slice as2 rm.l.length cs2) rm.l ∧ Below W.heap.size W (wd.alloc o)) := fun o => ⟨(hsd.kept (up0 _ _)).at, up Bd o⟩
      clear hsd bd B5
      by_cases hre : re = 0
      · subst hre
        obtain ⟨hrc, hrt, hre⟩ := HRM.out rfl
        have HEG : Hid (∀ w' sv, Below W.heap.size W w' → SgsAt w' sv rm.l → Calls Tryd.prog 10 #[mfv rm sv] w' fun e w'' => ∃ v', e = .returned (.tuple #[v', .int .i64 0]) ∧ Own w'.heap.size w'' v' bb ∧ Below w'.heap.size w' w'') := fun w' sv hb hs => by
          have h9 := encode_good rm sv w' (HTB.out _ (HBE.out _ hb)) hs hrc hrt
          rw [hre] at h9
          exact h9
        clear hrc hrt hre HRM
        obtain ⟨rg, rv, rx, rt, rl⟩ := rm
        simp only at *
        unfold mfv at *
        go_wp2_with fail
        refine (HEG.out _ _ (HSD.out _).2 (HSD.out _).1).mono ?_
        rintro e we ⟨v9, rfl, ho9, b9⟩
        have B9 := andThen (HSD.out _).2 b9
        obtain ⟨a9, n9, c9, e9⟩ := own_slice ho9
        subst e9
        have HSB : Hid (Calls Tryd.prog 13 #[(.slice ab 65536 cb), .slice a9 n9 c9] we fun e w'' => e = .returned (.bool true) ∧ Below we.heap.size we w'') := by
          have h9 := sameB_any (.slice ab 65536 cb) (.slice a9 n9 c9) bb bb we (HBB.out _ (HBE.out _ B9)) ho9.bs
          rw [decide_eq_true rfl] at h9
          exact h9
        clear ho9 b9 HSD HEG
        go_wp2_with fail
        refine HSB.out.mono ?_
        rintro e wf ⟨rfl, bf⟩
        have HB10 := HBE.out _ (andThen B9 bf)
        clear bf B9
        go_wp2
        go_ret
        exact ⟨rfl, HB10⟩
      · have hrz : ¬ (re : Int) = 0 := by omega
        have hr0 := HRZ.out hre
        subst hr0
        have HSY : Hid (∀ w', Below W.heap.size W w' → SgsAt w' (.slice as2 zeroM.l.length cs2) zeroM.l → Calls Tryd.prog 12 #[mfv zeroM (.slice as2 zeroM.l.length cs2), mfv zeroM (.slice none 0 0)] w' fun e w'' => e = .returned (.bool true) ∧ Below w'.heap.size w' w'') := fun w' _ hs => same_yes zeroM _ _ w' hs ⟨none, 0, rfl, Nat.le_refl _, Nat.zero_le _, fun k s hk => by simp [zeroM] at hk⟩
        clear HRM HRZ hre
        unfold mfv zeroM at *
        simp only [List.length_nil] at *
        go_wp2_with fail
        refine (HSY.out _ (HSD.out _).2 (HSD.out _).1).mono ?_
        rintro e we ⟨rfl, b9⟩
        have HB10 := HBE.out _ (andThen (HSD.out _).2 b9)
        clear HSD HSY b9
        go_wp2
        go_ret
        exact ⟨rfl, HB10⟩
  · obtain ⟨bb, hbb⟩ : ∃ bb, bb = b := ⟨_, rfl⟩
    have HBB : Hid (∀ w', Below w.heap.size w w' → Bs w' (.slice ab b.length cb) bb) := fun w' hb => by
      rw [hbb]
      exact HBS.out _ hb
    have HBLN : Hid (bb.length ≤ 65536 ∧ ok bb) := by
      rw [hbb]
      exact ⟨by omega, HOK.out⟩
    rcases hrm : decM bb with ⟨rm, re⟩
    have HRM : Hid (re = 0 → chkM rm = 0 ∧ rm.t ≤ 9223372036854775807 ∧ encM rm = bb) := fun h0 => by
      have h9 := enc_dec bb HBLN.out.2 rm (by rw [hrm, h0])
      exact ⟨h9.1, h9.2.2, h9.2.1⟩
    have HRZ : Hid (re ≠ 0 → rm = zeroM) := fun h0 => by
      have h9 := decM_zero bb (by rw [hrm]; exact h0)
      rw [hrm] at h9
      exact h9
    have HDB : Hid (∀ w', Below W.heap.size W w' → Calls Tryd.prog 11 #[.slice ab b.length cb] w' fun e w'' => ∃ sv, e = .returned (.tuple #[mfv rm sv, .int .i64 (re : Int)]) ∧ SgR w'.heap.size w'' sv rm.l ∧ Below w'.heap.size w' w'') := fun w' hb => by
      have h9 := decode_any _ bb w' (HTB.out _ (HBE.out _ hb)) (HBB.out _ (HBE.out _ hb)) (by have := HBLN.out.1; omega)
      rw [hrm] at h9
      exact h9
    clear hrm hbb HBS
    unfold mfv at HDB
    go_wp2_with fail
    rw [← HWE.out]
    clear HWE r0 r1 r2 r3 r4 z0 z1 z2 z3 z4
    refine (HSM.out W).mono ?_
    rintro e w2 ⟨vs, rfl, hss, b2⟩
    obtain ⟨aS, cs, es⟩ : ∃ aS, ∃ cs : Nat, vs = .slice aS 1 cs := by
      obtain ⟨aS, cs, e, _⟩ := hss
      exact ⟨aS, cs, e⟩
    subst es
    have HS2 : Hid (SgsAt w2 (.slice aS 1 cs) smallM.l) := hss
    clear hss
    go_wp2_with fail
    refine (HCS.out _ _ HS2.out).mono ?_
    rintro e w3 ⟨rfl, b3⟩
    have B3 := andThen b2 b3
    clear b2 b3 HS2
    obtain ⟨q0, q1, q2, q3, q4⟩ := HBX.out _ B3
    by_cases hc : chkM ⟨g, vv, x, t, lt⟩ = 0
    · have HEG : Hid (Calls Tryd.prog 10 #[.agg #[.int .i64 g, .int .i64 vv, .int .i64 x, .int .i64 t, .slice a1 lt.length c1]] w3 fun e w' => ∃ v', e = .returned (.tuple #[v', .int .i64 0]) ∧ Own w3.heap.size w' v' (encM ⟨g, vv, x, t, lt⟩) ∧ Below w3.heap.size w3 w') := encode_good ⟨g, vv, x, t, lt⟩ _ w3 (HTB.out _ (HBE.out _ B3)) (HLT.out _ B3) hc ht
      have HCK : Hid (∀ w', Below W.heap.size W w' → Calls Tryd.prog 8 #[.agg #[.int .i64 g, .int .i64 vv, .int .i64 x, .int .i64 t, .slice a1 lt.length c1]] w' fun e w'' => e = .returned (.int .i64 0) ∧ Below w'.heap.size w' w'') := fun w' hb => by
        have h9 := check_any ⟨g, vv, x, t, lt⟩ _ w' (HLT.out _ hb)
        rw [hc] at h9
        exact h9
      have HDC : Hid (∀ w' cv, Below W.heap.size W w' → Bs w' cv (encM ⟨g, vv, x, t, lt⟩) → Calls Tryd.prog 11 #[cv] w' fun e w'' => ∃ sv, e = .returned (.tuple #[mfv ⟨g, vv, x, t, lt⟩ sv, .int .i64 0]) ∧ SgR w'.heap.size w'' sv lt ∧ Below w'.heap.size w' w'') := fun w' cv hb hs => by
        have h9 := decode_any cv (encM ⟨g, vv, x, t, lt⟩) w' (HTB.out _ (HBE.out _ hb)) hs (by
          have := bodyM_len hc ht
          unfold encM
          rw [fr_length]
          have h8 := Wn.uint_len3 (bodyM ⟨g, vv, x, t, lt⟩).length (by omega)
          omega)
        rw [dec_enc _ hc ht] at h9
        exact h9
      have HSY : Hid (∀ w' sv, Below W.heap.size W w' → SgsAt w' sv lt → Calls Tryd.prog 12 #[mfv ⟨g, vv, x, t, lt⟩ sv, .agg #[.int .i64 g, .int .i64 vv, .int .i64 x, .int .i64 t, .slice a1 lt.length c1]] w' fun e w'' => e = .returned (.bool true) ∧ Below w'.heap.size w' w'') := fun w' sv hb hs => same_yes ⟨g, vv, x, t, lt⟩ sv _ w' hs (HLT.out _ hb)
      clear hc
      unfold mfv at HDC HSY
      simp only at HDC HSY
      generalize encM ⟨g, vv, x, t, lt⟩ = enc at *
      go_wp2_with fail
      refine HEG.out.mono ?_
      rintro e w4 ⟨v4, rfl, ho4, b4⟩
      obtain ⟨a4, n4, c4, e4⟩ := own_slice ho4
      subst e4
      have B4 := andThen B3 b4
      have HO4 : Hid (Own w3.heap.size w4 (.slice a4 n4 c4) enc) := ho4
      obtain ⟨s0, s1, s2, s3, s4⟩ := HBX.out _ B4
      clear q0 q1 q2 q3 q4 b4 HEG ho4
      go_wp2_with fail
      refine (HCK.out _ B4).mono ?_
      rintro e w5 ⟨rfl, b5⟩
      have B5 := andThen B4 b5
      have HO5 : Hid (Bs w5 (.slice a4 n4 c4) enc) := (HO4.out.kept b5).bs
      clear s0 s1 s2 s3 s4 b5 HCK HO4
      go_wp2_with fail
      refine (HDC.out _ _ B5 HO5.out).mono ?_
      rintro e w6 ⟨sv, rfl, hs6, b6⟩
      have B6 := andThen B5 b6
      obtain ⟨a6, c6, e6⟩ : ∃ a6, ∃ c6 : Nat, sv = .slice a6 lt.length c6 := by
        obtain ⟨a6, c6, e, _⟩ := hs6.at
        exact ⟨a6, c6, e⟩
      subst e6
      have HS6 : Hid (∀ o, SgsAt (w6.alloc o) (.slice a6 lt.length c6) lt ∧ Below W.heap.size W (w6.alloc o)) := fun o => ⟨(hs6.kept (up0 _ _)).at, up B6 o⟩
      have s0 := fun o => (HBX.out _ (up B6 o)).1
      have s1 := fun o => (HBX.out _ (up B6 o)).2.1
      have s2 := fun o => (HBX.out _ (up B6 o)).2.2.1
      have s3 := fun o => (HBX.out _ (up B6 o)).2.2.2.1
      have s4 := fun o => (HBX.out _ (up B6 o)).2.2.2.2
      clear hs6 b6 HDC HO5 B6
      go_wp2_with fail
      refine (HSY.out _ _ (HS6.out _).2 (HS6.out _).1).mono ?_
      rintro e w7 ⟨rfl, b7⟩
      have B7 := andThen (HS6.out _).2 b7
      clear s0 s1 s2 s3 s4 b7 HS6 HSY
      go_wp2_with fail
      refine (HDB.out _ B7).mono ?_
      rintro e wd ⟨sv2, rfl, hsd, bd⟩
      have Bd := andThen B7 bd
      obtain ⟨as2, cs2, es2⟩ : ∃ as2, ∃ cs2 : Nat, sv2 = .slice as2 rm.l.length cs2 := by
        obtain ⟨as2, cs2, e, _⟩ := hsd.at
        exact ⟨as2, cs2, e⟩
      subst es2
      have HSD : Hid (∀ o, SgsAt (wd.alloc o) (.slice as2 rm.l.length cs2) rm.l ∧ Below W.heap.size W (wd.alloc o)) := fun o => ⟨(hsd.kept (up0 _ _)).at, up Bd o⟩
      clear hsd bd B7
      by_cases hre : re = 0
      · subst hre
        obtain ⟨hrc, hrt, hre⟩ := HRM.out rfl
        have HEG : Hid (∀ w' sv, Below W.heap.size W w' → SgsAt w' sv rm.l → Calls Tryd.prog 10 #[mfv rm sv] w' fun e w'' => ∃ v', e = .returned (.tuple #[v', .int .i64 0]) ∧ Own w'.heap.size w'' v' bb ∧ Below w'.heap.size w' w'') := fun w' sv hb hs => by
          have h9 := encode_good rm sv w' (HTB.out _ (HBE.out _ hb)) hs hrc hrt
          rw [hre] at h9
          exact h9
        clear hrc hrt hre HRM
        obtain ⟨rg, rv, rx, rt, rl⟩ := rm
        simp only at *
        unfold mfv at *
        go_wp2_with fail
        refine (HEG.out _ _ (HSD.out _).2 (HSD.out _).1).mono ?_
        rintro e we ⟨v9, rfl, ho9, b9⟩
        have B9 := andThen (HSD.out _).2 b9
        obtain ⟨a9, n9, c9, e9⟩ := own_slice ho9
        subst e9
        have HSB : Hid (Calls Tryd.prog 13 #[(.slice ab b.length cb), .slice a9 n9 c9] we fun e w'' => e = .returned (.bool true) ∧ Below we.heap.size we w'') := by
          have h9 := sameB_any (.slice ab b.length cb) (.slice a9 n9 c9) bb bb we (HBB.out _ (HBE.out _ B9)) ho9.bs
          rw [decide_eq_true rfl] at h9
          exact h9
        clear ho9 b9 HSD HEG
        go_wp2_with fail
        refine HSB.out.mono ?_
        rintro e wf ⟨rfl, bf⟩
        have HB10 := HBE.out _ (andThen B9 bf)
        clear bf B9
        go_wp2
        go_ret
        exact ⟨rfl, HB10⟩
      · have hrz : ¬ (re : Int) = 0 := by omega
        have hr0 := HRZ.out hre
        subst hr0
        have HSY : Hid (∀ w', Below W.heap.size W w' → SgsAt w' (.slice as2 zeroM.l.length cs2) zeroM.l → Calls Tryd.prog 12 #[mfv zeroM (.slice as2 zeroM.l.length cs2), mfv zeroM (.slice none 0 0)] w' fun e w'' => e = .returned (.bool true) ∧ Below w'.heap.size w' w'') := fun w' _ hs => same_yes zeroM _ _ w' hs ⟨none, 0, rfl, Nat.le_refl _, Nat.zero_le _, fun k s hk => by simp [zeroM] at hk⟩
        clear HRM HRZ hre
        unfold mfv zeroM at *
        simp only [List.length_nil] at *
        go_wp2_with fail
        refine (HSY.out _ (HSD.out _).2 (HSD.out _).1).mono ?_
        rintro e we ⟨rfl, b9⟩
        have HB10 := HBE.out _ (andThen (HSD.out _).2 b9)
        clear HSD HSY b9
        go_wp2
        go_ret
        exact ⟨rfl, HB10⟩
    · have HEG : Hid (Calls Tryd.prog 10 #[.agg #[.int .i64 g, .int .i64 vv, .int .i64 x, .int .i64 t, .slice a1 lt.length c1]] w3 fun e w' => e = .returned (.tuple #[.slice none 0 0, .int .i64 (chkM ⟨g, vv, x, t, lt⟩ : Int)]) ∧ Below w3.heap.size w3 w') := encode_bad ⟨g, vv, x, t, lt⟩ _ w3 (HLT.out _ B3) hc
      have HCK : Hid (∀ w', Below W.heap.size W w' → Calls Tryd.prog 8 #[.agg #[.int .i64 g, .int .i64 vv, .int .i64 x, .int .i64 t, .slice a1 lt.length c1]] w' fun e w'' => e = .returned (.int .i64 (chkM ⟨g, vv, x, t, lt⟩ : Int)) ∧ Below w'.heap.size w' w'') := fun w' hb => check_any ⟨g, vv, x, t, lt⟩ _ w' (HLT.out _ hb)
      obtain ⟨ce, hce⟩ : ∃ ce : Int, ce = (chkM ⟨g, vv, x, t, lt⟩ : Int) := ⟨_, rfl⟩
      have hcz : ¬ ce = 0 := by omega
      rw [← hce] at HEG HCK
      clear hc hce
      go_wp2_with fail
      refine HEG.out.mono ?_
      rintro e w4 ⟨rfl, b4⟩
      have B4 := andThen B3 b4
      obtain ⟨s0, s1, s2, s3, s4⟩ := HBX.out _ B4
      clear q0 q1 q2 q3 q4 b4 HEG
      go_wp2_with fail
      refine (HCK.out _ B4).mono ?_
      rintro e w5 ⟨rfl, b5⟩
      have B5 := andThen B4 b5
      clear s0 s1 s2 s3 s4 b5 HCK
      go_wp2_with fail
      refine (HDB.out _ B5).mono ?_
      rintro e wd ⟨sv2, rfl, hsd, bd⟩
      have Bd := andThen B5 bd
      obtain ⟨as2, cs2, es2⟩ : ∃ as2, ∃ cs2 : Nat, sv2 = .slice as2 rm.l.length cs2 := by
        obtain ⟨as2, cs2, e, _⟩ := hsd.at
        exact ⟨as2, cs2, e⟩
      subst es2
      have HSD : Hid (∀ o, SgsAt (wd.alloc o) (.slice as2 rm.l.length cs2) rm.l ∧ Below W.heap.size W (wd.alloc o)) := fun o => ⟨(hsd.kept (up0 _ _)).at, up Bd o⟩
      clear hsd bd B5
      by_cases hre : re = 0
      · subst hre
        obtain ⟨hrc, hrt, hre⟩ := HRM.out rfl
        have HEG : Hid (∀ w' sv, Below W.heap.size W w' → SgsAt w' sv rm.l → Calls Tryd.prog 10 #[mfv rm sv] w' fun e w'' => ∃ v', e = .returned (.tuple #[v', .int .i64 0]) ∧ Own w'.heap.size w'' v' bb ∧ Below w'.heap.size w' w'') := fun w' sv hb hs => by
          have h9 := encode_good rm sv w' (HTB.out _ (HBE.out _ hb)) hs hrc hrt
          rw [hre] at h9
          exact h9
        clear hrc hrt hre HRM
        obtain ⟨rg, rv, rx, rt, rl⟩ := rm
        simp only at *
        unfold mfv at *
        go_wp2_with fail
        refine (HEG.out _ _ (HSD.out _).2 (HSD.out _).1).mono ?_
        rintro e we ⟨v9, rfl, ho9, b9⟩
        have B9 := andThen (HSD.out _).2 b9
        obtain ⟨a9, n9, c9, e9⟩ := own_slice ho9
        subst e9
        have HSB : Hid (Calls Tryd.prog 13 #[(.slice ab b.length cb), .slice a9 n9 c9] we fun e w'' => e = .returned (.bool true) ∧ Below we.heap.size we w'') := by
          have h9 := sameB_any (.slice ab b.length cb) (.slice a9 n9 c9) bb bb we (HBB.out _ (HBE.out _ B9)) ho9.bs
          rw [decide_eq_true rfl] at h9
          exact h9
        clear ho9 b9 HSD HEG
        go_wp2_with fail
        refine HSB.out.mono ?_
        rintro e wf ⟨rfl, bf⟩
        have HB10 := HBE.out _ (andThen B9 bf)
        clear bf B9
        go_wp2
        go_ret
        exact ⟨rfl, HB10⟩
      · have hrz : ¬ (re : Int) = 0 := by omega
        have hr0 := HRZ.out hre
        subst hr0
        have HSY : Hid (∀ w', Below W.heap.size W w' → SgsAt w' (.slice as2 zeroM.l.length cs2) zeroM.l → Calls Tryd.prog 12 #[mfv zeroM (.slice as2 zeroM.l.length cs2), mfv zeroM (.slice none 0 0)] w' fun e w'' => e = .returned (.bool true) ∧ Below w'.heap.size w' w'') := fun w' _ hs => same_yes zeroM _ _ w' hs ⟨none, 0, rfl, Nat.le_refl _, Nat.zero_le _, fun k s hk => by simp [zeroM] at hk⟩
        clear HRM HRZ hre
        unfold mfv zeroM at *
        simp only [List.length_nil] at *
        go_wp2_with fail
        refine (HSY.out _ (HSD.out _).2 (HSD.out _).1).mono ?_
        rintro e we ⟨rfl, b9⟩
        have HB10 := HBE.out _ (andThen (HSD.out _).2 b9)
        clear HSD HSY b9
        go_wp2
        go_ret
        exact ⟨rfl, HB10⟩
theorem manifestOne_any (m : Mf) (v bw : Value) (b : List Nat) (w : World) (hT : Tab w) (h : SgsAt w v m.l ∧ m.t ≤ 9223372036854775807) (hb : Bs w bw b) :
    Calls Tryd.prog 3 #[mfv m v, bw] w fun e w' => e = .returned (.bool true) ∧ Below w.heap.size w w' := mone_any m v bw b w hT h.1 hb h.2
end Go.Proofs.YtpikdngccgdhiaaDoor
