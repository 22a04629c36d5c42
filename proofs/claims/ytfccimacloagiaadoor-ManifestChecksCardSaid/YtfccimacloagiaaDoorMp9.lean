/-
  Package manifest: Decode.
-/
import Derived.Test.YtfccimacloagiaaDoorMp8
namespace Go.Proofs.YtfccimacloagiaaDoor
open Go Go.RowKit
open Wb

theorem rf_body_len (b : List Nat) (hok : ok b) (h : (rf b 0).2.2 = 0) : 0 < (rf b 0).1.length ∧ (rf b 0).1.length ≤ 1048576 := by
  obtain ⟨_, _, _, _, _, h1, h2, _⟩ := rf_there b 0 hok h
  exact ⟨h1, h2⟩
set_option maxRecDepth 100000 in
set_option maxHeartbeats 8000000 in
theorem decode_any (v : Value) (b : List Nat) (w : World) (hT : Tab w) (hb : Bs w v b) (hl : b.length ≤ 2000000) :
    Calls Tryd.prog 11 #[v] w fun e w' => ∃ sv, e = .returned (.tuple #[mfv (decM b).1 sv, .int .i64 ((decM b).2 : Int)]) ∧ SgR w.heap.size w' sv (decM b).1.l ∧ Below w.heap.size w w' := by
  have HRF : Hid (Calls Tryd.prog 30 #[v, .int .i64 0] (w.alloc (.cells #[.int .i64 0, .int .i64 0, .int .i64 0, .int .i64 0, .slice none 0 0] 24)) fun e w' => ∃ v', e = .returned (.tuple #[v', .int .i64 (rf b 0).2.1, .int .i64 ((rf b 0).2.2 : Int)]) ∧ Own (w.alloc (.cells #[.int .i64 0, .int .i64 0, .int .i64 0, .int .i64 0, .slice none 0 0] 24)).heap.size w' v' (rf b 0).1 ∧ Below (w.alloc (.cells #[.int .i64 0, .int .i64 0, .int .i64 0, .int .i64 0, .slice none 0 0] 24)).heap.size (w.alloc (.cells #[.int .i64 0, .int .i64 0, .int .i64 0, .int .i64 0, .slice none 0 0] 24)) w') := readFrame_any v b 0 _ (hT.kept (up0 _ _)) (hb.kept (up0 _ _)) (by omega)
  have HRS : Hid (∀ w', Below (w.alloc (.cells #[.int .i64 0, .int .i64 0, .int .i64 0, .int .i64 0, .slice none 0 0] 24)).heap.size (w.alloc (.cells #[.int .i64 0, .int .i64 0, .int .i64 0, .int .i64 0, .slice none 0 0] 24)) w' → Mb w' w.heap.size zeroM (.slice none 0 0)) := fun w' h => (mb_new w zeroM (.slice none 0 0) 24).block (h.block _ (by rw [heap1]; omega))
  have HBB : Hid (∀ w', Below (w.alloc (.cells #[.int .i64 0, .int .i64 0, .int .i64 0, .int .i64 0, .slice none 0 0] 24)).heap.size (w.alloc (.cells #[.int .i64 0, .int .i64 0, .int .i64 0, .int .i64 0, .slice none 0 0] 24)) w' → Below w.heap.size w w') := fun w' h => andThen (up0 w _) h
  have hok := hb.good
  obtain ⟨ab, cb, rfl, _⟩ := hb.shape
  clear hb hT
  rcases hrf : rf b 0 with ⟨body, en, er⟩
  rw [hrf] at HRF
  simp only at HRF
  by_cases he : er = 0
  · subst he
    have hbl := rf_body_len b hok (by rw [hrf])
    rw [hrf] at hbl
    simp only at hbl
    have HPA : Hid (∀ w' vb, Bs w' vb body → Calls Tryd.prog 31 #[vb] w' fun e w'' => ∃ sv, e = .returned (.tuple #[mfv (prs body).1 sv, .int .i64 ((prs body).2 : Int)]) ∧ SgR w'.heap.size w'' sv (prs body).1.l ∧ Below w'.heap.size w' w'') := fun w' vb h => parse_any vb body w' h (by omega)
    obtain ⟨c0, hc0⟩ : ∃ c0, body[0]? = some c0 := ⟨body[0], List.getElem?_eq_getElem hbl.1⟩
    have hhd : body.head? = some c0 := by rw [List.head?_eq_getElem?, hc0]
    by_cases h2 : en ≠ (b.length : Int) ∨ c0 ≠ 77
    · have HZ : Hid (decM b = (zeroM, 85)) := by
        show _ = _
        unfold decM
        rw [hrf]
        simp only
        have h9 : en ≠ (b.length : Int) ∨ body.head? ≠ some 77 := by
          rcases h2 with h | h
          · exact .inl h
          · exact .inr (by rw [hhd]; simpa using h)
        rw [if_neg (by simp), if_pos h9]
      have HF : Hid (∀ w', Below w.heap.size w w' → ∃ sv, Ending.returned (.tuple #[mfv zeroM (.slice none 0 0), .int .i64 85]) = .returned (.tuple #[mfv (decM b).1 sv, .int .i64 ((decM b).2 : Int)]) ∧ SgR w.heap.size w' sv (decM b).1.l ∧ Below w.heap.size w w') := fun w' hb => ⟨_, by rw [HZ.out]; rfl, by rw [HZ.out]; exact SgR.nil _ _, hb⟩
      clear HZ hrf HPA
      go_enter Tryd.func11, Tryd.ntmps11
      go_wp2_with fail
      refine HRF.out.mono ?_
      rintro e w1 ⟨vb, rfl, ho, b1⟩
      have BEL := b1
      obtain ⟨gb, cbb, rfl, hcell⟩ : ∃ gb, ∃ cbb : Nat, vb = .slice (some ⟨gb, 0, none⟩) body.length cbb ∧ w1.cell? ⟨gb, 0, none⟩ = some (.int .u8 (c0 : Int)) := by
        rcases ho.shape with ⟨_, h0⟩ | ⟨gd, cd, e5, hgd, _, hlc, hcm, hcl⟩
        · rw [h0] at hbl; simp at hbl
        · refine ⟨gd, cd, e5, ?_⟩
          rw [hcl 0 hbl.1]
          rw [List.getElem?_eq_getElem hbl.1] at hc0
          rw [Option.some.inj hc0]
      have hres := HRS.out _ BEL
      obtain ⟨r0, r1, r2, r3, r4⟩ := hres.cells
      have z0 := hres.frozen 0
      have z1 := hres.frozen 1
      have z2 := hres.frozen 2
      have z3 := hres.frozen 3
      have z4 := hres.frozen 4
      have hbn : (0 : Int) < (body.length : Int) := by omega
      have hc256 : c0 < 256 := ho.good c0 (List.mem_of_getElem? hc0)
      clear ho b1 hc0 hhd HRF
      by_cases h3 : en = (b.length : Int)
      · have h4 : ¬ (c0 : Int) = 77 := fun h => by
          rcases h2 with h2 | h2
          · exact h2 h3
          · omega
        subst h3
        clear h2
        have HEN : Hid (Mb (store5 w1 w.heap.size zeroM (.slice none 0 0)) w.heap.size zeroM (.slice none 0 0) ∧ Below w.heap.size w (store5 w1 w.heap.size zeroM (.slice none 0 0))) := ⟨hres.store zeroM _, store5_below (HBB.out _ BEL) (Nat.le_refl _) zeroM _⟩
        unfold zeroM at r0 r1 r2 r3
        simp only at r0 r1 r2 r3
        clear hres
        go_wp2
        obtain ⟨WE, hWE⟩ : ∃ WE, WE = store5 w1 w.heap.size zeroM (.slice none 0 0) := ⟨_, rfl⟩
        rw [← hWE] at HEN
        have hWE2 : WE = (((((w1.setCell ⟨w.heap.size, 0, none⟩ (.int .i64 0)).setCell ⟨w.heap.size, 1, none⟩ (.int .i64 0)).setCell ⟨w.heap.size, 2, none⟩ (.int .i64 0)).setCell ⟨w.heap.size, 3, none⟩ (.int .i64 0)).setCell ⟨w.heap.size, 4, none⟩ (.slice none 0 0)) := hWE
        rw [← hWE2]
        clear hWE hWE2
        obtain ⟨y0, y1, y2, y3, y4⟩ := HEN.out.1.cells
        clear r0 r1 r2 r3 r4 z0 z1 z2 z3 z4
        unfold zeroM at y0 y1 y2 y3
        simp only at y0 y1 y2 y3
        (try simp only [Exit.inBlock, Exit.then])
        refine bodyPost_ret (by simp [results, Tryd.results11, go_sem, y0, y1, y2, y3, y4]; try rfl) rfl ?_
        exact HF.out _ HEN.out.2
      · clear h2
        have HEN : Hid (Mb (store5 w1 w.heap.size zeroM (.slice none 0 0)) w.heap.size zeroM (.slice none 0 0) ∧ Below w.heap.size w (store5 w1 w.heap.size zeroM (.slice none 0 0))) := ⟨hres.store zeroM _, store5_below (HBB.out _ BEL) (Nat.le_refl _) zeroM _⟩
        unfold zeroM at r0 r1 r2 r3
        simp only at r0 r1 r2 r3
        clear hres
        go_wp2
        obtain ⟨WE, hWE⟩ : ∃ WE, WE = store5 w1 w.heap.size zeroM (.slice none 0 0) := ⟨_, rfl⟩
        rw [← hWE] at HEN
        have hWE2 : WE = (((((w1.setCell ⟨w.heap.size, 0, none⟩ (.int .i64 0)).setCell ⟨w.heap.size, 1, none⟩ (.int .i64 0)).setCell ⟨w.heap.size, 2, none⟩ (.int .i64 0)).setCell ⟨w.heap.size, 3, none⟩ (.int .i64 0)).setCell ⟨w.heap.size, 4, none⟩ (.slice none 0 0)) := hWE
        rw [← hWE2]
        clear hWE hWE2
        obtain ⟨y0, y1, y2, y3, y4⟩ := HEN.out.1.cells
        clear r0 r1 r2 r3 r4 z0 z1 z2 z3 z4
        unfold zeroM at y0 y1 y2 y3
        simp only at y0 y1 y2 y3
        (try simp only [Exit.inBlock, Exit.then])
        refine bodyPost_ret (by simp [results, Tryd.results11, go_sem, y0, y1, y2, y3, y4]; try rfl) rfl ?_
        exact HF.out _ HEN.out.2
    · have h3 : en = (b.length : Int) := by
        by_cases h : en = (b.length : Int)
        · exact h
        · exact absurd (.inl h) h2
      have h4 : c0 = 77 := by
        by_cases h : c0 = 77
        · exact h
        · exact absurd (.inr h) h2
      subst h3 h4
      have HDE : Hid (decM b = if (prs body).2 ≠ 0 then (zeroM, (prs body).2) else if chkM (prs body).1 ≠ 0 then (zeroM, chkM (prs body).1) else ((prs body).1, 0)) := by
        show _ = _
        unfold decM
        rw [hrf]
        simp only
        rw [if_neg (by simp), if_neg (by rw [hhd]; simp)]
      clear h2 hrf
      rcases hpr : prs body with ⟨m, pe⟩
      rw [hpr] at HPA HDE
      simp only at HPA HDE
      clear hpr
      have HCK : Hid (∀ w' sv, SgsAt w' sv m.l → Calls Tryd.prog 8 #[mfv m sv] w' fun e w'' => e = .returned (.int .i64 (chkM m : Int)) ∧ Below w'.heap.size w' w'') := fun w' sv h => check_any m sv w' h
      go_enter Tryd.func11, Tryd.ntmps11
      go_wp2_with fail
      refine HRF.out.mono ?_
      rintro e w1 ⟨vb, rfl, ho, b1⟩
      obtain ⟨gb, cbb, rfl, hcell⟩ : ∃ gb, ∃ cbb : Nat, vb = .slice (some ⟨gb, 0, none⟩) body.length cbb ∧ w1.cell? ⟨gb, 0, none⟩ = some (.int .u8 77) := by
        rcases ho.shape with ⟨_, h0⟩ | ⟨gd, cd, e5, hgd, _, hlc, hcm, hcl⟩
        · rw [h0] at hbl; simp at hbl
        · refine ⟨gd, cd, e5, ?_⟩
          rw [hcl 0 hbl.1]
          rw [List.getElem?_eq_getElem hbl.1] at hc0
          rw [Option.some.inj hc0]
          rfl
      have hbn : (0 : Int) < (body.length : Int) := by omega
      have HB1 : Hid (Bs w1 (.slice (some ⟨gb, 0, none⟩) body.length cbb) body ∧ Below (w.alloc (.cells #[.int .i64 0, .int .i64 0, .int .i64 0, .int .i64 0, .slice none 0 0] 24)).heap.size (w.alloc (.cells #[.int .i64 0, .int .i64 0, .int .i64 0, .int .i64 0, .slice none 0 0] 24)) w1) := ⟨ho.bs, b1⟩
      clear ho b1 hc0 hhd HRF
      go_wp2_with fail
      refine (HPA.out _ _ HB1.out.1).mono ?_
      rintro e w2 ⟨sv, rfl, hsg, b2⟩
      obtain ⟨asv, csv, esv⟩ : ∃ asv, ∃ csv : Nat, sv = .slice asv m.l.length csv := by
        obtain ⟨asv, csv, e, _⟩ := hsg.at
        exact ⟨asv, csv, e⟩
      subst esv
      have HB2 : Hid (Below (w.alloc (.cells #[.int .i64 0, .int .i64 0, .int .i64 0, .int .i64 0, .slice none 0 0] 24)).heap.size (w.alloc (.cells #[.int .i64 0, .int .i64 0, .int .i64 0, .int .i64 0, .slice none 0 0] 24)) w2) := HB1.out.2.trans (b2.mono HB1.out.2.size)
      have HSG : Hid (SgR w1.heap.size w2 (.slice asv m.l.length csv) m.l ∧ w.heap.size ≤ w1.heap.size) := ⟨hsg, (HBB.out _ HB1.out.2).size⟩
      clear hsg b2 HPA hcell
      by_cases hpe : pe = 0
      · subst hpe
        obtain ⟨g, vv, x, t, l⟩ := m
        simp only at *
        unfold mfv at *
        have HW3 : Hid (∀ o, SgsAt (w2.alloc o) (.slice asv l.length csv) l ∧ Below (w.alloc (.cells #[.int .i64 0, .int .i64 0, .int .i64 0, .int .i64 0, .slice none 0 0] 24)).heap.size (w.alloc (.cells #[.int .i64 0, .int .i64 0, .int .i64 0, .int .i64 0, .slice none 0 0] 24)) (w2.alloc o)) := fun o => ⟨(HSG.out.1.kept (up0 _ _)).at, up HB2.out _⟩
        go_wp2_with fail
        refine (HCK.out _ _ (HW3.out _).1).mono ?_
        rintro e w3 ⟨rfl, b3⟩
        have HB3 : Hid (Below (w.alloc (.cells #[.int .i64 0, .int .i64 0, .int .i64 0, .int .i64 0, .slice none 0 0] 24)).heap.size (w.alloc (.cells #[.int .i64 0, .int .i64 0, .int .i64 0, .int .i64 0, .slice none 0 0] 24)) w3) := (HW3.out _).2.trans (b3.mono (HW3.out _).2.size)
        have BEL := HB3.out
        have hmb : Mb w3 w2.heap.size ⟨g, vv, x, t, []⟩ (.slice asv l.length csv) := (mb_new w2 ⟨g, vv, x, t, []⟩ (.slice asv l.length csv) 24).block (b3.block _ (by rw [heap1]; omega))
        have HS3 : Hid (SgR w1.heap.size w3 (.slice asv l.length csv) l) := (HSG.out.1.kept (up0 _ _)).kept b3
        obtain ⟨m0, m1, m2, m3, m4⟩ := hmb.cells
        simp only at m0 m1 m2 m3 m4
        have hres := HRS.out _ BEL
        obtain ⟨r0, r1, r2, r3, r4⟩ := hres.cells
        have z0 := hres.frozen 0
        have z1 := hres.frozen 1
        have z2 := hres.frozen 2
        have z3 := hres.frozen 3
        have z4 := hres.frozen 4
        have HSZ : Hid (w.heap.size ≤ w1.heap.size) := HSG.out.2
        have HSZ2 : Hid (w.heap.size + 1 ≤ w1.heap.size) := by
          have h9 := HB1.out.2.size
          rw [heap1] at h9
          exact h9
        clear b3 HSG HCK hmb
        by_cases hc : chkM ⟨g, vv, x, t, l⟩ = 0
        · have HZ : Hid (decM b = (⟨g, vv, x, t, l⟩, 0)) := by
            show _ = _
            rw [HDE.out, if_neg (by simp), if_neg (by simp [hc])]
          rw [hc]
          have HEN : Hid (Mb (store5 w3 w.heap.size ⟨g, vv, x, t, []⟩ (.slice asv l.length csv)) w.heap.size ⟨g, vv, x, t, []⟩ (.slice asv l.length csv) ∧ (∃ sv, Ending.returned (.tuple #[.agg #[.int .i64 g, .int .i64 vv, .int .i64 x, .int .i64 t, .slice asv l.length csv], .int .i64 0]) = .returned (.tuple #[mfv (decM b).1 sv, .int .i64 ((decM b).2 : Int)]) ∧ SgR w.heap.size (store5 w3 w.heap.size ⟨g, vv, x, t, []⟩ (.slice asv l.length csv)) sv (decM b).1.l ∧ Below w.heap.size w (store5 w3 w.heap.size ⟨g, vv, x, t, []⟩ (.slice asv l.length csv)))) := ⟨hres.store _ _, _, by rw [HZ.out]; rfl, by
            rw [HZ.out]
            have h9 := HS3.out
            refine (h9.block (fun q hq => store5_block _ _ _ _ q ?_)).weak HSZ.out
            have h8 := (World.ownsRow.lt h9 q hq).1
            have h7 := HSZ2.out
            omega, store5_below (HBB.out _ BEL) (Nat.le_refl _) _ _⟩
          unfold zeroM at r0 r1 r2 r3
          simp only at r0 r1 r2 r3
          clear HZ HDE hc hres HS3
          go_wp2
          obtain ⟨WE, hWE⟩ : ∃ WE, WE = store5 w3 w.heap.size ⟨g, vv, x, t, []⟩ (.slice asv l.length csv) := ⟨_, rfl⟩
          rw [← hWE] at HEN
          have hWE2 : WE = (((((w3.setCell ⟨w.heap.size, 0, none⟩ (.int .i64 g)).setCell ⟨w.heap.size, 1, none⟩ (.int .i64 vv)).setCell ⟨w.heap.size, 2, none⟩ (.int .i64 x)).setCell ⟨w.heap.size, 3, none⟩ (.int .i64 t)).setCell ⟨w.heap.size, 4, none⟩ (.slice asv l.length csv)) := hWE
          rw [← hWE2]
          clear hWE hWE2
          obtain ⟨y0, y1, y2, y3, y4⟩ := HEN.out.1.cells
          simp only at y0 y1 y2 y3 y4
          clear r0 r1 r2 r3 r4 z0 z1 z2 z3 z4 m0 m1 m2 m3 m4
          (try simp only [Exit.inBlock, Exit.then])
          refine bodyPost_ret (by simp [results, Tryd.results11, go_sem, y0, y1, y2, y3, y4]; try rfl) rfl ?_
          exact HEN.out.2
        · have HZ : Hid (decM b = (zeroM, chkM ⟨g, vv, x, t, l⟩)) := by
            show _ = _
            rw [HDE.out, if_neg (by simp), if_pos hc]
          obtain ⟨ce, hce⟩ : ∃ ce, ce = chkM ⟨g, vv, x, t, l⟩ := ⟨_, rfl⟩
          rw [← hce] at HZ hc ⊢
          have hcz : ¬ (ce : Int) = 0 := by omega
          have HF : Hid (∀ w', Below w.heap.size w w' → ∃ sv, Ending.returned (.tuple #[mfv zeroM (.slice none 0 0), .int .i64 (ce : Int)]) = .returned (.tuple #[mfv (decM b).1 sv, .int .i64 ((decM b).2 : Int)]) ∧ SgR w.heap.size w' sv (decM b).1.l ∧ Below w.heap.size w w') := fun w' hb => ⟨_, by rw [HZ.out], by rw [HZ.out]; exact SgR.nil _ _, hb⟩
          clear HZ HDE hce hc HS3 m0 m1 m2 m3 m4
          have HEN : Hid (Mb (store5 w3 w.heap.size zeroM (.slice none 0 0)) w.heap.size zeroM (.slice none 0 0) ∧ Below w.heap.size w (store5 w3 w.heap.size zeroM (.slice none 0 0))) := ⟨hres.store zeroM _, store5_below (HBB.out _ BEL) (Nat.le_refl _) zeroM _⟩
          unfold zeroM at r0 r1 r2 r3
          simp only at r0 r1 r2 r3
          clear hres
          go_wp2
          obtain ⟨WE, hWE⟩ : ∃ WE, WE = store5 w3 w.heap.size zeroM (.slice none 0 0) := ⟨_, rfl⟩
          rw [← hWE] at HEN
          have hWE2 : WE = (((((w3.setCell ⟨w.heap.size, 0, none⟩ (.int .i64 0)).setCell ⟨w.heap.size, 1, none⟩ (.int .i64 0)).setCell ⟨w.heap.size, 2, none⟩ (.int .i64 0)).setCell ⟨w.heap.size, 3, none⟩ (.int .i64 0)).setCell ⟨w.heap.size, 4, none⟩ (.slice none 0 0)) := hWE
          rw [← hWE2]
          clear hWE hWE2
          obtain ⟨y0, y1, y2, y3, y4⟩ := HEN.out.1.cells
          clear r0 r1 r2 r3 r4 z0 z1 z2 z3 z4
          unfold zeroM at y0 y1 y2 y3
          simp only at y0 y1 y2 y3
          (try simp only [Exit.inBlock, Exit.then])
          refine bodyPost_ret (by simp [results, Tryd.results11, go_sem, y0, y1, y2, y3, y4]; try rfl) rfl ?_
          exact HF.out _ HEN.out.2
      · have HZ : Hid (decM b = (zeroM, pe)) := by
          show _ = _
          rw [HDE.out, if_pos hpe]
        have hpz : ¬ (pe : Int) = 0 := by omega
        have HF : Hid (∀ w', Below w.heap.size w w' → ∃ sv, Ending.returned (.tuple #[mfv zeroM (.slice none 0 0), .int .i64 (pe : Int)]) = .returned (.tuple #[mfv (decM b).1 sv, .int .i64 ((decM b).2 : Int)]) ∧ SgR w.heap.size w' sv (decM b).1.l ∧ Below w.heap.size w w') := fun w' hb => ⟨_, by rw [HZ.out], by rw [HZ.out]; exact SgR.nil _ _, hb⟩
        have HB4 : Hid (∀ o, Below (w.alloc (.cells #[.int .i64 0, .int .i64 0, .int .i64 0, .int .i64 0, .slice none 0 0] 24)).heap.size (w.alloc (.cells #[.int .i64 0, .int .i64 0, .int .i64 0, .int .i64 0, .slice none 0 0] 24)) (w2.alloc o)) := fun o => up HB2.out o
        obtain ⟨g, vv, x, t, l⟩ := m
        simp only at *
        unfold mfv at *
        obtain ⟨W3, hW3⟩ : ∃ W3, W3 = w2.alloc (.cells #[.int .i64 g, .int .i64 vv, .int .i64 x, .int .i64 t, .slice asv l.length csv] 24) := ⟨_, rfl⟩
        have BEL : Below (w.alloc (.cells #[.int .i64 0, .int .i64 0, .int .i64 0, .int .i64 0, .slice none 0 0] 24)).heap.size (w.alloc (.cells #[.int .i64 0, .int .i64 0, .int .i64 0, .int .i64 0, .slice none 0 0] 24)) W3 := by rw [hW3]; exact HB4.out _
        have HWE : Hid (W3 = w2.alloc (.cells #[.int .i64 g, .int .i64 vv, .int .i64 x, .int .i64 t, .slice asv l.length csv] 24)) := hW3
        clear HZ HDE hpe HSG HCK hW3
        go_upto_region 7 with fail
        rw [← HWE.out]
        have hres := HRS.out _ BEL
        obtain ⟨r0, r1, r2, r3, r4⟩ := hres.cells
        have z0 := hres.frozen 0
        have z1 := hres.frozen 1
        have z2 := hres.frozen 2
        have z3 := hres.frozen 3
        have z4 := hres.frozen 4
        have HEN : Hid (Mb (store5 W3 w.heap.size zeroM (.slice none 0 0)) w.heap.size zeroM (.slice none 0 0) ∧ Below w.heap.size w (store5 W3 w.heap.size zeroM (.slice none 0 0))) := ⟨hres.store zeroM _, store5_below (HBB.out _ BEL) (Nat.le_refl _) zeroM _⟩
        unfold zeroM at r0 r1 r2 r3
        simp only at r0 r1 r2 r3
        clear hres
        go_wp2
        obtain ⟨WE, hWE⟩ : ∃ WE, WE = store5 W3 w.heap.size zeroM (.slice none 0 0) := ⟨_, rfl⟩
        rw [← hWE] at HEN
        have hWE2 : WE = (((((W3.setCell ⟨w.heap.size, 0, none⟩ (.int .i64 0)).setCell ⟨w.heap.size, 1, none⟩ (.int .i64 0)).setCell ⟨w.heap.size, 2, none⟩ (.int .i64 0)).setCell ⟨w.heap.size, 3, none⟩ (.int .i64 0)).setCell ⟨w.heap.size, 4, none⟩ (.slice none 0 0)) := hWE
        rw [← hWE2]
        clear hWE hWE2
        obtain ⟨y0, y1, y2, y3, y4⟩ := HEN.out.1.cells
        clear r0 r1 r2 r3 r4 z0 z1 z2 z3 z4
        unfold zeroM at y0 y1 y2 y3
        simp only at y0 y1 y2 y3
        (try simp only [Exit.inBlock, Exit.then])
        refine bodyPost_ret (by simp [results, Tryd.results11, go_sem, y0, y1, y2, y3, y4]; try rfl) rfl ?_
        exact HF.out _ HEN.out.2
  · have HZ : Hid (decM b = (zeroM, er)) := by
      show _ = _
      unfold decM
      rw [hrf]
      simp only
      rw [if_pos he]
    have hz : ¬ (er : Int) = 0 := by omega
    have HF : Hid (∀ w', Below w.heap.size w w' → ∃ sv, Ending.returned (.tuple #[mfv zeroM (.slice none 0 0), .int .i64 (er : Int)]) = .returned (.tuple #[mfv (decM b).1 sv, .int .i64 ((decM b).2 : Int)]) ∧ SgR w.heap.size w' sv (decM b).1.l ∧ Below w.heap.size w w') := fun w' hb => ⟨_, by rw [HZ.out], by rw [HZ.out]; exact SgR.nil _ _, hb⟩
    clear HZ hrf he
    go_enter Tryd.func11, Tryd.ntmps11
    go_wp2_with fail
    refine HRF.out.mono ?_
    rintro e w1 ⟨vb, rfl, ho, b1⟩
    obtain ⟨a1, n1, c1, e1⟩ := own_slice ho
    subst e1
    have BEL := b1
    have hres := HRS.out _ BEL
    obtain ⟨r0, r1, r2, r3, r4⟩ := hres.cells
    have z0 := hres.frozen 0
    have z1 := hres.frozen 1
    have z2 := hres.frozen 2
    have z3 := hres.frozen 3
    have z4 := hres.frozen 4
    clear ho b1 HRF
    have HEN : Hid (Mb (store5 w1 w.heap.size zeroM (.slice none 0 0)) w.heap.size zeroM (.slice none 0 0) ∧ Below w.heap.size w (store5 w1 w.heap.size zeroM (.slice none 0 0))) := ⟨hres.store zeroM _, store5_below (HBB.out _ BEL) (Nat.le_refl _) zeroM _⟩
    unfold zeroM at r0 r1 r2 r3
    simp only at r0 r1 r2 r3
    clear hres
    go_wp2
    obtain ⟨WE, hWE⟩ : ∃ WE, WE = store5 w1 w.heap.size zeroM (.slice none 0 0) := ⟨_, rfl⟩
    rw [← hWE] at HEN
    have hWE2 : WE = (((((w1.setCell ⟨w.heap.size, 0, none⟩ (.int .i64 0)).setCell ⟨w.heap.size, 1, none⟩ (.int .i64 0)).setCell ⟨w.heap.size, 2, none⟩ (.int .i64 0)).setCell ⟨w.heap.size, 3, none⟩ (.int .i64 0)).setCell ⟨w.heap.size, 4, none⟩ (.slice none 0 0)) := hWE
    rw [← hWE2]
    clear hWE hWE2
    obtain ⟨y0, y1, y2, y3, y4⟩ := HEN.out.1.cells
    clear r0 r1 r2 r3 r4 z0 z1 z2 z3 z4
    unfold zeroM at y0 y1 y2 y3
    simp only at y0 y1 y2 y3
    (try simp only [Exit.inBlock, Exit.then])
    refine bodyPost_ret (by simp [results, Tryd.results11, go_sem, y0, y1, y2, y3, y4]; try rfl) rfl ?_
    exact HF.out _ HEN.out.2
end Go.Proofs.YtfccimacloagiaaDoor
