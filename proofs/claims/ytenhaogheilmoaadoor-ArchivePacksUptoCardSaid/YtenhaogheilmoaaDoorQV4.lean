import Derived.Test.YtenhaogheilmoaaDoorQV3
/-
  Package archive: the reader's last.
-/
namespace Go.Proofs.YtenhaogheilmoaaDoor
open Go Go.RowKit
open Wb

theorem bel_drewN {B : Nat} {a w : World} (h : Below B a w) (n : Nat) : Below B a (w.drewN n) := h.trans ⟨rfl, rfl, rfl, Nat.le_refl _, fun _ _ => rfl⟩
/-- a sum's array as a slice of bytes -/
theorem bs_s4 {w : World} {g s : Nat} (h : LB w g 50 (s4v s)) : Bs w (.slice (some ⟨g, 0, none⟩) 4 4) (le4 s) := by
  refine ⟨⟨some ⟨g, 0, none⟩, 4, rfl, Nat.le_refl _, by simp [maxLen], fun e => (by cases e), fun _ => ⟨g, 0, rfl, fun j hj => ?_⟩⟩, Ar.le4_ok s⟩
  have hj4 : j < 4 := hj
  rw [Nat.zero_add]
  refine h.cell j _ ?_
  match j, hj4 with
  | 0, _ | 1, _ | 2, _ | 3, _ => rfl
def lastP (l b : List Nat) (m : Nat) : Int := if b.head? = some 82 then 171 else if b = 69 :: le4 (Wm.crc (l.take m)) then 0 else 170
set_option maxRecDepth 100000 in
set_option maxHeartbeats 4000000 in
theorem arlast_all (g : Nat) (v : Value) (b l : List Nat) (bv : Value) (m lf : Nat) (tp : Int) (vr : Value) (w : World) (h : ARd w g bv (m : Int) lf tp vr) (hbv : Bs w bv l) (hm : m ≤ l.length) (hT : Tab w) (hb : Bs w v b) (h0 : 0 < b.length) (hl : b.length ≤ 1048576) (hll : l.length ≤ 8388608) :
    Calls Tryd.prog 53 #[.pointer (some ⟨g, 0, none⟩), v] w fun e w' => e = .returned (.int .i64 (lastP l b m)) ∧ Below w.heap.size w w' := by
  have h : LB w g 60 [bv, .int .i64 (m : Int), .int .u64 (lf : Int), .int .i64 tp, vr] := h
  obtain ⟨P, hP⟩ : ∃ P, lastP l b m = P := ⟨_, rfl⟩
  rw [hP]
  unfold lastP at hP
  obtain ⟨al, cl, rfl, hl1, hl2, hl3, -⟩ := hbv.shape
  have HSU : Hid (∀ W, Below w.heap.size w W → Calls Tryd.prog 19 #[.slice al m cl] W fun e w' => e = .returned (.agg (s4v (Wm.crc (l.take m))).toArray) ∧ Below W.heap.size W w') := fun W hB => arsum_any _ _ W (hT.kept hB) ((bs_take hbv m hm).kept hB)
  have HBK : Hid (∀ W, Below w.heap.size w W → Bs W v b) := fun W hB => hb.kept hB
  have HLB : Hid (∀ W, Below w.heap.size w W → W.cell? ⟨g, 0, none⟩ = some (.slice al l.length cl) ∧ W.cell? ⟨g, 1, none⟩ = some (.int .i64 (m : Int))) := fun W hB => ⟨(h.kept hB).cell 0 _ rfl, (h.kept hB).cell 1 _ rfl⟩
  obtain ⟨ao, cap, rfl, hc1, hc2, -, hcl⟩ := hb.shape
  obtain ⟨bb, off, rfl, hcell⟩ := hcl (List.length_pos_iff.1 h0)
  have x0 : w.cell? ⟨bb, off, none⟩ = some (.int .u8 (b[0] : Int)) := by have := hcell 0 h0; simpa using this
  have hh : b.head? = some b[0] := by rw [List.head?_eq_getElem?, List.getElem?_eq_getElem h0]
  have HX0 : Hid (∀ W, Below w.heap.size w W → W.cell? ⟨bb, off, none⟩ = some (.int .u8 (b[0] : Int))) := fun W hB => (hB.cell (p := ⟨bb, off, none⟩) (World.block_lt_of_cell? _ _ x0)).trans x0
  have hbe : b = b[0] :: b.drop 1 := by rw [← List.drop_eq_getElem_cons h0]; rfl
  obtain ⟨c, hc⟩ : ∃ c, b[0] = c := ⟨_, rfl⟩
  rw [hc] at x0 hh HX0 hbe
  rw [hh] at hP
  unfold maxLen at hc2 hl2
  have HBE : Hid (b = c :: b.drop 1) := hbe
  clear hc hcell hcl hb h hbv hT hbe hh
  by_cases k1 : c = 82
  · rw [if_pos (by rw [k1])] at hP
    subst hP
    have hk1 : ((c : Int) == 82) = true := by rw [k1]; rfl
    clear k1
    go_enter Tryd.func53, Tryd.ntmps53
    go_wp2_with fail
    go_ret
    exact ⟨rfl, Below.refl _ _⟩
  · rw [if_neg (by simp; exact k1)] at hP
    have hk1 : ((c : Int) == 82) = false := by simp; omega
    generalize hS : Wm.crc (l.take m) = s at *
    clear hS k1
    have HP : Hid ((if b = 69 :: le4 s then (0 : Int) else 170) = P) := hP
    clear hP
    have hd := Below.drew (Below.refl w.heap.size w)
    have hmI : (0 : Int) ≤ (m : Int) ∧ (m : Int) ≤ (cl : Int) := by omega
    obtain ⟨hm1, hm2⟩ := hmI
    have hmc : m ≤ cl := by omega
    have HLn : Hid (b.length ≤ 1048576 ∧ l.length ≤ 8388608 ∧ m ≤ l.length) := ⟨hl, hll, hm⟩
    clear hl hll hm
    go_enter Tryd.func53, Tryd.ntmps53
    go_upto_region 3 with fail
    go_cut [5] from 10 to 19 (fun s5 wx => ∃ ga, s5 = .pointer (some ⟨ga, 0, none⟩) ∧ LB wx ga 50 (s4v s) ∧ Below w.heap.size w wx)
    case first =>
      refine wp_region_held_drew (S := fun w' : World => w'.cell? ⟨g, 0, none⟩ = some (.slice al l.length cl) ∧ w'.cell? ⟨g, 1, none⟩ = some (.int .i64 (m : Int))) (by kernel_rfl) (HLB.out _ hd) (fun hH => ?_)
      refine zqk 0 rfl hH ?_
      simp only [Act.put, List.setIfInBounds_toArray, List.set_cons_zero, List.set_cons_succ, List.getElem_toArray, List.getElem_cons_zero]
      refine zqk 1 rfl hH ?_
      simp only [Act.put, List.setIfInBounds_toArray, List.set_cons_zero, List.set_cons_succ, List.getElem_toArray, List.getElem_cons_zero, List.getElem_cons_succ]
      refine zqk 2 rfl hH ?_
      simp only [Act.put, List.setIfInBounds_toArray, List.set_cons_zero, List.set_cons_succ, List.getElem_toArray, List.getElem_cons_zero, List.getElem_cons_succ]
      refine zqk 3 rfl hH ?_
      simp only [Act.put, List.setIfInBounds_toArray, List.set_cons_zero, List.set_cons_succ, List.getElem_toArray, List.getElem_cons_zero, List.getElem_cons_succ]
      refine zqk 4 rfl hH ?_
      simp only [Act.put, List.setIfInBounds_toArray, List.set_cons_zero, List.set_cons_succ, List.getElem_toArray, List.getElem_cons_zero, List.getElem_cons_succ]
      refine zqk 5 rfl hH ?_
      simp only [Act.put, List.setIfInBounds_toArray, List.set_cons_zero, List.set_cons_succ, List.getElem_toArray, List.getElem_cons_zero, List.getElem_cons_succ]
      refine zqk 6 rfl hH ?_
      simp only [Act.put, List.setIfInBounds_toArray, List.set_cons_zero, List.set_cons_succ, List.getElem_toArray, List.getElem_cons_zero, List.getElem_cons_succ]
      refine zqk 7 rfl hH ?_
      simp only [Act.put, List.setIfInBounds_toArray, List.set_cons_zero, List.set_cons_succ, List.getElem_toArray, List.getElem_cons_zero, List.getElem_cons_succ]
      refine zqk 8 rfl hH ?_
      simp only [Act.put, List.setIfInBounds_toArray, List.set_cons_zero, List.set_cons_succ, List.getElem_toArray, List.getElem_cons_zero, List.getElem_cons_succ]
      refine wpAnyH_ready (rs := [9, 10]) (by kernel_rfl) (by simp) ?_
      refine AllReadyH.cons rfl (fun K hK => ?_) (AllReadyH.cons rfl (fun K hK => ?_) AllReadyH.nil)
      · go_simp
        refine (HSU.out _ hd).mono ?_
        rintro e w1 ⟨rfl, b1⟩
        have B1 := andThen hd b1
        refine hK.out _ _ (HLB.out _ B1) (fun hH2 => ?_)
        clear hK K hH
        try simp only [Act.put, List.setIfInBounds_toArray, List.set_cons_zero, List.set_cons_succ, List.getElem_toArray, List.getElem_cons_zero, List.getElem_cons_succ]
        refine wpAnyH_ready (rs := [10]) (by kernel_rfl) (by simp) ?_
        refine AllReadyH.cons rfl (fun K hK => ?_) AllReadyH.nil
        go_simp
        refine hK.out _ _ (HLB.out _ (up B1 _)) (fun hH3 => ?_)
        clear hK K hH2
        try simp only [Act.put, List.setIfInBounds_toArray, List.set_cons_zero, List.set_cons_succ, List.getElem_toArray, List.getElem_cons_zero, List.getElem_cons_succ]
        simp only [s4v]
        refine wpAnyH_ready (rs := [11]) (by kernel_rfl) (by simp) ?_
        refine AllReadyH.cons rfl (fun K hK => ?_) AllReadyH.nil
        go_simp
        refine hK.out _ _ (HLB.out _ (up B1 _)) (fun hH4 => ?_)
        clear hK K hH3
        refine wpAnyH_done (by kernel_rfl) ?_ _
        try simp only [Act.put, List.setIfInBounds_toArray, List.set_cons_zero, List.set_cons_succ, List.getElem_toArray, List.getElem_cons_zero, List.getElem_cons_succ]
        have LA := lb_new w1 (s4v s) 50
        have LB2 : Hid (LB (w1.alloc (.cells (s4v s).toArray 50)) w1.heap.size 50 (s4v s) ∧ Below w.heap.size w (w1.alloc (.cells (s4v s).toArray 50))) := ⟨LA, up B1 _⟩
        clear LA b1 B1
        go_wp2_with fail
        go_meet
        exact ⟨_, rfl, LB2.out.1, LB2.out.2⟩
      · go_simp
        have z := (lb_new w [.int .u8 0, .int .u8 0, .int .u8 0, .int .u8 0] 50).kept (Below.drew (Below.refl _ _))
        have BX : Below w.heap.size w (w.alloc (.cells #[.int .u8 0, .int .u8 0, .int .u8 0, .int .u8 0] 50)).drew := Below.drew (up0 _ _)
        refine hK.out _ _ (HLB.out _ BX) (fun hH2 => ?_)
        clear hK K hH
        try simp only [Act.put, List.setIfInBounds_toArray, List.set_cons_zero, List.set_cons_succ, List.getElem_toArray, List.getElem_cons_zero, List.getElem_cons_succ]
        refine wpAnyH_ready (rs := [9]) (by kernel_rfl) (by simp) ?_
        refine AllReadyH.cons rfl (fun K hK => ?_) AllReadyH.nil
        go_simp
        refine (HSU.out _ BX).mono ?_
        rintro e w1 ⟨rfl, b1⟩
        have z1 := z.kept b1
        have B1 := andThen BX b1
        clear z BX
        refine hK.out _ _ (HLB.out _ B1) (fun hH3 => ?_)
        clear hK K hH2 b1
        try simp only [Act.put, List.setIfInBounds_toArray, List.set_cons_zero, List.set_cons_succ, List.getElem_toArray, List.getElem_cons_zero, List.getElem_cons_succ]
        simp only [s4v]
        have y0 := z1.cell 0 _ rfl
        have y1 := z1.cell 1 _ rfl
        have y2 := z1.cell 2 _ rfl
        have y3 := z1.cell 3 _ rfl
        have f0 := z1.free 0
        have f1 := z1.free 1
        have f2 := z1.free 2
        have f3 := z1.free 3
        refine wpAnyH_ready (rs := [11]) (by kernel_rfl) (by simp) ?_
        refine AllReadyH.cons rfl (fun K hK => ?_) AllReadyH.nil
        go_simp
        have LW : ∃ W, W = (((w1.setCell ⟨w.heap.size, 0, none⟩ (.int .u8 ((s : Int) % 256))).setCell ⟨w.heap.size, 1, none⟩ (.int .u8 ((s : Int) / 256 % 256))).setCell ⟨w.heap.size, 2, none⟩ (.int .u8 ((s : Int) / 65536 % 256))).setCell ⟨w.heap.size, 3, none⟩ (.int .u8 ((s : Int) / 16777216 % 256)) ∧ LB W w.heap.size 50 (s4v s) ∧ Below w.heap.size w W := ⟨_, rfl, (((z1.set 0 _).set 1 _).set 2 _).set 3 _, Below.setCell (p := ⟨w.heap.size, 3, none⟩) (Below.setCell (p := ⟨w.heap.size, 2, none⟩) (Below.setCell (p := ⟨w.heap.size, 1, none⟩) (Below.setCell (p := ⟨w.heap.size, 0, none⟩) B1 (Nat.le_refl _) _) (Nat.le_refl _) _) (Nat.le_refl _) _) (Nat.le_refl _) _⟩
        obtain ⟨W, hWe, LW1, LW2⟩ := LW
        rw [← hWe]
        have HW2 : Hid (LB W w.heap.size 50 (s4v s) ∧ Below w.heap.size w W) := ⟨LW1, LW2⟩
        refine hK.out _ _ (HLB.out _ LW2) (fun hH4 => ?_)
        clear hK K hH3 LW1 LW2 hWe y0 y1 y2 y3 f0 f1 f2 f3 z1 B1
        refine wpAnyH_done (by kernel_rfl) ?_ _
        go_wp2_with fail
        go_meet
        exact ⟨_, rfl, HW2.out.1, HW2.out.2⟩
    case rest =>
      obtain ⟨ga, rfl, L4, BW⟩ := hcut
      have hkb := HBK.out wc BW
      have x0' := HX0.out wc BW
      have HS4 : Hid (∀ n, Bs (wc.drewN n) (.slice (some ⟨ga, 0, none⟩) 4 4) (le4 s)) := fun n => (bs_s4 L4).kept (bel_drewN (Below.refl _ _) n)
      have HBW : Hid (∀ n, Below w.heap.size w (wc.drewN n)) := fun n => bel_drewN BW n
      by_cases k2 : c = 69
      · have hk2 : ((c : Int) != 69) = false := by rw [k2]; rfl
        have hPP : P = if b.drop 1 = le4 s then 0 else 170 := by
          rw [← HP.out]
          by_cases hq : b.drop 1 = le4 s
          · rw [if_pos hq, if_pos (by rw [HBE.out, k2, hq])]
          · rw [if_neg hq, if_neg]
            intro e
            apply hq
            rw [e]
            rfl
        obtain ⟨sv, hsb, hsv⟩ := bs_tail hkb 1 h0
        have HEQ : Hid (∀ n, Calls Tryd.prog 49 #[sv, .slice (some ⟨ga, 0, none⟩) 4 4] (wc.drewN n) fun e w' => e = .returned (.bool (decide (b.drop 1 = le4 s))) ∧ w' = wc.drewN n) := fun n => bequal_any _ _ _ _ _ (hsb.kept (bel_drewN (Below.refl _ _) n)) (HS4.out n)
        clear HP HBE hkb k2 HBK HX0 HLB HSU hsb
        rcases hsv with ⟨rfl, hn1, rfl⟩ | ⟨hcap, rfl⟩
        · cases hdd : decide (b.drop 1 = le4 s) with
          | true =>
            rw [hdd] at HEQ
            rw [if_pos (of_decide_eq_true hdd)] at hPP
            subst hPP
            clear hdd
            go_wp2_with fail
            go_quiet (first | (go_at_call 49; refine Calls.quiet_of_same (HEQ.out _)))
            go_wp2_with fail
            go_ret
            exact ⟨rfl, HBW.out _⟩
          | false =>
            rw [hdd] at HEQ
            rw [if_neg (of_decide_eq_false hdd)] at hPP
            subst hPP
            clear hdd
            go_wp2_with fail
            go_quiet (first | (go_at_call 49; refine Calls.quiet_of_same (HEQ.out _)))
            go_wp2_with fail
            go_ret
            exact ⟨rfl, HBW.out _⟩
        · cases hdd : decide (b.drop 1 = le4 s) with
          | true =>
            rw [hdd] at HEQ
            rw [if_pos (of_decide_eq_true hdd)] at hPP
            subst hPP
            clear hdd
            go_wp2_with fail
            go_quiet (first | (go_at_call 49; refine Calls.quiet_of_same (HEQ.out _)))
            go_wp2_with fail
            go_ret
            exact ⟨rfl, HBW.out _⟩
          | false =>
            rw [hdd] at HEQ
            rw [if_neg (of_decide_eq_false hdd)] at hPP
            subst hPP
            clear hdd
            go_wp2_with fail
            go_quiet (first | (go_at_call 49; refine Calls.quiet_of_same (HEQ.out _)))
            go_wp2_with fail
            go_ret
            exact ⟨rfl, HBW.out _⟩
      · have hk2 : ((c : Int) != 69) = true := by simp; omega
        have hPP : P = 170 := by
          rw [← HP.out, if_neg]
          intro e
          rw [HBE.out] at e
          injection e with e _
          exact k2 e
        subst hPP
        clear HP HBE hkb k2 HBK HX0 HLB HSU HS4
        go_wp2_with fail
        go_quiet (fail)
        go_wp2_with fail
        go_ret
        exact ⟨rfl, HBW.out _⟩
end Go.Proofs.YtenhaogheilmoaaDoor
