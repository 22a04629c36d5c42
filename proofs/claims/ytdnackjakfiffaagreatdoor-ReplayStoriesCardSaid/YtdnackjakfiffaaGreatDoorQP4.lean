import Derived.Test.YtdnackjakfiffaaGreatDoorQP3
import Derived.Test.YtdnackjakfiffaaGreatDoorQSM
/-
  Replay: the reference's Same of two states, Fold.
-/
namespace Go.Proofs.YtdnackjakfiffaaGreatDoor
open Go Go.RowKit Go.ChangeShapes
open Wb

def mInt : Value → Int | .int _ q => q | _ => 0
set_option maxRecDepth 100000 in
set_option maxHeartbeats 8000000 in
theorem rysame_any (c : Int) (v v2 : Value) (Ss : List Sg) (w : World) (h : SgR w v Ss) (h2 : SgR w v2 Ss) :
    Calls Tryz.prog 12 #[.agg #[.int .i64 c, v], .agg #[.int .i64 c, v2]] w fun e w' => e = .returned (.bool true) ∧ Below w.heap.size w w' := by
  have HR1 : Hid (∀ W, Below w.heap.size w W → SgR W v Ss) := fun W hW => h.kept hW
  have HR2 : Hid (∀ W, Below w.heap.size w W → SgR W v2 Ss) := fun W hW => h2.kept hW
  have HCL : Hid (∀ (S : Sg) (s s2 : SH) (W : World), SgO 0 W S s → SgO 0 W S s2 → Calls Tryz.prog 19 #[sv S s, sv S s2] W fun e w' => e = .returned (.bool true) ∧ Below W.heap.size W w') := fun S s s2 W k k2 => same_any S s s2 W k.at k2.at
  obtain ⟨a1, c1, rfl, hm, -⟩ := h
  obtain ⟨a2, c2, rfl, -, -⟩ := h2
  unfold maxLen at hm
  have HX : Hid (LB ((w.alloc (.cells #[.int .i64 c, .slice a1 Ss.length c1] 27)).alloc (.cells #[.int .i64 c, .slice a2 Ss.length c2] 27)) w.heap.size 27 [.int .i64 c, .slice a1 Ss.length c1] ∧ LB ((w.alloc (.cells #[.int .i64 c, .slice a1 Ss.length c1] 27)).alloc (.cells #[.int .i64 c, .slice a2 Ss.length c2] 27)) (w.heap.size + 1) 27 [.int .i64 c, .slice a2 Ss.length c2] ∧ Below w.heap.size w ((w.alloc (.cells #[.int .i64 c, .slice a1 Ss.length c1] 27)).alloc (.cells #[.int .i64 c, .slice a2 Ss.length c2] 27))) := lb_new2 w _ _ _ _
  have x0 := HX.out.1.cell 0 _ rfl
  have x1 := HX.out.1.cell 1 _ rfl
  have y0 := HX.out.2.1.cell 0 _ rfl
  have y1 := HX.out.2.1.cell 1 _ rfl
  have d0 : (c != c) = false := by simp
  have d1 : ((Ss.length : Int) != (Ss.length : Int)) = false := by simp
  go_enter Tryz.func12, Tryz.ntmps12
  go_wp2_with fail
  clear x0 x1 y0 y1 d0 d1
  go_loopw [5] (fun i wr => ∃ k : Nat, k ≤ Ss.length ∧ i = .int .i64 (k : Int) ∧ LB wr w.heap.size 27 [.int .i64 c, .slice a1 Ss.length c1] ∧ LB wr (w.heap.size + 1) 27 [.int .i64 c, .slice a2 Ss.length c2] ∧ Below w.heap.size w wr) (fun i _ => Ss.length - (mInt i).toNat)
  case atStart => exact ⟨0, Nat.zero_le _, rfl, HX.out⟩
  case round =>
    obtain ⟨k, hk, rfl, q1, q2, q3⟩ := hrel
    have HI : Hid (LB wr w.heap.size 27 [.int .i64 c, .slice a1 Ss.length c1] ∧ LB wr (w.heap.size + 1) 27 [.int .i64 c, .slice a2 Ss.length c2] ∧ Below w.heap.size w wr) := ⟨q1, q2, q3⟩
    have x1 := HI.out.1.cell 1 _ rfl
    have y1 := HI.out.2.1.cell 1 _ rfl
    clear q1 q2 q3 HX
    by_cases hlt : k < Ss.length
    · obtain ⟨b9, c9, e9, -, -, hc1⟩ := HR1.out _ HI.out.2.2
      obtain ⟨b8, c8, e8, -, -, hc2⟩ := HR2.out _ HI.out.2.2
      simp only [Value.slice.injEq, true_and] at e9 e8
      obtain ⟨rfl, rfl⟩ := e9
      obtain ⟨rfl, rfl⟩ := e8
      obtain ⟨b1, o1, s1, rfl, hr1, hs1⟩ := hc1 k Ss[k] (List.getElem?_eq_getElem hlt)
      obtain ⟨b2, o2, s2, rfl, hr2, hs2⟩ := hc2 k Ss[k] (List.getElem?_eq_getElem hlt)
      obtain ⟨S, hS⟩ : ∃ S, Ss[k] = S := ⟨_, rfl⟩
      rw [hS] at hr1 hr2 hs1 hs2
      obtain ⟨D1, hD1, hL1, hE1⟩ := sv_letter S s1
      obtain ⟨D2, hD2, hL2, hE2⟩ := sv_letter S s2
      have HL1 : Hid _ := hL1
      have HL2 : Hid _ := hL2
      have HG1 : Hid (∀ W, Below wr.heap.size wr W → W.rangeAt b1 (o1 + k * 16) D1) := fun W hW j u hj => by
        rw [hE1] at hj
        exact (hW.cell (p := ⟨b1, o1 + k * 16 + j, none⟩) (World.block_lt_of_cell? _ _ (hr1 j u hj))).trans (hr1 j u hj)
      have HG2 : Hid (∀ W, Below wr.heap.size wr W → W.rangeAt b2 (o2 + k * 16) D2) := fun W hW j u hj => by
        rw [hE2] at hj
        exact (hW.cell (p := ⟨b2, o2 + k * 16 + j, none⟩) (World.block_lt_of_cell? _ _ (hr2 j u hj))).trans (hr2 j u hj)
      have HC : Hid (∀ W, Below wr.heap.size wr W → Calls Tryz.prog 19 #[.agg D1.toArray, .agg D2.toArray] W fun e w' => e = .returned (.bool true) ∧ Below W.heap.size W w') := fun W hW => by
        have e := HCL.out S s1 s2 W (hs1.kept hW) (hs2.kept hW)
        rw [hD1, hD2] at e
        exact e
      clear hc1 hc2 hr1 hr2 hs1 hs2 hS hD1 hL1 hE1 hD2 hL2 hE2 HR1 HR2
      go_upto_region 6 with fail
      clear x1 y1
      have HCK : Hid (∀ W, Below wr.heap.size wr W → (fun w' : World => w'.cell? ⟨w.heap.size, 1, none⟩ = some (.slice (some ⟨b1, o1, none⟩) Ss.length c1) ∧ w'.cell? ⟨w.heap.size + 1, 1, none⟩ = some (.slice (some ⟨b2, o2, none⟩) Ss.length c2) ∧ w'.rangeAt b1 (o1 + k * 16) D1 ∧ w'.rangeAt b2 (o2 + k * 16) D2) W) := fun W hW => ⟨(HI.out.1.kept hW).cell 1 _ rfl, (HI.out.2.1.kept hW).cell 1 _ rfl, HG1.out W hW, HG2.out W hW⟩
      refine wp_region_held_drew (S := fun w' : World => w'.cell? ⟨w.heap.size, 1, none⟩ = some (.slice (some ⟨b1, o1, none⟩) Ss.length c1) ∧ w'.cell? ⟨w.heap.size + 1, 1, none⟩ = some (.slice (some ⟨b2, o2, none⟩) Ss.length c2) ∧ w'.rangeAt b1 (o1 + k * 16) D1 ∧ w'.rangeAt b2 (o2 + k * 16) D2) (by kernel_rfl) (HCK.out _ (Below.drew (Below.refl _ _))) (fun hH => ?_)
      obtain ⟨WV, hWV⟩ : ∃ x, x = wr.drew := ⟨_, rfl⟩
      have HBV : Hid (Below wr.heap.size wr WV) := by rw [hWV]; exact Below.drew (Below.refl _ _)
      rw [← hWV]
      clear hWV hH
      have kv := HCK.out WV HBV.out
      refine zqk 0 rfl kv ?_
      try simp only [Act.put, zq1, zq2, zq3, zq4, zq5]
      refine zqk 1 rfl kv ?_
      try simp only [Act.put, zq1, zq2, zq3, zq4, zq5, zq6]
      refine zqk 2 rfl kv ?_
      try simp only [Act.put, zq1, zq2, zq3, zq4, zq5, zq6]
      refine zqk 3 rfl kv ?_
      try simp only [Act.put, zq1, zq2, zq3, zq4, zq5, zq6]
      refine zql 4 rfl (yieldsIf_load_mid rfl 43 (.tmp 30) rfl b1 (o1 + k * 16) rfl D1 _ (fun w' hw => hw.2.2.1) Tryz.underlying43 rfl HL1.out) kv ?_
      try simp only [Act.put, zq1, zq2, zq3, zq4, zq5, zq6]
      refine zqk 5 rfl kv ?_
      try simp only [Act.put, zq1, zq2, zq3, zq4, zq5, zq6]
      refine zqk 6 rfl kv ?_
      try simp only [Act.put, zq1, zq2, zq3, zq4, zq5, zq6]
      refine zqk 7 rfl kv ?_
      try simp only [Act.put, zq1, zq2, zq3, zq4, zq5, zq6]
      refine zqk 8 rfl kv ?_
      try simp only [Act.put, zq1, zq2, zq3, zq4, zq5, zq6]
      refine zql 9 rfl (yieldsIf_load_mid rfl 43 (.tmp 35) rfl b2 (o2 + k * 16) rfl D2 _ (fun w' hw => hw.2.2.2) Tryz.underlying43 rfl HL2.out) kv ?_
      try simp only [Act.put, zq1, zq2, zq3, zq4, zq5, zq6]
      refine zqr 10 rfl (fun K hK => ?_)
      go_simp
      refine (HC.out _ HBV.out).mono ?_
      rintro e w4 ⟨rfl, b4⟩
      have HB4 : Hid (Below wr.heap.size wr w4) := andThen HBV.out b4
      refine hK.out _ _ (HCK.out _ HB4.out) fun _ => ?_
      clear hK K b4
      try simp only [Act.put, zq1, zq2, zq3, zq4, zq5, zq6]
      have kv := HCK.out w4 HB4.out
      refine zqk 11 rfl kv ?_
      try simp only [Act.put, zq1, zq2, zq3, zq4, zq5, zq6]
      refine wpAnyH_done (by kernel_rfl) ?_ _
      try simp only [Act.put, zq1, zq2, zq3, zq4, zq5, zq6]
      clear kv HCK
      go_wp2_with fail
      go_roundw
      case rel => exact ⟨k + 1, by omega, by go_num, HI.out.1.kept HB4.out, HI.out.2.1.kept HB4.out, andThen HI.out.2.2 HB4.out⟩
      case measure => simp [mInt]; omega
    · obtain rfl : k = Ss.length := by omega
      go_wp2_with fail
      go_ret
      exact ⟨rfl, HI.out.2.2⟩
/-- what Fold answers -/
def FoP (w : World) (rs : List Rec) (e : Ending) (w' : World) : Prop := ∃ a, ∃ cp : Nat, e = .returned (.tuple #[.agg #[.int .i64 ((Rp.fold [] rs).1 : Int), .slice a ((Rp.fold [] rs).2.map (·.2)).length cp], .int .i64 (Rp.plc rs)]) ∧ SgR w' (.slice a ((Rp.fold [] rs).2.map (·.2)).length cp) ((Rp.fold [] rs).2.map (·.2)) ∧ Below w.heap.size w w'
theorem sgR_set {w : World} {p j : Nat} {v u : Value} {Ss : List Sg} {B : Nat} {ps : List (Sg × SH)} {t : TypeId} {C : List Value} (h : Sgs B w v ps) (e : ps.map (·.1) = Ss) (L : LB w p t C) (h1 : t ≠ 43) (h2 : t ≠ 5) (h3 : t ≠ 30) : SgR (w.setCell ⟨p, j, none⟩ u) v Ss := by
  rw [← e]
  exact (h.set L h1 h2 h3).at
set_option maxRecDepth 100000 in
set_option maxHeartbeats 8000000 in
theorem ryfold_any (rs : List Rec) (v : Value) (w : World) (hR : RecsAt w v rs) (hT : STabs w) (hg : Fg rs) (hl : rs.length ≤ 10000000) :
    Calls Tryz.prog 10 #[v] w fun e w' => FoP w rs e w' := by
  have HRG : Hid (∀ r ∈ rs, Rp.Rg r) := fun r hr => by
    obtain ⟨ao, cap, rfl, hm, hc⟩ := hR
    obtain ⟨k, hk, rfl⟩ := List.getElem_of_mem hr
    obtain ⟨b, off, d, _, _, hd⟩ := hc k rs[k] (List.getElem?_eq_getElem hk)
    exact ⟨hd.good, (hg _ hr).2⟩
  obtain ⟨W0, hW0⟩ : ∃ W, W = w.alloc (.cells #[.int .i64 0, .slice none 0 0] 27) := ⟨_, rfl⟩
  have HX : Hid (LB W0 w.heap.size 27 [.int .i64 0, .slice none 0 0] ∧ Below w.heap.size w W0 ∧ W0.heap.size = w.heap.size + 1) := by
    rw [hW0]
    exact ⟨lb_new w _ _, up0 _ _, heap_one _ _⟩
  have HAA : Hid (∀ (g b : Nat) (W : World), FD W g b 0 [] → Below W0.heap.size W0 W → W0.heap.size ≤ g ∧ W0.heap.size ≤ b → Calls Tryz.prog 23 #[.pointer (some ⟨g, 0, none⟩), v] W fun e w' => AaPost W0 g b 0 [] rs e w') := fun g b W hF hW hB => ryaddall_any g b 0 [] rs v W0 W hF (hR.kept HX.out.2.1) hW (hT.kept HX.out.2.1) Rp.Wf.nil hg (by omega) hB
  have HLE : Hid ((Rp.fold [] rs).1 ≤ 10000000) := Nat.le_trans (Rp.fold_le rs []) hl
  have HW0 : Hid (w.alloc (.cells #[.int .i64 0, .slice none 0 0] 27) = W0) := hW0.symm
  clear hR hT hg hl hW0
  go_enter Tryz.func10, Tryz.ntmps10
  go_upto_region 1 with fail
  rw [HW0.out]
  go_wp2_with fail
  refine (rynew_any _).mono ?_
  rintro e w1 ⟨g, b, rfl, f1, g1, g2, b1⟩
  have H1 : Hid (FD w1 g b 0 [] ∧ (W0.heap.size ≤ g ∧ W0.heap.size ≤ b) ∧ Below W0.heap.size W0 w1) := ⟨f1, ⟨g1, g2⟩, b1⟩
  clear f1 g1 g2 b1
  go_wp2_with fail
  have HAA2 : Hid (Calls Tryz.prog 23 #[.pointer (some ⟨g, 0, none⟩), v] w1 fun e w' => AaPost W0 g b 0 [] rs e w') := HAA.out g b w1 H1.out.1 H1.out.2.2 H1.out.2.1
  refine HAA2.out.mono ?_
  rintro e w2 ⟨rfl, ⟨M, hM, f2, wf2⟩, b2⟩
  have hpl : (if (Rp.fold (puM []) rs).1 = rs.length then (-1 : Int) else ((Rp.fold (puM []) rs).1 : Int)) = Rp.plc rs := rfl
  rw [hpl]
  have HM : Hid (puM M = (Rp.fold [] rs).2) := hM
  have HST : Hid (Calls Tryz.prog 24 #[.pointer (some ⟨g, 0, none⟩)] w2 fun e w' => SeP w2 (0 + (Rp.fold [] rs).1) M e w') := rystate_any g b _ M w2 f2 (fun k p e => by
    have h1 := wf2.at' k p.1 (by rw [puM_get, e]; rfl)
    exact light_of p.1 h1.chk) (by rw [Nat.zero_add]; exact HLE.out) (fun p hp => by
    have h0 : Mv.get M p.1 = some p.2 := (Mv.get_mem f2.ris).2 hp
    have h1 := wf2.at' p.1 p.2.1 (by rw [puM_get, h0]; rfl)
    obtain ⟨⟨_, b2, _⟩, _⟩ := (chkS_iff p.2.1).1 h1.chk
    rw [← h1.id]
    omega)
  have H2 : Hid (Below W0.heap.size W0 w2) := b2
  clear hpl hM f2 wf2 b2 HAA2 HAA H1
  go_wp2_with fail
  refine HST.out.mono ?_
  rintro e w3 ⟨a3, c3, ps, rfl, o3, m3, b3⟩
  have L3 : Hid (LB w3 w.heap.size 27 [.int .i64 0, .slice none 0 0]) := (HX.out.1.kept H2.out).kept b3
  have HS3 : Hid (Sgs w2.heap.size w3 (.slice a3 ps.length c3) ps ∧ ps.map (·.1) = (Rp.fold [] rs).2.map (·.2) ∧ Below w.heap.size w w3) := ⟨o3, by rw [m3, HM.out], andThen (andThen HX.out.2.1 H2.out) b3⟩
  clear o3 m3 b3 HST
  obtain ⟨z, hz⟩ : ∃ z : Nat, z = (Rp.fold [] rs).1 := ⟨_, rfl⟩
  have hz0 : ((0 + (Rp.fold [] rs).1 : Nat) : Int) = (z : Int) := by rw [hz, Nat.zero_add]
  rw [hz0]
  have HZ : Hid (z = (Rp.fold [] rs).1) := hz
  obtain ⟨y, hy⟩ : ∃ y, y = Rp.plc rs := ⟨_, rfl⟩
  rw [← hy]
  have HY : Hid (y = Rp.plc rs) := hy
  obtain ⟨m, hm⟩ : ∃ m, m = ps.length := ⟨_, rfl⟩
  rw [← hm] at HS3 ⊢
  have HM2 : Hid (m = ((Rp.fold [] rs).2.map (·.2)).length) := by
    show _ = _
    rw [← HS3.out.2.1, List.length_map, hm]
  clear hz hz0 hy hm
  have r0 := L3.out.cell 0 _ rfl
  have r1 := L3.out.cell 1 _ rfl
  have f0 := L3.out.free 0
  have f1 := L3.out.free 1
  go_wp2_with fail
  have LZ := (L3.out.set 0 (.int .i64 (z : Int))).set 1 (.slice a3 m c3)
  refine bodyPost_ret (results_cell_slot (p := 2) (s := 3) (ty := 27) rfl _ _ w.heap.size [.int .i64 (z : Int), .slice a3 m c3] _ rfl LZ.range Tryz.underlying27 rfl (by kernel_rfl)) rfl ?_
  refine ⟨a3, c3, (by rw [← HZ.out, ← HY.out, ← HM2.out]; rfl), ?_, Below.setCell (Below.setCell HS3.out.2.2 (Nat.le_refl _) _) (Nat.le_refl _) _⟩
  rw [← HM2.out]
  exact sgR_set (HS3.out.1.set L3.out (by decide) (by decide) (by decide)) HS3.out.2.1 (L3.out.set 0 _) (by decide) (by decide) (by decide)

end Go.Proofs.YtdnackjakfiffaaGreatDoor
