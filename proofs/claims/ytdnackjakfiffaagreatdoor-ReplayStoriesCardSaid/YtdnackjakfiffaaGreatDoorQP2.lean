import Derived.Test.YtdnackjakfiffaaGreatDoorQP1
import Derived.Test.YtdnackjakfiffaaGreatDoorQE2
/-
  Replay: Add, addAll.
-/
namespace Go.Proofs.YtdnackjakfiffaaGreatDoor
open Go Go.RowKit Go.ChangeShapes
open Wb

theorem rstep_load_mid {P : Program} {ops : Array Oper} {o : Oper} {a : Act} {w : World} {K : Act → World → Prop} {Q : Exit → Act → World → Prop} {E : Prop} (hgd : o.guard = none) (ty : TypeId) (x : Operand) (ho : o.op = .load ty x)
    (b f : Nat) (hx : a.eval x = .pointer (some ⟨b, f, none⟩)) (cs : List Value) (d : TypeDesc) (hc : w.rangeAt b f cs)
    (hu : P.underlying ty = some d) (hd : d.isRow = true) (hi : (P.info? ty).map (·.size) = some cs.length)
    (h : K (a.put o.dst (.agg cs.toArray)) w) : if Region.wanted o (yielded ops a.tmps) = true then Oper.wp P o a w K Q else E := by
  rw [if_pos (by simp [Region.wanted, hgd])]
  exact wp_load_mid ty x ho b f hx cs d hc hu hd hi h
/-- what Add leaves -/
def AdPost (B : Nat) (w : World) (g b c : Nat) (M : Ms) (r : Rec) (e : Ending) (w' : World) : Prop := e = .returned (.int .i64 (Rp.step (puM M) r).1) ∧ Below B w w' ∧ ((Rp.step (puM M) r).1 = 0 → ∃ h', FD w' g b (c + 1) (Mv.put M r.x.s ((Rp.step (puM M) r).2, h'))) ∧ ((Rp.step (puM M) r).1 ≠ 0 → FD w' g b c M)
set_option maxRecDepth 100000 in
set_option maxHeartbeats 8000000 in
theorem ryadd_any (g b c : Nat) (M : Ms) (r : Rec) (d : Value) (w : World) (h : FD w g b c M) (hb : Bs w d r.l) (hT : STabs w) (hG : Rp.Wf (puM M)) (hnm2 : r.nm.size ≤ 140737488355000) (hf : r.x.fit) (hc : c < 1000000000) (B : Nat) (hB : B ≤ g ∧ B ≤ b) (hBw : B ≤ w.heap.size) :
    Calls Tryz.prog 44 #[.pointer (some ⟨g, 0, none⟩), rv r.x r.nm d] w fun e w' => AdPost B w g b c M r e w' := by
  have HFD : Hid (∀ W, Below w.heap.size w W → FD W g b c M) := fun W hW => h.kept hW
  have HSO : Hid ((Rp.step (puM M) r).1 = 0 → Rp.So (Rp.step (puM M) r).2 r.x.s) := fun h0 => Rp.stp_ok _ r ⟨hb.good, hf⟩ (hG.get _) h0
  obtain ⟨G, hGr, hGL, hGE⟩ := rv_letter r.x r.nm d
  have HBH : Hid (∀ W, Below w.heap.size w W → Calls Tryz.prog 58 #[.pointer (some ⟨g, 0, none⟩), .agg G.toArray] W fun e w'' => ApPost W (Rp.step (puM M) r) e w'') := fun W hW => by
    have e := rybehind_any g b c M r d W (h.kept hW) (hb.kept hW) (hT.kept hW) hG hnm2 hf
    rw [hGr] at e
    exact e
  have HFS : Hid (-9223372036854775808 ≤ r.x.s ∧ r.x.s ≤ 9223372036854775807) := hf 2 (by omega) (by omega)
  rw [hGr]
  have HGL : Hid _ := hGL
  clear h hb hT hG hnm2 hf hGr hGL hGE
  unfold AdPost
  obtain ⟨z, hz⟩ : ∃ z, (Rp.step (puM M) r).1 = z := ⟨_, rfl⟩
  obtain ⟨S', hS'⟩ : ∃ S', (Rp.step (puM M) r).2 = S' := ⟨_, rfl⟩
  have HST : Hid (Rp.step (puM M) r = (z, S')) := by show _ = _; rw [← hz, ← hS']
  rw [hz, hS'] at HSO
  rw [hz, hS']
  rw [HST.out] at HBH
  clear hz hS' HST
  obtain ⟨Z, hZ⟩ : ∃ Z, Z = zcl := ⟨_, rfl⟩
  have HZ : Hid (Z = zcl) := hZ
  have HZL : Hid (Z.length = 16) := by show _ = _; rw [hZ]; rfl
  clear hZ
  have HX : Hid (LB (w.alloc (.cells G.toArray 32)) w.heap.size 32 G ∧ Below w.heap.size w (w.alloc (.cells G.toArray 32))) := ⟨lb_new w G _, up0 _ _⟩
  go_enter Tryz.func44, Tryz.ntmps44
  go_wp2_with (first | (refine wpList_load_mid rfl 32 _ rfl w.heap.size 0 rfl G _ HX.out.1.range Tryz.underlying32 rfl HGL.out ?_) | fail)
  refine (HBH.out _ HX.out.2).mono ?_
  rintro e w2 ⟨h2, rfl, o2, b2⟩
  have H2 : Hid (SgO 0 w2 S' h2 ∧ Below w.heap.size w w2) := ⟨o2.weak (Nat.zero_le _), andThen HX.out.2 b2⟩
  clear o2 b2 HX HBH HGL
  obtain ⟨D, hD, hDL, hDE⟩ := sv_letter S' h2
  rw [hD]
  have HDL : Hid _ := hDL
  have HD1 : Hid (∀ v ∈ D, v.oneCell' = true) := by show ∀ v ∈ D, _; rw [hDE]; exact scl_one _ _
  have HDZ : Hid (D.length = Z.length) := by show _ = _; rw [hDE, HZL.out]; rfl
  have HDV : Hid (Value.agg D.toArray = sv S' h2) := hD.symm
  have HD0 : Hid (D[0]? = some (.int .i64 S'.x.id)) := by show _ = _; rw [hDE]; rfl
  clear hD hDL hDE
  have HTH : Hid ((w2.alloc (.cells Z.toArray 43)).there w2.heap.size 0 D.toArray.size) := there_of (lb_new w2 Z 43) (by simpa using HDZ.out)
  have H3 : Hid (∃ W3, W3 = (w2.alloc (.cells Z.toArray 43)).setCells w2.heap.size 0 D ∧ LB W3 w2.heap.size 43 D ∧ SgO 0 W3 S' h2 ∧ Below w.heap.size w W3) := ⟨_, rfl, (lb_new w2 Z 43).sets D HDZ.out, (H2.out.1.kept (up0 _ _)).kb (KB.cells (lb_new w2 Z 43) (by decide) (by decide) 0 D), below_cells H2.out.2.size _ 0 _ (andThen H2.out.2 (up0 _ _))⟩
  by_cases hz : z = 0
  · have hz2 : (z != 0) = false := by simp [hz]
    have HZ0 : Hid (z = 0) := hz
    clear hz
    go_upto_region 4 with (first | (refine wpList_alloc_Z HZ.out rfl rfl ?_) | (refine wpList_store_mid rfl 43 (.tmp 5) (.tmp 11) rfl w2.heap.size 0 D.toArray rfl rfl HTH.out (by simpa using HDL.out) (all_oneCell_toArray HD1.out) ?_; (obtain ⟨W3, hW3, hq⟩ := H3.out); (have H4 : Hid _ := hq); (rw [List.toList_toArray, ← hW3]); (clear hW3 hq H3 HTH)) | fail)
    have HID : Hid (S'.x.id = r.x.s) := (HSO.out HZ0.out).id
    have hid9 := HID.out
    rw [hid9] at HD0
    clear hid9
    have HCK : Hid (∀ W, Below W3.heap.size W3 W → (fun w' => w'.cell? ⟨g, 1, none⟩ = some (.map (some b)) ∧ w'.cell? ⟨w2.heap.size, 0, none⟩ = some (.int .i64 r.x.s)) W) := fun W hW => ⟨(HFD.out _ (andThen H4.out.2.2 hW)).cell, (H4.out.1.kept hW).cell 0 _ HD0.out⟩
    refine wp_region_held_drew (S := fun w' => w'.cell? ⟨g, 1, none⟩ = some (.map (some b)) ∧ w'.cell? ⟨w2.heap.size, 0, none⟩ = some (.int .i64 r.x.s)) (by kernel_rfl) (HCK.out _ (Below.drew (Below.refl _ _))) (fun hH => ?_)
    obtain ⟨WV, hWV⟩ : ∃ x, x = W3.drew := ⟨_, rfl⟩
    have HBV : Hid (Below W3.heap.size W3 WV) := by rw [hWV]; exact Below.drew (Below.refl _ _)
    rw [← hWV]
    clear hWV hH
    have kv := HCK.out WV HBV.out
    refine zqk 0 rfl kv ?_
    try simp only [Act.put, zq1, zq2, zq3, zq4, zq5]
    refine zqk 1 rfl kv ?_
    try simp only [Act.put, zq1, zq2, zq3, zq4, zq5, zq6]
    refine zqk 2 rfl kv ?_
    try simp only [Act.put, zq1, zq2, zq3, zq4, zq5, zq6]
    refine zqk 3 rfl kv ?_
    try simp only [Act.put, zq1, zq2, zq3, zq4, zq5, zq6]
    refine zqk 4 rfl kv ?_
    try simp only [Act.put, zq1, zq2, zq3, zq4, zq5, zq6]
    refine zqk 5 rfl kv ?_
    try simp only [Act.put, zq1, zq2, zq3, zq4, zq5, zq6]
    have LV : Hid (LB WV w2.heap.size 43 D) := H4.out.1.kept HBV.out
    refine zqr 6 rfl (fun K hK => ?_)
    refine rstep_load_mid rfl 43 (.tmp 5) rfl w2.heap.size 0 rfl D _ LV.out.range Tryz.underlying43 rfl HDL.out ?_
    refine hK.out _ _ kv (fun hH => ?_)
    clear hK K
    try simp only [Act.put, zq1, zq2, zq3, zq4, zq5, zq6]
    have HBW : Hid (Below w.heap.size w WV) := andThen H4.out.2.2 HBV.out
    obtain ⟨w5, hr5, hlb5, hs5, hfd5, hbb5⟩ := (HFD.out WV HBW.out).put r.x.s HFS.out hc S' h2 (H4.out.2.1.kept HBV.out) B hB (Nat.le_trans hBw HBW.out.size)
    rw [← HDV.out] at hr5
    have H5 : Hid (LB w5 g 75 [.int .i64 (c : Int), .map (some b)] ∧ FD (w5.setCell ⟨g, 0, none⟩ (.int .i64 ((c + 1 : Nat) : Int))) g b (c + 1) (Mv.put M r.x.s (S', h2)) ∧ Below B WV (w5.setCell ⟨g, 0, none⟩ (.int .i64 ((c + 1 : Nat) : Int)))) := ⟨hlb5 _ _ _ (HFD.out WV HBW.out).box, hfd5, hbb5⟩
    have kv5 : (fun w' => w'.cell? ⟨g, 1, none⟩ = some (.map (some b)) ∧ w'.cell? ⟨w2.heap.size, 0, none⟩ = some (.int .i64 r.x.s)) w5 := ⟨H5.out.1.cell 1 _ rfl, (hlb5 _ _ _ LV.out).cell 0 _ HD0.out⟩
    refine zqr 7 rfl (fun K hK => ?_)
    refine rstep_upd rfl 73 (.tmp 19) (.tmp 21) (.tmp 22) rfl rfl rfl rfl hr5 ?_
    refine hK.out _ _ kv5 (fun hH => ?_)
    clear hK K
    refine wpAnyH_done (by kernel_rfl) ?_ _
    try simp only [Act.put, zq4, zq5, zq6]
    clear kv kv5 hH hr5 hlb5 hs5 hfd5 hbb5
    have x0 := H5.out.1.cell 0 _ rfl
    have x1 := H5.out.1.free 0
    have hw1 : IntKind.i64.wrap ((c : Int) + 1) = ((c + 1 : Nat) : Int) := by rw [show (c : Int) + 1 = ((c + 1 : Nat) : Int) by omega]; exact IntWalk.i64_in _ (by omega)
    go_wp2_with fail
    go_ret
    refine ⟨(by rw [HZ0.out]; rfl), (HBW.out.mono hBw).trans H5.out.2.2, fun _ => ⟨h2, H5.out.2.1⟩, fun e => absurd HZ0.out e⟩
  · have hz2 : (z != 0) = true := by simp [hz]
    have HZ0 : Hid (z ≠ 0) := hz
    clear hz
    go_wp2_with (first | (refine wpList_alloc_Z HZ.out rfl rfl ?_) | (refine wpList_store_mid rfl 43 (.tmp 5) (.tmp 11) rfl w2.heap.size 0 D.toArray rfl rfl HTH.out (by simpa using HDL.out) (all_oneCell_toArray HD1.out) ?_; (obtain ⟨W3, hW3, hq⟩ := H3.out); (have H4 : Hid _ := hq); (rw [List.toList_toArray, ← hW3]); (clear hW3 hq H3 HTH)) | fail)
    go_ret
    exact ⟨rfl, H4.out.2.2.mono hBw, fun e => absurd e HZ0.out, fun _ => HFD.out _ H4.out.2.2⟩
theorem fold_drop {M : Rp.Gs} {rs : List Rec} {k : Nat} {G : Rp.Gs} (h : Rp.fold M rs = ((Rp.fold G (rs.drop k)).1 + k, (Rp.fold G (rs.drop k)).2)) (hk : k < rs.length) (h0 : (Rp.step G rs[k]).1 = 0) :
    Rp.fold M rs = ((Rp.fold (Mv.put G rs[k].x.s (Rp.step G rs[k]).2) (rs.drop (k + 1))).1 + (k + 1), (Rp.fold (Mv.put G rs[k].x.s (Rp.step G rs[k]).2) (rs.drop (k + 1))).2) := by
  rw [h, List.drop_eq_getElem_cons hk, Rp.fold_cons, if_pos h0]
  simp only [Prod.mk.injEq, and_true]
  omega
theorem fold_stop {M : Rp.Gs} {rs : List Rec} {k : Nat} {G : Rp.Gs} (h : Rp.fold M rs = ((Rp.fold G (rs.drop k)).1 + k, (Rp.fold G (rs.drop k)).2)) (hk : k < rs.length) (h0 : (Rp.step G rs[k]).1 ≠ 0) : Rp.fold M rs = (k, G) := by
  rw [h, List.drop_eq_getElem_cons hk, Rp.fold_cons, if_neg h0]
  simp
theorem fold_done {M : Rp.Gs} {rs : List Rec} {G : Rp.Gs} (h : Rp.fold M rs = ((Rp.fold G (rs.drop rs.length)).1 + rs.length, (Rp.fold G (rs.drop rs.length)).2)) : Rp.fold M rs = (rs.length, G) := by
  rw [h, List.drop_length]
  simp [Rp.fold]
/-- records that may be folded -/
def Fg (rs : List Rec) : Prop := ∀ r ∈ rs, r.nm.size ≤ 140737488355000 ∧ r.x.fit
/-- what addAll leaves -/
def AaPost (w0 : World) (g b c : Nat) (M : Ms) (rs : List Rec) (e : Ending) (w' : World) : Prop := e = .returned (.int .i64 (if (Rp.fold (puM M) rs).1 = rs.length then -1 else ((Rp.fold (puM M) rs).1 : Int))) ∧ (∃ M', puM M' = (Rp.fold (puM M) rs).2 ∧ FD w' g b (c + (Rp.fold (puM M) rs).1) M' ∧ Rp.Wf (puM M')) ∧ Below w0.heap.size w0 w'
set_option maxRecDepth 100000 in
set_option maxHeartbeats 8000000 in
theorem ryaddall_any (g b c : Nat) (M : Ms) (rs : List Rec) (v : Value) (w0 w : World) (h : FD w g b c M) (hR : RecsAt w0 v rs) (h0 : Below w0.heap.size w0 w) (hT : STabs w0) (hG : Rp.Wf (puM M)) (hg : Fg rs) (hc : c + rs.length < 1000000000) (hB : w0.heap.size ≤ g ∧ w0.heap.size ≤ b) :
    Calls Tryz.prog 23 #[.pointer (some ⟨g, 0, none⟩), v] w fun e w' => AaPost w0 g b c M rs e w' := by
  obtain ⟨ao, cap, rfl, hm, hcr0⟩ := hR
  have HRA : Hid (∀ k r, rs[k]? = some r → ∃ b off d, ao = some ⟨b, off, none⟩ ∧ w0.rangeAt b (off + k * 12) (rcl (r, d)) ∧ Bs w0 d r.l) := hcr0
  have HAD : Hid (∀ (c' : Nat) (M' : Ms) (r : Rec) (d : Value) (W : World), FD W g b c' M' → Below w0.heap.size w0 W → Rp.Wf (puM M') → c' < 1000000000 → r ∈ rs → Bs w0 d r.l → Calls Tryz.prog 44 #[.pointer (some ⟨g, 0, none⟩), rv r.x r.nm d] W fun e w' => AdPost w0.heap.size W g b c' M' r e w') := fun c' M' r d W hF hW hG' hc' hr hd => ryadd_any g b c' M' r d W hF (hd.kept hW) (hT.kept hW) hG' (hg r hr).1 (hg r hr).2 hc' _ hB hW.size
  have HRG : Hid (∀ r ∈ rs, ∀ (d : Value), Bs w0 d r.l → Rp.Rg r) := fun r hr d hd => ⟨hd.good, (hg r hr).2⟩
  have H0 : Hid (FD w g b c M ∧ Rp.Wf (puM M) ∧ Below w0.heap.size w0 w) := ⟨h, hG, h0⟩
  have HC : Hid (c + rs.length < 1000000000) := hc
  obtain ⟨Z, hZ⟩ : ∃ Z, Z = zrl := ⟨_, rfl⟩
  have HZ : Hid (Z = zrl) := hZ
  have HZL : Hid (Z.length = 12) := by show _ = _; rw [hZ]; rfl
  clear hcr0 h hT hG h0 hg hc hZ hB
  unfold maxLen at hm
  go_enter Tryz.func23, Tryz.ntmps23
  go_wp2_with fail
  go_loopw [9] (fun i wr => ∃ k : Nat, k ≤ rs.length ∧ i = .int .i64 (k : Int) ∧ ∃ M', FD wr g b (c + k) M' ∧ Rp.Wf (puM M') ∧ Rp.fold (puM M) rs = ((Rp.fold (puM M') (rs.drop k)).1 + k, (Rp.fold (puM M') (rs.drop k)).2) ∧ Below w0.heap.size w0 wr) (fun i _ => rs.length - (intOf i).toNat)
  case atStart => exact ⟨0, Nat.zero_le _, rfl, M, by simpa using H0.out.1, H0.out.2.1, by simp, H0.out.2.2⟩
  case round =>
    obtain ⟨k, hk, rfl, M', hF, hW, hfo, hbl⟩ := hrel
    have HI : Hid (FD wr g b (c + k) M' ∧ Rp.Wf (puM M') ∧ Rp.fold (puM M) rs = ((Rp.fold (puM M') (rs.drop k)).1 + k, (Rp.fold (puM M') (rs.drop k)).2) ∧ Below w0.heap.size w0 wr) := ⟨hF, hW, hfo, hbl⟩
    clear hF hW hfo hbl
    by_cases hlt : k < rs.length
    · obtain ⟨b0, off, d, rfl, hcr, hd⟩ := HRA.out k rs[k] (List.getElem?_eq_getElem hlt)
      obtain ⟨r, hr⟩ : ∃ r, rs[k] = r := ⟨_, rfl⟩
      have HRM : Hid (r ∈ rs) := by show _ ∈ _; rw [← hr]; exact List.getElem_mem hlt
      have HRK : Hid (rs[k] = r) := hr
      rw [hr] at hcr hd
      have HD : Hid (Bs w0 d r.l) := hd
      obtain ⟨G, hGr, hGL, hGE⟩ := rv_letter r.x r.nm d
      have hGE2 : G = rcl (r, d) := hGE
      have HCR : Hid (wr.rangeAt b0 (off + k * 12) G) := fun j u hj => by
        rw [hGE2] at hj
        exact (HI.out.2.2.2.cell (p := ⟨b0, off + k * 12 + j, none⟩) (World.block_lt_of_cell? _ _ (hcr j u hj))).trans (hcr j u hj)
      have HGL : Hid _ := hGL
      have HG1 : Hid (∀ v ∈ G, v.oneCell' = true) := by show ∀ v ∈ G, _; rw [hGE]; exact rcE_one _ _ _ (by obtain ⟨ao9, c9, e9, _⟩ := hd.shape; rw [e9]; rfl)
      have HGZ : Hid (G.length = Z.length) := by show _ = _; rw [hGE, HZL.out]; rfl
      have HCL : Hid (∀ W, FD W g b (c + k) M' → Below w0.heap.size w0 W → Calls Tryz.prog 44 #[.pointer (some ⟨g, 0, none⟩), .agg G.toArray] W fun e w' => AdPost w0.heap.size W g b (c + k) M' r e w') := fun W hF hW => by
        have e := HAD.out (c + k) M' r d W hF hW HI.out.2.1 (by have := HC.out; omega) HRM.out HD.out
        rw [hGr] at e
        exact e
      clear hGr hGL hGE hGE2 hcr hd hr HRA
      have HTH : Hid ((wr.alloc (.cells Z.toArray 32)).there wr.heap.size 0 G.toArray.size) := there_of (lb_new wr Z 32) (by simpa using HGZ.out)
      have H3 : Hid (∃ W3, W3 = (wr.alloc (.cells Z.toArray 32)).setCells wr.heap.size 0 G ∧ LB W3 wr.heap.size 32 G ∧ Below wr.heap.size wr W3) := ⟨_, rfl, (lb_new wr Z 32).sets G HGZ.out, below_cells (Nat.le_refl _) _ 0 _ (up0 _ _)⟩
      go_wp2_with (first | (refine wpList_load_mid rfl 32 _ rfl b0 (off + k * 12) rfl G _ HCR.out Tryz.underlying32 rfl HGL.out ?_) | (refine wpList_alloc_R HZ.out rfl rfl ?_) | (refine wpList_store_mid rfl 32 (.tmp 6) (.tmp 13) rfl wr.heap.size 0 G.toArray rfl rfl HTH.out (by simpa using HGL.out) (all_oneCell_toArray HG1.out) ?_; (obtain ⟨W3, hW3, hq⟩ := H3.out); (have H4 : Hid _ := hq); (rw [List.toList_toArray, ← hW3]); (clear hW3 hq H3 HTH)) | (refine wpList_load_mid rfl 32 _ rfl wr.heap.size 0 rfl G _ H4.out.1.range Tryz.underlying32 rfl HGL.out ?_) | fail)
      refine (HCL.out _ (HI.out.1.kept H4.out.2) (HI.out.2.2.2.trans (H4.out.2.mono HI.out.2.2.2.size))).mono ?_
      rintro e w4 ⟨rfl, b4, f4, n4⟩
      have HB4 : Hid (Below w0.heap.size w0 w4) := (HI.out.2.2.2.trans (H4.out.2.mono HI.out.2.2.2.size)).trans b4
      have HF4 : Hid (((Rp.step (puM M') r).1 = 0 → ∃ h', FD w4 g b (c + k + 1) (Mv.put M' r.x.s ((Rp.step (puM M') r).2, h'))) ∧ ((Rp.step (puM M') r).1 ≠ 0 → FD w4 g b (c + k) M')) := ⟨f4, n4⟩
      clear b4 f4 n4 H4 HCL HCR
      by_cases hz : (Rp.step (puM M') r).1 = 0
      · obtain ⟨z, hz1⟩ : ∃ z, (Rp.step (puM M') r).1 = z := ⟨_, rfl⟩
        have hz2 : (z != 0) = false := by rw [← hz1, hz]; rfl
        have HE : Hid (∃ M2, FD w4 g b (c + (k + 1)) M2 ∧ Rp.Wf (puM M2) ∧ Rp.fold (puM M) rs = ((Rp.fold (puM M2) (rs.drop (k + 1))).1 + (k + 1), (Rp.fold (puM M2) (rs.drop (k + 1))).2)) := by
          obtain ⟨h', f5⟩ := HF4.out.1 hz
          refine ⟨_, f5, ?_, ?_⟩
          · rw [puM_put]
            exact HI.out.2.1.step (HRG.out r HRM.out d HD.out) hz
          · rw [puM_put, ← HRK.out]
            exact fold_drop HI.out.2.2.1 hlt (by rw [HRK.out]; exact hz)
        rw [hz1]
        clear hz hz1 HF4
        go_wp2_with fail
        go_roundw
        case rel =>
          obtain ⟨M2, e1, e2, e3⟩ := HE.out
          exact ⟨k + 1, by omega, by go_num, M2, e1, e2, e3, HB4.out⟩
        case measure => simp [intOf]; omega
      · obtain ⟨z, hz1⟩ : ∃ z, (Rp.step (puM M') r).1 = z := ⟨_, rfl⟩
        have hz2 : (z != 0) = true := by rw [← hz1]; simp [hz]
        have HE : Hid (Rp.fold (puM M) rs = (k, puM M') ∧ FD w4 g b (c + k) M') := ⟨fold_stop HI.out.2.2.1 hlt (by rw [HRK.out]; exact hz), HF4.out.2 hz⟩
        rw [hz1]
        clear hz hz1 HF4
        have HLT : Hid (k < rs.length) := hlt
        go_wp2_with fail
        go_ret
        have hl9 := HLT.out
        unfold AaPost
        rw [HE.out.1]
        exact ⟨(by rw [if_neg (by simp only; omega)]; rfl), ⟨M', rfl, HE.out.2, HI.out.2.1⟩, HB4.out⟩
    · obtain rfl : k = rs.length := by omega
      clear HRA
      go_wp2_with fail
      go_ret
      unfold AaPost
      rw [fold_done HI.out.2.2.1]
      exact ⟨(by rw [if_pos rfl]; rfl), ⟨M', rfl, HI.out.1, HI.out.2.1⟩, HI.out.2.2.2⟩
end Go.Proofs.YtdnackjakfiffaaGreatDoor
