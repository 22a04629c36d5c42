import Derived.Deep.RegionHeld3
import Derived.Lib.SlBytesConst
import Derived.Test.YtdnackjakfiffaaGreatDoorQP5
/-
  Replay: the laws' legal.
-/
namespace Go.Proofs.YtdnackjakfiffaaGreatDoor
open Go Go.RowKit Go.ChangeShapes
open Wb

/-- what legal answers -/
def LgP (w : World) (ao : Option Addr) (cap : Nat) (rs : List Rec) (e : Ending) (w' : World) : Prop := ∃ a, ∃ cp : Nat, e = .returned (.tuple #[.slice ao (Rp.fold [] rs).1 cap, .agg #[.int .i64 ((Rp.fold [] rs).1 : Int), .slice a ((Rp.fold [] rs).2.map (·.2)).length cp], .bool true]) ∧ SgR w' (.slice a ((Rp.fold [] rs).2.map (·.2)).length cp) ((Rp.fold [] rs).2.map (·.2)) ∧ Below w.heap.size w w'
theorem results_slot_cell_slot {P : Program} {fn : Func} {p s s2 : Tmp} {ty : TypeId} (h : fn.results = #[.tmp s, .cell p ty, .tmp s2]) (tmps : Array Value) (w : World) (g : Nat) (cs : List Value) (d : TypeDesc)
    (hp : tmps.getD p undef = .pointer (some ⟨g, 0, none⟩)) (hc : w.rangeAt g 0 cs) (hu : P.underlying ty = some d) (hd : d.isRow = true) (hi : (P.info? ty).map (·.size) = some cs.length) :
    (results fn tmps).run P w = .ok (.tuple #[tmps.getD s undef, .agg cs.toArray, tmps.getD s2 undef]) w := by
  have hp' : tmps[p]?.getD undef = .pointer (some ⟨g, 0, none⟩) := by simpa using hp
  simp [results, h, hp', asAddr, run_loadVar_mid w g 0 ty cs d hc hu hd hi]
theorem plc_case (rs : List Rec) : (Rp.plc rs = -1 ∧ (Rp.fold [] rs).1 = rs.length) ∨ (Rp.plc rs = ((Rp.fold [] rs).1 : Int) ∧ (Rp.fold [] rs).1 < rs.length) := by
  unfold Rp.plc
  by_cases h : (Rp.fold [] rs).1 = rs.length
  · exact .inl ⟨by rw [if_pos h], h⟩
  · have := Rp.fold_le rs []
    exact .inr ⟨by rw [if_neg h], by omega⟩
set_option maxRecDepth 100000 in
set_option maxHeartbeats 8000000 in
theorem rylegal_any (ao : Option Addr) (cap : Nat) (rs : List Rec) (w : World) (h : RcR w (.slice ao rs.length cap) rs) (hT : STabs w) (hg : Fg rs) (hl : rs.length ≤ 10000000) :
    Calls Tryz.prog 13 #[.slice ao rs.length cap] w fun e w' => LgP w ao cap rs e w' := by
  have HFO : Hid (∀ W, Below w.heap.size w W → Calls Tryz.prog 10 #[.slice ao rs.length cap] W fun e w' => FoP W rs e w') := fun W hW => ryfold_any rs _ W (h.1.kept hW) (hT.kept hW) hg hl
  obtain ⟨hc1, hc2, -⟩ := h.2 ao rs.length cap rfl
  unfold maxLen at hc2
  obtain ⟨W0, hW0⟩ : ∃ W, W = w.alloc (.cells #[.int .i64 0, .slice none 0 0] 27) := ⟨_, rfl⟩
  have HX : Hid (LB W0 w.heap.size 27 [.int .i64 0, .slice none 0 0] ∧ Below w.heap.size w W0) := by
    rw [hW0]
    exact ⟨lb_new w _ _, up0 _ _⟩
  have HW0 : Hid (w.alloc (.cells #[.int .i64 0, .slice none 0 0] 27) = W0) := hW0.symm
  clear h hT hg hW0
  unfold LgP
  obtain ⟨n, hn⟩ : ∃ n, n = (Rp.fold [] rs).1 := ⟨_, rfl⟩
  obtain ⟨Ss, hSs⟩ : ∃ Ss, Ss = (Rp.fold [] rs).2.map (·.2) := ⟨_, rfl⟩
  have hpc := plc_case rs
  rw [← hn] at hpc
  have HFO2 : Hid (∀ W, Below w.heap.size w W → Calls Tryz.prog 10 #[.slice ao rs.length cap] W fun e w' => ∃ a, ∃ cp : Nat, e = .returned (.tuple #[.agg #[.int .i64 (n : Int), .slice a Ss.length cp], .int .i64 (Rp.plc rs)]) ∧ SgR w' (.slice a Ss.length cp) Ss ∧ Below W.heap.size W w') := fun W hW => by
    rw [hn, hSs]
    exact HFO.out W hW
  rw [← hn, ← hSs]
  clear hn hSs HFO
  rcases hpc with ⟨e1, e2⟩ | ⟨e1, e2⟩
  · rw [e1] at HFO2
    subst e2
    go_enter Tryz.func13, Tryz.ntmps13
    go_upto_region 1 with fail
    rw [HW0.out]
    go_wp2_with fail
    refine (HFO2.out _ HX.out.2).mono ?_
    rintro e w2 ⟨a2, c2, rfl, s2, b2⟩
    have H2 : Hid (LB w2 w.heap.size 27 [.int .i64 0, .slice none 0 0] ∧ SgR w2 (.slice a2 Ss.length c2) Ss ∧ Below w.heap.size w w2) := ⟨HX.out.1.kept b2, s2, andThen HX.out.2 b2⟩
    clear s2 b2
    have hlt : ((rs.length : Int) ≤ -1) = False := by simp; omega
    go_upto_region 6 with fail
    obtain ⟨p5, hp5⟩ : ∃ p, p = w2.heap.size := ⟨_, rfl⟩
    obtain ⟨W3, hW3⟩ : ∃ W, W = w2.alloc (.cells #[.int .i64 (rs.length : Int), .slice a2 Ss.length c2] 27) := ⟨_, rfl⟩
    have H3 : Hid (LB W3 p5 27 [.int .i64 (rs.length : Int), .slice a2 Ss.length c2] ∧ LB W3 w.heap.size 27 [.int .i64 0, .slice none 0 0] ∧ SgR W3 (.slice a2 Ss.length c2) Ss ∧ Below w.heap.size w W3 ∧ w.heap.size < p5) := by
      rw [hW3, hp5]
      exact ⟨lb_new w2 _ _, H2.out.1.kept (up0 _ _), H2.out.2.1.kept (up0 _ _), andThen H2.out.2.2 (up0 _ _), H2.out.1.lt⟩
    rw [← hW3, ← hp5]
    clear hW3 hp5 H2
    have HCK : Hid (∀ W, Below W3.heap.size W3 W → W.cell? ⟨p5, 0, none⟩ = some (.int .i64 (rs.length : Int)) ∧ W.cell? ⟨p5, 1, none⟩ = some (.slice a2 Ss.length c2)) := fun W hW => ⟨(H3.out.1.kept hW).cell 0 _ rfl, (H3.out.1.kept hW).cell 1 _ rfl⟩
    have hq9 : ((rs.length : Int) == (rs.length : Int)) = true := by simp
    refine wp_region_held_drew (S := fun W => W.cell? ⟨p5, 0, none⟩ = some (.int .i64 (rs.length : Int)) ∧ W.cell? ⟨p5, 1, none⟩ = some (.slice a2 Ss.length c2)) (by kernel_rfl) (HCK.out _ (Below.drew (Below.refl _ _))) (fun hH => ?_)
    obtain ⟨WV, hWV⟩ : ∃ x, x = W3.drew := ⟨_, rfl⟩
    have HBV : Hid (Below W3.heap.size W3 WV) := by rw [hWV]; exact Below.drew (Below.refl _ _)
    rw [← hWV]
    clear hWV hH
    have kv := HCK.out WV HBV.out
    refine zqk 0 rfl kv ?_
    try simp only [Act.put, zq1, zq2, zq3, zq4, zq5]
    refine zqk 1 rfl kv ?_
    try simp only [Act.put, zq1, zq2, zq3, zq4, zq5, zq6]
    refine zqk 2 rfl kv ?_
    try simp only [Act.put, zq1, zq2, zq3, zq4, zq5, zq6]
    refine zqk 3 rfl kv ?_
    try simp only [Act.put, zq1, zq2, zq3, zq4, zq5, zq6]
    refine zqk 4 rfl kv ?_
    try simp only [Act.put, zq1, zq2, zq3, zq4, zq5, zq6]
    refine zqk 5 rfl kv ?_
    try simp only [Act.put, zq1, zq2, zq3, zq4, zq5, zq6]
    refine zqk 6 rfl kv ?_
    try simp only [Act.put, zq1, zq2, zq3, zq4, zq5, zq6]
    refine zqk 7 rfl kv ?_
    try simp only [Act.put, zq1, zq2, zq3, zq4, zq5, zq6]
    have LV := H3.out.2.1.kept HBV.out
    have HLV : Hid (LB (WV.setCells w.heap.size 0 [.int .i64 (rs.length : Int), .slice a2 Ss.length c2]) w.heap.size 27 [.int .i64 (rs.length : Int), .slice a2 Ss.length c2] ∧ SgR (WV.setCells w.heap.size 0 [.int .i64 (rs.length : Int), .slice a2 Ss.length c2]) (.slice a2 Ss.length c2) Ss ∧ Below w.heap.size w (WV.setCells w.heap.size 0 [.int .i64 (rs.length : Int), .slice a2 Ss.length c2])) := ⟨LV.sets _ rfl, (H3.out.2.2.1.kept HBV.out).other LV (by decide) (by decide) (by decide) (fun b hb _ => cells_other _ _ _ _ _ hb), below_cells (Nat.le_refl _) _ 0 _ (andThen H3.out.2.2.2.1 HBV.out)⟩
    have HNE : Hid (p5 ≠ w.heap.size) := Nat.ne_of_gt H3.out.2.2.2.2
    refine zqr 8 rfl (fun K hK => ?_)
    refine rstep_store rfl 27 (.tmp 3) (.tmp 27) rfl w.heap.size 0 #[.int .i64 (rs.length : Int), .slice a2 Ss.length c2] rfl rfl (there_of LV rfl) (by kernel_rfl) (by simp [Value.oneCell']) ?_
    refine hK.out _ _ ⟨(World.cell?_of_block (w := WV) (cells_other _ _ _ _ _ HNE.out)).trans kv.1, (World.cell?_of_block (w := WV) (cells_other _ _ _ _ _ HNE.out)).trans kv.2⟩ fun hH => ?_
    clear hK K LV
    try simp only [Act.put, zq4, zq5, zq6]
    refine zqk 9 rfl hH ?_
    try simp only [Act.put, zq1, zq2, zq3, zq4, zq5, zq6]
    refine wpAnyH_done (by kernel_rfl) ?_ _
    clear kv hH
    try simp only [Act.put, zq1, zq2, zq3, zq4, zq5, zq6]
    go_wp2_with fail
    refine bodyPost_ret (results_slot_cell_slot (s := 2) (p := 3) (s2 := 4) (ty := 27) rfl _ _ w.heap.size [.int .i64 (rs.length : Int), .slice a2 Ss.length c2] _ rfl HLV.out.1.range Tryz.underlying27 rfl (by kernel_rfl)) rfl ?_
    exact ⟨a2, c2, rfl, HLV.out.2⟩
  · rw [e1] at HFO2
    have hlt2 : ((rs.length : Int) ≤ (n : Int)) = False := by simp; omega
    have hge : ((0 : Int) ≤ (n : Int)) = True := by simp
    have hcp : ((n : Int) ≤ (cap : Int)) = True := by simp; omega
    go_enter Tryz.func13, Tryz.ntmps13
    go_upto_region 1 with fail
    rw [HW0.out]
    go_wp2_with fail
    refine (HFO2.out _ HX.out.2).mono ?_
    rintro e w2 ⟨a2, c2, rfl, s2, b2⟩
    have H2 : Hid (LB w2 w.heap.size 27 [.int .i64 0, .slice none 0 0] ∧ SgR w2 (.slice a2 Ss.length c2) Ss ∧ Below w.heap.size w w2) := ⟨HX.out.1.kept b2, s2, andThen HX.out.2 b2⟩
    clear s2 b2
    go_upto_region 6 with fail
    obtain ⟨p5, hp5⟩ : ∃ p, p = w2.heap.size := ⟨_, rfl⟩
    obtain ⟨W3, hW3⟩ : ∃ W, W = w2.alloc (.cells #[.int .i64 (n : Int), .slice a2 Ss.length c2] 27) := ⟨_, rfl⟩
    have H3 : Hid (LB W3 p5 27 [.int .i64 (n : Int), .slice a2 Ss.length c2] ∧ LB W3 w.heap.size 27 [.int .i64 0, .slice none 0 0] ∧ SgR W3 (.slice a2 Ss.length c2) Ss ∧ Below w.heap.size w W3 ∧ w.heap.size < p5) := by
      rw [hW3, hp5]
      exact ⟨lb_new w2 _ _, H2.out.1.kept (up0 _ _), H2.out.2.1.kept (up0 _ _), andThen H2.out.2.2 (up0 _ _), H2.out.1.lt⟩
    rw [← hW3, ← hp5]
    clear hW3 hp5 H2
    have HCK : Hid (∀ W, Below W3.heap.size W3 W → W.cell? ⟨p5, 0, none⟩ = some (.int .i64 (n : Int)) ∧ W.cell? ⟨p5, 1, none⟩ = some (.slice a2 Ss.length c2)) := fun W hW => ⟨(H3.out.1.kept hW).cell 0 _ rfl, (H3.out.1.kept hW).cell 1 _ rfl⟩
    have hq9 : ((n : Int) == (n : Int)) = true := by simp
    refine wp_region_held_drew (S := fun W => W.cell? ⟨p5, 0, none⟩ = some (.int .i64 (n : Int)) ∧ W.cell? ⟨p5, 1, none⟩ = some (.slice a2 Ss.length c2)) (by kernel_rfl) (HCK.out _ (Below.drew (Below.refl _ _))) (fun hH => ?_)
    obtain ⟨WV, hWV⟩ : ∃ x, x = W3.drew := ⟨_, rfl⟩
    have HBV : Hid (Below W3.heap.size W3 WV) := by rw [hWV]; exact Below.drew (Below.refl _ _)
    rw [← hWV]
    clear hWV hH
    have kv := HCK.out WV HBV.out
    refine zqk 0 rfl kv ?_
    try simp only [Act.put, zq1, zq2, zq3, zq4, zq5]
    refine zqk 1 rfl kv ?_
    try simp only [Act.put, zq1, zq2, zq3, zq4, zq5, zq6]
    refine zqk 2 rfl kv ?_
    try simp only [Act.put, zq1, zq2, zq3, zq4, zq5, zq6]
    refine zqk 3 rfl kv ?_
    try simp only [Act.put, zq1, zq2, zq3, zq4, zq5, zq6]
    refine zqk 4 rfl kv ?_
    try simp only [Act.put, zq1, zq2, zq3, zq4, zq5, zq6]
    refine zqk 5 rfl kv ?_
    try simp only [Act.put, zq1, zq2, zq3, zq4, zq5, zq6]
    refine zqk 6 rfl kv ?_
    try simp only [Act.put, zq1, zq2, zq3, zq4, zq5, zq6]
    refine zqk 7 rfl kv ?_
    try simp only [Act.put, zq1, zq2, zq3, zq4, zq5, zq6]
    have LV := H3.out.2.1.kept HBV.out
    have HLV : Hid (LB (WV.setCells w.heap.size 0 [.int .i64 (n : Int), .slice a2 Ss.length c2]) w.heap.size 27 [.int .i64 (n : Int), .slice a2 Ss.length c2] ∧ SgR (WV.setCells w.heap.size 0 [.int .i64 (n : Int), .slice a2 Ss.length c2]) (.slice a2 Ss.length c2) Ss ∧ Below w.heap.size w (WV.setCells w.heap.size 0 [.int .i64 (n : Int), .slice a2 Ss.length c2])) := ⟨LV.sets _ rfl, (H3.out.2.2.1.kept HBV.out).other LV (by decide) (by decide) (by decide) (fun b hb _ => cells_other _ _ _ _ _ hb), below_cells (Nat.le_refl _) _ 0 _ (andThen H3.out.2.2.2.1 HBV.out)⟩
    have HNE : Hid (p5 ≠ w.heap.size) := Nat.ne_of_gt H3.out.2.2.2.2
    refine zqr 8 rfl (fun K hK => ?_)
    refine rstep_store rfl 27 (.tmp 3) (.tmp 27) rfl w.heap.size 0 #[.int .i64 (n : Int), .slice a2 Ss.length c2] rfl rfl (there_of LV rfl) (by kernel_rfl) (by simp [Value.oneCell']) ?_
    refine hK.out _ _ ⟨(World.cell?_of_block (w := WV) (cells_other _ _ _ _ _ HNE.out)).trans kv.1, (World.cell?_of_block (w := WV) (cells_other _ _ _ _ _ HNE.out)).trans kv.2⟩ fun hH => ?_
    clear hK K LV
    try simp only [Act.put, zq4, zq5, zq6]
    refine zqk 9 rfl hH ?_
    try simp only [Act.put, zq1, zq2, zq3, zq4, zq5, zq6]
    refine wpAnyH_done (by kernel_rfl) ?_ _
    clear kv hH
    try simp only [Act.put, zq1, zq2, zq3, zq4, zq5, zq6]
    go_wp2_with fail
    refine bodyPost_ret (results_slot_cell_slot (s := 2) (p := 3) (s2 := 4) (ty := 27) rfl _ _ w.heap.size [.int .i64 (n : Int), .slice a2 Ss.length c2] _ rfl HLV.out.1.range Tryz.underlying27 rfl (by kernel_rfl)) rfl ?_
    exact ⟨a2, c2, rfl, HLV.out.2⟩
end Go.Proofs.YtdnackjakfiffaaGreatDoor

/-
  Replay: the laws' begin, awake.
-/
namespace Go.Proofs.YtdnackjakfiffaaGreatDoor
open Go Go.RowKit Go.ChangeShapes
open Wb

def rcB : Rec := ⟨⟨1, 1, 7, 1, 0, 0, 0, 0, 0, 0⟩, ⟨#[]⟩, [98, 117, 121]⟩
def sgB : Sg := ⟨⟨7, 1, 0, 0, 0, 1, 0, false, 0, 0, 0⟩, ⟨#[98, 117, 121]⟩, [], [], [], []⟩
theorem rcB_begin : beginP rcB = (0, sgB) := by
  have h0 : chkR rcB = 0 := by
    rw [show chkR rcB = chk rcB.x rcB.nm rcB.l from rfl, v1_iff rcB rfl]
    refine ⟨by decide, rfl, rfl, rfl, rfl, rfl, rfl, rfl, .inl ⟨rfl, by decide, by decide, by decide, ?_⟩⟩
    decide +kernel
  have h1 : upP 3 rcB = (0, cTwo (cOne rcB)) := by rw [up_good h0 (by omega) (by omega) (by decide), car13 rcB rfl]
  unfold beginP
  rw [h1]
  have e : cTwo (cOne rcB) = ⟨⟨3, 1, 7, 0, 0, 0, 0, 0, 1, 0⟩, ⟨#[98, 117, 121]⟩, []⟩ := rfl
  rw [e]
  rfl
theorem rcB_fold : Rp.fold [] [rcB] = (1, [(7, sgB)]) := by
  have e : Rp.step [] rcB = (0, sgB) := rcB_begin
  rw [Rp.fold_cons, e]
  rfl
theorem rcB_plc : Rp.plc [rcB] = -1 := by
  unfold Rp.plc
  rw [rcB_fold]
  rfl
theorem buy_newM (w : World) : Bs (w.alloc (.cells #[.int .u8 98, .int .u8 117, .int .u8 121] 5 (3, 4))) (.slice (some ⟨w.heap.size, 0, none⟩) 3 3) [98, 117, 121] := by
  refine ⟨⟨some ⟨w.heap.size, 0, none⟩, 3, rfl, Nat.le_refl _, by simp [maxLen], fun e => (by cases e), fun _ => ⟨w.heap.size, 0, rfl, fun j hj => ?_⟩⟩, by intro x hx; simp at hx; omega⟩
  have e := heap_new w (.cells #[.int .u8 98, .int .u8 117, .int .u8 121] 5 (3, 4))
  rw [Nat.zero_add]
  match j, hj with
  | 0, _ => unfold World.cell?; rw [e]; rfl
  | 1, _ => unfold World.cell?; rw [e]; rfl
  | 2, _ => unfold World.cell?; rw [e]; rfl
theorem sgR_one (w : World) : SgR (w.alloc (.cells (scl sgB zSH).toArray 43)) (.slice (some ⟨w.heap.size, 0, none⟩) 1 1) [sgB] := by
  have L := lb_new w (scl sgB zSH) 43
  refine ⟨some ⟨w.heap.size, 0, none⟩, 1, rfl, by simp [maxLen], fun b off e => ?_, fun k S e => ?_⟩
  · simp only [Option.some.injEq, Addr.mk.injEq] at e
    obtain ⟨rfl, -⟩ := e
    exact ⟨_, _, L⟩
  · match k, e with
    | 0, e =>
      obtain rfl := Option.some.inj e
      exact ⟨_, 0, zSH, rfl, by have := L.range; simpa using this, ⟨Own.nil _ _, ownP_nil _ _, ownP_nil _ _, Own.nil _ _⟩⟩
/-- what begin answers -/
def BgP (w : World) (e : Ending) (w' : World) : Prop := ∃ a, ∃ c : Nat, ∃ a2, ∃ c2 : Nat, e = .returned (.tuple #[rv rcB.x rcB.nm (.slice a 3 c), .agg #[.int .i64 1, .slice a2 1 c2]]) ∧ Bs w' (.slice a 3 c) rcB.l ∧ SgR w' (.slice a2 1 c2) [sgB] ∧ Below w.heap.size w w'
set_option maxRecDepth 100000 in
set_option maxHeartbeats 8000000 in
theorem rybegin_any (w : World) : Calls Tryz.prog 21 #[] w fun e w' => BgP w e w' := by
  obtain ⟨ZR, hZR⟩ : ∃ ZR, ZR = zrl := ⟨_, rfl⟩
  have HZR : Hid (ZR = zrl) := hZR
  clear hZR
  obtain ⟨W2, hW2⟩ : ∃ W2, W2 = (w.alloc (.cells ZR.toArray 32)).alloc (.cells #[.int .i64 0, .slice none 0 0] 27) := ⟨_, rfl⟩
  have H2 : Hid (LB W2 w.heap.size 32 ZR ∧ LB W2 (w.heap.size + 1) 27 [.int .i64 0, .slice none 0 0] ∧ Below w.heap.size w W2 ∧ W2.heap.size = w.heap.size + 1 + 1) := by
    rw [hW2]
    obtain ⟨a1, a2, a3⟩ := lb_new2 w ZR [.int .i64 0, .slice none 0 0] 32 27
    exact ⟨a1, a2, a3, by rw [heap_one, heap_one]⟩
  have HW2 : Hid ((w.alloc (.cells ZR.toArray 32)).alloc (.cells #[.int .i64 0, .slice none 0 0] 27) = W2) := hW2.symm
  clear hW2
  obtain ⟨L, hL⟩ : ∃ L : List Value, [.int .i64 1, .int .i64 1, .int .i64 7, .int .i64 1, .int .i64 0, .int .i64 0, .int .i64 0, .int .i64 0, .int .i64 0, .int .i64 0, .string ⟨#[]⟩, .slice (some ⟨W2.heap.size, 0, none⟩) 3 3] = L := ⟨_, rfl⟩
  have HL : Hid (L = rcE rcB.x rcB.nm (.slice (some ⟨W2.heap.size, 0, none⟩) 3 3)) := hL.symm
  have HLI : Hid ((Tryz.prog.info? 32).map (·.size) = some L.length) := by show _ = _; rw [HL.out]; exact infoRec
  have HL1 : Hid (∀ v ∈ L, v.oneCell' = true) := by show ∀ v ∈ L, _; rw [HL.out]; exact rcE_one _ _ _ rfl
  have HLZ : Hid (L.length = ZR.length) := by show _ = _; rw [HL.out, HZR.out]; rfl
  have kc : (convert 30 30 (.slice (some ⟨W2.heap.size, 0, none⟩) 3 3)).run Tryz.prog (W2.alloc (.cells #[.int .u8 98, .int .u8 117, .int .u8 121] 5)) = .ok (.slice (some ⟨W2.heap.size, 0, none⟩) 3 3) (W2.alloc (.cells #[.int .u8 98, .int .u8 117, .int .u8 121] 5 (3, 4))) := Lib.run_convert_bytes_const (P := Tryz.prog) W2 30 5 #[.int .u8 98, .int .u8 117, .int .u8 121] 3 3 Tryz.underlying30 Tryz.underlying5
  obtain ⟨W3, hW3⟩ : ∃ W3, W3 = W2.alloc (.cells #[.int .u8 98, .int .u8 117, .int .u8 121] 5 (3, 4)) := ⟨_, rfl⟩
  have H3 : Hid (Bs W3 (.slice (some ⟨W2.heap.size, 0, none⟩) 3 3) rcB.l ∧ Below W2.heap.size W2 W3 ∧ W2.heap.size < W3.heap.size) := by
    rw [hW3]
    exact ⟨buy_newM W2, up0 _ _, by rw [heap_one]; omega⟩
  rw [← hW3] at kc
  clear hW3
  have HTH : Hid ((W3.alloc (.cells ZR.toArray 32)).there W3.heap.size 0 L.toArray.size) := there_of (lb_new W3 ZR 32) (by simpa using HLZ.out)
  have H4 : Hid (∃ W4, W4 = (W3.alloc (.cells ZR.toArray 32)).setCells W3.heap.size 0 L ∧ LB W4 W3.heap.size 32 L ∧ Bs W4 (.slice (some ⟨W2.heap.size, 0, none⟩) 3 3) rcB.l ∧ Below W2.heap.size W2 W4 ∧ W2.heap.size < W4.heap.size) := ⟨_, rfl, (lb_new W3 ZR 32).sets L HLZ.out, bs_off (H3.out.1.alloc _) _ _ _ (fun _ b off n cap e => by
    simp only [Value.slice.injEq, Option.some.injEq, Addr.mk.injEq] at e
    have := H3.out.2.2
    omega), below_cells (Nat.le_of_lt H3.out.2.2) _ 0 _ (andThen H3.out.2.1 (up0 _ _)), by rw [size_cells, heap_one]; have := H3.out.2.2; omega⟩
  go_enter Tryz.func21, Tryz.ntmps21
  go_upto_region 1 with (first | (refine wpList_alloc_R HZR.out rfl rfl ?_; (try simp only [])) | fail)
  rw [HW2.out]
  go_upto_region 2 with (first | (refine wpList_alloc_R HZR.out rfl rfl ?_) | (refine wpList_store_mid rfl 32 (.tmp 2) (.tmp 5) rfl W3.heap.size 0 L.toArray rfl rfl HTH.out (by simpa using HLI.out) (all_oneCell_toArray HL1.out) ?_; (obtain ⟨W4, hW4, hq⟩ := H4.out); (have H5 : Hid _ := hq); (rw [List.toList_toArray, ← hW4]); (clear hW4 hq H4 HTH)) | fail)
  clear hL kc
  have H6 : Hid (LB W4 w.heap.size 32 ZR ∧ LB W4 (w.heap.size + 1) 27 [.int .i64 0, .slice none 0 0] ∧ Below w.heap.size w W4) := ⟨H2.out.1.kept H5.out.2.2.1, H2.out.2.1.kept H5.out.2.2.1, andThen H2.out.2.2.1 H5.out.2.2.1⟩
  have HT0 : Hid (∀ o, (W4.alloc o).there w.heap.size 0 L.toArray.size) := fun o => there_of (H6.out.1.kept (up0 _ _)) (by simpa using HLZ.out)
  obtain ⟨M, hM⟩ : ∃ M : List Value, M = [.int .i64 1, .slice (some ⟨W4.heap.size, 0, none⟩) 1 1] := ⟨_, rfl⟩
  have HM : Hid (M = [.int .i64 1, .slice (some ⟨W4.heap.size, 0, none⟩) 1 1]) := hM
  clear hM
  have HT1 : Hid (∀ o, ((W4.alloc o).setCells w.heap.size 0 L).there (w.heap.size + 1) 0 2) := fun o => there_of ((H6.out.2.1.kept (up0 _ o)).others _ _ _ (by omega)) rfl
  obtain ⟨W7, hW7⟩ : ∃ W, W = ((W4.alloc (.cells (scl sgB zSH).toArray 43)).setCells w.heap.size 0 L).setCells (w.heap.size + 1) 0 M := ⟨_, rfl⟩
  have H7 : Hid (LB W7 w.heap.size 32 L ∧ LB W7 (w.heap.size + 1) 27 M ∧ Bs W7 (.slice (some ⟨W2.heap.size, 0, none⟩) 3 3) rcB.l ∧ SgR W7 (.slice (some ⟨W4.heap.size, 0, none⟩) 1 1) [sgB] ∧ Below w.heap.size w W7) := by
    rw [hW7]
    have hoff : ∀ g : Nat, W2.heap.size ≠ g → Off g (.slice (some ⟨W2.heap.size, 0, none⟩) 3 3) rcB.l := fun g hne _ b' off n cap e => by
      simp only [Value.slice.injEq, Option.some.injEq, Addr.mk.injEq] at e
      omega
    have hs := H2.out.2.2.2
    have l0 := H6.out.1.kept (up0 W4 (.cells (scl sgB zSH).toArray 43))
    have l1 := (H6.out.2.1.kept (up0 W4 (.cells (scl sgB zSH).toArray 43))).others w.heap.size 0 L (by omega)
    have s0 := (sgR_one W4).other l0 (by decide) (by decide) (by decide) (fun b hb _ => cells_other w.heap.size L 0 _ b hb)
    have s1 := s0.other l1 (by decide) (by decide) (by decide) (fun b hb _ => cells_other (w.heap.size + 1) M 0 _ b hb)
    refine ⟨((l0.sets L HLZ.out)).others _ _ _ (by omega), ?_, bs_off (bs_off (H5.out.2.1.alloc _) _ _ _ (hoff _ (by omega))) _ _ _ (hoff _ (by omega)), s1, below_cells (by omega) _ 0 _ (below_cells (Nat.le_refl _) _ 0 _ (up H6.out.2.2 _))⟩
    rw [HM.out]
    exact l1.sets _ rfl
  go_wp2_with (first
    | (refine wpList_load_mid rfl 32 (.tmp 2) rfl W3.heap.size 0 rfl L _ H5.out.1.range Tryz.underlying32 rfl HLI.out ?_)
    | (refine wpList_store_mid rfl 32 (.tmp 0) (.tmp 6) rfl w.heap.size 0 L.toArray rfl rfl (HT0.out _) (by simpa using HLI.out) (all_oneCell_toArray HL1.out) ?_; (rw [List.toList_toArray]))
    | (refine wpList_store_mid rfl 27 (.tmp 1) (.tmp 9) rfl (w.heap.size + 1) 0 #[.int .i64 1, .slice (some ⟨W4.heap.size, 0, none⟩) 1 1] rfl rfl (HT1.out _) (by kernel_rfl) (by simp [Value.oneCell']) ?_)
    | fail)
  rw [hW7, HM.out] at H7
  rw [HM.out] at hW7
  refine bodyPost_ret (results_cell_cell (p := 0) (q := 1) (ty := 32) (ty2 := 27) rfl _ _ w.heap.size (w.heap.size + 1) L [.int .i64 1, .slice (some ⟨W4.heap.size, 0, none⟩) 1 1] _ _ rfl H7.out.1.range Tryz.underlying32 rfl HLI.out rfl H7.out.2.1.range Tryz.underlying27 rfl (by kernel_rfl)) rfl ?_
  exact ⟨some ⟨W2.heap.size, 0, none⟩, 3, some ⟨W4.heap.size, 0, none⟩, 1, (by rw [HL.out]; rfl), H7.out.2.2.1, H7.out.2.2.2.1, H7.out.2.2.2.2⟩
end Go.Proofs.YtdnackjakfiffaaGreatDoor
