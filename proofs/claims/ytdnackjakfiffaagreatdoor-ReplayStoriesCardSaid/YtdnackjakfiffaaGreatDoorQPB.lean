import Derived.Test.YtdnackjakfiffaaGreatDoorQPA
/-
  Replay: ReplayLifts' walk.
-/
namespace Go.Proofs.YtdnackjakfiffaaGreatDoor
open Go Go.RowKit Go.ChangeShapes
open Wb

/-- two rows of records, apart -/
def Two (B : Nat) (w : World) (v5 v6 : Value) (p2 p3 : List (Rec × Value)) : Prop := Rr B w v5 p2 ∧ Rr B w v6 p3 ∧ ∀ g, v5.ownBlock = some g → v6.ownBlock ≠ some g
theorem Two.kept {B : Nat} {w w' : World} {v5 v6 : Value} {p2 p3 : List (Rec × Value)} (h : Two B w v5 v6 p2 p3) (hb : Below w.heap.size w w') : Two B w' v5 v6 p2 p3 := ⟨h.1.kept hb, h.2.1.kept hb, h.2.2⟩
theorem Rr.lt {B : Nat} {w : World} {v : Value} {ps : List (Rec × Value)} (h : Rr B w v ps) (g : Nat) (e : v.ownBlock = some g) : B ≤ g ∧ g < w.heap.size := World.ownsRow.lt h.1 g e
/-- a box of records that is neither is written -/
theorem Two.box {B p : Nat} {w : World} {v5 v6 : Value} {p2 p3 : List (Rec × Value)} {C : List Value} (h : Two B w v5 v6 p2 p3) (L : LB w p 32 C) (h5 : v5.ownBlock ≠ some p) (h6 : v6.ownBlock ≠ some p) (o : Nat) (vs : List Value) : Two B (w.setCells p o vs) v5 v6 p2 p3 :=
  ⟨h.1.keep (fun g e => cells_other _ _ _ _ _ (by rintro rfl; exact h5 e)) (ktb_cells L (by decide) o vs), h.2.1.keep (fun g e => cells_other _ _ _ _ _ (by rintro rfl; exact h6 e)) (ktb_cells L (by decide) o vs), h.2.2⟩
theorem Two.app6 {B : Nat} {w w' : World} {v5 v6 v' : Value} {p2 p3 q3 : List (Rec × Value)} (h : Two B w v5 v6 p2 p3) (hr : Rr B w' v' q3) (hg : w.grownBy w' v6.ownBlock) (hl : v'.ownBlock = v6.ownBlock ∨ v'.ownBlock = some w.heap.size) (hk : KTB w w') : Two B w' v5 v' p2 q3 := by
  refine ⟨h.1.keep (fun g e => hg.block g (h.1.lt g e).2 (Ne.symm (h.2.2 g e))) hk, hr, fun g e e2 => ?_⟩
  rcases hl with e3 | e3
  · exact h.2.2 g e (e3 ▸ e2)
  · rw [e3] at e2
    have := (h.1.lt g e).2
    have := Option.some.inj e2
    omega
theorem Two.app5 {B : Nat} {w w' : World} {v5 v6 v' : Value} {p2 p3 q2 : List (Rec × Value)} (h : Two B w v5 v6 p2 p3) (hr : Rr B w' v' q2) (hg : w.grownBy w' v5.ownBlock) (hl : v'.ownBlock = v5.ownBlock ∨ v'.ownBlock = some w.heap.size) (hk : KTB w w') : Two B w' v' v6 q2 p3 := by
  refine ⟨hr, h.2.1.keep (fun g e => hg.block g (h.2.1.lt g e).2 fun e2 => h.2.2 g e2.symm e) hk, fun g e e2 => ?_⟩
  rcases hl with e3 | e3
  · exact h.2.2 g (e3 ▸ e) e2
  · rw [e3] at e
    have := (h.2.1.lt g e2).2
    have := Option.some.inj e
    omega
theorem lft_fg {t : Int} {rs : List Rec} (h : Fg rs) : Fg (rs.map (Rp.lft t)) := fun r hr => by
  obtain ⟨q, hq, rfl⟩ := List.mem_map.1 hr
  obtain ⟨h1, h2⟩ := h q hq
  unfold Rp.lft
  split
  · rename_i h0
    obtain ⟨q1, _, _, _, q5⟩ := up_zero h0
    rw [q5]
    exact ⟨Nat.le_trans (carL_small _ q (small_of q h2 q1)).1 (by omega), carL_fit _ _ h2⟩
  · exact ⟨h1, h2⟩
theorem lft_ok {t : Int} {r : Rec} (h : (upP t r).1 = 0) : Rp.lft t r = (upP t r).2 := if_pos h
theorem lft_no {t : Int} {r : Rec} (h : (upP t r).1 ≠ 0) : Rp.lft t r = r := if_neg h
theorem plc_len {rs rs' : List Rec} (h : Rp.fold [] rs' = Rp.fold [] rs) (hl : rs'.length = rs.length) : Rp.plc rs' = Rp.plc rs := by
  unfold Rp.plc
  rw [h, hl]
set_option maxRecDepth 100000 in
set_option maxHeartbeats 16000000 in
theorem replayLifts_walk (v1 : Value) (rs1 : List Rec) (w : World) (h1 : LIn w v1 rs1) (hT : STabs w) :
    Calls Tryz.prog 3 #[v1] w fun e w' => e = .returned (.bool true) ∧ Below w.heap.size w w' := by
  obtain ⟨cs, hcs⟩ : ∃ cs, cs = (rs1.take 160).map (cutD 16385) := ⟨_, rfl⟩
  have hfg : Fg cs := by rw [hcs]; exact cutD_fg (fg_take h1.fg 160) _
  have hrg : ∀ r ∈ cs, Rp.Rg r := by rw [hcs]; exact h1.rg
  have hcl : cs.length ≤ 160 := by rw [hcs, List.length_map, List.length_take]; omega
  have HC1 : Hid (Calls Tryz.prog 8 #[v1, .int .i64 16385] w fun e w' => ∃ ao, ∃ cap : Nat, e = .returned (.slice ao cs.length cap) ∧ RcY w' (.slice ao cs.length cap) cs ∧ Below w.heap.size w w') := by rw [hcs]; exact cut_isT v1 rs1 w h1
  have HAW : Hid (∀ W, Below w.heap.size w W → Calls Tryz.prog 9 #[] W fun e w' => e = .returned (.bool true) ∧ Below W.heap.size W w') := fun W hW => ryawake_any W (hT.kept hW)
  obtain ⟨n, hn⟩ : ∃ n, n = (Rp.fold [] cs).1 := ⟨_, rfl⟩
  obtain ⟨G, hG⟩ : ∃ G, G = (Rp.fold [] cs).2 := ⟨_, rfl⟩
  obtain ⟨p, hp⟩ : ∃ p, p = Rp.plc cs := ⟨_, rfl⟩
  have hf : Rp.fold [] cs = (n, G) := by rw [hn, hG]
  have HFO : Hid (∀ (v : Value) (W : World), Below w.heap.size w W → RecsAt W v cs → Calls Tryz.prog 10 #[v] W fun e w' => ∃ a, ∃ cp : Nat, e = .returned (.tuple #[.agg #[.int .i64 (n : Int), .slice a (StV G).length cp], .int .i64 p]) ∧ SgR w' (.slice a (StV G).length cp) (StV G) ∧ Below W.heap.size W w') := fun v W hW h => fold_is cs G n p hf hp.symm v W h (hT.kept hW) hfg (by omega)
  have HFL : Hid (∀ t : Int, (t = 2 ∨ t = 3) → ∀ (v : Value) (W : World), Below w.heap.size w W → RecsAt W v (cs.map (Rp.lft t)) → Calls Tryz.prog 10 #[v] W fun e w' => ∃ a, ∃ cp : Nat, e = .returned (.tuple #[.agg #[.int .i64 (n : Int), .slice a (StV G).length cp], .int .i64 p]) ∧ SgR w' (.slice a (StV G).length cp) (StV G) ∧ Below W.heap.size W w') := fun t ht v W hW h => by
    have e1 := Rp.fold_lft t ht cs hrg
    exact fold_is _ G n p (e1.trans hf) ((plc_len e1 (by rw [List.length_map])).trans hp.symm) v W h (hT.kept hW) (lft_fg hfg) (by rw [List.length_map]; omega)
  have HSA : Hid (∀ (v v2 : Value) (W : World), SgR W v (StV G) → SgR W v2 (StV G) → Calls Tryz.prog 12 #[.agg #[.int .i64 (n : Int), v], .agg #[.int .i64 (n : Int), v2]] W fun e w' => e = .returned (.bool true) ∧ Below W.heap.size W w') := fun v v2 W a b => rysame_any n v v2 (StV G) W a b
  have HUP : Hid (∀ (t : Int) (r : Rec) (d : Value) (W : World), r ∈ cs → Below w.heap.size w W → Bs W d r.l → Calls Tryz.prog 11 #[rv r.x r.nm d, .int .i64 t] W fun e w' => OwnT W w' (upP t r) e) := fun t r d W hr hW hd => up_O t r d W hd (hT.kept hW).e (hfg r hr).1 (hfg r hr).2
  clear hf hn hG hp hcs h1 hT hfg hrg
  obtain ⟨m, hm⟩ : ∃ m, m = cs.length := ⟨_, rfl⟩
  rw [← hm] at hcl HC1
  have HM : Hid (m = cs.length) := hm
  clear hm
  obtain ⟨Z, hZ⟩ : ∃ Z, Z = zrl := ⟨_, rfl⟩
  have HZ : Hid (Z = zrl) := hZ
  have HZL : Hid (Z.length = 12) := by show _ = _; rw [hZ]; rfl
  clear hZ
  have hin := infoR12
  go_enter Tryz.func3, Tryz.ntmps3
  go_wp2_with fail
  refine HC1.out.mono ?_
  rintro e w1 ⟨a1, c1, rfl, r1, b1⟩
  have H1 : Hid (RcY w1 (.slice a1 m c1) cs ∧ Below w.heap.size w w1) := ⟨r1, b1⟩
  clear r1 b1 HC1
  go_wp2_with fail
  refine (HAW.out _ H1.out.2).mono ?_
  rintro e w2 ⟨rfl, b2⟩
  have H2 : Hid (RcY w2 (.slice a1 m c1) cs ∧ Below w.heap.size w w2) := ⟨H1.out.1.kept b2, andThen H1.out.2 b2⟩
  clear b2 H1 HAW
  go_wp2_with fail
  refine (HFO.out _ _ H2.out.2 H2.out.1.rcr.1).mono ?_
  rintro e w4 ⟨a4, c4, rfl, s4, b4⟩
  obtain ⟨W5, hW5⟩ : ∃ W, W = w4.alloc (.cells #[.int .i64 (n : Int), .slice a4 (StV G).length c4] 27) := ⟨_, rfl⟩
  have H5 : Hid (LB W5 w4.heap.size 27 [.int .i64 (n : Int), .slice a4 (StV G).length c4] ∧ SgR W5 (.slice a4 (StV G).length c4) (StV G) ∧ RcY W5 (.slice a1 m c1) cs ∧ Below w.heap.size w W5) := by
    rw [hW5]
    exact ⟨lb_new _ _ _, s4.kept (up0 _ _), (H2.out.1.kept b4).kept (up0 _ _), up (andThen H2.out.2 b4) _⟩
  have HW5 : Hid (w4.alloc (.cells #[.int .i64 (n : Int), .slice a4 (StV G).length c4] 27) = W5) := hW5.symm
  clear s4 b4 hW5 HFO H2
  go_upto_region 5 with fail
  rw [HW5.out]
  obtain ⟨p5, hp5⟩ : ∃ p, p = w4.heap.size := ⟨_, rfl⟩
  rw [← hp5] at H5 ⊢
  clear hp5 HW5
  go_wp2_with fail
  go_loopw [5, 6, 7] (fun t2 t3 i wr => ∃ k : Nat, ∃ p2 p3, k ≤ m ∧ i = .int .i64 (k : Int) ∧ Two W5.heap.size wr t2 t3 p2 p3 ∧ p2.map Prod.fst = (cs.take k).map (Rp.lft 2) ∧ p3.map Prod.fst = (cs.take k).map (Rp.lft 3) ∧ Below W5.heap.size W5 wr) (fun _ _ i _ => m - (mInt i).toNat)
  case atStart => exact ⟨0, [], [], Nat.zero_le _, rfl, ⟨Rr.nil _ _, Rr.nil _ _, fun g e => by cases e⟩, rfl, rfl, Below.refl _ _⟩
  case round =>
    obtain ⟨k, p2, p3, hk, rfl, q1, q2, q3, q4⟩ := hrel
    have HI : Hid (Two W5.heap.size wr u5 u6 p2 p3 ∧ p2.map Prod.fst = (cs.take k).map (Rp.lft 2) ∧ p3.map Prod.fst = (cs.take k).map (Rp.lft 3) ∧ Below W5.heap.size W5 wr) := ⟨q1, q2, q3, q4⟩
    have hl2 : p2.length ≤ 160 ∧ p3.length ≤ 160 := by
      have e2 := congrArg List.length q2
      have e3 := congrArg List.length q3
      rw [List.length_map, List.length_map, List.length_take] at e2 e3
      omega
    have HLN : Hid (p2.length ≤ 160 ∧ p3.length ≤ 160) := hl2
    clear q1 q2 q3 q4 hl2
    by_cases hlt : k < m
    · have hlt2 : k < cs.length := by rw [← HM.out]; exact hlt
      obtain ⟨ao9, cap9, e9, -, -, -, -, hc9⟩ := H5.out.2.2.1
      simp only [Value.slice.injEq] at e9
      obtain ⟨rfl, -, rfl⟩ := e9
      obtain ⟨b, off, d, rfl, hcr, hd⟩ := hc9 k cs[k] (List.getElem?_eq_getElem hlt2)
      have hTK : cs.take (k + 1) = cs.take k ++ [cs[k]] := by rw [List.take_succ_eq_append_getElem hlt2]
      have hmem : cs[k] ∈ cs := List.getElem_mem hlt2
      obtain ⟨r, hr⟩ : ∃ r, cs[k] = r := ⟨_, rfl⟩
      rw [hr] at hcr hd hTK hmem
      have HMEM : Hid (r ∈ cs) := hmem
      have HTK : Hid (cs.take (k + 1) = cs.take k ++ [r]) := hTK
      obtain ⟨G0, hGr, hGL, hGE⟩ := rv_letter r.x r.nm d
      have HGL : Hid _ := hGL
      have HGE : Hid (G0 = rcE r.x r.nm d) := hGE
      have HBD : Hid (BsT W5 d r.l) := hd
      have HONE : Hid (d.oneCell' = true) := by show _ = _; obtain ⟨ao9, c9, e9, _⟩ := hd.1.shape; rw [e9]; rfl
      have HCR : Hid (∀ W, Below W5.heap.size W5 W → W.rangeAt b (off + k * 12) G0) := fun W hW j u hj => by
        rw [hGE] at hj
        exact (hW.cell (p := ⟨b, off + k * 12 + j, none⟩) (World.block_lt_of_cell? _ _ (hcr j u hj))).trans (hcr j u hj)
      have HCU : Hid (∀ (t : Int) (W : World), Below W5.heap.size W5 W → Calls Tryz.prog 11 #[.agg G0.toArray, .int .i64 t] W fun e w' => OwnT W w' (upP t r) e) := fun t W hW => by
        have e := HUP.out t r d W HMEM.out (H5.out.2.2.2.trans (hW.mono H5.out.2.2.2.size)) (HBD.out.kept hW).1
        rw [hGr] at e
        exact e
      clear hcr hd hTK hr hGr hGL hGE hmem hc9
      have HG01 : Hid (∀ v ∈ G0, v.oneCell' = true) := by show ∀ v ∈ G0, _; rw [HGE.out]; exact rcE_one _ _ _ HONE.out
      have HG0Z : Hid (G0.length = Z.length) := by show _ = _; rw [HGE.out, HZL.out]; rfl
      by_cases hz3 : (upP 3 r).1 = 0
      · have HZ3 : Hid ((upP 3 r).1 = 0) := hz3
        have HB0 : Hid (Below W5.heap.size W5 wr) := HI.out.2.2.2
        have HC3 := HCU.out 3 wr HB0.out
        obtain ⟨z3, hz3e⟩ : ∃ z, (upP 3 r).1 = z := ⟨_, rfl⟩
        obtain ⟨U3, hU3⟩ : ∃ U, (upP 3 r).2 = U := ⟨_, rfl⟩
        have dz3 : (z3 != 0) = false := by rw [← hz3e]; simp [hz3]
        have HU3 : Hid ((upP 3 r).2 = U3) := hU3
        have HC3 : Hid (Calls Tryz.prog 11 #[.agg G0.toArray, .int .i64 3] wr fun e w' => ∃ ao, ∃ cap : Nat, e = .returned (.tuple #[rv U3.x U3.nm (.slice ao U3.l.length cap), .int .i64 z3]) ∧ Own wr.heap.size w' (.slice ao U3.l.length cap) U3.l ∧ Below wr.heap.size wr w') := by
          have e := HC3
          unfold OwnT at e
          rw [hz3e, hU3] at e
          exact e
        clear hz3 hz3e hU3
        go_wp2_with (first | (refine wpList_load_mid rfl 32 _ rfl b (off + k * 12) rfl G0 _ (HCR.out _ HB0.out) Tryz.underlying32 rfl HGL.out ?_) | fail)
        refine HC3.out.mono ?_
        rintro e w6 ⟨a6, c6, rfl, o6, b6⟩
        have H6 : Hid (Own wr.heap.size w6 (.slice a6 U3.l.length c6) U3.l ∧ Below wr.heap.size wr w6) := ⟨o6, b6⟩
        clear o6 b6 HC3
        obtain ⟨G1, hG1, hGL1, hGE1⟩ := rv_letter U3.x U3.nm (.slice a6 U3.l.length c6)
        rw [hG1]
        have HGL1 : Hid _ := hGL1
        have HGE1 : Hid (G1 = rcE U3.x U3.nm (.slice a6 U3.l.length c6)) := hGE1
        have HG11 : Hid (∀ v ∈ G1, v.oneCell' = true) := by show ∀ v ∈ G1, _; rw [hGE1]; exact rcE_one _ _ _ rfl
        have HGZ : Hid (G1.length = Z.length) := by show _ = _; rw [hGE1, HZL.out]; rfl
        clear hG1 hGL1 hGE1
        have HTH : Hid ((w6.alloc (.cells Z.toArray 32)).there w6.heap.size 0 G1.toArray.size) := there_of (lb_new w6 Z 32) (by simpa using HGZ.out)
        obtain ⟨p8, hp8⟩ : ∃ p, p = w6.heap.size := ⟨_, rfl⟩
        have HP8 : Hid ((u5.ownBlock ≠ some p8) ∧ (u6.ownBlock ≠ some p8) ∧ W5.heap.size ≤ p8) := by
          rw [hp8]
          have hs := H6.out.2.size
          exact ⟨fun e => by have := (HI.out.1.1.lt _ e).2; omega, fun e => by have := (HI.out.1.2.1.lt _ e).2; omega, Nat.le_trans HB0.out.size hs⟩
        have H7 : Hid (∃ W7, W7 = (w6.alloc (.cells Z.toArray 32)).setCells p8 0 G1 ∧ LB W7 p8 32 G1 ∧ Two W5.heap.size W7 u5 u6 p2 p3 ∧ BsT W7 (.slice a6 U3.l.length c6) U3.l ∧ Below W5.heap.size W5 W7) := by
          have l0 : LB (w6.alloc (.cells Z.toArray 32)) p8 32 Z := by rw [hp8]; exact lb_new w6 Z 32
          have t0 := (HI.out.1.kept (andThen H6.out.2 (up0 w6 (.cells Z.toArray 32)))).box l0 HP8.out.1 HP8.out.2.1 0 G1
          have e0 : Below W5.heap.size W5 ((w6.alloc (.cells Z.toArray 32)).setCells p8 0 G1) := below_cells HP8.out.2.2 _ 0 _ ((HB0.out.trans (H6.out.2.mono HB0.out.size)).trans ((up0 w6 (.cells Z.toArray 32)).mono (Nat.le_trans HB0.out.size H6.out.2.size)))
          exact ⟨_, rfl, l0.sets G1 HGZ.out, t0, ((BsT.own H6.out.1).kept (up0 _ _)).keep (ktb_cells l0 (by decide) 0 G1), e0⟩
        have HL1 : Hid (LB ((w6.alloc (.cells Z.toArray 32)).setCells p8 0 G1) p8 32 G1 ∧ Below W5.heap.size W5 ((w6.alloc (.cells Z.toArray 32)).setCells p8 0 G1)) := by
          have l0 : LB (w6.alloc (.cells Z.toArray 32)) p8 32 Z := by rw [hp8]; exact lb_new w6 Z 32
          exact ⟨l0.sets G1 HGZ.out, below_cells HP8.out.2.2 _ 0 _ ((HB0.out.trans (H6.out.2.mono HB0.out.size)).trans ((up0 w6 (.cells Z.toArray 32)).mono (Nat.le_trans HB0.out.size H6.out.2.size)))⟩
        have HPE : Hid (w6.heap.size = p8) := hp8.symm
        clear hp8
        go_wp2_with (first | (refine wpList_alloc_R HZ.out rfl rfl ?_) | (refine wpList_store_mid rfl 32 (.tmp 8) (.tmp 35) rfl w6.heap.size 0 G1.toArray rfl rfl HTH.out (by simpa using HGL1.out) (all_oneCell_toArray HG11.out) ?_; (rw [List.toList_toArray, HPE.out]); (obtain ⟨W7, hW7, hq⟩ := H7.out); (have H8 : Hid _ := hq); (rw [← hW7]); (clear hW7 hq H7 HTH)) | (refine wpList_load_mid rfl 32 (.tmp 8) rfl p8 0 rfl G1 _ H8.out.1.range Tryz.underlying32 rfl HGL1.out ?_) | (refine wpList_buildR HGE1.out rfl 44 rfl rfl ?_) | (at_builtin; refine wpList_append_rr _ rfl (.tmp 43) (.tmp 45) 22 rfl W5.heap.size hin Tryz.underlying22 _ p3 (U3, Value.slice a6 U3.l.length c6) rfl (H8.out.2.1.2.1.kept (up0 _ _)) _ rfl (by have e := (lb_new W7 G1 32).range; rw [HGE1.out] at e ⊢; exact e) rfl (H8.out.2.2.1.kept (up0 _ _)) (by have := HLN.out; omega) (Nat.le_trans H8.out.2.2.2.size (up0 W7 _).size) ?_) | fail)
        intro v9 w9 r9 b9 g9 l9 k9
        rw [← heap_one W7 (.cells G1.toArray 32)] at l9
        have H9 : Hid (Two W5.heap.size w9 u5 v9 p2 (p3 ++ [(U3, Value.slice a6 U3.l.length c6)]) ∧ LB w9 p8 32 G1 ∧ Below W5.heap.size W5 w9 ∧ u5.ownBlock ≠ some p8 ∧ v9.ownBlock ≠ some p8 ∧ (p3 ++ [(U3, Value.slice a6 U3.l.length c6)]).map Prod.fst = (cs.take (k + 1)).map (Rp.lft 3)) := by
          have l10 := H8.out.1.kept (up0 W7 (.cells G1.toArray 32))
          refine ⟨(H8.out.2.1.kept (up0 _ _)).app6 r9 g9 l9 k9, (g9.block p8 l10.lt (Ne.symm HP8.out.2.1)).trans l10, H8.out.2.2.2.trans (((up0 W7 _).mono H8.out.2.2.2.size).trans b9), HP8.out.1, fun e => ?_, ?_⟩
          · rcases l9 with e3 | e3
            · exact HP8.out.2.1 (e3 ▸ e)
            · rw [e3] at e
              have := Option.some.inj e
              have := l10.lt
              omega
          · rw [HTK.out, List.map_append, List.map_append, HI.out.2.2.1, List.map_cons, List.map_cons, lft_ok HZ3.out, HU3.out]
            rfl
        clear r9 b9 g9 l9 k9 H8 H6 HPE HL1 HU3 dz3
        by_cases hz2 : (upP 2 r).1 = 0
        · have HZ2 : Hid ((upP 2 r).1 = 0) := hz2
          have HC2 := HCU.out 2 w9 H9.out.2.2.1
          obtain ⟨z2, hz2e⟩ : ∃ z, (upP 2 r).1 = z := ⟨_, rfl⟩
          obtain ⟨U2, hU2⟩ : ∃ U, (upP 2 r).2 = U := ⟨_, rfl⟩
          have dz2 : (z2 != 0) = false := by rw [← hz2e]; simp [hz2]
          have HU2 : Hid ((upP 2 r).2 = U2) := hU2
          have HC2 : Hid (Calls Tryz.prog 11 #[.agg G0.toArray, .int .i64 2] w9 fun e w' => ∃ ao, ∃ cap : Nat, e = .returned (.tuple #[rv U2.x U2.nm (.slice ao U2.l.length cap), .int .i64 z2]) ∧ Own w9.heap.size w' (.slice ao U2.l.length cap) U2.l ∧ Below w9.heap.size w9 w') := by
            have e := HC2
            unfold OwnT at e
            rw [hz2e, hU2] at e
            exact e
          clear hz2 hz2e hU2
          go_wp2_with (first | (refine wpList_load_mid rfl 32 _ rfl b (off + k * 12) rfl G0 _ (HCR.out _ H9.out.2.2.1) Tryz.underlying32 rfl HGL.out ?_) | fail)
          refine HC2.out.mono ?_
          rintro e w10 ⟨a10, c10, rfl, o10, b10⟩
          have H10 : Hid (Own w9.heap.size w10 (.slice a10 U2.l.length c10) U2.l ∧ Below w9.heap.size w9 w10) := ⟨o10, b10⟩
          clear o10 b10 HC2
          obtain ⟨G2, hG2, hGL2, hGE2⟩ := rv_letter U2.x U2.nm (.slice a10 U2.l.length c10)
          rw [hG2]
          have HGL2 : Hid _ := hGL2
          have HGE2 : Hid (G2 = rcE U2.x U2.nm (.slice a10 U2.l.length c10)) := hGE2
          have HG21 : Hid (∀ v ∈ G2, v.oneCell' = true) := by show ∀ v ∈ G2, _; rw [hGE2]; exact rcE_one _ _ _ rfl
          have HGZ2 : Hid (G2.length = G1.length) := by show _ = _; rw [hGE2, HGZ.out, HZL.out]; rfl
          clear hG2 hGL2 hGE2
          have HL0 : Hid (LB w10 p8 32 G1 ∧ Two W5.heap.size w10 u5 v9 p2 (p3 ++ [(U3, Value.slice a6 U3.l.length c6)]) ∧ Below W5.heap.size W5 w10) := ⟨H9.out.2.1.kept H10.out.2, H9.out.1.kept H10.out.2, H9.out.2.2.1.trans (H10.out.2.mono H9.out.2.2.1.size)⟩
          have HL1 : Hid (LB (w10.setCells p8 0 G2) p8 32 G2 ∧ Below W5.heap.size W5 (w10.setCells p8 0 G2)) := ⟨HL0.out.1.sets G2 HGZ2.out, below_cells HP8.out.2.2 _ 0 _ HL0.out.2.2⟩
          have H7 : Hid (∃ W7, W7 = w10.setCells p8 0 G2 ∧ LB W7 p8 32 G2 ∧ Two W5.heap.size W7 u5 v9 p2 (p3 ++ [(U3, Value.slice a6 U3.l.length c6)]) ∧ BsT W7 (.slice a10 U2.l.length c10) U2.l ∧ Below W5.heap.size W5 W7) := ⟨_, rfl, HL1.out.1, HL0.out.2.1.box HL0.out.1 H9.out.2.2.2.1 H9.out.2.2.2.2.1 0 G2, (BsT.own H10.out.1).keep (ktb_cells HL0.out.1 (by decide) 0 G2), HL1.out.2⟩
          go_wp2_with (first | (refine wpList_store_mid rfl 32 (.tmp 8) (.tmp 53) rfl p8 0 G2.toArray rfl rfl (there_of HL0.out.1 (by simpa using HGZ2.out)) (by simpa using HGL2.out) (all_oneCell_toArray HG21.out) ?_; (rw [List.toList_toArray]); (obtain ⟨W7, hW7, hq⟩ := H7.out); (have H8 : Hid _ := hq); (rw [← hW7]); (clear hW7 hq H7)) | (refine wpList_load_mid rfl 32 (.tmp 8) rfl p8 0 rfl G2 _ H8.out.1.range Tryz.underlying32 rfl HGL2.out ?_) | (refine wpList_buildR HGE2.out rfl 62 rfl rfl ?_) | (at_builtin; refine wpList_append_rr _ rfl (.tmp 61) (.tmp 63) 22 rfl W5.heap.size hin Tryz.underlying22 _ p2 (U2, Value.slice a10 U2.l.length c10) rfl (H8.out.2.1.1.kept (up0 _ _)) _ rfl (by have e := (lb_new W7 G2 32).range; rw [HGE2.out] at e ⊢; exact e) rfl (H8.out.2.2.1.kept (up0 _ _)) (by have := HLN.out; omega) (Nat.le_trans H8.out.2.2.2.size (up0 W7 _).size) ?_) | fail)
          intro v12 w12 r12 b12 g12 l12 k12
          rw [← heap_one W7 (.cells G2.toArray 32)] at l12
          have H12 : Hid (Two W5.heap.size w12 v12 v9 (p2 ++ [(U2, Value.slice a10 U2.l.length c10)]) (p3 ++ [(U3, Value.slice a6 U3.l.length c6)]) ∧ Below W5.heap.size W5 w12 ∧ (p2 ++ [(U2, Value.slice a10 U2.l.length c10)]).map Prod.fst = (cs.take (k + 1)).map (Rp.lft 2)) := by
            refine ⟨(H8.out.2.1.kept (up0 _ _)).app5 r12 g12 l12 k12, H8.out.2.2.2.trans (((up0 W7 _).mono H8.out.2.2.2.size).trans b12), ?_⟩
            rw [HTK.out, List.map_append, List.map_append, HI.out.2.1, List.map_cons, List.map_cons, lft_ok HZ2.out, HU2.out]
            rfl
          clear r12 b12 g12 l12 k12 H8 dz2
          go_wp2_with fail
          go_roundw
          case rel => exact ⟨k + 1, _, _, by omega, by go_num, H12.out.1, H12.out.2.2, H9.out.2.2.2.2.2, H12.out.2.1⟩
          case measure => simp [mInt]; omega
        · have HZ2 : Hid ((upP 2 r).1 ≠ 0) := hz2
          have HC2 := HCU.out 2 w9 H9.out.2.2.1
          obtain ⟨z2, hz2e⟩ : ∃ z, (upP 2 r).1 = z := ⟨_, rfl⟩
          obtain ⟨U2, hU2⟩ : ∃ U, (upP 2 r).2 = U := ⟨_, rfl⟩
          have dz2 : (z2 != 0) = true := by rw [← hz2e]; simp [hz2]
          have HU2 : Hid ((upP 2 r).2 = U2) := hU2
          have HC2 : Hid (Calls Tryz.prog 11 #[.agg G0.toArray, .int .i64 2] w9 fun e w' => ∃ ao, ∃ cap : Nat, e = .returned (.tuple #[rv U2.x U2.nm (.slice ao U2.l.length cap), .int .i64 z2]) ∧ Own w9.heap.size w' (.slice ao U2.l.length cap) U2.l ∧ Below w9.heap.size w9 w') := by
            have e := HC2
            unfold OwnT at e
            rw [hz2e, hU2] at e
            exact e
          clear hz2 hz2e hU2
          go_wp2_with (first | (refine wpList_load_mid rfl 32 _ rfl b (off + k * 12) rfl G0 _ (HCR.out _ H9.out.2.2.1) Tryz.underlying32 rfl HGL.out ?_) | fail)
          refine HC2.out.mono ?_
          rintro e w10 ⟨a10, c10, rfl, o10, b10⟩
          have H10 : Hid (Own w9.heap.size w10 (.slice a10 U2.l.length c10) U2.l ∧ Below w9.heap.size w9 w10) := ⟨o10, b10⟩
          clear o10 b10 HC2
          obtain ⟨G2, hG2, hGL2, hGE2⟩ := rv_letter U2.x U2.nm (.slice a10 U2.l.length c10)
          rw [hG2]
          have HGL2 : Hid _ := hGL2
          have HGE2 : Hid (G2 = rcE U2.x U2.nm (.slice a10 U2.l.length c10)) := hGE2
          have HG21 : Hid (∀ v ∈ G2, v.oneCell' = true) := by show ∀ v ∈ G2, _; rw [hGE2]; exact rcE_one _ _ _ rfl
          have HGZ2 : Hid (G2.length = G1.length) := by show _ = _; rw [hGE2, HGZ.out, HZL.out]; rfl
          clear hG2 hGL2 hGE2
          have HL0 : Hid (LB w10 p8 32 G1 ∧ Two W5.heap.size w10 u5 v9 p2 (p3 ++ [(U3, Value.slice a6 U3.l.length c6)]) ∧ Below W5.heap.size W5 w10) := ⟨H9.out.2.1.kept H10.out.2, H9.out.1.kept H10.out.2, H9.out.2.2.1.trans (H10.out.2.mono H9.out.2.2.1.size)⟩
          have HL1 : Hid (LB (w10.setCells p8 0 G2) p8 32 G2 ∧ Below W5.heap.size W5 (w10.setCells p8 0 G2)) := ⟨HL0.out.1.sets G2 HGZ2.out, below_cells HP8.out.2.2 _ 0 _ HL0.out.2.2⟩
          have H7 : Hid (∃ W7, W7 = (w10.setCells p8 0 G2).setCells p8 0 G0 ∧ LB W7 p8 32 G0 ∧ Two W5.heap.size W7 u5 v9 p2 (p3 ++ [(U3, Value.slice a6 U3.l.length c6)]) ∧ BsT W7 d r.l ∧ Below W5.heap.size W5 W7) := by
            have t0 := HL0.out.2.1.box HL0.out.1 H9.out.2.2.2.1 H9.out.2.2.2.2.1 0 G2
            have e1 := below_cells HP8.out.2.2 G0 0 _ HL1.out.2
            exact ⟨_, rfl, HL1.out.1.sets G0 (HG0Z.out.trans ((HGZ2.out.trans HGZ.out).symm)), t0.box HL1.out.1 H9.out.2.2.2.1 H9.out.2.2.2.2.1 0 G0, HBD.out.kept e1, e1⟩
          go_wp2_with (first | (refine wpList_store_mid rfl 32 (.tmp 8) (.tmp 53) rfl p8 0 G2.toArray rfl rfl (there_of HL0.out.1 (by simpa using HGZ2.out)) (by simpa using HGL2.out) (all_oneCell_toArray HG21.out) ?_; (rw [List.toList_toArray]); skip) | (refine wpList_load_mid rfl 32 (.tmp 59) rfl b (off + k * 12) rfl G0 _ (HCR.out _ HL1.out.2) Tryz.underlying32 rfl HGL.out ?_) | (refine wpList_store_mid rfl 32 (.tmp 8) (.tmp 60) rfl p8 0 G0.toArray rfl rfl (there_of HL1.out.1 (by simpa using HG0Z.out.trans ((HGZ2.out.trans HGZ.out).symm))) (by simpa using HGL.out) (all_oneCell_toArray HG01.out) ?_; (rw [List.toList_toArray]); (obtain ⟨W7, hW7, hq⟩ := H7.out); (have H8 : Hid _ := hq); (rw [← hW7]); (clear hW7 hq H7)) | (refine wpList_load_mid rfl 32 (.tmp 8) rfl p8 0 rfl G0 _ H8.out.1.range Tryz.underlying32 rfl HGL.out ?_) | (refine wpList_buildR HGE.out rfl 62 rfl rfl ?_) | (at_builtin; refine wpList_append_rr _ rfl (.tmp 61) (.tmp 63) 22 rfl W5.heap.size hin Tryz.underlying22 _ p2 (r, d) rfl (H8.out.2.1.1.kept (up0 _ _)) _ rfl (by have e := (lb_new W7 G0 32).range; rw [HGE.out] at e ⊢; exact e) HONE.out (H8.out.2.2.1.kept (up0 _ _)) (by have := HLN.out; omega) (Nat.le_trans H8.out.2.2.2.size (up0 W7 _).size) ?_) | fail)
          intro v12 w12 r12 b12 g12 l12 k12
          rw [← heap_one W7 (.cells G0.toArray 32)] at l12
          have H12 : Hid (Two W5.heap.size w12 v12 v9 (p2 ++ [(r, d)]) (p3 ++ [(U3, Value.slice a6 U3.l.length c6)]) ∧ Below W5.heap.size W5 w12 ∧ (p2 ++ [(r, d)]).map Prod.fst = (cs.take (k + 1)).map (Rp.lft 2)) := by
            refine ⟨(H8.out.2.1.kept (up0 _ _)).app5 r12 g12 l12 k12, H8.out.2.2.2.trans (((up0 W7 _).mono H8.out.2.2.2.size).trans b12), ?_⟩
            rw [HTK.out, List.map_append, List.map_append, HI.out.2.1, List.map_cons, List.map_cons, lft_no HZ2.out]
            rfl
          clear r12 b12 g12 l12 k12 H8 dz2
          go_wp2_with fail
          go_roundw
          case rel => exact ⟨k + 1, _, _, by omega, by go_num, H12.out.1, H12.out.2.2, H9.out.2.2.2.2.2, H12.out.2.1⟩
          case measure => simp [mInt]; omega
      · have HZ3 : Hid ((upP 3 r).1 ≠ 0) := hz3
        have HB0 : Hid (Below W5.heap.size W5 wr) := HI.out.2.2.2
        have HC3 := HCU.out 3 wr HB0.out
        obtain ⟨z3, hz3e⟩ : ∃ z, (upP 3 r).1 = z := ⟨_, rfl⟩
        obtain ⟨U3, hU3⟩ : ∃ U, (upP 3 r).2 = U := ⟨_, rfl⟩
        have dz3 : (z3 != 0) = true := by rw [← hz3e]; simp [hz3]
        have HU3 : Hid ((upP 3 r).2 = U3) := hU3
        have HC3 : Hid (Calls Tryz.prog 11 #[.agg G0.toArray, .int .i64 3] wr fun e w' => ∃ ao, ∃ cap : Nat, e = .returned (.tuple #[rv U3.x U3.nm (.slice ao U3.l.length cap), .int .i64 z3]) ∧ Own wr.heap.size w' (.slice ao U3.l.length cap) U3.l ∧ Below wr.heap.size wr w') := by
          have e := HC3
          unfold OwnT at e
          rw [hz3e, hU3] at e
          exact e
        clear hz3 hz3e hU3
        go_wp2_with (first | (refine wpList_load_mid rfl 32 _ rfl b (off + k * 12) rfl G0 _ (HCR.out _ HB0.out) Tryz.underlying32 rfl HGL.out ?_) | fail)
        refine HC3.out.mono ?_
        rintro e w6 ⟨a6, c6, rfl, o6, b6⟩
        have H6 : Hid (Own wr.heap.size w6 (.slice a6 U3.l.length c6) U3.l ∧ Below wr.heap.size wr w6) := ⟨o6, b6⟩
        clear o6 b6 HC3
        obtain ⟨G1, hG1, hGL1, hGE1⟩ := rv_letter U3.x U3.nm (.slice a6 U3.l.length c6)
        rw [hG1]
        have HGL1 : Hid _ := hGL1
        have HGE1 : Hid (G1 = rcE U3.x U3.nm (.slice a6 U3.l.length c6)) := hGE1
        have HG11 : Hid (∀ v ∈ G1, v.oneCell' = true) := by show ∀ v ∈ G1, _; rw [hGE1]; exact rcE_one _ _ _ rfl
        have HGZ : Hid (G1.length = Z.length) := by show _ = _; rw [hGE1, HZL.out]; rfl
        clear hG1 hGL1 hGE1
        have HTH : Hid ((w6.alloc (.cells Z.toArray 32)).there w6.heap.size 0 G1.toArray.size) := there_of (lb_new w6 Z 32) (by simpa using HGZ.out)
        obtain ⟨p8, hp8⟩ : ∃ p, p = w6.heap.size := ⟨_, rfl⟩
        have HP8 : Hid ((u5.ownBlock ≠ some p8) ∧ (u6.ownBlock ≠ some p8) ∧ W5.heap.size ≤ p8) := by
          rw [hp8]
          have hs := H6.out.2.size
          exact ⟨fun e => by have := (HI.out.1.1.lt _ e).2; omega, fun e => by have := (HI.out.1.2.1.lt _ e).2; omega, Nat.le_trans HB0.out.size hs⟩
        have H7 : Hid (∃ W7, W7 = ((w6.alloc (.cells Z.toArray 32)).setCells p8 0 G1).setCells p8 0 G0 ∧ LB W7 p8 32 G0 ∧ Two W5.heap.size W7 u5 u6 p2 p3 ∧ BsT W7 d r.l ∧ Below W5.heap.size W5 W7) := by
          have l0 : LB (w6.alloc (.cells Z.toArray 32)) p8 32 Z := by rw [hp8]; exact lb_new w6 Z 32
          have t0 := (HI.out.1.kept (andThen H6.out.2 (up0 w6 (.cells Z.toArray 32)))).box l0 HP8.out.1 HP8.out.2.1 0 G1
          have e0 : Below W5.heap.size W5 ((w6.alloc (.cells Z.toArray 32)).setCells p8 0 G1) := below_cells HP8.out.2.2 _ 0 _ ((HB0.out.trans (H6.out.2.mono HB0.out.size)).trans ((up0 w6 (.cells Z.toArray 32)).mono (Nat.le_trans HB0.out.size H6.out.2.size)))
          have l1 := l0.sets G1 HGZ.out
          have e1 := below_cells HP8.out.2.2 G0 0 _ e0
          exact ⟨_, rfl, l1.sets G0 (HG0Z.out.trans HGZ.out.symm), t0.box l1 HP8.out.1 HP8.out.2.1 0 G0, HBD.out.kept e1, e1⟩
        have HL1 : Hid (LB ((w6.alloc (.cells Z.toArray 32)).setCells p8 0 G1) p8 32 G1 ∧ Below W5.heap.size W5 ((w6.alloc (.cells Z.toArray 32)).setCells p8 0 G1)) := by
          have l0 : LB (w6.alloc (.cells Z.toArray 32)) p8 32 Z := by rw [hp8]; exact lb_new w6 Z 32
          exact ⟨l0.sets G1 HGZ.out, below_cells HP8.out.2.2 _ 0 _ ((HB0.out.trans (H6.out.2.mono HB0.out.size)).trans ((up0 w6 (.cells Z.toArray 32)).mono (Nat.le_trans HB0.out.size H6.out.2.size)))⟩
        have HPE : Hid (w6.heap.size = p8) := hp8.symm
        clear hp8
        go_wp2_with (first | (refine wpList_alloc_R HZ.out rfl rfl ?_) | (refine wpList_store_mid rfl 32 (.tmp 8) (.tmp 35) rfl w6.heap.size 0 G1.toArray rfl rfl HTH.out (by simpa using HGL1.out) (all_oneCell_toArray HG11.out) ?_; (rw [List.toList_toArray, HPE.out]); (clear HTH)) | (refine wpList_load_mid rfl 32 (.tmp 41) rfl b (off + k * 12) rfl G0 _ (HCR.out _ HL1.out.2) Tryz.underlying32 rfl HGL.out ?_) | (refine wpList_store_mid rfl 32 (.tmp 8) (.tmp 42) rfl p8 0 G0.toArray rfl rfl (there_of HL1.out.1 (by simpa using HG0Z.out.trans HGZ.out.symm)) (by simpa using HGL.out) (all_oneCell_toArray HG01.out) ?_; (rw [List.toList_toArray]); (obtain ⟨W7, hW7, hq⟩ := H7.out); (have H8 : Hid _ := hq); (rw [← hW7]); (clear hW7 hq H7)) | (refine wpList_load_mid rfl 32 (.tmp 8) rfl p8 0 rfl G0 _ H8.out.1.range Tryz.underlying32 rfl HGL.out ?_) | (refine wpList_buildR HGE.out rfl 44 rfl rfl ?_) | (at_builtin; refine wpList_append_rr _ rfl (.tmp 43) (.tmp 45) 22 rfl W5.heap.size hin Tryz.underlying22 _ p3 (r, d) rfl (H8.out.2.1.2.1.kept (up0 _ _)) _ rfl (by have e := (lb_new W7 G0 32).range; rw [HGE.out] at e ⊢; exact e) HONE.out (H8.out.2.2.1.kept (up0 _ _)) (by have := HLN.out; omega) (Nat.le_trans H8.out.2.2.2.size (up0 W7 _).size) ?_) | fail)
        intro v9 w9 r9 b9 g9 l9 k9
        rw [← heap_one W7 (.cells G0.toArray 32)] at l9
        have H9 : Hid (Two W5.heap.size w9 u5 v9 p2 (p3 ++ [(r, d)]) ∧ LB w9 p8 32 G0 ∧ Below W5.heap.size W5 w9 ∧ u5.ownBlock ≠ some p8 ∧ v9.ownBlock ≠ some p8 ∧ (p3 ++ [(r, d)]).map Prod.fst = (cs.take (k + 1)).map (Rp.lft 3)) := by
          have l10 := H8.out.1.kept (up0 W7 (.cells G0.toArray 32))
          refine ⟨(H8.out.2.1.kept (up0 _ _)).app6 r9 g9 l9 k9, (g9.block p8 l10.lt (Ne.symm HP8.out.2.1)).trans l10, H8.out.2.2.2.trans (((up0 W7 _).mono H8.out.2.2.2.size).trans b9), HP8.out.1, fun e => ?_, ?_⟩
          · rcases l9 with e3 | e3
            · exact HP8.out.2.1 (e3 ▸ e)
            · rw [e3] at e
              have := Option.some.inj e
              have := l10.lt
              omega
          · rw [HTK.out, List.map_append, List.map_append, HI.out.2.2.1, List.map_cons, List.map_cons, lft_no HZ3.out]
            rfl
        clear r9 b9 g9 l9 k9 H8 H6 HPE HL1 HU3 dz3
        by_cases hz2 : (upP 2 r).1 = 0
        · have HZ2 : Hid ((upP 2 r).1 = 0) := hz2
          have HC2 := HCU.out 2 w9 H9.out.2.2.1
          obtain ⟨z2, hz2e⟩ : ∃ z, (upP 2 r).1 = z := ⟨_, rfl⟩
          obtain ⟨U2, hU2⟩ : ∃ U, (upP 2 r).2 = U := ⟨_, rfl⟩
          have dz2 : (z2 != 0) = false := by rw [← hz2e]; simp [hz2]
          have HU2 : Hid ((upP 2 r).2 = U2) := hU2
          have HC2 : Hid (Calls Tryz.prog 11 #[.agg G0.toArray, .int .i64 2] w9 fun e w' => ∃ ao, ∃ cap : Nat, e = .returned (.tuple #[rv U2.x U2.nm (.slice ao U2.l.length cap), .int .i64 z2]) ∧ Own w9.heap.size w' (.slice ao U2.l.length cap) U2.l ∧ Below w9.heap.size w9 w') := by
            have e := HC2
            unfold OwnT at e
            rw [hz2e, hU2] at e
            exact e
          clear hz2 hz2e hU2
          go_wp2_with (first | (refine wpList_load_mid rfl 32 _ rfl b (off + k * 12) rfl G0 _ (HCR.out _ H9.out.2.2.1) Tryz.underlying32 rfl HGL.out ?_) | fail)
          refine HC2.out.mono ?_
          rintro e w10 ⟨a10, c10, rfl, o10, b10⟩
          have H10 : Hid (Own w9.heap.size w10 (.slice a10 U2.l.length c10) U2.l ∧ Below w9.heap.size w9 w10) := ⟨o10, b10⟩
          clear o10 b10 HC2
          obtain ⟨G2, hG2, hGL2, hGE2⟩ := rv_letter U2.x U2.nm (.slice a10 U2.l.length c10)
          rw [hG2]
          have HGL2 : Hid _ := hGL2
          have HGE2 : Hid (G2 = rcE U2.x U2.nm (.slice a10 U2.l.length c10)) := hGE2
          have HG21 : Hid (∀ v ∈ G2, v.oneCell' = true) := by show ∀ v ∈ G2, _; rw [hGE2]; exact rcE_one _ _ _ rfl
          have HGZ2 : Hid (G2.length = G0.length) := by show _ = _; rw [hGE2, HG0Z.out, HZL.out]; rfl
          clear hG2 hGL2 hGE2
          have HL0 : Hid (LB w10 p8 32 G0 ∧ Two W5.heap.size w10 u5 v9 p2 (p3 ++ [(r, d)]) ∧ Below W5.heap.size W5 w10) := ⟨H9.out.2.1.kept H10.out.2, H9.out.1.kept H10.out.2, H9.out.2.2.1.trans (H10.out.2.mono H9.out.2.2.1.size)⟩
          have HL1 : Hid (LB (w10.setCells p8 0 G2) p8 32 G2 ∧ Below W5.heap.size W5 (w10.setCells p8 0 G2)) := ⟨HL0.out.1.sets G2 HGZ2.out, below_cells HP8.out.2.2 _ 0 _ HL0.out.2.2⟩
          have H7 : Hid (∃ W7, W7 = w10.setCells p8 0 G2 ∧ LB W7 p8 32 G2 ∧ Two W5.heap.size W7 u5 v9 p2 (p3 ++ [(r, d)]) ∧ BsT W7 (.slice a10 U2.l.length c10) U2.l ∧ Below W5.heap.size W5 W7) := ⟨_, rfl, HL1.out.1, HL0.out.2.1.box HL0.out.1 H9.out.2.2.2.1 H9.out.2.2.2.2.1 0 G2, (BsT.own H10.out.1).keep (ktb_cells HL0.out.1 (by decide) 0 G2), HL1.out.2⟩
          go_wp2_with (first | (refine wpList_store_mid rfl 32 (.tmp 8) (.tmp 53) rfl p8 0 G2.toArray rfl rfl (there_of HL0.out.1 (by simpa using HGZ2.out)) (by simpa using HGL2.out) (all_oneCell_toArray HG21.out) ?_; (rw [List.toList_toArray]); (obtain ⟨W7, hW7, hq⟩ := H7.out); (have H8 : Hid _ := hq); (rw [← hW7]); (clear hW7 hq H7)) | (refine wpList_load_mid rfl 32 (.tmp 8) rfl p8 0 rfl G2 _ H8.out.1.range Tryz.underlying32 rfl HGL2.out ?_) | (refine wpList_buildR HGE2.out rfl 62 rfl rfl ?_) | (at_builtin; refine wpList_append_rr _ rfl (.tmp 61) (.tmp 63) 22 rfl W5.heap.size hin Tryz.underlying22 _ p2 (U2, Value.slice a10 U2.l.length c10) rfl (H8.out.2.1.1.kept (up0 _ _)) _ rfl (by have e := (lb_new W7 G2 32).range; rw [HGE2.out] at e ⊢; exact e) rfl (H8.out.2.2.1.kept (up0 _ _)) (by have := HLN.out; omega) (Nat.le_trans H8.out.2.2.2.size (up0 W7 _).size) ?_) | fail)
          intro v12 w12 r12 b12 g12 l12 k12
          rw [← heap_one W7 (.cells G2.toArray 32)] at l12
          have H12 : Hid (Two W5.heap.size w12 v12 v9 (p2 ++ [(U2, Value.slice a10 U2.l.length c10)]) (p3 ++ [(r, d)]) ∧ Below W5.heap.size W5 w12 ∧ (p2 ++ [(U2, Value.slice a10 U2.l.length c10)]).map Prod.fst = (cs.take (k + 1)).map (Rp.lft 2)) := by
            refine ⟨(H8.out.2.1.kept (up0 _ _)).app5 r12 g12 l12 k12, H8.out.2.2.2.trans (((up0 W7 _).mono H8.out.2.2.2.size).trans b12), ?_⟩
            rw [HTK.out, List.map_append, List.map_append, HI.out.2.1, List.map_cons, List.map_cons, lft_ok HZ2.out, HU2.out]
            rfl
          clear r12 b12 g12 l12 k12 H8 dz2
          go_wp2_with fail
          go_roundw
          case rel => exact ⟨k + 1, _, _, by omega, by go_num, H12.out.1, H12.out.2.2, H9.out.2.2.2.2.2, H12.out.2.1⟩
          case measure => simp [mInt]; omega
        · have HZ2 : Hid ((upP 2 r).1 ≠ 0) := hz2
          have HC2 := HCU.out 2 w9 H9.out.2.2.1
          obtain ⟨z2, hz2e⟩ : ∃ z, (upP 2 r).1 = z := ⟨_, rfl⟩
          obtain ⟨U2, hU2⟩ : ∃ U, (upP 2 r).2 = U := ⟨_, rfl⟩
          have dz2 : (z2 != 0) = true := by rw [← hz2e]; simp [hz2]
          have HU2 : Hid ((upP 2 r).2 = U2) := hU2
          have HC2 : Hid (Calls Tryz.prog 11 #[.agg G0.toArray, .int .i64 2] w9 fun e w' => ∃ ao, ∃ cap : Nat, e = .returned (.tuple #[rv U2.x U2.nm (.slice ao U2.l.length cap), .int .i64 z2]) ∧ Own w9.heap.size w' (.slice ao U2.l.length cap) U2.l ∧ Below w9.heap.size w9 w') := by
            have e := HC2
            unfold OwnT at e
            rw [hz2e, hU2] at e
            exact e
          clear hz2 hz2e hU2
          go_wp2_with (first | (refine wpList_load_mid rfl 32 _ rfl b (off + k * 12) rfl G0 _ (HCR.out _ H9.out.2.2.1) Tryz.underlying32 rfl HGL.out ?_) | fail)
          refine HC2.out.mono ?_
          rintro e w10 ⟨a10, c10, rfl, o10, b10⟩
          have H10 : Hid (Own w9.heap.size w10 (.slice a10 U2.l.length c10) U2.l ∧ Below w9.heap.size w9 w10) := ⟨o10, b10⟩
          clear o10 b10 HC2
          obtain ⟨G2, hG2, hGL2, hGE2⟩ := rv_letter U2.x U2.nm (.slice a10 U2.l.length c10)
          rw [hG2]
          have HGL2 : Hid _ := hGL2
          have HGE2 : Hid (G2 = rcE U2.x U2.nm (.slice a10 U2.l.length c10)) := hGE2
          have HG21 : Hid (∀ v ∈ G2, v.oneCell' = true) := by show ∀ v ∈ G2, _; rw [hGE2]; exact rcE_one _ _ _ rfl
          have HGZ2 : Hid (G2.length = G0.length) := by show _ = _; rw [hGE2, HG0Z.out, HZL.out]; rfl
          clear hG2 hGL2 hGE2
          have HL0 : Hid (LB w10 p8 32 G0 ∧ Two W5.heap.size w10 u5 v9 p2 (p3 ++ [(r, d)]) ∧ Below W5.heap.size W5 w10) := ⟨H9.out.2.1.kept H10.out.2, H9.out.1.kept H10.out.2, H9.out.2.2.1.trans (H10.out.2.mono H9.out.2.2.1.size)⟩
          have HL1 : Hid (LB (w10.setCells p8 0 G2) p8 32 G2 ∧ Below W5.heap.size W5 (w10.setCells p8 0 G2)) := ⟨HL0.out.1.sets G2 HGZ2.out, below_cells HP8.out.2.2 _ 0 _ HL0.out.2.2⟩
          have H7 : Hid (∃ W7, W7 = (w10.setCells p8 0 G2).setCells p8 0 G0 ∧ LB W7 p8 32 G0 ∧ Two W5.heap.size W7 u5 v9 p2 (p3 ++ [(r, d)]) ∧ BsT W7 d r.l ∧ Below W5.heap.size W5 W7) := by
            have t0 := HL0.out.2.1.box HL0.out.1 H9.out.2.2.2.1 H9.out.2.2.2.2.1 0 G2
            have e1 := below_cells HP8.out.2.2 G0 0 _ HL1.out.2
            exact ⟨_, rfl, HL1.out.1.sets G0 (HG0Z.out.trans ((HGZ2.out.trans HG0Z.out).symm)), t0.box HL1.out.1 H9.out.2.2.2.1 H9.out.2.2.2.2.1 0 G0, HBD.out.kept e1, e1⟩
          go_wp2_with (first | (refine wpList_store_mid rfl 32 (.tmp 8) (.tmp 53) rfl p8 0 G2.toArray rfl rfl (there_of HL0.out.1 (by simpa using HGZ2.out)) (by simpa using HGL2.out) (all_oneCell_toArray HG21.out) ?_; (rw [List.toList_toArray]); skip) | (refine wpList_load_mid rfl 32 (.tmp 59) rfl b (off + k * 12) rfl G0 _ (HCR.out _ HL1.out.2) Tryz.underlying32 rfl HGL.out ?_) | (refine wpList_store_mid rfl 32 (.tmp 8) (.tmp 60) rfl p8 0 G0.toArray rfl rfl (there_of HL1.out.1 (by simpa using HG0Z.out.trans ((HGZ2.out.trans HG0Z.out).symm))) (by simpa using HGL.out) (all_oneCell_toArray HG01.out) ?_; (rw [List.toList_toArray]); (obtain ⟨W7, hW7, hq⟩ := H7.out); (have H8 : Hid _ := hq); (rw [← hW7]); (clear hW7 hq H7)) | (refine wpList_load_mid rfl 32 (.tmp 8) rfl p8 0 rfl G0 _ H8.out.1.range Tryz.underlying32 rfl HGL.out ?_) | (refine wpList_buildR HGE.out rfl 62 rfl rfl ?_) | (at_builtin; refine wpList_append_rr _ rfl (.tmp 61) (.tmp 63) 22 rfl W5.heap.size hin Tryz.underlying22 _ p2 (r, d) rfl (H8.out.2.1.1.kept (up0 _ _)) _ rfl (by have e := (lb_new W7 G0 32).range; rw [HGE.out] at e ⊢; exact e) HONE.out (H8.out.2.2.1.kept (up0 _ _)) (by have := HLN.out; omega) (Nat.le_trans H8.out.2.2.2.size (up0 W7 _).size) ?_) | fail)
          intro v12 w12 r12 b12 g12 l12 k12
          rw [← heap_one W7 (.cells G0.toArray 32)] at l12
          have H12 : Hid (Two W5.heap.size w12 v12 v9 (p2 ++ [(r, d)]) (p3 ++ [(r, d)]) ∧ Below W5.heap.size W5 w12 ∧ (p2 ++ [(r, d)]).map Prod.fst = (cs.take (k + 1)).map (Rp.lft 2)) := by
            refine ⟨(H8.out.2.1.kept (up0 _ _)).app5 r12 g12 l12 k12, H8.out.2.2.2.trans (((up0 W7 _).mono H8.out.2.2.2.size).trans b12), ?_⟩
            rw [HTK.out, List.map_append, List.map_append, HI.out.2.1, List.map_cons, List.map_cons, lft_no HZ2.out]
            rfl
          clear r12 b12 g12 l12 k12 H8 dz2
          go_wp2_with fail
          go_roundw
          case rel => exact ⟨k + 1, _, _, by omega, by go_num, H12.out.1, H12.out.2.2, H9.out.2.2.2.2.2, H12.out.2.1⟩
          case measure => simp [mInt]; omega
    · obtain rfl : k = m := by omega
      have HF2 : Hid (RecsAt wr u5 (cs.map (Rp.lft 2)) ∧ RecsAt wr u6 (cs.map (Rp.lft 3))) := by
        have e2 := HI.out.1.1.rcy.rcr.1
        have e3 := HI.out.1.2.1.rcy.rcr.1
        rw [HI.out.2.1, HM.out, List.take_length] at e2
        rw [HI.out.2.2.1, HM.out, List.take_length] at e3
        exact ⟨e2, e3⟩
      have HB6 : Hid (Below w.heap.size w wr) := H5.out.2.2.2.trans (HI.out.2.2.2.mono H5.out.2.2.2.size)
      have H6 : Hid (LB wr p5 27 [.int .i64 (n : Int), .slice a4 (StV G).length c4] ∧ SgR wr (.slice a4 (StV G).length c4) (StV G)) := ⟨H5.out.1.kept HI.out.2.2.2, H5.out.2.1.kept HI.out.2.2.2⟩
      go_wp2_with fail
      refine (HFL.out 3 (.inr rfl) _ _ HB6.out HF2.out.2).mono ?_
      rintro e w7 ⟨a7, c7, rfl, s7, b7⟩
      have b8 := andThen b7 (up0 w7 (.cells #[.int .i64 (n : Int), .slice a7 (StV G).length c7] 27))
      obtain ⟨W8, hW8⟩ : ∃ W, W = w7.alloc (.cells #[.int .i64 (n : Int), .slice a7 (StV G).length c7] 27) := ⟨_, rfl⟩
      have H8 : Hid (LB W8 p5 27 [.int .i64 (n : Int), .slice a4 (StV G).length c4] ∧ LB W8 w7.heap.size 27 [.int .i64 (n : Int), .slice a7 (StV G).length c7] ∧ SgR W8 (.slice a4 (StV G).length c4) (StV G) ∧ SgR W8 (.slice a7 (StV G).length c7) (StV G) ∧ RecsAt W8 u5 (cs.map (Rp.lft 2)) ∧ Below w.heap.size w W8) := by
        rw [hW8]
        exact ⟨H6.out.1.kept b8, lb_new _ _ _, H6.out.2.kept b8, s7.kept (up0 _ _), HF2.out.1.kept b8, andThen HB6.out b8⟩
      have HW8 : Hid (w7.alloc (.cells #[.int .i64 (n : Int), .slice a7 (StV G).length c7] 27) = W8) := hW8.symm
      clear b7 b8 s7 hW8 HF2 H6 HB6
      go_upto_region 18 with fail
      rw [HW8.out]
      obtain ⟨p7, hp7⟩ : ∃ p, p = w7.heap.size := ⟨_, rfl⟩
      rw [← hp7] at H8 ⊢
      clear hp7 HW8
      go_wp2_with fail
      refine (HFL.out 2 (.inl rfl) _ _ H8.out.2.2.2.2.2 H8.out.2.2.2.2.1).mono ?_
      rintro e w9 ⟨a9, c9, rfl, s9, b9⟩
      have b10 := andThen b9 (up0 w9 (.cells #[.int .i64 (n : Int), .slice a9 (StV G).length c9] 27))
      obtain ⟨W10, hW10⟩ : ∃ W, W = w9.alloc (.cells #[.int .i64 (n : Int), .slice a9 (StV G).length c9] 27) := ⟨_, rfl⟩
      have H10 : Hid (LB W10 p5 27 [.int .i64 (n : Int), .slice a4 (StV G).length c4] ∧ LB W10 p7 27 [.int .i64 (n : Int), .slice a7 (StV G).length c7] ∧ LB W10 w9.heap.size 27 [.int .i64 (n : Int), .slice a9 (StV G).length c9] ∧ SgR W10 (.slice a4 (StV G).length c4) (StV G) ∧ SgR W10 (.slice a7 (StV G).length c7) (StV G) ∧ SgR W10 (.slice a9 (StV G).length c9) (StV G) ∧ Below w.heap.size w W10) := by
        rw [hW10]
        exact ⟨H8.out.1.kept b10, H8.out.2.1.kept b10, lb_new _ _ _, H8.out.2.2.1.kept b10, H8.out.2.2.2.1.kept b10, s9.kept (up0 _ _), andThen H8.out.2.2.2.2.2 b10⟩
      have HW10 : Hid (w9.alloc (.cells #[.int .i64 (n : Int), .slice a9 (StV G).length c9] 27) = W10) := hW10.symm
      clear b9 b10 s9 hW10 H8
      go_upto_region 19 with fail
      rw [HW10.out]
      obtain ⟨p9, hp9⟩ : ∃ p, p = w9.heap.size := ⟨_, rfl⟩
      rw [← hp9] at H10 ⊢
      clear hp9 HW10
      have x0 := H10.out.1.cell 0 _ rfl
      have x1 := H10.out.1.cell 1 _ rfl
      have y0 := H10.out.2.1.cell 0 _ rfl
      have y1 := H10.out.2.1.cell 1 _ rfl
      have dpp : (p == p) = true := by simp
      go_wp2_with fail
      refine (HSA.out _ _ _ H10.out.2.2.2.2.1 H10.out.2.2.2.1).mono ?_
      rintro e w11 ⟨rfl, b11⟩
      have H11 : Hid (LB w11 p5 27 [.int .i64 (n : Int), .slice a4 (StV G).length c4] ∧ LB w11 p9 27 [.int .i64 (n : Int), .slice a9 (StV G).length c9] ∧ SgR w11 (.slice a4 (StV G).length c4) (StV G) ∧ SgR w11 (.slice a9 (StV G).length c9) (StV G) ∧ Below w.heap.size w w11) := ⟨H10.out.1.kept b11, H10.out.2.2.1.kept b11, H10.out.2.2.2.1.kept b11, H10.out.2.2.2.2.2.1.kept b11, andThen H10.out.2.2.2.2.2.2 b11⟩
      clear b11 x0 x1 y0 y1 H10
      have x0 := H11.out.1.cell 0 _ rfl
      have x1 := H11.out.1.cell 1 _ rfl
      have y0 := H11.out.2.1.cell 0 _ rfl
      have y1 := H11.out.2.1.cell 1 _ rfl
      go_wp2_with fail
      refine (HSA.out _ _ _ H11.out.2.2.2.1 H11.out.2.2.1).mono ?_
      rintro e w12 ⟨rfl, b12⟩
      have HB12 : Hid (Below w.heap.size w w12) := andThen H11.out.2.2.2.2 b12
      clear b12 x0 x1 y0 y1
      go_wp2_with fail
      go_ret
      exact ⟨rfl, HB12.out⟩
end Go.Proofs.YtdnackjakfiffaaGreatDoor
