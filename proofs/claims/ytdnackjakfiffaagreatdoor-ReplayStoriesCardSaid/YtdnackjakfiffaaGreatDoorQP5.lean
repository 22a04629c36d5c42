import Derived.Test.YtdnackjakfiffaaGreatDoorQP4
import Derived.Test.YtdnackjakfiffaaGreatDoorQK2
/-
  Replay: the laws' cut, of, legal.
-/
namespace Go.Proofs.YtdnackjakfiffaaGreatDoor
open Go Go.RowKit Go.ChangeShapes
open Wb

theorem wpList_buildR {x : Nums} {nm : ByteArray} {d : Value} {G : List Value} (hG : G = rcE x nm d) {ops : Array Oper} {rest : List Oper} {op : Oper} {a : Act} {w : World} {Q : Exit → Act → World → Prop} (hgd : op.guard = none) (t : Nat) (ho : op.op = .buildSlice 22 1 #[(0, .tmp t)]) (ht : a.tmps[t]?.getD undef = .agg G.toArray)
    (h : wpList Tryz.prog ops Q rest (a.put op.dst (.slice (some ⟨w.heap.size, 0, none⟩) 1 1)) (w.alloc (.cells G.toArray 32))) : wpList Tryz.prog ops Q (op :: rest) a w := by
  subst hG
  refine wpList_plain hgd fun K hK => ?_
  obtain ⟨dst, op', ty, pos, after, guard⟩ := op
  simp only at ho hgd
  subst ho hgd
  have hK2 := hK _ _ h
  clear hK h
  unfold rcE at hK2 ht
  go_simp
  exact hK2
theorem Outs.recs {B : Nat} {w : World} {v : Value} {ps : List (Rec × Value)} (h : Outs B w v ps) : RecsAt w v (ps.map Prod.fst) := by
  obtain ⟨ao, cap, rfl, hm, hg, hc⟩ := h.shape
  have hn : ps.length ≤ maxLen := by
    rcases h.1.2 with ⟨_, h1⟩ | ⟨g, cap', cur, e, _, _, h1, h2, _⟩
    · rw [h1]; simp
    · exact Nat.le_trans h1 h2
  refine ⟨ao, cap, by rw [List.length_map], by rw [List.length_map]; exact hn, fun k r hr => ?_⟩
  rw [List.getElem?_map] at hr
  obtain ⟨p, hp, rfl⟩ := Option.map_eq_some_iff.1 hr
  obtain ⟨hk, rfl⟩ := List.getElem?_eq_some_iff.1 hp
  obtain ⟨g, rfl⟩ := hg k hk
  exact ⟨g, 0, (ps[k]).2, rfl, by rw [Nat.zero_add]; exact hc g rfl k hk, (h.2 _ (List.getElem_mem hk)).1⟩
/-- records in a row, with the row's room -/
def RcR (w : World) (v : Value) (rs : List Rec) : Prop := RecsAt w v rs ∧ ∀ ao, ∀ n c : Nat, v = .slice ao n c → n ≤ c ∧ c ≤ maxLen ∧ (ao = none → c = 0)
theorem RcR.kept {w w' : World} {v : Value} {rs : List Rec} (h : RcR w v rs) (hb : Below w.heap.size w w') : RcR w' v rs := ⟨h.1.kept hb, h.2⟩
theorem Outs.rcr {B : Nat} {w : World} {v : Value} {ps : List (Rec × Value)} (h : Outs B w v ps) : RcR w v (ps.map Prod.fst) := by
  refine ⟨h.recs, fun ao n c e => ?_⟩
  rcases h.1.2 with ⟨e1, h1⟩ | ⟨g, cap', cur, e1, _, _, h1, h2, _⟩
  · rw [e] at e1
    simp only [Value.slice.injEq] at e1
    obtain ⟨_, rfl, rfl⟩ := e1
    exact ⟨Nat.le_refl _, Nat.zero_le _, fun _ => rfl⟩
  · rw [e] at e1
    simp only [Value.slice.injEq] at e1
    obtain ⟨rfl, rfl, rfl⟩ := e1
    exact ⟨h1, h2, fun e => by cases e⟩
theorem RcR.take {w : World} {ao : Option Addr} {n cap : Nat} {rs : List Rec} (h : RcR w (.slice ao n cap) rs) (m : Nat) (hm : m ≤ rs.length) : RcR w (.slice ao m cap) (rs.take m) := by
  obtain ⟨⟨ao', cap', e, hx, hc⟩, h2⟩ := h
  simp only [Value.slice.injEq] at e
  obtain ⟨rfl, rfl, rfl⟩ := e
  obtain ⟨h3, h4, h5⟩ := h2 ao rs.length cap rfl
  refine ⟨⟨ao, cap, by rw [List.length_take, Nat.min_eq_left hm], by rw [List.length_take]; omega, fun k r hr => ?_⟩, fun ao2 n2 c2 e => ?_⟩
  · rw [List.getElem?_take] at hr
    split at hr
    · exact hc k r hr
    · cases hr
  · simp only [Value.slice.injEq] at e
    obtain ⟨rfl, rfl, rfl⟩ := e
    exact ⟨by omega, h4, h5⟩
theorem outs_ext {B : Nat} {w w' : World} {v : Value} {ps : List (Rec × Value)} (h : Outs B w v ps) (hb : Below w.heap.size w w') : Outs B w' v ps := h.kept hb
/-- the data of a record at most n bytes long -/
def cutD (n : Nat) (r : Rec) : Rec := ⟨r.x, r.nm, r.l.take n⟩
theorem bs_take {w : World} {a : Option Addr} {c : Nat} {l : List Nat} (h : Bs w (.slice a l.length c) l) (n : Nat) (hn : n ≤ l.length) : Bs w (.slice a n c) (l.take n) := by
  obtain ⟨ao, cap, e, h1, h2, h3, h4⟩ := h.shape
  simp only [Value.slice.injEq, true_and] at e
  obtain ⟨rfl, rfl⟩ := e
  refine ⟨⟨a, c, by rw [List.length_take, Nat.min_eq_left hn], by rw [List.length_take]; omega, h2, h3, fun hne => ?_⟩, fun x hx => h.good x (List.mem_of_mem_take hx)⟩
  obtain ⟨b, off, rfl, hc⟩ := h4 (fun e => hne (by rw [e, List.take_nil]))
  refine ⟨b, off, rfl, fun j hj => ?_⟩
  have hj2 : j < l.length := by rw [List.length_take] at hj; omega
  rw [hc j hj2, List.getElem_take]
set_option maxRecDepth 100000 in
set_option maxHeartbeats 8000000 in
theorem ryof_any (v : Value) (rs : List Rec) (id : Int) (ot : Bool) (w : World) (h : RecsAt w v rs) (hl : rs.length ≤ 1000000) :
    Calls Tryz.prog 14 #[v, .int .i64 id, .bool ot] w fun e w' => ∃ v', e = .returned v' ∧ RcR w' v' (rs.filter fun r => (r.x.s == id) != ot) ∧ Below w.heap.size w w' := by
  have HRS : Hid (∀ W, Below w.heap.size w W → RecsAt W v rs) := fun W hW => h.kept hW
  obtain ⟨ao, cap, rfl, hm, hcr0⟩ := h
  have HRA : Hid (∀ k r, rs[k]? = some r → ∃ b off d, ao = some ⟨b, off, none⟩ ∧ w.rangeAt b (off + k * 12) (rcl (r, d)) ∧ Bs w d r.l) := hcr0
  clear hcr0
  unfold maxLen at hm
  have hin := infoR12
  go_enter Tryz.func14, Tryz.ntmps14
  go_wp2_with fail
  go_loopw [7, 8] (fun o i wr => ∃ k : Nat, ∃ ps, k ≤ rs.length ∧ i = .int .i64 (k : Int) ∧ Outs w.heap.size wr o ps ∧ ps.map Prod.fst = (rs.take k).filter (fun r => (r.x.s == id) != ot) ∧ Below w.heap.size w wr) (fun _ i _ => rs.length - (mInt i).toNat)
  case atStart => exact ⟨0, [], Nat.zero_le _, rfl, Outs.nil _ _, rfl, Below.refl _ _⟩
  case round =>
    obtain ⟨k, ps, hk, rfl, ho, hmp, hb⟩ := hrel
    have HI : Hid (Outs w.heap.size wr u7 ps ∧ ps.map Prod.fst = (rs.take k).filter (fun r => (r.x.s == id) != ot) ∧ Below w.heap.size w wr) := ⟨ho, hmp, hb⟩
    have hpl : ps.length ≤ k := by
      have e := congrArg List.length hmp
      rw [List.length_map] at e
      have e2 := List.length_filter_le (fun r : Rec => (r.x.s == id) != ot) (rs.take k)
      rw [List.length_take] at e2
      omega
    clear ho hmp hb
    by_cases hlt : k < rs.length
    · obtain ⟨b, off, d, rfl, hcr, hd⟩ := HRA.out k rs[k] (List.getElem?_eq_getElem hlt)
      have hTK : rs.take (k + 1) = rs.take k ++ [rs[k]] := by rw [List.take_succ_eq_append_getElem hlt]
      obtain ⟨r, hr⟩ : ∃ r, rs[k] = r := ⟨_, rfl⟩
      rw [hr] at hcr hd hTK
      have HOF : Hid (∀ g, w.heap.size ≤ g → Off g d r.l) := fun g hg => off_of hd g hg
      have HD : Hid (Bs wr d r.l) := hd.kept HI.out.2.2
      have HTK : Hid (rs.take (k + 1) = rs.take k ++ [r]) := hTK
      obtain ⟨G, hGr, hGL, hGE⟩ := rv_letter r.x r.nm d
      have HGE : Hid (G = rcE r.x r.nm d) := hGE
      have HGL : Hid _ := hGL
      have hone : d.oneCell' = true := by obtain ⟨ao9, c9, e9, _⟩ := hd.shape; rw [e9]; rfl
      have HONE : Hid (d.oneCell' = true) := hone
      have HCR : Hid (wr.rangeAt b (off + k * 12) G) := fun j u hj => by
        rw [hGE] at hj
        exact (HI.out.2.2.cell (p := ⟨b, off + k * 12 + j, none⟩) (World.block_lt_of_cell? _ _ (hcr j u hj))).trans (hcr j u hj)
      have q2 := HCR.out 2 (.int .i64 r.x.s) (by rw [hGE]; rfl)
      rw [show off + k * 12 + 2 = off + (k * 12 + 2) by omega] at q2
      have q3 := q2
      rw [show off + (k * 12 + 2) = off + k * 12 + 2 by omega] at q3
      clear hcr hd hTK hr hGr hGL hGE hone HRA HRS
      obtain ⟨A, hA⟩ : ∃ A, (r.x.s == id) = A := ⟨_, rfl⟩
      have HA : Hid ((r.x.s == id) = A) := hA
      cases hAo : (A == ot) with
      | true =>
        have HE : Hid ((rs.take (k + 1)).filter (fun r => (r.x.s == id) != ot) = (rs.take k).filter (fun r => (r.x.s == id) != ot)) := by
          show _ = _
          rw [HTK.out, List.filter_append]
          simp [HA.out, bne, hAo]
        go_wp2_with fail
        go_roundw
        case rel => exact ⟨k + 1, ps, by omega, by go_num, HI.out.1, by rw [HE.out]; exact HI.out.2.1, HI.out.2.2⟩
        case measure => simp [mInt]; omega
      | false =>
        have HE : Hid ((rs.take (k + 1)).filter (fun r => (r.x.s == id) != ot) = (rs.take k).filter (fun r => (r.x.s == id) != ot) ++ [r]) := by
          show _ = _
          rw [HTK.out, List.filter_append]
          simp [HA.out, bne, hAo]
        have L7 : Hid (LB (wr.alloc (.cells G.toArray 32)) wr.heap.size 32 G ∧ Below wr.heap.size wr (wr.alloc (.cells G.toArray 32))) := ⟨lb_new _ _ _, up0 _ _⟩
        go_wp2_with (first
          | (refine wpList_load_mid rfl 32 _ rfl b (off + k * 12) rfl G _ HCR.out Tryz.underlying32 rfl HGL.out ?_)
          | (refine wpList_buildR HGE.out rfl 28 rfl rfl ?_)
          | (at_builtin; refine wpList_append_rec _ rfl (.tmp 24) (.tmp 29) 22 rfl w.heap.size hin Tryz.underlying22 _ ps (r, d) rfl (HI.out.1.kept L7.out.2) _ rfl (by have e := L7.out.1.range; rw [HGE.out] at e ⊢; exact e) HONE.out (HD.out.kept L7.out.2) (fun g hg => HOF.out g ((World.ownsRow.lt HI.out.1.1 g hg).1)) (by omega) (Nat.le_trans HI.out.2.2.size L7.out.2.size) ?_))
        intro v2 w2 hr2 hb2 _
        have R2 : Hid (Outs w.heap.size w2 v2 (ps ++ [(r, d)]) ∧ Below w.heap.size w w2) := ⟨hr2, (andThen HI.out.2.2 L7.out.2).trans hb2⟩
        clear hr2 hb2
        go_wp2_with fail
        go_roundw
        case rel => exact ⟨k + 1, ps ++ [(r, d)], by omega, by go_num, R2.out.1, by rw [HE.out, List.map_append, HI.out.2.1]; rfl, R2.out.2⟩
        case measure => simp [mInt]; omega
    · obtain rfl : k = rs.length := by omega
      clear HRA HRS
      go_wp2_with fail
      go_ret
      have e := HI.out.1.rcr
      rw [HI.out.2.1, List.take_length] at e
      exact ⟨_, rfl, e, HI.out.2.2⟩
end Go.Proofs.YtdnackjakfiffaaGreatDoor

/-
  Replay: the laws' cut, legal.
-/
namespace Go.Proofs.YtdnackjakfiffaaGreatDoor
open Go Go.RowKit Go.ChangeShapes
open Wb

theorem cutD_of {n : Nat} {r : Rec} (h : r.l.length ≤ n) : cutD n r = r := by
  unfold cutD
  rw [List.take_of_length_le h]
set_option maxRecDepth 100000 in
set_option maxHeartbeats 8000000 in
theorem rycut_any (v : Value) (rs : List Rec) (w : World) (h : RecsAt w v rs) (hcap : ∀ ao, ∀ n c : Nat, v = .slice ao n c → n ≤ c ∧ c ≤ maxLen) (hll : ∀ r ∈ rs, r.l.length ≤ 140737488355000) :
    Calls Tryz.prog 8 #[v, .int .i64 16385] w fun e w' => ∃ v', e = .returned v' ∧ RcR w' v' ((rs.take 160).map (cutD 16385)) ∧ Below w.heap.size w w' := by
  obtain ⟨cs, hcs⟩ : ∃ cs, cs = rs.take 160 := ⟨_, rfl⟩
  rw [← hcs]
  have HLL : Hid (∀ r ∈ cs, r.l.length ≤ 140737488355000) := fun r hr => hll r (by rw [hcs] at hr; exact List.mem_of_mem_take hr)
  obtain ⟨Z, hZ⟩ : ∃ Z, Z = zrl := ⟨_, rfl⟩
  have HZ : Hid (Z = zrl) := hZ
  have HZL : Hid (Z.length = 12) := by show _ = _; rw [hZ]; rfl
  obtain ⟨ao, cap, rfl, hm, hc⟩ := h
  obtain ⟨hc1, hc2⟩ := hcap ao _ cap rfl
  unfold maxLen at hm hc2
  have HRA : Hid (∀ k r, cs[k]? = some r → ∃ b off d, ao = some ⟨b, off, none⟩ ∧ w.rangeAt b (off + k * 12) (rcl (r, d)) ∧ Bs w d r.l) := fun k r hr => by
    rw [hcs, List.getElem?_take] at hr
    split at hr
    · exact hc k r hr
    · cases hr
  have hin := infoR12
  clear hZ hc hcap hll
  by_cases k1 : 160 < rs.length
  · have HCL : Hid (cs.length = 160) := by show _ = _; rw [hcs, List.length_take]; omega
    have HN : Hid (160 ≤ 160) := Nat.le_refl _
    have hk1 : ((160 : Int) < (rs.length : Int)) = True := by simp; omega
    have hk2 : ((160 : Int) ≤ (cap : Int)) = True := by simp; omega
    clear hcs
    go_enter Tryz.func8, Tryz.ntmps8
    go_wp2_with fail
    go_loopw [5, 6] (fun o i wr => ∃ k : Nat, ∃ ps, k ≤ 160 ∧ i = .int .i64 (k : Int) ∧ Outs w.heap.size wr o ps ∧ ps.map Prod.fst = (cs.take k).map (cutD 16385) ∧ Below w.heap.size w wr) (fun _ i _ => 160 - (mInt i).toNat)
    case atStart => exact ⟨0, [], Nat.zero_le _, rfl, Outs.nil _ _, rfl, Below.refl _ _⟩
    case round =>
      obtain ⟨k, ps, hk, rfl, ho, hmp, hb⟩ := hrel
      have HI : Hid (Outs w.heap.size wr u5 ps ∧ ps.map Prod.fst = (cs.take k).map (cutD 16385) ∧ Below w.heap.size w wr) := ⟨ho, hmp, hb⟩
      have hpl : ps.length ≤ k := by
        have e := congrArg List.length hmp
        rw [List.length_map, List.length_map, List.length_take] at e
        omega
      clear ho hmp hb
      have hN9 := HN.out
      by_cases hlt : k < 160
      · have hlt2 : k < cs.length := by rw [HCL.out]; exact hlt
        obtain ⟨b, off, d, rfl, hcr, hd⟩ := HRA.out k cs[k] (List.getElem?_eq_getElem hlt2)
        have hTK : cs.take (k + 1) = cs.take k ++ [cs[k]] := by rw [List.take_succ_eq_append_getElem hlt2]
        obtain ⟨r, hr⟩ : ∃ r, cs[k] = r := ⟨_, rfl⟩
        have HBL : Hid (r.l.length ≤ 140737488355000) := by show _ ≤ _; rw [← hr]; exact HLL.out _ (List.getElem_mem hlt2)
        rw [hr] at hcr hd hTK
        have HTK : Hid (cs.take (k + 1) = cs.take k ++ [r]) := hTK
        obtain ⟨G, hGr, hGL, hGE⟩ := rv_letter r.x r.nm d
        have HGL : Hid _ := hGL
        have HCR : Hid (wr.rangeAt b (off + k * 12) G) := fun j u hj => by
          rw [hGE] at hj
          exact (HI.out.2.2.cell (p := ⟨b, off + k * 12 + j, none⟩) (World.block_lt_of_cell? _ _ (hcr j u hj))).trans (hcr j u hj)
        have HCLN : Hid (Calls Tryz.prog 20 #[.agg G.toArray] wr fun e w' => ∃ d', e = .returned (rv r.x r.nm d') ∧ Own wr.heap.size w' d' r.l ∧ Below wr.heap.size wr w') := by
          have e := refclone_any r.x r.nm d r.l wr (hd.kept HI.out.2.2) HBL.out
          rw [hGr] at e
          exact e
        clear hcr hd hTK hr hGr hGL hGE HRA
        go_wp2_with (first | (refine wpList_load_mid rfl 32 _ rfl b (off + k * 12) rfl G _ HCR.out Tryz.underlying32 rfl HGL.out ?_) | fail)
        refine HCLN.out.mono ?_
        rintro e w1 ⟨d1, rfl, o1, b1⟩
        obtain ⟨a1, c1, rfl, _⟩ := o1.bs.shape
        have H1 : Hid (Own wr.heap.size w1 (.slice a1 r.l.length c1) r.l ∧ Below wr.heap.size wr w1) := ⟨o1, b1⟩
        clear o1 b1 HCLN HCR HGL
        obtain ⟨G1, hG1, hGL1, hGE1⟩ := rv_letter r.x r.nm (.slice a1 r.l.length c1)
        rw [hG1]
        have HGL1 : Hid _ := hGL1
        have HGE1 : Hid (G1 = rcE r.x r.nm (.slice a1 r.l.length c1)) := hGE1
        have HG11 : Hid (∀ v ∈ G1, v.oneCell' = true) := by show ∀ v ∈ G1, _; rw [hGE1]; exact rcE_one _ _ _ rfl
        have HGZ : Hid (G1.length = Z.length) := by show _ = _; rw [hGE1, HZL.out]; rfl
        clear hG1 hGL1 hGE1
        have HTH : Hid ((w1.alloc (.cells Z.toArray 32)).there w1.heap.size 0 G1.toArray.size) := there_of (lb_new w1 Z 32) (by simpa using HGZ.out)
        have HOFF : Hid (∀ g, w1.heap.size ≤ g → Off g (.slice a1 r.l.length c1) r.l) := fun g hg => off_of H1.out.1.bs g hg
        have H3 : Hid (∃ W3, W3 = (w1.alloc (.cells Z.toArray 32)).setCells w1.heap.size 0 G1 ∧ LB W3 w1.heap.size 32 G1 ∧ Outs w.heap.size W3 u5 ps ∧ Bs W3 (.slice a1 r.l.length c1) r.l ∧ Below wr.heap.size wr W3) := by
          have e1 : Below wr.heap.size wr ((w1.alloc (.cells Z.toArray 32)).setCells w1.heap.size 0 G1) := below_cells H1.out.2.size _ 0 _ (andThen H1.out.2 (up0 _ _))
          exact ⟨_, rfl, (lb_new w1 Z 32).sets G1 HGZ.out, HI.out.1.kept e1, bs_off (H1.out.1.bs.alloc _) _ _ _ (HOFF.out _ (Nat.le_refl _)), e1⟩
        have HOFR : Hid (∀ g, u5.ownBlock = some g → Off g (.slice a1 r.l.length c1) r.l) := fun g hg => by
          have h1 := (World.ownsRow.lt HI.out.1.1 g hg).2
          intro hne b9 o9 n9 c9 e9
          have h2 := (own_block H1.out.1 b9 (by rw [e9]; rfl)).1
          omega
        have H4 : Hid (∀ W3, LB W3 w1.heap.size 32 G1 → W3.cell? ⟨w1.heap.size, 11, none⟩ = some (.slice a1 r.l.length c1)) := fun W3 L => L.cell 11 _ (by rw [HGE1.out]; rfl)
        by_cases hbig : 16385 < r.l.length
        · have hcap : r.l.length ≤ c1 ∧ c1 ≤ 9223372036854775807 := by
            obtain ⟨ao9, c9, e9, _, h2, h3, _⟩ := H1.out.1.bs.shape
            simp only [Value.slice.injEq, true_and] at e9
            unfold maxLen at h2
            omega
          have d9 : ((16385 : Int) < (r.l.length : Int)) = True := by simp; omega
          have hcp9 : ((16385 : Int) ≤ (c1 : Int)) = True := by simp; omega
          obtain ⟨G5, hG5⟩ : ∃ G5, G5 = rcE r.x r.nm (.slice a1 16385 c1) := ⟨_, rfl⟩
          have HGE5 : Hid (G5 = rcE r.x r.nm (.slice a1 16385 c1)) := hG5
          have HGL5 : Hid ((Tryz.prog.info? 32).map (·.size) = some G5.length) := by show _ = _; rw [hG5]; exact HGL1.out.trans (by simp [HGE1.out, rcE])
          clear hG5
          have HL5 : Hid (∀ W3, LB W3 w1.heap.size 32 G1 → Outs w.heap.size W3 u5 ps → Bs W3 (.slice a1 r.l.length c1) r.l → Below wr.heap.size wr W3 → LB (W3.setCell ⟨w1.heap.size, 11, none⟩ (.slice a1 16385 c1)) w1.heap.size 32 G5 ∧ Outs w.heap.size (W3.setCell ⟨w1.heap.size, 11, none⟩ (.slice a1 16385 c1)) u5 ps ∧ Bs (W3.setCell ⟨w1.heap.size, 11, none⟩ (.slice a1 16385 c1)) (.slice a1 16385 c1) (cutD 16385 r).l ∧ Below wr.heap.size wr (W3.setCell ⟨w1.heap.size, 11, none⟩ (.slice a1 16385 c1))) := fun W3 L O B3 E => by
            have e1 := L.set 11 (.slice a1 16385 c1)
            rw [HGE1.out] at e1
            have e2 : Below wr.heap.size wr (W3.setCell ⟨w1.heap.size, 11, none⟩ (.slice a1 16385 c1)) := Below.setCell E H1.out.2.size _
            exact ⟨by rw [HGE5.out]; exact e1, HI.out.1.kept e2, bs_take (bs_off B3 w1.heap.size 11 [.slice a1 16385 c1] (HOFF.out _ (Nat.le_refl _))) 16385 (by omega), e2⟩
          have HOF5 : Hid (∀ g, u5.ownBlock = some g → Off g (.slice a1 16385 c1) (cutD 16385 r).l) := fun g hg hne b9 o9 n9 c9 e9 => by
            simp only [Value.slice.injEq] at e9
            obtain ⟨rfl, -, -⟩ := e9
            have h1 := (World.ownsRow.lt HI.out.1.1 g hg).2
            have h2 := (own_block H1.out.1 b9 rfl).1
            omega
          go_wp2_with (first
            | (refine wpList_alloc_R HZ.out rfl rfl ?_)
            | (refine wpList_store_mid rfl 32 (.tmp 7) (.tmp 23) rfl w1.heap.size 0 G1.toArray rfl rfl HTH.out (by simpa using HGL1.out) (all_oneCell_toArray HG11.out) ?_; (obtain ⟨W3, hW3, hq⟩ := H3.out); (have H6 : Hid _ := hq); (rw [List.toList_toArray, ← hW3]); (clear hW3 hq H3 HTH); (have x11 := H4.out W3 H6.out.1); (have f11 := H6.out.1.free 11))
            | (refine wpList_load_mid rfl 32 (.tmp 7) rfl w1.heap.size 0 rfl G5 _ (HL5.out W3 H6.out.1 H6.out.2.1 H6.out.2.2.1 H6.out.2.2.2).1.range Tryz.underlying32 rfl HGL5.out ?_; (obtain ⟨W5, hW5⟩ : ∃ W, W = W3.setCell ⟨w1.heap.size, 11, none⟩ (.slice a1 16385 c1) := ⟨_, rfl⟩); (have H5 : Hid (LB W5 w1.heap.size 32 G5 ∧ Outs w.heap.size W5 u5 ps ∧ Bs W5 (.slice a1 16385 c1) (cutD 16385 r).l ∧ Below wr.heap.size wr W5) := by rw [hW5]; exact HL5.out W3 H6.out.1 H6.out.2.1 H6.out.2.2.1 H6.out.2.2.2); (rw [← hW5]); (clear x11 f11 hW5))
            | (refine wpList_buildR HGE5.out rfl 35 rfl rfl ?_)
            | (at_builtin; refine wpList_append_rec _ rfl (.tmp 34) (.tmp 36) 22 rfl w.heap.size hin Tryz.underlying22 _ ps (cutD 16385 r, .slice a1 16385 c1) rfl (H5.out.2.1.kept (up0 _ _)) _ rfl (by have e := (lb_new W5 G5 32).range; rw [HGE5.out] at e ⊢; exact e) rfl (H5.out.2.2.1.alloc _) HOF5.out (by omega) (Nat.le_trans HI.out.2.2.size (Nat.le_trans H5.out.2.2.2.size (up0 W5 _).size)) ?_))
          intro v2 w2 hr2 hb2 _
          have R2 : Hid (Outs w.heap.size w2 v2 (ps ++ [(cutD 16385 r, .slice a1 16385 c1)]) ∧ Below w.heap.size w w2) := ⟨hr2, (andThen (andThen HI.out.2.2 H5.out.2.2.2) (up0 W5 _)).trans hb2⟩
          clear hr2 hb2
          go_wp2_with fail
          go_roundw
          case rel => exact ⟨k + 1, ps ++ [(cutD 16385 r, .slice a1 16385 c1)], by omega, by go_num, R2.out.1, by rw [HTK.out, List.map_append, List.map_append, HI.out.2.1]; rfl, R2.out.2⟩
          case measure => simp [mInt]; omega
        · have d9 : ((16385 : Int) < (r.l.length : Int)) = False := by simp; omega
          obtain ⟨G5, hG5⟩ : ∃ G5, G5 = rcE r.x r.nm (.slice a1 r.l.length c1) := ⟨_, rfl⟩
          have HGE5 : Hid (G5 = rcE r.x r.nm (.slice a1 r.l.length c1)) := hG5
          have HGL5 : Hid ((Tryz.prog.info? 32).map (·.size) = some G5.length) := by show _ = _; rw [hG5]; exact HGL1.out.trans (by simp [HGE1.out, rcE])
          clear hG5
          have HOF5 : Hid (∀ g, u5.ownBlock = some g → Off g (.slice a1 r.l.length c1) (cutD 16385 r).l) := fun g hg hne b9 o9 n9 c9 e9 => by
            simp only [Value.slice.injEq] at e9
            obtain ⟨rfl, -, -⟩ := e9
            have h1 := (World.ownsRow.lt HI.out.1.1 g hg).2
            have h2 := (own_block H1.out.1 b9 rfl).1
            omega
          go_wp2_with (first
            | (refine wpList_alloc_R HZ.out rfl rfl ?_)
            | (refine wpList_store_mid rfl 32 (.tmp 7) (.tmp 23) rfl w1.heap.size 0 G1.toArray rfl rfl HTH.out (by simpa using HGL1.out) (all_oneCell_toArray HG11.out) ?_; (obtain ⟨W3, hW3, hq⟩ := H3.out); (have H6 : Hid _ := hq); (rw [List.toList_toArray, ← hW3]); (clear hW3 hq H3 HTH); (have x11 := H4.out W3 H6.out.1); (have f11 := H6.out.1.free 11))
            | (refine wpList_load_mid rfl 32 (.tmp 7) rfl w1.heap.size 0 rfl G5 _ (show LB W3 w1.heap.size 32 G5 from by rw [HGE5.out, ← HGE1.out]; exact H6.out.1).range Tryz.underlying32 rfl HGL5.out ?_; (obtain ⟨W5, hW5⟩ : ∃ W, W = W3 := ⟨_, rfl⟩); (have H5 : Hid (LB W5 w1.heap.size 32 G5 ∧ Outs w.heap.size W5 u5 ps ∧ Bs W5 (.slice a1 r.l.length c1) (cutD 16385 r).l ∧ Below wr.heap.size wr W5) := by rw [hW5]; exact ⟨(by rw [HGE5.out, ← HGE1.out]; exact H6.out.1), H6.out.2.1, (by rw [cutD_of (show r.l.length ≤ 16385 by omega)]; exact H6.out.2.2.1), H6.out.2.2.2⟩); (rw [← hW5]); (clear x11 f11 hW5))
            | (refine wpList_buildR HGE5.out rfl 35 rfl rfl ?_)
            | (at_builtin; refine wpList_append_rec _ rfl (.tmp 34) (.tmp 36) 22 rfl w.heap.size hin Tryz.underlying22 _ ps (cutD 16385 r, .slice a1 r.l.length c1) rfl (H5.out.2.1.kept (up0 _ _)) _ rfl (by have e := (lb_new W5 G5 32).range; rw [HGE5.out] at e ⊢; exact e) rfl (H5.out.2.2.1.alloc _) HOF5.out (by omega) (Nat.le_trans HI.out.2.2.size (Nat.le_trans H5.out.2.2.2.size (up0 W5 _).size)) ?_))
          intro v2 w2 hr2 hb2 _
          have R2 : Hid (Outs w.heap.size w2 v2 (ps ++ [(cutD 16385 r, .slice a1 r.l.length c1)]) ∧ Below w.heap.size w w2) := ⟨hr2, (andThen (andThen HI.out.2.2 H5.out.2.2.2) (up0 W5 _)).trans hb2⟩
          clear hr2 hb2
          go_wp2_with fail
          go_roundw
          case rel => exact ⟨k + 1, ps ++ [(cutD 16385 r, .slice a1 r.l.length c1)], by omega, by go_num, R2.out.1, by rw [HTK.out, List.map_append, List.map_append, HI.out.2.1]; rfl, R2.out.2⟩
          case measure => simp [mInt]; omega
      · obtain rfl : k = 160 := by omega
        clear HRA
        go_wp2_with fail
        go_ret
        have e := HI.out.1.rcr
        rw [HI.out.2.1, List.take_of_length_le (by rw [HCL.out]; exact Nat.le_refl _)] at e
        exact ⟨_, rfl, e, HI.out.2.2⟩

  · have HCL : Hid (cs.length = rs.length) := by show _ = _; rw [hcs, List.length_take]; omega
    have HN : Hid (rs.length ≤ 160) := by show _ ≤ _; omega
    have hk1 : ((160 : Int) < (rs.length : Int)) = False := by simp; omega
    clear hcs
    go_enter Tryz.func8, Tryz.ntmps8
    go_wp2_with fail
    go_loopw [5, 6] (fun o i wr => ∃ k : Nat, ∃ ps, k ≤ rs.length ∧ i = .int .i64 (k : Int) ∧ Outs w.heap.size wr o ps ∧ ps.map Prod.fst = (cs.take k).map (cutD 16385) ∧ Below w.heap.size w wr) (fun _ i _ => rs.length - (mInt i).toNat)
    case atStart => exact ⟨0, [], Nat.zero_le _, rfl, Outs.nil _ _, rfl, Below.refl _ _⟩
    case round =>
      obtain ⟨k, ps, hk, rfl, ho, hmp, hb⟩ := hrel
      have HI : Hid (Outs w.heap.size wr u5 ps ∧ ps.map Prod.fst = (cs.take k).map (cutD 16385) ∧ Below w.heap.size w wr) := ⟨ho, hmp, hb⟩
      have hpl : ps.length ≤ k := by
        have e := congrArg List.length hmp
        rw [List.length_map, List.length_map, List.length_take] at e
        omega
      clear ho hmp hb
      have hN9 := HN.out
      by_cases hlt : k < rs.length
      · have hlt2 : k < cs.length := by rw [HCL.out]; exact hlt
        obtain ⟨b, off, d, rfl, hcr, hd⟩ := HRA.out k cs[k] (List.getElem?_eq_getElem hlt2)
        have hTK : cs.take (k + 1) = cs.take k ++ [cs[k]] := by rw [List.take_succ_eq_append_getElem hlt2]
        obtain ⟨r, hr⟩ : ∃ r, cs[k] = r := ⟨_, rfl⟩
        have HBL : Hid (r.l.length ≤ 140737488355000) := by show _ ≤ _; rw [← hr]; exact HLL.out _ (List.getElem_mem hlt2)
        rw [hr] at hcr hd hTK
        have HTK : Hid (cs.take (k + 1) = cs.take k ++ [r]) := hTK
        obtain ⟨G, hGr, hGL, hGE⟩ := rv_letter r.x r.nm d
        have HGL : Hid _ := hGL
        have HCR : Hid (wr.rangeAt b (off + k * 12) G) := fun j u hj => by
          rw [hGE] at hj
          exact (HI.out.2.2.cell (p := ⟨b, off + k * 12 + j, none⟩) (World.block_lt_of_cell? _ _ (hcr j u hj))).trans (hcr j u hj)
        have HCLN : Hid (Calls Tryz.prog 20 #[.agg G.toArray] wr fun e w' => ∃ d', e = .returned (rv r.x r.nm d') ∧ Own wr.heap.size w' d' r.l ∧ Below wr.heap.size wr w') := by
          have e := refclone_any r.x r.nm d r.l wr (hd.kept HI.out.2.2) HBL.out
          rw [hGr] at e
          exact e
        clear hcr hd hTK hr hGr hGL hGE HRA
        go_wp2_with (first | (refine wpList_load_mid rfl 32 _ rfl b (off + k * 12) rfl G _ HCR.out Tryz.underlying32 rfl HGL.out ?_) | fail)
        refine HCLN.out.mono ?_
        rintro e w1 ⟨d1, rfl, o1, b1⟩
        obtain ⟨a1, c1, rfl, _⟩ := o1.bs.shape
        have H1 : Hid (Own wr.heap.size w1 (.slice a1 r.l.length c1) r.l ∧ Below wr.heap.size wr w1) := ⟨o1, b1⟩
        clear o1 b1 HCLN HCR HGL
        obtain ⟨G1, hG1, hGL1, hGE1⟩ := rv_letter r.x r.nm (.slice a1 r.l.length c1)
        rw [hG1]
        have HGL1 : Hid _ := hGL1
        have HGE1 : Hid (G1 = rcE r.x r.nm (.slice a1 r.l.length c1)) := hGE1
        have HG11 : Hid (∀ v ∈ G1, v.oneCell' = true) := by show ∀ v ∈ G1, _; rw [hGE1]; exact rcE_one _ _ _ rfl
        have HGZ : Hid (G1.length = Z.length) := by show _ = _; rw [hGE1, HZL.out]; rfl
        clear hG1 hGL1 hGE1
        have HTH : Hid ((w1.alloc (.cells Z.toArray 32)).there w1.heap.size 0 G1.toArray.size) := there_of (lb_new w1 Z 32) (by simpa using HGZ.out)
        have HOFF : Hid (∀ g, w1.heap.size ≤ g → Off g (.slice a1 r.l.length c1) r.l) := fun g hg => off_of H1.out.1.bs g hg
        have H3 : Hid (∃ W3, W3 = (w1.alloc (.cells Z.toArray 32)).setCells w1.heap.size 0 G1 ∧ LB W3 w1.heap.size 32 G1 ∧ Outs w.heap.size W3 u5 ps ∧ Bs W3 (.slice a1 r.l.length c1) r.l ∧ Below wr.heap.size wr W3) := by
          have e1 : Below wr.heap.size wr ((w1.alloc (.cells Z.toArray 32)).setCells w1.heap.size 0 G1) := below_cells H1.out.2.size _ 0 _ (andThen H1.out.2 (up0 _ _))
          exact ⟨_, rfl, (lb_new w1 Z 32).sets G1 HGZ.out, HI.out.1.kept e1, bs_off (H1.out.1.bs.alloc _) _ _ _ (HOFF.out _ (Nat.le_refl _)), e1⟩
        have HOFR : Hid (∀ g, u5.ownBlock = some g → Off g (.slice a1 r.l.length c1) r.l) := fun g hg => by
          have h1 := (World.ownsRow.lt HI.out.1.1 g hg).2
          intro hne b9 o9 n9 c9 e9
          have h2 := (own_block H1.out.1 b9 (by rw [e9]; rfl)).1
          omega
        have H4 : Hid (∀ W3, LB W3 w1.heap.size 32 G1 → W3.cell? ⟨w1.heap.size, 11, none⟩ = some (.slice a1 r.l.length c1)) := fun W3 L => L.cell 11 _ (by rw [HGE1.out]; rfl)
        by_cases hbig : 16385 < r.l.length
        · have hcap : r.l.length ≤ c1 ∧ c1 ≤ 9223372036854775807 := by
            obtain ⟨ao9, c9, e9, _, h2, h3, _⟩ := H1.out.1.bs.shape
            simp only [Value.slice.injEq, true_and] at e9
            unfold maxLen at h2
            omega
          have d9 : ((16385 : Int) < (r.l.length : Int)) = True := by simp; omega
          have hcp9 : ((16385 : Int) ≤ (c1 : Int)) = True := by simp; omega
          obtain ⟨G5, hG5⟩ : ∃ G5, G5 = rcE r.x r.nm (.slice a1 16385 c1) := ⟨_, rfl⟩
          have HGE5 : Hid (G5 = rcE r.x r.nm (.slice a1 16385 c1)) := hG5
          have HGL5 : Hid ((Tryz.prog.info? 32).map (·.size) = some G5.length) := by show _ = _; rw [hG5]; exact HGL1.out.trans (by simp [HGE1.out, rcE])
          clear hG5
          have HL5 : Hid (∀ W3, LB W3 w1.heap.size 32 G1 → Outs w.heap.size W3 u5 ps → Bs W3 (.slice a1 r.l.length c1) r.l → Below wr.heap.size wr W3 → LB (W3.setCell ⟨w1.heap.size, 11, none⟩ (.slice a1 16385 c1)) w1.heap.size 32 G5 ∧ Outs w.heap.size (W3.setCell ⟨w1.heap.size, 11, none⟩ (.slice a1 16385 c1)) u5 ps ∧ Bs (W3.setCell ⟨w1.heap.size, 11, none⟩ (.slice a1 16385 c1)) (.slice a1 16385 c1) (cutD 16385 r).l ∧ Below wr.heap.size wr (W3.setCell ⟨w1.heap.size, 11, none⟩ (.slice a1 16385 c1))) := fun W3 L O B3 E => by
            have e1 := L.set 11 (.slice a1 16385 c1)
            rw [HGE1.out] at e1
            have e2 : Below wr.heap.size wr (W3.setCell ⟨w1.heap.size, 11, none⟩ (.slice a1 16385 c1)) := Below.setCell E H1.out.2.size _
            exact ⟨by rw [HGE5.out]; exact e1, HI.out.1.kept e2, bs_take (bs_off B3 w1.heap.size 11 [.slice a1 16385 c1] (HOFF.out _ (Nat.le_refl _))) 16385 (by omega), e2⟩
          have HOF5 : Hid (∀ g, u5.ownBlock = some g → Off g (.slice a1 16385 c1) (cutD 16385 r).l) := fun g hg hne b9 o9 n9 c9 e9 => by
            simp only [Value.slice.injEq] at e9
            obtain ⟨rfl, -, -⟩ := e9
            have h1 := (World.ownsRow.lt HI.out.1.1 g hg).2
            have h2 := (own_block H1.out.1 b9 rfl).1
            omega
          go_wp2_with (first
            | (refine wpList_alloc_R HZ.out rfl rfl ?_)
            | (refine wpList_store_mid rfl 32 (.tmp 7) (.tmp 23) rfl w1.heap.size 0 G1.toArray rfl rfl HTH.out (by simpa using HGL1.out) (all_oneCell_toArray HG11.out) ?_; (obtain ⟨W3, hW3, hq⟩ := H3.out); (have H6 : Hid _ := hq); (rw [List.toList_toArray, ← hW3]); (clear hW3 hq H3 HTH); (have x11 := H4.out W3 H6.out.1); (have f11 := H6.out.1.free 11))
            | (refine wpList_load_mid rfl 32 (.tmp 7) rfl w1.heap.size 0 rfl G5 _ (HL5.out W3 H6.out.1 H6.out.2.1 H6.out.2.2.1 H6.out.2.2.2).1.range Tryz.underlying32 rfl HGL5.out ?_; (obtain ⟨W5, hW5⟩ : ∃ W, W = W3.setCell ⟨w1.heap.size, 11, none⟩ (.slice a1 16385 c1) := ⟨_, rfl⟩); (have H5 : Hid (LB W5 w1.heap.size 32 G5 ∧ Outs w.heap.size W5 u5 ps ∧ Bs W5 (.slice a1 16385 c1) (cutD 16385 r).l ∧ Below wr.heap.size wr W5) := by rw [hW5]; exact HL5.out W3 H6.out.1 H6.out.2.1 H6.out.2.2.1 H6.out.2.2.2); (rw [← hW5]); (clear x11 f11 hW5))
            | (refine wpList_buildR HGE5.out rfl 35 rfl rfl ?_)
            | (at_builtin; refine wpList_append_rec _ rfl (.tmp 34) (.tmp 36) 22 rfl w.heap.size hin Tryz.underlying22 _ ps (cutD 16385 r, .slice a1 16385 c1) rfl (H5.out.2.1.kept (up0 _ _)) _ rfl (by have e := (lb_new W5 G5 32).range; rw [HGE5.out] at e ⊢; exact e) rfl (H5.out.2.2.1.alloc _) HOF5.out (by omega) (Nat.le_trans HI.out.2.2.size (Nat.le_trans H5.out.2.2.2.size (up0 W5 _).size)) ?_))
          intro v2 w2 hr2 hb2 _
          have R2 : Hid (Outs w.heap.size w2 v2 (ps ++ [(cutD 16385 r, .slice a1 16385 c1)]) ∧ Below w.heap.size w w2) := ⟨hr2, (andThen (andThen HI.out.2.2 H5.out.2.2.2) (up0 W5 _)).trans hb2⟩
          clear hr2 hb2
          go_wp2_with fail
          go_roundw
          case rel => exact ⟨k + 1, ps ++ [(cutD 16385 r, .slice a1 16385 c1)], by omega, by go_num, R2.out.1, by rw [HTK.out, List.map_append, List.map_append, HI.out.2.1]; rfl, R2.out.2⟩
          case measure => simp [mInt]; omega
        · have d9 : ((16385 : Int) < (r.l.length : Int)) = False := by simp; omega
          obtain ⟨G5, hG5⟩ : ∃ G5, G5 = rcE r.x r.nm (.slice a1 r.l.length c1) := ⟨_, rfl⟩
          have HGE5 : Hid (G5 = rcE r.x r.nm (.slice a1 r.l.length c1)) := hG5
          have HGL5 : Hid ((Tryz.prog.info? 32).map (·.size) = some G5.length) := by show _ = _; rw [hG5]; exact HGL1.out.trans (by simp [HGE1.out, rcE])
          clear hG5
          have HOF5 : Hid (∀ g, u5.ownBlock = some g → Off g (.slice a1 r.l.length c1) (cutD 16385 r).l) := fun g hg hne b9 o9 n9 c9 e9 => by
            simp only [Value.slice.injEq] at e9
            obtain ⟨rfl, -, -⟩ := e9
            have h1 := (World.ownsRow.lt HI.out.1.1 g hg).2
            have h2 := (own_block H1.out.1 b9 rfl).1
            omega
          go_wp2_with (first
            | (refine wpList_alloc_R HZ.out rfl rfl ?_)
            | (refine wpList_store_mid rfl 32 (.tmp 7) (.tmp 23) rfl w1.heap.size 0 G1.toArray rfl rfl HTH.out (by simpa using HGL1.out) (all_oneCell_toArray HG11.out) ?_; (obtain ⟨W3, hW3, hq⟩ := H3.out); (have H6 : Hid _ := hq); (rw [List.toList_toArray, ← hW3]); (clear hW3 hq H3 HTH); (have x11 := H4.out W3 H6.out.1); (have f11 := H6.out.1.free 11))
            | (refine wpList_load_mid rfl 32 (.tmp 7) rfl w1.heap.size 0 rfl G5 _ (show LB W3 w1.heap.size 32 G5 from by rw [HGE5.out, ← HGE1.out]; exact H6.out.1).range Tryz.underlying32 rfl HGL5.out ?_; (obtain ⟨W5, hW5⟩ : ∃ W, W = W3 := ⟨_, rfl⟩); (have H5 : Hid (LB W5 w1.heap.size 32 G5 ∧ Outs w.heap.size W5 u5 ps ∧ Bs W5 (.slice a1 r.l.length c1) (cutD 16385 r).l ∧ Below wr.heap.size wr W5) := by rw [hW5]; exact ⟨(by rw [HGE5.out, ← HGE1.out]; exact H6.out.1), H6.out.2.1, (by rw [cutD_of (show r.l.length ≤ 16385 by omega)]; exact H6.out.2.2.1), H6.out.2.2.2⟩); (rw [← hW5]); (clear x11 f11 hW5))
            | (refine wpList_buildR HGE5.out rfl 35 rfl rfl ?_)
            | (at_builtin; refine wpList_append_rec _ rfl (.tmp 34) (.tmp 36) 22 rfl w.heap.size hin Tryz.underlying22 _ ps (cutD 16385 r, .slice a1 r.l.length c1) rfl (H5.out.2.1.kept (up0 _ _)) _ rfl (by have e := (lb_new W5 G5 32).range; rw [HGE5.out] at e ⊢; exact e) rfl (H5.out.2.2.1.alloc _) HOF5.out (by omega) (Nat.le_trans HI.out.2.2.size (Nat.le_trans H5.out.2.2.2.size (up0 W5 _).size)) ?_))
          intro v2 w2 hr2 hb2 _
          have R2 : Hid (Outs w.heap.size w2 v2 (ps ++ [(cutD 16385 r, .slice a1 r.l.length c1)]) ∧ Below w.heap.size w w2) := ⟨hr2, (andThen (andThen HI.out.2.2 H5.out.2.2.2) (up0 W5 _)).trans hb2⟩
          clear hr2 hb2
          go_wp2_with fail
          go_roundw
          case rel => exact ⟨k + 1, ps ++ [(cutD 16385 r, .slice a1 r.l.length c1)], by omega, by go_num, R2.out.1, by rw [HTK.out, List.map_append, List.map_append, HI.out.2.1]; rfl, R2.out.2⟩
          case measure => simp [mInt]; omega
      · obtain rfl : k = rs.length := by omega
        clear HRA
        go_wp2_with fail
        go_ret
        have e := HI.out.1.rcr
        rw [HI.out.2.1, List.take_of_length_le (by rw [HCL.out]; exact Nat.le_refl _)] at e
        exact ⟨_, rfl, e, HI.out.2.2⟩

end Go.Proofs.YtdnackjakfiffaaGreatDoor
