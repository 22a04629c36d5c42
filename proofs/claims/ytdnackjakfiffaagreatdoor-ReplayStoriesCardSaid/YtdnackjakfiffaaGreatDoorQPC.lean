import Derived.Laws.AppendOwnNone
import Derived.Test.YtdnackjakfiffaaGreatDoorQPB
/-
  Replay: records behind one another in another order, each saga's keeping theirs.
-/
namespace Go.Proofs.YtdnackjakfiffaaGreatDoor
open Go Go.RowKit Go.ChangeShapes
open Wb

theorem rcy_choose {w : World} {v : Value} {qs : List Rec} (h : RcY w v qs) : ∃ ps : List (Rec × Value), ps.map Prod.fst = qs ∧ (∀ p ∈ ps, BsT w p.2 p.1.l) ∧ ∃ ao, ∃ cap : Nat, v = .slice ao qs.length cap ∧ qs.length ≤ cap ∧ cap ≤ maxLen ∧ (ao = none → cap = 0) ∧ ∀ k (hk : k < ps.length), ∃ b off, ao = some ⟨b, off, none⟩ ∧ w.rangeAt b (off + k * 12) (rcl ps[k]) := by
  obtain ⟨ao, cap, rfl, hn, hm, h0, _, hc⟩ := h
  have H : ∀ k : Fin qs.length, ∃ d, ∃ b off, ao = some ⟨b, off, none⟩ ∧ w.rangeAt b (off + k.1 * 12) (rcl (qs[k.1], d)) ∧ BsT w d qs[k.1].l := fun k => by
    obtain ⟨b, off, d, h1, h2, h3⟩ := hc k.1 qs[k.1] (List.getElem?_eq_getElem k.2)
    exact ⟨d, b, off, h1, h2, h3⟩
  refine ⟨List.ofFn fun k : Fin qs.length => (qs[k.1], Classical.choose (H k)), ?_, ?_, ao, cap, rfl, hn, hm, h0, ?_⟩
  · refine List.ext_getElem (by simp) fun k h1 h2 => ?_
    simp
  · intro p hp
    obtain ⟨k, hk, rfl⟩ := List.getElem_of_mem hp
    rw [List.getElem_ofFn]
    obtain ⟨b, off, _, _, h3⟩ := Classical.choose_spec (H ⟨k, by simpa using hk⟩)
    exact h3
  · intro k hk
    obtain ⟨b, off, h1, h2, _⟩ := Classical.choose_spec (H ⟨k, by simpa using hk⟩)
    refine ⟨b, off, h1, ?_⟩
    rw [List.getElem_ofFn]
    exact h2
/-- append(v, x...) of records, an operation of a region -/
theorem step_append_rrs {ops : Array Oper} {o : Oper} {a : Act} {w : World} {K : Act → World → Prop} {Q : Exit → Act → World → Prop} {E : Prop} (hgd : o.guard = none) (s x : Operand)
    (ho : o.op = .call { callee := .builtin .append, args := #[s, x], argTypes := #[22, 22] })
    (B : Nat) (v v2 : Value) (ps : List (Rec × Value)) (qs : List Rec) (hv : a.eval s = v) (hx : a.eval x = v2) (h : Rr B w v ps) (h2 : RcY w v2 qs)
    (hmax : (ps.length + qs.length) * 120 ≤ 140737488355328) (hB : B ≤ w.heap.size)
    (hK : ∀ v' w' ps', Rr B w' v' ps' → ps'.map Prod.fst = ps.map Prod.fst ++ qs → Below B w w' → K (a.put o.dst v') w') :
    if Region.wanted o (yielded ops a.tmps) = true then Oper.wp Tryz.prog o a w K Q else E := by
  have hw : Region.wanted o (yielded ops a.tmps) = true := by simp [Region.wanted, hgd]
  rw [if_pos hw]
  obtain ⟨i0, hi, hz0, hz1, hz2⟩ := Lft.info_parts3 infoR12
  obtain ⟨qs', hq1, hq2, ao, cap, rfl, hqn, hqm, hcap0, hq3⟩ := rcy_choose h2
  have hql : qs'.length = qs.length := by rw [← hq1, List.length_map]
  cases ao with
  | none =>
    have hq0 : qs' = [] := by
      cases qs' with
      | nil => rfl
      | cons p r =>
        obtain ⟨b, off, e, _⟩ := hq3 0 (by simp)
        cases e
    subst hq0
    obtain rfl : qs = [] := by rw [← hq1]; rfl
    have hx0 : a.eval x = .slice none 0 0 := by
      rw [hx, hcap0 rfl]
      rfl
    have hrun := run_append_owned_none (P := Tryz.prog) (w := w) B 22 o.type 32 i0 12 Tryz.underlying22 hi v ps.length (ps.flatMap rcl) h.1
    unfold Oper.wp
    simp [execOp, ho, resolve, invoke, builtin, hv, hx0, hrun, Result.andThen]
    exact hK v w ps h (by rw [List.append_nil]) (Below.refl _ _)
  | some a2 =>
    obtain ⟨v', w', hrun, h3, h4, _⟩ := run_append_own (P := Tryz.prog) w B 22 o.type 32 i0 _ 12 120 Tryz.underlying22 hi hz0 hz1 hz2 rfl (by decide) v ps.length (ps.flatMap rcl) h.1 a2 qs.length cap (qs'.flatMap rcl) (by rw [rcls_len, hql]) (by
      intro j u hj
      have hjl := (List.getElem?_eq_some_iff.1 hj).1
      rw [rcls_len] at hjl
      have hk : j / 12 < qs'.length := by omega
      have hj2 : j = j / 12 * 12 + j % 12 := by omega
      obtain ⟨b, off, e, hr⟩ := hq3 (j / 12) hk
      obtain rfl := Option.some.inj e
      rw [hj2, rcls_get qs' (j / 12) hk (j % 12) (by omega)] at hj
      have h9 := hr (j % 12) u hj
      rw [Addr.add_mid, show off + j = off + j / 12 * 12 + j % 12 by omega]
      exact h9) (by
      intro u hu
      obtain ⟨q, hq, hu⟩ := List.mem_flatMap.1 hu
      have hqo : q.2.oneCell' = true := by
        obtain ⟨ao, cp, e, _⟩ := (hq2 q hq).1.shape
        rw [e]; rfl
      simp only [rcl, List.mem_cons, List.not_mem_nil, or_false] at hu
      rcases hu with rfl | rfl | rfl | rfl | rfl | rfl | rfl | rfl | rfl | rfl | rfl | rfl
      all_goals first | rfl | exact hqo) (by unfold maxLen; omega) (by omega) hB
    unfold Oper.wp
    simp [execOp, ho, resolve, invoke, builtin, hv, hx, hrun, Result.andThen]
    have hk : KTB w w' := KTB.grown h4 fun b e cs ty z e2 => by
      obtain ⟨cs', z', h9⟩ := rrow_typed h.1 b e
      rw [h9] at e2
      simp at e2
      obtain ⟨-, rfl, -⟩ := e2
      decide
    refine hK v' w' (ps ++ qs') ⟨by rw [List.length_append, List.flatMap_append, hql]; exact h3, fun p hp => ?_⟩ (by rw [List.map_append, hq1]) ((Below.refl B w).grown h4 hB (fun k hk => (World.ownsRow.lt h.1 k hk).1))
    rcases List.mem_append.1 hp with hp | hp
    · exact (h.2 p hp).keep hk
    · exact (hq2 p hp).keep hk
theorem RcY.drop {w : World} {b off n cap : Nat} {rs : List Rec} (h : RcY w (.slice (some ⟨b, off, none⟩) n cap) rs) (m : Nat) (hm : m ≤ rs.length) : RcY w (.slice (some ⟨b, off + m * 12, none⟩) (n - m) (cap - m)) (rs.drop m) := by
  obtain ⟨ao', cap', e, h1, h2, h3, h4, h5⟩ := h
  simp only [Value.slice.injEq] at e
  obtain ⟨rfl, rfl, rfl⟩ := e
  refine ⟨_, cap - m, by rw [List.length_drop], by rw [List.length_drop]; omega, Nat.le_trans (Nat.sub_le _ _) h2, (fun e => by cases e), (fun b2 off2 e => by
    simp only [Option.some.injEq, Addr.mk.injEq] at e
    obtain ⟨rfl, -⟩ := e
    exact h4 b off rfl), fun k r hr => ?_⟩
  rw [List.getElem?_drop] at hr
  obtain ⟨b2, off2, d, e, h6, h7⟩ := h5 (m + k) r hr
  simp only [Option.some.injEq, Addr.mk.injEq, and_true] at e
  obtain ⟨rfl, rfl⟩ := e
  refine ⟨_, _, d, rfl, ?_, h7⟩
  rw [show off + m * 12 + k * 12 = off + (m + k) * 12 by omega]
  exact h6
theorem own_of (k : Int) (ls : List Rec) (j : Nat) (r : Rec) (hr : ls[j]? = some r) (hb : ∀ q ∈ ls.take j, q.x.s ≠ r.x.s) : Rp.own k [r] ++ Rp.own k (ls.take j ++ ls.drop (j + 1)) = Rp.own k ls := by
  obtain ⟨hj, rfl⟩ := List.getElem?_eq_some_iff.1 hr
  have e : ls = ls.take j ++ (ls[j] :: ls.drop (j + 1)) := by rw [← List.drop_eq_getElem_cons hj, List.take_append_drop]
  have e2 : Rp.own k ls = Rp.own k (ls.take j) ++ Rp.own k ([ls[j]] ++ ls.drop (j + 1)) := by rw [← Rp.own_app]; exact congrArg _ e
  rw [e2, Rp.own_app, Rp.own_app]
  by_cases hk : ls[j].x.s = k
  · have e3 : Rp.own k (ls.take j) = [] := by
      unfold Rp.own
      rw [List.filter_eq_nil_iff]
      intro q hq
      have := hb q hq
      rw [hk] at this
      simpa using this
    rw [e3]
    rfl
  · have e3 : Rp.own k [ls[j]] = [] := by
      rw [Rp.own_cons, if_neg hk]
      rfl
    rw [e3]
    rfl
/-- a list of numbers, to be read -/
def Ns (w : World) (v : Value) (zs : List Int) : Prop := ∃ a, ∃ c : Nat, v = .slice a zs.length c ∧ zs.length ≤ maxLen ∧ ∀ j z, zs[j]? = some z → ∃ b off, a = some ⟨b, off, none⟩ ∧ w.cell? ⟨b, off + j, none⟩ = some (.int .i64 z)
theorem Ns.kept {w w' : World} {v : Value} {zs : List Int} (h : Ns w v zs) (hb : Below w.heap.size w w') : Ns w' v zs := by
  obtain ⟨a, c, rfl, hm, hc⟩ := h
  refine ⟨a, c, rfl, hm, fun j z hz => ?_⟩
  obtain ⟨b, off, rfl, h1⟩ := hc j z hz
  exact ⟨b, off, rfl, (hb.cell (World.block_lt_of_cell? _ _ h1)).trans h1⟩
theorem place_in (x : Int) (L : Nat) (hL : 0 < L) : ∃ (z : Int) (j : Nat), bits .and .i64 x 1099511627775 = z ∧ 0 ≤ z ∧ z ≤ 1099511627775 ∧ j < L ∧ z.tmod (L : Int) = (j : Int) := by
  have e : bits .and .i64 x 1099511627775 = IntKind.i64.wrap ((BitVec.ofInt 64 x &&& BitVec.ofInt 64 1099511627775).toNat : Int) := rfl
  have h : (BitVec.ofInt 64 x &&& BitVec.ofInt 64 1099511627775).toNat ≤ 1099511627775 := by
    rw [BitVec.toNat_and]
    exact Nat.le_trans Nat.and_le_right (by decide)
  rw [IntWalk.i64_in _ (by omega)] at e
  refine ⟨_, (BitVec.ofInt 64 x &&& BitVec.ofInt 64 1099511627775).toNat % L, e, by omega, by omega, Nat.mod_lt _ hL, ?_⟩
  rw [Int.tmod_eq_emod_of_nonneg (by omega)]
  omega
end Go.Proofs.YtdnackjakfiffaaGreatDoor

/-
  Replay: the laws' mingled.
-/
namespace Go.Proofs.YtdnackjakfiffaaGreatDoor
open Go Go.RowKit Go.ChangeShapes
open Wb

def lenV : Value → Nat | .slice _ n _ => n | _ => 0
/-- what mingled's loop holds -/
def MgI (w : World) (rs ls : List Rec) (po : List (Rec × Value)) (l o : Value) (wr : World) : Prop :=
  RcY wr l ls ∧ Rr w.heap.size wr o po ∧ (∀ g, l.ownBlock = some g → o.ownBlock ≠ some g) ∧ po.length + ls.length = rs.length ∧ (∀ k, Rp.own k (po.map Prod.fst) ++ Rp.own k ls = Rp.own k rs) ∧ Below w.heap.size w wr
theorem rcy_from {w : World} {b off n cap : Nat} {rs : List Rec} (h : RcY w (.slice (some ⟨b, off, none⟩) n cap) rs) (m : Nat) (hm : m ≤ rs.length) : RcY w (sliced (some ⟨b, off, none⟩) m n cap 12) (rs.drop m) := by
  have h9 := h
  obtain ⟨ao', cap', e, h1, h2, -⟩ := h9
  simp only [Value.slice.injEq] at e
  obtain ⟨-, rfl, rfl⟩ := e
  unfold sliced
  by_cases hc : cap = m
  · rw [if_pos hc]
    have e0 : rs.drop m = [] := by rw [List.drop_eq_nil_iff]; omega
    have e1 := h.take 0 (Nat.zero_le _)
    rw [e0]
    obtain ⟨ao2, c2, e2, q1, q2, q3, q4, q5⟩ := e1
    simp only [Value.slice.injEq] at e2
    obtain ⟨rfl, -, rfl⟩ := e2
    refine ⟨_, cap - m, by rw [show rs.length - m = 0 by omega]; rfl, Nat.zero_le _, by omega, (fun e => by cases e), q4, fun k r hr => by simp at hr⟩
  · rw [if_neg hc]
    have := h.drop m hm
    by_cases hm0 : m = 0
    · subst hm0
      simpa [Addr.add] using this
    · have e : (some (⟨b, off, none⟩ : Addr)).map (·.add (m * 12)) = some ⟨b, off + m * 12, none⟩ := by
        show some (Addr.add _ _) = _
        rw [Addr.add_mid]
      rw [e]
      exact this
set_option maxRecDepth 100000 in
set_option maxHeartbeats 8000000 in
theorem rymingled_any (v zv : Value) (rs : List Rec) (zs : List Int) (w : World) (h : RcY w v rs) (hz : Ns w zv zs) (hl : rs.length ≤ 1000000) :
    Calls Tryz.prog 18 #[v, zv] w fun e w' => ∃ v' ms, e = .returned v' ∧ RcY w' v' ms ∧ ms.length = rs.length ∧ (∀ k, Rp.own k ms = Rp.own k rs) ∧ Below w.heap.size w w' := by
  have HZ : Hid (∀ W, Below w.heap.size w W → Ns W zv zs) := fun W hW => hz.kept hW
  obtain ⟨az, cz, rfl, hzm, -⟩ := hz
  unfold maxLen at hzm
  have H0 : Hid (RcY w v rs) := h
  clear h
  have hin := infoR12
  go_enter Tryz.func18, Tryz.ntmps18
  go_wp2_with fail
  go_loopw [0, 5, 6] (fun l o i wr => ∃ ls po, i = .int .i64 (po.length : Int) ∧ MgI w rs ls po l o wr) (fun l _ _ _ => lenV l)
  case atStart => exact ⟨rs, [], rfl, H0.out, Rr.nil _ _, (fun g e e2 => by cases e2), by simp, fun k => rfl, Below.refl _ _⟩
  case round =>
    obtain ⟨ls, po, rfl, q1, q2, q3, q4, q5, q6⟩ := hrel
    obtain ⟨W0, hW0⟩ : ∃ W, W = wr := ⟨_, rfl⟩
    subst hW0
    have HI : Hid (MgI w rs ls po u0 u5 W0) := ⟨q1, q2, q3, q4, q5, q6⟩
    have hpl : po.length + ls.length ≤ 1000000 := by omega
    obtain ⟨ao, cap, rfl, hn1, hn2, -, -, hcr0⟩ := q1
    have hlc : ls.length ≤ maxLen := Nat.le_trans hn1 hn2
    unfold maxLen at hlc hn2
    have HRA : Hid (∀ k r, ls[k]? = some r → ∃ b off d, ao = some ⟨b, off, none⟩ ∧ W0.rangeAt b (off + k * 12) (rcl (r, d)) ∧ BsT W0 d r.l) := hcr0
    clear q2 q3 q4 q5 q6 hcr0
    by_cases hpos : 0 < ls.length
    · have dpos : ((0 : Int) < (ls.length : Int)) = True := by simp; omega
      go_upto_if 17 with fail
      go_cut [7] from 18 to 25 (fun s wx => ∃ i0 : Nat, i0 < ls.length ∧ s = .int .i64 (i0 : Int) ∧ W0 = wx)
      case first =>
        by_cases hz : po.length < zs.length
        · have dz : ((po.length : Int) < (zs.length : Int)) = True := by simp; omega
          have HN := HZ.out W0 HI.out.2.2.2.2.2
          obtain ⟨a9, c9, e9, -, hc9⟩ := HN
          simp only [Value.slice.injEq, true_and] at e9
          obtain ⟨rfl, rfl⟩ := e9
          obtain ⟨bz, oz, rfl, cz0⟩ := hc9 po.length zs[po.length] (List.getElem?_eq_getElem hz)
          generalize zs[po.length] = x at cz0
          obtain ⟨z, j, hz0, hz1, hz2, hj, hzj⟩ := place_in x ls.length hpos
          have hL0 : (ls.length : Int) ≠ 0 := by omega
          clear hc9
          go_wp2_with fail
          go_meet
          exact ⟨j, hj, rfl, rfl⟩
        · have dz : ((po.length : Int) < (zs.length : Int)) = False := by simp; omega
          go_wp2_with fail
          go_meet
          exact ⟨0, hpos, rfl, rfl⟩
      case rest =>
        obtain ⟨i0, hi0, rfl, rfl⟩ := hcut
        obtain ⟨b, off, d0, rfl, hcr, -⟩ := HRA.out i0 ls[i0] (List.getElem?_eq_getElem hi0)
        have HIB : Hid (∀ j r, ls[j]? = some r → ∃ d, W0.rangeAt b (off + j * 12) (rcl (r, d)) ∧ BsT W0 d r.l) := fun j r hj => by
          obtain ⟨b2, off2, d, e, h6, h7⟩ := HRA.out j r hj
          simp only [Option.some.injEq, Addr.mk.injEq, and_true] at e
          obtain ⟨rfl, rfl⟩ := e
          exact ⟨d, h6, h7⟩
        have q2 := hcr 2 (.int .i64 ls[i0].x.s) rfl
        rw [show off + i0 * 12 + 2 = off + (i0 * 12 + 2) by omega] at q2
        have q3 := q2
        rw [show off + (i0 * 12 + 2) = off + i0 * 12 + 2 by omega] at q3
        have HID : Hid (∃ r, ls[i0]? = some r ∧ r.x.s = ls[i0].x.s) := ⟨_, List.getElem?_eq_getElem hi0, rfl⟩
        generalize ls[i0].x.s = id at q2 q3 HID
        clear hcr HRA dpos
        go_upto_region 9 with fail
        clear q2 q3
        go_wp2_with fail
        go_loopw [7] (fun i wx => ∃ j : Nat, i = .int .i64 (j : Int) ∧ j ≤ i0 ∧ (∀ q ∈ ls.take j, q.x.s ≠ id) ∧ W0 = wx) (fun i _ => i0 - (mInt i).toNat)
        case atStart => exact ⟨0, rfl, Nat.zero_le _, by simp, rfl⟩
        case round =>
          obtain ⟨j, rfl, hj, hbe, rfl⟩ := hrel
          have HBE : Hid (∀ q ∈ ls.take j, q.x.s ≠ id) := hbe
          clear hbe
          have hjl : j < ls.length := by omega
          obtain ⟨d, hcr, hd⟩ := HIB.out j ls[j] (List.getElem?_eq_getElem hjl)
          have HR : Hid (ls[j]? = some ls[j]) := List.getElem?_eq_getElem hjl
          have HTJ : Hid (ls.take (j + 1) = ls.take j ++ [ls[j]]) := by show _ = _; rw [List.take_succ_eq_append_getElem hjl]
          generalize ls[j] = r at hcr hd HR HTJ
          have q2 := hcr 2 (.int .i64 r.x.s) rfl
          rw [show off + j * 12 + 2 = off + (j * 12 + 2) by omega] at q2
          have q3 := q2
          rw [show off + (j * 12 + 2) = off + j * 12 + 2 by omega] at q3
          have HRD : Hid (W0.rangeAt b (off + j * 12) (rcl (r, d)) ∧ BsT W0 d r.l) := ⟨hcr, hd⟩
          clear hcr hd
          by_cases hs : r.x.s = id
          · have ds : (r.x.s == id) = true := by simp [hs]
            obtain ⟨G, hGr, hGL, hGE⟩ := rv_letter r.x r.nm d
            have HGE : Hid (G = rcE r.x r.nm d) := hGE
            have HGL : Hid _ := hGL
            have hone : d.oneCell' = true := by obtain ⟨ao9, c9, e9, _⟩ := HRD.out.2.1.shape; rw [e9]; rfl
            have HONE : Hid (d.oneCell' = true) := hone
            have HCR : Hid (W0.rangeAt b (off + j * 12) G) := by
              show World.rangeAt _ _ _ _
              rw [hGE]
              exact HRD.out.1
            have HOW : Hid (∀ k, Rp.own k [r] ++ Rp.own k (ls.take j ++ ls.drop (j + 1)) = Rp.own k ls) := fun k => own_of k ls j r HR.out (fun q hq => by rw [hs]; exact HBE.out q hq)
            clear hGr hGL hGE hone HIB HID HTJ hs hj hi0
            have L7 : Hid (LB (W0.alloc (.cells G.toArray 32)) W0.heap.size 32 G ∧ Below W0.heap.size W0 (W0.alloc (.cells G.toArray 32))) := ⟨lb_new _ _ _, up0 _ _⟩
            go_wp2_with (first
              | (refine wpList_load_mid rfl 32 _ rfl b (off + j * 12) rfl G _ HCR.out Tryz.underlying32 rfl HGL.out ?_)
              | (refine wpList_buildR HGE.out rfl 44 rfl rfl ?_)
              | (at_builtin; refine wpList_append_rr _ rfl (.tmp 40) (.tmp 45) 22 rfl w.heap.size hin Tryz.underlying22 _ po (r, d) rfl (HI.out.2.1.kept L7.out.2) _ rfl (by have e := L7.out.1.range; rw [HGE.out] at e ⊢; exact e) HONE.out (HRD.out.2.kept L7.out.2) (by omega) (Nat.le_trans HI.out.2.2.2.2.2.size L7.out.2.size) ?_))
            intro v2 w2 hr2 hb2 hg2 hl2 hk2
            have H2 : Hid (Rr w.heap.size w2 v2 (po ++ [(r, d)]) ∧ RcY w2 (.slice (some ⟨b, off, none⟩) ls.length cap) ls ∧ Below w.heap.size w w2) := by
              refine ⟨hr2, (HI.out.1.kept L7.out.2).keep (fun g cs z e1 e2 => hg2.block g (Array.getElem?_eq_some_iff.1 e2).1 fun e3 => HI.out.2.2.1 g e1 e3.symm) hk2, (andThen HI.out.2.2.2.2.2 L7.out.2).trans hb2⟩
            clear hr2 hb2 hg2 hl2 hk2 q2 q3 ds
            go_upto_region 13 with fail
            refine wp_region_held_drew (S := fun _ : World => True) (by kernel_rfl) trivial (fun hH => ?_)
            obtain ⟨WV, hWV⟩ : ∃ x, x = w2.drew := ⟨_, rfl⟩
            have HBV : Hid (Below w2.heap.size w2 WV) := by rw [hWV]; exact Below.drew (Below.refl _ _)
            rw [← hWV]
            clear hWV hH
            have H3 : Hid (Rr w.heap.size WV v2 (po ++ [(r, d)]) ∧ RcY WV (.slice (some ⟨b, off, none⟩) ls.length cap) ls ∧ Below w.heap.size w WV) := ⟨H2.out.1.kept HBV.out, H2.out.2.1.kept HBV.out, andThen H2.out.2.2 HBV.out⟩
            have kt : True := trivial
            have hs0 : (0 : Int) ≤ (j : Int) := by omega
            have hs1 : (j : Int) ≤ (cap : Int) := by omega
            have hs2 : (0 : Int) ≤ (j : Int) + 1 := by omega
            have hs3 : (j : Int) + 1 ≤ (ls.length : Int) := by omega
            have hw6 : IntKind.i64.wrap ((j : Int) + 1) = (j : Int) + 1 := IntWalk.i64_in _ (by omega)
            refine zqk 0 rfl kt ?_
            try simp only [Act.put, zq1, zq2, zq3, zq4, zq5]
            refine zqk 1 rfl kt ?_
            try simp only [Act.put, zq1, zq2, zq3, zq4, zq5, zq6]
            refine zqk (v := .slice (some ⟨b, off, none⟩) j cap) 2 rfl kt ?_
            try simp only [Act.put, zq1, zq2, zq3, zq4, zq5, zq6]
            refine zqk 4 rfl kt ?_
            try simp only [Act.put, zq1, zq2, zq3, zq4, zq5, zq6]
            refine zqk 5 rfl kt ?_
            try simp only [Act.put, zq1, zq2, zq3, zq4, zq5, zq6]
            refine zqk (v := .int .i64 (IntKind.i64.wrap ((j : Int) + 1))) 6 rfl kt ?_
            rw [hw6]
            try simp only [Act.put, zq1, zq2, zq3, zq4, zq5, zq6]
            refine zqk (v := sliced (some ⟨b, off, none⟩) (j + 1) ls.length cap 12) 7 rfl kt ?_
            try simp only [Act.put, zq1, zq2, zq3, zq4, zq5, zq6]
            refine zqr 3 rfl (fun K hK => ?_)
            refine step_append_rrs rfl (.const (.slice none 0 0)) (.tmp 49) rfl WV.heap.size (.slice none 0 0) (.slice (some ⟨b, off, none⟩) j cap) [] (ls.take j) rfl rfl (Rr.nil _ _) (by have := H3.out.2.1.take j (by omega); exact this) (by rw [List.length_take, List.length_nil]; omega) (Nat.le_refl _) (fun v4 w4 p4 h4 e4 b4 => ?_)
            have H4 : Hid (Rr WV.heap.size w4 v4 p4 ∧ p4.map Prod.fst = ls.take j ∧ Below WV.heap.size WV w4) := ⟨h4, e4, b4⟩
            refine hK.out _ _ trivial fun _ => ?_
            clear hK K h4 e4 b4
            try simp only [Act.put, zq1, zq2, zq3, zq4, zq5, zq6]
            refine zqr 8 rfl (fun K hK => ?_)
            refine step_append_rrs rfl (.tmp 50) (.tmp 54) rfl WV.heap.size v4 (sliced (some ⟨b, off, none⟩) (j + 1) ls.length cap 12) p4 (ls.drop (j + 1)) rfl rfl H4.out.1 (rcy_from (H3.out.2.1.kept H4.out.2.2) (j + 1) (by omega)) (by have e := congrArg List.length H4.out.2.1; rw [List.length_map, List.length_take] at e; rw [List.length_drop]; omega) H4.out.2.2.size (fun v5 w5 p5 h5 e5 b5 => ?_)
            have H5 : Hid (Rr WV.heap.size w5 v5 p5 ∧ p5.map Prod.fst = ls.take j ++ ls.drop (j + 1) ∧ Below WV.heap.size WV w5) := ⟨h5, by rw [e5, H4.out.2.1], H4.out.2.2.trans b5⟩
            refine hK.out _ _ trivial fun _ => ?_
            clear hK K h5 e5 b5
            try simp only [Act.put, zq1, zq2, zq3, zq4, zq5, zq6]
            refine zqk 9 rfl kt ?_
            try simp only [Act.put, zq1, zq2, zq4, zq5, zq6]
            refine wpAnyH_done (by kernel_rfl) ?_ _
            try simp only [Act.put, zq1, zq2, zq3, zq4, zq5, zq6]
            have HM : Hid (MgI w rs (ls.take j ++ ls.drop (j + 1)) (po ++ [(r, d)]) v5 v2 w5) := by
              have e5 := H5.out.1.rcy
              rw [H5.out.2.1] at e5
              refine ⟨e5, H3.out.1.kept H5.out.2.2, fun g e e2 => ?_, ?_, fun k => ?_, andThen H3.out.2.2 H5.out.2.2⟩
              · have h1 := (H5.out.1.lt g e).1
                have h2 := (H3.out.1.lt g e2).2
                omega
              · have := HI.out.2.2.2.1
                rw [List.length_append, List.length_append, List.length_take, List.length_drop, List.length_singleton]
                omega
              · rw [List.map_append, Rp.own_app, List.append_assoc]
                have := HOW.out k
                show _ ++ (Rp.own k [r] ++ _) = _
                rw [this]
                exact HI.out.2.2.2.2.1 k
            have HLV : Hid (lenV v5 < ls.length) := by
              obtain ⟨a9, c9, e9, -⟩ := HM.out.1
              rw [e9]
              show List.length _ < _
              rw [List.length_append, List.length_take, List.length_drop]
              omega
            clear kt hs0 hs1 hs2 hs3 hw6
            go_wp2_with fail
            go_roundw
            case rel => exact ⟨_, _, by rw [List.length_append, List.length_singleton]; go_num, HM.out⟩
            case measure => exact HLV.out
          · have ds : (r.x.s == id) = false := by simp [hs]
            have hlt : j < i0 := by
              rcases Nat.lt_or_ge j i0 with h | h
              · exact h
              · obtain rfl : j = i0 := by omega
                obtain ⟨r', e1, e2⟩ := HID.out
                rw [HR.out] at e1
                obtain rfl := Option.some.inj e1
                exact absurd e2 hs
            have HN : Hid (∀ q ∈ ls.take (j + 1), q.x.s ≠ id) := fun q hq => by
              rw [HTJ.out] at hq
              rcases List.mem_append.1 hq with hq | hq
              · exact HBE.out q hq
              · obtain rfl := List.mem_singleton.1 hq
                exact hs
            go_wp2_with fail
            go_roundw
            case rel => exact ⟨j + 1, by go_num, by omega, HN.out, trivial⟩
            case measure => simp [mInt]; omega
    · have dpos : ((0 : Int) < (ls.length : Int)) = False := by
        simp only [eq_iff_iff, iff_false]
        omega
      have e0 : ls.length = 0 := Nat.eq_zero_of_not_pos hpos
      obtain rfl : ls = [] := List.length_eq_zero_iff.1 e0
      go_wp2_with fail
      go_ret
      have e := HI.out.2.1.rcy
      refine ⟨_, _, rfl, e, ?_, fun k => ?_, HI.out.2.2.2.2.2⟩
      · have := HI.out.2.2.2.1
        simpa using this
      · have := HI.out.2.2.2.2.1 k
        simpa [Rp.own] using this
end Go.Proofs.YtdnackjakfiffaaGreatDoor
