import Derived.Test.YtdnackjakfiffaaGreatDoorQP8
/-
  Replay: records in a row of the call's own, their data anywhere in blocks of bytes.
-/
namespace Go.Proofs.YtdnackjakfiffaaGreatDoor
open Go Go.RowKit Go.ChangeShapes
open Wb

/-- bytes in a block of bytes -/
def BsT (w : World) (d : Value) (l : List Nat) : Prop := Bs w d l ∧ ∀ g, d.ownBlock = some g → ∃ cs z, w.heap[g]? = some (.cells cs 5 z)
/-- the blocks of bytes stay -/
def KTB (w w' : World) : Prop := ∀ (g : Nat) (cs : Array Value) (z : Nat × Nat), w.heap[g]? = some (.cells cs 5 z) → w'.heap[g]? = w.heap[g]?
theorem KTB.below {w w' : World} (h : Below w.heap.size w w') : KTB w w' := fun g _ _ e => h.block g (Array.getElem?_eq_some_iff.1 e).1
theorem KTB.grown {w w' : World} {row : Option Nat} (hg : w.grownBy w' row) (h : ∀ q, row = some q → ∀ cs t z, w.heap[q]? = some (.cells cs t z) → t ≠ 5) : KTB w w' := fun g cs z e => by
  by_cases hq : row = some g
  · exact absurd rfl (h g hq cs _ z e)
  · exact hg.block g (Array.getElem?_eq_some_iff.1 e).1 fun e2 => hq e2.symm
theorem BsT.keep {w w' : World} {d : Value} {l : List Nat} (h : BsT w d l) (hk : KTB w w') : BsT w' d l := by
  obtain ⟨hb, ht⟩ := h
  have hkeep : ∀ g, d.ownBlock = some g → w'.heap[g]? = w.heap[g]? := fun g e => by
    obtain ⟨cs, z, h1⟩ := ht g e
    exact hk g cs z h1
  refine ⟨?_, fun g e => by
    obtain ⟨cs, z, h1⟩ := ht g e
    exact ⟨cs, z, (hkeep g e).trans h1⟩⟩
  obtain ⟨ao, cap, rfl, h1, h2, h3, h4⟩ := hb.shape
  refine ⟨⟨ao, cap, rfl, h1, h2, h3, fun hne => ?_⟩, hb.good⟩
  obtain ⟨b, off, rfl, hc⟩ := h4 hne
  exact ⟨b, off, rfl, fun j hj => (World.cell?_of_block (w := w) (hkeep b rfl)).trans (hc j hj)⟩
theorem BsT.kept {w w' : World} {d : Value} {l : List Nat} (h : BsT w d l) (hb : Below w.heap.size w w') : BsT w' d l := h.keep (KTB.below hb)
theorem BsT.own {B : Nat} {w : World} {d : Value} {l : List Nat} (h : Own B w d l) : BsT w d l := ⟨h.bs, fun g e => own_typed h g e⟩
/-- records in a row of the call's own -/
def Rr (B : Nat) (w : World) (v : Value) (ps : List (Rec × Value)) : Prop := w.ownsRow B 32 12 v ps.length (ps.flatMap rcl) ∧ ∀ p ∈ ps, BsT w p.2 p.1.l
theorem Rr.nil (B : Nat) (w : World) : Rr B w (.slice none 0 0) [] := ⟨World.ownsRow_nil _ _ _ _, fun _ h => by cases h⟩
theorem Rr.kept {B : Nat} {w w' : World} {v : Value} {ps : List (Rec × Value)} (h : Rr B w v ps) (hb : Below w.heap.size w w') : Rr B w' v ps := ⟨ownsRec_kept h.1 hb, fun p hp => (h.2 p hp).kept hb⟩
theorem Rr.keep {B : Nat} {w w' : World} {v : Value} {ps : List (Rec × Value)} (h : Rr B w v ps) (hr : ∀ g, v.ownBlock = some g → w'.heap[g]? = w.heap[g]?) (hk : KTB w w') : Rr B w' v ps := ⟨rrow_kept2 h.1 hr, fun p hp => (h.2 p hp).keep hk⟩
theorem Rr.weak {B B2 : Nat} {w : World} {v : Value} {ps : List (Rec × Value)} (h : Rr B2 w v ps) (hB : B ≤ B2) : Rr B w v ps := by
  refine ⟨⟨h.1.1, ?_⟩, h.2⟩
  rcases h.1.2 with h1 | ⟨g, cap, cur, e, hb, rest⟩
  · exact .inl h1
  · exact .inr ⟨g, cap, cur, e, Nat.le_trans hB hb, rest⟩
/-- records to be read, with what their blocks are -/
def RcY (w : World) (v : Value) (rs : List Rec) : Prop := ∃ ao, ∃ cap : Nat, v = .slice ao rs.length cap ∧ rs.length ≤ cap ∧ cap ≤ maxLen ∧ (ao = none → cap = 0) ∧ (∀ b off, ao = some ⟨b, off, none⟩ → ∃ cs z, w.heap[b]? = some (.cells cs 32 z)) ∧ ∀ k r, rs[k]? = some r → ∃ b off d, ao = some ⟨b, off, none⟩ ∧ w.rangeAt b (off + k * 12) (rcl (r, d)) ∧ BsT w d r.l
theorem RcY.rcr {w : World} {v : Value} {rs : List Rec} (h : RcY w v rs) : RcR w v rs := by
  obtain ⟨ao, cap, rfl, h1, h2, h3, h4, h5⟩ := h
  refine ⟨⟨ao, cap, rfl, Nat.le_trans h1 h2, fun k r hr => ?_⟩, fun ao2 n c e => ?_⟩
  · obtain ⟨b, off, d, e, h6, h7⟩ := h5 k r hr
    exact ⟨b, off, d, e, h6, h7.1⟩
  · simp only [Value.slice.injEq] at e
    obtain ⟨rfl, rfl, rfl⟩ := e
    exact ⟨h1, h2, h3⟩
theorem RcY.keep {w w' : World} {v : Value} {rs : List Rec} (h : RcY w v rs) (hr : ∀ (g : Nat) (cs : Array Value) (z : Nat × Nat), v.ownBlock = some g → w.heap[g]? = some (.cells cs 32 z) → w'.heap[g]? = w.heap[g]?) (hk : KTB w w') : RcY w' v rs := by
  obtain ⟨ao, cap, rfl, h1, h2, h3, h4, h5⟩ := h
  have hkeep : ∀ b off, ao = some ⟨b, off, none⟩ → w'.heap[b]? = w.heap[b]? := fun b off e => by
    obtain ⟨cs, z, h6⟩ := h4 b off e
    exact hr b cs z (by rw [e]; rfl) h6
  refine ⟨ao, cap, rfl, h1, h2, h3, fun b off e => ?_, fun k r e => ?_⟩
  · obtain ⟨cs, z, h6⟩ := h4 b off e
    exact ⟨cs, z, (hkeep b off e).trans h6⟩
  · obtain ⟨b, off, d, e2, h6, h7⟩ := h5 k r e
    exact ⟨b, off, d, e2, fun j u hj => (World.cell?_of_block (w := w) (hkeep b off e2)).trans (h6 j u hj), h7.keep hk⟩
theorem RcY.kept {w w' : World} {v : Value} {rs : List Rec} (h : RcY w v rs) (hb : Below w.heap.size w w') : RcY w' v rs := h.keep (fun g _ _ _ e => hb.block g (Array.getElem?_eq_some_iff.1 e).1) (KTB.below hb)
theorem RcY.take {w : World} {ao : Option Addr} {n cap : Nat} {rs : List Rec} (h : RcY w (.slice ao n cap) rs) (m : Nat) (hm : m ≤ rs.length) : RcY w (.slice ao m cap) (rs.take m) := by
  obtain ⟨ao', cap', e, h1, h2, h3, h4, h5⟩ := h
  simp only [Value.slice.injEq] at e
  obtain ⟨rfl, rfl, rfl⟩ := e
  refine ⟨ao, cap, by rw [List.length_take, Nat.min_eq_left hm], by rw [List.length_take]; omega, h2, h3, h4, fun k r hr => ?_⟩
  rw [List.getElem?_take] at hr
  split at hr
  · exact h5 k r hr
  · cases hr
theorem Rr.rcy {B : Nat} {w : World} {v : Value} {ps : List (Rec × Value)} (h : Rr B w v ps) : RcY w v (ps.map Prod.fst) := by
  have h0 := h.1
  rcases h.1.2 with ⟨rfl, h1⟩ | ⟨g, cap, cur, rfl, hb, hg, h1, h2, h3, h4⟩
  · obtain rfl := List.length_eq_zero_iff.1 h1
    exact ⟨none, 0, rfl, Nat.le_refl _, Nat.zero_le _, fun _ => rfl, (fun b off e => by cases e), fun k r e => by simp at e⟩
  · refine ⟨some ⟨g, 0, none⟩, cap, by rw [List.length_map], by rw [List.length_map]; exact h1, h2, (fun e => by cases e), (fun b off e => by
      simp only [Option.some.injEq, Addr.mk.injEq] at e
      obtain ⟨rfl, -⟩ := e
      exact ⟨_, _, hg⟩), fun k r e => ?_⟩
    rw [List.getElem?_map] at e
    obtain ⟨p, hp, rfl⟩ := Option.map_eq_some_iff.1 e
    obtain ⟨hk, rfl⟩ := List.getElem?_eq_some_iff.1 hp
    refine ⟨g, 0, (ps[k]).2, rfl, fun j u hu => ?_, h.2 _ (List.getElem_mem hk)⟩
    have hj : j < 12 := (List.getElem?_eq_some_iff.1 hu).1
    have hl := rcls_len ps
    rw [Nat.zero_add, ← hu, ← rcls_get ps k hk j hj]
    exact World.ownsRow.cellAt h0 (k * 12 + j) (by rw [Nat.mul_comm]; omega)
/-- append(v, x) of one record -/
theorem wpList_append_rr {P : Program} (w : World) {ops : Array Oper} {rest : List Oper} {o : Oper} {a : Act} {Q : Exit → Act → World → Prop} (hgd : o.guard = none) (s x : Operand) (t : TypeId)
    (ho : o.op = .call { callee := .builtin .append, args := #[s, x], argTypes := #[t, t] })
    (B : Nat) (hinfo : (P.info? 32).map (fun i => (i.zero, i.size, i.bytes)) = some (some (.agg #[.int .i64 0, .int .i64 0, .int .i64 0, .int .i64 0, .int .i64 0, .int .i64 0, .int .i64 0, .int .i64 0, .int .i64 0, .int .i64 0, .string ⟨#[]⟩, .slice none 0 0]), 12, 120)) (ht : P.underlying t = some (.slice 32))
    (v : Value) (ps : List (Rec × Value)) (q : Rec × Value) (hv : a.eval s = v) (h : Rr B w v ps) (g : Nat) (hx : a.eval x = .slice (some ⟨g, 0, none⟩) 1 1)
    (hc : w.rangeAt g 0 (rcl q)) (hq : q.2.oneCell' = true) (hq2 : BsT w q.2 q.1.l)
    (hmax : (ps.length + 1) * 120 ≤ 140737488355328) (hB : B ≤ w.heap.size)
    (hK : ∀ v' w', Rr B w' v' (ps ++ [q]) → Below B w w' → w.grownBy w' v.ownBlock → (v'.ownBlock = v.ownBlock ∨ v'.ownBlock = some w.heap.size) → KTB w w' → wpList P ops Q rest (a.put o.dst v') w') : wpList P ops Q (o :: rest) a w := by
  obtain ⟨i0, hi, hz0, hz1, hz2⟩ := Lft.info_parts3 hinfo
  refine wpList_append_own_at w hgd s x t ho B 32 i0 _ 12 120 ht hi hz0 hz1 hz2 rfl (by decide) v ps.length (ps.flatMap rcl) hv h.1 ⟨g, 0, none⟩ 1 1 (rcl q) hx rfl ?_ ?_ (by unfold maxLen; omega) (by omega) hB ?_
  · intro j u hj
    have := hc j u hj
    rw [Addr.add_lit]
    exact this
  · intro u hu
    simp only [rcl, List.mem_cons, List.not_mem_nil, or_false] at hu
    rcases hu with rfl | rfl | rfl | rfl | rfl | rfl | rfl | rfl | rfl | rfl | rfl | rfl
    all_goals first | rfl | exact hq
  · intro v' w' h2 h3 _ h5
    have hown : w'.ownsRow B 32 12 v' (ps ++ [q]).length ((ps ++ [q]).flatMap rcl) := by
      rw [List.length_append, List.flatMap_append]
      simpa using h2
    have hk : KTB w w' := KTB.grown h3 fun b e cs ty z e2 => by
      obtain ⟨cs', z', h9⟩ := rrow_typed h.1 b e
      rw [h9] at e2
      simp at e2
      obtain ⟨-, rfl, -⟩ := e2
      decide
    refine hK v' w' ⟨hown, fun p hp => ?_⟩ ((Below.refl B w).grown h3 hB (fun k hk => (World.ownsRow.lt h.1 k hk).1)) h3 h5 hk
    rcases List.mem_append.1 hp with hp | hp
    · exact (h.2 p hp).keep hk
    · obtain rfl := List.mem_singleton.1 hp
      exact hq2.keep hk
end Go.Proofs.YtdnackjakfiffaaGreatDoor

/-
  Replay: the laws' of and cut once more: what the blocks of their answers are.
-/
namespace Go.Proofs.YtdnackjakfiffaaGreatDoor
open Go Go.RowKit Go.ChangeShapes
open Wb

theorem ktb_cells {w : World} {p : Nat} {t : TypeId} {C : List Value} (L : LB w p t C) (h1 : t ≠ 5) (o : Nat) (vs : List Value) : KTB w (w.setCells p o vs) := fun g cs z e => cells_other _ _ _ _ _ (by
  rintro rfl
  unfold LB at L
  rw [L] at e
  simp at e
  exact h1 e.2.1)
theorem bst_take {w : World} {a : Option Addr} {c : Nat} {l : List Nat} (h : BsT w (.slice a l.length c) l) (n : Nat) (hn : n ≤ l.length) : BsT w (.slice a n c) (l.take n) :=
  ⟨bs_take h.1 n hn, fun g e => h.2 g (by cases a with
    | none => cases e
    | some a => exact e)⟩
set_option maxRecDepth 100000 in
set_option maxHeartbeats 8000000 in
theorem ryof_T (v : Value) (rs : List Rec) (id : Int) (ot : Bool) (w : World) (h : RcY w v rs) (hl : rs.length ≤ 1000000) :
    Calls Tryz.prog 14 #[v, .int .i64 id, .bool ot] w fun e w' => ∃ v', e = .returned v' ∧ RcY w' v' (rs.filter fun r => (r.x.s == id) != ot) ∧ Below w.heap.size w w' := by
  have HRS : Hid (∀ W, Below w.heap.size w W → RcY W v rs) := fun W hW => h.kept hW
  obtain ⟨ao, cap, rfl, hm1, hm2, -, -, hcr0⟩ := h
  have hm : rs.length ≤ maxLen := Nat.le_trans hm1 hm2
  clear hm1 hm2
  have HRA : Hid (∀ k r, rs[k]? = some r → ∃ b off d, ao = some ⟨b, off, none⟩ ∧ w.rangeAt b (off + k * 12) (rcl (r, d)) ∧ BsT w d r.l) := hcr0
  clear hcr0
  unfold maxLen at hm
  have hin := infoR12
  go_enter Tryz.func14, Tryz.ntmps14
  go_wp2_with fail
  go_loopw [7, 8] (fun o i wr => ∃ k : Nat, ∃ ps, k ≤ rs.length ∧ i = .int .i64 (k : Int) ∧ Rr w.heap.size wr o ps ∧ ps.map Prod.fst = (rs.take k).filter (fun r => (r.x.s == id) != ot) ∧ Below w.heap.size w wr) (fun _ i _ => rs.length - (mInt i).toNat)
  case atStart => exact ⟨0, [], Nat.zero_le _, rfl, Rr.nil _ _, rfl, Below.refl _ _⟩
  case round =>
    obtain ⟨k, ps, hk, rfl, ho, hmp, hb⟩ := hrel
    have HI : Hid (Rr w.heap.size wr u7 ps ∧ ps.map Prod.fst = (rs.take k).filter (fun r => (r.x.s == id) != ot) ∧ Below w.heap.size w wr) := ⟨ho, hmp, hb⟩
    have hpl : ps.length ≤ k := by
      have e := congrArg List.length hmp
      rw [List.length_map] at e
      have e2 := List.length_filter_le (fun r : Rec => (r.x.s == id) != ot) (rs.take k)
      rw [List.length_take] at e2
      omega
    clear ho hmp hb
    by_cases hlt : k < rs.length
    · obtain ⟨b, off, d, rfl, hcr, hd⟩ := HRA.out k rs[k] (List.getElem?_eq_getElem hlt)
      have hTK : rs.take (k + 1) = rs.take k ++ [rs[k]] := by rw [List.take_succ_eq_append_getElem hlt]
      obtain ⟨r, hr⟩ : ∃ r, rs[k] = r := ⟨_, rfl⟩
      rw [hr] at hcr hd hTK
      have HD : Hid (BsT wr d r.l) := hd.kept HI.out.2.2
      have HTK : Hid (rs.take (k + 1) = rs.take k ++ [r]) := hTK
      obtain ⟨G, hGr, hGL, hGE⟩ := rv_letter r.x r.nm d
      have HGE : Hid (G = rcE r.x r.nm d) := hGE
      have HGL : Hid _ := hGL
      have hone : d.oneCell' = true := by obtain ⟨ao9, c9, e9, _⟩ := hd.1.shape; rw [e9]; rfl
      have HONE : Hid (d.oneCell' = true) := hone
      have HCR : Hid (wr.rangeAt b (off + k * 12) G) := fun j u hj => by
        rw [hGE] at hj
        exact (HI.out.2.2.cell (p := ⟨b, off + k * 12 + j, none⟩) (World.block_lt_of_cell? _ _ (hcr j u hj))).trans (hcr j u hj)
      have q2 := HCR.out 2 (.int .i64 r.x.s) (by rw [hGE]; rfl)
      rw [show off + k * 12 + 2 = off + (k * 12 + 2) by omega] at q2
      have q3 := q2
      rw [show off + (k * 12 + 2) = off + k * 12 + 2 by omega] at q3
      clear hcr hd hTK hr hGr hGL hGE hone HRA HRS
      obtain ⟨A, hA⟩ : ∃ A, (r.x.s == id) = A := ⟨_, rfl⟩
      have HA : Hid ((r.x.s == id) = A) := hA
      cases hAo : (A == ot) with
      | true =>
        have HE : Hid ((rs.take (k + 1)).filter (fun r => (r.x.s == id) != ot) = (rs.take k).filter (fun r => (r.x.s == id) != ot)) := by
          show _ = _
          rw [HTK.out, List.filter_append]
          simp [HA.out, bne, hAo]
        go_wp2_with fail
        go_roundw
        case rel => exact ⟨k + 1, ps, by omega, by go_num, HI.out.1, by rw [HE.out]; exact HI.out.2.1, HI.out.2.2⟩
        case measure => simp [mInt]; omega
      | false =>
        have HE : Hid ((rs.take (k + 1)).filter (fun r => (r.x.s == id) != ot) = (rs.take k).filter (fun r => (r.x.s == id) != ot) ++ [r]) := by
          show _ = _
          rw [HTK.out, List.filter_append]
          simp [HA.out, bne, hAo]
        have L7 : Hid (LB (wr.alloc (.cells G.toArray 32)) wr.heap.size 32 G ∧ Below wr.heap.size wr (wr.alloc (.cells G.toArray 32))) := ⟨lb_new _ _ _, up0 _ _⟩
        go_wp2_with (first
          | (refine wpList_load_mid rfl 32 _ rfl b (off + k * 12) rfl G _ HCR.out Tryz.underlying32 rfl HGL.out ?_)
          | (refine wpList_buildR HGE.out rfl 28 rfl rfl ?_)
          | (at_builtin; refine wpList_append_rr _ rfl (.tmp 24) (.tmp 29) 22 rfl w.heap.size hin Tryz.underlying22 _ ps (r, d) rfl (HI.out.1.kept L7.out.2) _ rfl (by have e := L7.out.1.range; rw [HGE.out] at e ⊢; exact e) HONE.out (HD.out.kept L7.out.2) (by omega) (Nat.le_trans HI.out.2.2.size L7.out.2.size) ?_))
        intro v2 w2 hr2 hb2 _ _ _
        have R2 : Hid (Rr w.heap.size w2 v2 (ps ++ [(r, d)]) ∧ Below w.heap.size w w2) := ⟨hr2, (andThen HI.out.2.2 L7.out.2).trans hb2⟩
        clear hr2 hb2
        go_wp2_with fail
        go_roundw
        case rel => exact ⟨k + 1, ps ++ [(r, d)], by omega, by go_num, R2.out.1, by rw [HE.out, List.map_append, HI.out.2.1]; rfl, R2.out.2⟩
        case measure => simp [mInt]; omega
    · obtain rfl : k = rs.length := by omega
      clear HRA HRS
      go_wp2_with fail
      go_ret
      have e := HI.out.1.rcy
      rw [HI.out.2.1, List.take_length] at e
      exact ⟨_, rfl, e, HI.out.2.2⟩
set_option maxRecDepth 100000 in
set_option maxHeartbeats 8000000 in
theorem rycut_T (v : Value) (rs : List Rec) (w : World) (h : RecsAt w v rs) (hcap : ∀ ao, ∀ n c : Nat, v = .slice ao n c → n ≤ c ∧ c ≤ maxLen) (hll : ∀ r ∈ rs, r.l.length ≤ 140737488355000) :
    Calls Tryz.prog 8 #[v, .int .i64 16385] w fun e w' => ∃ v', e = .returned v' ∧ RcY w' v' ((rs.take 160).map (cutD 16385)) ∧ Below w.heap.size w w' := by
  obtain ⟨cs, hcs⟩ : ∃ cs, cs = rs.take 160 := ⟨_, rfl⟩
  rw [← hcs]
  have HLL : Hid (∀ r ∈ cs, r.l.length ≤ 140737488355000) := fun r hr => hll r (by rw [hcs] at hr; exact List.mem_of_mem_take hr)
  obtain ⟨Z, hZ⟩ : ∃ Z, Z = zrl := ⟨_, rfl⟩
  have HZ : Hid (Z = zrl) := hZ
  have HZL : Hid (Z.length = 12) := by show _ = _; rw [hZ]; rfl
  obtain ⟨ao, cap, rfl, hm, hc⟩ := h
  obtain ⟨hc1, hc2⟩ := hcap ao _ cap rfl
  unfold maxLen at hm hc2
  have HRA : Hid (∀ k r, cs[k]? = some r → ∃ b off d, ao = some ⟨b, off, none⟩ ∧ w.rangeAt b (off + k * 12) (rcl (r, d)) ∧ Bs w d r.l) := fun k r hr => by
    rw [hcs, List.getElem?_take] at hr
    split at hr
    · exact hc k r hr
    · cases hr
  have hin := infoR12
  clear hZ hc hcap hll
  by_cases k1 : 160 < rs.length
  · have HCL : Hid (cs.length = 160) := by show _ = _; rw [hcs, List.length_take]; omega
    have HN : Hid (160 ≤ 160) := Nat.le_refl _
    have hk1 : ((160 : Int) < (rs.length : Int)) = True := by simp; omega
    have hk2 : ((160 : Int) ≤ (cap : Int)) = True := by simp; omega
    clear hcs
    go_enter Tryz.func8, Tryz.ntmps8
    go_wp2_with fail
    go_loopw [5, 6] (fun o i wr => ∃ k : Nat, ∃ ps, k ≤ 160 ∧ i = .int .i64 (k : Int) ∧ Rr w.heap.size wr o ps ∧ ps.map Prod.fst = (cs.take k).map (cutD 16385) ∧ Below w.heap.size w wr) (fun _ i _ => 160 - (mInt i).toNat)
    case atStart => exact ⟨0, [], Nat.zero_le _, rfl, Rr.nil _ _, rfl, Below.refl _ _⟩
    case round =>
      obtain ⟨k, ps, hk, rfl, ho, hmp, hb⟩ := hrel
      have HI : Hid (Rr w.heap.size wr u5 ps ∧ ps.map Prod.fst = (cs.take k).map (cutD 16385) ∧ Below w.heap.size w wr) := ⟨ho, hmp, hb⟩
      have hpl : ps.length ≤ k := by
        have e := congrArg List.length hmp
        rw [List.length_map, List.length_map, List.length_take] at e
        omega
      clear ho hmp hb
      have hN9 := HN.out
      by_cases hlt : k < 160
      · have hlt2 : k < cs.length := by rw [HCL.out]; exact hlt
        obtain ⟨b, off, d, rfl, hcr, hd⟩ := HRA.out k cs[k] (List.getElem?_eq_getElem hlt2)
        have hTK : cs.take (k + 1) = cs.take k ++ [cs[k]] := by rw [List.take_succ_eq_append_getElem hlt2]
        obtain ⟨r, hr⟩ : ∃ r, cs[k] = r := ⟨_, rfl⟩
        have HBL : Hid (r.l.length ≤ 140737488355000) := by show _ ≤ _; rw [← hr]; exact HLL.out _ (List.getElem_mem hlt2)
        rw [hr] at hcr hd hTK
        have HTK : Hid (cs.take (k + 1) = cs.take k ++ [r]) := hTK
        obtain ⟨G, hGr, hGL, hGE⟩ := rv_letter r.x r.nm d
        have HGL : Hid _ := hGL
        have HCR : Hid (wr.rangeAt b (off + k * 12) G) := fun j u hj => by
          rw [hGE] at hj
          exact (HI.out.2.2.cell (p := ⟨b, off + k * 12 + j, none⟩) (World.block_lt_of_cell? _ _ (hcr j u hj))).trans (hcr j u hj)
        have HCLN : Hid (Calls Tryz.prog 20 #[.agg G.toArray] wr fun e w' => ∃ d', e = .returned (rv r.x r.nm d') ∧ Own wr.heap.size w' d' r.l ∧ Below wr.heap.size wr w') := by
          have e := refclone_any r.x r.nm d r.l wr (hd.kept HI.out.2.2) HBL.out
          rw [hGr] at e
          exact e
        clear hcr hd hTK hr hGr hGL hGE HRA
        go_wp2_with (first | (refine wpList_load_mid rfl 32 _ rfl b (off + k * 12) rfl G _ HCR.out Tryz.underlying32 rfl HGL.out ?_) | fail)
        refine HCLN.out.mono ?_
        rintro e w1 ⟨d1, rfl, o1, b1⟩
        obtain ⟨a1, c1, rfl, _⟩ := o1.bs.shape
        have H1 : Hid (Own wr.heap.size w1 (.slice a1 r.l.length c1) r.l ∧ Below wr.heap.size wr w1) := ⟨o1, b1⟩
        clear o1 b1 HCLN HCR HGL
        obtain ⟨G1, hG1, hGL1, hGE1⟩ := rv_letter r.x r.nm (.slice a1 r.l.length c1)
        rw [hG1]
        have HGL1 : Hid _ := hGL1
        have HGE1 : Hid (G1 = rcE r.x r.nm (.slice a1 r.l.length c1)) := hGE1
        have HG11 : Hid (∀ v ∈ G1, v.oneCell' = true) := by show ∀ v ∈ G1, _; rw [hGE1]; exact rcE_one _ _ _ rfl
        have HGZ : Hid (G1.length = Z.length) := by show _ = _; rw [hGE1, HZL.out]; rfl
        clear hG1 hGL1 hGE1
        have HTH : Hid ((w1.alloc (.cells Z.toArray 32)).there w1.heap.size 0 G1.toArray.size) := there_of (lb_new w1 Z 32) (by simpa using HGZ.out)
        have HOFF : Hid (∀ g, w1.heap.size ≤ g → Off g (.slice a1 r.l.length c1) r.l) := fun g hg => off_of H1.out.1.bs g hg
        have H3 : Hid (∃ W3, W3 = (w1.alloc (.cells Z.toArray 32)).setCells w1.heap.size 0 G1 ∧ LB W3 w1.heap.size 32 G1 ∧ Rr w.heap.size W3 u5 ps ∧ BsT W3 (.slice a1 r.l.length c1) r.l ∧ Below wr.heap.size wr W3) := by
          have e1 : Below wr.heap.size wr ((w1.alloc (.cells Z.toArray 32)).setCells w1.heap.size 0 G1) := below_cells H1.out.2.size _ 0 _ (andThen H1.out.2 (up0 _ _))
          exact ⟨_, rfl, (lb_new w1 Z 32).sets G1 HGZ.out, HI.out.1.kept e1, (BsT.own (H1.out.1.alloc _)).keep (ktb_cells (lb_new w1 Z 32) (by decide) 0 G1), e1⟩
        have H4 : Hid (∀ W3, LB W3 w1.heap.size 32 G1 → W3.cell? ⟨w1.heap.size, 11, none⟩ = some (.slice a1 r.l.length c1)) := fun W3 L => L.cell 11 _ (by rw [HGE1.out]; rfl)
        by_cases hbig : 16385 < r.l.length
        · have hcap : r.l.length ≤ c1 ∧ c1 ≤ 9223372036854775807 := by
            obtain ⟨ao9, c9, e9, _, h2, h3, _⟩ := H1.out.1.bs.shape
            simp only [Value.slice.injEq, true_and] at e9
            unfold maxLen at h2
            omega
          have d9 : ((16385 : Int) < (r.l.length : Int)) = True := by simp; omega
          have hcp9 : ((16385 : Int) ≤ (c1 : Int)) = True := by simp; omega
          obtain ⟨G5, hG5⟩ : ∃ G5, G5 = rcE r.x r.nm (.slice a1 16385 c1) := ⟨_, rfl⟩
          have HGE5 : Hid (G5 = rcE r.x r.nm (.slice a1 16385 c1)) := hG5
          have HGL5 : Hid ((Tryz.prog.info? 32).map (·.size) = some G5.length) := by show _ = _; rw [hG5]; exact HGL1.out.trans (by simp [HGE1.out, rcE])
          clear hG5
          have HL5 : Hid (∀ W3, LB W3 w1.heap.size 32 G1 → Rr w.heap.size W3 u5 ps → BsT W3 (.slice a1 r.l.length c1) r.l → Below wr.heap.size wr W3 → LB (W3.setCell ⟨w1.heap.size, 11, none⟩ (.slice a1 16385 c1)) w1.heap.size 32 G5 ∧ Rr w.heap.size (W3.setCell ⟨w1.heap.size, 11, none⟩ (.slice a1 16385 c1)) u5 ps ∧ BsT (W3.setCell ⟨w1.heap.size, 11, none⟩ (.slice a1 16385 c1)) (.slice a1 16385 c1) (cutD 16385 r).l ∧ Below wr.heap.size wr (W3.setCell ⟨w1.heap.size, 11, none⟩ (.slice a1 16385 c1))) := fun W3 L O B3 E => by
            have e1 := L.set 11 (.slice a1 16385 c1)
            rw [HGE1.out] at e1
            have e2 : Below wr.heap.size wr (W3.setCell ⟨w1.heap.size, 11, none⟩ (.slice a1 16385 c1)) := Below.setCell E H1.out.2.size _
            exact ⟨by rw [HGE5.out]; exact e1, HI.out.1.kept e2, bst_take (B3.keep (ktb_cells L (by decide) 11 [.slice a1 16385 c1])) 16385 (by omega), e2⟩
          go_wp2_with (first
            | (refine wpList_alloc_R HZ.out rfl rfl ?_)
            | (refine wpList_store_mid rfl 32 (.tmp 7) (.tmp 23) rfl w1.heap.size 0 G1.toArray rfl rfl HTH.out (by simpa using HGL1.out) (all_oneCell_toArray HG11.out) ?_; (obtain ⟨W3, hW3, hq⟩ := H3.out); (have H6 : Hid _ := hq); (rw [List.toList_toArray, ← hW3]); (clear hW3 hq H3 HTH); (have x11 := H4.out W3 H6.out.1); (have f11 := H6.out.1.free 11))
            | (refine wpList_load_mid rfl 32 (.tmp 7) rfl w1.heap.size 0 rfl G5 _ (HL5.out W3 H6.out.1 H6.out.2.1 H6.out.2.2.1 H6.out.2.2.2).1.range Tryz.underlying32 rfl HGL5.out ?_; (obtain ⟨W5, hW5⟩ : ∃ W, W = W3.setCell ⟨w1.heap.size, 11, none⟩ (.slice a1 16385 c1) := ⟨_, rfl⟩); (have H5 : Hid (LB W5 w1.heap.size 32 G5 ∧ Rr w.heap.size W5 u5 ps ∧ BsT W5 (.slice a1 16385 c1) (cutD 16385 r).l ∧ Below wr.heap.size wr W5) := by rw [hW5]; exact HL5.out W3 H6.out.1 H6.out.2.1 H6.out.2.2.1 H6.out.2.2.2); (rw [← hW5]); (clear x11 f11 hW5))
            | (refine wpList_buildR HGE5.out rfl 35 rfl rfl ?_)
            | (at_builtin; refine wpList_append_rr _ rfl (.tmp 34) (.tmp 36) 22 rfl w.heap.size hin Tryz.underlying22 _ ps (cutD 16385 r, .slice a1 16385 c1) rfl (H5.out.2.1.kept (up0 _ _)) _ rfl (by have e := (lb_new W5 G5 32).range; rw [HGE5.out] at e ⊢; exact e) rfl (H5.out.2.2.1.kept (up0 _ _)) (by omega) (Nat.le_trans HI.out.2.2.size (Nat.le_trans H5.out.2.2.2.size (up0 W5 _).size)) ?_))
          intro v2 w2 hr2 hb2 _ _ _
          have R2 : Hid (Rr w.heap.size w2 v2 (ps ++ [(cutD 16385 r, .slice a1 16385 c1)]) ∧ Below w.heap.size w w2) := ⟨hr2, (andThen (andThen HI.out.2.2 H5.out.2.2.2) (up0 W5 _)).trans hb2⟩
          clear hr2 hb2
          go_wp2_with fail
          go_roundw
          case rel => exact ⟨k + 1, ps ++ [(cutD 16385 r, .slice a1 16385 c1)], by omega, by go_num, R2.out.1, by rw [HTK.out, List.map_append, List.map_append, HI.out.2.1]; rfl, R2.out.2⟩
          case measure => simp [mInt]; omega
        · have d9 : ((16385 : Int) < (r.l.length : Int)) = False := by simp; omega
          obtain ⟨G5, hG5⟩ : ∃ G5, G5 = rcE r.x r.nm (.slice a1 r.l.length c1) := ⟨_, rfl⟩
          have HGE5 : Hid (G5 = rcE r.x r.nm (.slice a1 r.l.length c1)) := hG5
          have HGL5 : Hid ((Tryz.prog.info? 32).map (·.size) = some G5.length) := by show _ = _; rw [hG5]; exact HGL1.out.trans (by simp [HGE1.out, rcE])
          clear hG5
          go_wp2_with (first
            | (refine wpList_alloc_R HZ.out rfl rfl ?_)
            | (refine wpList_store_mid rfl 32 (.tmp 7) (.tmp 23) rfl w1.heap.size 0 G1.toArray rfl rfl HTH.out (by simpa using HGL1.out) (all_oneCell_toArray HG11.out) ?_; (obtain ⟨W3, hW3, hq⟩ := H3.out); (have H6 : Hid _ := hq); (rw [List.toList_toArray, ← hW3]); (clear hW3 hq H3 HTH); (have x11 := H4.out W3 H6.out.1); (have f11 := H6.out.1.free 11))
            | (refine wpList_load_mid rfl 32 (.tmp 7) rfl w1.heap.size 0 rfl G5 _ (show LB W3 w1.heap.size 32 G5 from by rw [HGE5.out, ← HGE1.out]; exact H6.out.1).range Tryz.underlying32 rfl HGL5.out ?_; (obtain ⟨W5, hW5⟩ : ∃ W, W = W3 := ⟨_, rfl⟩); (have H5 : Hid (LB W5 w1.heap.size 32 G5 ∧ Rr w.heap.size W5 u5 ps ∧ BsT W5 (.slice a1 r.l.length c1) (cutD 16385 r).l ∧ Below wr.heap.size wr W5) := by rw [hW5]; exact ⟨(by rw [HGE5.out, ← HGE1.out]; exact H6.out.1), H6.out.2.1, (by rw [cutD_of (show r.l.length ≤ 16385 by omega)]; exact H6.out.2.2.1), H6.out.2.2.2⟩); (rw [← hW5]); (clear x11 f11 hW5))
            | (refine wpList_buildR HGE5.out rfl 35 rfl rfl ?_)
            | (at_builtin; refine wpList_append_rr _ rfl (.tmp 34) (.tmp 36) 22 rfl w.heap.size hin Tryz.underlying22 _ ps (cutD 16385 r, .slice a1 r.l.length c1) rfl (H5.out.2.1.kept (up0 _ _)) _ rfl (by have e := (lb_new W5 G5 32).range; rw [HGE5.out] at e ⊢; exact e) rfl (H5.out.2.2.1.kept (up0 _ _)) (by omega) (Nat.le_trans HI.out.2.2.size (Nat.le_trans H5.out.2.2.2.size (up0 W5 _).size)) ?_))
          intro v2 w2 hr2 hb2 _ _ _
          have R2 : Hid (Rr w.heap.size w2 v2 (ps ++ [(cutD 16385 r, .slice a1 r.l.length c1)]) ∧ Below w.heap.size w w2) := ⟨hr2, (andThen (andThen HI.out.2.2 H5.out.2.2.2) (up0 W5 _)).trans hb2⟩
          clear hr2 hb2
          go_wp2_with fail
          go_roundw
          case rel => exact ⟨k + 1, ps ++ [(cutD 16385 r, .slice a1 r.l.length c1)], by omega, by go_num, R2.out.1, by rw [HTK.out, List.map_append, List.map_append, HI.out.2.1]; rfl, R2.out.2⟩
          case measure => simp [mInt]; omega
      · obtain rfl : k = 160 := by omega
        clear HRA
        go_wp2_with fail
        go_ret
        have e := HI.out.1.rcy
        rw [HI.out.2.1, List.take_of_length_le (by rw [HCL.out]; exact Nat.le_refl _)] at e
        exact ⟨_, rfl, e, HI.out.2.2⟩

  · have HCL : Hid (cs.length = rs.length) := by show _ = _; rw [hcs, List.length_take]; omega
    have HN : Hid (rs.length ≤ 160) := by show _ ≤ _; omega
    have hk1 : ((160 : Int) < (rs.length : Int)) = False := by simp; omega
    clear hcs
    go_enter Tryz.func8, Tryz.ntmps8
    go_wp2_with fail
    go_loopw [5, 6] (fun o i wr => ∃ k : Nat, ∃ ps, k ≤ rs.length ∧ i = .int .i64 (k : Int) ∧ Rr w.heap.size wr o ps ∧ ps.map Prod.fst = (cs.take k).map (cutD 16385) ∧ Below w.heap.size w wr) (fun _ i _ => rs.length - (mInt i).toNat)
    case atStart => exact ⟨0, [], Nat.zero_le _, rfl, Rr.nil _ _, rfl, Below.refl _ _⟩
    case round =>
      obtain ⟨k, ps, hk, rfl, ho, hmp, hb⟩ := hrel
      have HI : Hid (Rr w.heap.size wr u5 ps ∧ ps.map Prod.fst = (cs.take k).map (cutD 16385) ∧ Below w.heap.size w wr) := ⟨ho, hmp, hb⟩
      have hpl : ps.length ≤ k := by
        have e := congrArg List.length hmp
        rw [List.length_map, List.length_map, List.length_take] at e
        omega
      clear ho hmp hb
      have hN9 := HN.out
      by_cases hlt : k < rs.length
      · have hlt2 : k < cs.length := by rw [HCL.out]; exact hlt
        obtain ⟨b, off, d, rfl, hcr, hd⟩ := HRA.out k cs[k] (List.getElem?_eq_getElem hlt2)
        have hTK : cs.take (k + 1) = cs.take k ++ [cs[k]] := by rw [List.take_succ_eq_append_getElem hlt2]
        obtain ⟨r, hr⟩ : ∃ r, cs[k] = r := ⟨_, rfl⟩
        have HBL : Hid (r.l.length ≤ 140737488355000) := by show _ ≤ _; rw [← hr]; exact HLL.out _ (List.getElem_mem hlt2)
        rw [hr] at hcr hd hTK
        have HTK : Hid (cs.take (k + 1) = cs.take k ++ [r]) := hTK
        obtain ⟨G, hGr, hGL, hGE⟩ := rv_letter r.x r.nm d
        have HGL : Hid _ := hGL
        have HCR : Hid (wr.rangeAt b (off + k * 12) G) := fun j u hj => by
          rw [hGE] at hj
          exact (HI.out.2.2.cell (p := ⟨b, off + k * 12 + j, none⟩) (World.block_lt_of_cell? _ _ (hcr j u hj))).trans (hcr j u hj)
        have HCLN : Hid (Calls Tryz.prog 20 #[.agg G.toArray] wr fun e w' => ∃ d', e = .returned (rv r.x r.nm d') ∧ Own wr.heap.size w' d' r.l ∧ Below wr.heap.size wr w') := by
          have e := refclone_any r.x r.nm d r.l wr (hd.kept HI.out.2.2) HBL.out
          rw [hGr] at e
          exact e
        clear hcr hd hTK hr hGr hGL hGE HRA
        go_wp2_with (first | (refine wpList_load_mid rfl 32 _ rfl b (off + k * 12) rfl G _ HCR.out Tryz.underlying32 rfl HGL.out ?_) | fail)
        refine HCLN.out.mono ?_
        rintro e w1 ⟨d1, rfl, o1, b1⟩
        obtain ⟨a1, c1, rfl, _⟩ := o1.bs.shape
        have H1 : Hid (Own wr.heap.size w1 (.slice a1 r.l.length c1) r.l ∧ Below wr.heap.size wr w1) := ⟨o1, b1⟩
        clear o1 b1 HCLN HCR HGL
        obtain ⟨G1, hG1, hGL1, hGE1⟩ := rv_letter r.x r.nm (.slice a1 r.l.length c1)
        rw [hG1]
        have HGL1 : Hid _ := hGL1
        have HGE1 : Hid (G1 = rcE r.x r.nm (.slice a1 r.l.length c1)) := hGE1
        have HG11 : Hid (∀ v ∈ G1, v.oneCell' = true) := by show ∀ v ∈ G1, _; rw [hGE1]; exact rcE_one _ _ _ rfl
        have HGZ : Hid (G1.length = Z.length) := by show _ = _; rw [hGE1, HZL.out]; rfl
        clear hG1 hGL1 hGE1
        have HTH : Hid ((w1.alloc (.cells Z.toArray 32)).there w1.heap.size 0 G1.toArray.size) := there_of (lb_new w1 Z 32) (by simpa using HGZ.out)
        have HOFF : Hid (∀ g, w1.heap.size ≤ g → Off g (.slice a1 r.l.length c1) r.l) := fun g hg => off_of H1.out.1.bs g hg
        have H3 : Hid (∃ W3, W3 = (w1.alloc (.cells Z.toArray 32)).setCells w1.heap.size 0 G1 ∧ LB W3 w1.heap.size 32 G1 ∧ Rr w.heap.size W3 u5 ps ∧ BsT W3 (.slice a1 r.l.length c1) r.l ∧ Below wr.heap.size wr W3) := by
          have e1 : Below wr.heap.size wr ((w1.alloc (.cells Z.toArray 32)).setCells w1.heap.size 0 G1) := below_cells H1.out.2.size _ 0 _ (andThen H1.out.2 (up0 _ _))
          exact ⟨_, rfl, (lb_new w1 Z 32).sets G1 HGZ.out, HI.out.1.kept e1, (BsT.own (H1.out.1.alloc _)).keep (ktb_cells (lb_new w1 Z 32) (by decide) 0 G1), e1⟩
        have H4 : Hid (∀ W3, LB W3 w1.heap.size 32 G1 → W3.cell? ⟨w1.heap.size, 11, none⟩ = some (.slice a1 r.l.length c1)) := fun W3 L => L.cell 11 _ (by rw [HGE1.out]; rfl)
        by_cases hbig : 16385 < r.l.length
        · have hcap : r.l.length ≤ c1 ∧ c1 ≤ 9223372036854775807 := by
            obtain ⟨ao9, c9, e9, _, h2, h3, _⟩ := H1.out.1.bs.shape
            simp only [Value.slice.injEq, true_and] at e9
            unfold maxLen at h2
            omega
          have d9 : ((16385 : Int) < (r.l.length : Int)) = True := by simp; omega
          have hcp9 : ((16385 : Int) ≤ (c1 : Int)) = True := by simp; omega
          obtain ⟨G5, hG5⟩ : ∃ G5, G5 = rcE r.x r.nm (.slice a1 16385 c1) := ⟨_, rfl⟩
          have HGE5 : Hid (G5 = rcE r.x r.nm (.slice a1 16385 c1)) := hG5
          have HGL5 : Hid ((Tryz.prog.info? 32).map (·.size) = some G5.length) := by show _ = _; rw [hG5]; exact HGL1.out.trans (by simp [HGE1.out, rcE])
          clear hG5
          have HL5 : Hid (∀ W3, LB W3 w1.heap.size 32 G1 → Rr w.heap.size W3 u5 ps → BsT W3 (.slice a1 r.l.length c1) r.l → Below wr.heap.size wr W3 → LB (W3.setCell ⟨w1.heap.size, 11, none⟩ (.slice a1 16385 c1)) w1.heap.size 32 G5 ∧ Rr w.heap.size (W3.setCell ⟨w1.heap.size, 11, none⟩ (.slice a1 16385 c1)) u5 ps ∧ BsT (W3.setCell ⟨w1.heap.size, 11, none⟩ (.slice a1 16385 c1)) (.slice a1 16385 c1) (cutD 16385 r).l ∧ Below wr.heap.size wr (W3.setCell ⟨w1.heap.size, 11, none⟩ (.slice a1 16385 c1))) := fun W3 L O B3 E => by
            have e1 := L.set 11 (.slice a1 16385 c1)
            rw [HGE1.out] at e1
            have e2 : Below wr.heap.size wr (W3.setCell ⟨w1.heap.size, 11, none⟩ (.slice a1 16385 c1)) := Below.setCell E H1.out.2.size _
            exact ⟨by rw [HGE5.out]; exact e1, HI.out.1.kept e2, bst_take (B3.keep (ktb_cells L (by decide) 11 [.slice a1 16385 c1])) 16385 (by omega), e2⟩
          go_wp2_with (first
            | (refine wpList_alloc_R HZ.out rfl rfl ?_)
            | (refine wpList_store_mid rfl 32 (.tmp 7) (.tmp 23) rfl w1.heap.size 0 G1.toArray rfl rfl HTH.out (by simpa using HGL1.out) (all_oneCell_toArray HG11.out) ?_; (obtain ⟨W3, hW3, hq⟩ := H3.out); (have H6 : Hid _ := hq); (rw [List.toList_toArray, ← hW3]); (clear hW3 hq H3 HTH); (have x11 := H4.out W3 H6.out.1); (have f11 := H6.out.1.free 11))
            | (refine wpList_load_mid rfl 32 (.tmp 7) rfl w1.heap.size 0 rfl G5 _ (HL5.out W3 H6.out.1 H6.out.2.1 H6.out.2.2.1 H6.out.2.2.2).1.range Tryz.underlying32 rfl HGL5.out ?_; (obtain ⟨W5, hW5⟩ : ∃ W, W = W3.setCell ⟨w1.heap.size, 11, none⟩ (.slice a1 16385 c1) := ⟨_, rfl⟩); (have H5 : Hid (LB W5 w1.heap.size 32 G5 ∧ Rr w.heap.size W5 u5 ps ∧ BsT W5 (.slice a1 16385 c1) (cutD 16385 r).l ∧ Below wr.heap.size wr W5) := by rw [hW5]; exact HL5.out W3 H6.out.1 H6.out.2.1 H6.out.2.2.1 H6.out.2.2.2); (rw [← hW5]); (clear x11 f11 hW5))
            | (refine wpList_buildR HGE5.out rfl 35 rfl rfl ?_)
            | (at_builtin; refine wpList_append_rr _ rfl (.tmp 34) (.tmp 36) 22 rfl w.heap.size hin Tryz.underlying22 _ ps (cutD 16385 r, .slice a1 16385 c1) rfl (H5.out.2.1.kept (up0 _ _)) _ rfl (by have e := (lb_new W5 G5 32).range; rw [HGE5.out] at e ⊢; exact e) rfl (H5.out.2.2.1.kept (up0 _ _)) (by omega) (Nat.le_trans HI.out.2.2.size (Nat.le_trans H5.out.2.2.2.size (up0 W5 _).size)) ?_))
          intro v2 w2 hr2 hb2 _ _ _
          have R2 : Hid (Rr w.heap.size w2 v2 (ps ++ [(cutD 16385 r, .slice a1 16385 c1)]) ∧ Below w.heap.size w w2) := ⟨hr2, (andThen (andThen HI.out.2.2 H5.out.2.2.2) (up0 W5 _)).trans hb2⟩
          clear hr2 hb2
          go_wp2_with fail
          go_roundw
          case rel => exact ⟨k + 1, ps ++ [(cutD 16385 r, .slice a1 16385 c1)], by omega, by go_num, R2.out.1, by rw [HTK.out, List.map_append, List.map_append, HI.out.2.1]; rfl, R2.out.2⟩
          case measure => simp [mInt]; omega
        · have d9 : ((16385 : Int) < (r.l.length : Int)) = False := by simp; omega
          obtain ⟨G5, hG5⟩ : ∃ G5, G5 = rcE r.x r.nm (.slice a1 r.l.length c1) := ⟨_, rfl⟩
          have HGE5 : Hid (G5 = rcE r.x r.nm (.slice a1 r.l.length c1)) := hG5
          have HGL5 : Hid ((Tryz.prog.info? 32).map (·.size) = some G5.length) := by show _ = _; rw [hG5]; exact HGL1.out.trans (by simp [HGE1.out, rcE])
          clear hG5
          go_wp2_with (first
            | (refine wpList_alloc_R HZ.out rfl rfl ?_)
            | (refine wpList_store_mid rfl 32 (.tmp 7) (.tmp 23) rfl w1.heap.size 0 G1.toArray rfl rfl HTH.out (by simpa using HGL1.out) (all_oneCell_toArray HG11.out) ?_; (obtain ⟨W3, hW3, hq⟩ := H3.out); (have H6 : Hid _ := hq); (rw [List.toList_toArray, ← hW3]); (clear hW3 hq H3 HTH); (have x11 := H4.out W3 H6.out.1); (have f11 := H6.out.1.free 11))
            | (refine wpList_load_mid rfl 32 (.tmp 7) rfl w1.heap.size 0 rfl G5 _ (show LB W3 w1.heap.size 32 G5 from by rw [HGE5.out, ← HGE1.out]; exact H6.out.1).range Tryz.underlying32 rfl HGL5.out ?_; (obtain ⟨W5, hW5⟩ : ∃ W, W = W3 := ⟨_, rfl⟩); (have H5 : Hid (LB W5 w1.heap.size 32 G5 ∧ Rr w.heap.size W5 u5 ps ∧ BsT W5 (.slice a1 r.l.length c1) (cutD 16385 r).l ∧ Below wr.heap.size wr W5) := by rw [hW5]; exact ⟨(by rw [HGE5.out, ← HGE1.out]; exact H6.out.1), H6.out.2.1, (by rw [cutD_of (show r.l.length ≤ 16385 by omega)]; exact H6.out.2.2.1), H6.out.2.2.2⟩); (rw [← hW5]); (clear x11 f11 hW5))
            | (refine wpList_buildR HGE5.out rfl 35 rfl rfl ?_)
            | (at_builtin; refine wpList_append_rr _ rfl (.tmp 34) (.tmp 36) 22 rfl w.heap.size hin Tryz.underlying22 _ ps (cutD 16385 r, .slice a1 r.l.length c1) rfl (H5.out.2.1.kept (up0 _ _)) _ rfl (by have e := (lb_new W5 G5 32).range; rw [HGE5.out] at e ⊢; exact e) rfl (H5.out.2.2.1.kept (up0 _ _)) (by omega) (Nat.le_trans HI.out.2.2.size (Nat.le_trans H5.out.2.2.2.size (up0 W5 _).size)) ?_))
          intro v2 w2 hr2 hb2 _ _ _
          have R2 : Hid (Rr w.heap.size w2 v2 (ps ++ [(cutD 16385 r, .slice a1 r.l.length c1)]) ∧ Below w.heap.size w w2) := ⟨hr2, (andThen (andThen HI.out.2.2 H5.out.2.2.2) (up0 W5 _)).trans hb2⟩
          clear hr2 hb2
          go_wp2_with fail
          go_roundw
          case rel => exact ⟨k + 1, ps ++ [(cutD 16385 r, .slice a1 r.l.length c1)], by omega, by go_num, R2.out.1, by rw [HTK.out, List.map_append, List.map_append, HI.out.2.1]; rfl, R2.out.2⟩
          case measure => simp [mInt]; omega
      · obtain rfl : k = rs.length := by omega
        clear HRA
        go_wp2_with fail
        go_ret
        have e := HI.out.1.rcy
        rw [HI.out.2.1, List.take_of_length_le (by rw [HCL.out]; exact Nat.le_refl _)] at e
        exact ⟨_, rfl, e, HI.out.2.2⟩

end Go.Proofs.YtdnackjakfiffaaGreatDoor
