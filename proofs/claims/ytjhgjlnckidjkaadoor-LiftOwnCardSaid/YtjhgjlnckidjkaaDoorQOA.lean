import Derived.Laws.AppendOwnNone
import Derived.Test.YtjhgjlnckidjkaaDoorQO9
import Derived.Test.YtjhgjlnckidjkaaDoorQU3
import Derived.Test.YtjhgjlnckidjkaaDoorQA3
import Derived.Test.YtjhgjlnckidjkaaDoorQR4
/-
  LiftOwn: its pieces.
-/
namespace Go.Proofs.YtjhgjlnckidjkaaDoor
open Go Go.RowKit Go.ChangeShapes Go.WideShapes Go.ChangeAt
open Wb

theorem upP_good (to : Int) (r : Rec) (hf : r.x.fit) : (upP to r).2.nm.size ≤ 1048576 ∧ (upP to r).2.x.fit ∧ (upP to r).2.l.length ≤ 1048576 := by
  have hz : zRec.nm.size ≤ 1048576 ∧ zRec.x.fit ∧ zRec.l.length ≤ 1048576 := ⟨Nat.zero_le _, zRec_fit, Nat.zero_le _⟩
  have hc : lckE to r = 0 → (carP to r).nm.size ≤ 1048576 ∧ (carP to r).x.fit ∧ (carP to r).l.length ≤ 1048576 := fun h => by
    have hs := carL_small (Lft.go r.x.v to 4).2 r (small_of r hf (chk_of_lck h))
    exact ⟨Nat.le_trans hs.1 (by decide), carL_fit _ r hf, Nat.le_trans hs.2 (by decide)⟩
  unfold upP
  by_cases h1 : lckE to r ≠ 0
  · rw [if_pos h1]; exact hz
  · rw [if_neg h1]
    split
    · exact hz
    · exact hc (Decidable.not_not.1 h1)
theorem downP_good (to : Int) (r : Rec) (hf : r.x.fit) : (downP to r).2.nm.size ≤ 1048576 ∧ (downP to r).2.x.fit ∧ (downP to r).2.l.length ≤ 1048576 := by
  have hz : zRec.nm.size ≤ 1048576 ∧ zRec.x.fit ∧ zRec.l.length ≤ 1048576 := ⟨Nat.zero_le _, zRec_fit, Nat.zero_le _⟩
  have hc : lckE to r = 0 → (carP to r).nm.size ≤ 1048576 ∧ (carP to r).x.fit ∧ (carP to r).l.length ≤ 1048576 := fun h => by
    have hs := carL_small (Lft.go r.x.v to 4).2 r (small_of r hf (chk_of_lck h))
    exact ⟨Nat.le_trans hs.1 (by decide), carL_fit _ r hf, Nat.le_trans hs.2 (by decide)⟩
  unfold downP
  by_cases h1 : lckE to r ≠ 0
  · rw [if_pos h1]; exact hz
  · rw [if_neg h1]
    split
    · exact hz
    · split
      · exact hc (Decidable.not_not.1 h1)
      · exact hz
theorem lifted_good {to : Int} {rs ps0 : List Rec} {i z : Int} (hU : UaAns to rs ps0 i z) (hg : OGood rs) (h5 : rs.length ≤ 5000) : LGood (ps0 ++ liftedL to rs) ∧ (ps0 ++ liftedL to rs).length ≤ 15000 := by
  have h9 := (lifted_short hU hg).2
  refine ⟨⟨fun r hr => ?_, by omega⟩, by omega⟩
  rcases List.mem_append.1 hr with hr | hr
  · unfold UaAns at hU
    by_cases ht : 1 ≤ to ∧ to ≤ 3
    · rw [if_pos ht] at hU
      rcases hU with ⟨_, e, _⟩ | ⟨_, _, _, _, _, e, _⟩
      · rw [e] at hr
        obtain ⟨r0, hr0, rfl⟩ := List.mem_map.1 hr
        exact upP_good to r0 (hg.each r0 hr0).2.1
      · rw [e] at hr; cases hr
    · rw [if_neg ht] at hU
      rw [hU.1] at hr; cases hr
  · obtain ⟨r0, hr0, hm⟩ := List.mem_flatMap.1 hr
    simp only [List.mem_cons, List.not_mem_nil, or_false] at hm
    rcases hm with rfl | rfl
    · exact upP_good to r0 (hg.each r0 hr0).2.1
    · exact downP_good to r0 (hg.each r0 hr0).2.1
theorem liftedY {to : Int} {rs P0 : List Rec} {i z : Int} (hU : UaAns to rs P0 i z) (v : Value) (w : World) (h : RecsAt w v rs) (hg : OGood rs) (hT : ETabs w) :
    Calls Tryd.prog 17 #[.int .i64 to, v] w fun e w' => ∃ v' ps, e = .returned v' ∧ Rws w.heap.size w' v' ps ∧ ps.map Prod.fst = P0 ++ liftedL to rs ∧ Below w.heap.size w w' :=
  (lifted_any to v rs w h hg hT).mono fun _ _ ⟨v', ps, _, _, _, he, hR, hU', hm, hb⟩ => ⟨v', ps, he, hR, by rw [hm, (uaAns_one hU hU').1], hb⟩
theorem filledM {B : Nat} {w : World} {v vl : Value} {ps : List (Rec × Value)} (h : Rws B w v ps) (hL : Lst B w vl (ps.map Prod.snd) (cOf ps)) (hn : ps.length ≤ 9000000) (hc : ∀ p ∈ ps, p.1.l.length ≤ 1048576) (hB : B ≤ w.heap.size) :
    Calls Tryd.prog 19 #[vl] w fun e w' => ∃ vm fs, e = .returned vm ∧ Fam5 B w' v vm ps fs ∧ Below B w w' ∧ Frm (ps.map Prod.snd) w w' :=
  (filled_any B vl (ps.map Prod.snd) (cOf ps) w hL (by rw [List.length_map]; exact hn) (cOf_len hc) hB).mono fun e w' ⟨vm, fs, he, hl, hf, hr, hF, hb⟩ => ⟨vm, fs, he, ⟨rws_filled h hf hF, hf, ownsBase hr, by rw [hl, List.length_map]⟩, hb, hF⟩
theorem own_weak {B B2 : Nat} {w : World} {d : Value} {l : List Nat} (h : Own B2 w d l) (hB : B ≤ B2) : Own B w d l := by
  refine ⟨⟨h.row.1, ?_⟩, h.good⟩
  rcases h.row.2 with h1 | ⟨g, cap, cur, e, hb, rest⟩
  · exact .inl h1
  · exact .inr ⟨g, cap, cur, e, Nat.le_trans hB hb, rest⟩
theorem Rws.cat {B B2 : Nat} {w w' : World} {v v2 v' : Value} {ps qs : List (Rec × Value)} (h : Rws B w v ps) (h2 : Rws B2 w v2 qs) (hB2 : B ≤ B2) (hlt : ∀ p ∈ ps, ∀ g, p.2.ownBlock = some g → g < B2) (hvlt : ∀ g, v.ownBlock = some g → g < B2)
    (hr : w'.ownsRow B 38 12 v' (ps ++ qs).length ((ps ++ qs).flatMap rcl)) (hg : w.grownBy w' v.ownBlock) (he : v'.ownBlock = v.ownBlock ∨ v'.ownBlock = some w.heap.size) : Rws B w' v' (ps ++ qs) := by
  have hge : ∀ q ∈ qs, ∀ g, q.2.ownBlock = some g → B2 ≤ g := fun q hq g hg => (World.ownsRow.lt (h2.own q hq).row g hg).1
  have hall : ∀ p ∈ ps ++ qs, Own B w p.2 p.1.l ∧ ∀ g, v.ownBlock = some g → p.2.ownBlock ≠ some g := fun p hp => by
    rcases List.mem_append.1 hp with hp | hp
    · exact ⟨h.own p hp, h.row p hp⟩
    · refine ⟨own_weak (h2.own p hp) hB2, fun g hg e => ?_⟩
      have h1 := hge p hp g e
      have h3 := hvlt g hg
      omega
  have hown : ∀ p ∈ ps ++ qs, Own B w' p.2 p.1.l := fun p hp => own_kept2 (hall p hp).1 fun g hg' => hg.block g (World.ownsRow.lt (hall p hp).1.row g hg').2 (fun e => (hall p hp).2 g e.symm hg')
  have hrow : ∀ p ∈ ps ++ qs, ∀ g, v'.ownBlock = some g → p.2.ownBlock ≠ some g := fun p hp g hg' e => by
    rcases he with e1 | e1
    · exact (hall p hp).2 g (e1 ▸ hg') e
    · rw [e1] at hg'
      obtain rfl := Option.some.inj hg'
      exact absurd (World.ownsRow.lt (hall p hp).1.row _ e).2 (Nat.lt_irrefl _)
  refine ⟨⟨hr, fun p hp => ⟨(hown p hp).bs, fun g hg' => off_block (hrow p hp g hg')⟩⟩, hown, fun i j p q hp hq hij g hpg hqg => ?_, hrow⟩
  by_cases hi : i < ps.length
  · rw [List.getElem?_append_left hi] at hp
    have a1 := hlt p (List.mem_of_getElem? hp) g hpg
    by_cases hj : j < ps.length
    · rw [List.getElem?_append_left hj] at hq
      exact h.apart i j p q hp hq hij g hpg hqg
    · rw [List.getElem?_append_right (by omega)] at hq
      have a2 := hge q (List.mem_of_getElem? hq) g hqg
      omega
  · rw [List.getElem?_append_right (by omega)] at hp
    have a1 := hge p (List.mem_of_getElem? hp) g hpg
    by_cases hj : j < ps.length
    · rw [List.getElem?_append_left hj] at hq
      have a2 := hlt q (List.mem_of_getElem? hq) g hqg
      omega
    · rw [List.getElem?_append_right (by omega)] at hq
      exact h2.apart _ _ p q hp hq (by omega) g hpg hqg
theorem rcl12 : ∀ ps : List (Rec × Value), (ps.flatMap rcl).length = ps.length * 12
  | [] => rfl
  | p :: ps => by
    rw [List.flatMap_cons, List.length_append, rcl12 ps, List.length_cons]
    show 12 + _ = _
    omega
theorem wpList_append_cat {P : Program} (w : World) {ops : Array Oper} {rest : List Oper} {o : Oper} {a : Act} {Q : Exit → Act → World → Prop} (hgd : o.guard = none) (s x : Operand) (t : TypeId)
    (ho : o.op = .call { callee := .builtin .append, args := #[s, x], argTypes := #[t, t] })
    (B B2 : Nat) (hinfo : (P.info? 38).map (fun i => (i.zero, i.size, i.bytes)) = some (some (.agg #[.int .i64 0, .int .i64 0, .int .i64 0, .int .i64 0, .int .i64 0, .int .i64 0, .int .i64 0, .int .i64 0, .int .i64 0, .int .i64 0, .string ⟨#[]⟩, .slice none 0 0]), 12, 120)) (ht : P.underlying t = some (.slice 38))
    (v v2 : Value) (ps qs : List (Rec × Value)) (hv : a.eval s = v) (hx : a.eval x = v2) (h : Rws B w v ps) (h2 : Rws B2 w v2 qs) (hB2 : B ≤ B2) (hlt : ∀ p ∈ ps, ∀ g, p.2.ownBlock = some g → g < B2) (hvlt : ∀ g, v.ownBlock = some g → g < B2)
    (hmax : (ps.length + qs.length) * 120 ≤ 140737488355328) (hB : B ≤ w.heap.size)
    (hK : ∀ v' w', Rws B w' v' (ps ++ qs) → w.grownBy w' v.ownBlock → wpList P ops Q rest (a.put o.dst v') w') : wpList P ops Q (o :: rest) a w := by
  obtain ⟨i0, hi, hz0, hz1, hz2⟩ := Lft.info_parts3 hinfo
  have hrow2 := h2.recs.1
  rcases h2.recs.1.2 with ⟨e2, hq0⟩ | ⟨g2, cap2, cur, e2, _, _, hn2, hm2, _, _⟩
  · obtain rfl : qs = [] := List.length_eq_zero_iff.1 hq0
    refine wpList_append_own_none hgd s x t ho B 38 i0 12 ht hi v ps.length (ps.flatMap rcl) hv h.recs.1 (by rw [hx, e2]) ?_
    exact hK v w (by rw [List.append_nil]; exact h) ⟨rfl, rfl, rfl, Nat.le_refl _, fun _ _ _ => rfl⟩
  · rw [e2] at hrow2
    refine wpList_append_own_at w hgd s x t ho B 38 i0 _ 12 120 ht hi hz0 hz1 hz2 rfl (by decide) v ps.length (ps.flatMap rcl) hv h.recs.1 ⟨g2, 0, none⟩ qs.length cap2 (qs.flatMap rcl) (by rw [hx, e2]) (rcl12 qs) ?_ ?_ (by unfold maxLen; omega) (by omega) hB ?_
    · intro j u hj
      have hjl := (List.getElem?_eq_some_iff.1 hj).1
      rw [rcl12] at hjl
      rw [Addr.add_lit, Nat.zero_add, ← hj]
      exact World.ownsRow.cellAt hrow2 j hjl
    · intro u hu
      obtain ⟨q, hq, hu⟩ := List.mem_flatMap.1 hu
      have hqo : q.2.oneCell' = true := by
        obtain ⟨ao, cp, e, _⟩ := (h2.own q hq).bs.shape
        rw [e]; rfl
      simp only [rcl, List.mem_cons, List.not_mem_nil, or_false] at hu
      rcases hu with rfl | rfl | rfl | rfl | rfl | rfl | rfl | rfl | rfl | rfl | rfl | rfl
      all_goals first | rfl | exact hqo
    · intro v' w' h3 h4 _ h5
      exact hK v' w' (h.cat h2 hB2 hlt hvlt (by rw [List.length_append, List.flatMap_append]; exact h3) h4 h5) h4
theorem outs_frame {B : Nat} {w w' : World} {v : Value} {ps : List (Rec × Value)} (h : Outs B w v ps) (lo : ∀ g, g < B → ∀ p ∈ ps, Off g p.2 p.1.l) (hs : ∀ g, B ≤ g → g < w.heap.size → w'.heap[g]? = w.heap[g]?) : Outs B w' v ps := by
  refine ⟨owns_block h.1 fun g hg => hs g (World.ownsRow.lt h.1 g hg).1 (World.ownsRow.lt h.1 g hg).2, fun p hp => ⟨?_, (h.2 p hp).2⟩⟩
  have hb := (h.2 p hp).1
  have hlo := fun g hg => lo g hg p hp
  obtain ⟨pr, pd⟩ := p
  obtain ⟨ao, cap, e0, h1, h2, h3, h4⟩ := hb.shape
  simp only at e0 hb hlo h4 ⊢
  subst e0
  refine ⟨⟨ao, cap, rfl, h1, h2, h3, fun hne => ?_⟩, hb.good⟩
  obtain ⟨b, off, rfl, hc⟩ := h4 hne
  refine ⟨b, off, rfl, fun j hj => ?_⟩
  rw [← hc j hj]
  refine World.cell?_of_block (w := w) (hs b ?_ (hb.lt (Nat.lt_of_le_of_lt (Nat.zero_le _) hj)))
  exact Nat.le_of_not_lt fun hlt => hlo b hlt hne b off _ _ rfl rfl
set_option maxRecDepth 100000 in
theorem open_caps {H : Type} {enc : TypeId × Value → H} {W : World} {base : Nat} {v : Value} {d : DataW H} {p : List MemPlace} (hv : Value.okWide Tryd.prog W .any base 22 v)
    (h : DataW.Trod enc Tryd.prog W 0 (fun _ => true) true 22 v d p) : ∀ ao (len cap : Nat), v = .slice ao len cap → len ≤ cap ∧ cap ≤ maxLen := by
  intro ao len cap e
  subst e
  obtain ⟨fuel, hf⟩ := h
  have hf' : DataW.trod enc Tryd.prog W 0 (fun _ => true) true fuel 22 [Value.slice ao len cap] = some (d, p) := hf
  rcases Deep.open_slice Tryd.underlying22 hf' with ⟨hcs, _⟩ | ⟨a, len0, cap0, m, n, D, Pl, hcs, _, hl, hm, _⟩
  · simp at hcs
    obtain ⟨_, rfl, rfl⟩ := hcs
    exact ⟨Nat.le_refl _, Nat.zero_le _⟩
  · simp at hcs
    obtain ⟨_, rfl, rfl⟩ := hcs
    exact ⟨hl, hm⟩
theorem recsAt_take {w : World} {ao : Option Addr} {cap : Nat} {rs : List Rec} (h : RecsAt w (.slice ao rs.length cap) rs) (k : Nat) (hk : k ≤ rs.length) : RecsAt w (.slice ao k cap) (rs.take k) := by
  obtain ⟨ao', cap', e, hm, hc⟩ := h
  simp only [Value.slice.injEq] at e
  obtain ⟨rfl, _, rfl⟩ := e
  have hl : (rs.take k).length = k := by rw [List.length_take]; omega
  refine ⟨ao, cap, by rw [hl], by rw [hl]; omega, fun j r hr => hc j r ?_⟩
  have hj := (List.getElem?_eq_some_iff.1 hr).1
  rw [hl] at hj
  rwa [List.getElem?_take_of_lt hj] at hr
set_option maxRecDepth 100000 in
set_option maxHeartbeats 4000000 in
theorem copiesO_any (v : Value) (rs : List Rec) (w : World) (h : RecsAt w v rs) (hg : OGood rs) :
    Calls Tryd.prog 16 #[v] w fun e w' => ∃ v' ps, e = .returned v' ∧ Laid w.heap.size w' v' (.slice none 0 0) ps [] ∧ ps.map Prod.fst = rs ∧ Below w.heap.size w w' := by
  have hin := infoR12
  have HIR : Hid ((Tryd.prog.info? 38).map (·.size) = some 12) := infoRec
  have HGE : Hid (∀ r ∈ rs, r.nm.size ≤ 140737488355000 ∧ r.x.fit ∧ r.l.length ≤ 4194304) := hg.each
  have hfew := hg.few
  have HRS : Hid (∀ w', Below w.heap.size w w' → RecsAt w' v rs) := fun w' hb => h.kept hb
  obtain ⟨ao, cap, rfl, hm, _⟩ := h
  unfold maxLen at hm
  clear hg
  go_enter Tryd.func16, Tryd.ntmps16
  go_wp2
  go_loopw [3, 4] (fun o i wr => ∃ (k : Nat) (ps : List (Rec × Value)), k ≤ rs.length ∧ i = .int .i64 (k : Int) ∧ Laid w.heap.size wr o (.slice none 0 0) ps [] ∧ ps.map Prod.fst = rs.take k ∧ Below w.heap.size w wr) (fun _ i _ => rs.length - (intOf i).toNat)
  case atStart => exact ⟨0, [], Nat.zero_le _, rfl, Laid.nil _ _, rfl, Below.refl _ _⟩
  case round =>
    obtain ⟨k, ps, hk, rfl, hown, hmap, hbel⟩ := hrel
    by_cases hlt : k < rs.length
    · obtain ⟨r, hr⟩ : ∃ r, rs[k]? = some r := ⟨rs[k], List.getElem?_eq_getElem hlt⟩
      obtain ⟨ao', cap', e', _, hcr⟩ := HRS.out _ hbel
      simp only [Value.slice.injEq] at e'
      obtain ⟨rfl, _, rfl⟩ := e'
      obtain ⟨b, off, d, rfl, hrg, hbs⟩ := hcr k r hr
      have hnf := HGE.out r (List.mem_of_getElem? hr)
      have HTK : Hid (rs.take (k + 1) = rs.take k ++ [r]) := by show _ = _; rw [List.take_add_one, hr]; rfl
      have HMP : Hid (ps.map Prod.fst = rs.take k) := hmap
      have hpl : ps.length = k := by
        have := congrArg List.length hmap
        simpa [Nat.min_eq_left hk] using this
      have HCL : Hid (Calls Tryd.prog 34 #[rv r.x r.nm d] wr fun e w'' => ∃ ao', ∃ cap' : Nat, e = .returned (rv r.x r.nm (.slice ao' r.l.length cap')) ∧ Own wr.heap.size w'' (.slice ao' r.l.length cap') r.l ∧ Below wr.heap.size wr w'') := (refclone_any r.x r.nm d r.l wr hbs (by omega)).mono fun e w'' ⟨d', he, ho, hb''⟩ => by
        obtain ⟨ao', cap', rfl, _⟩ := ho.bs.shape
        exact ⟨ao', cap', he, ho, hb''⟩
      obtain ⟨ar, cr, rfl, _⟩ := hbs.shape
      have HR0 : Hid (wr.rangeAt b (off + k * 12) [.int .i64 r.x.v, .int .i64 r.x.k, .int .i64 r.x.s, .int .i64 r.x.p, .int .i64 r.x.t, .int .i64 r.x.a, .int .i64 r.x.l, .int .i64 r.x.c, .int .i64 r.x.n, .int .i64 r.x.i, .string r.nm, .slice ar r.l.length cr]) := hrg
      have HOW : Hid (Laid w.heap.size wr u3 (.slice none 0 0) ps [] ∧ Below w.heap.size w wr) := ⟨hown, hbel⟩
      clear hcr hrg hbs hown hbel hnf HGE HRS hmap hr
      unfold rv at *
      go_wp2_with (refine wpList_load_mid rfl 38 _ rfl b (off + k * 12) rfl [.int .i64 r.x.v, .int .i64 r.x.k, .int .i64 r.x.s, .int .i64 r.x.p, .int .i64 r.x.t, .int .i64 r.x.a, .int .i64 r.x.l, .int .i64 r.x.c, .int .i64 r.x.n, .int .i64 r.x.i, .string r.nm, .slice ar r.l.length cr] _ HR0.out Tryd.underlying38 rfl HIR.out ?_)
      refine HCL.out.mono ?_
      rintro e w1 ⟨a1, cp1, rfl, ho1, b1⟩
      have hsz : w.heap.size ≤ wr.heap.size := HOW.out.2.size
      have HO1 : Hid (∀ o, Laid w.heap.size (w1.alloc o) u3 (.slice none 0 0) ps [] ∧ Bs (w1.alloc o) (.slice a1 r.l.length cp1) r.l ∧ Below w.heap.size w (w1.alloc o) ∧ w.heap.size ≤ (w1.alloc o).heap.size) := fun o => ⟨(HOW.out.1.kept b1).kept (up0 _ _), ho1.bs.alloc _, up (andThen HOW.out.2 b1) _, (up (andThen HOW.out.2 b1) _).size⟩
      have HOF : Hid (∀ g, g < wr.heap.size → Off g (.slice a1 r.l.length cp1) r.l) := fun g hg => off_own ho1 g hg
      have HOB : Hid (∀ g, u3.ownBlock = some g → g < wr.heap.size) := fun g hg => (World.ownsRow.lt HOW.out.1.recs.1 g hg).2
      have HR2 : Hid ((w1.alloc (.cells #[.int .i64 r.x.v, .int .i64 r.x.k, .int .i64 r.x.s, .int .i64 r.x.p, .int .i64 r.x.t, .int .i64 r.x.a, .int .i64 r.x.l, .int .i64 r.x.c, .int .i64 r.x.n, .int .i64 r.x.i, .string r.nm, .slice a1 r.l.length cp1] 38)).rangeAt w1.heap.size 0 [.int .i64 r.x.v, .int .i64 r.x.k, .int .i64 r.x.s, .int .i64 r.x.p, .int .i64 r.x.t, .int .i64 r.x.a, .int .i64 r.x.l, .int .i64 r.x.c, .int .i64 r.x.n, .int .i64 r.x.i, .string r.nm, .slice a1 r.l.length cp1]) := new_range w1 #[.int .i64 r.x.v, .int .i64 r.x.k, .int .i64 r.x.s, .int .i64 r.x.p, .int .i64 r.x.t, .int .i64 r.x.a, .int .i64 r.x.l, .int .i64 r.x.c, .int .i64 r.x.n, .int .i64 r.x.i, .string r.nm, .slice a1 r.l.length cp1]
      clear ho1 b1 HOW HR0 HCL
      go_wp2_with (at_builtin; refine wpList_append_rec2 _ rfl (.tmp 11) (.tmp 17) 22 rfl w.heap.size hin Tryd.underlying22 _ ps (r, .slice a1 r.l.length cp1) rfl (HO1.out _).1.recs _ rfl HR2.out rfl (HO1.out _).2.1 (fun g hg => HOF.out g (HOB.out g hg)) (by omega) (HO1.out _).2.2.2 ?_)
      intro v2 w2 hr2 hg2 he2
      have R2 : Hid (Laid w.heap.size w2 v2 (.slice none 0 0) (ps ++ [(r, .slice a1 r.l.length cp1)]) [] ∧ Below w.heap.size w w2) := ⟨(HO1.out _).1.more _ hr2 hg2 (by rw [heap_one]; exact he2) (fun g hg => by cases hg) (fun g hg => HOF.out g (by omega)), (HO1.out _).2.2.1.trans (grown_below (HO1.out _).1.recs.1 hg2 (HO1.out _).2.2.2)⟩
      clear hr2 hg2 he2 HO1 HOF HOB HR2
      go_wp2
      go_roundw
      case rel => exact ⟨k + 1, ps ++ [(r, .slice a1 r.l.length cp1)], by omega, by go_num, R2.out.1, by rw [HTK.out, List.map_append, HMP.out]; rfl, R2.out.2⟩
      case measure => simp [intOf]; omega
    · obtain rfl : k = rs.length := by omega
      rw [List.take_length] at hmap
      clear HRS HGE
      go_wp2
      go_ret
      exact ⟨_, ps, rfl, hown, hmap, hbel⟩
/-- any records -/
def AGood (rs : List Rec) : Prop := ∀ r ∈ rs, r.nm.size ≤ 140737488355000 ∧ r.x.fit ∧ r.l.length ≤ 140737488355000
theorem good_of {rs : List Rec} (h : AGood rs) (hl : ∀ r ∈ rs, r.l.length ≤ 4194304) (h5 : rs.length ≤ 5000) : OGood rs := ⟨fun r hr => ⟨(h r hr).1, (h r hr).2.1, hl r hr⟩, by omega⟩
/-- what light answers -/
def LiPost (w : World) (e : Ending) (w' : World) : Prop := ∃ v' rs', e = .returned v' ∧ RecsAt w v' rs' ∧ OGood rs' ∧ rs'.length ≤ 5000 ∧ w' = w
set_option maxRecDepth 100000 in
set_option maxHeartbeats 2000000 in
theorem light_any (v : Value) (rs : List Rec) (w : World) (h : RecsAt w v rs) (hg : AGood rs) (hcp : ∀ ao (len cap : Nat), v = .slice ao len cap → len ≤ cap ∧ cap ≤ maxLen) :
    Calls Tryd.prog 15 #[v] w fun e w' => LiPost w e w' := by
  have HRS : Hid (RecsAt w v rs) := h
  have HG : Hid (AGood rs) := hg
  obtain ⟨ao, cap, rfl, _⟩ := h
  obtain ⟨hc1, hc2⟩ := hcp _ _ _ rfl
  unfold maxLen at hc2
  clear hg hcp
  go_enter Tryd.func15, Tryd.ntmps15
  go_wp2
  go_loopw [3, 4] (fun m i wr => wr = w ∧ ∃ k nn : Nat, k ≤ rs.length ∧ k ≤ 5000 ∧ nn ≤ 4194304 ∧ (∀ r ∈ rs.take k, r.l.length ≤ 4194304) ∧ m = .int .i64 (nn : Int) ∧ i = .int .i64 (k : Int)) (fun _ i _ => rs.length - (intOf i).toNat)
  case atStart => exact ⟨rfl, 0, 0, Nat.zero_le _, Nat.zero_le _, Nat.zero_le _, (fun r hr => nomatch hr), rfl, rfl⟩
  case round =>
    obtain ⟨rfl, k, nn, hk, hk5, hnn, hall, rfl, rfl⟩ := hrel
    by_cases hlt : k < rs.length
    · obtain ⟨r, hr⟩ : ∃ r, rs[k]? = some r := ⟨rs[k], List.getElem?_eq_getElem hlt⟩
      obtain ⟨b, off, d, rfl, hrg, hbs⟩ := HRS.out.spot k r hr
      have hrl := (HG.out r (List.mem_of_getElem? hr)).2.2
      have HTK : Hid (rs.take (k + 1) = rs.take k ++ [r]) := by show _ = _; rw [List.take_add_one, hr]; rfl
      obtain ⟨rl, hrle⟩ : ∃ rl, r.l.length = rl := ⟨_, rfl⟩
      obtain ⟨ad, cd, e3, _⟩ := hbs.shape
      rw [hrle] at e3 hrl
      subst e3
      have c11 : wr.cell? ⟨b, off + k * 12 + 11, none⟩ = some (.slice ad rl cd) := hrg 11 _ rfl
      have HP : Hid (∀ e, e = Ending.returned (.slice (some ⟨b, off, none⟩) k cap) → LiPost wr e wr) := fun e he => ⟨_, rs.take k, he, recsAt_take HRS.out k hk, good_of (fun r hr => HG.out r (List.mem_of_mem_take hr)) hall (by rw [List.length_take]; omega), by rw [List.length_take]; omega, rfl⟩
      have HN : Hid (nn + rl ≤ 4194304 → ∀ r ∈ rs.take (k + 1), r.l.length ≤ 4194304) := fun hle q hq => by
        rw [HTK.out] at hq
        rcases List.mem_append.1 hq with hq | hq
        · exact hall q hq
        · obtain rfl := List.mem_singleton.1 hq
          omega
      clear hrg hbs hr HRS HG hrle hall HTK
      by_cases h5 : 5000 ≤ k
      · have h5i : (5000 : Int) ≤ (k : Int) := by omega
        go_wp2
        go_ret
        exact HP.out _ rfl
      · have h5i : ¬ ((5000 : Int) ≤ (k : Int)) := by omega
        by_cases hb : 4194304 < nn + rl
        · have hbi : (4194304 : Int) < (nn : Int) + (rl : Int) := by omega
          go_wp2
          go_ret
          exact HP.out _ rfl
        · have hbi : ¬ ((4194304 : Int) < (nn : Int) + (rl : Int)) := by omega
          go_wp2
          go_roundw
          case rel => exact ⟨trivial, k + 1, nn + rl, by omega, by omega, by omega, HN.out (by omega), by go_num, by go_num⟩
          case measure => simp [intOf]; omega
    · obtain rfl : k = rs.length := by omega
      rw [List.take_length] at hall
      have HP : Hid (∀ e, e = Ending.returned (.slice ao rs.length cap) → LiPost wr e wr) := fun e he => ⟨_, rs, he, HRS.out, good_of HG.out hall hk5, hk5, rfl⟩
      clear HRS HG hall
      go_wp2
      go_ret
      exact HP.out _ rfl
end Go.Proofs.YtjhgjlnckidjkaaDoor

/-
  LiftOwn: the law's walk.
-/
namespace Go.Proofs.YtjhgjlnckidjkaaDoor
open Go Go.RowKit
open Wb

set_option maxRecDepth 100000 in
set_option maxHeartbeats 16000000 in
theorem lown_any (to : Int) (v : Value) (rs0 : List Rec) (w : World) (h : RecsAt w v rs0) (hg : AGood rs0) (hcp : ∀ ao (len cap : Nat), v = .slice ao len cap → len ≤ cap ∧ cap ≤ maxLen) (hT : ETabs w) :
    Calls Tryd.prog 4 #[.int .i64 to, v] w fun e w' => e = .returned (.bool true) ∧ Below w.heap.size w w' := by
  have hin := infoR12
  have HT : Hid (∀ w', Below w.heap.size w w' → ETabs w') := fun w' hb => hT.kept hb
  have HLI : Hid (Calls Tryd.prog 15 #[v] w fun e w' => LiPost w e w') := light_any v rs0 w h hg hcp
  obtain ⟨av, cv, rfl, _⟩ := h
  clear hg hT hcp
  go_enter Tryd.func4, Tryd.ntmps4
  go_wp2_with fail
  refine HLI.out.mono ?_
  rintro e w0 ⟨vr, rs, rfl, hra, hG, h5, rfl⟩
  have HRA : Hid (∀ w', Below w0.heap.size w0 w' → RecsAt w' vr rs) := fun w' hb => hra.kept hb
  have HG : Hid (OGood rs) := hG
  have HCO : Hid (Calls Tryd.prog 16 #[vr] w0 fun e w' => ∃ v' ps, e = .returned v' ∧ Laid w0.heap.size w' v' (.slice none 0 0) ps [] ∧ ps.map Prod.fst = rs ∧ Below w0.heap.size w0 w') := copiesO_any vr rs w0 hra hG
  have HST : Hid (∀ w', Below w0.heap.size w0 w' → Calls Tryd.prog 14 #[] w' fun e w'' => e = .returned (.bool true) ∧ Below w'.heap.size w' w'') := fun w' hb => lstartedE_any w' (HT.out _ hb)
  have HL : Hid (∀ w', Below w0.heap.size w0 w' → Calls Tryd.prog 17 #[.int .i64 to, vr] w' fun e w'' => ∃ v' ps ps0 i z, e = .returned v' ∧ Rws w'.heap.size w'' v' ps ∧ UaAns to rs ps0 i z ∧ ps.map Prod.fst = ps0 ++ liftedL to rs ∧ Below w'.heap.size w' w'') := fun w' hb => lifted_any to vr rs w' (HRA.out _ hb) HG.out (HT.out _ hb)
  clear hra hG HLI
  go_wp2_with fail
  refine HCO.out.mono ?_
  rintro e w1 ⟨vin, pin, rfl, hIn, hmi, b1⟩
  have HIN : Hid (∀ w', Below w1.heap.size w1 w' → RecsAt w' vin rs) := fun w' hb => by
    have := hIn.recs.recsAt
    rw [hmi] at this
    exact this.kept hb
  clear hIn hmi HCO
  go_wp2_with fail
  refine (HL.out _ b1).mono ?_
  rintro e w2 ⟨v1, ps1, P0, i0, z0, rfl, hR1, hU, hm1, b2⟩
  obtain ⟨hgL, hlL⟩ := lifted_good hU HG.out h5
  have HLY : Hid (∀ w', Below w0.heap.size w0 w' → Calls Tryd.prog 17 #[.int .i64 to, vr] w' fun e w'' => ∃ v' ps, e = .returned v' ∧ Rws w'.heap.size w'' v' ps ∧ ps.map Prod.fst = P0 ++ liftedL to rs ∧ Below w'.heap.size w' w'') := fun w' hb => liftedY hU vr w' (HRA.out _ hb) HG.out (HT.out _ hb)
  clear hU HL
  generalize P0 ++ liftedL to rs = L at *
  have HGL : Hid (LGood L) := hgL
  have hn1 : ps1.length ≤ 15000 := by
    rw [← hm1, List.length_map] at hlL
    exact hlL
  have hra1 := hR1.recs.recsAt
  rw [hm1] at hra1
  have HR1 : Hid (∀ w', Below w2.heap.size w2 w' → Rws w1.heap.size w' v1 ps1 ∧ RecsAt w' v1 L) := fun w' hb => ⟨hR1.kept hb, hra1.kept hb⟩
  have HD1 : Hid ((∀ p ∈ ps1, ∀ g, p.2.ownBlock = some g → g < w2.heap.size) ∧ (∀ g, v1.ownBlock = some g → g < w2.heap.size) ∧ ps1.map Prod.fst = L) := ⟨fun p hp g hg => (World.ownsRow.lt (hR1.own p hp).row g hg).2, fun g hg => (World.ownsRow.lt hR1.recs.1 g hg).2, hm1⟩
  have HCW : Hid (Calls Tryd.prog 16 #[v1] w2 fun e w' => ∃ v' ps, e = .returned v' ∧ Laid w2.heap.size w' v' (.slice none 0 0) ps [] ∧ ps.map Prod.fst = L ∧ Below w2.heap.size w2 w') := copies_any v1 L w2 hra1 hgL
  clear hR1 hm1 hra1 hgL
  go_wp2_with fail
  refine HCW.out.mono ?_
  rintro e w3 ⟨vw3, pw, rfl, hWs, hmw, b3⟩
  have HWS : Hid (∀ w', (∀ g, w2.heap.size ≤ g → g < w3.heap.size → w'.heap[g]? = w3.heap[g]?) → RecsAt w' vw3 L) := fun w' hs => by
    have := (outs_frame hWs.recs hWs.lowp hs).recsAt
    rw [hmw] at this
    exact this
  have HW3 : Hid (∀ w', Below w3.heap.size w3 w' → RecsAt w' vw3 L) := fun w' hb => HWS.out w' fun g _ hg => hb.block g hg
  have B13 := andThen b2 b3
  have B03 := andThen b1 B13
  clear hWs hmw HCW
  go_wp2_with fail
  refine (HLY.out _ B03).mono ?_
  rintro e w4 ⟨v2, ps2, rfl, hR2, hm2, b4⟩
  have hn2 : ps2.length ≤ 15000 := by
    have h9 := hlL
    rw [← hm2, List.length_map] at h9
    exact h9
  have hra2 := hR2.recs.recsAt
  rw [hm2] at hra2
  have HR2 : Hid (∀ w', Below w4.heap.size w4 w' → Rws w3.heap.size w' v2 ps2) := fun w' hb => hR2.kept hb
  have HD2 : Hid ((∀ p ∈ ps2, ∀ g, p.2.ownBlock = some g → w3.heap.size ≤ g) ∧ ps2.map Prod.fst = L) := ⟨fun p hp g hg => (World.ownsRow.lt (hR2.own p hp).row g hg).1, hm2⟩
  have HRA2 : Hid (RecsAt w4 v2 L) := hra2
  clear hR2 hm2 hra2
  have HS1 : Hid (Calls Tryd.prog 18 #[v2, vw3] w4 fun e w' => e = .returned (.bool true) ∧ Below w4.heap.size w4 w') := sameAllR_ok _ _ L w4 HRA2.out (HW3.out _ b4)
  clear HRA2
  go_wp2_with fail
  refine HS1.out.mono ?_
  rintro e w5 ⟨rfl, b5⟩
  have B35 := andThen b4 b5
  have HS2 : Hid (Calls Tryd.prog 18 #[v1, vw3] w5 fun e w' => e = .returned (.bool true) ∧ Below w5.heap.size w5 w') := sameAllR_ok _ _ L w5 (HR1.out _ (andThen b3 B35)).2 (HW3.out _ B35)
  clear HS1
  go_wp2_with fail
  refine HS2.out.mono ?_
  rintro e w6 ⟨rfl, b6⟩
  have B36 := andThen B35 b6
  have B26 := andThen b3 B36
  have hR1 := (HR1.out _ B26).1
  have hR2 := HR2.out _ (andThen b5 b6)
  have h23 : w2.heap.size ≤ w3.heap.size := b3.size
  have h12 : w1.heap.size ≤ w2.heap.size := b2.size
  have h26 : w2.heap.size ≤ w6.heap.size := B26.size
  clear HS2
  go_wp2_with (at_builtin; refine wpList_append_cat _ rfl (.tmp 36) (.tmp 37) 22 rfl w1.heap.size w3.heap.size hin Tryd.underlying22 v1 v2 ps1 ps2 rfl rfl hR1 hR2 (by omega) (fun p hp g hg => Nat.lt_of_lt_of_le (HD1.out.1 p hp g hg) h23) (fun g hg => Nat.lt_of_lt_of_le (HD1.out.2.1 g hg) h23) (by omega) (by omega) ?_)
  intro v3 w7 hR3 hg7
  have b7 : Below w1.heap.size w6 w7 := grown_below hR1.recs.1 hg7 (by omega)
  have S7 : Hid (∀ g, w2.heap.size ≤ g → g < w3.heap.size → w7.heap[g]? = w3.heap[g]?) := fun g h1 h2 => (hg7.block g (Nat.lt_of_lt_of_le h2 B36.size) (fun e => by
    have := HD1.out.2.1 g e.symm
    omega)).trans (B36.block g h2)
  have B17 : Below w1.heap.size w1 w7 := (andThen b2 B26).trans b7
  have hn3 : (ps1 ++ ps2).length ≤ 9000000 := by rw [List.length_append]; omega
  have hs3 : ∀ p ∈ ps1 ++ ps2, p.1.l.length ≤ 1048576 := fun p hp => by
    rcases List.mem_append.1 hp with hp | hp
    · exact (HGL.out.each p.1 (by rw [← HD1.out.2.2]; exact List.mem_map.2 ⟨p, hp, rfl⟩)).2.2
    · exact (HGL.out.each p.1 (by rw [← HD2.out.2]; exact List.mem_map.2 ⟨p, hp, rfl⟩)).2.2
  have HS3 : Hid (∀ p ∈ ps1 ++ ps2, p.1.l.length ≤ 1048576) := hs3
  have HDD : Hid (∀ g, w2.heap.size ≤ g → g < w3.heap.size → ∀ d ∈ (ps1 ++ ps2).map Prod.snd, d.ownBlock ≠ some g) := fun g h1 h2 d hd e => by
    obtain ⟨p, hp, rfl⟩ := List.mem_map.1 hd
    rcases List.mem_append.1 hp with hp | hp
    · have := HD1.out.1 p hp g e
      omega
    · have := HD2.out.1 p hp g e
      omega
  have HE3 : Hid (Calls Tryd.prog 20 #[v3] w7 fun e w' => ∃ vl, e = .returned vl ∧ Lst w1.heap.size w' vl ((ps1 ++ ps2).map Prod.snd) (cOf (ps1 ++ ps2)) ∧ Rws w1.heap.size w' v3 (ps1 ++ ps2) ∧ Below w7.heap.size w7 w') := dataL hR3 hn3
  have h37 : w3.heap.size ≤ w7.heap.size := Nat.le_trans B36.size hg7.size
  clear hR1 hR2 hR3 hg7 b7 HR1 HR2 HD1 HD2 hs3 B36 B26 B35 b4 b5 b6 b2 b3 B13 B03 HW3
  generalize ps1 ++ ps2 = ps3 at *
  go_wp2_with fail
  refine HE3.out.mono ?_
  rintro e w8 ⟨vl3, rfl, hL3, hR3, b8⟩
  have B18 : Below w1.heap.size w1 w8 := andThen B17 b8
  have HF3 : Hid (Calls Tryd.prog 19 #[vl3] w8 fun e w' => ∃ vm fs, e = .returned vm ∧ Fam5 w1.heap.size w' v3 vm ps3 fs ∧ Below w1.heap.size w8 w' ∧ Frm (ps3.map Prod.snd) w8 w') := filledM hR3 hL3 hn3 HS3.out B18.size
  have S8 : Hid (∀ g, w2.heap.size ≤ g → g < w3.heap.size → w8.heap[g]? = w3.heap[g]?) := fun g h1 h2 => (b8.block g (Nat.lt_of_lt_of_le h2 h37)).trans (S7.out g h1 h2)
  have h38 : w3.heap.size ≤ w8.heap.size := Nat.le_trans h37 b8.size
  clear hL3 hR3 b8 HE3 S7 B17
  go_wp2_with fail
  refine HF3.out.mono ?_
  rintro e w9 ⟨vm3, fs3, rfl, hA3, b9, hF9⟩
  have HWS9 : Hid (∀ w', Below w9.heap.size w9 w' → RecsAt w' vw3 L) := fun w' hb => (HWS.out w9 fun g h1 h2 => (hF9.same g (Nat.lt_of_lt_of_le h2 h38) (HDD.out g h1 h2)).trans (S8.out g h1 h2)).kept hb
  have B19 : Below w1.heap.size w1 w9 := B18.trans b9
  have B09 : Below w0.heap.size w0 w9 := andThen b1 B19
  have HA3 : Hid (∀ w', Below w9.heap.size w9 w' → Fam5 w1.heap.size w' v3 vm3 ps3 fs3) := fun w' hb => hA3.kept hb
  have HIN9 : Hid (∀ w', Below w9.heap.size w9 w' → RecsAt w' vin rs ∧ RecsAt w' vr rs ∧ Below w0.heap.size w0 w') := fun w' hb => ⟨HIN.out _ (andThen B19 hb), HRA.out _ (andThen B09 hb), andThen B09 hb⟩
  clear hA3 b9 hF9 HF3 S8 HWS HDD HIN B18 B19 h38 h37
  go_wp2_with fail
  refine (HLY.out _ B09).mono ?_
  rintro e w10 ⟨v4, ps4, rfl, hR4, hm4, b10⟩
  have hn4 : ps4.length ≤ 9000000 := by
    rw [← hm4, List.length_map] at hlL
    omega
  have hra4 := hR4.recs.recsAt
  rw [hm4] at hra4
  have HR4 : Hid (∀ w', Below w10.heap.size w10 w' → Rws w9.heap.size w' v4 ps4 ∧ RecsAt w' v4 L) := fun w' hb => ⟨hR4.kept hb, hra4.kept hb⟩
  have HS4 : Hid (∀ p ∈ ps4, p.1.l.length ≤ 1048576) := fun p hp => (HGL.out.each p.1 (by rw [← hm4]; exact List.mem_map.2 ⟨p, hp, rfl⟩)).2.2
  have HE4 : Hid (Calls Tryd.prog 20 #[v3] w10 fun e w' => ∃ vl, e = .returned vl ∧ Stn w' vl vm3 (ps3.map Prod.snd) (fun i => (cOf ps3 i).length) fs3 ∧ Below w10.heap.size w10 w') := dataS (HA3.out _ b10) hn3
  clear hR4 hm4 hra4
  go_wp2_with fail
  refine HE4.out.mono ?_
  rintro e w11 ⟨vl4, rfl, hS4, b11⟩
  have HE5 : Hid (Calls Tryd.prog 21 #[vl4, vm3] w11 fun e w' => e = .returned (.bool true) ∧ w' = w11) := stand_any vl4 vm3 _ _ fs3 w11 hS4 (by rw [List.length_map]; exact hn3) (cOf_len HS3.out)
  clear hS4 HE4
  go_wp2_with fail
  refine HE5.out.mono ?_
  rintro e w12x ⟨rfl, rfl⟩
  have B911 := andThen b10 b11
  clear HE5
  have HS5 : Hid (Calls Tryd.prog 18 #[v4, vw3] w12x fun e w' => e = .returned (.bool true) ∧ Below w12x.heap.size w12x w') := sameAllR_ok _ _ L w12x (HR4.out _ b11).2 (HWS9.out _ B911)
  go_wp2_with fail
  refine HS5.out.mono ?_
  rintro e w12 ⟨rfl, b12⟩
  have B912 := andThen B911 b12
  have HS6 : Hid (Calls Tryd.prog 18 #[vr, vin] w12 fun e w' => e = .returned (.bool true) ∧ Below w12.heap.size w12 w') := sameAllR_ok _ _ rs w12 (HIN9.out _ B912).2.1 (HIN9.out _ B912).1
  clear HS5
  go_wp2_with fail
  refine HS6.out.mono ?_
  rintro e w13 ⟨rfl, b13⟩
  have B913 := andThen B912 b13
  have HE6 : Hid (Calls Tryd.prog 20 #[v4] w13 fun e w' => ∃ vl, e = .returned vl ∧ Lst w9.heap.size w' vl (ps4.map Prod.snd) (cOf ps4) ∧ Rws w9.heap.size w' v4 ps4 ∧ Below w13.heap.size w13 w') := dataL (HR4.out _ (andThen b11 (andThen b12 b13))).1 hn4
  clear HS6
  go_wp2_with fail
  refine HE6.out.mono ?_
  rintro e w14 ⟨vl6, rfl, hL6, hR6, b14⟩
  have B914 := andThen B913 b14
  have HF6 : Hid (Calls Tryd.prog 19 #[vl6] w14 fun e w' => ∃ vm fs, e = .returned vm ∧ Fam5 w9.heap.size w' v4 vm ps4 fs ∧ Below w9.heap.size w14 w') := filledL hR6 hL6 hn4 HS4.out B914.size
  clear hL6 hR6 b14 HE6 HR4 b10 b11 b12 b13 B911 B912 B913
  go_wp2_with fail
  refine HF6.out.mono ?_
  rintro e w15 ⟨vm6, fs6, rfl, hA6, b15⟩
  have B915 : Below w9.heap.size w9 w15 := B914.trans b15
  have HA6 : Hid (∀ w', Below w15.heap.size w15 w' → Fam5 w9.heap.size w' v4 vm6 ps4 fs6) := fun w' hb => hA6.kept hb
  clear hA6 b15 HF6 B914
  go_wp2_with fail
  refine (HLY.out _ (HIN9.out _ B915).2.2).mono ?_
  rintro e w16 ⟨v5, ps5, rfl, hR5, hm5, b16⟩
  have hra5 := hR5.recs.recsAt
  rw [hm5] at hra5
  have HRA5 : Hid (∀ w', Below w16.heap.size w16 w' → RecsAt w' v5 L) := fun w' hb => hra5.kept hb
  have B916 := andThen B915 b16
  have HS16 : Hid (Calls Tryd.prog 14 #[] w16 fun e w'' => e = .returned (.bool true) ∧ Below w16.heap.size w16 w'') := HST.out _ (HIN9.out _ B916).2.2
  clear hR5 hm5 hra5 HLY
  go_wp2_with fail
  refine HS16.out.mono ?_
  rintro e w17 ⟨rfl, b17⟩
  have B917 := andThen B916 b17
  have B1517 := andThen b16 b17
  have HE7 : Hid (Calls Tryd.prog 20 #[v3] w17 fun e w' => ∃ vl, e = .returned vl ∧ Stn w' vl vm3 (ps3.map Prod.snd) (fun i => (cOf ps3 i).length) fs3 ∧ Below w17.heap.size w17 w') := dataS (HA3.out _ B917) hn3
  clear HS16
  go_wp2_with fail
  refine HE7.out.mono ?_
  rintro e w18 ⟨vl7, rfl, hS7, b18⟩
  have HE8 : Hid (Calls Tryd.prog 21 #[vl7, vm3] w18 fun e w' => e = .returned (.bool true) ∧ w' = w18) := stand_any vl7 vm3 _ _ fs3 w18 hS7 (by rw [List.length_map]; exact hn3) (cOf_len HS3.out)
  clear hS7 HE7
  go_wp2_with fail
  refine HE8.out.mono ?_
  rintro e w18x ⟨rfl, rfl⟩
  have B918 := andThen B917 b18
  have B1618 := andThen b17 b18
  have HE9 : Hid (Calls Tryd.prog 20 #[v4] w18x fun e w' => ∃ vl, e = .returned vl ∧ Stn w' vl vm6 (ps4.map Prod.snd) (fun i => (cOf ps4 i).length) fs6 ∧ Below w18x.heap.size w18x w') := dataS (HA6.out _ (andThen B1517 b18)) hn4
  clear HE8
  go_wp2_with fail
  refine HE9.out.mono ?_
  rintro e w19 ⟨vl9, rfl, hS9, b19⟩
  have HE10 : Hid (Calls Tryd.prog 21 #[vl9, vm6] w19 fun e w' => e = .returned (.bool true) ∧ w' = w19) := stand_any vl9 vm6 _ _ fs6 w19 hS9 (by rw [List.length_map]; exact hn4) (cOf_len HS4.out)
  clear hS9 HE9
  go_wp2_with fail
  refine HE10.out.mono ?_
  rintro e w19x ⟨rfl, rfl⟩
  have B919 := andThen B918 b19
  have B1619 := andThen B1618 b19
  clear HE10
  have HS7 : Hid (Calls Tryd.prog 18 #[v5, vw3] w19x fun e w' => e = .returned (.bool true) ∧ Below w19x.heap.size w19x w') := sameAllR_ok _ _ L w19x (HRA5.out _ B1619) (HWS9.out _ B919)
  go_wp2_with fail
  refine HS7.out.mono ?_
  rintro e w20 ⟨rfl, b20⟩
  have B920 := andThen B919 b20
  have HS8 : Hid (Calls Tryd.prog 18 #[vr, vin] w20 fun e w' => e = .returned (.bool true) ∧ Below w20.heap.size w20 w') := sameAllR_ok _ _ rs w20 (HIN9.out _ B920).2.1 (HIN9.out _ B920).1
  clear HS7
  go_wp2_with fail
  refine HS8.out.mono ?_
  rintro e w21 ⟨rfl, b21⟩
  have B21 := (HIN9.out _ (andThen B920 b21)).2.2
  clear HS8
  go_wp2
  go_ret
  exact ⟨rfl, B21⟩
end Go.Proofs.YtjhgjlnckidjkaaDoor

/-
  LiftEach: the argument.
-/
namespace Go.Proofs.YtjhgjlnckidjkaaDoor
open Go Go.RowKit Go.ChangeShapes Go.WideShapes Go.ChangeAt
open Wb

theorem cellsTBSe : Tryd.prog.cellsOf 36 = 1 := by kernel_rfl
theorem cellsTIe : Tryd.prog.cellsOf 3 = 1 := by kernel_rfl
theorem cellsTSTRe : Tryd.prog.cellsOf 9 = 1 := by kernel_rfl
theorem cellsRECe : Tryd.prog.cellsOf 38 = 12 := by kernel_rfl
theorem bytesRECe : Tryd.prog.bytesOf 38 = 120 := by kernel_rfl
theorem i64_boundse {n : Int} (h : (Lit.int .i64 n).wf = true) : -9223372036854775808 ≤ n ∧ n ≤ 9223372036854775807 := by
  have e : IntKind.i64.min = -9223372036854775808 := by decide
  simp [Lit.wf] at h
  omega
theorem weightsAll_meme {H : Type} {P : Program} {e : TypeId} : ∀ {l : List (DataW H)} {d : DataW H} {n : Nat}, d ∈ l → n ∈ d.weights P e → n ∈ DataW.weightsAll P e l
  | x :: r, d, n, hd, hn => by
    simp only [DataW.weightsAll, List.mem_append]
    rcases List.mem_cons.1 hd with rfl | h
    · exact .inl hn
    · exact .inr (weightsAll_meme h hn)
set_option maxRecDepth 100000 in
/-- one record's cells -/
theorem open_rece {H : Type} {enc : TypeId × Value → H} {W : World} {fuel : Nat} {vs : List Value} {D : DataW H} {p : List MemPlace} (hf : DataW.trod enc Tryd.prog W 0 (fun _ => true) true fuel 38 vs = some (D, p)) (hlen : vs.length = 12) (hw : ∀ n ∈ D.weights Tryd.prog 38, n ≤ reachBytes) :
    ∃ (r : Rec) (d : Value), vs = rcl (r, d) ∧ Bs W d r.l ∧ r.nm.size ≤ 140737488355000 ∧ r.l.length ≤ 140737488355000 ∧ r.x.fit := by
  obtain ⟨xs, k', _, hxy, _, hxl, hfs⟩ := DataW.trod_struct Tryd.underlying38 hf
  match xs, hxl, vs, hlen with
  | [y0, y1, y2, y3, y4, y5, y6, y7, y8, y9, y10, y11], _, [v0, v1, v2, v3, v4, v5, v6, v7, v8, v9, v10, v11], _ =>
    have g0 := hfs 0 _ rfl
    have g1 := hfs 1 _ rfl
    have g2 := hfs 2 _ rfl
    have g3 := hfs 3 _ rfl
    have g4 := hfs 4 _ rfl
    have g5 := hfs 5 _ rfl
    have g6 := hfs 6 _ rfl
    have g7 := hfs 7 _ rfl
    have g8 := hfs 8 _ rfl
    have g9 := hfs 9 _ rfl
    have g10 := hfs 10 _ rfl
    have g11 := hfs 11 _ rfl
    simp [cellsTIe, cellsTSTRe, cellsTBSe] at g0 g1 g2 g3 g4 g5 g6 g7 g8 g9 g10 g11
    simp only [Prod.mk.injEq] at hxy
    have hw11 : ∀ n ∈ y11.1.weights Tryd.prog 36, n ≤ reachBytes := fun n hn => hw n (by
      rw [hxy.1]
      simp [DataW.weights, Tryd.underlying38, DataW.weightsEach, hn])
    obtain ⟨z0, e0, _, _⟩ := DataW.trod_int Tryd.underlying3 g0
    obtain ⟨z1, e1, _, b1⟩ := DataW.trod_int Tryd.underlying3 g1
    obtain ⟨z2, e2, _, b2⟩ := DataW.trod_int Tryd.underlying3 g2
    obtain ⟨z3, e3, _, b3⟩ := DataW.trod_int Tryd.underlying3 g3
    obtain ⟨z4, e4, _, b4⟩ := DataW.trod_int Tryd.underlying3 g4
    obtain ⟨z5, e5, _, b5⟩ := DataW.trod_int Tryd.underlying3 g5
    obtain ⟨z6, e6, _, b6⟩ := DataW.trod_int Tryd.underlying3 g6
    obtain ⟨z7, e7, _, b7⟩ := DataW.trod_int Tryd.underlying3 g7
    obtain ⟨z8, e8, _, b8⟩ := DataW.trod_int Tryd.underlying3 g8
    obtain ⟨z9, e9, _, b9⟩ := DataW.trod_int Tryd.underlying3 g9
    obtain ⟨z10, e10, q10, _⟩ := DataW.trod_string Tryd.underlying9 g10
    obtain ⟨l, hb, hlb⟩ := open_bsf g11 hw11
    have hw10 : z10.size ≤ 140737488355000 := by
      have h1 := hw z10.size (by
        rw [hxy.1]
        simp [DataW.weights, Tryd.underlying38, DataW.weightsEach, q10])
      have h2 := reachIs
      omega
    simp only [List.cons.injEq, and_true] at e0 e1 e2 e3 e4 e5 e6 e7 e8 e9 e10
    subst e0 e1 e2 e3 e4 e5 e6 e7 e8 e9 e10
    refine ⟨⟨⟨z0, z1, z2, z3, z4, z5, z6, z7, z8, z9⟩, z10, l⟩, v11, rfl, hb, hw10, hlb, fun t h1 h9 => ?_⟩
    obtain rfl | rfl | rfl | rfl | rfl | rfl | rfl | rfl | rfl : t = 1 ∨ t = 2 ∨ t = 3 ∨ t = 4 ∨ t = 5 ∨ t = 6 ∨ t = 7 ∨ t = 8 ∨ t = 9 := by omega
    · exact i64_boundse b1
    · exact i64_boundse b2
    · exact i64_boundse b3
    · exact i64_boundse b4
    · exact i64_boundse b5
    · exact i64_boundse b6
    · exact i64_boundse b7
    · exact i64_boundse b8
    · exact i64_boundse b9
/-- a list out of its places -/
theorem listed {α : Type} {P : Nat → α → Prop} : ∀ n, (∀ k, k < n → ∃ a, P k a) → ∃ l : List α, l.length = n ∧ ∀ k a, l[k]? = some a → P k a
  | 0, _ => ⟨[], rfl, fun k a h => by simp at h⟩
  | n + 1, h => by
    obtain ⟨l, hl, hp⟩ := listed n (fun k hk => h k (by omega))
    obtain ⟨a, ha⟩ := h n (by omega)
    refine ⟨l ++ [a], by simp [hl], fun k b hb => ?_⟩
    by_cases hk : k < n
    · rw [List.getElem?_append_left (by omega)] at hb
      exact hp k b hb
    · rw [List.getElem?_append_right (by omega)] at hb
      obtain rfl : k = n := by
        have := (List.getElem?_eq_some_iff.1 hb).1
        simp at this
        omega
      rw [hl] at hb
      simp at hb
      exact hb ▸ ha
set_option maxRecDepth 100000 in
theorem open_recs {H : Type} {enc : TypeId × Value → H} {W : World} {base : Nat} {v : Value} {d : DataW H} {p : List MemPlace} (hv : Value.okWide Tryd.prog W .any base 22 v)
    (h : DataW.Trod enc Tryd.prog W 0 (fun _ => true) true 22 v d p) (hw : ∀ n ∈ d.weights Tryd.prog 22, n ≤ reachBytes) : ∃ rs, RecsAt W v rs ∧ AGood rs := by
  obtain ⟨a0, len0, cap0, rfl⟩ := okWide_slice Tryd.underlying22 hv
  obtain ⟨fuel, hf⟩ := h
  rcases Deep.open_slice Tryd.underlying22 hf with ⟨hcs, _⟩ | ⟨a, len, cap, m, n, D, Pl, hcs, _, hl, hm, hmm, hx, hel⟩
  · simp [Value.cells] at hcs
    obtain ⟨rfl, rfl, rfl⟩ := hcs
    exact ⟨[], ⟨none, 0, rfl, by simp [maxLen], fun k r hk => by simp at hk⟩, (fun r hr => nomatch hr)⟩
  · simp [Value.cells] at hcs
    obtain ⟨rfl, rfl, rfl⟩ := hcs
    simp only [Prod.mk.injEq] at hx
    have hrow : len0 * 120 ≤ 140737488355000 := by
      have h1 := hw (((List.range len0).map D).length * Tryd.prog.bytesOf 38 + ((List.range (m - len0)).map fun j => D (len0 + j)).length * Tryd.prog.bytesOf 38) (by rw [hx.1]; simp [DataW.weights, Tryd.underlying22, Nat.add_mul])
      have h2 := reachIs
      rw [bytesRECe] at h1
      simp only [List.length_map, List.length_range] at h1
      omega
    have each : ∀ k, k < len0 → ∃ r : Rec, ∃ b off d, a = ⟨b, off, none⟩ ∧ W.rangeAt b (off + k * 12) (rcl (r, d)) ∧ Bs W d r.l ∧ r.nm.size ≤ 140737488355000 ∧ r.l.length ≤ 140737488355000 ∧ r.x.fit := fun k hk => by
      have hkm : k < m := by rw [hmm]; simp; omega
      have hspot : a.spot = none := by
        obtain ⟨cs0, h10, _⟩ := hel 0 (by omega)
        rw [cellsRECe] at h10
        obtain ⟨_, hl0, hc0⟩ := World.cells?_some h10
        have r0 := hc0 0 (by omega)
        rw [List.getElem?_eq_getElem (show 0 < cs0.length by omega)] at r0
        simpa [Addr.add] using World.cell?_spot r0
      obtain ⟨cs', h1, h2⟩ := hel k hkm
      have hwk : ∀ n ∈ (D k).weights Tryd.prog 38, n ≤ reachBytes := fun n hn => hw n (by
        rw [hx.1]
        simp only [DataW.weights, Tryd.underlying22, List.mem_cons, List.mem_append]
        exact .inr (.inl (weightsAll_meme (List.mem_map.2 ⟨k, List.mem_range.2 hk, rfl⟩) hn)))
      rw [cellsRECe] at h1
      obtain ⟨_, hlen, hcell⟩ := World.cells?_some h1
      obtain ⟨r, d, e, hb, hn, hlb, hft⟩ := open_rece h2 hlen hwk
      obtain ⟨b, off, spot⟩ := a
      obtain rfl : spot = none := hspot
      refine ⟨r, b, off, d, rfl, fun j u hu => ?_, hb, hn, hlb, hft⟩
      rw [← e] at hu
      have hj : j < 12 := by have := (List.getElem?_eq_some_iff.1 hu).1; omega
      have := hcell j hj
      rw [Deep.add_add, Go.WideShapes.add_plain, ← Nat.add_assoc, hu] at this
      exact this
    obtain ⟨rs, hrl, hrs⟩ := listed len0 each
    refine ⟨rs, ⟨some a, cap0, by rw [hrl], by omega, fun k r hr => ?_⟩, fun r hr => ?_⟩
    · obtain ⟨b, off, d, e, h1, h2, _⟩ := hrs k r hr
      exact ⟨b, off, d, by rw [e], h1, h2⟩
    · obtain ⟨k, hk, rfl⟩ := List.getElem_of_mem hr
      obtain ⟨_, _, _, _, _, _, h3, h5, h4⟩ := hrs k _ (List.getElem?_eq_getElem hk)
      exact ⟨h3, h4, h5⟩
end Go.Proofs.YtjhgjlnckidjkaaDoor
