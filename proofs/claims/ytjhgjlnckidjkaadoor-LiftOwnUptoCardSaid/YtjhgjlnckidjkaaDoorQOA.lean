import Derived.Laws.AppendOwnNone
import Derived.Test.YtjhgjlnckidjkaaDoorQO9
import Derived.Test.YtjhgjlnckidjkaaDoorQU3
import Derived.Test.YtjhgjlnckidjkaaDoorQA3
/-
  LiftOwn: its pieces.
-/
namespace Go.Proofs.YtjhgjlnckidjkaaDoor
open Go Go.RowKit Go.ChangeShapes Go.WideShapes Go.ChangeAt
open Wb

theorem upP_good (to : Int) (r : Rec) (hf : r.x.fit) : (upP to r).2.nm.size ≤ 1048576 ∧ (upP to r).2.x.fit ∧ (upP to r).2.l.length ≤ 1048576 := by
  have hz : zRec.nm.size ≤ 1048576 ∧ zRec.x.fit ∧ zRec.l.length ≤ 1048576 := ⟨Nat.zero_le _, zRec_fit, Nat.zero_le _⟩
  have hc : lckE to r = 0 → (carP to r).nm.size ≤ 1048576 ∧ (carP to r).x.fit ∧ (carP to r).l.length ≤ 1048576 := fun h => by
    have hs := carL_small (Lft.go r.x.v to 4).2 r (small_of r hf (chk_of_lck h))
    exact ⟨Nat.le_trans hs.1 (by decide), carL_fit _ r hf, Nat.le_trans hs.2 (by decide)⟩
  unfold upP
  by_cases h1 : lckE to r ≠ 0
  · rw [if_pos h1]; exact hz
  · rw [if_neg h1]
    split
    · exact hz
    · exact hc (Decidable.not_not.1 h1)
theorem downP_good (to : Int) (r : Rec) (hf : r.x.fit) : (downP to r).2.nm.size ≤ 1048576 ∧ (downP to r).2.x.fit ∧ (downP to r).2.l.length ≤ 1048576 := by
  have hz : zRec.nm.size ≤ 1048576 ∧ zRec.x.fit ∧ zRec.l.length ≤ 1048576 := ⟨Nat.zero_le _, zRec_fit, Nat.zero_le _⟩
  have hc : lckE to r = 0 → (carP to r).nm.size ≤ 1048576 ∧ (carP to r).x.fit ∧ (carP to r).l.length ≤ 1048576 := fun h => by
    have hs := carL_small (Lft.go r.x.v to 4).2 r (small_of r hf (chk_of_lck h))
    exact ⟨Nat.le_trans hs.1 (by decide), carL_fit _ r hf, Nat.le_trans hs.2 (by decide)⟩
  unfold downP
  by_cases h1 : lckE to r ≠ 0
  · rw [if_pos h1]; exact hz
  · rw [if_neg h1]
    split
    · exact hz
    · split
      · exact hc (Decidable.not_not.1 h1)
      · exact hz
theorem lifted_good {to : Int} {rs ps0 : List Rec} {i z : Int} (hU : UaAns to rs ps0 i z) (hg : LGood rs) (h5 : rs.length ≤ 5000) : LGood (ps0 ++ liftedL to rs) ∧ (ps0 ++ liftedL to rs).length ≤ 15000 := by
  have h9 := (lifted_short hU hg).2
  refine ⟨⟨fun r hr => ?_, by omega⟩, by omega⟩
  rcases List.mem_append.1 hr with hr | hr
  · unfold UaAns at hU
    by_cases ht : 1 ≤ to ∧ to ≤ 3
    · rw [if_pos ht] at hU
      rcases hU with ⟨_, e, _⟩ | ⟨_, _, _, _, _, e, _⟩
      · rw [e] at hr
        obtain ⟨r0, hr0, rfl⟩ := List.mem_map.1 hr
        exact upP_good to r0 (hg.each r0 hr0).2.1
      · rw [e] at hr; cases hr
    · rw [if_neg ht] at hU
      rw [hU.1] at hr; cases hr
  · obtain ⟨r0, hr0, hm⟩ := List.mem_flatMap.1 hr
    simp only [List.mem_cons, List.not_mem_nil, or_false] at hm
    rcases hm with rfl | rfl
    · exact upP_good to r0 (hg.each r0 hr0).2.1
    · exact downP_good to r0 (hg.each r0 hr0).2.1
theorem liftedY {to : Int} {rs P0 : List Rec} {i z : Int} (hU : UaAns to rs P0 i z) (v : Value) (w : World) (h : RecsAt w v rs) (hg : LGood rs) (hT : ETabs w) :
    Calls Tryd.prog 17 #[.int .i64 to, v] w fun e w' => ∃ v' ps, e = .returned v' ∧ Rws w.heap.size w' v' ps ∧ ps.map Prod.fst = P0 ++ liftedL to rs ∧ Below w.heap.size w w' :=
  (lifted_any to v rs w h hg hT).mono fun _ _ ⟨v', ps, _, _, _, he, hR, hU', hm, hb⟩ => ⟨v', ps, he, hR, by rw [hm, (uaAns_one hU hU').1], hb⟩
theorem filledM {B : Nat} {w : World} {v vl : Value} {ps : List (Rec × Value)} (h : Rws B w v ps) (hL : Lst B w vl (ps.map Prod.snd) (cOf ps)) (hn : ps.length ≤ 9000000) (hc : ∀ p ∈ ps, p.1.l.length ≤ 1048576) (hB : B ≤ w.heap.size) :
    Calls Tryd.prog 19 #[vl] w fun e w' => ∃ vm fs, e = .returned vm ∧ Fam5 B w' v vm ps fs ∧ Below B w w' ∧ Frm (ps.map Prod.snd) w w' :=
  (filled_any B vl (ps.map Prod.snd) (cOf ps) w hL (by rw [List.length_map]; exact hn) (cOf_len hc) hB).mono fun e w' ⟨vm, fs, he, hl, hf, hr, hF, hb⟩ => ⟨vm, fs, he, ⟨rws_filled h hf hF, hf, ownsBase hr, by rw [hl, List.length_map]⟩, hb, hF⟩
theorem own_weak {B B2 : Nat} {w : World} {d : Value} {l : List Nat} (h : Own B2 w d l) (hB : B ≤ B2) : Own B w d l := by
  refine ⟨⟨h.row.1, ?_⟩, h.good⟩
  rcases h.row.2 with h1 | ⟨g, cap, cur, e, hb, rest⟩
  · exact .inl h1
  · exact .inr ⟨g, cap, cur, e, Nat.le_trans hB hb, rest⟩
theorem Rws.cat {B B2 : Nat} {w w' : World} {v v2 v' : Value} {ps qs : List (Rec × Value)} (h : Rws B w v ps) (h2 : Rws B2 w v2 qs) (hB2 : B ≤ B2) (hlt : ∀ p ∈ ps, ∀ g, p.2.ownBlock = some g → g < B2) (hvlt : ∀ g, v.ownBlock = some g → g < B2)
    (hr : w'.ownsRow B 38 12 v' (ps ++ qs).length ((ps ++ qs).flatMap rcl)) (hg : w.grownBy w' v.ownBlock) (he : v'.ownBlock = v.ownBlock ∨ v'.ownBlock = some w.heap.size) : Rws B w' v' (ps ++ qs) := by
  have hge : ∀ q ∈ qs, ∀ g, q.2.ownBlock = some g → B2 ≤ g := fun q hq g hg => (World.ownsRow.lt (h2.own q hq).row g hg).1
  have hall : ∀ p ∈ ps ++ qs, Own B w p.2 p.1.l ∧ ∀ g, v.ownBlock = some g → p.2.ownBlock ≠ some g := fun p hp => by
    rcases List.mem_append.1 hp with hp | hp
    · exact ⟨h.own p hp, h.row p hp⟩
    · refine ⟨own_weak (h2.own p hp) hB2, fun g hg e => ?_⟩
      have h1 := hge p hp g e
      have h3 := hvlt g hg
      omega
  have hown : ∀ p ∈ ps ++ qs, Own B w' p.2 p.1.l := fun p hp => own_kept2 (hall p hp).1 fun g hg' => hg.block g (World.ownsRow.lt (hall p hp).1.row g hg').2 (fun e => (hall p hp).2 g e.symm hg')
  have hrow : ∀ p ∈ ps ++ qs, ∀ g, v'.ownBlock = some g → p.2.ownBlock ≠ some g := fun p hp g hg' e => by
    rcases he with e1 | e1
    · exact (hall p hp).2 g (e1 ▸ hg') e
    · rw [e1] at hg'
      obtain rfl := Option.some.inj hg'
      exact absurd (World.ownsRow.lt (hall p hp).1.row _ e).2 (Nat.lt_irrefl _)
  refine ⟨⟨hr, fun p hp => ⟨(hown p hp).bs, fun g hg' => off_block (hrow p hp g hg')⟩⟩, hown, fun i j p q hp hq hij g hpg hqg => ?_, hrow⟩
  by_cases hi : i < ps.length
  · rw [List.getElem?_append_left hi] at hp
    have a1 := hlt p (List.mem_of_getElem? hp) g hpg
    by_cases hj : j < ps.length
    · rw [List.getElem?_append_left hj] at hq
      exact h.apart i j p q hp hq hij g hpg hqg
    · rw [List.getElem?_append_right (by omega)] at hq
      have a2 := hge q (List.mem_of_getElem? hq) g hqg
      omega
  · rw [List.getElem?_append_right (by omega)] at hp
    have a1 := hge p (List.mem_of_getElem? hp) g hpg
    by_cases hj : j < ps.length
    · rw [List.getElem?_append_left hj] at hq
      have a2 := hlt q (List.mem_of_getElem? hq) g hqg
      omega
    · rw [List.getElem?_append_right (by omega)] at hq
      exact h2.apart _ _ p q hp hq (by omega) g hpg hqg
theorem rcl12 : ∀ ps : List (Rec × Value), (ps.flatMap rcl).length = ps.length * 12
  | [] => rfl
  | p :: ps => by
    rw [List.flatMap_cons, List.length_append, rcl12 ps, List.length_cons]
    show 12 + _ = _
    omega
theorem wpList_append_cat {P : Program} (w : World) {ops : Array Oper} {rest : List Oper} {o : Oper} {a : Act} {Q : Exit → Act → World → Prop} (hgd : o.guard = none) (s x : Operand) (t : TypeId)
    (ho : o.op = .call { callee := .builtin .append, args := #[s, x], argTypes := #[t, t] })
    (B B2 : Nat) (hinfo : (P.info? 38).map (fun i => (i.zero, i.size, i.bytes)) = some (some (.agg #[.int .i64 0, .int .i64 0, .int .i64 0, .int .i64 0, .int .i64 0, .int .i64 0, .int .i64 0, .int .i64 0, .int .i64 0, .int .i64 0, .string ⟨#[]⟩, .slice none 0 0]), 12, 120)) (ht : P.underlying t = some (.slice 38))
    (v v2 : Value) (ps qs : List (Rec × Value)) (hv : a.eval s = v) (hx : a.eval x = v2) (h : Rws B w v ps) (h2 : Rws B2 w v2 qs) (hB2 : B ≤ B2) (hlt : ∀ p ∈ ps, ∀ g, p.2.ownBlock = some g → g < B2) (hvlt : ∀ g, v.ownBlock = some g → g < B2)
    (hmax : (ps.length + qs.length) * 120 ≤ 140737488355328) (hB : B ≤ w.heap.size)
    (hK : ∀ v' w', Rws B w' v' (ps ++ qs) → w.grownBy w' v.ownBlock → wpList P ops Q rest (a.put o.dst v') w') : wpList P ops Q (o :: rest) a w := by
  obtain ⟨i0, hi, hz0, hz1, hz2⟩ := Lft.info_parts3 hinfo
  have hrow2 := h2.recs.1
  rcases h2.recs.1.2 with ⟨e2, hq0⟩ | ⟨g2, cap2, cur, e2, _, _, hn2, hm2, _, _⟩
  · obtain rfl : qs = [] := List.length_eq_zero_iff.1 hq0
    refine wpList_append_own_none hgd s x t ho B 38 i0 12 ht hi v ps.length (ps.flatMap rcl) hv h.recs.1 (by rw [hx, e2]) ?_
    exact hK v w (by rw [List.append_nil]; exact h) ⟨rfl, rfl, rfl, Nat.le_refl _, fun _ _ _ => rfl⟩
  · rw [e2] at hrow2
    refine wpList_append_own_at w hgd s x t ho B 38 i0 _ 12 120 ht hi hz0 hz1 hz2 rfl (by decide) v ps.length (ps.flatMap rcl) hv h.recs.1 ⟨g2, 0, none⟩ qs.length cap2 (qs.flatMap rcl) (by rw [hx, e2]) (rcl12 qs) ?_ ?_ (by unfold maxLen; omega) (by omega) hB ?_
    · intro j u hj
      have hjl := (List.getElem?_eq_some_iff.1 hj).1
      rw [rcl12] at hjl
      rw [Addr.add_lit, Nat.zero_add, ← hj]
      exact World.ownsRow.cellAt hrow2 j hjl
    · intro u hu
      obtain ⟨q, hq, hu⟩ := List.mem_flatMap.1 hu
      have hqo : q.2.oneCell' = true := by
        obtain ⟨ao, cp, e, _⟩ := (h2.own q hq).bs.shape
        rw [e]; rfl
      simp only [rcl, List.mem_cons, List.not_mem_nil, or_false] at hu
      rcases hu with rfl | rfl | rfl | rfl | rfl | rfl | rfl | rfl | rfl | rfl | rfl | rfl
      all_goals first | rfl | exact hqo
    · intro v' w' h3 h4 _ h5
      exact hK v' w' (h.cat h2 hB2 hlt hvlt (by rw [List.length_append, List.flatMap_append]; exact h3) h4 h5) h4
theorem outs_frame {B : Nat} {w w' : World} {v : Value} {ps : List (Rec × Value)} (h : Outs B w v ps) (lo : ∀ g, g < B → ∀ p ∈ ps, Off g p.2 p.1.l) (hs : ∀ g, B ≤ g → g < w.heap.size → w'.heap[g]? = w.heap[g]?) : Outs B w' v ps := by
  refine ⟨owns_block h.1 fun g hg => hs g (World.ownsRow.lt h.1 g hg).1 (World.ownsRow.lt h.1 g hg).2, fun p hp => ⟨?_, (h.2 p hp).2⟩⟩
  have hb := (h.2 p hp).1
  have hlo := fun g hg => lo g hg p hp
  obtain ⟨pr, pd⟩ := p
  obtain ⟨ao, cap, e0, h1, h2, h3, h4⟩ := hb.shape
  simp only at e0 hb hlo h4 ⊢
  subst e0
  refine ⟨⟨ao, cap, rfl, h1, h2, h3, fun hne => ?_⟩, hb.good⟩
  obtain ⟨b, off, rfl, hc⟩ := h4 hne
  refine ⟨b, off, rfl, fun j hj => ?_⟩
  rw [← hc j hj]
  refine World.cell?_of_block (w := w) (hs b ?_ (hb.lt (Nat.lt_of_le_of_lt (Nat.zero_le _) hj)))
  exact Nat.le_of_not_lt fun hlt => hlo b hlt hne b off _ _ rfl rfl
set_option maxRecDepth 100000 in
theorem open_caps {H : Type} {enc : TypeId × Value → H} {W : World} {base : Nat} {v : Value} {d : DataW H} {p : List MemPlace} (hv : Value.okWide Tryd.prog W .any base 22 v)
    (h : DataW.Trod enc Tryd.prog W 0 (fun _ => true) true 22 v d p) : ∀ ao (len cap : Nat), v = .slice ao len cap → len ≤ cap ∧ cap ≤ maxLen := by
  intro ao len cap e
  subst e
  obtain ⟨fuel, hf⟩ := h
  have hf' : DataW.trod enc Tryd.prog W 0 (fun _ => true) true fuel 22 [Value.slice ao len cap] = some (d, p) := hf
  rcases Deep.open_slice Tryd.underlying22 hf' with ⟨hcs, _⟩ | ⟨a, len0, cap0, m, n, D, Pl, hcs, _, hl, hm, _⟩
  · simp at hcs
    obtain ⟨_, rfl, rfl⟩ := hcs
    exact ⟨Nat.le_refl _, Nat.zero_le _⟩
  · simp at hcs
    obtain ⟨_, rfl, rfl⟩ := hcs
    exact ⟨hl, hm⟩
theorem recsAt_take {w : World} {ao : Option Addr} {cap : Nat} {rs : List Rec} (h : RecsAt w (.slice ao rs.length cap) rs) (k : Nat) (hk : k ≤ rs.length) : RecsAt w (.slice ao k cap) (rs.take k) := by
  obtain ⟨ao', cap', e, hm, hc⟩ := h
  simp only [Value.slice.injEq] at e
  obtain ⟨rfl, _, rfl⟩ := e
  have hl : (rs.take k).length = k := by rw [List.length_take]; omega
  refine ⟨ao, cap, by rw [hl], by rw [hl]; omega, fun j r hr => hc j r ?_⟩
  have hj := (List.getElem?_eq_some_iff.1 hr).1
  rw [hl] at hj
  rwa [List.getElem?_take_of_lt hj] at hr
theorem good_take {rs : List Rec} (h : LGood rs) (k : Nat) : LGood (rs.take k) := ⟨fun r hr => h.each r (List.mem_of_mem_take hr), Nat.le_trans (by rw [List.length_take]; exact Nat.min_le_right _ _) h.few⟩
/-- what light answers -/
def LiPost (w : World) (e : Ending) (w' : World) : Prop := ∃ v' rs', e = .returned v' ∧ RecsAt w v' rs' ∧ LGood rs' ∧ rs'.length ≤ 5000 ∧ w' = w
set_option maxRecDepth 100000 in
set_option maxHeartbeats 2000000 in
theorem light_any (v : Value) (rs : List Rec) (w : World) (h : RecsAt w v rs) (hg : LGood rs) (hcp : ∀ ao (len cap : Nat), v = .slice ao len cap → len ≤ cap ∧ cap ≤ maxLen) :
    Calls Tryd.prog 15 #[v] w fun e w' => LiPost w e w' := by
  have HRS : Hid (RecsAt w v rs) := h
  have HG : Hid (LGood rs) := hg
  have hfew := hg.few
  obtain ⟨ao, cap, rfl, _⟩ := h
  obtain ⟨hc1, hc2⟩ := hcp _ _ _ rfl
  unfold maxLen at hc2
  clear hg hcp
  go_enter Tryd.func15, Tryd.ntmps15
  go_wp2
  go_loopw [3, 4] (fun m i wr => wr = w ∧ ∃ k nn : Nat, k ≤ rs.length ∧ k ≤ 5000 ∧ nn ≤ k * 1048576 ∧ m = .int .i64 (nn : Int) ∧ i = .int .i64 (k : Int)) (fun _ i _ => rs.length - (intOf i).toNat)
  case atStart => exact ⟨rfl, 0, 0, Nat.zero_le _, Nat.zero_le _, Nat.le_refl _, rfl, rfl⟩
  case round =>
    obtain ⟨rfl, k, nn, hk, hk5, hnn, rfl, rfl⟩ := hrel
    by_cases hlt : k < rs.length
    · obtain ⟨r, hr⟩ : ∃ r, rs[k]? = some r := ⟨rs[k], List.getElem?_eq_getElem hlt⟩
      obtain ⟨b, off, d, rfl, hrg, hbs⟩ := HRS.out.spot k r hr
      have hrl := (HG.out.each r (List.mem_of_getElem? hr)).2.2
      obtain ⟨rl, hrle⟩ : ∃ rl, r.l.length = rl := ⟨_, rfl⟩
      obtain ⟨ad, cd, e3, _⟩ := hbs.shape
      rw [hrle] at e3 hrl
      subst e3
      have c11 : wr.cell? ⟨b, off + k * 12 + 11, none⟩ = some (.slice ad rl cd) := hrg 11 _ rfl
      have HP : Hid (∀ e, e = Ending.returned (.slice (some ⟨b, off, none⟩) k cap) → LiPost wr e wr) := fun e he => ⟨_, rs.take k, he, recsAt_take HRS.out k hk, good_take HG.out k, by rw [List.length_take]; omega, rfl⟩
      clear hrg hbs hr HRS HG hrle
      by_cases h5 : 5000 ≤ k
      · have h5i : (5000 : Int) ≤ (k : Int) := by omega
        go_wp2
        go_ret
        exact HP.out _ rfl
      · have h5i : ¬ ((5000 : Int) ≤ (k : Int)) := by omega
        by_cases hb : 4194304 < nn + rl
        · have hbi : (4194304 : Int) < (nn : Int) + (rl : Int) := by omega
          go_wp2
          go_ret
          exact HP.out _ rfl
        · have hbi : ¬ ((4194304 : Int) < (nn : Int) + (rl : Int)) := by omega
          go_wp2
          go_roundw
          case rel => exact ⟨trivial, k + 1, nn + rl, by omega, by omega, by omega, by go_num, by go_num⟩
          case measure => simp [intOf]; omega
    · obtain rfl : k = rs.length := by omega
      have HP : Hid (∀ e, e = Ending.returned (.slice ao rs.length cap) → LiPost wr e wr) := fun e he => ⟨_, rs, he, HRS.out, HG.out, hk5, rfl⟩
      clear HRS HG
      go_wp2
      go_ret
      exact HP.out _ rfl
end Go.Proofs.YtjhgjlnckidjkaaDoor

/-
  LiftOwn: the law's walk.
-/
namespace Go.Proofs.YtjhgjlnckidjkaaDoor
open Go Go.RowKit
open Wb

set_option maxRecDepth 100000 in
set_option maxHeartbeats 16000000 in
theorem lown_any (to : Int) (v : Value) (rs0 : List Rec) (w : World) (h : RecsAt w v rs0) (hg : LGood rs0) (hcp : ∀ ao (len cap : Nat), v = .slice ao len cap → len ≤ cap ∧ cap ≤ maxLen) (hT : ETabs w) :
    Calls Tryd.prog 4 #[.int .i64 to, v] w fun e w' => e = .returned (.bool true) ∧ Below w.heap.size w w' := by
  have hin := infoR12
  have HT : Hid (∀ w', Below w.heap.size w w' → ETabs w') := fun w' hb => hT.kept hb
  have HLI : Hid (Calls Tryd.prog 15 #[v] w fun e w' => LiPost w e w') := light_any v rs0 w h hg hcp
  obtain ⟨av, cv, rfl, _⟩ := h
  clear hg hT hcp
  go_enter Tryd.func4, Tryd.ntmps4
  go_wp2_with fail
  refine HLI.out.mono ?_
  rintro e w0 ⟨vr, rs, rfl, hra, hG, h5, rfl⟩
  have HRA : Hid (∀ w', Below w0.heap.size w0 w' → RecsAt w' vr rs) := fun w' hb => hra.kept hb
  have HG : Hid (LGood rs) := hG
  have HCO : Hid (Calls Tryd.prog 16 #[vr] w0 fun e w' => ∃ v' ps, e = .returned v' ∧ Laid w0.heap.size w' v' (.slice none 0 0) ps [] ∧ ps.map Prod.fst = rs ∧ Below w0.heap.size w0 w') := copies_any vr rs w0 hra hG
  have HST : Hid (∀ w', Below w0.heap.size w0 w' → Calls Tryd.prog 14 #[] w' fun e w'' => e = .returned (.bool true) ∧ Below w'.heap.size w' w'') := fun w' hb => lstartedE_any w' (HT.out _ hb)
  have HL : Hid (∀ w', Below w0.heap.size w0 w' → Calls Tryd.prog 17 #[.int .i64 to, vr] w' fun e w'' => ∃ v' ps ps0 i z, e = .returned v' ∧ Rws w'.heap.size w'' v' ps ∧ UaAns to rs ps0 i z ∧ ps.map Prod.fst = ps0 ++ liftedL to rs ∧ Below w'.heap.size w' w'') := fun w' hb => lifted_any to vr rs w' (HRA.out _ hb) HG.out (HT.out _ hb)
  clear hra hG HLI
  go_wp2_with fail
  refine HCO.out.mono ?_
  rintro e w1 ⟨vin, pin, rfl, hIn, hmi, b1⟩
  have HIN : Hid (∀ w', Below w1.heap.size w1 w' → RecsAt w' vin rs) := fun w' hb => by
    have := hIn.recs.recsAt
    rw [hmi] at this
    exact this.kept hb
  clear hIn hmi HCO
  go_wp2_with fail
  refine (HL.out _ b1).mono ?_
  rintro e w2 ⟨v1, ps1, P0, i0, z0, rfl, hR1, hU, hm1, b2⟩
  obtain ⟨hgL, hlL⟩ := lifted_good hU HG.out h5
  have HLY : Hid (∀ w', Below w0.heap.size w0 w' → Calls Tryd.prog 17 #[.int .i64 to, vr] w' fun e w'' => ∃ v' ps, e = .returned v' ∧ Rws w'.heap.size w'' v' ps ∧ ps.map Prod.fst = P0 ++ liftedL to rs ∧ Below w'.heap.size w' w'') := fun w' hb => liftedY hU vr w' (HRA.out _ hb) HG.out (HT.out _ hb)
  clear hU HL
  generalize P0 ++ liftedL to rs = L at *
  have HGL : Hid (LGood L) := hgL
  have hn1 : ps1.length ≤ 15000 := by
    rw [← hm1, List.length_map] at hlL
    exact hlL
  have hra1 := hR1.recs.recsAt
  rw [hm1] at hra1
  have HR1 : Hid (∀ w', Below w2.heap.size w2 w' → Rws w1.heap.size w' v1 ps1 ∧ RecsAt w' v1 L) := fun w' hb => ⟨hR1.kept hb, hra1.kept hb⟩
  have HD1 : Hid ((∀ p ∈ ps1, ∀ g, p.2.ownBlock = some g → g < w2.heap.size) ∧ (∀ g, v1.ownBlock = some g → g < w2.heap.size) ∧ ps1.map Prod.fst = L) := ⟨fun p hp g hg => (World.ownsRow.lt (hR1.own p hp).row g hg).2, fun g hg => (World.ownsRow.lt hR1.recs.1 g hg).2, hm1⟩
  have HCW : Hid (Calls Tryd.prog 16 #[v1] w2 fun e w' => ∃ v' ps, e = .returned v' ∧ Laid w2.heap.size w' v' (.slice none 0 0) ps [] ∧ ps.map Prod.fst = L ∧ Below w2.heap.size w2 w') := copies_any v1 L w2 hra1 hgL
  clear hR1 hm1 hra1 hgL
  go_wp2_with fail
  refine HCW.out.mono ?_
  rintro e w3 ⟨vw3, pw, rfl, hWs, hmw, b3⟩
  have HWS : Hid (∀ w', (∀ g, w2.heap.size ≤ g → g < w3.heap.size → w'.heap[g]? = w3.heap[g]?) → RecsAt w' vw3 L) := fun w' hs => by
    have := (outs_frame hWs.recs hWs.lowp hs).recsAt
    rw [hmw] at this
    exact this
  have HW3 : Hid (∀ w', Below w3.heap.size w3 w' → RecsAt w' vw3 L) := fun w' hb => HWS.out w' fun g _ hg => hb.block g hg
  have B13 := andThen b2 b3
  have B03 := andThen b1 B13
  clear hWs hmw HCW
  go_wp2_with fail
  refine (HLY.out _ B03).mono ?_
  rintro e w4 ⟨v2, ps2, rfl, hR2, hm2, b4⟩
  have hn2 : ps2.length ≤ 15000 := by
    have h9 := hlL
    rw [← hm2, List.length_map] at h9
    exact h9
  have hra2 := hR2.recs.recsAt
  rw [hm2] at hra2
  have HR2 : Hid (∀ w', Below w4.heap.size w4 w' → Rws w3.heap.size w' v2 ps2) := fun w' hb => hR2.kept hb
  have HD2 : Hid ((∀ p ∈ ps2, ∀ g, p.2.ownBlock = some g → w3.heap.size ≤ g) ∧ ps2.map Prod.fst = L) := ⟨fun p hp g hg => (World.ownsRow.lt (hR2.own p hp).row g hg).1, hm2⟩
  have HRA2 : Hid (RecsAt w4 v2 L) := hra2
  clear hR2 hm2 hra2
  have HS1 : Hid (Calls Tryd.prog 18 #[v2, vw3] w4 fun e w' => e = .returned (.bool true) ∧ Below w4.heap.size w4 w') := sameAllR_ok _ _ L w4 HRA2.out (HW3.out _ b4)
  clear HRA2
  go_wp2_with fail
  refine HS1.out.mono ?_
  rintro e w5 ⟨rfl, b5⟩
  have B35 := andThen b4 b5
  have HS2 : Hid (Calls Tryd.prog 18 #[v1, vw3] w5 fun e w' => e = .returned (.bool true) ∧ Below w5.heap.size w5 w') := sameAllR_ok _ _ L w5 (HR1.out _ (andThen b3 B35)).2 (HW3.out _ B35)
  clear HS1
  go_wp2_with fail
  refine HS2.out.mono ?_
  rintro e w6 ⟨rfl, b6⟩
  have B36 := andThen B35 b6
  have B26 := andThen b3 B36
  have hR1 := (HR1.out _ B26).1
  have hR2 := HR2.out _ (andThen b5 b6)
  have h23 : w2.heap.size ≤ w3.heap.size := b3.size
  have h12 : w1.heap.size ≤ w2.heap.size := b2.size
  have h26 : w2.heap.size ≤ w6.heap.size := B26.size
  clear HS2
  go_wp2_with (at_builtin; refine wpList_append_cat _ rfl (.tmp 36) (.tmp 37) 22 rfl w1.heap.size w3.heap.size hin Tryd.underlying22 v1 v2 ps1 ps2 rfl rfl hR1 hR2 (by omega) (fun p hp g hg => Nat.lt_of_lt_of_le (HD1.out.1 p hp g hg) h23) (fun g hg => Nat.lt_of_lt_of_le (HD1.out.2.1 g hg) h23) (by omega) (by omega) ?_)
  intro v3 w7 hR3 hg7
  have b7 : Below w1.heap.size w6 w7 := grown_below hR1.recs.1 hg7 (by omega)
  have S7 : Hid (∀ g, w2.heap.size ≤ g → g < w3.heap.size → w7.heap[g]? = w3.heap[g]?) := fun g h1 h2 => (hg7.block g (Nat.lt_of_lt_of_le h2 B36.size) (fun e => by
    have := HD1.out.2.1 g e.symm
    omega)).trans (B36.block g h2)
  have B17 : Below w1.heap.size w1 w7 := (andThen b2 B26).trans b7
  have hn3 : (ps1 ++ ps2).length ≤ 9000000 := by rw [List.length_append]; omega
  have hs3 : ∀ p ∈ ps1 ++ ps2, p.1.l.length ≤ 1048576 := fun p hp => by
    rcases List.mem_append.1 hp with hp | hp
    · exact (HGL.out.each p.1 (by rw [← HD1.out.2.2]; exact List.mem_map.2 ⟨p, hp, rfl⟩)).2.2
    · exact (HGL.out.each p.1 (by rw [← HD2.out.2]; exact List.mem_map.2 ⟨p, hp, rfl⟩)).2.2
  have HS3 : Hid (∀ p ∈ ps1 ++ ps2, p.1.l.length ≤ 1048576) := hs3
  have HDD : Hid (∀ g, w2.heap.size ≤ g → g < w3.heap.size → ∀ d ∈ (ps1 ++ ps2).map Prod.snd, d.ownBlock ≠ some g) := fun g h1 h2 d hd e => by
    obtain ⟨p, hp, rfl⟩ := List.mem_map.1 hd
    rcases List.mem_append.1 hp with hp | hp
    · have := HD1.out.1 p hp g e
      omega
    · have := HD2.out.1 p hp g e
      omega
  have HE3 : Hid (Calls Tryd.prog 20 #[v3] w7 fun e w' => ∃ vl, e = .returned vl ∧ Lst w1.heap.size w' vl ((ps1 ++ ps2).map Prod.snd) (cOf (ps1 ++ ps2)) ∧ Rws w1.heap.size w' v3 (ps1 ++ ps2) ∧ Below w7.heap.size w7 w') := dataL hR3 hn3
  have h37 : w3.heap.size ≤ w7.heap.size := Nat.le_trans B36.size hg7.size
  clear hR1 hR2 hR3 hg7 b7 HR1 HR2 HD1 HD2 hs3 B36 B26 B35 b4 b5 b6 b2 b3 B13 B03 HW3
  generalize ps1 ++ ps2 = ps3 at *
  go_wp2_with fail
  refine HE3.out.mono ?_
  rintro e w8 ⟨vl3, rfl, hL3, hR3, b8⟩
  have B18 : Below w1.heap.size w1 w8 := andThen B17 b8
  have HF3 : Hid (Calls Tryd.prog 19 #[vl3] w8 fun e w' => ∃ vm fs, e = .returned vm ∧ Fam5 w1.heap.size w' v3 vm ps3 fs ∧ Below w1.heap.size w8 w' ∧ Frm (ps3.map Prod.snd) w8 w') := filledM hR3 hL3 hn3 HS3.out B18.size
  have S8 : Hid (∀ g, w2.heap.size ≤ g → g < w3.heap.size → w8.heap[g]? = w3.heap[g]?) := fun g h1 h2 => (b8.block g (Nat.lt_of_lt_of_le h2 h37)).trans (S7.out g h1 h2)
  have h38 : w3.heap.size ≤ w8.heap.size := Nat.le_trans h37 b8.size
  clear hL3 hR3 b8 HE3 S7 B17
  go_wp2_with fail
  refine HF3.out.mono ?_
  rintro e w9 ⟨vm3, fs3, rfl, hA3, b9, hF9⟩
  have HWS9 : Hid (∀ w', Below w9.heap.size w9 w' → RecsAt w' vw3 L) := fun w' hb => (HWS.out w9 fun g h1 h2 => (hF9.same g (Nat.lt_of_lt_of_le h2 h38) (HDD.out g h1 h2)).trans (S8.out g h1 h2)).kept hb
  have B19 : Below w1.heap.size w1 w9 := B18.trans b9
  have B09 : Below w0.heap.size w0 w9 := andThen b1 B19
  have HA3 : Hid (∀ w', Below w9.heap.size w9 w' → Fam5 w1.heap.size w' v3 vm3 ps3 fs3) := fun w' hb => hA3.kept hb
  have HIN9 : Hid (∀ w', Below w9.heap.size w9 w' → RecsAt w' vin rs ∧ RecsAt w' vr rs ∧ Below w0.heap.size w0 w') := fun w' hb => ⟨HIN.out _ (andThen B19 hb), HRA.out _ (andThen B09 hb), andThen B09 hb⟩
  clear hA3 b9 hF9 HF3 S8 HWS HDD HIN B18 B19 h38 h37
  go_wp2_with fail
  refine (HLY.out _ B09).mono ?_
  rintro e w10 ⟨v4, ps4, rfl, hR4, hm4, b10⟩
  have hn4 : ps4.length ≤ 9000000 := by
    rw [← hm4, List.length_map] at hlL
    omega
  have hra4 := hR4.recs.recsAt
  rw [hm4] at hra4
  have HR4 : Hid (∀ w', Below w10.heap.size w10 w' → Rws w9.heap.size w' v4 ps4 ∧ RecsAt w' v4 L) := fun w' hb => ⟨hR4.kept hb, hra4.kept hb⟩
  have HS4 : Hid (∀ p ∈ ps4, p.1.l.length ≤ 1048576) := fun p hp => (HGL.out.each p.1 (by rw [← hm4]; exact List.mem_map.2 ⟨p, hp, rfl⟩)).2.2
  have HE4 : Hid (Calls Tryd.prog 20 #[v3] w10 fun e w' => ∃ vl, e = .returned vl ∧ Stn w' vl vm3 (ps3.map Prod.snd) (fun i => (cOf ps3 i).length) fs3 ∧ Below w10.heap.size w10 w') := dataS (HA3.out _ b10) hn3
  clear hR4 hm4 hra4
  go_wp2_with fail
  refine HE4.out.mono ?_
  rintro e w11 ⟨vl4, rfl, hS4, b11⟩
  have HE5 : Hid (Calls Tryd.prog 21 #[vl4, vm3] w11 fun e w' => e = .returned (.bool true) ∧ w' = w11) := stand_any vl4 vm3 _ _ fs3 w11 hS4 (by rw [List.length_map]; exact hn3) (cOf_len HS3.out)
  clear hS4 HE4
  go_wp2_with fail
  refine HE5.out.mono ?_
  rintro e w12x ⟨rfl, rfl⟩
  have B911 := andThen b10 b11
  clear HE5
  have HS5 : Hid (Calls Tryd.prog 18 #[v4, vw3] w12x fun e w' => e = .returned (.bool true) ∧ Below w12x.heap.size w12x w') := sameAllR_ok _ _ L w12x (HR4.out _ b11).2 (HWS9.out _ B911)
  go_wp2_with fail
  refine HS5.out.mono ?_
  rintro e w12 ⟨rfl, b12⟩
  have B912 := andThen B911 b12
  have HS6 : Hid (Calls Tryd.prog 18 #[vr, vin] w12 fun e w' => e = .returned (.bool true) ∧ Below w12.heap.size w12 w') := sameAllR_ok _ _ rs w12 (HIN9.out _ B912).2.1 (HIN9.out _ B912).1
  clear HS5
  go_wp2_with fail
  refine HS6.out.mono ?_
  rintro e w13 ⟨rfl, b13⟩
  have B913 := andThen B912 b13
  have HE6 : Hid (Calls Tryd.prog 20 #[v4] w13 fun e w' => ∃ vl, e = .returned vl ∧ Lst w9.heap.size w' vl (ps4.map Prod.snd) (cOf ps4) ∧ Rws w9.heap.size w' v4 ps4 ∧ Below w13.heap.size w13 w') := dataL (HR4.out _ (andThen b11 (andThen b12 b13))).1 hn4
  clear HS6
  go_wp2_with fail
  refine HE6.out.mono ?_
  rintro e w14 ⟨vl6, rfl, hL6, hR6, b14⟩
  have B914 := andThen B913 b14
  have HF6 : Hid (Calls Tryd.prog 19 #[vl6] w14 fun e w' => ∃ vm fs, e = .returned vm ∧ Fam5 w9.heap.size w' v4 vm ps4 fs ∧ Below w9.heap.size w14 w') := filledL hR6 hL6 hn4 HS4.out B914.size
  clear hL6 hR6 b14 HE6 HR4 b10 b11 b12 b13 B911 B912 B913
  go_wp2_with fail
  refine HF6.out.mono ?_
  rintro e w15 ⟨vm6, fs6, rfl, hA6, b15⟩
  have B915 : Below w9.heap.size w9 w15 := B914.trans b15
  have HA6 : Hid (∀ w', Below w15.heap.size w15 w' → Fam5 w9.heap.size w' v4 vm6 ps4 fs6) := fun w' hb => hA6.kept hb
  clear hA6 b15 HF6 B914
  go_wp2_with fail
  refine (HLY.out _ (HIN9.out _ B915).2.2).mono ?_
  rintro e w16 ⟨v5, ps5, rfl, hR5, hm5, b16⟩
  have hra5 := hR5.recs.recsAt
  rw [hm5] at hra5
  have HRA5 : Hid (∀ w', Below w16.heap.size w16 w' → RecsAt w' v5 L) := fun w' hb => hra5.kept hb
  have B916 := andThen B915 b16
  have HS16 : Hid (Calls Tryd.prog 14 #[] w16 fun e w'' => e = .returned (.bool true) ∧ Below w16.heap.size w16 w'') := HST.out _ (HIN9.out _ B916).2.2
  clear hR5 hm5 hra5 HLY
  go_wp2_with fail
  refine HS16.out.mono ?_
  rintro e w17 ⟨rfl, b17⟩
  have B917 := andThen B916 b17
  have B1517 := andThen b16 b17
  have HE7 : Hid (Calls Tryd.prog 20 #[v3] w17 fun e w' => ∃ vl, e = .returned vl ∧ Stn w' vl vm3 (ps3.map Prod.snd) (fun i => (cOf ps3 i).length) fs3 ∧ Below w17.heap.size w17 w') := dataS (HA3.out _ B917) hn3
  clear HS16
  go_wp2_with fail
  refine HE7.out.mono ?_
  rintro e w18 ⟨vl7, rfl, hS7, b18⟩
  have HE8 : Hid (Calls Tryd.prog 21 #[vl7, vm3] w18 fun e w' => e = .returned (.bool true) ∧ w' = w18) := stand_any vl7 vm3 _ _ fs3 w18 hS7 (by rw [List.length_map]; exact hn3) (cOf_len HS3.out)
  clear hS7 HE7
  go_wp2_with fail
  refine HE8.out.mono ?_
  rintro e w18x ⟨rfl, rfl⟩
  have B918 := andThen B917 b18
  have B1618 := andThen b17 b18
  have HE9 : Hid (Calls Tryd.prog 20 #[v4] w18x fun e w' => ∃ vl, e = .returned vl ∧ Stn w' vl vm6 (ps4.map Prod.snd) (fun i => (cOf ps4 i).length) fs6 ∧ Below w18x.heap.size w18x w') := dataS (HA6.out _ (andThen B1517 b18)) hn4
  clear HE8
  go_wp2_with fail
  refine HE9.out.mono ?_
  rintro e w19 ⟨vl9, rfl, hS9, b19⟩
  have HE10 : Hid (Calls Tryd.prog 21 #[vl9, vm6] w19 fun e w' => e = .returned (.bool true) ∧ w' = w19) := stand_any vl9 vm6 _ _ fs6 w19 hS9 (by rw [List.length_map]; exact hn4) (cOf_len HS4.out)
  clear hS9 HE9
  go_wp2_with fail
  refine HE10.out.mono ?_
  rintro e w19x ⟨rfl, rfl⟩
  have B919 := andThen B918 b19
  have B1619 := andThen B1618 b19
  clear HE10
  have HS7 : Hid (Calls Tryd.prog 18 #[v5, vw3] w19x fun e w' => e = .returned (.bool true) ∧ Below w19x.heap.size w19x w') := sameAllR_ok _ _ L w19x (HRA5.out _ B1619) (HWS9.out _ B919)
  go_wp2_with fail
  refine HS7.out.mono ?_
  rintro e w20 ⟨rfl, b20⟩
  have B920 := andThen B919 b20
  have HS8 : Hid (Calls Tryd.prog 18 #[vr, vin] w20 fun e w' => e = .returned (.bool true) ∧ Below w20.heap.size w20 w') := sameAllR_ok _ _ rs w20 (HIN9.out _ B920).2.1 (HIN9.out _ B920).1
  clear HS7
  go_wp2_with fail
  refine HS8.out.mono ?_
  rintro e w21 ⟨rfl, b21⟩
  have B21 := (HIN9.out _ (andThen B920 b21)).2.2
  clear HS8
  go_wp2
  go_ret
  exact ⟨rfl, B21⟩
end Go.Proofs.YtjhgjlnckidjkaaDoor
