import Derived.Laws.AppendOwnNone
import Derived.Test.YtdnackjakfiffaaGreatDoorQP6
/-
  Replay: the laws' awake.
-/
namespace Go.Proofs.YtdnackjakfiffaaGreatDoor
open Go Go.RowKit Go.ChangeShapes
open Wb

theorem recsAt_new (w : World) (r : Rec) (d : Value) (G : List Value) (hG : G = rcE r.x r.nm d) (h : Bs w d r.l) : RecsAt (w.alloc (.cells G.toArray 32)) (.slice (some ⟨w.heap.size, 0, none⟩) 1 1) [r] := by
  have L := lb_new w G 32
  refine ⟨some ⟨w.heap.size, 0, none⟩, 1, rfl, by simp [maxLen], fun k q e => ?_⟩
  match k, e with
  | 0, e =>
    obtain rfl := Option.some.inj e
    refine ⟨_, 0, d, rfl, ?_, h.alloc _⟩
    have h9 := L.range
    rw [hG] at h9 ⊢
    simp only [Nat.zero_mul, Nat.add_zero]
    exact h9
theorem rcB_good : Fg [rcB] := fun r hr => by
  obtain rfl := List.mem_singleton.1 hr
  exact ⟨by decide, fun t h1 h9 => by
    unfold Nums.tag
    obtain rfl | rfl | rfl | rfl | rfl | rfl | rfl | rfl | rfl : t = 1 ∨ t = 2 ∨ t = 3 ∨ t = 4 ∨ t = 5 ∨ t = 6 ∨ t = 7 ∨ t = 8 ∨ t = 9 := by omega
    all_goals decide⟩
theorem fold_one_any (v : Value) (w : World) (hR : RecsAt w v [rcB]) (hT : STabs w) : Calls Tryz.prog 10 #[v] w fun e w' => ∃ a, ∃ cp : Nat, e = .returned (.tuple #[.agg #[.int .i64 1, .slice a 1 cp], .int .i64 (-1)]) ∧ SgR w' (.slice a 1 cp) [sgB] ∧ Below w.heap.size w w' := by
  have e := ryfold_any [rcB] v w hR hT rcB_good (by simp)
  refine e.mono fun e w' ⟨a, cp, h1, h2, h3⟩ => ?_
  rw [rcB_plc] at h1
  rw [rcB_fold] at h1 h2
  exact ⟨a, cp, h1, h2, h3⟩
set_option maxRecDepth 100000 in
set_option maxHeartbeats 8000000 in
theorem ryawake_any (w : World) (hT : STabs w) : Calls Tryz.prog 9 #[] w fun e w' => e = .returned (.bool true) ∧ Below w.heap.size w w' := by
  have HT : Hid (∀ W, Below w.heap.size w W → STabs W) := fun W hW => hT.kept hW
  have HFO : Hid (∀ (v : Value) (W : World), Below w.heap.size w W → RecsAt W v [rcB] → Calls Tryz.prog 10 #[v] W fun e w' => ∃ a, ∃ cp : Nat, e = .returned (.tuple #[.agg #[.int .i64 1, .slice a 1 cp], .int .i64 (-1)]) ∧ SgR w' (.slice a 1 cp) [sgB] ∧ Below W.heap.size W w') := fun v W hW hR => fold_one_any v W hR (hT.kept hW)
  have HSA : Hid (∀ (v v2 : Value) (W : World), SgR W v [sgB] → SgR W v2 [sgB] → Calls Tryz.prog 12 #[.agg #[.int .i64 1, v], .agg #[.int .i64 1, v2]] W fun e w' => e = .returned (.bool true) ∧ Below W.heap.size W w') := fun v v2 W h1 h2 => rysame_any 1 v v2 [sgB] W h1 h2
  clear hT
  obtain ⟨ZR, hZR⟩ : ∃ ZR, ZR = zrl := ⟨_, rfl⟩
  have HZR : Hid (ZR = zrl) := hZR
  clear hZR
  go_enter Tryz.func9, Tryz.ntmps9
  go_wp2_with fail
  refine (rybegin_any _).mono ?_
  rintro e w1 ⟨a, c, a2, c2, rfl, d1, s1, b1⟩
  have H1 : Hid (Bs w1 (.slice a 3 c) rcB.l ∧ SgR w1 (.slice a2 1 c2) [sgB] ∧ Below w.heap.size w w1) := ⟨d1, s1, b1⟩
  clear d1 s1 b1
  obtain ⟨L, hL, hLL, hLE⟩ := rv_letter rcB.x rcB.nm (.slice a 3 c)
  rw [hL]
  have HLI : Hid _ := hLL
  have HLE : Hid (L = rcE rcB.x rcB.nm (.slice a 3 c)) := hLE
  have HL1 : Hid (∀ v ∈ L, v.oneCell' = true) := by show ∀ v ∈ L, _; rw [hLE]; exact rcE_one _ _ _ rfl
  have HLZ : Hid (L.length = ZR.length) := by show _ = _; rw [hLE, HZR.out]; rfl
  clear hL hLL hLE
  obtain ⟨M, hM⟩ : ∃ M : List Value, M = [.int .i64 1, .slice a2 1 c2] := ⟨_, rfl⟩
  have HX : Hid (LB ((w1.alloc (.cells ZR.toArray 32)).alloc (.cells #[.int .i64 0, .slice none 0 0] 27)) w1.heap.size 32 ZR ∧ LB ((w1.alloc (.cells ZR.toArray 32)).alloc (.cells #[.int .i64 0, .slice none 0 0] 27)) (w1.heap.size + 1) 27 [.int .i64 0, .slice none 0 0] ∧ Below w1.heap.size w1 ((w1.alloc (.cells ZR.toArray 32)).alloc (.cells #[.int .i64 0, .slice none 0 0] 27))) := lb_new2 w1 _ _ _ _
  obtain ⟨W3, hW3⟩ : ∃ W, W = (((w1.alloc (.cells ZR.toArray 32)).alloc (.cells #[.int .i64 0, .slice none 0 0] 27)).setCells w1.heap.size 0 L).setCells (w1.heap.size + 1) 0 [.int .i64 1, .slice a2 1 c2] := ⟨_, rfl⟩
  have H3 : Hid (LB W3 w1.heap.size 32 L ∧ LB W3 (w1.heap.size + 1) 27 [.int .i64 1, .slice a2 1 c2] ∧ Below w1.heap.size w1 W3) := by
    rw [hW3]
    obtain ⟨l0, l1, b0⟩ := HX.out
    exact ⟨(l0.sets L HLZ.out).others _ _ _ (by omega), (l1.others _ _ _ (by omega)).sets _ rfl, below_cells (by omega) _ 0 _ (below_cells (Nat.le_refl _) _ 0 _ b0)⟩
  have HW3 : Hid ((((w1.alloc (.cells ZR.toArray 32)).alloc (.cells #[.int .i64 0, .slice none 0 0] 27)).setCells w1.heap.size 0 L).setCells (w1.heap.size + 1) 0 [.int .i64 1, .slice a2 1 c2] = W3) := hW3.symm
  clear hW3 hM M
  have HR4 : Hid (RecsAt (W3.alloc (.cells L.toArray 32)) (.slice (some ⟨W3.heap.size, 0, none⟩) 1 1) [rcB] ∧ Below w.heap.size w (W3.alloc (.cells L.toArray 32))) := ⟨recsAt_new W3 rcB _ L HLE.out (H1.out.1.kept H3.out.2.2), up (andThen H1.out.2.2 H3.out.2.2) _⟩
  go_wp2_with (first
    | (refine wpList_alloc_R HZR.out rfl rfl ?_; (try simp only []))
    | (refine wpList_store_mid rfl 32 (.tmp 1) (.tmp 7) rfl w1.heap.size 0 L.toArray rfl rfl (there_of HX.out.1 (by simpa using HLZ.out)) (by simpa using HLI.out) (all_oneCell_toArray HL1.out) ?_; (rw [List.toList_toArray]))
    | (refine wpList_store_mid rfl 27 (.tmp 2) (.tmp 8) rfl (w1.heap.size + 1) 0 #[.int .i64 1, .slice a2 1 c2] rfl rfl (there_of (HX.out.2.1.others _ _ _ (by omega)) rfl) (by kernel_rfl) (by simp [Value.oneCell']) ?_; (rw [List.toList_toArray, HW3.out]))
    | (refine wpList_load_mid rfl 32 (.tmp 1) rfl w1.heap.size 0 rfl L _ H3.out.1.range Tryz.underlying32 rfl HLI.out ?_)
    | (refine wpList_buildR HLE.out rfl 10 rfl rfl ?_)
    | fail)
  refine (HFO.out _ _ HR4.out.2 HR4.out.1).mono ?_
  rintro e w5 ⟨a5, c5, rfl, s5, b5⟩
  have H5 : Hid (LB w5 (w1.heap.size + 1) 27 [.int .i64 1, .slice a2 1 c2] ∧ SgR w5 (.slice a2 1 c2) [sgB] ∧ SgR w5 (.slice a5 1 c5) [sgB] ∧ Below w.heap.size w w5) := ⟨(H3.out.2.1.kept (up0 _ _)).kept b5, ((H1.out.2.1.kept H3.out.2.2).kept (up0 _ _)).kept b5, s5, andThen HR4.out.2 b5⟩
  clear s5 b5
  have b6 := up0 w5 (.cells #[.int .i64 1, .slice a5 1 c5] 27)
  have l6 := H5.out.1.kept b6
  have y0 := l6.cell 0 _ rfl
  have y1 := l6.cell 1 _ rfl
  have H6 : Hid (SgR (w5.alloc (.cells #[.int .i64 1, .slice a5 1 c5] 27)) (.slice a2 1 c2) [sgB] ∧ SgR (w5.alloc (.cells #[.int .i64 1, .slice a5 1 c5] 27)) (.slice a5 1 c5) [sgB] ∧ Below w.heap.size w (w5.alloc (.cells #[.int .i64 1, .slice a5 1 c5] 27))) := ⟨H5.out.2.1.kept b6, H5.out.2.2.1.kept b6, andThen H5.out.2.2.2 b6⟩
  clear b6 l6
  go_wp2_with fail
  refine (HSA.out _ _ _ H6.out.2.1 H6.out.1).mono ?_
  rintro e w7 ⟨rfl, b7⟩
  have HB7 : Hid (Below w.heap.size w w7) := andThen H6.out.2.2 b7
  clear b7 y0 y1
  go_wp2_with fail
  go_ret
  exact ⟨rfl, HB7.out⟩
end Go.Proofs.YtdnackjakfiffaaGreatDoor

/-
  Replay: a list of records behind another; ReplayFirst's walk.
-/
namespace Go.Proofs.YtdnackjakfiffaaGreatDoor
open Go Go.RowKit Go.ChangeShapes
open Wb

theorem recs_choose {w : World} {v : Value} {qs : List Rec} (h : RecsAt w v qs) : ∃ ps : List (Rec × Value), ps.map Prod.fst = qs ∧ (∀ p ∈ ps, Bs w p.2 p.1.l) ∧ ∃ ao cap, v = .slice ao qs.length cap ∧ qs.length ≤ maxLen ∧ ∀ k (hk : k < ps.length), ∃ b off, ao = some ⟨b, off, none⟩ ∧ w.rangeAt b (off + k * 12) (rcl ps[k]) := by
  obtain ⟨ao, cap, rfl, hm, hc⟩ := h
  have H : ∀ k : Fin qs.length, ∃ d, ∃ b off, ao = some ⟨b, off, none⟩ ∧ w.rangeAt b (off + k.1 * 12) (rcl (qs[k.1], d)) ∧ Bs w d qs[k.1].l := fun k => by
    obtain ⟨b, off, d, h1, h2, h3⟩ := hc k.1 qs[k.1] (List.getElem?_eq_getElem k.2)
    exact ⟨d, b, off, h1, h2, h3⟩
  refine ⟨List.ofFn fun k : Fin qs.length => (qs[k.1], Classical.choose (H k)), ?_, ?_, ao, cap, rfl, hm, ?_⟩
  · refine List.ext_getElem (by simp) fun k h1 h2 => ?_
    simp
  · intro p hp
    obtain ⟨k, hk, rfl⟩ := List.getElem_of_mem hp
    rw [List.getElem_ofFn]
    obtain ⟨b, off, _, _, h3⟩ := Classical.choose_spec (H ⟨k, by simpa using hk⟩)
    exact h3
  · intro k hk
    obtain ⟨b, off, h1, h2, _⟩ := Classical.choose_spec (H ⟨k, by simpa using hk⟩)
    refine ⟨b, off, h1, ?_⟩
    rw [List.getElem_ofFn]
    exact h2
/-- append(v, x...) of records that were there before -/
theorem wpList_append_recs {P : Program} (w : World) {ops : Array Oper} {rest : List Oper} {o : Oper} {a : Act} {Q : Exit → Act → World → Prop} (hgd : o.guard = none) (s x : Operand) (t : TypeId)
    (ho : o.op = .call { callee := .builtin .append, args := #[s, x], argTypes := #[t, t] })
    (B : Nat) (hinfo : (P.info? 32).map (fun i => (i.zero, i.size, i.bytes)) = some (some (.agg #[.int .i64 0, .int .i64 0, .int .i64 0, .int .i64 0, .int .i64 0, .int .i64 0, .int .i64 0, .int .i64 0, .int .i64 0, .int .i64 0, .string ⟨#[]⟩, .slice none 0 0]), 12, 120)) (ht : P.underlying t = some (.slice 32))
    (W0 : World) (hw : Below W0.heap.size W0 w) (hB0 : W0.heap.size ≤ B)
    (v v2 : Value) (ps : List (Rec × Value)) (qs : List Rec) (hv : a.eval s = v) (hx : a.eval x = v2) (h : Outs B w v ps) (h2 : RcR W0 v2 qs)
    (hmax : (ps.length + qs.length) * 120 ≤ 140737488355328) (hB : B ≤ w.heap.size)
    (hK : ∀ v' w' ps', Outs B w' v' ps' → ps'.map Prod.fst = ps.map Prod.fst ++ qs → Below B w w' → wpList P ops Q rest (a.put o.dst v') w') : wpList P ops Q (o :: rest) a w := by
  obtain ⟨i0, hi, hz0, hz1, hz2⟩ := Lft.info_parts3 hinfo
  obtain ⟨qs', hq1, hq2, ao, cap, rfl, hqm, hq3⟩ := recs_choose h2.1
  have hcap0 := (h2.2 ao qs.length cap rfl).2.2
  have hql : qs'.length = qs.length := by rw [← hq1, List.length_map]
  cases ao with
  | none =>
    have hq0 : qs' = [] := by
      cases qs' with
      | nil => rfl
      | cons p r =>
        obtain ⟨b, off, e, _⟩ := hq3 0 (by simp)
        cases e
    subst hq0
    obtain rfl : qs = [] := by rw [← hq1]; rfl
    refine wpList_append_own_none hgd s x t ho B 32 i0 12 ht hi v ps.length (ps.flatMap rcl) hv h.1 (by
      rw [hx, hcap0 rfl]
      rfl) ?_
    exact hK v w ps h (by rw [List.append_nil]) (Below.refl _ _)
  | some a2 =>
    refine wpList_append_own_at w hgd s x t ho B 32 i0 _ 12 120 ht hi hz0 hz1 hz2 rfl (by decide) v ps.length (ps.flatMap rcl) hv h.1 a2 qs.length cap (qs'.flatMap rcl) hx (by rw [rcls_len, hql]) ?_ ?_ (by unfold maxLen; omega) (by omega) hB ?_
    · intro j u hj
      have hjl := (List.getElem?_eq_some_iff.1 hj).1
      rw [rcls_len] at hjl
      have hk : j / 12 < qs'.length := by omega
      have hj2 : j = j / 12 * 12 + j % 12 := by omega
      obtain ⟨b, off, e, hr⟩ := hq3 (j / 12) hk
      obtain rfl := Option.some.inj e
      rw [hj2, rcls_get qs' (j / 12) hk (j % 12) (by omega)] at hj
      have h9 := hr (j % 12) u hj
      rw [Addr.add_mid, show off + j = off + j / 12 * 12 + j % 12 by omega]
      exact (hw.cell (p := ⟨b, off + j / 12 * 12 + j % 12, none⟩) (World.block_lt_of_cell? _ _ h9)).trans h9
    · intro u hu
      obtain ⟨q, hq, hu⟩ := List.mem_flatMap.1 hu
      have hqo : q.2.oneCell' = true := by
        obtain ⟨ao, cp, e, _⟩ := (hq2 q hq).shape
        rw [e]; rfl
      simp only [rcl, List.mem_cons, List.not_mem_nil, or_false] at hu
      rcases hu with rfl | rfl | rfl | rfl | rfl | rfl | rfl | rfl | rfl | rfl | rfl | rfl
      all_goals first | rfl | exact hqo
    · intro v' w' h3 h4 _ h5
      have hvB : ∀ g, v.ownBlock = some g → B ≤ g := fun g hg => (World.ownsRow.lt h.1 g hg).1
      have hbel : Below B w w' := (Below.refl B w).grown h4 hB hvB
      refine hK v' w' (ps ++ qs') ⟨by rw [List.length_append, List.flatMap_append, hql]; exact h3, fun p hp => ?_⟩ (by rw [List.map_append, hq1]) hbel
      have hb' : ∀ p : Rec × Value, Bs w p.2 p.1.l → (∀ g, v.ownBlock = some g → Off g p.2 p.1.l) → Bs w' p.2 p.1.l ∧ ∀ g, v'.ownBlock = some g → Off g p.2 p.1.l := fun p hb ho => ⟨bs_grown hb h4 ho, fun g hg => by
        rcases h5 with e | e
        · exact ho g (e ▸ hg)
        · rw [e] at hg
          exact off_of hb g (Nat.le_of_eq (Option.some.inj hg))⟩
      rcases List.mem_append.1 hp with hp | hp
      · exact hb' p (h.2 p hp).1 (h.2 p hp).2
      · exact hb' p ((hq2 p hp).kept hw) fun g hg => off_of (hq2 p hp) g (Nat.le_trans hB0 (hvB g hg))
end Go.Proofs.YtdnackjakfiffaaGreatDoor
