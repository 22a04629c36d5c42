import Derived.Test.YtdnackjakfiffaaGreatDoorQP9
/-
  Replay: ReplayEnded's walk.
-/
namespace Go.Proofs.YtdnackjakfiffaaGreatDoor
open Go Go.RowKit Go.ChangeShapes
open Wb

theorem recs_ok {w : World} {v : Value} {rs : List Rec} (h : RecsAt w v rs) : ∀ r ∈ rs, ok r.l := fun r hr => by
  obtain ⟨ao, cap, rfl, hm, hc⟩ := h
  obtain ⟨k, hk, rfl⟩ := List.getElem_of_mem hr
  obtain ⟨b, off, d, _, _, hd⟩ := hc k rs[k] (List.getElem?_eq_getElem hk)
  exact hd.good
theorem LIn.rg {w : World} {v : Value} {rs : List Rec} (h : LIn w v rs) : ∀ r ∈ (rs.take 160).map (cutD 16385), Rp.Rg r := fun r hr => by
  obtain ⟨q, hq, rfl⟩ := List.mem_map.1 hr
  have hq2 := List.mem_of_mem_take hq
  exact ⟨fun x hx => recs_ok h.at' q hq2 x (List.mem_of_mem_take hx), (h.fg q hq2).2⟩
theorem cut_isT (v : Value) (rs : List Rec) (w : World) (h : LIn w v rs) : Calls Tryz.prog 8 #[v, .int .i64 16385] w fun e w' => ∃ ao, ∃ cap : Nat, e = .returned (.slice ao ((rs.take 160).map (cutD 16385)).length cap) ∧ RcY w' (.slice ao ((rs.take 160).map (cutD 16385)).length cap) ((rs.take 160).map (cutD 16385)) ∧ Below w.heap.size w w' := by
  refine (rycut_T v rs w h.at' h.cap h.len).mono fun e w' ⟨v', h1, h2, h3⟩ => ?_
  have h4 := h2
  obtain ⟨ao, cap, e2, _⟩ := h4
  rw [e2] at h1 h2
  exact ⟨ao, cap, h1, h2, h3⟩
/-- sagas anywhere, in a row of the call's own -/
def SgZ (B : Nat) (w : World) (v : Value) (ps : List (Sg × SH)) : Prop := w.ownsRow B 43 16 v ps.length (ps.flatMap scf) ∧ ∀ p ∈ ps, SgO 0 w p.1 p.2
theorem SgZ.nil (B : Nat) (w : World) : SgZ B w (.slice none 0 0) [] := ⟨World.ownsRow_nil _ _ _ _, fun _ h => by cases h⟩
theorem SgZ.kept {B : Nat} {w w' : World} {v : Value} {ps : List (Sg × SH)} (h : SgZ B w v ps) (hb : Below w.heap.size w w') : SgZ B w' v ps := ⟨rowG_keptB h.1 fun g e => hb.block g (World.ownsRow.lt h.1 g e).2, fun p hp => (h.2 p hp).kept hb⟩
theorem SgZ.sgs {B : Nat} {w : World} {v : Value} {ps : List (Sg × SH)} (h : SgZ B w v ps) : Sgs 0 w v ps := by
  refine ⟨⟨h.1.1, ?_⟩, h.2⟩
  rcases h.1.2 with h1 | ⟨g, cap, cur, e, hb, rest⟩
  · exact .inl h1
  · exact .inr ⟨g, cap, cur, e, Nat.zero_le _, rest⟩
theorem SgZ.set {B p j : Nat} {w : World} {v u : Value} {ps : List (Sg × SH)} {t : TypeId} {C : List Value} (h : SgZ B w v ps) (L : LB w p t C) (h1 : t ≠ 43) (h2 : t ≠ 5) (h3 : t ≠ 30) : SgZ B (w.setCell ⟨p, j, none⟩ u) v ps := by
  refine ⟨rowG_keptB h.1 fun g e => set_other _ _ _ _ ?_, fun q hq => (h.2 q hq).kb (KB.cells L h2 h3 j [u])⟩
  show g ≠ p
  rintro rfl
  rcases h.1.2 with ⟨rfl, _⟩ | ⟨g', cap', cur', rfl, _, hg', _⟩
  · simp [Value.ownBlock] at e
  · simp [Value.ownBlock] at e
    subst e
    unfold LB at L
    rw [L] at hg'
    simp at hg'
    exact h1 hg'.2
theorem step_append_sz {ops : Array Oper} {o : Oper} {a : Act} {w : World} {K : Act → World → Prop} {Q : Exit → Act → World → Prop} {E : Prop} (hgd : o.guard = none) (s x : Operand)
    (ho : o.op = .call { callee := .builtin .append, args := #[s, x], argTypes := #[25, 25] })
    (B : Nat) (v : Value) (ps : List (Sg × SH)) (q : Sg × SH) (hv : a.eval s = v) (h : SgZ B w v ps) (g : Nat) (hx : a.eval x = .slice (some ⟨g, 0, none⟩) 1 1)
    (hc : w.rangeAt g 0 (scl q.1 q.2)) (hq2 : SgO 0 w q.1 q.2)
    (hmax : (ps.length + 1) * 200 ≤ 140737488355328) (hB : B ≤ w.heap.size)
    (hK : ∀ v' w', SgZ B w' v' (ps ++ [q]) → Below B w w' → w.grownBy w' v.ownBlock → (∀ (b : Nat) (cs : Array Value) (t : TypeId) (z : Nat × Nat), t ≠ 43 → w.heap[b]? = some (.cells cs t z) → w'.heap[b]? = w.heap[b]?) → K (a.put o.dst v') w') :
    if Region.wanted o (yielded ops a.tmps) = true then Oper.wp Tryz.prog o a w K Q else E := by
  have hw : Region.wanted o (yielded ops a.tmps) = true := by simp [Region.wanted, hgd]
  rw [if_pos hw]
  obtain ⟨i0, hi, hz0, hz1, hz2⟩ := Lft.info_parts3 infoSg
  obtain ⟨v', w', hrun, h2, h3, _⟩ := run_append_own (P := Tryz.prog) w B 25 o.type 43 i0 _ 16 200 Tryz.underlying25 hi hz0 hz1 hz2 rfl (by decide) v ps.length (ps.flatMap scf) h.1 ⟨g, 0, none⟩ 1 1 (scl q.1 q.2) rfl (by
    intro j u hj
    have := hc j u hj
    rw [Addr.add_lit]
    exact this) (fun u hu => scl_one q.1 q.2 u hu) (by unfold maxLen; omega) (by omega) hB
  unfold Oper.wp
  simp [execOp, ho, resolve, invoke, builtin, hv, hx, hrun, Result.andThen]
  have hown : w'.ownsRow B 43 16 v' (ps ++ [q]).length ((ps ++ [q]).flatMap scf) := by
    rw [List.length_append, List.flatMap_append, List.flatMap_cons, List.flatMap_nil, List.append_nil]
    exact h2
  have hty : ∀ (b : Nat) (cs : Array Value) (t : TypeId) (z : Nat × Nat), t ≠ 43 → w.heap[b]? = some (.cells cs t z) → w'.heap[b]? = w.heap[b]? := fun b cs t z ht e => h3.block b (Array.getElem?_eq_some_iff.1 e).1 fun e3 => by
    rcases h.1.2 with ⟨e4, _⟩ | ⟨g', cap', cur', e4, _, hg', _⟩
    · rw [e4] at e3
      simp [Value.ownBlock] at e3
    · rw [e4] at e3
      simp [Value.ownBlock] at e3
      subst e3
      rw [hg'] at e
      simp at e
      exact ht e.2.1.symm
  have hkb : KB w w' := fun b cs t z e ht => hty b cs t z (by rcases ht with rfl | rfl <;> decide) e
  refine hK v' w' ⟨hown, fun p hp => ?_⟩ ((Below.refl B w).grown h3 hB (fun k hk => (World.ownsRow.lt h.1 k hk).1)) h3 hty
  rcases List.mem_append.1 hp with hp | hp
  · exact (h.2 p hp).kb hkb
  · obtain rfl := List.mem_singleton.1 hp
    exact hq2.kb hkb
/-- what ReplayEnded's loop holds -/
def EnI (w w5 : World) (p6 : Nat) (G : Rp.Gs) (ls0 : List Rec) (k : Nat) (lv : Value) (wr : World) : Prop :=
  ∃ ls v ps, RcY wr lv ls ∧ ls.length ≤ 160 ∧ Rp.dropE (G.drop k) ls = Rp.dropE G ls0 ∧ LB wr p6 27 [.int .i64 0, v] ∧ SgZ w5.heap.size wr v ps ∧ ps.map (·.1) = StV (Rp.keepE (G.take k)) ∧ ExT p6 w5 wr ∧ w5.heap.size ≤ wr.heap.size ∧ Below w.heap.size w wr
theorem keepE_snoc (G : Rp.Gs) (k : Nat) (hk : k < G.length) : StV (Rp.keepE (G.take (k + 1))) = StV (Rp.keepE (G.take k)) ++ (if 3 ≤ G[k].2.x.ph then [] else [G[k].2]) := by
  rw [List.take_succ_eq_append_getElem hk]
  unfold StV Rp.keepE
  rw [List.filter_append, List.map_append]
  obtain ⟨p, hp⟩ : ∃ p, G[k] = p := ⟨_, rfl⟩
  rw [hp]
  by_cases h : 3 ≤ p.2.x.ph
  · rw [if_pos h, List.filter_cons, if_neg (by simpa using h)]
    rfl
  · rw [if_neg h, List.filter_cons, if_pos (by simpa using h)]
    rfl
theorem stV_at (G : Rp.Gs) (k : Nat) (h : k < (StV G).length) (h2 : k < G.length) : (StV G)[k] = G[k].2 := by simp [StV]
set_option maxRecDepth 100000 in
set_option maxHeartbeats 8000000 in
theorem replayEnded_walk (v1 : Value) (rs1 : List Rec) (w : World) (h1 : LIn w v1 rs1) (hT : STabs w) :
    Calls Tryz.prog 5 #[v1] w fun e w' => e = .returned (.bool true) ∧ Below w.heap.size w w' := by
  obtain ⟨cs, hcs⟩ : ∃ cs, cs = (rs1.take 160).map (cutD 16385) := ⟨_, rfl⟩
  have hfg : Fg cs := by rw [hcs]; exact cutD_fg (fg_take h1.fg 160) _
  have hrg : ∀ r ∈ cs, Rp.Rg r := by rw [hcs]; exact h1.rg
  have hcl : cs.length ≤ 160 := by rw [hcs, List.length_map, List.length_take]; omega
  have HC1 : Hid (∀ W, Below w.heap.size w W → Calls Tryz.prog 8 #[v1, .int .i64 16385] W fun e w' => ∃ ao, ∃ cap : Nat, e = .returned (.slice ao cs.length cap) ∧ RcY w' (.slice ao cs.length cap) cs ∧ Below W.heap.size W w') := fun W hW => by rw [hcs]; exact cut_isT v1 rs1 W (h1.kept hW)
  have HAW : Hid (Calls Tryz.prog 9 #[] w fun e w' => e = .returned (.bool true) ∧ Below w.heap.size w w') := ryawake_any w hT
  obtain ⟨n, hn⟩ : ∃ n, n = (Rp.fold [] cs).1 := ⟨_, rfl⟩
  obtain ⟨G, hG⟩ : ∃ G, G = (Rp.fold [] cs).2 := ⟨_, rfl⟩
  have hf : Rp.fold [] cs = (n, G) := by rw [hn, hG]
  have hnl : n ≤ cs.length := by rw [hn]; exact Rp.fold_le cs []
  have hGl : G.length ≤ n := by
    have := Rp.fold_size cs []
    rw [← hn, ← hG] at this
    simpa using this
  have HLG : Hid (∀ (ao : Option Addr) (cap : Nat) (W : World), Below w.heap.size w W → RcR W (.slice ao cs.length cap) cs → Calls Tryz.prog 13 #[.slice ao cs.length cap] W fun e w' => ∃ a, ∃ cp : Nat, e = .returned (.tuple #[.slice ao n cap, .agg #[.int .i64 (n : Int), .slice a (StV G).length cp], .bool true]) ∧ SgR w' (.slice a (StV G).length cp) (StV G) ∧ Below W.heap.size W w') := fun ao cap W hW h => legal_is ao cap _ cs G n hf W rfl h (hT.kept hW) hfg (by omega)
  obtain ⟨ls0, hls0⟩ : ∃ ls0, ls0 = cs.take n := ⟨_, rfl⟩
  have hl0 : ls0.length = n := by rw [hls0, List.length_take]; omega
  have hf0 : Rp.fold [] ls0 = (n, G) := by rw [hls0, hn, Rp.fold_take, ← hn, hf]
  have hr0 : ∀ r ∈ ls0, Rp.Rg r := fun r hr => hrg r (by rw [hls0] at hr; exact List.mem_of_mem_take hr)
  have hg0 : Fg ls0 := by rw [hls0]; exact fg_take hfg n
  have hwf : Rp.Wf G := by rw [hG]; exact Rp.Wf.fold cs Rp.Wf.nil hrg
  have HWF : Hid (Rp.Wf G) := hwf
  have hend := Rp.fold_ended hr0 (by rw [hf0, hl0])
  rw [hf0] at hend
  simp only at hend
  have HFE : Hid (∀ (v : Value) (ls : List Rec) (W : World), Below w.heap.size w W → RecsAt W v ls → ls = Rp.dropE G ls0 → ls.length ≤ 160 → Calls Tryz.prog 10 #[v] W fun e w' => ∃ a, ∃ cp : Nat, e = .returned (.tuple #[.agg #[.int .i64 (ls.length : Int), .slice a (StV (Rp.keepE G)).length cp], .int .i64 (-1)]) ∧ SgR w' (.slice a (StV (Rp.keepE G)).length cp) (StV (Rp.keepE G)) ∧ Below W.heap.size W w') := fun v ls W hW h e hl => by
    subst e
    have e1 : Rp.fold [] (Rp.dropE G ls0) = ((Rp.dropE G ls0).length, Rp.keepE G) := Prod.ext hend.1 hend.2
    have e2 : Rp.plc (Rp.dropE G ls0) = -1 := by
      unfold Rp.plc
      rw [if_pos hend.1]
    exact fold_is _ _ _ _ e1 e2 v W h (hT.kept hW) (fun r hr => hg0 r (Rp.mem_dropE G ls0 r hr)) (by omega)
  have HSA : Hid (∀ (m : Int) (v v2 : Value) (W : World), SgR W v (StV (Rp.keepE G)) → SgR W v2 (StV (Rp.keepE G)) → Calls Tryz.prog 12 #[.agg #[.int .i64 m, v], .agg #[.int .i64 m, v2]] W fun e w' => e = .returned (.bool true) ∧ Below W.heap.size W w') := fun m v v2 W a b => rysame_any m v v2 (StV (Rp.keepE G)) W a b
  have HL0 : Hid (ls0 = cs.take n ∧ ls0.length = n) := ⟨hls0, hl0⟩
  clear hf hn hG hcs h1 hT hfg hrg hls0 hl0 hf0 hr0 hg0 hwf hend
  obtain ⟨m, hm⟩ : ∃ m, m = cs.length := ⟨_, rfl⟩
  rw [← hm] at hcl hnl HC1 HLG
  have HM : Hid (m = cs.length) := hm
  clear hm
  have HGS : Hid ((StV G).length = G.length) := by show _ = _; unfold StV; rw [List.length_map]
  have hSl : (StV G).length ≤ 160 := by rw [HGS.out]; omega
  go_enter Tryz.func5, Tryz.ntmps5
  go_wp2_with fail
  refine HAW.out.mono ?_
  rintro e w1 ⟨rfl, b1⟩
  have HB1 : Hid (Below w.heap.size w w1) := b1
  clear b1 HAW
  go_wp2_with fail
  refine (HC1.out _ HB1.out).mono ?_
  rintro e w2 ⟨a1, c1, rfl, r2, b2⟩
  have H2 : Hid (RcY w2 (.slice a1 m c1) cs ∧ Below w.heap.size w w2) := ⟨r2, andThen HB1.out b2⟩
  clear r2 b2 HC1
  go_wp2_with fail
  refine (HLG.out a1 c1 _ H2.out.2 H2.out.1.rcr).mono ?_
  rintro e w4 ⟨a4, c4, rfl, s4, b4⟩
  obtain ⟨W5, hW5⟩ : ∃ W, W = (w4.alloc (.cells #[.int .i64 (n : Int), .slice a4 (StV G).length c4] 27)).alloc (.cells #[.int .i64 0, .slice none 0 0] 27) := ⟨_, rfl⟩
  have H5 : Hid (LB W5 w4.heap.size 27 [.int .i64 (n : Int), .slice a4 (StV G).length c4] ∧ LB W5 (w4.heap.size + 1) 27 [.int .i64 0, .slice none 0 0] ∧ SgR W5 (.slice a4 (StV G).length c4) (StV G) ∧ RcY W5 (.slice a1 m c1) cs ∧ Below w.heap.size w W5) := by
    rw [hW5]
    obtain ⟨l0, l1, b0⟩ := lb_new2 w4 [.int .i64 (n : Int), .slice a4 (StV G).length c4] [.int .i64 0, .slice none 0 0] 27 27
    exact ⟨l0, l1, s4.kept b0, (H2.out.1.kept b4).kept b0, andThen (andThen H2.out.2 b4) b0⟩
  have HW5 : Hid ((w4.alloc (.cells #[.int .i64 (n : Int), .slice a4 (StV G).length c4] 27)).alloc (.cells #[.int .i64 0, .slice none 0 0] 27) = W5) := hW5.symm
  have HW4 : Hid (w.heap.size ≤ w4.heap.size) := (andThen H2.out.2 b4).size
  clear s4 b4 hW5 HLG H2
  go_upto_region 7 with fail
  rw [HW5.out]
  obtain ⟨p4, hp4⟩ : ∃ p, p = w4.heap.size := ⟨_, rfl⟩
  obtain ⟨p6, hp6⟩ : ∃ p, p = w4.heap.size + 1 := ⟨_, rfl⟩
  rw [← hp6, ← hp4] at H5
  try rw [← hp6]
  try rw [← hp4]
  have HP6 : Hid (w.heap.size ≤ p6) := by
    show _ ≤ _
    rw [hp6]
    exact Nat.le_trans HW4.out (Nat.le_succ _)
  have HPP : Hid (p4 ≠ p6) := by show _ ≠ _; rw [hp4, hp6]; omega
  clear hp4 hp6 HW5
  go_wp2_with fail
  go_loopw [3, 7] (fun lv i wr => ∃ k : Nat, k ≤ (StV G).length ∧ i = .int .i64 (k : Int) ∧ EnI w W5 p6 G ls0 k lv wr) (fun _ i _ => (StV G).length - (mInt i).toNat)
  case atStart =>
    refine ⟨0, Nat.zero_le _, rfl, ls0, .slice none 0 0, [], ?_, by rw [HL0.out.2]; omega, by simp, H5.out.2.1, SgZ.nil _ _, rfl, ExT.refl _ _, Nat.le_refl _, H5.out.2.2.2.2⟩
    rw [HL0.out.1]
    exact H5.out.2.2.2.1.take n (by rw [← HM.out]; omega)
  case round =>
    obtain ⟨k, hk, rfl, ls, v, ps, q1, q2, q3, q4, q5, q6, q7, q8, q9⟩ := hrel
    have HI : Hid (RcY wr u3 ls ∧ ls.length ≤ 160 ∧ Rp.dropE (G.drop k) ls = Rp.dropE G ls0 ∧ LB wr p6 27 [.int .i64 0, v] ∧ SgZ W5.heap.size wr v ps ∧ ps.map (·.1) = StV (Rp.keepE (G.take k)) ∧ ExT p6 W5 wr ∧ W5.heap.size ≤ wr.heap.size ∧ Below w.heap.size w wr) := ⟨q1, q2, q3, q4, q5, q6, q7, q8, q9⟩
    have hpl : ps.length ≤ 160 := by
      have e := congrArg List.length q6
      unfold StV Rp.keepE at e
      rw [List.length_map, List.length_map] at e
      have e2 := List.length_filter_le (fun p : Int × Sg => decide (¬ 3 ≤ p.2.x.ph)) (G.take k)
      rw [List.length_take] at e2
      omega
    clear q1 q2 q3 q4 q5 q6 q7 q8 q9
    have HPL : Hid (ps.length ≤ 160) := hpl
    clear hpl
    have H4 : Hid (LB wr p4 27 [.int .i64 (n : Int), .slice a4 (StV G).length c4] ∧ SgR wr (.slice a4 (StV G).length c4) (StV G)) := ⟨(HI.out.2.2.2.2.2.2.1 p4 HPP.out H5.out.1.lt).trans H5.out.1, H5.out.2.2.1.other H5.out.2.1 (by decide) (by decide) (by decide) HI.out.2.2.2.2.2.2.1⟩
    by_cases hlt2 : k < (StV G).length
    · have hlt : k < G.length := by rw [← HGS.out]; exact hlt2
      have hGk := stV_at G k hlt2 hlt
      have hKS := keepE_snoc G k hlt
      have hDR : G.drop k = G[k] :: G.drop (k + 1) := List.drop_eq_getElem_cons hlt
      have hSo : Rp.So G[k].2 G[k].1 := HWF.out.at' G[k].1 G[k].2 ((Mv.get_mem HWF.out.ris).2 (List.getElem_mem hlt))
      obtain ⟨⟨key, S⟩, hkey⟩ : ∃ q : Int × Sg, G[k] = q := ⟨_, rfl⟩
      rw [hkey] at hGk hKS hDR hSo
      simp only at hGk hKS hSo
      obtain ⟨b9, c9, e9, -, -, hc9⟩ := H4.out.2
      simp only [Value.slice.injEq, true_and] at e9
      obtain ⟨rfl, rfl⟩ := e9
      obtain ⟨sb, so, sh, rfl, hr9, hs9⟩ := hc9 k S (by rw [List.getElem?_eq_getElem hlt2, hGk])
      have HRS : Hid (wr.rangeAt sb (so + k * 16) (scl S sh) ∧ SgO 0 wr S sh) := ⟨hr9, hs9⟩
      have HSO : Hid (Rp.So S key) := hSo
      have HKS : Hid (StV (Rp.keepE (G.take (k + 1))) = StV (Rp.keepE (G.take k)) ++ (if 3 ≤ S.x.ph then [] else [S])) := hKS
      have HDR : Hid (G.drop k = (key, S) :: G.drop (k + 1)) := hDR
      have x7 := HRS.out.1 7 (.int .i64 S.x.ph) rfl
      have x0 := HRS.out.1 0 (.int .i64 S.x.id) rfl
      have y1 := H4.out.1.cell 1 _ rfl
      rw [Nat.add_zero] at x0
      clear hc9 hr9 hs9 hSo hKS hDR hGk hkey hlt
      by_cases hph : 3 ≤ S.x.ph
      · have dph : ((3 : Int) ≤ S.x.ph) = True := by simp [hph]
        have HPH : Hid (3 ≤ S.x.ph) := hph
        clear hph
        have HOF : Hid (Calls Tryz.prog 14 #[u3, .int .i64 S.x.id, .bool true] wr fun e w' => ∃ v', e = .returned v' ∧ RcY w' v' (ls.filter fun r => (r.x.s == S.x.id) != true) ∧ Below wr.heap.size wr w') := ryof_T u3 ls S.x.id true wr HI.out.1 (by have := HI.out.2.1; omega)
        go_wp2_with fail
        refine HOF.out.mono ?_
        rintro e w6 ⟨v6, rfl, r6, b6⟩
        have HN : Hid (EnI w W5 p6 G ls0 (k + 1) v6 w6) := by
          have e1 : (ls.filter fun r => (r.x.s == S.x.id) != true) = ls.filter fun r => !(r.x.s == key) := by
            rw [HSO.out.id]
            refine List.filter_congr fun r _ => ?_
            cases (r.x.s == key) <;> rfl
          rw [e1] at r6
          refine ⟨_, v, ps, r6, Nat.le_trans (List.length_filter_le _ _) HI.out.2.1, ?_, HI.out.2.2.2.1.kept b6, HI.out.2.2.2.2.1.kept b6, ?_, HI.out.2.2.2.2.2.2.1.step (b6.mono HI.out.2.2.2.2.2.2.2.1), Nat.le_trans HI.out.2.2.2.2.2.2.2.1 b6.size, andThen HI.out.2.2.2.2.2.2.2.2 b6⟩
          · rw [← HI.out.2.2.1, HDR.out, Rp.dropE, if_pos HPH.out]
          · rw [HKS.out, if_pos HPH.out, List.append_nil]
            exact HI.out.2.2.2.2.2.1
        clear r6 b6 x7 x0 y1
        go_wp2_with fail
        go_roundw
        case rel => exact ⟨k + 1, by omega, by go_num, HN.out⟩
        case measure => simp [mInt]; omega
      · have dph : ((3 : Int) ≤ S.x.ph) = False := by simp; omega
        have HPH : Hid (¬ 3 ≤ S.x.ph) := hph
        clear hph
        obtain ⟨D, hD⟩ : ∃ D, D = scl S sh := ⟨_, rfl⟩
        have HD : Hid (D = scl S sh) := hD
        have HDI : Hid ((Tryz.prog.info? 43).map (·.size) = some D.length) := by show _ = _; rw [hD]; exact infoSaga
        clear hD
        go_upto_region 12 with fail
        clear x7 x0 y1 dph
        obtain ⟨va, vc, rfl⟩ := (HI.out.2.2.2.2.1.sgs).shape
        refine wp_region_held_drew (S := fun _ : World => True) (by kernel_rfl) trivial (fun hH => ?_)
        obtain ⟨WV, hWV⟩ : ∃ x, x = wr.drew := ⟨_, rfl⟩
        have HBV : Hid (Below wr.heap.size wr WV) := by rw [hWV]; exact Below.drew (Below.refl _ _)
        rw [← hWV]
        clear hWV hH
        refine zqk 0 rfl trivial ?_
        try simp only [Act.put, zq1, zq2, zq3, zq4, zq5]
        refine zqk 2 rfl trivial ?_
        try simp only [Act.put, zq1, zq2, zq3, zq4, zq5, zq6]
        refine zqk 4 rfl trivial ?_
        try simp only [Act.put, zq1, zq2, zq3, zq4, zq5, zq6]
        have L6V : Hid (LB WV p6 27 [.int .i64 0, .slice va ps.length vc]) := HI.out.2.2.2.1.kept HBV.out
        have kvv := L6V.out.cell 1 _ rfl
        refine zqm (S := fun W : World => W.cell? ⟨p6, 1, none⟩ = some (.slice va ps.length vc)) 1 10 rfl (Or.inl ⟨by rfl, by intro w9 h9; (try dsimp only at h9); go_simp; all_goals rfl⟩) kvv ?_
        try simp only [Act.put, zq1, zq2, zq3, zq4, zq5, zq6]
        refine wpAnyL_ready (rs := [3]) (by kernel_rfl) (by simp) (by decide) (AllReadyL.cons rfl (fun K hK => ?_) AllReadyL.nil)
        have y1 := (H4.out.1.kept HBV.out).cell 1 _ rfl
        refine rstep_run (v := .slice (some ⟨sb, so, none⟩) (StV G).length c4) (W := WV) rfl (by go_simp) ?_
        refine hK.out _ _ kvv fun _ => ?_
        clear hK K y1
        try simp only [Act.put, zq1, zq2, zq3, zq4, zq5, zq6]
        refine wpAnyL_ready (rs := [5]) (by kernel_rfl) (by simp) (by decide) (AllReadyL.cons rfl (fun K hK => ?_) AllReadyL.nil)
        refine rstep_run (v := .pointer (some ⟨sb, so + k * 16, none⟩)) (W := WV) rfl (by go_simp) ?_
        refine hK.out _ _ kvv fun _ => ?_
        clear hK K
        try simp only [Act.put, zq1, zq2, zq3, zq4, zq5, zq6]
        have HRV : Hid (WV.rangeAt sb (so + k * 16) D) := fun j u hj => by
          rw [HD.out] at hj
          exact (HBV.out.cell (p := ⟨sb, so + k * 16 + j, none⟩) (World.block_lt_of_cell? _ _ (HRS.out.1 j u hj))).trans (HRS.out.1 j u hj)
        refine wpAnyL_ready (rs := [6]) (by kernel_rfl) (by simp) (by decide) (AllReadyL.cons rfl (fun K hK => ?_) AllReadyL.nil)
        refine rstep_load_mid rfl 43 (.tmp 48) rfl sb (so + k * 16) rfl D _ HRV.out Tryz.underlying43 rfl HDI.out ?_
        refine hK.out _ _ kvv fun _ => ?_
        clear hK K
        try simp only [Act.put, zq1, zq2, zq3, zq4, zq5, zq6]
        have L7 : Hid (LB (WV.alloc (.cells D.toArray 43)) WV.heap.size 43 D ∧ Below wr.heap.size wr (WV.alloc (.cells D.toArray 43))) := ⟨lb_new _ _ _, andThen HBV.out (up0 _ _)⟩
        refine wpAnyL_ready (rs := [7]) (by kernel_rfl) (by simp) (by decide) (AllReadyL.cons rfl (fun K hK => ?_) AllReadyL.nil)
        refine rstep_buildG HD.out rfl 49 rfl rfl ?_
        refine hK.out _ _ ((HI.out.2.2.2.1.kept L7.out.2).cell 1 _ rfl) fun _ => ?_
        clear hK K
        try simp only [Act.put, zq1, zq2, zq3, zq4, zq5, zq6]
        refine wpAnyL_ready (rs := [8]) (by kernel_rfl) (by simp) (by decide) (AllReadyL.cons rfl (fun K hK => ?_) AllReadyL.nil)
        refine step_append_sz rfl (.tmp 44) (.tmp 50) rfl W5.heap.size _ ps (S, sh) rfl (HI.out.2.2.2.2.1.kept L7.out.2) WV.heap.size rfl (by rw [← HD.out]; exact L7.out.1.range) (HRS.out.2.kept L7.out.2) (by have := HPL.out; omega) (Nat.le_trans HI.out.2.2.2.2.2.2.2.1 L7.out.2.size) (fun v8 w8 o8 b8 g8 t8 => ?_)
        have L8 : Hid (LB w8 p6 27 [.int .i64 0, .slice va ps.length vc]) := (b8.block p6 H5.out.2.1.lt).trans (HI.out.2.2.2.1.kept L7.out.2)
        have X8 : Hid (RcY w8 u3 ls ∧ ExT p6 W5 w8 ∧ W5.heap.size ≤ w8.heap.size ∧ Below w.heap.size w w8 ∧ SgZ W5.heap.size w8 v8 (ps ++ [(S, sh)])) := ⟨(HI.out.1.kept L7.out.2).keep (fun g cs z _ e => t8 g cs _ z (by decide) e) (fun g cs z e => t8 g cs _ z (by decide) e), (HI.out.2.2.2.2.2.2.1.step (L7.out.2.mono HI.out.2.2.2.2.2.2.2.1)).step b8, Nat.le_trans (Nat.le_trans HI.out.2.2.2.2.2.2.2.1 L7.out.2.size) b8.size, (andThen HI.out.2.2.2.2.2.2.2.2 L7.out.2).trans (b8.mono H5.out.2.2.2.2.size), o8⟩
        refine hK.out _ _ (L8.out.cell 1 _ rfl) fun _ => ?_
        clear hK K b8 g8 o8 t8
        try simp only [Act.put, zq1, zq2, zq3, zq4, zq5, zq6]
        refine wpAnyL_ready (rs := [9]) (by kernel_rfl) (by simp) (by decide) (AllReadyL.cons rfl (fun K hK => ?_) AllReadyL.nil)
        refine rstep_run (v := .pointer (some ⟨p6, 1, none⟩)) (W := w8) rfl (by go_simp) ?_
        refine hK.out _ _ (L8.out.cell 1 _ rfl) fun _ => ?_
        clear hK K
        try simp only [Act.put, zq1, zq2, zq3, zq4, zq5, zq6]
        have z1 := L8.out.cell 1 _ rfl
        have z2 := L8.out.free 1
        have H9 : Hid (EnI w W5 p6 G ls0 (k + 1) u3 (w8.setCell ⟨p6, 1, none⟩ v8)) := by
          refine ⟨ls, v8, ps ++ [(S, sh)], X8.out.1.keep (fun g cs z _ e => set_other _ _ _ _ (by
            show g ≠ p6
            rintro rfl
            have h9 := L8.out
            unfold LB at h9
            rw [h9] at e
            simp at e)) (ktb_cells L8.out (by decide) 1 [v8]), HI.out.2.1, ?_, L8.out.set 1 v8, X8.out.2.2.2.2.set L8.out (by decide) (by decide) (by decide), ?_, X8.out.2.1.set 1 v8, by rw [size_set]; exact X8.out.2.2.1, Below.setCell X8.out.2.2.2.1 HP6.out v8⟩
          · rw [← HI.out.2.2.1, HDR.out, Rp.dropE, if_neg HPH.out]
          · rw [HKS.out, if_neg HPH.out, List.map_append, HI.out.2.2.2.2.2.1]
            rfl
        refine wpAnyL_last (by kernel_rfl) ?_
        refine zqr 10 rfl (fun K hK => ?_)
        obtain ⟨a8, c8, rfl⟩ := (X8.out.2.2.2.2.sgs).shape
        refine rstep_storeS rfl 52 51 rfl p6 1 rfl rfl z1 z2 ?_
        refine hK.out _ _ trivial fun _ => ?_
        clear hK K
        refine wpAnyH_done (by kernel_rfl) ?_ _
        try simp only [Act.put, zq4, zq5, zq6]
        clear z1 z2 kvv
        have h9 := H9.out
        rw [List.length_append, List.length_singleton] at h9
        have H9b : Hid _ := h9
        clear h9 H9
        go_wp2_with fail
        go_roundw
        case rel => exact ⟨k + 1, by omega, by go_num, H9b.out⟩
        case measure => simp [mInt]; omega
    · obtain rfl : k = (StV G).length := by omega
      obtain ⟨va, vc, rfl⟩ := (HI.out.2.2.2.2.1.sgs).shape
      have y1 := H4.out.1.cell 1 _ rfl
      obtain ⟨la, lc, rfl, -⟩ := HI.out.1
      have hls : ls = Rp.dropE G ls0 := by
        have e := HI.out.2.2.1
        rw [HGS.out, List.drop_length] at e
        exact e
      have HLS : Hid (ls = Rp.dropE G ls0) := hls
      clear hls
      have hll := HI.out.2.1
      have z0 := HI.out.2.2.2.1.cell 0 _ rfl
      have f0 := HI.out.2.2.2.1.free 0
      obtain ⟨W6, hW6⟩ : ∃ W, W = wr.setCell ⟨p6, 0, none⟩ (.int .i64 (ls.length : Int)) := ⟨_, rfl⟩
      have H6 : Hid (RecsAt W6 (.slice la ls.length lc) ls ∧ LB W6 p6 27 [.int .i64 (ls.length : Int), .slice va ps.length vc] ∧ SgR W6 (.slice va ps.length vc) (StV (Rp.keepE G)) ∧ Below w.heap.size w W6) := by
        rw [hW6]
        have e1 := (HI.out.1.keep (w' := wr.setCell ⟨p6, 0, none⟩ (.int .i64 (ls.length : Int))) (fun g cs z _ e => set_other _ _ _ _ (by
            show g ≠ p6
            rintro rfl
            have h9 := HI.out.2.2.2.1
            unfold LB at h9
            rw [h9] at e
            simp at e)) (ktb_cells HI.out.2.2.2.1 (by decide) 0 [.int .i64 (ls.length : Int)])).rcr.1
        have e2 := HI.out.2.2.2.2.2.1
        rw [HGS.out, List.take_length] at e2
        refine ⟨e1, HI.out.2.2.2.1.set 0 _, ?_, Below.setCell HI.out.2.2.2.2.2.2.2.2 HP6.out _⟩
        rw [← e2]
        exact ((HI.out.2.2.2.2.1.set HI.out.2.2.2.1 (by decide) (by decide) (by decide)).sgs).at
      have HW6 : Hid (wr.setCell ⟨p6, 0, none⟩ (.int .i64 (ls.length : Int)) = W6) := hW6.symm
      clear hW6
      go_upto_region 14 with fail
      rw [HW6.out]
      clear y1 z0 f0
      go_wp2_with fail
      refine (HFE.out _ ls _ H6.out.2.2.2 H6.out.1 HLS.out HI.out.2.1).mono ?_
      rintro e w7 ⟨a7, c7, rfl, s7, b7⟩
      have b8 := andThen b7 (up0 w7 (.cells #[.int .i64 (ls.length : Int), .slice a7 (StV (Rp.keepE G)).length c7] 27))
      have l8 := H6.out.2.1.kept b8
      have y0 := l8.cell 0 _ rfl
      have y1 := l8.cell 1 _ rfl
      have H8 : Hid (SgR (w7.alloc (.cells #[.int .i64 (ls.length : Int), .slice a7 (StV (Rp.keepE G)).length c7] 27)) (.slice va ps.length vc) (StV (Rp.keepE G)) ∧ SgR (w7.alloc (.cells #[.int .i64 (ls.length : Int), .slice a7 (StV (Rp.keepE G)).length c7] 27)) (.slice a7 (StV (Rp.keepE G)).length c7) (StV (Rp.keepE G)) ∧ Below w.heap.size w (w7.alloc (.cells #[.int .i64 (ls.length : Int), .slice a7 (StV (Rp.keepE G)).length c7] 27))) := ⟨H6.out.2.2.1.kept b8, s7.kept (up0 _ _), andThen H6.out.2.2.2 b8⟩
      clear b7 b8 l8 s7
      go_wp2_with fail
      refine (HSA.out _ _ _ _ H8.out.2.1 H8.out.1).mono ?_
      rintro e w9 ⟨rfl, b9⟩
      have HB9 : Hid (Below w.heap.size w w9) := andThen H8.out.2.2 b9
      clear b9 y0 y1
      go_wp2_with fail
      go_ret
      exact ⟨rfl, HB9.out⟩
end Go.Proofs.YtdnackjakfiffaaGreatDoor
