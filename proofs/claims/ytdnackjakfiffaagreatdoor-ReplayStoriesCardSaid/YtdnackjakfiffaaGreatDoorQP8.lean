import Derived.Test.YtdnackjakfiffaaGreatDoorQP7
/-
  Replay: ReplayFirst's walk.
-/
namespace Go.Proofs.YtdnackjakfiffaaGreatDoor
open Go Go.RowKit Go.ChangeShapes
open Wb

theorem cutD_fg {rs : List Rec} (h : Fg rs) (n : Nat) : Fg (rs.map (cutD n)) := fun r hr => by
  obtain ⟨q, hq, rfl⟩ := List.mem_map.1 hr
  exact h q hq
theorem fg_take {rs : List Rec} (h : Fg rs) (n : Nat) : Fg (rs.take n) := fun r hr => h r (List.mem_of_mem_take hr)
theorem fg_app {a b : List Rec} (h : Fg a) (h2 : Fg b) : Fg (a ++ b) := fun r hr => (List.mem_append.1 hr).elim (h r) (h2 r)
theorem fg_filter {a : List Rec} (h : Fg a) (p : Rec → Bool) : Fg (a.filter p) := fun r hr => h r (List.mem_filter.1 hr).1
/-- a state, to be told -/
def StV (G : Rp.Gs) : List Sg := G.map (·.2)
/-- Fold, by what it answers -/
theorem fold_is (rs : List Rec) (G : Rp.Gs) (n : Nat) (p : Int) (hf : Rp.fold [] rs = (n, G)) (hp : Rp.plc rs = p) (v : Value) (w : World) (hR : RecsAt w v rs) (hT : STabs w) (hg : Fg rs) (hl : rs.length ≤ 10000000) :
    Calls Tryz.prog 10 #[v] w fun e w' => ∃ a, ∃ cp : Nat, e = .returned (.tuple #[.agg #[.int .i64 (n : Int), .slice a (StV G).length cp], .int .i64 p]) ∧ SgR w' (.slice a (StV G).length cp) (StV G) ∧ Below w.heap.size w w' := by
  refine (ryfold_any rs v w hR hT hg hl).mono fun e w' ⟨a, cp, h1, h2, h3⟩ => ?_
  rw [hf, hp] at h1
  rw [hf] at h2
  exact ⟨a, cp, h1, h2, h3⟩
theorem legal_is (ao : Option Addr) (cap m : Nat) (rs : List Rec) (G : Rp.Gs) (n : Nat) (hf : Rp.fold [] rs = (n, G)) (w : World) (hm : m = rs.length) (h : RcR w (.slice ao m cap) rs) (hT : STabs w) (hg : Fg rs) (hl : rs.length ≤ 10000000) :
    Calls Tryz.prog 13 #[.slice ao m cap] w fun e w' => ∃ a, ∃ cp : Nat, e = .returned (.tuple #[.slice ao n cap, .agg #[.int .i64 (n : Int), .slice a (StV G).length cp], .bool true]) ∧ SgR w' (.slice a (StV G).length cp) (StV G) ∧ Below w.heap.size w w' := by
  subst hm
  refine (rylegal_any ao cap rs w h hT hg hl).mono fun e w' ⟨a, cp, h1, h2, h3⟩ => ?_
  rw [hf] at h1 h2
  exact ⟨a, cp, h1, h2, h3⟩
/-- a list handed to a law -/
structure LIn (w : World) (v : Value) (rs : List Rec) : Prop where
  at' : RecsAt w v rs
  cap : ∀ ao, ∀ n c : Nat, v = .slice ao n c → n ≤ c ∧ c ≤ maxLen
  len : ∀ r ∈ rs, r.l.length ≤ 140737488355000
  fg : Fg rs
theorem LIn.kept {w w' : World} {v : Value} {rs : List Rec} (h : LIn w v rs) (hb : Below w.heap.size w w') : LIn w' v rs := ⟨h.at'.kept hb, h.cap, h.len, h.fg⟩
/-- cut, by what it answers -/
theorem cut_is (v : Value) (rs : List Rec) (w : World) (h : LIn w v rs) : Calls Tryz.prog 8 #[v, .int .i64 16385] w fun e w' => ∃ ao, ∃ cap : Nat, e = .returned (.slice ao ((rs.take 160).map (cutD 16385)).length cap) ∧ RcR w' (.slice ao ((rs.take 160).map (cutD 16385)).length cap) ((rs.take 160).map (cutD 16385)) ∧ Below w.heap.size w w' := by
  refine (rycut_any v rs w h.at' h.cap h.len).mono fun e w' ⟨v', h1, h2, h3⟩ => ?_
  obtain ⟨ao, cap, e2, _⟩ := h2.1
  rw [e2] at h1 h2
  exact ⟨ao, cap, h1, h2, h3⟩
set_option maxRecDepth 100000 in
set_option maxHeartbeats 8000000 in
theorem replayFirst_walk (v1 v2 : Value) (rs1 rs2 : List Rec) (w : World) (h1 : LIn w v1 rs1) (h2 : LIn w v2 rs2) (hT : STabs w) :
    Calls Tryz.prog 4 #[v1, v2] w fun e w' => e = .returned (.bool true) ∧ Below w.heap.size w w' := by
  obtain ⟨cs, hcs⟩ : ∃ cs, cs = (rs1.take 160).map (cutD 16385) := ⟨_, rfl⟩
  obtain ⟨ds, hds⟩ : ∃ ds, ds = (rs2.take 160).map (cutD 16385) := ⟨_, rfl⟩
  have hfg : Fg cs := by rw [hcs]; exact cutD_fg (fg_take h1.fg 160) _
  have hfg2 : Fg ds := by rw [hds]; exact cutD_fg (fg_take h2.fg 160) _
  have hcl : cs.length ≤ 160 := by rw [hcs, List.length_map, List.length_take]; omega
  have hdl : ds.length ≤ 160 := by rw [hds, List.length_map, List.length_take]; omega
  have HC1 : Hid (Calls Tryz.prog 8 #[v1, .int .i64 16385] w fun e w' => ∃ ao, ∃ cap : Nat, e = .returned (.slice ao cs.length cap) ∧ RcR w' (.slice ao cs.length cap) cs ∧ Below w.heap.size w w') := by rw [hcs]; exact cut_is v1 rs1 w h1
  have HC2 : Hid (∀ W, Below w.heap.size w W → Calls Tryz.prog 8 #[v2, .int .i64 16385] W fun e w' => ∃ ao, ∃ cap : Nat, e = .returned (.slice ao ds.length cap) ∧ RcR w' (.slice ao ds.length cap) ds ∧ Below W.heap.size W w') := fun W hW => by rw [hds]; exact cut_is v2 rs2 W (h2.kept hW)
  have HAW : Hid (∀ W, Below w.heap.size w W → Calls Tryz.prog 9 #[] W fun e w' => e = .returned (.bool true) ∧ Below W.heap.size W w') := fun W hW => ryawake_any W (hT.kept hW)
  obtain ⟨n, hn⟩ : ∃ n, n = (Rp.fold [] cs).1 := ⟨_, rfl⟩
  obtain ⟨G, hG⟩ : ∃ G, G = (Rp.fold [] cs).2 := ⟨_, rfl⟩
  have hf : Rp.fold [] cs = (n, G) := by rw [hn, hG]
  have hnl : n ≤ cs.length := by rw [hn]; exact Rp.fold_le cs []
  have HLG : Hid (∀ (ao : Option Addr) (cap : Nat) (W : World), Below w.heap.size w W → RcR W (.slice ao cs.length cap) cs → Calls Tryz.prog 13 #[.slice ao cs.length cap] W fun e w' => ∃ a, ∃ cp : Nat, e = .returned (.tuple #[.slice ao n cap, .agg #[.int .i64 (n : Int), .slice a (StV G).length cp], .bool true]) ∧ SgR w' (.slice a (StV G).length cp) (StV G) ∧ Below W.heap.size W w') := fun ao cap W hW h => legal_is ao cap _ cs G n hf W rfl h (hT.kept hW) hfg (by omega)
  have HFG : Hid (∀ (ao : Option Addr) (cap : Nat) (W : World), Below w.heap.size w W → RcR W (.slice ao cs.length cap) cs → Calls Tryz.prog 10 #[.slice ao n cap] W fun e w' => ∃ a, ∃ cp : Nat, e = .returned (.tuple #[.agg #[.int .i64 (n : Int), .slice a (StV G).length cp], .int .i64 (-1)]) ∧ SgR w' (.slice a (StV G).length cp) (StV G) ∧ Below W.heap.size W w') := fun ao cap W hW h => by
    have e1 : Rp.fold [] (cs.take n) = (n, G) := by rw [hn, Rp.fold_take, ← hn, hf]
    have e2 : Rp.plc (cs.take n) = -1 := by rw [hn]; exact Rp.plc_take cs
    exact fold_is (cs.take n) G n (-1) e1 e2 _ W (h.take n hnl).1 (hT.kept hW) (fg_take hfg n) (by rw [List.length_take]; omega)
  have HFM : Hid (n < cs.length → ∀ (v : Value) (W : World), Below w.heap.size w W → RecsAt W v (cs.take (n + 1) ++ ds) → Calls Tryz.prog 10 #[v] W fun e w' => ∃ a, ∃ cp : Nat, e = .returned (.tuple #[.agg #[.int .i64 (n : Int), .slice a (StV G).length cp], .int .i64 (n : Int)]) ∧ SgR w' (.slice a (StV G).length cp) (StV G) ∧ Below W.heap.size W w') := fun hlt v W hW h => by
    have e1 : Rp.fold [] (cs.take (n + 1) ++ ds) = (n, G) := by
      have := Rp.fold_more cs ds [] (by rw [← hn]; exact hlt)
      rw [← hn] at this
      rw [this, hf]
    have hl9 : (cs.take (n + 1) ++ ds).length = n + 1 + ds.length := by rw [List.length_append, List.length_take]; omega
    have e2 : Rp.plc (cs.take (n + 1) ++ ds) = (n : Int) := by
      unfold Rp.plc
      rw [e1, hl9, if_neg (by simp only; omega)]
    exact fold_is _ G n (n : Int) e1 e2 v W h (hT.kept hW) (fg_app (fg_take hfg _) hfg2) (by rw [hl9]; omega)
  have HSA : Hid (∀ (v v2 : Value) (W : World), SgR W v (StV G) → SgR W v2 (StV G) → Calls Tryz.prog 12 #[.agg #[.int .i64 (n : Int), v], .agg #[.int .i64 (n : Int), v2]] W fun e w' => e = .returned (.bool true) ∧ Below W.heap.size W w') := fun v v2 W a b => rysame_any n v v2 (StV G) W a b
  clear hf hn hG hcs hds h1 h2 hT hfg hfg2
  obtain ⟨m, hm⟩ : ∃ m, m = cs.length := ⟨_, rfl⟩
  obtain ⟨l, hl⟩ : ∃ l, l = ds.length := ⟨_, rfl⟩
  rw [← hm] at hcl hnl HC1 HLG HFG HFM
  rw [← hl] at hdl HC2
  have HM : Hid (m = cs.length) := hm
  have HL : Hid (l = ds.length) := hl
  clear hm hl
  have hin := infoR12
  go_enter Tryz.func4, Tryz.ntmps4
  go_wp2_with fail
  refine HC1.out.mono ?_
  rintro e w1 ⟨a1, c1, rfl, r1, b1⟩
  have H1 : Hid (RcR w1 (.slice a1 m c1) cs ∧ Below w.heap.size w w1) := ⟨r1, b1⟩
  clear r1 b1
  go_wp2_with fail
  refine (HC2.out _ H1.out.2).mono ?_
  rintro e w2 ⟨a2, c2, rfl, r2, b2⟩
  have H2 : Hid (RcR w2 (.slice a1 m c1) cs ∧ RcR w2 (.slice a2 l c2) ds ∧ Below w.heap.size w w2) := ⟨H1.out.1.kept b2, r2, andThen H1.out.2 b2⟩
  clear r2 b2 HC1 HC2 H1
  go_wp2_with fail
  refine (HAW.out _ H2.out.2.2).mono ?_
  rintro e w3 ⟨rfl, b3⟩
  have H3 : Hid (RcR w3 (.slice a1 m c1) cs ∧ RcR w3 (.slice a2 l c2) ds ∧ Below w.heap.size w w3) := ⟨H2.out.1.kept b3, H2.out.2.1.kept b3, andThen H2.out.2.2 b3⟩
  clear b3 H2 HAW
  go_wp2_with fail
  refine (HLG.out a1 c1 _ H3.out.2.2 H3.out.1).mono ?_
  rintro e w4 ⟨a4, c4, rfl, s4, b4⟩
  obtain ⟨W5, hW5⟩ : ∃ W, W = w4.alloc (.cells #[.int .i64 (n : Int), .slice a4 (StV G).length c4] 27) := ⟨_, rfl⟩
  have H5 : Hid (LB W5 w4.heap.size 27 [.int .i64 (n : Int), .slice a4 (StV G).length c4] ∧ SgR W5 (.slice a4 (StV G).length c4) (StV G) ∧ RcR W5 (.slice a1 m c1) cs ∧ RcR W5 (.slice a2 l c2) ds ∧ Below w.heap.size w W5) := by
    rw [hW5]
    exact ⟨lb_new _ _ _, s4.kept (up0 _ _), (H3.out.1.kept b4).kept (up0 _ _), (H3.out.2.1.kept b4).kept (up0 _ _), up (andThen H3.out.2.2 b4) _⟩
  have HW5 : Hid (w4.alloc (.cells #[.int .i64 (n : Int), .slice a4 (StV G).length c4] 27) = W5) := hW5.symm
  clear s4 b4 hW5 HLG H3
  go_upto_region 5 with fail
  rw [HW5.out]
  obtain ⟨p5, hp5⟩ : ∃ p, p = w4.heap.size := ⟨_, rfl⟩
  rw [← hp5] at H5 ⊢
  clear hp5 HW5
  go_wp2_with fail
  refine (HFG.out a1 c1 _ H5.out.2.2.2.2 H5.out.2.2.1).mono ?_
  rintro e w6 ⟨a6, c6, rfl, s6, b6⟩
  have b7 := andThen b6 (up0 w6 (.cells #[.int .i64 (n : Int), .slice a6 (StV G).length c6] 27))
  have H7 : Hid (LB (w6.alloc (.cells #[.int .i64 (n : Int), .slice a6 (StV G).length c6] 27)) p5 27 [.int .i64 (n : Int), .slice a4 (StV G).length c4] ∧ SgR (w6.alloc (.cells #[.int .i64 (n : Int), .slice a6 (StV G).length c6] 27)) (.slice a4 (StV G).length c4) (StV G) ∧ SgR (w6.alloc (.cells #[.int .i64 (n : Int), .slice a6 (StV G).length c6] 27)) (.slice a6 (StV G).length c6) (StV G) ∧ RcR (w6.alloc (.cells #[.int .i64 (n : Int), .slice a6 (StV G).length c6] 27)) (.slice a1 m c1) cs ∧ RcR (w6.alloc (.cells #[.int .i64 (n : Int), .slice a6 (StV G).length c6] 27)) (.slice a2 l c2) ds ∧ Below w.heap.size w (w6.alloc (.cells #[.int .i64 (n : Int), .slice a6 (StV G).length c6] 27))) := ⟨H5.out.1.kept b7, H5.out.2.1.kept b7, s6.kept (up0 _ _), H5.out.2.2.1.kept b7, H5.out.2.2.2.1.kept b7, andThen H5.out.2.2.2.2 b7⟩
  clear b6 b7 s6 H5
  have y0 := H7.out.1.cell 0 _ rfl
  have y1 := H7.out.1.cell 1 _ rfl
  go_wp2_with fail
  refine (HSA.out _ _ _ H7.out.2.2.1 H7.out.2.1).mono ?_
  rintro e w8 ⟨rfl, b8⟩
  have H8 : Hid (LB w8 p5 27 [.int .i64 (n : Int), .slice a4 (StV G).length c4] ∧ SgR w8 (.slice a4 (StV G).length c4) (StV G) ∧ RcR w8 (.slice a1 m c1) cs ∧ RcR w8 (.slice a2 l c2) ds ∧ Below w.heap.size w w8) := ⟨H7.out.1.kept b8, H7.out.2.1.kept b8, H7.out.2.2.2.1.kept b8, H7.out.2.2.2.2.1.kept b8, andThen H7.out.2.2.2.2.2 b8⟩
  clear b8 y0 y1 H7 HFG
  by_cases hnm : n = m
  · have d9 : ((n : Int) == (m : Int)) = true := by rw [hnm]; simp
    clear hnm
    go_wp2_with fail
    go_ret
    exact ⟨rfl, H8.out.2.2.2.2⟩
  · have d9 : ((n : Int) == (m : Int)) = false := by simp; omega
    have hlt : n < m := by omega
    have hw9 : IntKind.i64.wrap ((n : Int) + 1) = ((n + 1 : Nat) : Int) := by rw [show (n : Int) + 1 = ((n + 1 : Nat) : Int) by omega]; exact IntWalk.i64_in _ (by omega)
    have hcp := (H8.out.2.2.1.2 a1 m c1 rfl)
    have hcp1 := hcp.1
    have hcp2 := hcp.2.1
    unfold maxLen at hcp2
    have hcc : (((n + 1 : Nat) : Int) ≤ (c1 : Int)) = True := by simp; omega
    have HLT : Hid (n < m) := hlt
    clear hcp hnm
    go_wp2_with (first
      | (at_builtin; refine wpList_append_recs _ rfl (.const (.slice none 0 0)) (.tmp 48) 22 rfl w8.heap.size hin Tryz.underlying22 w8 (Below.refl _ _) (Nat.le_refl _) _ _ [] (cs.take (n + 1)) rfl rfl (Outs.nil _ _) (H8.out.2.2.1.take (n + 1) (by rw [← HM.out]; exact HLT.out)) (by rw [List.length_take]; simp; omega) (Nat.le_refl _) ?_; intro v9 w9 ps9 o9 m9 b9; (have H9 : Hid (Outs w8.heap.size w9 v9 ps9 ∧ ps9.map Prod.fst = cs.take (n + 1) ∧ Below w8.heap.size w8 w9) := ⟨o9, by rw [m9]; rfl, b9⟩); (clear o9 m9 b9))
      | (at_builtin; refine wpList_append_recs _ rfl (.tmp 49) (.tmp 50) 22 rfl w8.heap.size hin Tryz.underlying22 w8 H9.out.2.2 (Nat.le_refl _) _ _ ps9 ds rfl rfl H9.out.1 H8.out.2.2.2.1 (by have e := congrArg List.length H9.out.2.1; rw [List.length_map, List.length_take] at e; have := HL.out; omega) H9.out.2.2.size ?_; intro v10 w10 ps10 o10 m10 b10; (have H10 : Hid (RecsAt w10 v10 (cs.take (n + 1) ++ ds) ∧ Below w.heap.size w w10 ∧ Below w8.heap.size w8 w10) := ⟨by have e := o10.recs; rw [m10, H9.out.2.1] at e; exact e, andThen H8.out.2.2.2.2 (H9.out.2.2.trans b10), H9.out.2.2.trans b10⟩); (clear o10 m10 b10))
      | fail)
    refine (HFM.out HLT.out _ _ H10.out.2.1 H10.out.1).mono ?_
    rintro e w11 ⟨a11, c11, rfl, s11, b11⟩
    have b11a : Below w8.heap.size w8 w11 := H10.out.2.2.trans (b11.mono H10.out.2.2.size)
    have b12 := andThen b11a (up0 w11 (.cells #[.int .i64 (n : Int), .slice a11 (StV G).length c11] 27))
    have H12 : Hid (SgR (w11.alloc (.cells #[.int .i64 (n : Int), .slice a11 (StV G).length c11] 27)) (.slice a4 (StV G).length c4) (StV G) ∧ SgR (w11.alloc (.cells #[.int .i64 (n : Int), .slice a11 (StV G).length c11] 27)) (.slice a11 (StV G).length c11) (StV G) ∧ Below w.heap.size w (w11.alloc (.cells #[.int .i64 (n : Int), .slice a11 (StV G).length c11] 27))) := ⟨H8.out.2.1.kept b12, s11.kept (up0 _ _), andThen H8.out.2.2.2.2 b12⟩
    have l12 := H8.out.1.kept b12
    have y0 := l12.cell 0 _ rfl
    have y1 := l12.cell 1 _ rfl
    have d8 : ((n : Int) == (n : Int)) = true := by simp
    clear b11 b11a b12 l12 s11 d9 hw9
    go_wp2_with fail
    refine (HSA.out _ _ _ H12.out.2.1 H12.out.1).mono ?_
    rintro e w13 ⟨rfl, b13⟩
    have HB : Hid (Below w.heap.size w w13) := andThen H12.out.2.2 b13
    clear b13 y0 y1
    go_wp2_with fail
    go_ret
    exact ⟨rfl, HB.out⟩
end Go.Proofs.YtdnackjakfiffaaGreatDoor
