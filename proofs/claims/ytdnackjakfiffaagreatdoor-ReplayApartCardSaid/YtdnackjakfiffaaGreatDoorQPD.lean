import Derived.BigQuiet
import Derived.Test.YtdnackjakfiffaaGreatDoorQPC
/-
  Replay: ReplayApart's walk.
-/
namespace Go.Proofs.YtdnackjakfiffaaGreatDoor
open Go Go.RowKit Go.ChangeShapes
open Wb

theorem dr_below (w : World) (n : Nat) : Below w.heap.size w (w.drewN n) := ⟨rfl, rfl, rfl, Nat.le_refl _, fun _ _ => rfl⟩
/-- how many records the first sagas have -/
def smO (G : Rp.Gs) (ls : List Rec) (k : Nat) : Nat := ((G.take k).map fun p => (Rp.own p.1 ls).length).sum
theorem smO_succ (G : Rp.Gs) (ls : List Rec) (k : Nat) (h : k < G.length) : smO G ls (k + 1) = smO G ls k + (Rp.own G[k].1 ls).length := by
  unfold smO
  rw [List.take_succ_eq_append_getElem h, List.map_append, List.sum_append]
  simp
theorem smO_le (G : Rp.Gs) (ls : List Rec) (k : Nat) : smO G ls k ≤ (G.map fun p => (Rp.own p.1 ls).length).sum := by
  unfold smO
  have e : (G.map fun p => (Rp.own p.1 ls).length) = (G.take k).map (fun p => (Rp.own p.1 ls).length) ++ (G.drop k).map (fun p => (Rp.own p.1 ls).length) := by rw [← List.map_append, List.take_append_drop]
  rw [e, List.sum_append]
  omega
set_option maxRecDepth 100000 in
set_option maxHeartbeats 8000000 in
theorem replayApart_walk (v1 zv : Value) (rs1 : List Rec) (zs : List Int) (w : World) (h1 : LIn w v1 rs1) (hz : Ns w zv zs) (hT : STabs w) :
    Calls Tryz.prog 7 #[v1, zv] w fun e w' => e = .returned (.bool true) ∧ Below w.heap.size w w' := by
  obtain ⟨cs, hcs⟩ : ∃ cs, cs = (rs1.take 160).map (cutD 16385) := ⟨_, rfl⟩
  have hfg : Fg cs := by rw [hcs]; exact cutD_fg (fg_take h1.fg 160) _
  have hrg : ∀ r ∈ cs, Rp.Rg r := by rw [hcs]; exact h1.rg
  have hcl : cs.length ≤ 160 := by rw [hcs, List.length_map, List.length_take]; omega
  have HC1 : Hid (∀ W, Below w.heap.size w W → Calls Tryz.prog 8 #[v1, .int .i64 16385] W fun e w' => ∃ ao, ∃ cap : Nat, e = .returned (.slice ao cs.length cap) ∧ RcY w' (.slice ao cs.length cap) cs ∧ Below W.heap.size W w') := fun W hW => by rw [hcs]; exact cut_isT v1 rs1 W (h1.kept hW)
  have HAW : Hid (Calls Tryz.prog 9 #[] w fun e w' => e = .returned (.bool true) ∧ Below w.heap.size w w') := ryawake_any w hT
  obtain ⟨n, hn⟩ : ∃ n, n = (Rp.fold [] cs).1 := ⟨_, rfl⟩
  obtain ⟨G, hG⟩ : ∃ G, G = (Rp.fold [] cs).2 := ⟨_, rfl⟩
  have hf : Rp.fold [] cs = (n, G) := by rw [hn, hG]
  have hnl : n ≤ cs.length := by rw [hn]; exact Rp.fold_le cs []
  have hGl : G.length ≤ n := by
    have := Rp.fold_size cs []
    rw [← hn, ← hG] at this
    simpa using this
  have HLG : Hid (∀ (ao : Option Addr) (cap : Nat) (W : World), Below w.heap.size w W → RcR W (.slice ao cs.length cap) cs → Calls Tryz.prog 13 #[.slice ao cs.length cap] W fun e w' => ∃ a, ∃ cp : Nat, e = .returned (.tuple #[.slice ao n cap, .agg #[.int .i64 (n : Int), .slice a (StV G).length cp], .bool true]) ∧ SgR w' (.slice a (StV G).length cp) (StV G) ∧ Below W.heap.size W w') := fun ao cap W hW h => legal_is ao cap _ cs G n hf W rfl h (hT.kept hW) hfg (by omega)
  obtain ⟨ls0, hls0⟩ : ∃ ls0, ls0 = cs.take n := ⟨_, rfl⟩
  have hl0 : ls0.length = n := by rw [hls0, List.length_take]; omega
  have hf0 : Rp.fold [] ls0 = (n, G) := by rw [hls0, hn, Rp.fold_take, ← hn, hf]
  have hr0 : ∀ r ∈ ls0, Rp.Rg r := fun r hr => hrg r (by rw [hls0] at hr; exact List.mem_of_mem_take hr)
  have hg0 : Fg ls0 := by rw [hls0]; exact fg_take hfg n
  have hwf : Rp.Wf G := by rw [hG]; exact Rp.Wf.fold cs Rp.Wf.nil hrg
  have HWF : Hid (Rp.Wf G) := hwf
  have hfl : (Rp.fold [] ls0).1 = ls0.length := by rw [hf0, hl0]
  have hmo : ∀ (ms : List Rec), (∀ k, Rp.own k ms = Rp.own k ls0) → ∀ r ∈ ms, r ∈ ls0 := fun ms ho r hr => by
    have h2 : r ∈ Rp.own r.x.s ms := List.mem_filter.2 ⟨hr, by simp⟩
    rw [ho] at h2
    exact (List.mem_filter.1 h2).1
  have HMG : Hid (∀ (v : Value) (W : World), Below w.heap.size w W → RcY W v ls0 → Calls Tryz.prog 18 #[v, zv] W fun e w' => ∃ v' ms, e = .returned v' ∧ RcY w' v' ms ∧ ms.length = n ∧ (∀ k, Rp.own k ms = Rp.own k ls0) ∧ Below W.heap.size W w') := fun v W hW h => by
    have := rymingled_any v zv ls0 zs W h (hz.kept hW) (by omega)
    rw [hl0] at this
    exact this
  have HFM : Hid (∀ (ms : List Rec) (v : Value) (W : World), Below w.heap.size w W → RecsAt W v ms → ms.length = n → (∀ k, Rp.own k ms = Rp.own k ls0) → Calls Tryz.prog 10 #[v] W fun e w' => ∃ a, ∃ cp : Nat, e = .returned (.tuple #[.agg #[.int .i64 (n : Int), .slice a (StV G).length cp], .int .i64 (-1)]) ∧ SgR w' (.slice a (StV G).length cp) (StV G) ∧ Below W.heap.size W w') := fun ms v W hW h hml ho => by
    have e0 := Rp.fold_same hr0 (fun r hr => hr0 r (hmo ms ho r hr)) hfl ho
    rw [hf0, hml] at e0
    have e1 : Rp.fold [] ms = (n, G) := Prod.ext e0.1 e0.2
    have e2 : Rp.plc ms = -1 := by
      unfold Rp.plc
      rw [if_pos (e0.1.trans hml.symm)]
    exact fold_is ms G n (-1) e1 e2 v W h (hT.kept hW) (fun r hr => hg0 r (hmo ms ho r hr)) (by omega)
  have HFO : Hid (∀ (key : Int) (S : Sg), Mv.get G key = some S → ∀ (m : Nat), m = (Rp.own key ls0).length → ∀ (v : Value) (W : World), Below w.heap.size w W → RecsAt W v (Rp.own key ls0) → Calls Tryz.prog 10 #[v] W fun e w' => ∃ a, ∃ cp : Nat, e = .returned (.tuple #[.agg #[.int .i64 (m : Int), .slice a 1 cp], .int .i64 (-1)]) ∧ SgR w' (.slice a 1 cp) [S] ∧ Below W.heap.size W w') := fun key S hk m hm v W hW h => by
    have e0 := Rp.fold_own hr0 hfl (k := key) (S := S) (by rw [hf0]; exact hk)
    have e1 : Rp.fold [] (Rp.own key ls0) = (m, [(key, S)]) := Prod.ext (e0.1.trans hm.symm) e0.2
    have e2 : Rp.plc (Rp.own key ls0) = -1 := by
      unfold Rp.plc
      rw [if_pos e0.1]
    have hlo : (Rp.own key ls0).length ≤ ls0.length := List.length_filter_le _ _
    exact fold_is _ [(key, S)] m (-1) e1 e2 v W h (hT.kept hW) (fun r hr => hg0 r (List.mem_filter.1 hr).1) (by omega)
  have HSU : Hid ((G.map fun p => (Rp.own p.1 ls0).length).sum = n) := by
    have := Rp.sum_state hr0 hfl
    rw [hf0, hl0] at this
    exact this
  have HSA : Hid (∀ (m : Int) (v v2 : Value) (W : World), SgR W v (StV G) → SgR W v2 (StV G) → Calls Tryz.prog 12 #[.agg #[.int .i64 m, v], .agg #[.int .i64 m, v2]] W fun e w' => e = .returned (.bool true) ∧ Below W.heap.size W w') := fun m v v2 W a b => rysame_any m v v2 (StV G) W a b
  have HCL : Hid (∀ (S : Sg) (s s2 : SH) (W : World), SgO 0 W S s → SgO 0 W S s2 → Calls Tryz.prog 19 #[sv S s, sv S s2] W fun e w' => e = .returned (.bool true) ∧ Below W.heap.size W w') := fun S s s2 W k k2 => same_any S s s2 W k.at k2.at
  have HL0 : Hid (ls0 = cs.take n ∧ ls0.length = n) := ⟨hls0, hl0⟩
  clear hf hn hG hcs h1 hT hfg hrg hls0 hl0 hf0 hr0 hg0 hwf hfl hmo hz
  obtain ⟨m0, hm0⟩ : ∃ m, m = cs.length := ⟨_, rfl⟩
  rw [← hm0] at hcl hnl HC1 HLG
  have HM : Hid (m0 = cs.length) := hm0
  clear hm0
  have HGS : Hid ((StV G).length = G.length) := by show _ = _; unfold StV; rw [List.length_map]
  have hSl : (StV G).length ≤ 160 := by rw [HGS.out]; omega
  go_enter Tryz.func7, Tryz.ntmps7
  go_wp2_with fail
  refine HAW.out.mono ?_
  rintro e w1 ⟨rfl, b1⟩
  have HB1 : Hid (Below w.heap.size w w1) := b1
  clear b1 HAW
  go_wp2_with fail
  refine (HC1.out _ HB1.out).mono ?_
  rintro e w2 ⟨a1, c1, rfl, r2, b2⟩
  have H2 : Hid (RcY w2 (.slice a1 m0 c1) cs ∧ Below w.heap.size w w2) := ⟨r2, andThen HB1.out b2⟩
  clear r2 b2 HC1
  go_wp2_with fail
  refine (HLG.out a1 c1 _ H2.out.2 H2.out.1.rcr).mono ?_
  rintro e w4 ⟨a4, c4, rfl, s4, b4⟩
  obtain ⟨W5, hW5⟩ : ∃ W, W = w4.alloc (.cells #[.int .i64 (n : Int), .slice a4 (StV G).length c4] 27) := ⟨_, rfl⟩
  have H5 : Hid (LB W5 w4.heap.size 27 [.int .i64 (n : Int), .slice a4 (StV G).length c4] ∧ SgR W5 (.slice a4 (StV G).length c4) (StV G) ∧ RcY W5 (.slice a1 n c1) ls0 ∧ Below w.heap.size w W5) := by
    rw [hW5]
    refine ⟨lb_new _ _ _, s4.kept (up0 _ _), ?_, andThen (andThen H2.out.2 b4) (up0 _ _)⟩
    rw [HL0.out.1]
    exact ((H2.out.1.kept b4).kept (up0 _ _)).take n (by rw [← HM.out]; omega)
  have HW5 : Hid (w4.alloc (.cells #[.int .i64 (n : Int), .slice a4 (StV G).length c4] 27) = W5) := hW5.symm
  clear s4 b4 hW5 HLG H2
  go_upto_region 6 with fail
  rw [HW5.out]
  obtain ⟨p5, hp5⟩ : ∃ p, p = w4.heap.size := ⟨_, rfl⟩
  rw [← hp5] at H5 ⊢
  clear hp5 HW5
  go_wp2_with fail
  refine (HMG.out _ _ H5.out.2.2.2 H5.out.2.2.1).mono ?_
  rintro e w6 ⟨v6, ms, rfl, r6, l6, o6, b6⟩
  have H6 : Hid (RcY w6 v6 ms ∧ ms.length = n ∧ (∀ k, Rp.own k ms = Rp.own k ls0) ∧ Below W5.heap.size W5 w6) := ⟨r6, l6, o6, b6⟩
  clear r6 l6 o6 b6 HMG
  go_wp2_with fail
  refine (HFM.out ms v6 _ (andThen H5.out.2.2.2 H6.out.2.2.2) H6.out.1.rcr.1 H6.out.2.1 H6.out.2.2.1).mono ?_
  rintro e w7 ⟨a7, c7, rfl, s7, b7⟩
  obtain ⟨W8, hW8⟩ : ∃ W, W = w7.alloc (.cells #[.int .i64 (n : Int), .slice a7 (StV G).length c7] 27) := ⟨_, rfl⟩
  have H8 : Hid (LB W8 w7.heap.size 27 [.int .i64 (n : Int), .slice a7 (StV G).length c7] ∧ SgR W8 (.slice a7 (StV G).length c7) (StV G) ∧ Below W5.heap.size W5 W8) := by
    rw [hW8]
    exact ⟨lb_new _ _ _, s7.kept (up0 _ _), andThen (andThen H6.out.2.2.2 b7) (up0 _ _)⟩
  have HW8 : Hid (w7.alloc (.cells #[.int .i64 (n : Int), .slice a7 (StV G).length c7] 27) = W8) := hW8.symm
  clear s7 b7 hW8 H6 HFM
  go_upto_region 7 with fail
  rw [HW8.out]
  obtain ⟨p8, hp8⟩ : ∃ p, p = w7.heap.size := ⟨_, rfl⟩
  rw [← hp8] at H8 ⊢
  clear hp8 HW8
  have H5b : Hid (LB W8 p5 27 [.int .i64 (n : Int), .slice a4 (StV G).length c4] ∧ SgR W8 (.slice a4 (StV G).length c4) (StV G)) := ⟨H5.out.1.kept H8.out.2.2, H5.out.2.1.kept H8.out.2.2⟩
  have x0 := H5b.out.1.cell 0 _ rfl
  have x1 := H5b.out.1.cell 1 _ rfl
  have y0 := H8.out.1.cell 0 _ rfl
  have y1 := H8.out.1.cell 1 _ rfl
  go_wp2_with fail
  refine (HSA.out _ _ _ _ H8.out.2.1 H5b.out.2).mono ?_
  rintro e w9 ⟨rfl, b9⟩
  have H9 : Hid (Below W5.heap.size W5 w9) := andThen H8.out.2.2 b9
  clear b9 x0 x1 y0 y1 H5b H8 HSA
  go_wp2_with fail
  go_loopw [10, 11] (fun s i wr => ∃ k : Nat, k ≤ (StV G).length ∧ i = .int .i64 (k : Int) ∧ s = .int .i64 (smO G ls0 k : Int) ∧ Below W5.heap.size W5 wr) (fun _ i _ => (StV G).length - (mInt i).toNat)
  case atStart => exact ⟨0, Nat.zero_le _, rfl, rfl, H9.out⟩
  case round =>
    obtain ⟨k, hk, rfl, rfl, q9⟩ := hrel
    obtain ⟨W0, hW0⟩ : ∃ W, W = wr := ⟨_, rfl⟩
    subst hW0
    have HI : Hid (Below W5.heap.size W5 W0) := q9
    clear q9 H9
    have H4 : Hid (LB W0 p5 27 [.int .i64 (n : Int), .slice a4 (StV G).length c4] ∧ SgR W0 (.slice a4 (StV G).length c4) (StV G) ∧ RcY W0 (.slice a1 n c1) ls0 ∧ Below w.heap.size w W0) := ⟨H5.out.1.kept HI.out, H5.out.2.1.kept HI.out, H5.out.2.2.1.kept HI.out, andThen H5.out.2.2.2 HI.out⟩
    have y1 := H4.out.1.cell 1 _ rfl
    by_cases hlt2 : k < (StV G).length
    · have hlt : k < G.length := by rw [← HGS.out]; exact hlt2
      have hGk := stV_at G k hlt2 hlt
      have hgt : Mv.get G G[k].1 = some G[k].2 := (Mv.get_mem HWF.out.ris).2 (List.getElem_mem hlt)
      have hSo : Rp.So G[k].2 G[k].1 := HWF.out.at' G[k].1 G[k].2 hgt
      have hsm := smO_succ G ls0 k hlt
      have hsl := smO_le G ls0 (k + 1)
      rw [HSU.out] at hsl
      have HPR : Hid (∀ q, ∀ hq : q < k, ∃ S', (StV G)[q]? = some S' ∧ S'.x.id < G[k].2.x.id) := fun q hq => by
        have hq2 : q < G.length := by omega
        have h1 := (List.pairwise_iff_getElem.1 HWF.out.ris) q k hq2 hlt hq
        have h2 := HWF.out.at' G[q].1 G[q].2 ((Mv.get_mem HWF.out.ris).2 (List.getElem_mem hq2))
        refine ⟨G[q].2, by unfold StV; rw [List.getElem?_map, List.getElem?_eq_getElem hq2]; rfl, ?_⟩
        rw [h2.id, hSo.id]
        exact h1
      obtain ⟨⟨key, S⟩, hkey⟩ : ∃ q : Int × Sg, G[k] = q := ⟨_, rfl⟩
      rw [hkey] at hGk hSo hgt hsm HPR
      simp only at hGk hSo hgt hsm HPR
      have hid := hSo.id
      obtain ⟨t, ht⟩ : ∃ t, t = smO G ls0 k := ⟨_, rfl⟩
      obtain ⟨m, hm⟩ : ∃ m, m = (Rp.own key ls0).length := ⟨_, rfl⟩
      rw [← ht, ← hm] at hsm
      rw [← ht]
      rw [hsm] at hsl
      have HSM : Hid (smO G ls0 (k + 1) = t + m) := hsm
      have HFK : Hid (∀ (v : Value) (W : World), Below w.heap.size w W → RecsAt W v (Rp.own key ls0) → Calls Tryz.prog 10 #[v] W fun e w' => ∃ a, ∃ cp : Nat, e = .returned (.tuple #[.agg #[.int .i64 (m : Int), .slice a 1 cp], .int .i64 (-1)]) ∧ SgR w' (.slice a 1 cp) [S] ∧ Below W.heap.size W w') := HFO.out key S hgt m hm
      obtain ⟨b9, c9, e9, -, -, hc9⟩ := H4.out.2.1
      simp only [Value.slice.injEq, true_and] at e9
      obtain ⟨rfl, rfl⟩ := e9
      obtain ⟨sb, so, sh, rfl, hr9, hs9⟩ := hc9 k S (by rw [List.getElem?_eq_getElem hlt2, hGk])
      have HRS : Hid (W0.rangeAt sb (so + k * 16) (scl S sh) ∧ SgO 0 W0 S sh) := ⟨hr9, hs9⟩
      have HPQ : Hid (∀ q, q < k → ∃ z : Int, z < S.x.id ∧ W0.cell? ⟨sb, so + q * 16, none⟩ = some (.int .i64 z)) := fun q hq => by
        obtain ⟨S', e1, e2⟩ := HPR.out q hq
        obtain ⟨b8, o8, s8, e8, hr8, -⟩ := hc9 q S' e1
        simp only [Option.some.injEq, Addr.mk.injEq, and_true] at e8
        obtain ⟨rfl, rfl⟩ := e8
        have := hr8 0 (.int .i64 S'.x.id) rfl
        rw [Nat.add_zero] at this
        exact ⟨_, e2, this⟩
      have HOF : Hid (Calls Tryz.prog 14 #[.slice a1 n c1, .int .i64 S.x.id, .bool false] W0 fun e w' => ∃ a, ∃ cp : Nat, e = .returned (.slice a m cp) ∧ RcY w' (.slice a m cp) (Rp.own key ls0) ∧ Below W0.heap.size W0 w') := by
        refine (ryof_T (.slice a1 n c1) ls0 S.x.id false W0 H4.out.2.2.1 (by have := HL0.out.2; omega)).mono fun e w' ⟨v', h1, h2, h3⟩ => ?_
        have e1 : (ls0.filter fun r => (r.x.s == S.x.id) != false) = Rp.own key ls0 := by
          rw [hid]
          refine List.filter_congr fun r _ => ?_
          cases (r.x.s == key) <;> rfl
        rw [e1] at h2
        have h4 := h2
        obtain ⟨a, cp, e2, -⟩ := h4
        rw [e2] at h1 h2
        rw [← hm] at h1 h2
        exact ⟨a, cp, h1, h2, h3⟩
      have x0 := HRS.out.1 0 (.int .i64 S.x.id) rfl
      rw [Nat.add_zero] at x0
      clear hc9 hr9 hs9 hSo hGk hkey hlt hgt hsm hm hid HPR HFO
      go_upto_region 14 with fail
      refine HOF.out.mono ?_
      rintro e w6 ⟨a6, c6, rfl, r6, b6⟩
      have H6 : Hid (RcY w6 (.slice a6 m c6) (Rp.own key ls0) ∧ Below W0.heap.size W0 w6) := ⟨r6, b6⟩
      clear r6 b6 HOF x0 y1
      go_wp2_with fail
      refine (HFK.out _ _ (andThen H4.out.2.2.2 H6.out.2) H6.out.1.rcr.1).mono ?_
      rintro e w7 ⟨a8, c8, rfl, s8, b7⟩
      obtain ⟨W8, hW8⟩ : ∃ W, W = w7.alloc (.cells #[.int .i64 (m : Int), .slice a8 1 c8] 27) := ⟨_, rfl⟩
      have H8 : Hid (LB W8 w7.heap.size 27 [.int .i64 (m : Int), .slice a8 1 c8] ∧ SgR W8 (.slice a8 1 c8) [S] ∧ Below W0.heap.size W0 W8) := by
        rw [hW8]
        exact ⟨lb_new _ _ _, s8.kept (up0 _ _), andThen (andThen H6.out.2 b7) (up0 _ _)⟩
      have HW8 : Hid (w7.alloc (.cells #[.int .i64 (m : Int), .slice a8 1 c8] 27) = W8) := hW8.symm
      clear s8 b7 hW8 H6 HFK
      go_upto_region 15 with fail
      rw [HW8.out]
      obtain ⟨p8, hp8⟩ : ∃ p, p = w7.heap.size := ⟨_, rfl⟩
      rw [← hp8] at H8 ⊢
      clear hp8 HW8
      obtain ⟨b1, k1, e1, -, -, hc1⟩ := H8.out.2.1
      simp only [Value.slice.injEq] at e1
      obtain ⟨rfl, -, rfl⟩ := e1
      obtain ⟨bb, ob, s1, rfl, hr1, hs1⟩ := hc1 0 S rfl
      rw [show ob + 0 * 16 = ob by omega] at hr1
      have HR1 : Hid (W8.rangeAt bb ob (scl S s1) ∧ SgO 0 W8 S s1) := ⟨hr1, hs1⟩
      clear hr1 hs1 hc1
      obtain ⟨D1, hD1, hL1, hE1⟩ := sv_letter S s1
      obtain ⟨D2, hD2, hL2, hE2⟩ := sv_letter S sh
      have HL1 : Hid _ := hL1
      have HL2 : Hid _ := hL2
      have HG1 : Hid (∀ W, Below W8.heap.size W8 W → W.rangeAt bb ob D1) := fun W hW j u hj => by
        rw [hE1] at hj
        exact (hW.cell (p := ⟨bb, ob + j, none⟩) (World.block_lt_of_cell? _ _ (HR1.out.1 j u hj))).trans (HR1.out.1 j u hj)
      have HG2 : Hid (∀ W, Below W8.heap.size W8 W → W.rangeAt sb (so + k * 16) D2) := fun W hW j u hj => by
        rw [hE2] at hj
        exact ((andThen H8.out.2.2 hW).cell (p := ⟨sb, so + k * 16 + j, none⟩) (World.block_lt_of_cell? _ _ (HRS.out.1 j u hj))).trans (HRS.out.1 j u hj)
      have HC : Hid (∀ W, Below W8.heap.size W8 W → Calls Tryz.prog 19 #[.agg D1.toArray, .agg D2.toArray] W fun e w' => e = .returned (.bool true) ∧ Below W.heap.size W w') := fun W hW => by
        have e := HCL.out S s1 sh W (HR1.out.2.kept hW) ((HRS.out.2.kept H8.out.2.2).kept hW)
        rw [hD1, hD2] at e
        exact e
      clear hD1 hL1 hE1 hD2 hL2 hE2
      have HCK : Hid (∀ W, Below W8.heap.size W8 W → (fun w' : World => w'.cell? ⟨p8, 0, none⟩ = some (.int .i64 (m : Int)) ∧ w'.cell? ⟨p8, 1, none⟩ = some (.slice (some ⟨bb, ob, none⟩) 1 c8) ∧ w'.cell? ⟨p5, 1, none⟩ = some (.slice (some ⟨sb, so, none⟩) (StV G).length c4) ∧ w'.rangeAt bb ob D1 ∧ w'.rangeAt sb (so + k * 16) D2) W) := fun W hW => ⟨(H8.out.1.kept hW).cell 0 _ rfl, (H8.out.1.kept hW).cell 1 _ rfl, ((H4.out.1.kept H8.out.2.2).kept hW).cell 1 _ rfl, HG1.out W hW, HG2.out W hW⟩
      have d0 : ((m : Int) != (m : Int)) = false := by simp
      refine wp_region_held_drew (S := fun w' : World => w'.cell? ⟨p8, 0, none⟩ = some (.int .i64 (m : Int)) ∧ w'.cell? ⟨p8, 1, none⟩ = some (.slice (some ⟨bb, ob, none⟩) 1 c8) ∧ w'.cell? ⟨p5, 1, none⟩ = some (.slice (some ⟨sb, so, none⟩) (StV G).length c4) ∧ w'.rangeAt bb ob D1 ∧ w'.rangeAt sb (so + k * 16) D2) (by kernel_rfl) (HCK.out _ (Below.drew (Below.refl _ _))) (fun hH => ?_)
      obtain ⟨WV, hWV⟩ : ∃ x, x = W8.drew := ⟨_, rfl⟩
      have HBV : Hid (Below W8.heap.size W8 WV) := by rw [hWV]; exact Below.drew (Below.refl _ _)
      rw [← hWV]
      clear hWV hH
      have kv := HCK.out WV HBV.out
      refine zqk 0 rfl kv ?_
      try simp only [Act.put, zq1, zq2, zq3, zq4, zq5]
      refine zqk 1 rfl kv ?_
      try simp only [Act.put, zq1, zq2, zq3, zq4, zq5, zq6]
      refine zqk 2 rfl kv ?_
      try simp only [Act.put, zq1, zq2, zq3, zq4, zq5, zq6]
      refine zqk 3 rfl kv ?_
      try simp only [Act.put, zq1, zq2, zq3, zq4, zq5, zq6]
      refine zqk 4 rfl kv ?_
      try simp only [Act.put, zq1, zq2, zq3, zq4, zq5, zq6]
      refine zqk 5 rfl kv ?_
      try simp only [Act.put, zq1, zq2, zq3, zq4, zq5, zq6]
      refine zqk 6 rfl kv ?_
      try simp only [Act.put, zq1, zq2, zq3, zq4, zq5, zq6]
      refine zqk 7 rfl kv ?_
      try simp only [Act.put, zq1, zq2, zq3, zq4, zq5, zq6]
      refine zqk 8 rfl kv ?_
      try simp only [Act.put, zq1, zq2, zq3, zq4, zq5, zq6]
      refine zqk 9 rfl kv ?_
      try simp only [Act.put, zq1, zq2, zq3, zq4, zq5, zq6]
      refine zqk 10 rfl kv ?_
      try simp only [Act.put, zq1, zq2, zq3, zq4, zq5, zq6]
      refine zqk 11 rfl kv ?_
      try simp only [Act.put, zq1, zq2, zq3, zq4, zq5, zq6]
      refine zqk 12 rfl kv ?_
      try simp only [Act.put, zq1, zq2, zq3, zq4, zq5, zq6]
      refine zqk 13 rfl kv ?_
      try simp only [Act.put, zq1, zq2, zq3, zq4, zq5, zq6]
      refine zqk 14 rfl kv ?_
      try simp only [Act.put, zq1, zq2, zq3, zq4, zq5, zq6]
      refine zqk 15 rfl kv ?_
      try simp only [Act.put, zq1, zq2, zq3, zq4, zq5, zq6]
      refine zqk 16 rfl kv ?_
      try simp only [Act.put, zq1, zq2, zq3, zq4, zq5, zq6]
      refine zqk 17 rfl kv ?_
      try simp only [Act.put, zq1, zq2, zq3, zq4, zq5, zq6]
      refine zqk 18 rfl kv ?_
      try simp only [Act.put, zq1, zq2, zq3, zq4, zq5, zq6]
      refine zql 19 rfl (yieldsIf_load_mid rfl 43 (.tmp 79) rfl bb ob rfl D1 _ (fun w' hw => hw.2.2.2.1) Tryz.underlying43 rfl HL1.out) kv ?_
      try simp only [Act.put, zq1, zq2, zq3, zq4, zq5, zq6]
      refine zqk 20 rfl kv ?_
      try simp only [Act.put, zq1, zq2, zq3, zq4, zq5, zq6]
      refine zqk 21 rfl kv ?_
      try simp only [Act.put, zq1, zq2, zq3, zq4, zq5, zq6]
      refine zqk 22 rfl kv ?_
      try simp only [Act.put, zq1, zq2, zq3, zq4, zq5, zq6]
      refine zqk 23 rfl kv ?_
      try simp only [Act.put, zq1, zq2, zq3, zq4, zq5, zq6]
      refine zql 24 rfl (yieldsIf_load_mid rfl 43 (.tmp 84) rfl sb (so + k * 16) rfl D2 _ (fun w' hw => hw.2.2.2.2) Tryz.underlying43 rfl HL2.out) kv ?_
      try simp only [Act.put, zq1, zq2, zq3, zq4, zq5, zq6]
      refine zqr 25 rfl (fun K hK => ?_)
      go_simp
      refine (HC.out _ HBV.out).mono ?_
      rintro e w9 ⟨rfl, b9⟩
      have HB9 : Hid (Below W8.heap.size W8 w9) := andThen HBV.out b9
      refine hK.out _ _ (HCK.out _ HB9.out) fun _ => ?_
      clear hK K b9
      try simp only [Act.put, zq1, zq2, zq3, zq4, zq5, zq6]
      have kv := HCK.out w9 HB9.out
      refine zqk 26 rfl kv ?_
      try simp only [Act.put, zq1, zq2, zq3, zq4, zq5, zq6]
      refine zqk 27 rfl kv ?_
      try simp only [Act.put, zq1, zq2, zq3, zq4, zq5, zq6]
      refine wpAnyH_done (by kernel_rfl) ?_ _
      try simp only [Act.put, zq1, zq2, zq3, zq4, zq5, zq6]
      clear kv HCK d0 HC HG1 HG2 HL1 HL2 HR1 HCL
      have H9 : Hid (Below W0.heap.size W0 w9) := andThen H8.out.2.2 HB9.out
      have HX : Hid (∀ W, Below w9.heap.size w9 W → Below W5.heap.size W5 W) := fun W hW => andThen HI.out (andThen H9.out hW)
      have y1 := (H4.out.1.kept H9.out).cell 1 _ rfl
      have x0 := (H9.out.cell (p := ⟨sb, so + k * 16, none⟩) (World.block_lt_of_cell? _ _ (HRS.out.1 0 (.int .i64 S.x.id) rfl))).trans (HRS.out.1 0 (.int .i64 S.x.id) rfl)
      clear HB9 HBV H8
      by_cases hk0 : k = 0
      · subst hk0
        rw [Nat.zero_mul, Nat.add_zero] at x0
        go_upto_region 17 with fail
        go_quiet (fail)
        go_wp2_with fail
        go_roundw
        case rel => exact ⟨0 + 1, by omega, by go_num, by rw [HSM.out]; go_num, HX.out _ (dr_below w9 _)⟩
        case measure => simp [mInt]; omega
      · obtain ⟨q, rfl⟩ : ∃ q, k = q + 1 := ⟨k - 1, by omega⟩
        obtain ⟨z, hz1, hz2⟩ := HPQ.out q (Nat.lt_succ_self q)
        have z0 := (H9.out.cell (p := ⟨sb, so + q * 16, none⟩) (World.block_lt_of_cell? _ _ hz2)).trans hz2
        have dle : (S.x.id ≤ z) = False := by
          simp only [eq_iff_iff, iff_false]
          omega
        go_upto_region 17 with fail
        go_quiet (fail)
        go_wp2_with fail
        go_roundw
        case rel => exact ⟨q + 1 + 1, by omega, by go_num, by rw [HSM.out]; go_num, HX.out _ (dr_below w9 _)⟩
        case measure => simp [mInt]; omega
    · obtain rfl : k = (StV G).length := by omega
      have e : smO G ls0 (StV G).length = n := by
        rw [HGS.out]
        unfold smO
        rw [List.take_length]
        exact HSU.out
      rw [e]
      have HB : Hid (Below w.heap.size w W0) := H4.out.2.2.2
      have dn : ((n : Int) == (n : Int)) = true := by simp
      go_wp2_with fail
      go_ret
      exact ⟨rfl, HB.out⟩
end Go.Proofs.YtdnackjakfiffaaGreatDoor
