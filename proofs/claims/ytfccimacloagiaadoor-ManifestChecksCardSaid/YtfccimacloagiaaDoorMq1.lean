/-
  The reference of manifest: seg, Check.
-/
import Derived.Test.YtfccimacloagiaaDoorMpa
namespace Go.Proofs.YtfccimacloagiaaDoor
open Go Go.RowKit
open Wb

set_option maxRecDepth 100000 in
set_option maxHeartbeats 8000000 in
theorem rseg_any (m : Mf) (v : Value) (k : Nat) (s : Sg) (bef : Int) (w : World) (h : SgsAt w v m.l) (hs : m.l[k]? = some s) (hb0 : 0 ≤ bef) (hb : (k = 0 ∧ bef = 0) ∨ (0 < k ∧ ∃ q, m.l[k - 1]? = some q ∧ bef = q.n)) (h128 : m.l.length ≤ 128) :
    Calls Tryd.prog 32 #[mfv m v, .int .i64 (k : Int)] w fun e w' => e = .returned (.bool (sgOk m.x bef (decide (k + 1 = m.l.length)) s)) ∧ Below w.heap.size w w' := by
  have HIS : Hid ((Tryd.prog.info? 46).map (·.size) = some 3) := infoSg
  have HSA : Hid (∀ w', Below w.heap.size w w' → SgsAt w' v m.l) := fun w' hb => h.kept hb
  obtain ⟨ao, cap, rfl, hc1, hc2, hcr⟩ := h
  unfold maxLen at hc2
  have hk := (List.getElem?_eq_some_iff.1 hs).1
  obtain ⟨b, off, rfl, hrg⟩ := hcr k s hs
  obtain ⟨g, vv, x, t, l⟩ := m
  obtain ⟨n, z, c⟩ := s
  unfold mfv
  simp only at *
  obtain ⟨V, hV⟩ : ∃ V, V = sgOk x bef (decide (k + 1 = l.length)) ⟨n, z, c⟩ := ⟨_, rfl⟩
  rw [← hV]
  have HVV : Hid (V = sgOk x bef (decide (k + 1 = l.length)) ⟨n, z, c⟩) := hV
  clear hV
  have HRG : Hid (∀ o, (w.alloc o).rangeAt b (off + k * 3) [.int .i64 n, .int .i64 z, .int .i64 c]) := fun o j u hj => ((up0 w o).cell (World.block_lt_of_cell? _ _ (hrg j u hj))).trans (hrg j u hj)
  obtain ⟨W, hW⟩ : ∃ W, W = ((w.alloc (.cells #[.int .i64 g, .int .i64 vv, .int .i64 x, .int .i64 t, .slice (some ⟨b, off, none⟩) l.length cap] 24)).alloc (.cells #[.int .i64 n, .int .i64 z, .int .i64 c] 46)) := ⟨_, rfl⟩
  have HWE : Hid (W = ((w.alloc (.cells #[.int .i64 g, .int .i64 vv, .int .i64 x, .int .i64 t, .slice (some ⟨b, off, none⟩) l.length cap] 24)).alloc (.cells #[.int .i64 n, .int .i64 z, .int .i64 c] 46))) := hW
  have HBW : Hid (Below w.heap.size w W) := by show Below _ _ _; rw [hW]; exact up (up0 _ _) _
  have hm1 : Mb W w.heap.size ⟨g, vv, x, t, []⟩ (.slice (some ⟨b, off, none⟩) l.length cap) := by rw [hW]; exact (mb_new w ⟨g, vv, x, t, []⟩ _ 24).block (alloc_old _ _ _ (by rw [heap1]; omega))
  obtain ⟨_, _, m2, _, m4⟩ := hm1.cells
  simp only at m2 m4
  have s0 : W.cell? ⟨w.heap.size + 1, 0, none⟩ = some (.int .i64 n) := by
    have h9 := World.cell?_alloc_new (w.alloc (.cells #[.int .i64 g, .int .i64 vv, .int .i64 x, .int .i64 t, .slice (some ⟨b, off, none⟩) l.length cap] 24)) #[.int .i64 n, .int .i64 z, .int .i64 c] 46 0
    rw [heap1] at h9
    rw [hW]
    exact h9
  have s1 : W.cell? ⟨w.heap.size + 1, 1, none⟩ = some (.int .i64 z) := by
    have h9 := World.cell?_alloc_new (w.alloc (.cells #[.int .i64 g, .int .i64 vv, .int .i64 x, .int .i64 t, .slice (some ⟨b, off, none⟩) l.length cap] 24)) #[.int .i64 n, .int .i64 z, .int .i64 c] 46 1
    rw [heap1] at h9
    rw [hW]
    exact h9
  have s2 : W.cell? ⟨w.heap.size + 1, 2, none⟩ = some (.int .i64 c) := by
    have h9 := World.cell?_alloc_new (w.alloc (.cells #[.int .i64 g, .int .i64 vv, .int .i64 x, .int .i64 t, .slice (some ⟨b, off, none⟩) l.length cap] 24)) #[.int .i64 n, .int .i64 z, .int .i64 c] 46 2
    rw [heap1] at h9
    rw [hW]
    exact h9
  have HPV : Hid (∀ q, l[k - 1]? = some q → W.cell? ⟨b, off + (k - 1) * 3, none⟩ = some (.int .i64 q.n)) := fun q hq => by
    obtain ⟨ao', cap', e', _, _, hcc⟩ := (HSA.out _ HBW.out).cells
    simp only [Value.slice.injEq] at e'
    obtain ⟨rfl, _, rfl⟩ := e'
    obtain ⟨b', off', e2, x0, _, _⟩ := hcc (k - 1) q hq
    simp only [Option.some.injEq, Addr.mk.injEq, and_true] at e2
    obtain ⟨rfl, rfl⟩ := e2
    exact x0
  clear hW hm1 hcr hrg hs HSA
  have hki : (k : Int) < (l.length : Int) := by omega
  go_enter Tryd.func32, Tryd.ntmps32
  go_upto_region 2 with (refine wpList_load_mid rfl 46 _ rfl b (off + k * 3) rfl [.int .i64 n, .int .i64 z, .int .i64 c] _ (HRG.out _) Tryd.underlying46 rfl HIS.out ?_)
  rw [← HWE.out]
  clear HWE HRG
  by_cases c1 : n < 1
  · have HV : Hid (V = false) := by
      show _ = _
      rw [HVV.out]
      unfold sgOk
      rw [decide_eq_false (show ¬ bef < n by omega)]; rfl
    clear hb HPV
    go_wp2
    go_ret
    exact ⟨by rw [HV.out]; rfl, HBW.out⟩
  · by_cases c2 : x ≤ n
    · have HV : Hid (V = false) := by
        show _ = _
        rw [HVV.out]
        unfold sgOk
        rw [decide_eq_false (show ¬ n < x by omega)]; simp
      clear hb HPV
      go_wp2
      go_ret
      exact ⟨by rw [HV.out]; rfl, HBW.out⟩
    · rcases hb with ⟨hk0, hbf⟩ | ⟨hkp, q, hq, hbf⟩
      · have hk0i : ¬ (0 : Int) < (k : Int) := by omega
        have hk0d : decide ((0 : Int) < (k : Int)) = false := decide_eq_false hk0i
        have hk0n : decide (0 < k) = false := decide_eq_false (by omega)
        clear hk0i
        have hbn : bef < n := by omega
        clear HPV hk0 hbf
        by_cases c4 : k + 1 = l.length
        · by_cases d1 : z = 0
          · by_cases d2 : c = 0
            · have HV : Hid (V = true) := by
                show _ = _
                rw [HVV.out]
                unfold sgOk
                simp only [decide_eq_true c4, if_true]
                simp [d1, d2]
                omega
              subst d1 d2
              generalize l.length = L at *
              subst c4
              go_wp2
              go_quiet (fail)
              go_wp2
              go_ret
              exact ⟨by rw [HV.out]; rfl, below_drewN HBW.out _⟩
            · have HV : Hid (V = false) := by
                show _ = _
                rw [HVV.out]
                unfold sgOk
                simp only [decide_eq_true c4, if_true]
                simp [d2]
              have d3 : (c == 0) = false := beq_false_of_ne d2
              subst d1
              generalize l.length = L at *
              subst c4
              go_wp2
              go_quiet (fail)
              go_wp2
              go_ret
              exact ⟨by rw [HV.out]; rfl, below_drewN HBW.out _⟩
          · have HV : Hid (V = false) := by
              show _ = _
              rw [HVV.out]
              unfold sgOk
              simp only [decide_eq_true c4, if_true]
              simp [d1]
            have d3 : (z == 0) = false := beq_false_of_ne d1
            generalize l.length = L at *
            subst c4
            go_wp2
            go_quiet (fail)
            go_wp2
            go_ret
            exact ⟨by rw [HV.out]; rfl, below_drewN HBW.out _⟩
        · have q1 : ((k : Int) == (l.length : Int) - 1) = false := by rw [beq_eq_false_iff_ne]; omega
          have q2 : ¬ (k : Int) = (l.length : Int) - 1 := by omega
          cases hA : (decide (1 ≤ z) && (decide (z ≤ 524288) && (decide (0 ≤ c) && decide (c ≤ 524288)))) with
          | true =>
            have HV : Hid (V = true) := by
              show _ = _
              rw [HVV.out]
              unfold sgOk
              rw [decide_eq_false c4, if_neg (by decide)]
              simp only at hA ⊢
              rw [hA]
              simp
              omega
            simp only [Bool.and_eq_true, decide_eq_true_eq] at hA
            obtain ⟨y1, y2, y3, y4⟩ := hA
            clear c4
            go_wp2
            go_quiet (fail)
            go_wp2
            go_ret
            exact ⟨by rw [HV.out]; rfl, below_drewN HBW.out _⟩
          | false =>
            have HV : Hid (V = false) := by
              show _ = _
              rw [HVV.out]
              unfold sgOk
              rw [decide_eq_false c4, if_neg (by decide)]
              simp only at hA ⊢
              rw [hA]
              simp
            by_cases y1 : 1 ≤ z
            · by_cases y2 : z ≤ 524288
              · by_cases y3 : 0 ≤ c
                · have y4 : ¬ c ≤ 524288 := fun y4 => by simp [y1, y2, y3, y4] at hA
                  have y5 : decide (c ≤ 524288) = false := decide_eq_false y4
                  clear c4 hA
                  go_wp2
                  go_quiet (fail)
                  go_wp2
                  go_ret
                  exact ⟨by rw [HV.out]; rfl, below_drewN HBW.out _⟩
                · clear c4 hA
                  go_wp2
                  go_quiet (fail)
                  go_wp2
                  go_ret
                  exact ⟨by rw [HV.out]; rfl, below_drewN HBW.out _⟩
              · clear c4 hA
                go_wp2
                go_quiet (fail)
                go_wp2
                go_ret
                exact ⟨by rw [HV.out]; rfl, below_drewN HBW.out _⟩
            · clear c4 hA
              go_wp2
              go_quiet (fail)
              go_wp2
              go_ret
              exact ⟨by rw [HV.out]; rfl, below_drewN HBW.out _⟩
      · have pv := HPV.out q hq
        have hkd : decide (0 < k) = true := decide_eq_true hkp
        obtain ⟨p, hp⟩ : ∃ p, k = p + 1 := ⟨k - 1, by omega⟩
        have hkm : (k : Int) - 1 = (p : Int) := by omega
        have hpl : (p : Int) < (l.length : Int) := by omega
        rw [show k - 1 = p by omega] at pv
        rw [← hbf] at pv
        clear HPV hq hbf hkp hp
        by_cases c3 : n ≤ bef
        · have HV : Hid (V = false) := by
            show _ = _
            rw [HVV.out]
            unfold sgOk
            rw [decide_eq_false (show ¬ bef < n by omega)]; rfl
          go_wp2
          go_quiet (fail)
          go_wp2
          go_ret
          exact ⟨by rw [HV.out]; rfl, below_drewN HBW.out _⟩
        · by_cases c4 : k + 1 = l.length
          · by_cases d1 : z = 0
            · by_cases d2 : c = 0
              · have HV : Hid (V = true) := by
                  show _ = _
                  rw [HVV.out]
                  unfold sgOk
                  simp only [decide_eq_true c4, if_true]
                  simp [d1, d2]
                  omega
                subst d1 d2
                generalize l.length = L at *
                subst c4
                go_wp2
                go_quiet (fail)
                go_wp2
                go_ret
                exact ⟨by rw [HV.out]; rfl, below_drewN HBW.out _⟩
              · have HV : Hid (V = false) := by
                  show _ = _
                  rw [HVV.out]
                  unfold sgOk
                  simp only [decide_eq_true c4, if_true]
                  simp [d2]
                have d3 : (c == 0) = false := beq_false_of_ne d2
                subst d1
                generalize l.length = L at *
                subst c4
                go_wp2
                go_quiet (fail)
                go_wp2
                go_ret
                exact ⟨by rw [HV.out]; rfl, below_drewN HBW.out _⟩
            · have HV : Hid (V = false) := by
                show _ = _
                rw [HVV.out]
                unfold sgOk
                simp only [decide_eq_true c4, if_true]
                simp [d1]
              have d3 : (z == 0) = false := beq_false_of_ne d1
              generalize l.length = L at *
              subst c4
              go_wp2
              go_quiet (fail)
              go_wp2
              go_ret
              exact ⟨by rw [HV.out]; rfl, below_drewN HBW.out _⟩
          · have q1 : ((k : Int) == (l.length : Int) - 1) = false := by rw [beq_eq_false_iff_ne]; omega
            have q2 : ¬ (k : Int) = (l.length : Int) - 1 := by omega
            cases hA : (decide (1 ≤ z) && (decide (z ≤ 524288) && (decide (0 ≤ c) && decide (c ≤ 524288)))) with
            | true =>
              have HV : Hid (V = true) := by
                show _ = _
                rw [HVV.out]
                unfold sgOk
                rw [decide_eq_false c4, if_neg (by decide)]
                simp only at hA ⊢
                rw [hA]
                simp
                omega
              simp only [Bool.and_eq_true, decide_eq_true_eq] at hA
              obtain ⟨y1, y2, y3, y4⟩ := hA
              clear c4
              go_wp2
              go_quiet (fail)
              go_wp2
              go_ret
              exact ⟨by rw [HV.out]; rfl, below_drewN HBW.out _⟩
            | false =>
              have HV : Hid (V = false) := by
                show _ = _
                rw [HVV.out]
                unfold sgOk
                rw [decide_eq_false c4, if_neg (by decide)]
                simp only at hA ⊢
                rw [hA]
                simp
              by_cases y1 : 1 ≤ z
              · by_cases y2 : z ≤ 524288
                · by_cases y3 : 0 ≤ c
                  · have y4 : ¬ c ≤ 524288 := fun y4 => by simp [y1, y2, y3, y4] at hA
                    have y5 : decide (c ≤ 524288) = false := decide_eq_false y4
                    clear c4 hA
                    go_wp2
                    go_quiet (fail)
                    go_wp2
                    go_ret
                    exact ⟨by rw [HV.out]; rfl, below_drewN HBW.out _⟩
                  · clear c4 hA
                    go_wp2
                    go_quiet (fail)
                    go_wp2
                    go_ret
                    exact ⟨by rw [HV.out]; rfl, below_drewN HBW.out _⟩
                · clear c4 hA
                  go_wp2
                  go_quiet (fail)
                  go_wp2
                  go_ret
                  exact ⟨by rw [HV.out]; rfl, below_drewN HBW.out _⟩
              · clear c4 hA
                go_wp2
                go_quiet (fail)
                go_wp2
                go_ret
                exact ⟨by rw [HV.out]; rfl, below_drewN HBW.out _⟩
end Go.Proofs.YtfccimacloagiaaDoor
