import Derived.Test.YtpikdngccgdhiaaDoorQM4
import Derived.Test.YtpikdngccgdhiaaDoorQR1
/-
  The reference of manifest: seg, Check.
-/
namespace Go.Proofs.YtpikdngccgdhiaaDoor
open Go Go.RowKit
open Wb

set_option maxRecDepth 100000 in
set_option maxHeartbeats 8000000 in
theorem rseg_any (m : Mf) (v : Value) (k : Nat) (s : Sg) (bef : Int) (w : World) (h : SgsAt w v m.l) (hs : m.l[k]? = some s) (hb0 : 0 ≤ bef) (hb : (k = 0 ∧ bef = 0) ∨ (0 < k ∧ ∃ q, m.l[k - 1]? = some q ∧ bef = q.n)) (h128 : m.l.length ≤ 128) :
    Calls Tryd.prog 32 #[mfv m v, .int .i64 (k : Int)] w fun e w' => e = .returned (.bool (sgOk m.x bef (decide (k + 1 = m.l.length)) s)) ∧ Below w.heap.size w w' := by
  have HIS : Hid ((Tryd.prog.info? 46).map (·.size) = some 3) := infoSg
  have HSA : Hid (∀ w', Below w.heap.size w w' → SgsAt w' v m.l) := fun w' hb => h.kept hb
  obtain ⟨ao, cap, rfl, hc1, hc2, hcr⟩ := h
  unfold maxLen at hc2
  have hk := (List.getElem?_eq_some_iff.1 hs).1
  obtain ⟨b, off, rfl, hrg⟩ := hcr k s hs
  obtain ⟨g, vv, x, t, l⟩ := m
  obtain ⟨n, z, c⟩ := s
  unfold mfv
  simp only at *
  obtain ⟨V, hV⟩ : ∃ V, V = sgOk x bef (decide (k + 1 = l.length)) ⟨n, z, c⟩ := ⟨_, rfl⟩
  rw [← hV]
  have HVV : Hid (V = sgOk x bef (decide (k + 1 = l.length)) ⟨n, z, c⟩) := hV
  clear hV
  have HRG : Hid (∀ o, (w.alloc o).rangeAt b (off + k * 3) [.int .i64 n, .int .i64 z, .int .i64 c]) := fun o j u hj => ((up0 w o).cell (World.block_lt_of_cell? _ _ (hrg j u hj))).trans (hrg j u hj)
  obtain ⟨W, hW⟩ : ∃ W, W = ((w.alloc (.cells #[.int .i64 g, .int .i64 vv, .int .i64 x, .int .i64 t, .slice (some ⟨b, off, none⟩) l.length cap] 24)).alloc (.cells #[.int .i64 n, .int .i64 z, .int .i64 c] 46)) := ⟨_, rfl⟩
  have HWE : Hid (W = ((w.alloc (.cells #[.int .i64 g, .int .i64 vv, .int .i64 x, .int .i64 t, .slice (some ⟨b, off, none⟩) l.length cap] 24)).alloc (.cells #[.int .i64 n, .int .i64 z, .int .i64 c] 46))) := hW
  have HBW : Hid (Below w.heap.size w W) := by show Below _ _ _; rw [hW]; exact up (up0 _ _) _
  have hm1 : Mb W w.heap.size ⟨g, vv, x, t, []⟩ (.slice (some ⟨b, off, none⟩) l.length cap) := by rw [hW]; exact (mb_new w ⟨g, vv, x, t, []⟩ _ 24).block (alloc_old _ _ _ (by rw [heap1]; omega))
  obtain ⟨_, _, m2, _, m4⟩ := hm1.cells
  simp only at m2 m4
  have s0 : W.cell? ⟨w.heap.size + 1, 0, none⟩ = some (.int .i64 n) := by
    have h9 := World.cell?_alloc_new (w.alloc (.cells #[.int .i64 g, .int .i64 vv, .int .i64 x, .int .i64 t, .slice (some ⟨b, off, none⟩) l.length cap] 24)) #[.int .i64 n, .int .i64 z, .int .i64 c] 46 0
    rw [heap1] at h9
    rw [hW]
    exact h9
  have s1 : W.cell? ⟨w.heap.size + 1, 1, none⟩ = some (.int .i64 z) := by
    have h9 := World.cell?_alloc_new (w.alloc (.cells #[.int .i64 g, .int .i64 vv, .int .i64 x, .int .i64 t, .slice (some ⟨b, off, none⟩) l.length cap] 24)) #[.int .i64 n, .int .i64 z, .int .i64 c] 46 1
    rw [heap1] at h9
    rw [hW]
    exact h9
  have s2 : W.cell? ⟨w.heap.size + 1, 2, none⟩ = some (.int .i64 c) := by
    have h9 := World.cell?_alloc_new (w.alloc (.cells #[.int .i64 g, .int .i64 vv, .int .i64 x, .int .i64 t, .slice (some ⟨b, off, none⟩) l.length cap] 24)) #[.int .i64 n, .int .i64 z, .int .i64 c] 46 2
    rw [heap1] at h9
    rw [hW]
    exact h9
  have HPV : Hid (∀ q, l[k - 1]? = some q → W.cell? ⟨b, off + (k - 1) * 3, none⟩ = some (.int .i64 q.n)) := fun q hq => by
    obtain ⟨ao', cap', e', _, _, hcc⟩ := (HSA.out _ HBW.out).cells
    simp only [Value.slice.injEq] at e'
    obtain ⟨rfl, _, rfl⟩ := e'
    obtain ⟨b', off', e2, x0, _, _⟩ := hcc (k - 1) q hq
    simp only [Option.some.injEq, Addr.mk.injEq, and_true] at e2
    obtain ⟨rfl, rfl⟩ := e2
    exact x0
  clear hW hm1 hcr hrg hs HSA
  have hki : (k : Int) < (l.length : Int) := by omega
  go_enter Tryd.func32, Tryd.ntmps32
  go_upto_region 2 with (refine wpList_load_mid rfl 46 _ rfl b (off + k * 3) rfl [.int .i64 n, .int .i64 z, .int .i64 c] _ (HRG.out _) Tryd.underlying46 rfl HIS.out ?_)
  rw [← HWE.out]
  clear HWE HRG
  by_cases c1 : n < 1
  · have HV : Hid (V = false) := by
      show _ = _
      rw [HVV.out]
      unfold sgOk
      rw [decide_eq_false (show ¬ bef < n by omega)]; rfl
    clear hb HPV
    go_wp2
    go_ret
    exact ⟨by rw [HV.out]; rfl, HBW.out⟩
  · by_cases c2 : x ≤ n
    · have HV : Hid (V = false) := by
        show _ = _
        rw [HVV.out]
        unfold sgOk
        rw [decide_eq_false (show ¬ n < x by omega)]; simp
      clear hb HPV
      go_wp2
      go_ret
      exact ⟨by rw [HV.out]; rfl, HBW.out⟩
    · rcases hb with ⟨hk0, hbf⟩ | ⟨hkp, q, hq, hbf⟩
      · have hk0i : ¬ (0 : Int) < (k : Int) := by omega
        have hk0d : decide ((0 : Int) < (k : Int)) = false := decide_eq_false hk0i
        have hk0n : decide (0 < k) = false := decide_eq_false (by omega)
        clear hk0i
        have hbn : bef < n := by omega
        clear HPV hk0 hbf
        by_cases c4 : k + 1 = l.length
        · by_cases d1 : z = 0
          · by_cases d2 : c = 0
            · have HV : Hid (V = true) := by
                show _ = _
                rw [HVV.out]
                unfold sgOk
                simp only [decide_eq_true c4, if_true]
                simp [d1, d2]
                omega
              subst d1 d2
              generalize l.length = L at *
              subst c4
              go_wp2
              go_quiet (fail)
              go_wp2
              go_ret
              exact ⟨by rw [HV.out]; rfl, below_drewN HBW.out _⟩
            · have HV : Hid (V = false) := by
                show _ = _
                rw [HVV.out]
                unfold sgOk
                simp only [decide_eq_true c4, if_true]
                simp [d2]
              have d3 : (c == 0) = false := beq_false_of_ne d2
              subst d1
              generalize l.length = L at *
              subst c4
              go_wp2
              go_quiet (fail)
              go_wp2
              go_ret
              exact ⟨by rw [HV.out]; rfl, below_drewN HBW.out _⟩
          · have HV : Hid (V = false) := by
              show _ = _
              rw [HVV.out]
              unfold sgOk
              simp only [decide_eq_true c4, if_true]
              simp [d1]
            have d3 : (z == 0) = false := beq_false_of_ne d1
            generalize l.length = L at *
            subst c4
            go_wp2
            go_quiet (fail)
            go_wp2
            go_ret
            exact ⟨by rw [HV.out]; rfl, below_drewN HBW.out _⟩
        · have q1 : ((k : Int) == (l.length : Int) - 1) = false := by rw [beq_eq_false_iff_ne]; omega
          have q2 : ¬ (k : Int) = (l.length : Int) - 1 := by omega
          cases hA : (decide (1 ≤ z) && (decide (z ≤ 524288) && (decide (0 ≤ c) && decide (c ≤ 524288)))) with
          | true =>
            have HV : Hid (V = true) := by
              show _ = _
              rw [HVV.out]
              unfold sgOk
              rw [decide_eq_false c4, if_neg (by decide)]
              simp only at hA ⊢
              rw [hA]
              simp
              omega
            simp only [Bool.and_eq_true, decide_eq_true_eq] at hA
            obtain ⟨y1, y2, y3, y4⟩ := hA
            clear c4
            go_wp2
            go_quiet (fail)
            go_wp2
            go_ret
            exact ⟨by rw [HV.out]; rfl, below_drewN HBW.out _⟩
          | false =>
            have HV : Hid (V = false) := by
              show _ = _
              rw [HVV.out]
              unfold sgOk
              rw [decide_eq_false c4, if_neg (by decide)]
              simp only at hA ⊢
              rw [hA]
              simp
            by_cases y1 : 1 ≤ z
            · by_cases y2 : z ≤ 524288
              · by_cases y3 : 0 ≤ c
                · have y4 : ¬ c ≤ 524288 := fun y4 => by simp [y1, y2, y3, y4] at hA
                  have y5 : decide (c ≤ 524288) = false := decide_eq_false y4
                  clear c4 hA
                  go_wp2
                  go_quiet (fail)
                  go_wp2
                  go_ret
                  exact ⟨by rw [HV.out]; rfl, below_drewN HBW.out _⟩
                · clear c4 hA
                  go_wp2
                  go_quiet (fail)
                  go_wp2
                  go_ret
                  exact ⟨by rw [HV.out]; rfl, below_drewN HBW.out _⟩
              · clear c4 hA
                go_wp2
                go_quiet (fail)
                go_wp2
                go_ret
                exact ⟨by rw [HV.out]; rfl, below_drewN HBW.out _⟩
            · clear c4 hA
              go_wp2
              go_quiet (fail)
              go_wp2
              go_ret
              exact ⟨by rw [HV.out]; rfl, below_drewN HBW.out _⟩
      · have pv := HPV.out q hq
        have hkd : decide (0 < k) = true := decide_eq_true hkp
        obtain ⟨p, hp⟩ : ∃ p, k = p + 1 := ⟨k - 1, by omega⟩
        have hkm : (k : Int) - 1 = (p : Int) := by omega
        have hpl : (p : Int) < (l.length : Int) := by omega
        rw [show k - 1 = p by omega] at pv
        rw [← hbf] at pv
        clear HPV hq hbf hkp hp
        by_cases c3 : n ≤ bef
        · have HV : Hid (V = false) := by
            show _ = _
            rw [HVV.out]
            unfold sgOk
            rw [decide_eq_false (show ¬ bef < n by omega)]; rfl
          go_wp2
          go_quiet (fail)
          go_wp2
          go_ret
          exact ⟨by rw [HV.out]; rfl, below_drewN HBW.out _⟩
        · by_cases c4 : k + 1 = l.length
          · by_cases d1 : z = 0
            · by_cases d2 : c = 0
              · have HV : Hid (V = true) := by
                  show _ = _
                  rw [HVV.out]
                  unfold sgOk
                  simp only [decide_eq_true c4, if_true]
                  simp [d1, d2]
                  omega
                subst d1 d2
                generalize l.length = L at *
                subst c4
                go_wp2
                go_quiet (fail)
                go_wp2
                go_ret
                exact ⟨by rw [HV.out]; rfl, below_drewN HBW.out _⟩
              · have HV : Hid (V = false) := by
                  show _ = _
                  rw [HVV.out]
                  unfold sgOk
                  simp only [decide_eq_true c4, if_true]
                  simp [d2]
                have d3 : (c == 0) = false := beq_false_of_ne d2
                subst d1
                generalize l.length = L at *
                subst c4
                go_wp2
                go_quiet (fail)
                go_wp2
                go_ret
                exact ⟨by rw [HV.out]; rfl, below_drewN HBW.out _⟩
            · have HV : Hid (V = false) := by
                show _ = _
                rw [HVV.out]
                unfold sgOk
                simp only [decide_eq_true c4, if_true]
                simp [d1]
              have d3 : (z == 0) = false := beq_false_of_ne d1
              generalize l.length = L at *
              subst c4
              go_wp2
              go_quiet (fail)
              go_wp2
              go_ret
              exact ⟨by rw [HV.out]; rfl, below_drewN HBW.out _⟩
          · have q1 : ((k : Int) == (l.length : Int) - 1) = false := by rw [beq_eq_false_iff_ne]; omega
            have q2 : ¬ (k : Int) = (l.length : Int) - 1 := by omega
            cases hA : (decide (1 ≤ z) && (decide (z ≤ 524288) && (decide (0 ≤ c) && decide (c ≤ 524288)))) with
            | true =>
              have HV : Hid (V = true) := by
                show _ = _
                rw [HVV.out]
                unfold sgOk
                rw [decide_eq_false c4, if_neg (by decide)]
                simp only at hA ⊢
                rw [hA]
                simp
                omega
              simp only [Bool.and_eq_true, decide_eq_true_eq] at hA
              obtain ⟨y1, y2, y3, y4⟩ := hA
              clear c4
              go_wp2
              go_quiet (fail)
              go_wp2
              go_ret
              exact ⟨by rw [HV.out]; rfl, below_drewN HBW.out _⟩
            | false =>
              have HV : Hid (V = false) := by
                show _ = _
                rw [HVV.out]
                unfold sgOk
                rw [decide_eq_false c4, if_neg (by decide)]
                simp only at hA ⊢
                rw [hA]
                simp
              by_cases y1 : 1 ≤ z
              · by_cases y2 : z ≤ 524288
                · by_cases y3 : 0 ≤ c
                  · have y4 : ¬ c ≤ 524288 := fun y4 => by simp [y1, y2, y3, y4] at hA
                    have y5 : decide (c ≤ 524288) = false := decide_eq_false y4
                    clear c4 hA
                    go_wp2
                    go_quiet (fail)
                    go_wp2
                    go_ret
                    exact ⟨by rw [HV.out]; rfl, below_drewN HBW.out _⟩
                  · clear c4 hA
                    go_wp2
                    go_quiet (fail)
                    go_wp2
                    go_ret
                    exact ⟨by rw [HV.out]; rfl, below_drewN HBW.out _⟩
                · clear c4 hA
                  go_wp2
                  go_quiet (fail)
                  go_wp2
                  go_ret
                  exact ⟨by rw [HV.out]; rfl, below_drewN HBW.out _⟩
              · clear c4 hA
                go_wp2
                go_quiet (fail)
                go_wp2
                go_ret
                exact ⟨by rw [HV.out]; rfl, below_drewN HBW.out _⟩
end Go.Proofs.YtpikdngccgdhiaaDoor

/-
  The reference of manifest: Check.
-/
namespace Go.Proofs.YtpikdngccgdhiaaDoor
open Go Go.RowKit
open Wb

set_option maxRecDepth 100000 in
set_option maxHeartbeats 8000000 in
theorem rcheck8_any (m : Mf) (v : Value) (w : World) (h : SgsAt w v m.l) :
    Calls Tryd.prog 14 #[mfv m v] w fun e w' => e = .returned (.int .i64 (chkM m : Int)) ∧ Below w.heap.size w w' := by
  have HSG : Hid (∀ (w' : World) (k : Nat) (s : Sg) (bef : Int), Below w.heap.size w w' → m.l[k]? = some s → 0 ≤ bef → ((k = 0 ∧ bef = 0) ∨ (0 < k ∧ ∃ q, m.l[k - 1]? = some q ∧ bef = q.n)) → m.l.length ≤ 128 → Calls Tryd.prog 32 #[mfv m v, .int .i64 (k : Int)] w' fun e w'' => e = .returned (.bool (sgOk m.x bef (decide (k + 1 = m.l.length)) s)) ∧ Below w'.heap.size w' w'') := fun w' k s bef hb hs h0 h1 h2 => rseg_any m v k s bef w' (h.kept hb) hs h0 h1 h2
  obtain ⟨ao, cap, rfl, hc1, hc2, _⟩ := h
  unfold maxLen at hc2
  obtain ⟨g, vv, x, t, l⟩ := m
  unfold mfv at HSG ⊢
  simp only at HSG hc1 ⊢
  by_cases h1 : 1 ≤ g ∧ g ≤ 1099511627776
  · obtain ⟨h1a, h1b⟩ := h1
    by_cases h2 : vv < 1 ∨ 3 < vv
    · have HC : Hid (chkM ⟨g, vv, x, t, l⟩ = 3) := by
        show _ = _
        unfold chkM
        rw [if_neg (fun h => h ⟨h1a, h1b⟩), if_pos h2]
      clear HSG
      rcases h2 with h2 | h2
      · go_enter Tryd.func14, Tryd.ntmps14
        go_wp2
        go_ret
        exact ⟨by rw [HC.out]; rfl, up0 _ _⟩
      · go_enter Tryd.func14, Tryd.ntmps14
        go_wp2
        go_ret
        exact ⟨by rw [HC.out]; rfl, up0 _ _⟩
    · have h2a : ¬ vv < 1 := fun h => h2 (.inl h)
      have h2b : ¬ 3 < vv := fun h => h2 (.inr h)
      by_cases h3 : 1 ≤ x ∧ x ≤ 1099511627776
      · obtain ⟨h3a, h3b⟩ := h3
        by_cases h4 : t < 0
        · have HC : Hid (chkM ⟨g, vv, x, t, l⟩ = 86) := by
            show _ = _
            unfold chkM
            rw [if_neg (fun h => h ⟨h1a, h1b⟩), if_neg h2, if_neg (fun h => h ⟨h3a, h3b⟩), if_pos h4]
          clear HSG h2
          go_enter Tryd.func14, Tryd.ntmps14
          go_wp2
          go_ret
          exact ⟨by rw [HC.out]; rfl, up0 _ _⟩
        · by_cases h5 : l.length = 0 ∨ 128 < l.length
          · have HC : Hid (chkM ⟨g, vv, x, t, l⟩ = 82) := by
              show _ = _
              unfold chkM
              rw [if_neg (fun h => h ⟨h1a, h1b⟩), if_neg h2, if_neg (fun h => h ⟨h3a, h3b⟩), if_neg h4, if_pos h5]
            clear HSG h2
            rcases h5 with h5 | h5
            · rw [h5]
              go_enter Tryd.func14, Tryd.ntmps14
              go_wp2
              go_ret
              exact ⟨by rw [HC.out]; rfl, up0 _ _⟩
            · have h5z : ((l.length : Int) == 0) = false := by rw [beq_eq_false_iff_ne]; omega
              go_enter Tryd.func14, Tryd.ntmps14
              go_wp2
              go_ret
              exact ⟨by rw [HC.out]; rfl, up0 _ _⟩
          · have h5a : ¬ l.length = 0 := fun h => h5 (.inl h)
            have h5b : ¬ 128 < l.length := fun h => h5 (.inr h)
            have h5z : ((l.length : Int) == 0) = false := by rw [beq_eq_false_iff_ne]; omega
            have HC : Hid (chkM ⟨g, vv, x, t, l⟩ = if sgsOk x 0 l = true then 0 else 83) := by
              show _ = _
              unfold chkM
              rw [if_neg (fun h => h ⟨h1a, h1b⟩), if_neg h2, if_neg (fun h => h ⟨h3a, h3b⟩), if_neg h4, if_neg h5]
            obtain ⟨W, hW⟩ : ∃ W, W = w.alloc (.cells #[.int .i64 g, .int .i64 vv, .int .i64 x, .int .i64 t, .slice ao l.length cap] 24) := ⟨_, rfl⟩
            have HWE : Hid (W = w.alloc (.cells #[.int .i64 g, .int .i64 vv, .int .i64 x, .int .i64 t, .slice ao l.length cap] 24)) := hW
            have HMB : Hid (∀ w', Below W.heap.size W w' → w'.cell? ⟨w.heap.size, 0, none⟩ = some (.int .i64 g) ∧ w'.cell? ⟨w.heap.size, 1, none⟩ = some (.int .i64 vv) ∧ w'.cell? ⟨w.heap.size, 2, none⟩ = some (.int .i64 x) ∧ w'.cell? ⟨w.heap.size, 3, none⟩ = some (.int .i64 t) ∧ w'.cell? ⟨w.heap.size, 4, none⟩ = some (.slice ao l.length cap)) := fun w' hb => by
              have h9 : Mb W w.heap.size ⟨g, vv, x, t, []⟩ (.slice ao l.length cap) := by rw [hW]; exact mb_new w ⟨g, vv, x, t, []⟩ _ 24
              exact (h9.block (hb.block _ (by rw [hW, heap1]; omega))).cells
            have HBW : Hid (∀ w', Below W.heap.size W w' → Below w.heap.size w w') := fun w' hb => andThen (by rw [hW]; exact up0 w _) hb
            clear hW h2 h5
            go_enter Tryd.func14, Tryd.ntmps14
            go_wp2
            rw [← HWE.out]
            clear HWE
            go_loopw [3] (fun i wr => ∃ (k : Nat) (bef : Int), k ≤ l.length ∧ i = .int .i64 (k : Int) ∧ 0 ≤ bef ∧ ((k = 0 ∧ bef = 0) ∨ (0 < k ∧ ∃ q, l[k - 1]? = some q ∧ bef = q.n)) ∧ sgsOk x bef (l.drop k) = sgsOk x 0 l ∧ Below W.heap.size W wr) (fun i _ => l.length - (intOf i).toNat)
            case atStart => exact ⟨0, 0, Nat.zero_le _, rfl, by omega, .inl ⟨rfl, rfl⟩, rfl, Below.refl _ _⟩
            case round =>
              obtain ⟨k, bef, hk, rfl, hb0, hbf, hs, hbel⟩ := hrel
              obtain ⟨q0, q1, q2, q3, q4⟩ := HMB.out _ hbel
              by_cases hlt : k < l.length
              · obtain ⟨s, hsk⟩ : ∃ s, l[k]? = some s := ⟨l[k], List.getElem?_eq_getElem hlt⟩
                have HD : Hid (l.drop k = s :: l.drop (k + 1)) := by
                  show _ = _
                  rw [List.drop_eq_getElem_cons hlt]
                  congr 1
                  rw [List.getElem?_eq_getElem hlt] at hsk
                  exact Option.some.inj hsk
                have HEM : Hid ((l.drop (k + 1)).isEmpty = decide (k + 1 = l.length)) := by
                  show _ = _
                  by_cases e : k + 1 = l.length
                  · rw [List.drop_eq_nil_of_le (by omega), decide_eq_true e]; rfl
                  · rw [decide_eq_false e]
                    cases hd : l.drop (k + 1) with
                    | nil =>
                      have := congrArg List.length hd
                      rw [List.length_drop, List.length_nil] at this
                      omega
                    | cons x y => rfl
                have HEQ : Hid (sgsOk x 0 l = (sgOk x bef (decide (k + 1 = l.length)) s && sgsOk x s.n (l.drop (k + 1)))) := by
                  show _ = _
                  rw [← hs, HD.out, sgsOk, HEM.out]
                have HCA : Hid (Calls Tryd.prog 32 #[.agg #[.int .i64 g, .int .i64 vv, .int .i64 x, .int .i64 t, .slice ao l.length cap], .int .i64 (k : Int)] wr fun e w'' => e = .returned (.bool (sgOk x bef (decide (k + 1 = l.length)) s)) ∧ Below wr.heap.size wr w'') := HSG.out wr k s bef (HBW.out _ hbel) hsk hb0 hbf (by omega)
                cases hV : sgOk x bef (decide (k + 1 = l.length)) s with
                | true =>
                  rw [hV] at HCA HEQ
                  have hsn : bef < s.n := by
                    unfold sgOk at hV
                    simp only [Bool.and_eq_true, decide_eq_true_eq] at hV
                    exact hV.1
                  have HR : Hid (0 ≤ s.n ∧ (0 < k + 1 ∧ ∃ q, l[k + 1 - 1]? = some q ∧ s.n = q.n) ∧ sgsOk x s.n (l.drop (k + 1)) = sgsOk x 0 l) := ⟨by omega, ⟨by omega, s, by simpa using hsk, rfl⟩, by rw [HEQ.out, Bool.true_and]⟩
                  clear hV hsn hsk hs hbf HD HEM HEQ
                  go_wp2_with fail
                  refine HCA.out.mono ?_
                  rintro e w1 ⟨rfl, b1⟩
                  have B1 := andThen hbel b1
                  clear b1 q0 q1 q2 q3 q4 HCA
                  go_wp2
                  go_roundw
                  case rel => exact ⟨k + 1, s.n, by omega, by go_num, HR.out.1, .inr HR.out.2.1, HR.out.2.2, B1⟩
                  case measure => simp [intOf]; omega
                | false =>
                  rw [hV] at HCA HEQ
                  have HF : Hid (chkM ⟨g, vv, x, t, l⟩ = 83) := by
                    show _ = _
                    rw [HC.out, HEQ.out, Bool.false_and]
                    rfl
                  clear hV hsk hs hbf HD HEM HEQ HC
                  go_wp2_with fail
                  refine HCA.out.mono ?_
                  rintro e w1 ⟨rfl, b1⟩
                  have B1 := HBW.out _ (andThen hbel b1)
                  clear b1 q0 q1 q2 q3 q4 HCA hbel
                  go_wp2
                  go_ret
                  exact ⟨by rw [HF.out]; rfl, B1⟩
              · obtain rfl : k = l.length := by omega
                rw [List.drop_length] at hs
                have HF : Hid (chkM ⟨g, vv, x, t, l⟩ = 0) := by
                  show _ = _
                  rw [HC.out, ← hs]
                  rfl
                have B1 := HBW.out _ hbel
                clear hs hbf HC hbel
                go_wp2
                go_ret
                exact ⟨by rw [HF.out]; rfl, B1⟩
      · have HC : Hid (chkM ⟨g, vv, x, t, l⟩ = 81) := by
          show _ = _
          unfold chkM
          rw [if_neg (fun h => h ⟨h1a, h1b⟩), if_neg h2, if_pos h3]
        clear HSG h2
        by_cases h3a : x < 1
        · clear h3
          go_enter Tryd.func14, Tryd.ntmps14
          go_wp2
          go_ret
          exact ⟨by rw [HC.out]; rfl, up0 _ _⟩
        · have h3b : 1099511627776 < x := by omega
          clear h3
          go_enter Tryd.func14, Tryd.ntmps14
          go_wp2
          go_ret
          exact ⟨by rw [HC.out]; rfl, up0 _ _⟩
  · have HC : Hid (chkM ⟨g, vv, x, t, l⟩ = 80) := by
      show _ = _
      unfold chkM
      rw [if_pos h1]
    clear HSG
    by_cases h1a : g < 1
    · clear h1
      go_enter Tryd.func14, Tryd.ntmps14
      go_wp2
      go_ret
      exact ⟨by rw [HC.out]; rfl, up0 _ _⟩
    · have h1b : 1099511627776 < g := by omega
      clear h1
      go_enter Tryd.func14, Tryd.ntmps14
      go_wp2
      go_ret
      exact ⟨by rw [HC.out]; rfl, up0 _ _⟩
end Go.Proofs.YtpikdngccgdhiaaDoor

/-
  The reference of manifest: numbers.
-/
namespace Go.Proofs.YtpikdngccgdhiaaDoor
open Go Go.RowKit
open Wb

def iv (ns : List Int) : List Value := ns.map fun n => Value.int .i64 n
/-- numbers in a row of the call's own -/
def RowN (B : Nat) (w : World) (v : Value) (ns : List Int) : Prop := w.ownsRow B 3 1 v ns.length (iv ns)
theorem infoTI8m : (Tryd.prog.info? 3).map (fun i => (i.zero, i.size, i.bytes)) = some (some (.int .i64 0), 1, 8) := by kernel_rfl
theorem RowN.at {B : Nat} {w : World} {v : Value} {ns : List Int} (h : RowN B w v ns) : IntsAt w v ns := by
  have h0 := h
  unfold RowN at h
  rcases h.2 with ⟨rfl, h1⟩ | ⟨g, cap, cur, rfl, _, hh, h1, h2, h3, h4⟩
  · obtain rfl : ns = [] := List.eq_nil_of_length_eq_zero h1
    exact ⟨none, 0, rfl, Nat.le_refl _, Nat.zero_le _, fun k n hn => by simp at hn⟩
  · refine ⟨some ⟨g, 0, none⟩, cap, rfl, h1, h2, fun k n hn => ⟨g, 0, rfl, (Array.getElem?_eq_some_iff.1 hh).1, ?_⟩⟩
    have hk := (List.getElem?_eq_some_iff.1 hn).1
    rw [Nat.zero_add, World.ownsRow.cellAt h0 k (by omega)]
    simp [iv, hn]
theorem RowN.block {B : Nat} {w w' : World} {v : Value} {ns : List Int} (h : RowN B w v ns) (hg : ∀ g, v.ownBlock = some g → w'.heap[g]? = w.heap[g]?) : RowN B w' v ns := by
  unfold RowN at h ⊢
  refine ⟨h.1, ?_⟩
  rcases h.2 with h1 | ⟨g, cap, cur, e, hb, hh, rest⟩
  · exact .inl h1
  · exact .inr ⟨g, cap, cur, e, hb, (hg g (by rw [e]; rfl)).trans hh, rest⟩
theorem RowN.kept {B : Nat} {w w' : World} {v : Value} {ns : List Int} (h : RowN B w v ns) (hb : Below w.heap.size w w') : RowN B w' v ns := h.block fun g hg => hb.block g (World.ownsRow.lt h g hg).2
theorem RowN.lit (w : World) (ns : List Int) (cs : Array Value) (hcs : cs.toList = iv ns) (hm : ns.length ≤ 1000) : RowN w.heap.size (w.alloc (.cells cs 3)) (.slice (some ⟨w.heap.size, 0, none⟩) ns.length ns.length) ns := by
  have h := World.ownsRow_lit (base := w.heap.size) (e := 3) (size := 1) w cs ns.length (Nat.le_refl _) (by unfold maxLen; omega) (by rw [← Array.length_toList, hcs]; simp [iv])
  rw [hcs] at h
  exact h
theorem RowN.weak {B B2 : Nat} {w : World} {v : Value} {ns : List Int} (h : RowN B2 w v ns) (hB : B ≤ B2) : RowN B w v ns := by
  unfold RowN at h ⊢
  refine ⟨h.1, ?_⟩
  rcases h.2 with h1 | ⟨g, cap, cur, e, hb, rest⟩
  · exact .inl h1
  · exact .inr ⟨g, cap, cur, e, Nat.le_trans hB hb, rest⟩
theorem rowN_slice {B : Nat} {w : World} {v : Value} {ns : List Int} (h : RowN B w v ns) : ∃ a, ∃ c : Nat, v = .slice a ns.length c := by
  obtain ⟨a, c, e, _⟩ := h.at
  exact ⟨a, c, e⟩
theorem wpList_append_ints {P : Program} (w : World) {ops : Array Oper} {rest : List Oper} {o : Oper} {a : Act} {Q : Exit → Act → World → Prop} (hgd : o.guard = none) (s x : Operand) (t : TypeId)
    (ho : o.op = .call { callee := .builtin .append, args := #[s, x], argTypes := #[t, t] })
    (B : Nat) (hinfo : (P.info? 3).map (fun i => (i.zero, i.size, i.bytes)) = some (some (.int .i64 0), 1, 8)) (ht : P.underlying t = some (.slice 3))
    (v : Value) (l : List Int) (hv : a.eval s = v) (h : RowN B w v l) (g : Nat) (ms : List Int) (hx : a.eval x = .slice (some ⟨g, 0, none⟩) ms.length ms.length)
    (hc : ∀ j u, (iv ms)[j]? = some u → w.cell? ⟨g, j, none⟩ = some u) (hmax : l.length + ms.length ≤ 100000) (hB : B ≤ w.heap.size)
    (hK : ∀ v' w', RowN B w' v' (l ++ ms) → w.grownBy w' v.ownBlock → wpList P ops Q rest (a.put o.dst v') w') : wpList P ops Q (o :: rest) a w := by
  obtain ⟨i0, hi, hz0, hz1, hz2⟩ := info_partsM hinfo
  refine wpList_append_own_at w hgd s x t ho B 3 i0 _ 1 8 ht hi hz0 hz1 hz2 rfl (by decide) v l.length (iv l) hv h ⟨g, 0, none⟩ ms.length ms.length (iv ms) hx (by simp [iv]) ?_ ?_ (by unfold maxLen; omega) (by omega) hB ?_
  · intro j u hj
    rw [Addr.add_lit, Nat.zero_add]
    exact hc j u hj
  · intro u hu
    simp only [iv, List.mem_map] at hu
    obtain ⟨z, _, rfl⟩ := hu
    rfl
  · intro v' w' h2 h3 _ _
    refine hK v' w' ?_ h3
    unfold RowN
    rw [List.length_append]
    have e : iv (l ++ ms) = iv l ++ iv ms := by simp [iv]
    rw [e]
    exact h2
set_option maxRecDepth 100000 in
set_option maxHeartbeats 8000000 in
theorem numbers_any (m : Mf) (v : Value) (w : World) (h : SgsAt w v m.l) (hc : chkM m = 0) :
    Calls Tryd.prog 33 #[mfv m v] w fun e w' => ∃ v', e = .returned v' ∧ RowN w.heap.size w' v' (numsM m) ∧ Below w.heap.size w w' := by
  have hin := infoTI8m
  have HIS : Hid ((Tryd.prog.info? 46).map (·.size) = some 3) := infoSg
  have HSA : Hid (∀ w', Below w.heap.size w w' → SgsAt w' v m.l) := fun w' hb => h.kept hb
  obtain ⟨p1, p2, p3, p4, p5, p6, p7, p8, p9, p10⟩ := chk_parts hc
  have HFT : Hid (Fits 0 m.l) := fits_of m.x p6 m.l 0 p10
  obtain ⟨ao, cap, rfl, hc1, hc2, _⟩ := h
  unfold maxLen at hc2
  obtain ⟨g, vv, x, t, l⟩ := m
  unfold mfv numsM
  simp only at HSA p1 p2 p3 p4 p5 p6 p7 p8 p9 HFT hc1 ⊢
  clear hc p10
  obtain ⟨W, hW⟩ : ∃ W, W = w.alloc (.cells #[.int .i64 g, .int .i64 vv, .int .i64 x, .int .i64 t, .slice ao l.length cap] 24) := ⟨_, rfl⟩
  have HWE : Hid (W = w.alloc (.cells #[.int .i64 g, .int .i64 vv, .int .i64 x, .int .i64 t, .slice ao l.length cap] 24) ∧ W.heap.size = w.heap.size + 1) := ⟨hW, by rw [hW, heap1]⟩
  have HMB : Hid (∀ w', Below W.heap.size W w' → w'.cell? ⟨w.heap.size, 4, none⟩ = some (.slice ao l.length cap)) := fun w' hb => by
    have h9 : Mb W w.heap.size ⟨g, vv, x, t, []⟩ (.slice ao l.length cap) := by rw [hW]; exact mb_new w ⟨g, vv, x, t, []⟩ _ 24
    exact (h9.block (hb.block _ (by rw [hW, heap1]; omega))).cells.2.2.2.2
  have HBW : Hid (∀ w', Below W.heap.size W w' → Below w.heap.size w w') := fun w' hb => andThen (by rw [hW]; exact up0 w _) hb
  have HR0 : Hid (RowN W.heap.size (W.alloc (.cells #[.int .i64 g, .int .i64 vv, .int .i64 x, .int .i64 t, .int .i64 (l.length : Int)] 3)) (.slice (some ⟨W.heap.size, 0, none⟩) 5 5) [g, vv, x, t, (l.length : Int)]) := RowN.lit W [g, vv, x, t, (l.length : Int)] _ rfl (by simp)
  clear hW
  go_enter Tryd.func33, Tryd.ntmps33
  go_wp2
  rw [show w.heap.size + 1 = W.heap.size from HWE.out.2.symm, ← HWE.out.1]
  go_loopw [3, 4, 5] (fun o la i wr => ∃ (k : Nat) (bef : Int) (cb : List Int), k ≤ l.length ∧ i = .int .i64 (k : Int) ∧ la = .int .i64 bef ∧ 0 ≤ bef ∧ bef ≤ 1099511627776 ∧ Fits bef (l.drop k) ∧ cb ++ sgNums bef (l.drop k) = g :: vv :: x :: t :: (l.length : Int) :: sgNums 0 l ∧ cb.length = 5 + 3 * k ∧ RowN W.heap.size wr o cb ∧ Below W.heap.size W wr) (fun _ _ i _ => l.length - (intOf i).toNat)
  case atStart => exact ⟨0, 0, _, Nat.zero_le _, rfl, rfl, by omega, by omega, HFT.out, rfl, rfl, HR0.out, up0 _ _⟩
  case round =>
    obtain ⟨k, bef, cb, hk, rfl, rfl, hb0, hbn, hft, hcb, hcl, ho, hbel⟩ := hrel
    have q4 := HMB.out _ hbel
    have HCL : Hid (cb.length = 5 + 3 * k) := hcl
    clear HR0 HWE hcl
    by_cases hlt : k < l.length
    · obtain ⟨s, hsk⟩ : ∃ s, l[k]? = some s := ⟨l[k], List.getElem?_eq_getElem hlt⟩
      have HD : Hid (l.drop k = s :: l.drop (k + 1)) := by
        show _ = _
        rw [List.drop_eq_getElem_cons hlt]
        congr 1
        rw [List.getElem?_eq_getElem hlt] at hsk
        exact Option.some.inj hsk
      rw [HD.out] at hft hcb
      obtain ⟨f1, f2, f3, f4, f5, f6, f7⟩ := fits_cons hft
      obtain ⟨ao', cap', e', _, _, hcr⟩ := HSA.out _ (HBW.out _ hbel)
      simp only [Value.slice.injEq] at e'
      obtain ⟨rfl, _, rfl⟩ := e'
      obtain ⟨b, off, rfl, hrg⟩ := hcr k s hsk
      obtain ⟨n, z, c⟩ := s
      simp only [sgNums] at f1 f2 f3 f4 f5 f6 f7 hcb
      have HR0 : Hid (wr.rangeAt b (off + k * 3) [.int .i64 n, .int .i64 z, .int .i64 c]) := hrg
      have HCB : Hid (cb ++ [n - bef, z, c] ++ sgNums n (l.drop (k + 1)) = g :: vv :: x :: t :: (l.length : Int) :: sgNums 0 l) := by
        show _ = _
        rw [← hcb]
        simp
      have HO : Hid (∀ o1 o2, RowN W.heap.size ((wr.alloc o1).alloc o2) u3 cb ∧ Below W.heap.size W ((wr.alloc o1).alloc o2) ∧ W.heap.size ≤ ((wr.alloc o1).alloc o2).heap.size) := fun o1 o2 => ⟨(ho.kept (up0 _ _)).kept (up0 _ _), up (up hbel _) _, (up (up hbel _) _).size⟩
      have HU : Hid (∀ q, u3.ownBlock = some q → W.heap.size ≤ q ∧ q < wr.heap.size) := fun q hq => World.ownsRow.lt ho q hq
      have HC3 : Hid (∀ o1 t j u, (iv [n - bef, z, c])[j]? = some u → ((wr.alloc o1).alloc (.cells #[.int .i64 (n - bef), .int .i64 z, .int .i64 c] t)).cell? ⟨wr.heap.size + 1, j, none⟩ = some u) := fun o1 t j u hj => by
        have h9 := World.cell?_alloc_new (wr.alloc o1) #[.int .i64 (n - bef), .int .i64 z, .int .i64 c] t j
        rw [heap1] at h9
        rw [h9]
        simpa [iv] using hj
      obtain ⟨a3, c3, e3⟩ := rowN_slice ho
      subst e3
      have hmx : cb.length + [n - bef, z, c].length ≤ 100000 := by rw [HCL.out]; simp; omega
      clear hcr hsk hrg ho hft hcb HD HSA
      go_wp2_with (first
        | (refine wpList_load_mid rfl 46 _ rfl b (off + k * 3) rfl [.int .i64 n, .int .i64 z, .int .i64 c] _ HR0.out Tryd.underlying46 rfl HIS.out ?_)
        | (at_builtin; refine wpList_append_ints _ rfl (.tmp 31) (.tmp 40) 59 rfl W.heap.size hin Tryd.underlying59 _ cb rfl (HO.out _ _).1 (wr.heap.size + 1) [n - bef, z, c] rfl (HC3.out _ _) hmx (HO.out _ _).2.2 ?_))
      intro v4 w4 ho4 g4
      have hl4 : w4.cell? ⟨wr.heap.size, 0, none⟩ = some (.int .i64 n) := by
        have h1 := g4.block wr.heap.size (by rw [heap1, heap1]; omega) (fun e => by have := (HU.out _ e.symm).2; omega)
        rw [World.cell?_of_block (a := ⟨wr.heap.size, 0, none⟩) h1]
        exact ((up0 (wr.alloc _) _).cell (p := ⟨wr.heap.size, 0, none⟩) (by show wr.heap.size < (wr.alloc _).heap.size; rw [heap1]; omega)).trans (World.cell?_alloc_new wr _ _ 0)
      have R : Hid (RowN W.heap.size w4 v4 (cb ++ [n - bef, z, c]) ∧ Below W.heap.size W w4) := ⟨ho4, (HO.out _ _).2.1.grown g4 (HO.out _ _).2.2 (fun q hq => (HU.out q hq).1)⟩
      obtain ⟨a4, c4, e4⟩ := rowN_slice ho4
      subst e4
      clear ho4 g4 HO HC3 HR0 HU hbel q4
      go_wp2
      go_roundw
      case rel => exact ⟨k + 1, n, _, by omega, by go_num, rfl, by omega, by omega, f7, HCB.out, by rw [List.length_append, HCL.out]; simp; omega, R.out.1, R.out.2⟩
      case measure => simp [intOf]; omega
    · obtain rfl : k = l.length := by omega
      rw [List.drop_length] at hcb
      simp only [sgNums, List.append_nil] at hcb
      subst hcb
      have HB := HBW.out _ hbel
      have HS : Hid (w.heap.size ≤ W.heap.size) := (HBW.out _ (Below.refl _ _)).size
      clear hbel hft HSA
      go_wp2
      go_ret
      exact ⟨_, rfl, ho.weak HS.out, HB⟩
end Go.Proofs.YtpikdngccgdhiaaDoor
