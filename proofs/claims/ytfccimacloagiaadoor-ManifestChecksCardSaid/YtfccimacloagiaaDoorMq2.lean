/-
  The reference of manifest: Check.
-/
import Derived.Test.YtfccimacloagiaaDoorMq1
namespace Go.Proofs.YtfccimacloagiaaDoor
open Go Go.RowKit
open Wb

set_option maxRecDepth 100000 in
set_option maxHeartbeats 8000000 in
theorem rcheck8_any (m : Mf) (v : Value) (w : World) (h : SgsAt w v m.l) :
    Calls Tryd.prog 14 #[mfv m v] w fun e w' => e = .returned (.int .i64 (chkM m : Int)) ∧ Below w.heap.size w w' := by
  have HSG : Hid (∀ (w' : World) (k : Nat) (s : Sg) (bef : Int), Below w.heap.size w w' → m.l[k]? = some s → 0 ≤ bef → ((k = 0 ∧ bef = 0) ∨ (0 < k ∧ ∃ q, m.l[k - 1]? = some q ∧ bef = q.n)) → m.l.length ≤ 128 → Calls Tryd.prog 32 #[mfv m v, .int .i64 (k : Int)] w' fun e w'' => e = .returned (.bool (sgOk m.x bef (decide (k + 1 = m.l.length)) s)) ∧ Below w'.heap.size w' w'') := fun w' k s bef hb hs h0 h1 h2 => rseg_any m v k s bef w' (h.kept hb) hs h0 h1 h2
  obtain ⟨ao, cap, rfl, hc1, hc2, _⟩ := h
  unfold maxLen at hc2
  obtain ⟨g, vv, x, t, l⟩ := m
  unfold mfv at HSG ⊢
  simp only at HSG hc1 ⊢
  by_cases h1 : 1 ≤ g ∧ g ≤ 1099511627776
  · obtain ⟨h1a, h1b⟩ := h1
    by_cases h2 : vv < 1 ∨ 3 < vv
    · have HC : Hid (chkM ⟨g, vv, x, t, l⟩ = 3) := by
        show _ = _
        unfold chkM
        rw [if_neg (fun h => h ⟨h1a, h1b⟩), if_pos h2]
      clear HSG
      rcases h2 with h2 | h2
      · go_enter Tryd.func14, Tryd.ntmps14
        go_wp2
        go_ret
        exact ⟨by rw [HC.out]; rfl, up0 _ _⟩
      · go_enter Tryd.func14, Tryd.ntmps14
        go_wp2
        go_ret
        exact ⟨by rw [HC.out]; rfl, up0 _ _⟩
    · have h2a : ¬ vv < 1 := fun h => h2 (.inl h)
      have h2b : ¬ 3 < vv := fun h => h2 (.inr h)
      by_cases h3 : 1 ≤ x ∧ x ≤ 1099511627776
      · obtain ⟨h3a, h3b⟩ := h3
        by_cases h4 : t < 0
        · have HC : Hid (chkM ⟨g, vv, x, t, l⟩ = 86) := by
            show _ = _
            unfold chkM
            rw [if_neg (fun h => h ⟨h1a, h1b⟩), if_neg h2, if_neg (fun h => h ⟨h3a, h3b⟩), if_pos h4]
          clear HSG h2
          go_enter Tryd.func14, Tryd.ntmps14
          go_wp2
          go_ret
          exact ⟨by rw [HC.out]; rfl, up0 _ _⟩
        · by_cases h5 : l.length = 0 ∨ 128 < l.length
          · have HC : Hid (chkM ⟨g, vv, x, t, l⟩ = 82) := by
              show _ = _
              unfold chkM
              rw [if_neg (fun h => h ⟨h1a, h1b⟩), if_neg h2, if_neg (fun h => h ⟨h3a, h3b⟩), if_neg h4, if_pos h5]
            clear HSG h2
            rcases h5 with h5 | h5
            · rw [h5]
              go_enter Tryd.func14, Tryd.ntmps14
              go_wp2
              go_ret
              exact ⟨by rw [HC.out]; rfl, up0 _ _⟩
            · have h5z : ((l.length : Int) == 0) = false := by rw [beq_eq_false_iff_ne]; omega
              go_enter Tryd.func14, Tryd.ntmps14
              go_wp2
              go_ret
              exact ⟨by rw [HC.out]; rfl, up0 _ _⟩
          · have h5a : ¬ l.length = 0 := fun h => h5 (.inl h)
            have h5b : ¬ 128 < l.length := fun h => h5 (.inr h)
            have h5z : ((l.length : Int) == 0) = false := by rw [beq_eq_false_iff_ne]; omega
            have HC : Hid (chkM ⟨g, vv, x, t, l⟩ = if sgsOk x 0 l = true then 0 else 83) := by
              show _ = _
              unfold chkM
              rw [if_neg (fun h => h ⟨h1a, h1b⟩), if_neg h2, if_neg (fun h => h ⟨h3a, h3b⟩), if_neg h4, if_neg h5]
            obtain ⟨W, hW⟩ : ∃ W, W = w.alloc (.cells #[.int .i64 g, .int .i64 vv, .int .i64 x, .int .i64 t, .slice ao l.length cap] 24) := ⟨_, rfl⟩
            have HWE : Hid (W = w.alloc (.cells #[.int .i64 g, .int .i64 vv, .int .i64 x, .int .i64 t, .slice ao l.length cap] 24)) := hW
            have HMB : Hid (∀ w', Below W.heap.size W w' → w'.cell? ⟨w.heap.size, 0, none⟩ = some (.int .i64 g) ∧ w'.cell? ⟨w.heap.size, 1, none⟩ = some (.int .i64 vv) ∧ w'.cell? ⟨w.heap.size, 2, none⟩ = some (.int .i64 x) ∧ w'.cell? ⟨w.heap.size, 3, none⟩ = some (.int .i64 t) ∧ w'.cell? ⟨w.heap.size, 4, none⟩ = some (.slice ao l.length cap)) := fun w' hb => by
              have h9 : Mb W w.heap.size ⟨g, vv, x, t, []⟩ (.slice ao l.length cap) := by rw [hW]; exact mb_new w ⟨g, vv, x, t, []⟩ _ 24
              exact (h9.block (hb.block _ (by rw [hW, heap1]; omega))).cells
            have HBW : Hid (∀ w', Below W.heap.size W w' → Below w.heap.size w w') := fun w' hb => andThen (by rw [hW]; exact up0 w _) hb
            clear hW h2 h5
            go_enter Tryd.func14, Tryd.ntmps14
            go_wp2
            rw [← HWE.out]
            clear HWE
            go_loopw [3] (fun i wr => ∃ (k : Nat) (bef : Int), k ≤ l.length ∧ i = .int .i64 (k : Int) ∧ 0 ≤ bef ∧ ((k = 0 ∧ bef = 0) ∨ (0 < k ∧ ∃ q, l[k - 1]? = some q ∧ bef = q.n)) ∧ sgsOk x bef (l.drop k) = sgsOk x 0 l ∧ Below W.heap.size W wr) (fun i _ => l.length - (intOf i).toNat)
            case atStart => exact ⟨0, 0, Nat.zero_le _, rfl, by omega, .inl ⟨rfl, rfl⟩, rfl, Below.refl _ _⟩
            case round =>
              obtain ⟨k, bef, hk, rfl, hb0, hbf, hs, hbel⟩ := hrel
              obtain ⟨q0, q1, q2, q3, q4⟩ := HMB.out _ hbel
              by_cases hlt : k < l.length
              · obtain ⟨s, hsk⟩ : ∃ s, l[k]? = some s := ⟨l[k], List.getElem?_eq_getElem hlt⟩
                have HD : Hid (l.drop k = s :: l.drop (k + 1)) := by
                  show _ = _
                  rw [List.drop_eq_getElem_cons hlt]
                  congr 1
                  rw [List.getElem?_eq_getElem hlt] at hsk
                  exact Option.some.inj hsk
                have HEM : Hid ((l.drop (k + 1)).isEmpty = decide (k + 1 = l.length)) := by
                  show _ = _
                  by_cases e : k + 1 = l.length
                  · rw [List.drop_eq_nil_of_le (by omega), decide_eq_true e]; rfl
                  · rw [decide_eq_false e]
                    cases hd : l.drop (k + 1) with
                    | nil =>
                      have := congrArg List.length hd
                      rw [List.length_drop, List.length_nil] at this
                      omega
                    | cons x y => rfl
                have HEQ : Hid (sgsOk x 0 l = (sgOk x bef (decide (k + 1 = l.length)) s && sgsOk x s.n (l.drop (k + 1)))) := by
                  show _ = _
                  rw [← hs, HD.out, sgsOk, HEM.out]
                have HCA : Hid (Calls Tryd.prog 32 #[.agg #[.int .i64 g, .int .i64 vv, .int .i64 x, .int .i64 t, .slice ao l.length cap], .int .i64 (k : Int)] wr fun e w'' => e = .returned (.bool (sgOk x bef (decide (k + 1 = l.length)) s)) ∧ Below wr.heap.size wr w'') := HSG.out wr k s bef (HBW.out _ hbel) hsk hb0 hbf (by omega)
                cases hV : sgOk x bef (decide (k + 1 = l.length)) s with
                | true =>
                  rw [hV] at HCA HEQ
                  have hsn : bef < s.n := by
                    unfold sgOk at hV
                    simp only [Bool.and_eq_true, decide_eq_true_eq] at hV
                    exact hV.1
                  have HR : Hid (0 ≤ s.n ∧ (0 < k + 1 ∧ ∃ q, l[k + 1 - 1]? = some q ∧ s.n = q.n) ∧ sgsOk x s.n (l.drop (k + 1)) = sgsOk x 0 l) := ⟨by omega, ⟨by omega, s, by simpa using hsk, rfl⟩, by rw [HEQ.out, Bool.true_and]⟩
                  clear hV hsn hsk hs hbf HD HEM HEQ
                  go_wp2_with fail
                  refine HCA.out.mono ?_
                  rintro e w1 ⟨rfl, b1⟩
                  have B1 := andThen hbel b1
                  clear b1 q0 q1 q2 q3 q4 HCA
                  go_wp2
                  go_roundw
                  case rel => exact ⟨k + 1, s.n, by omega, by go_num, HR.out.1, .inr HR.out.2.1, HR.out.2.2, B1⟩
                  case measure => simp [intOf]; omega
                | false =>
                  rw [hV] at HCA HEQ
                  have HF : Hid (chkM ⟨g, vv, x, t, l⟩ = 83) := by
                    show _ = _
                    rw [HC.out, HEQ.out, Bool.false_and]
                    rfl
                  clear hV hsk hs hbf HD HEM HEQ HC
                  go_wp2_with fail
                  refine HCA.out.mono ?_
                  rintro e w1 ⟨rfl, b1⟩
                  have B1 := HBW.out _ (andThen hbel b1)
                  clear b1 q0 q1 q2 q3 q4 HCA hbel
                  go_wp2
                  go_ret
                  exact ⟨by rw [HF.out]; rfl, B1⟩
              · obtain rfl : k = l.length := by omega
                rw [List.drop_length] at hs
                have HF : Hid (chkM ⟨g, vv, x, t, l⟩ = 0) := by
                  show _ = _
                  rw [HC.out, ← hs]
                  rfl
                have B1 := HBW.out _ hbel
                clear hs hbf HC hbel
                go_wp2
                go_ret
                exact ⟨by rw [HF.out]; rfl, B1⟩
      · have HC : Hid (chkM ⟨g, vv, x, t, l⟩ = 81) := by
          show _ = _
          unfold chkM
          rw [if_neg (fun h => h ⟨h1a, h1b⟩), if_neg h2, if_pos h3]
        clear HSG h2
        by_cases h3a : x < 1
        · clear h3
          go_enter Tryd.func14, Tryd.ntmps14
          go_wp2
          go_ret
          exact ⟨by rw [HC.out]; rfl, up0 _ _⟩
        · have h3b : 1099511627776 < x := by omega
          clear h3
          go_enter Tryd.func14, Tryd.ntmps14
          go_wp2
          go_ret
          exact ⟨by rw [HC.out]; rfl, up0 _ _⟩
  · have HC : Hid (chkM ⟨g, vv, x, t, l⟩ = 80) := by
      show _ = _
      unfold chkM
      rw [if_pos h1]
    clear HSG
    by_cases h1a : g < 1
    · clear h1
      go_enter Tryd.func14, Tryd.ntmps14
      go_wp2
      go_ret
      exact ⟨by rw [HC.out]; rfl, up0 _ _⟩
    · have h1b : 1099511627776 < g := by omega
      clear h1
      go_enter Tryd.func14, Tryd.ntmps14
      go_wp2
      go_ret
      exact ⟨by rw [HC.out]; rfl, up0 _ _⟩
end Go.Proofs.YtfccimacloagiaaDoor
