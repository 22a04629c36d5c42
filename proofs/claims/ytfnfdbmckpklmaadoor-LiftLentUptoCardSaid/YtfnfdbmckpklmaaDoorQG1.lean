import Derived.Deep.RegionHeld
import Derived.Test.YtfnfdbmckpklmaaDoorQR3
/-
  Package record: Same.
-/
namespace Go.Proofs.YtfnfdbmckpklmaaDoor
open Go Go.RowKit
open Wb

theorem bequal_any (va vb : Value) (a b : List Nat) (w : World) (ha : Bs w va a) (hb : Bs w vb b) :
    Calls Tryd.prog 51 #[va, vb] w fun e w' => e = .returned (.bool (decide (a = b))) ∧ w' = w := by
  have h1 := conv_bs ha
  have h2 := conv_bs hb
  have HE : Hid (((bstr a).toList == (bstr b).toList) = decide (a = b)) := bstr_inj ha.good hb.good
  obtain ⟨ao, ca, rfl, _⟩ := ha.shape
  obtain ⟨ab, cb, rfl, _⟩ := hb.shape
  clear ha hb
  go_enter Tryd.func51, Tryd.ntmps51
  go_wp2
  go_ret
  rw [← HE.out]
  exact ⟨rfl, rfl⟩
set_option maxRecDepth 100000 in
theorem apart_gen (v0 v1 v2 v3 v4 v5 v6 v7 v8 v9 : Int) (nm : ByteArray) (ao : Option Addr) (n cap : Nat) (w : World) :
    Calls Tryd.prog 37 #[.agg #[.int .i64 v0, .int .i64 v1, .int .i64 v2, .int .i64 v3, .int .i64 v4, .int .i64 v5, .int .i64 v6, .int .i64 v7, .int .i64 v8, .int .i64 v9, .string nm, .slice ao n cap]] w fun e w' => e = .returned (.agg #[.int .i64 0, .int .i64 v1, .int .i64 v2, .int .i64 v3, .int .i64 v4, .int .i64 v5, .int .i64 v6, .int .i64 v7, .int .i64 v8, .int .i64 v9, .string nm, .slice ao n cap]) ∧ w' = (w.alloc (.cells #[.int .i64 v0, .int .i64 v1, .int .i64 v2, .int .i64 v3, .int .i64 v4, .int .i64 v5, .int .i64 v6, .int .i64 v7, .int .i64 v8, .int .i64 v9, .string nm, .slice ao n cap] 24)).alloc (.cells #[.int .i64 0, .int .i64 v1, .int .i64 v2, .int .i64 v3, .int .i64 v4, .int .i64 v5, .int .i64 v6, .int .i64 v7, .int .i64 v8, .int .i64 v9, .string nm, .slice ao n cap] 71) := by
  go_enter Tryd.func37, Tryd.ntmps37
  go_wp2
  go_returns
  exact ⟨rfl, rfl⟩
theorem infoI : ∃ i, Tryd.prog.info? 3 = some i ∧ i.size = 1 := by
  have h : (Tryd.prog.info? 3).map (·.size) = some 1 := by kernel_rfl
  cases hq : Tryd.prog.info? 3 with
  | none => rw [hq] at h; simp at h
  | some i => rw [hq] at h; exact ⟨i, rfl, by simpa using h⟩
set_option maxRecDepth 100000 in
set_option maxHeartbeats 400000 in
/-- two arrays of ten numbers -/
theorem eq10 (a1 a2 a3 a4 a5 a6 a7 a8 a9 b1 b2 b3 b4 b5 b6 b7 b8 b9 : Int) (w : World) :
    (Op.equalIn 10000 69 (.agg #[.int .i64 0, .int .i64 a1, .int .i64 a2, .int .i64 a3, .int .i64 a4, .int .i64 a5, .int .i64 a6, .int .i64 a7, .int .i64 a8, .int .i64 a9]) (.agg #[.int .i64 0, .int .i64 b1, .int .i64 b2, .int .i64 b3, .int .i64 b4, .int .i64 b5, .int .i64 b6, .int .i64 b7, .int .i64 b8, .int .i64 b9])).run Tryd.prog w = .ok (decide (a1 = b1 ∧ a2 = b2 ∧ a3 = b3 ∧ a4 = b4 ∧ a5 = b5 ∧ a6 = b6 ∧ a7 = b7 ∧ a8 = b8 ∧ a9 = b9)) w := by
  obtain ⟨i, hi, hs⟩ := infoI
  have hagg : ∀ w', (isAgg 3).run Tryd.prog w' = .ok false w' := fun w' => by
    unfold isAgg
    rw [Sem.run_bind, run_underlying Tryd.underlying3 w']
    rfl
  have hel : ∀ a b w', (Op.equalIn 9999 3 (.int .i64 a) (.int .i64 b)).run Tryd.prog w' = .ok (a == b) w' := fun a b w' => run_equalIn_int w' 9998 3 .i64 .i64 a b Tryd.underlying3
  unfold Op.equalIn
  simp [run_underlying Tryd.underlying69, sizeOf, typeInfo, hi, hs, part, hagg, Std.Legacy.Range.forIn_eq_forIn_range', List.range', hel, go_sem]
  repeat' split
  all_goals simp_all

set_option maxRecDepth 100000 in
set_option maxHeartbeats 40000000 in
theorem rsame_any (x y : Nums) (nm nm2 : ByteArray) (d d2 : Value) (l l2 : List Nat) (w : World) (h : Bs w d l) (h2 : Bs w d2 l2) :
    Calls Tryd.prog 18 #[rv x nm d, rv y nm2 d2] w fun e w' => e = .returned (.bool (recEq x y nm nm2 l l2)) ∧ Below w.heap.size w w' := by
  have HB : Hid (∀ w', Below w.heap.size w w' → Bs w' d l) := fun w' hb => h.kept hb
  have HB2 : Hid (∀ w', Below w.heap.size w w' → Bs w' d2 l2) := fun w' hb => h2.kept hb
  obtain ⟨ao, cap, rfl, _⟩ := h.shape
  obtain ⟨ao2, cap2, rfl, _⟩ := h2.shape
  have HX1 : Hid (∀ o1 o2, (((w.alloc o1).alloc o2).heap[w.heap.size]? = some o1) ∧ (((w.alloc o1).alloc o2).heap[w.heap.size + 1]? = some o2) ∧ ((w.alloc o1).alloc o2).heap.size = w.heap.size + 2 ∧ Below w.heap.size w ((w.alloc o1).alloc o2)) := fun o1 o2 => ⟨(heap2 w o1 o2).1, (heap2 w o1 o2).2.1, by show ((w.heap.push o1).push o2).size = _; rw [Array.size_push, Array.size_push], (heap2 w o1 o2).2.2⟩
  clear h h2
  unfold rv
  go_enter Tryd.func18, Tryd.ntmps18
  go_wp2_with fail
  have hx := HX1.out (.cells #[.int .i64 x.v, .int .i64 x.k, .int .i64 x.s, .int .i64 x.p, .int .i64 x.t, .int .i64 x.a, .int .i64 x.l, .int .i64 x.c, .int .i64 x.n, .int .i64 x.i, .string nm, .slice ao l.length cap] 24) (.cells #[.int .i64 y.v, .int .i64 y.k, .int .i64 y.s, .int .i64 y.p, .int .i64 y.t, .int .i64 y.a, .int .i64 y.l, .int .i64 y.c, .int .i64 y.n, .int .i64 y.i, .string nm2, .slice ao2 l2.length cap2] 24)
  generalize hW0 : (w.alloc _).alloc _ = W0
  rw [hW0] at hx
  obtain ⟨hx1, hx2, hsz, hbw⟩ := hx
  have HKEEP : Hid (∀ w', Below W0.heap.size W0 w' → Box w' w.heap.size x nm (.slice ao l.length cap) ∧ Box w' (w.heap.size + 1) y nm2 (.slice ao2 l2.length cap2)) := fun w' hb => ⟨Box.kept hx1 hb, Box.kept hx2 hb⟩
  have HBW : Hid (Below w.heap.size w W0) := hbw
  clear hx1 hx2 hbw hW0 HX1
  go_region_held (fun w' => (w'.cell? ⟨w.heap.size, 0, none⟩ = some (.int .i64 x.v) ∧ w'.cell? ⟨w.heap.size, 1, none⟩ = some (.int .i64 x.k) ∧ w'.cell? ⟨w.heap.size, 2, none⟩ = some (.int .i64 x.s) ∧ w'.cell? ⟨w.heap.size, 3, none⟩ = some (.int .i64 x.p) ∧ w'.cell? ⟨w.heap.size, 4, none⟩ = some (.int .i64 x.t) ∧ w'.cell? ⟨w.heap.size, 5, none⟩ = some (.int .i64 x.a) ∧ w'.cell? ⟨w.heap.size, 6, none⟩ = some (.int .i64 x.l) ∧ w'.cell? ⟨w.heap.size, 7, none⟩ = some (.int .i64 x.c) ∧ w'.cell? ⟨w.heap.size, 8, none⟩ = some (.int .i64 x.n) ∧ w'.cell? ⟨w.heap.size, 9, none⟩ = some (.int .i64 x.i) ∧ w'.cell? ⟨w.heap.size, 10, none⟩ = some (.string nm) ∧ w'.cell? ⟨w.heap.size, 11, none⟩ = some (.slice ao l.length cap)) ∧ (w'.cell? ⟨w.heap.size + 1, 0, none⟩ = some (.int .i64 y.v) ∧ w'.cell? ⟨w.heap.size + 1, 1, none⟩ = some (.int .i64 y.k) ∧ w'.cell? ⟨w.heap.size + 1, 2, none⟩ = some (.int .i64 y.s) ∧ w'.cell? ⟨w.heap.size + 1, 3, none⟩ = some (.int .i64 y.p) ∧ w'.cell? ⟨w.heap.size + 1, 4, none⟩ = some (.int .i64 y.t) ∧ w'.cell? ⟨w.heap.size + 1, 5, none⟩ = some (.int .i64 y.a) ∧ w'.cell? ⟨w.heap.size + 1, 6, none⟩ = some (.int .i64 y.l) ∧ w'.cell? ⟨w.heap.size + 1, 7, none⟩ = some (.int .i64 y.c) ∧ w'.cell? ⟨w.heap.size + 1, 8, none⟩ = some (.int .i64 y.n) ∧ w'.cell? ⟨w.heap.size + 1, 9, none⟩ = some (.int .i64 y.i) ∧ w'.cell? ⟨w.heap.size + 1, 10, none⟩ = some (.string nm2) ∧ w'.cell? ⟨w.heap.size + 1, 11, none⟩ = some (.slice ao2 l2.length cap2))) (exact ⟨(HKEEP.out _ (by repeat (first | exact Below.refl _ _ | assumption | refine Below.drew ?_ | refine up ?_ _ | refine Below.setCell ?_ (by go_size) _))).1.cells, (HKEEP.out _ (by repeat (first | exact Below.refl _ _ | assumption | refine Below.drew ?_ | refine up ?_ _ | refine Below.setCell ?_ (by go_size) _))).2.cells⟩) (first
    | (go_at_call 37; refine (apart_gen _ _ _ _ _ _ _ _ _ _ _ _ _ _ _).mono ?_; rintro e w5 ⟨rfl, rfl⟩))
  all_goals
    have HQ : Hid (∀ w', (Op.equalIn 10000 69 (.agg #[.int .i64 0, .int .i64 x.k, .int .i64 x.s, .int .i64 x.p, .int .i64 x.t, .int .i64 x.a, .int .i64 x.l, .int .i64 x.c, .int .i64 x.n, .int .i64 x.i]) (.agg #[.int .i64 0, .int .i64 y.k, .int .i64 y.s, .int .i64 y.p, .int .i64 y.t, .int .i64 y.a, .int .i64 y.l, .int .i64 y.c, .int .i64 y.n, .int .i64 y.i])).run Tryd.prog w' = .ok (decide (x.k = y.k ∧ x.s = y.s ∧ x.p = y.p ∧ x.t = y.t ∧ x.a = y.a ∧ x.l = y.l ∧ x.c = y.c ∧ x.n = y.n ∧ x.i = y.i)) w') := fun w' => eq10 _ _ _ _ _ _ _ _ _ _ _ _ _ _ _ _ _ _ w'
    have HQE : Hid (x.v = y.v → decide (x.k = y.k ∧ x.s = y.s ∧ x.p = y.p ∧ x.t = y.t ∧ x.a = y.a ∧ x.l = y.l ∧ x.c = y.c ∧ x.n = y.n ∧ x.i = y.i) = true → x = y) := fun hv h => by
      rw [decide_eq_true_eq] at h
      cases x
      cases y
      simp_all
    have HQN : Hid (decide (x.k = y.k ∧ x.s = y.s ∧ x.p = y.p ∧ x.t = y.t ∧ x.a = y.a ∧ x.l = y.l ∧ x.c = y.c ∧ x.n = y.n ∧ x.i = y.i) = false → x ≠ y) := fun h e => by
      rw [decide_eq_false_iff_not] at h
      exact h (by rw [e]; exact ⟨rfl, rfl, rfl, rfl, rfl, rfl, rfl, rfl, rfl⟩)
    generalize decide (x.k = y.k ∧ x.s = y.s ∧ x.p = y.p ∧ x.t = y.t ∧ x.a = y.a ∧ x.l = y.l ∧ x.c = y.c ∧ x.n = y.n ∧ x.i = y.i) = c at *
    by_cases hv : x.v = y.v
    · have tv : (x.v == y.v) = true := by rw [hv]; exact beq_self_eq_true _
      cases c with
      | true =>
        have HXY : Hid (x = y) := HQE.out hv rfl
        have hq := HQ.out
        cases hn : (nm.toList == nm2.toList) with
        | true =>
          have HR2 : Hid (recEq x y nm nm2 l l2 = decide (l = l2)) := by show _ = _; unfold recEq; rw [decide_eq_true HXY.out, hn, Bool.true_and, Bool.true_and]
          clear hv HXY HQE HQN HKEEP HQ
          go_wp2_with fail
          refine (bequal_any _ _ l l2 _ (HB.out _ (by repeat (first | exact HBW.out | refine Below.drew ?_ | refine up ?_ _ | refine Below.setCell ?_ (by go_size) _))) (HB2.out _ (by repeat (first | exact HBW.out | refine Below.drew ?_ | refine up ?_ _ | refine Below.setCell ?_ (by go_size) _)))).mono ?_
          rintro e w6 ⟨rfl, rfl⟩
          go_wp2
          go_ret
          exact ⟨by rw [HR2.out]; rfl, by repeat (first | exact HBW.out | refine Below.drew ?_ | refine up ?_ _ | refine Below.setCell ?_ (by go_size) _)⟩
        | false =>
          have HR2 : Hid (recEq x y nm nm2 l l2 = false) := by show _ = _; unfold recEq; rw [hn, Bool.and_false, Bool.false_and]
          clear hv HXY HQE HQN HKEEP HQ
          go_wp2
          go_ret
          exact ⟨by rw [HR2.out]; rfl, by repeat (first | exact HBW.out | refine Below.drew ?_ | refine up ?_ _ | refine Below.setCell ?_ (by go_size) _)⟩
      | false =>
        have HR2 : Hid (recEq x y nm nm2 l l2 = false) := by show _ = _; unfold recEq; rw [decide_eq_false (HQN.out rfl), Bool.false_and, Bool.false_and]
        have hq := HQ.out
        clear hv HQE HQN HKEEP HQ
        go_wp2
        go_ret
        exact ⟨by rw [HR2.out]; rfl, by repeat (first | exact HBW.out | refine Below.drew ?_ | refine up ?_ _ | refine Below.setCell ?_ (by go_size) _)⟩
    · have tv : (x.v == y.v) = false := by rw [beq_eq_false_iff_ne]; exact hv
      have HR2 : Hid (recEq x y nm nm2 l l2 = false) := by show _ = _; unfold recEq; rw [decide_eq_false (fun e => hv (by rw [e])), Bool.false_and, Bool.false_and]
      clear hv HQE HQN HKEEP HQ
      go_wp2
      go_ret
      exact ⟨by rw [HR2.out]; rfl, by repeat (first | exact HBW.out | refine Below.drew ?_ | refine up ?_ _ | refine Below.setCell ?_ (by go_size) _)⟩
end Go.Proofs.YtfnfdbmckpklmaaDoor
