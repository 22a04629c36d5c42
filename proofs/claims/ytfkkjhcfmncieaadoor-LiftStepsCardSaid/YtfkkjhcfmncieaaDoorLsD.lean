/-
  LiftSteps: the law's walk.
-/
import Derived.Test.YtfkkjhcfmncieaaDoorLsC
namespace Go.Proofs.YtfkkjhcfmncieaaDoor
open Go Go.RowKit

/-- a slice that holds these texts -/
def SlT (w : World) (v : Value) (l : List ByteArray) : Prop := ∃ ao cap, v = .slice ao l.length cap ∧ ∀ j (hj : j < l.length), ∃ g, ao = some ⟨g, 0, none⟩ ∧ w.cell? ⟨g, j, none⟩ = some (.string l[j])
theorem RoT.sl {B : Nat} {w : World} {v : Value} {l : List ByteArray} (h : RoT B w v l) : SlT w v l := by
  obtain ⟨ao, cap, rfl⟩ := h.shape
  refine ⟨ao, cap, rfl, fun j hj => ?_⟩
  have h0 := h
  rcases h.2 with ⟨_, h1⟩ | ⟨g, cap', cur, he, hb, hg, h1, h2, h3, h4⟩
  · omega
  · cases he
    refine ⟨g, rfl, ?_⟩
    rw [World.ownsRow.cellAt h0 j (by omega)]
    simp [tc, hj]
theorem SlT.kept {w w' : World} {v : Value} {l : List ByteArray} (h : SlT w v l) (hb : Below w.heap.size w w') : SlT w' v l := by
  obtain ⟨ao, cap, rfl, hc⟩ := h
  refine ⟨ao, cap, rfl, fun j hj => ?_⟩
  obtain ⟨g, hg, h1⟩ := hc j hj
  exact ⟨g, hg, (hb.cell (p := ⟨g, j, none⟩) (World.block_lt_of_cell? _ _ h1)).trans h1⟩
theorem sl_two (w : World) (a b : ByteArray) (t : TypeId) : SlT (w.alloc (.cells #[.string a, .string b] t)) (.slice (some ⟨w.heap.size, 0, none⟩) 2 2) [a, b] := by
  refine ⟨_, 2, rfl, fun j hj => ⟨_, rfl, ?_⟩⟩
  rw [World.cell?_alloc_new]
  match j, hj with
  | 0, _ => rfl
  | 1, _ => rfl
theorem blwDrew {B : Nat} {a w : World} (h : Below B a w) (n : Nat) : Below B a (w.drewN n) := h.trans ⟨rfl, rfl, rfl, Nat.le_refl _, fun _ _ => rfl⟩
set_option maxHeartbeats 400000 in
theorem same_any (l : List ByteArray) (va vb : Value) (w : World) (ha : SlT w va l) (hb : SlT w vb l) (hl : l.length ≤ 1000) :
    Calls Tryd.prog 5 #[va, vb] w fun e w' => e = .returned (.bool true) ∧ ∃ n, w' = w.drewN n := by
  obtain ⟨ao, ca, rfl, hca⟩ := ha
  obtain ⟨bo, cb, rfl, hcb⟩ := hb
  go_enter Tryd.func5, Tryd.ntmps5
  go_wp2
  go_loopw [5] (fun i wr => ∃ k : Nat, k ≤ l.length ∧ i = .int .i64 (k : Int) ∧ ∃ n, wr = w.drewN n) (fun i _ => l.length - (intOf i).toNat)
  case atStart => exact ⟨0, Nat.zero_le _, rfl, 0, rfl⟩
  case round =>
    obtain ⟨k, hk, rfl, n, rfl⟩ := hrel
    by_cases hlt : k < l.length
    · obtain ⟨g1, rfl, q1⟩ := hca k hlt
      obtain ⟨g2, rfl, q2⟩ := hcb k hlt
      clear hca hcb
      generalize l[k] = x at *
      have d1 : (x.toList == x.toList) = true := beq_self_eq_true _
      go_wp2
      go_quiet (fail)
      go_wp2
      go_roundw
      case rel => exact ⟨k + 1, by omega, by go_num, _, rfl⟩
      case measure => simp [intOf]; omega
    · go_wp2
      go_ret
      exact ⟨rfl, n, rfl⟩
theorem go13 : (go 1 3 4).2 = [0, 1] := by decide +kernel
theorem go31 : (go 3 1 4).2 = [2, 3] := by decide +kernel
theorem SlT.two {w : World} {ao : Option Addr} {n cap : Nat} {x y : ByteArray} (h : SlT w (.slice ao n cap) [x, y]) : ∃ g, ao = some ⟨g, 0, none⟩ ∧ w.cell? ⟨g, 0, none⟩ = some (.string x) ∧ w.cell? ⟨g, 1, none⟩ = some (.string y) := by
  obtain ⟨ao', cap', e, hc⟩ := h
  cases e
  obtain ⟨g, rfl, h0⟩ := hc 0 (by simp)
  obtain ⟨g', e', h1⟩ := hc 1 (by simp)
  cases e'
  exact ⟨g, rfl, h0, h1⟩
theorem SlT.one {w : World} {ao : Option Addr} {n cap : Nat} {x : ByteArray} (h : SlT w (.slice ao n cap) [x]) : ∃ g, ao = some ⟨g, 0, none⟩ ∧ w.cell? ⟨g, 0, none⟩ = some (.string x) := by
  obtain ⟨ao', cap', e, hc⟩ := h
  cases e
  obtain ⟨g, rfl, h0⟩ := hc 0 (by simp)
  exact ⟨g, rfl, h0⟩
theorem st11 (w : World) (hT : WaysT w) : Calls Tryd.prog 4 #[.int .i64 1, .int .i64 1] w fun e w' => ∃ ao, ∃ cap : Nat, e = .returned (.slice ao 0 cap) ∧ SlT w' (.slice ao 0 cap) [] ∧ Below w.heap.size w w' := by
  have e : (go 1 1 4).2 = [] := by decide +kernel
  refine (steps_in 1 1 w hT (by decide) (by decide) (by decide) (by decide)).mono ?_
  rw [e]
  rintro x w' ⟨o, rfl, r, hb⟩
  obtain ⟨ao, cap, rfl⟩ := r.shape
  exact ⟨ao, cap, rfl, r.sl, hb⟩
theorem st12 (w : World) (hT : WaysT w) : Calls Tryd.prog 4 #[.int .i64 1, .int .i64 2] w fun e w' => ∃ ao, ∃ cap : Nat, e = .returned (.slice ao 1 cap) ∧ SlT w' (.slice ao 1 cap) [wN 0] ∧ Below w.heap.size w w' := by
  have e : (go 1 2 4).2 = [0] := by decide +kernel
  refine (steps_in 1 2 w hT (by decide) (by decide) (by decide) (by decide)).mono ?_
  rw [e]
  rintro x w' ⟨o, rfl, r, hb⟩
  obtain ⟨ao, cap, rfl⟩ := r.shape
  exact ⟨ao, cap, rfl, r.sl, hb⟩
theorem st13 (w : World) (hT : WaysT w) : Calls Tryd.prog 4 #[.int .i64 1, .int .i64 3] w fun e w' => ∃ ao, ∃ cap : Nat, e = .returned (.slice ao 2 cap) ∧ SlT w' (.slice ao 2 cap) [wN 0, wN 1] ∧ Below w.heap.size w w' := by
  have e : (go 1 3 4).2 = [0, 1] := by decide +kernel
  refine (steps_in 1 3 w hT (by decide) (by decide) (by decide) (by decide)).mono ?_
  rw [e]
  rintro x w' ⟨o, rfl, r, hb⟩
  obtain ⟨ao, cap, rfl⟩ := r.shape
  exact ⟨ao, cap, rfl, r.sl, hb⟩
theorem st21 (w : World) (hT : WaysT w) : Calls Tryd.prog 4 #[.int .i64 2, .int .i64 1] w fun e w' => ∃ ao, ∃ cap : Nat, e = .returned (.slice ao 1 cap) ∧ SlT w' (.slice ao 1 cap) [wN 3] ∧ Below w.heap.size w w' := by
  have e : (go 2 1 4).2 = [3] := by decide +kernel
  refine (steps_in 2 1 w hT (by decide) (by decide) (by decide) (by decide)).mono ?_
  rw [e]
  rintro x w' ⟨o, rfl, r, hb⟩
  obtain ⟨ao, cap, rfl⟩ := r.shape
  exact ⟨ao, cap, rfl, r.sl, hb⟩
theorem st22 (w : World) (hT : WaysT w) : Calls Tryd.prog 4 #[.int .i64 2, .int .i64 2] w fun e w' => ∃ ao, ∃ cap : Nat, e = .returned (.slice ao 0 cap) ∧ SlT w' (.slice ao 0 cap) [] ∧ Below w.heap.size w w' := by
  have e : (go 2 2 4).2 = [] := by decide +kernel
  refine (steps_in 2 2 w hT (by decide) (by decide) (by decide) (by decide)).mono ?_
  rw [e]
  rintro x w' ⟨o, rfl, r, hb⟩
  obtain ⟨ao, cap, rfl⟩ := r.shape
  exact ⟨ao, cap, rfl, r.sl, hb⟩
theorem st23 (w : World) (hT : WaysT w) : Calls Tryd.prog 4 #[.int .i64 2, .int .i64 3] w fun e w' => ∃ ao, ∃ cap : Nat, e = .returned (.slice ao 1 cap) ∧ SlT w' (.slice ao 1 cap) [wN 1] ∧ Below w.heap.size w w' := by
  have e : (go 2 3 4).2 = [1] := by decide +kernel
  refine (steps_in 2 3 w hT (by decide) (by decide) (by decide) (by decide)).mono ?_
  rw [e]
  rintro x w' ⟨o, rfl, r, hb⟩
  obtain ⟨ao, cap, rfl⟩ := r.shape
  exact ⟨ao, cap, rfl, r.sl, hb⟩
theorem st31 (w : World) (hT : WaysT w) : Calls Tryd.prog 4 #[.int .i64 3, .int .i64 1] w fun e w' => ∃ ao, ∃ cap : Nat, e = .returned (.slice ao 2 cap) ∧ SlT w' (.slice ao 2 cap) [wN 2, wN 3] ∧ Below w.heap.size w w' := by
  have e : (go 3 1 4).2 = [2, 3] := by decide +kernel
  refine (steps_in 3 1 w hT (by decide) (by decide) (by decide) (by decide)).mono ?_
  rw [e]
  rintro x w' ⟨o, rfl, r, hb⟩
  obtain ⟨ao, cap, rfl⟩ := r.shape
  exact ⟨ao, cap, rfl, r.sl, hb⟩
theorem st32 (w : World) (hT : WaysT w) : Calls Tryd.prog 4 #[.int .i64 3, .int .i64 2] w fun e w' => ∃ ao, ∃ cap : Nat, e = .returned (.slice ao 1 cap) ∧ SlT w' (.slice ao 1 cap) [wN 2] ∧ Below w.heap.size w w' := by
  have e : (go 3 2 4).2 = [2] := by decide +kernel
  refine (steps_in 3 2 w hT (by decide) (by decide) (by decide) (by decide)).mono ?_
  rw [e]
  rintro x w' ⟨o, rfl, r, hb⟩
  obtain ⟨ao, cap, rfl⟩ := r.shape
  exact ⟨ao, cap, rfl, r.sl, hb⟩
theorem st33 (w : World) (hT : WaysT w) : Calls Tryd.prog 4 #[.int .i64 3, .int .i64 3] w fun e w' => ∃ ao, ∃ cap : Nat, e = .returned (.slice ao 0 cap) ∧ SlT w' (.slice ao 0 cap) [] ∧ Below w.heap.size w w' := by
  have e : (go 3 3 4).2 = [] := by decide +kernel
  refine (steps_in 3 3 w hT (by decide) (by decide) (by decide) (by decide)).mono ?_
  rw [e]
  rintro x w' ⟨o, rfl, r, hb⟩
  obtain ⟨ao, cap, rfl⟩ := r.shape
  exact ⟨ao, cap, rfl, r.sl, hb⟩
set_option maxRecDepth 100000 in
set_option maxHeartbeats 4000000 in
theorem liftSteps_any (a b : Int) (w : World) (hT : WaysT w) :
    Calls Tryd.prog 3 #[.int .i64 a, .int .i64 b] w fun e w' => e = .returned (.bool true) ∧ Below w.heap.size w w' := by
  have HT : Hid (∀ w', Below w.heap.size w w' → WaysT w') := fun w' hb => hT.kept hb
  clear hT
  go_enter Tryd.func3, Tryd.ntmps3
  go_wp2_with fail
  refine (steps_in 1 3 _ (HT.out _ (Below.refl _ _)) (by decide) (by decide) (by decide) (by decide)).mono ?_
  rw [go13]
  rintro e w1 ⟨o1, rfl, r1, b1⟩
  obtain ⟨ao1, cap1, rfl⟩ := r1.shape
  have HS1 : Hid (SlT w1 (.slice ao1 2 cap1) [wN 0, wN 1]) := r1.sl
  clear r1
  go_wp2_with fail
  refine (steps_in 3 1 _ (HT.out _ b1) (by decide) (by decide) (by decide) (by decide)).mono ?_
  rw [go31]
  rintro e w2 ⟨o2, rfl, r2, b2⟩
  obtain ⟨ao2, cap2, rfl⟩ := r2.shape
  have HS2 : Hid (SlT w2 (.slice ao2 2 cap2) [wN 2, wN 3]) := r2.sl
  have HS1' : Hid (SlT w2 (.slice ao1 2 cap1) [wN 0, wN 1]) := HS1.out.kept b2
  have B2 := andThen b1 b2
  clear r2 b1 b2 HS1
  go_wp2_with fail
  refine (same_any [wN 0, wN 1] _ _ _ (HS1'.out.kept (up0 _ _)) (sl_two _ _ _ _) (by simp)).mono ?_
  rintro e w3 ⟨rfl, n3, hn3⟩
  have b3 : Below w2.heap.size w2 w3 := by rw [hn3]; exact blwDrew (up0 _ _) n3
  have HS1 : Hid (SlT w3 (.slice ao1 2 cap1) [wN 0, wN 1]) := HS1'.out.kept b3
  have HS2' : Hid (SlT w3 (.slice ao2 2 cap2) [wN 2, wN 3]) := HS2.out.kept b3
  have B3 := andThen B2 b3
  clear hn3 b3 HS1' HS2 B2
  go_wp2_with fail
  refine (same_any [wN 2, wN 3] _ _ _ (HS2'.out.kept (up0 _ _)) (sl_two _ _ _ _) (by simp)).mono ?_
  rintro e w4 ⟨rfl, n4, hn4⟩
  have b4 : Below w3.heap.size w3 w4 := by rw [hn4]; exact blwDrew (up0 _ _) n4
  have HS1' : Hid (SlT w4 (.slice ao1 2 cap1) [wN 0, wN 1]) := HS1.out.kept b4
  have HS2 : Hid (SlT w4 (.slice ao2 2 cap2) [wN 2, wN 3]) := HS2'.out.kept b4
  have B4 := andThen B3 b4
  clear hn4 b4 HS1 HS2' B3
  go_wp2_with fail
  by_cases hin : 1 ≤ a ∧ a ≤ 3 ∧ 1 ≤ b ∧ b ≤ 3
  · obtain ⟨h1, h2, h3, h4⟩ := hin
    obtain rfl | rfl | rfl : a = 1 ∨ a = 2 ∨ a = 3 := by omega
    · obtain rfl | rfl | rfl : b = 1 ∨ b = 2 ∨ b = 3 := by omega
      · clear h1 h2 h3 h4
        refine (st11 _ (HT.out _ B4)).mono ?_
        rintro e w5 ⟨ao5, cap5, rfl, s5, b5⟩
        obtain ⟨g1, rfl, u0, u1⟩ := (HS1'.out.kept b5).two
        obtain ⟨g2, rfl, d0, d1⟩ := (HS2.out.kept b5).two
        have B5 := andThen B4 b5
        clear s5 HS1' HS2 b5 B4 HT
        have x0 : ((wN 0).toList == (wN 0).toList) = true := beq_self_eq_true _
        have x1 : ((wN 1).toList == (wN 1).toList) = true := beq_self_eq_true _
        have x2 : ((wN 2).toList == (wN 2).toList) = true := beq_self_eq_true _
        have x3 : ((wN 3).toList == (wN 3).toList) = true := beq_self_eq_true _
        generalize wN 0 = s0 at *
        generalize wN 1 = s1 at *
        generalize wN 2 = s2 at *
        generalize wN 3 = s3 at *
        go_wp2
        go_loopw [9] (fun i wr => ∃ k : Nat, k ≤ 0 ∧ i = .int .i64 (k : Int) ∧ wr = w5) (fun i _ => 0 - (intOf i).toNat)
        case atStart => exact ⟨0, by omega, rfl, rfl⟩
        case round =>
          obtain ⟨k, hk, rfl, rfl⟩ := hrel
          obtain rfl : k = 0 := by omega
          go_wp2
          go_ret
          exact ⟨rfl, B5⟩
      · clear h1 h2 h3 h4
        refine (st12 _ (HT.out _ B4)).mono ?_
        rintro e w5 ⟨ao5, cap5, rfl, s5, b5⟩
        obtain ⟨g1, rfl, u0, u1⟩ := (HS1'.out.kept b5).two
        obtain ⟨g2, rfl, d0, d1⟩ := (HS2.out.kept b5).two
        have B5 := andThen B4 b5
        obtain ⟨g3, rfl, l0⟩ := s5.one
        clear s5 HS1' HS2 b5 B4 HT
        have x0 : ((wN 0).toList == (wN 0).toList) = true := beq_self_eq_true _
        have x1 : ((wN 1).toList == (wN 1).toList) = true := beq_self_eq_true _
        have x2 : ((wN 2).toList == (wN 2).toList) = true := beq_self_eq_true _
        have x3 : ((wN 3).toList == (wN 3).toList) = true := beq_self_eq_true _
        generalize wN 0 = s0 at *
        generalize wN 1 = s1 at *
        generalize wN 2 = s2 at *
        generalize wN 3 = s3 at *
        go_wp2
        go_loopw [9] (fun i wr => ∃ k : Nat, k ≤ 1 ∧ i = .int .i64 (k : Int) ∧ wr = w5) (fun i _ => 1 - (intOf i).toNat)
        case atStart => exact ⟨0, by omega, rfl, rfl⟩
        case round =>
          obtain ⟨k, hk, rfl, rfl⟩ := hrel
          by_cases q0 : k = 0
          · subst q0
            go_wp2
            go_roundw
            case rel => exact ⟨1, by omega, rfl, trivial⟩
            case measure => simp [intOf]
          obtain rfl : k = 1 := by omega
          go_wp2
          go_ret
          exact ⟨rfl, B5⟩
      · clear h1 h2 h3 h4
        refine (st13 _ (HT.out _ B4)).mono ?_
        rintro e w5 ⟨ao5, cap5, rfl, s5, b5⟩
        obtain ⟨g1, rfl, u0, u1⟩ := (HS1'.out.kept b5).two
        obtain ⟨g2, rfl, d0, d1⟩ := (HS2.out.kept b5).two
        have B5 := andThen B4 b5
        obtain ⟨g3, rfl, l0, l1⟩ := s5.two
        clear s5 HS1' HS2 b5 B4 HT
        have x0 : ((wN 0).toList == (wN 0).toList) = true := beq_self_eq_true _
        have x1 : ((wN 1).toList == (wN 1).toList) = true := beq_self_eq_true _
        have x2 : ((wN 2).toList == (wN 2).toList) = true := beq_self_eq_true _
        have x3 : ((wN 3).toList == (wN 3).toList) = true := beq_self_eq_true _
        generalize wN 0 = s0 at *
        generalize wN 1 = s1 at *
        generalize wN 2 = s2 at *
        generalize wN 3 = s3 at *
        go_wp2
        go_loopw [9] (fun i wr => ∃ k : Nat, k ≤ 2 ∧ i = .int .i64 (k : Int) ∧ wr = w5) (fun i _ => 2 - (intOf i).toNat)
        case atStart => exact ⟨0, by omega, rfl, rfl⟩
        case round =>
          obtain ⟨k, hk, rfl, rfl⟩ := hrel
          by_cases q0 : k = 0
          · subst q0
            go_wp2
            go_roundw
            case rel => exact ⟨1, by omega, rfl, trivial⟩
            case measure => simp [intOf]
          by_cases q1 : k = 1
          · subst q1
            go_wp2
            go_roundw
            case rel => exact ⟨2, by omega, rfl, trivial⟩
            case measure => simp [intOf]
          obtain rfl : k = 2 := by omega
          go_wp2
          go_ret
          exact ⟨rfl, B5⟩
    · obtain rfl | rfl | rfl : b = 1 ∨ b = 2 ∨ b = 3 := by omega
      · clear h1 h2 h3 h4
        refine (st21 _ (HT.out _ B4)).mono ?_
        rintro e w5 ⟨ao5, cap5, rfl, s5, b5⟩
        obtain ⟨g1, rfl, u0, u1⟩ := (HS1'.out.kept b5).two
        obtain ⟨g2, rfl, d0, d1⟩ := (HS2.out.kept b5).two
        have B5 := andThen B4 b5
        obtain ⟨g3, rfl, l0⟩ := s5.one
        clear s5 HS1' HS2 b5 B4 HT
        have x0 : ((wN 0).toList == (wN 0).toList) = true := beq_self_eq_true _
        have x1 : ((wN 1).toList == (wN 1).toList) = true := beq_self_eq_true _
        have x2 : ((wN 2).toList == (wN 2).toList) = true := beq_self_eq_true _
        have x3 : ((wN 3).toList == (wN 3).toList) = true := beq_self_eq_true _
        generalize wN 0 = s0 at *
        generalize wN 1 = s1 at *
        generalize wN 2 = s2 at *
        generalize wN 3 = s3 at *
        go_wp2
        go_loopw [9] (fun i wr => ∃ k : Nat, k ≤ 1 ∧ i = .int .i64 (k : Int) ∧ wr = w5) (fun i _ => 1 - (intOf i).toNat)
        case atStart => exact ⟨0, by omega, rfl, rfl⟩
        case round =>
          obtain ⟨k, hk, rfl, rfl⟩ := hrel
          by_cases q0 : k = 0
          · subst q0
            go_wp2
            go_roundw
            case rel => exact ⟨1, by omega, rfl, trivial⟩
            case measure => simp [intOf]
          obtain rfl : k = 1 := by omega
          go_wp2
          go_ret
          exact ⟨rfl, B5⟩
      · clear h1 h2 h3 h4
        refine (st22 _ (HT.out _ B4)).mono ?_
        rintro e w5 ⟨ao5, cap5, rfl, s5, b5⟩
        obtain ⟨g1, rfl, u0, u1⟩ := (HS1'.out.kept b5).two
        obtain ⟨g2, rfl, d0, d1⟩ := (HS2.out.kept b5).two
        have B5 := andThen B4 b5
        clear s5 HS1' HS2 b5 B4 HT
        have x0 : ((wN 0).toList == (wN 0).toList) = true := beq_self_eq_true _
        have x1 : ((wN 1).toList == (wN 1).toList) = true := beq_self_eq_true _
        have x2 : ((wN 2).toList == (wN 2).toList) = true := beq_self_eq_true _
        have x3 : ((wN 3).toList == (wN 3).toList) = true := beq_self_eq_true _
        generalize wN 0 = s0 at *
        generalize wN 1 = s1 at *
        generalize wN 2 = s2 at *
        generalize wN 3 = s3 at *
        go_wp2
        go_loopw [9] (fun i wr => ∃ k : Nat, k ≤ 0 ∧ i = .int .i64 (k : Int) ∧ wr = w5) (fun i _ => 0 - (intOf i).toNat)
        case atStart => exact ⟨0, by omega, rfl, rfl⟩
        case round =>
          obtain ⟨k, hk, rfl, rfl⟩ := hrel
          obtain rfl : k = 0 := by omega
          go_wp2
          go_ret
          exact ⟨rfl, B5⟩
      · clear h1 h2 h3 h4
        refine (st23 _ (HT.out _ B4)).mono ?_
        rintro e w5 ⟨ao5, cap5, rfl, s5, b5⟩
        obtain ⟨g1, rfl, u0, u1⟩ := (HS1'.out.kept b5).two
        obtain ⟨g2, rfl, d0, d1⟩ := (HS2.out.kept b5).two
        have B5 := andThen B4 b5
        obtain ⟨g3, rfl, l0⟩ := s5.one
        clear s5 HS1' HS2 b5 B4 HT
        have x0 : ((wN 0).toList == (wN 0).toList) = true := beq_self_eq_true _
        have x1 : ((wN 1).toList == (wN 1).toList) = true := beq_self_eq_true _
        have x2 : ((wN 2).toList == (wN 2).toList) = true := beq_self_eq_true _
        have x3 : ((wN 3).toList == (wN 3).toList) = true := beq_self_eq_true _
        generalize wN 0 = s0 at *
        generalize wN 1 = s1 at *
        generalize wN 2 = s2 at *
        generalize wN 3 = s3 at *
        go_wp2
        go_loopw [9] (fun i wr => ∃ k : Nat, k ≤ 1 ∧ i = .int .i64 (k : Int) ∧ wr = w5) (fun i _ => 1 - (intOf i).toNat)
        case atStart => exact ⟨0, by omega, rfl, rfl⟩
        case round =>
          obtain ⟨k, hk, rfl, rfl⟩ := hrel
          by_cases q0 : k = 0
          · subst q0
            go_wp2
            go_roundw
            case rel => exact ⟨1, by omega, rfl, trivial⟩
            case measure => simp [intOf]
          obtain rfl : k = 1 := by omega
          go_wp2
          go_ret
          exact ⟨rfl, B5⟩
    · obtain rfl | rfl | rfl : b = 1 ∨ b = 2 ∨ b = 3 := by omega
      · clear h1 h2 h3 h4
        refine (st31 _ (HT.out _ B4)).mono ?_
        rintro e w5 ⟨ao5, cap5, rfl, s5, b5⟩
        obtain ⟨g1, rfl, u0, u1⟩ := (HS1'.out.kept b5).two
        obtain ⟨g2, rfl, d0, d1⟩ := (HS2.out.kept b5).two
        have B5 := andThen B4 b5
        obtain ⟨g3, rfl, l0, l1⟩ := s5.two
        clear s5 HS1' HS2 b5 B4 HT
        have x0 : ((wN 0).toList == (wN 0).toList) = true := beq_self_eq_true _
        have x1 : ((wN 1).toList == (wN 1).toList) = true := beq_self_eq_true _
        have x2 : ((wN 2).toList == (wN 2).toList) = true := beq_self_eq_true _
        have x3 : ((wN 3).toList == (wN 3).toList) = true := beq_self_eq_true _
        generalize wN 0 = s0 at *
        generalize wN 1 = s1 at *
        generalize wN 2 = s2 at *
        generalize wN 3 = s3 at *
        go_wp2
        go_loopw [9] (fun i wr => ∃ k : Nat, k ≤ 2 ∧ i = .int .i64 (k : Int) ∧ wr = w5) (fun i _ => 2 - (intOf i).toNat)
        case atStart => exact ⟨0, by omega, rfl, rfl⟩
        case round =>
          obtain ⟨k, hk, rfl, rfl⟩ := hrel
          by_cases q0 : k = 0
          · subst q0
            go_wp2
            go_roundw
            case rel => exact ⟨1, by omega, rfl, trivial⟩
            case measure => simp [intOf]
          by_cases q1 : k = 1
          · subst q1
            go_wp2
            go_roundw
            case rel => exact ⟨2, by omega, rfl, trivial⟩
            case measure => simp [intOf]
          obtain rfl : k = 2 := by omega
          go_wp2
          go_ret
          exact ⟨rfl, B5⟩
      · clear h1 h2 h3 h4
        refine (st32 _ (HT.out _ B4)).mono ?_
        rintro e w5 ⟨ao5, cap5, rfl, s5, b5⟩
        obtain ⟨g1, rfl, u0, u1⟩ := (HS1'.out.kept b5).two
        obtain ⟨g2, rfl, d0, d1⟩ := (HS2.out.kept b5).two
        have B5 := andThen B4 b5
        obtain ⟨g3, rfl, l0⟩ := s5.one
        clear s5 HS1' HS2 b5 B4 HT
        have x0 : ((wN 0).toList == (wN 0).toList) = true := beq_self_eq_true _
        have x1 : ((wN 1).toList == (wN 1).toList) = true := beq_self_eq_true _
        have x2 : ((wN 2).toList == (wN 2).toList) = true := beq_self_eq_true _
        have x3 : ((wN 3).toList == (wN 3).toList) = true := beq_self_eq_true _
        generalize wN 0 = s0 at *
        generalize wN 1 = s1 at *
        generalize wN 2 = s2 at *
        generalize wN 3 = s3 at *
        go_wp2
        go_loopw [9] (fun i wr => ∃ k : Nat, k ≤ 1 ∧ i = .int .i64 (k : Int) ∧ wr = w5) (fun i _ => 1 - (intOf i).toNat)
        case atStart => exact ⟨0, by omega, rfl, rfl⟩
        case round =>
          obtain ⟨k, hk, rfl, rfl⟩ := hrel
          by_cases q0 : k = 0
          · subst q0
            go_wp2
            go_roundw
            case rel => exact ⟨1, by omega, rfl, trivial⟩
            case measure => simp [intOf]
          obtain rfl : k = 1 := by omega
          go_wp2
          go_ret
          exact ⟨rfl, B5⟩
      · clear h1 h2 h3 h4
        refine (st33 _ (HT.out _ B4)).mono ?_
        rintro e w5 ⟨ao5, cap5, rfl, s5, b5⟩
        obtain ⟨g1, rfl, u0, u1⟩ := (HS1'.out.kept b5).two
        obtain ⟨g2, rfl, d0, d1⟩ := (HS2.out.kept b5).two
        have B5 := andThen B4 b5
        clear s5 HS1' HS2 b5 B4 HT
        have x0 : ((wN 0).toList == (wN 0).toList) = true := beq_self_eq_true _
        have x1 : ((wN 1).toList == (wN 1).toList) = true := beq_self_eq_true _
        have x2 : ((wN 2).toList == (wN 2).toList) = true := beq_self_eq_true _
        have x3 : ((wN 3).toList == (wN 3).toList) = true := beq_self_eq_true _
        generalize wN 0 = s0 at *
        generalize wN 1 = s1 at *
        generalize wN 2 = s2 at *
        generalize wN 3 = s3 at *
        go_wp2
        go_loopw [9] (fun i wr => ∃ k : Nat, k ≤ 0 ∧ i = .int .i64 (k : Int) ∧ wr = w5) (fun i _ => 0 - (intOf i).toNat)
        case atStart => exact ⟨0, by omega, rfl, rfl⟩
        case round =>
          obtain ⟨k, hk, rfl, rfl⟩ := hrel
          obtain rfl : k = 0 := by omega
          go_wp2
          go_ret
          exact ⟨rfl, B5⟩
  · refine (steps_out a b _ hin).mono ?_
    rintro e w5 ⟨rfl, rfl⟩
    by_cases h1 : a < 1
    · clear hin
      go_wp2
      go_ret
      exact ⟨rfl, B4⟩
    · by_cases h2 : a > 3
      · clear hin
        go_wp2
        go_ret
        exact ⟨rfl, B4⟩
      · by_cases h3 : b < 1
        · clear hin
          go_wp2
          go_ret
          exact ⟨rfl, B4⟩
        · have h4 : b > 3 := by omega
          clear hin
          go_wp2
          go_ret
          exact ⟨rfl, B4⟩
end Go.Proofs.YtfkkjhcfmncieaaDoor
