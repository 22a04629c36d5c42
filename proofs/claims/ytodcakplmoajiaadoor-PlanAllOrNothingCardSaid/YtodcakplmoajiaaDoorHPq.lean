/-
  PlanAllOrNothing: ordered.
-/
import Derived.Test.YtodcakplmoajiaaDoorHPn
namespace Go.Proofs.YtodcakplmoajiaaDoor
open Go Go.RowKit
open Wb

/-- 0, 1, .. -/
def ups (m : Nat) : List Int := (List.range m).map (fun i : Nat => (i : Int))
/-- m - 1, m - 2, .. 0 -/
def dws (m : Nat) : List Int := (List.range m).map (fun i : Nat => ((m - 1 - i : Nat) : Int))
theorem ups_len (m : Nat) : (ups m).length = m := by simp [ups]
theorem dws_len (m : Nat) : (dws m).length = m := by simp [dws]
theorem ups_cell {B : Nat} {w : World} {ao : Option Addr} {n cap m : Nat} (h : Fld.RoI B w (.slice ao n cap) (ups m)) (k : Nat) (hk : k < m) : ∃ g, ao = some ⟨g, 0, none⟩ ∧ w.cell? ⟨g, k, none⟩ = some (.int .i64 (k : Int)) := by
  obtain ⟨g, e, c⟩ := h.cell k (by rw [ups_len]; exact hk)
  refine ⟨g, e, ?_⟩
  rw [c]
  simp [ups]
theorem dws_cell {B : Nat} {w : World} {ao : Option Addr} {n cap m : Nat} (h : Fld.RoI B w (.slice ao n cap) (dws m)) (k : Nat) (hk : k < m) : ∃ g, ao = some ⟨g, 0, none⟩ ∧ w.cell? ⟨g, k, none⟩ = some (.int .i64 ((m : Int) - 1 - (k : Int))) := by
  obtain ⟨g, e, c⟩ := h.cell k (by rw [dws_len]; exact hk)
  refine ⟨g, e, ?_⟩
  rw [c]
  have e2 : ((m - 1 - k : Nat) : Int) = (m : Int) - 1 - (k : Int) := by omega
  simp [dws, e2]
set_option maxRecDepth 100000 in
set_option maxHeartbeats 4000000 in
theorem porder_w (B : Nat) (N : List Int) (x y : Value) (m : Nat) (w : World) (hy : y = .slice none 0 0) (hN : N.length = 96) (hr : Fld.RoI B w x (ups m)) (hm : m ≤ 32) : Calls Tryd.prog 13 #[.agg (tll N x y).toArray, .bool true, .int .i64 (m : Int)] w fun e w' => e = .returned (.bool true) ∧ Below w.heap.size w w' := by
  obtain ⟨ao, ca, rfl⟩ := hr.shape
  rw [ups_len] at *
  subst hy
  obtain ⟨T, hT⟩ : ∃ T, T = tll N (.slice ao m ca) (.slice none 0 0) := ⟨_, rfl⟩
  have HT : Hid (T[96]? = some (.slice ao m ca) ∧ T[97]? = some (.slice none 0 0)) := by rw [hT]; exact tll_did hN
  rw [← hT]
  clear hT hN
  have HC : Hid (∀ k, k < m → ∃ g, ao = some ⟨g, 0, none⟩ ∧ w.cell? ⟨g, k, none⟩ = some (.int .i64 (k : Int))) := fun k hk => ups_cell hr k hk
  clear hr
  go_enter Tryd.func13, Tryd.ntmps13
  go_upto_region 2 with fail
  obtain ⟨W, eW⟩ : ∃ W, W = w.alloc (.cells T.toArray 48) := ⟨_, rfl⟩
  rw [← eW]
  have H0 : Hid (LB W w.heap.size 48 T ∧ Below w.heap.size w W) := by rw [eW]; exact ⟨lb_new w T _, up0 _ _⟩
  clear eW
  go_loopw [7] (fun i wr => ∃ k : Nat, k ≤ m ∧ i = .int .i64 (k : Int) ∧ LB wr w.heap.size 48 T ∧ Below w.heap.size w wr) (fun i _ => m - (intOf i).toNat)
  case atStart => exact ⟨0, Nat.zero_le _, rfl, H0.out.1, H0.out.2⟩
  case round =>
    obtain ⟨k, hk, rfl, hlb, hbel⟩ := hrel
    have t6 := hlb.cell 96 _ HT.out.1
    have t7 := hlb.cell 97 _ HT.out.2
    by_cases hlt : k < m
    · obtain ⟨g1, e1, hc⟩ := HC.out k hlt
      subst e1
      have q1 := (hbel.cell (p := ⟨g1, k, none⟩) (World.block_lt_of_cell? _ _ hc)).trans hc
      have HL9 : Hid (LB wr w.heap.size 48 T ∧ Below w.heap.size w wr) := ⟨hlb, hbel⟩
      clear hc hlb hbel
      have d1 : ((k : Int) != (k : Int)) = false := by simp
      go_wp2
      go_roundw
      case rel => exact ⟨k + 1, by omega, by go_num, HL9.out.1, HL9.out.2⟩
      case measure => simp [intOf]; omega
    · obtain rfl : k = m := by omega
      have d2 : ((k : Int) == (k : Int)) = true := by simp
      go_wp2
      go_ret
      exact ⟨rfl, hbel⟩

set_option maxRecDepth 100000 in
set_option maxHeartbeats 4000000 in
theorem porder_u (B B2 : Nat) (N : List Int) (x y : Value) (m : Nat) (w : World) (c : Int) (hy : Fld.RoI B2 w y (dws m)) (hN : N.length = 96) (hr : Fld.RoI B w x (ups m)) (hm : m ≤ 32) : Calls Tryd.prog 13 #[.agg (tll N x y).toArray, .bool false, .int .i64 c] w fun e w' => e = .returned (.bool true) ∧ Below w.heap.size w w' := by
  obtain ⟨ao, ca, rfl⟩ := hr.shape
  rw [ups_len] at *
  obtain ⟨ao2, ca2, rfl⟩ := hy.shape
  rw [dws_len] at *
  have HD : Hid (∀ k, k < m → ∃ g, ao2 = some ⟨g, 0, none⟩ ∧ w.cell? ⟨g, k, none⟩ = some (.int .i64 ((m : Int) - 1 - (k : Int)))) := fun k hk => dws_cell hy k hk
  clear hy
  obtain ⟨T, hT⟩ : ∃ T, T = tll N (.slice ao m ca) (.slice ao2 m ca2) := ⟨_, rfl⟩
  have HT : Hid (T[96]? = some (.slice ao m ca) ∧ T[97]? = some (.slice ao2 m ca2)) := by rw [hT]; exact tll_did hN
  rw [← hT]
  clear hT hN
  have HC : Hid (∀ k, k < m → ∃ g, ao = some ⟨g, 0, none⟩ ∧ w.cell? ⟨g, k, none⟩ = some (.int .i64 (k : Int))) := fun k hk => ups_cell hr k hk
  clear hr
  go_enter Tryd.func13, Tryd.ntmps13
  go_upto_region 2 with fail
  obtain ⟨W, eW⟩ : ∃ W, W = w.alloc (.cells T.toArray 48) := ⟨_, rfl⟩
  rw [← eW]
  have H0 : Hid (LB W w.heap.size 48 T ∧ Below w.heap.size w W) := by rw [eW]; exact ⟨lb_new w T _, up0 _ _⟩
  clear eW
  go_loopw [7] (fun i wr => ∃ k : Nat, k ≤ m ∧ i = .int .i64 (k : Int) ∧ LB wr w.heap.size 48 T ∧ Below w.heap.size w wr) (fun i _ => m - (intOf i).toNat)
  case atStart => exact ⟨0, Nat.zero_le _, rfl, H0.out.1, H0.out.2⟩
  case round =>
    obtain ⟨k, hk, rfl, hlb, hbel⟩ := hrel
    have t6 := hlb.cell 96 _ HT.out.1
    have t7 := hlb.cell 97 _ HT.out.2
    by_cases hlt : k < m
    · obtain ⟨g1, e1, hc⟩ := HC.out k hlt
      subst e1
      have q1 := (hbel.cell (p := ⟨g1, k, none⟩) (World.block_lt_of_cell? _ _ hc)).trans hc
      have HL9 : Hid (LB wr w.heap.size 48 T ∧ Below w.heap.size w wr) := ⟨hlb, hbel⟩
      clear hc hlb hbel
      have d1 : ((k : Int) != (k : Int)) = false := by simp
      go_wp2
      go_roundw
      case rel => exact ⟨k + 1, by omega, by go_num, HL9.out.1, HL9.out.2⟩
      case measure => simp [intOf]; omega
    · obtain rfl : k = m := by omega
      have d2 : ((k : Int) != (k : Int)) = false := by simp
      have HL8 : Hid (LB wr w.heap.size 48 T ∧ Below w.heap.size w wr) := ⟨hlb, hbel⟩
      clear hlb hbel
      go_upto_region 11 with fail
      clear t6 t7
      go_loopw [8] (fun i wr => ∃ j : Nat, j ≤ k ∧ i = .int .i64 (j : Int) ∧ LB wr w.heap.size 48 T ∧ Below w.heap.size w wr) (fun i _ => k - (intOf i).toNat)
      case atStart => exact ⟨0, Nat.zero_le _, rfl, HL8.out.1, HL8.out.2⟩
      case round =>
        obtain ⟨j, hj, rfl, hlb, hbel⟩ := hrel
        have t6 := hlb.cell 96 _ HT.out.1
        have t7 := hlb.cell 97 _ HT.out.2
        by_cases hlt2 : j < k
        · obtain ⟨g2, e2, hc⟩ := HD.out j hlt2
          subst e2
          have q1 := (hbel.cell (p := ⟨g2, j, none⟩) (World.block_lt_of_cell? _ _ hc)).trans hc
          have HL9 : Hid (LB wr w.heap.size 48 T ∧ Below w.heap.size w wr) := ⟨hlb, hbel⟩
          clear hc hlb hbel
          have d1 : ((k : Int) - 1 - (j : Int) != (k : Int) - 1 - (j : Int)) = false := by simp
          go_wp2
          go_quiet (fail)
          go_wp2
          go_roundw
          case rel => exact ⟨j + 1, by omega, by go_num, HL9.out.1, bdrewN HL9.out.2 _⟩
          case measure => simp [intOf]; omega
        · obtain rfl : j = k := by omega
          go_wp2
          go_ret
          exact ⟨rfl, hbel⟩
end Go.Proofs.YtodcakplmoajiaaDoor
