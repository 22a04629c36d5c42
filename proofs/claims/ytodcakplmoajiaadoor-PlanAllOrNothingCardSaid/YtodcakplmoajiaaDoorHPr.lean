/-
  PlanAllOrNothing: within, of the law.
-/
import Derived.Test.YtodcakplmoajiaaDoorHPq
namespace Go.Proofs.YtodcakplmoajiaaDoor
open Go Go.RowKit
open Wb

set_option maxRecDepth 100000 in
set_option maxHeartbeats 4000000 in
theorem plwithin_any (N : List Int) (x y : Value) (p : Pln) (v : Value) (w : World) (hN : N.length = 96) (h : StsAt w v p.ss) (hm : p.ss.length ≤ 32) (hw : ∀ (i : Nat) (s : Stp) (n : Int), p.ss[i]? = some s → N[i]? = some n → (p.piv = 0 ∨ (i : Int) < p.piv) → n ≤ s.t) : Calls Tryd.prog 14 #[.agg (tll N x y).toArray, plv p v] w fun e w' => e = .returned (.bool true) ∧ Below w.heap.size w w' := by
  obtain ⟨ao, cap, rfl, hc1, hc2, hc3⟩ := h
  obtain ⟨T, hT⟩ : ∃ T, T = tll N x y := ⟨_, rfl⟩
  have HT : Hid (∀ (i : Nat) n, N[i]? = some n → T[i]? = some (.int .i64 n)) := fun i n hi => by rw [hT]; exact tll_at hi
  obtain ⟨D, hD, hL, hE⟩ := plv_letter p (.slice ao p.ss.length cap)
  rw [← hT, hD]
  have HE : Hid (D = plvl p (.slice ao p.ss.length cap)) := hE
  have HX : Hid (∀ k, k < p.ss.length → ∃ b off n t, ao = some ⟨b, off, none⟩ ∧ w.cell? ⟨b, off + k * 3 + 2, none⟩ = some (.int .i64 t) ∧ N[k]? = some n ∧ ((p.piv = 0 ∨ (k : Int) < p.piv) → decide (n > t) = false)) := fun k hk => by
    obtain ⟨b, off, e, hr⟩ := hc3 k p.ss[k] (List.getElem?_eq_getElem hk)
    have hk2 : k < N.length := by omega
    refine ⟨b, off, N[k], p.ss[k].t, e, hr 2 _ rfl, List.getElem?_eq_getElem hk2, fun hp => ?_⟩
    have := hw k _ _ (List.getElem?_eq_getElem hk) (List.getElem?_eq_getElem hk2) hp
    simp
    omega
  clear hT hD hL hE hc3 hw hN
  generalize p.ss.length = m at *
  go_enter Tryd.func14, Tryd.ntmps14
  go_upto_region 2 with fail
  obtain ⟨W, eW⟩ : ∃ W, W = (w.alloc (.cells T.toArray 48)).alloc (.cells D.toArray 24) := ⟨_, rfl⟩
  rw [← eW]
  have H0 : Hid (LB W w.heap.size 48 T ∧ LB W (w.heap.size + 1) 24 D ∧ Below w.heap.size w W) := by rw [eW]; exact lb_new2 w T D _ _
  clear eW
  go_loopw [5] (fun i wr => ∃ k : Nat, k ≤ m ∧ i = .int .i64 (k : Int) ∧ LB wr w.heap.size 48 T ∧ LB wr (w.heap.size + 1) 24 D ∧ Below w.heap.size w wr) (fun i _ => m - (intOf i).toNat)
  case atStart => exact ⟨0, Nat.zero_le _, rfl, H0.out⟩
  case round =>
    obtain ⟨k, hk, rfl, hl1, hl2, hbel⟩ := hrel
    have c1 := hl2.cell 1 (.int .i64 p.piv) (by rw [HE.out]; rfl)
    have c2 := hl2.cell 2 (.slice ao m cap) (by rw [HE.out]; rfl)
    by_cases hlt : k < m
    · obtain ⟨b, off, n, t, e1, hc, hn, hd⟩ := HX.out k hlt
      subst e1
      have q1 := (hbel.cell (p := ⟨b, off + k * 3 + 2, none⟩) (World.block_lt_of_cell? _ _ hc)).trans hc
      have q2 := hl1.cell k _ (HT.out k n hn)
      have HL9 : Hid (LB wr w.heap.size 48 T ∧ LB wr (w.heap.size + 1) 24 D ∧ Below w.heap.size w wr) := ⟨hl1, hl2, hbel⟩
      clear hc hl1 hl2 hbel hn
      generalize p.piv = PV at *
      by_cases h0 : PV = 0
      · subst h0
        have d1 := hd (.inl rfl)
        go_wp2
        go_quiet (fail)
        go_wp2
        go_roundw
        case rel => exact ⟨k + 1, by omega, by go_num, HL9.out.1, HL9.out.2.1, bdrewN HL9.out.2.2 _⟩
        case measure => simp [intOf]; omega
      · have e0 : (PV == 0) = false := by simpa using h0
        by_cases h1 : (k : Int) < PV
        · have d1 := hd (.inr h1)
          have d2 : decide ((k : Int) < PV) = true := by simpa using h1
          go_wp2
          go_quiet (fail)
          go_wp2
          go_roundw
          case rel => exact ⟨k + 1, by omega, by go_num, HL9.out.1, HL9.out.2.1, bdrewN HL9.out.2.2 _⟩
          case measure => simp [intOf]; omega
        · have d2 : decide ((k : Int) < PV) = false := by simpa using h1
          go_wp2
          go_quiet (fail)
          go_wp2
          go_roundw
          case rel => exact ⟨k + 1, by omega, by go_num, HL9.out.1, HL9.out.2.1, bdrewN HL9.out.2.2 _⟩
          case measure => simp [intOf]; omega
    · obtain rfl : k = m := by omega
      go_wp2
      go_ret
      exact ⟨rfl, hbel⟩
end Go.Proofs.YtodcakplmoajiaaDoor
