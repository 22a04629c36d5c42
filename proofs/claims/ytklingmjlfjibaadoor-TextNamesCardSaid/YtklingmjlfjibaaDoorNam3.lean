/-
  The reference's Name.
-/
import Derived.Test.YtklingmjlfjibaaDoorNam2
namespace Go.Proofs.YtklingmjlfjibaaDoor
open Go Go.RowKit
open Tx

set_option maxRecDepth 100000 in
set_option maxHeartbeats 2000000 in
theorem rname_any (s : ByteArray) (w : World) (hs : s.size ≤ 1000000) (hT : TabP 1 .i64 lets w) :
    Calls Tryd.prog 11 #[.string s] w fun e w' => e = .returned (.tuple #[.int .i64 (nmA s).1, .int .i64 (nmA s).2]) ∧ Below w.heap.size w w' := by
  have HT : Hid (∀ w', Below w.heap.size w w' → TabP 1 .i64 lets w') := fun w' hb => hT.kept hb
  obtain ⟨A, hA⟩ : ∃ A, nmA s = A := ⟨_, rfl⟩
  have HA0 : Hid (s.size = 0 → A = (20, 0)) := fun h => by rw [← hA]; unfold nmA; rw [if_pos h]
  have HA1 : Hid (¬ s.size = 0 → nmE s 0 0 = A) := fun h => by rw [← hA]; unfold nmA; rw [if_neg h]
  rw [hA]
  clear hA hT
  go_enter Tryd.func11, Tryd.ntmps11
  go_wp2_with fail
  refine (pieces_any s _ hs).mono ?_
  rintro e w1 ⟨v1, rfl, ho1, b1⟩
  obtain ⟨ao, cap, rfl, hcap, hao, hcell⟩ := ho1.shape
  clear ho1
  have hRl : (pcs s 0).length ≤ 1000000 := by
    have := pcs_len s s.size 0 (by omega)
    omega
  by_cases h0 : s.size = 0
  · have HE : Hid (A = (20, 0)) := HA0.out h0
    have hz : (pcs s 0).length = 0 := by rw [pcs_out s 0 (by omega)]; rfl
    rw [hz]
    clear hao hcell HA0 HA1 hRl hz
    go_wp2
    go_ret2
    rw [HE.out]
    exact ⟨rfl, b1⟩
  · have hz : 0 < (pcs s 0).length := by rw [pcs_in s 0 (by omega)]; simp
    have HA : Hid (nmE s 0 0 = A) := HA1.out h0
    obtain ⟨R, hR⟩ : ∃ R, pcs s 0 = R := ⟨_, rfl⟩
    have HRR : Hid (pcs s 0 = R) := hR
    rw [hR] at hao hcell hRl hz
    rw [hR]
    have HC : Hid (∀ wr, Below w1.heap.size w1 wr → ∀ k (hk : k < R.length), ∃ g, ao = some ⟨g, 0, none⟩ ∧ wr.cell? ⟨g, k * 3, none⟩ = some (.int .i64 (pcR s R[k])) ∧ wr.cell? ⟨g, k * 3 + 1, none⟩ = some (.int .i64 (R[k] : Int)) ∧ wr.cell? ⟨g, k * 3 + 2, none⟩ = some (.int .i64 ((Utf8.decode s R[k]).2 : Int))) := fun wr hb k hk => by
      obtain ⟨g, hg⟩ := hao k hk
      obtain ⟨d0, d1, d2⟩ := hcell g hg k hk
      exact ⟨g, hg, (hb.cell (p := ⟨g, _, none⟩) (World.block_lt_of_cell? _ _ d0)).trans d0, (hb.cell (p := ⟨g, _, none⟩) (World.block_lt_of_cell? _ _ d1)).trans d1, (hb.cell (p := ⟨g, _, none⟩) (World.block_lt_of_cell? _ _ d2)).trans d2⟩
    have HB1 : Hid (∀ wr, Below w1.heap.size w1 wr → Below w.heap.size w wr) := fun wr hb => andThen b1 hb
    clear hao hcell HA0 HA1 hR b1 hcap
    have hzb : ((R.length : Int) == 0) = false := by simp; intro e; rw [e] at hz; simp at hz
    go_wp2
    go_loopw [5] (fun i wr => ∃ (k p : Nat), k ≤ R.length ∧ i = .int .i64 (k : Int) ∧ R.drop k = pcs s p ∧ nmE s k p = A ∧ (k = 0 ↔ p = 0) ∧ Below w1.heap.size w1 wr) (fun i _ => R.length - (intOf i).toNat)
    case atStart => exact ⟨0, 0, Nat.zero_le _, rfl, by rw [List.drop_zero]; exact HRR.out.symm, HA.out, Iff.rfl, Below.refl _ _⟩
    case round =>
      obtain ⟨k, p, hk, rfl, hd, ha, hkp, hbel⟩ := hrel
      have HD : Hid (R.drop k = pcs s p) := hd
      have HAA : Hid (nmE s k p = A) := ha
      have HKP : Hid (k = 0 ↔ p = 0) := hkp
      clear hd ha HA HRR hkp
      by_cases hlt : k < R.length
      · obtain ⟨g, rfl, c0, c1, c2⟩ := HC.out wr hbel k hlt
        obtain ⟨hp, e1, e2⟩ := pcs_head s p R[k] (R.drop (k + 1)) (by rw [← HD.out, List.drop_eq_getElem_cons hlt])
        rw [e1] at c0 c1 c2
        have HE2 : Hid (R.drop (k + 1) = pcs s (p + (Utf8.decode s p).2)) := e2
        have hd := decode_fits s p hp
        have HW : Hid (∀ o n, Below w.heap.size w ((wr.alloc o).drewN n)) := fun o n => HB1.out _ (below_drewN (up hbel _) n)
        have HW1 : Hid (∀ o n, Below w1.heap.size w1 ((wr.alloc o).drewN n)) := fun o n => below_drewN (up hbel _) n
        clear e1 e2 HC HD
        by_cases h48 : 48 ≤ k
        · have HF : Hid (A = (23, (p : Int))) := by show _ = _; rw [← HAA.out, nmE_long s k p hp h48]
          generalize pcR s p = r at *
          generalize (Utf8.decode s p).2 = n at *
          go_wp2
          go_quiet (fail)
          go_wp2
          go_ret2
          rw [HF.out]
          exact ⟨rfl, HW.out _ _⟩
        · rcases pcR_neg s p with ⟨st, e⟩ | ⟨st, e⟩
          · rw [e] at c0
            have HF : Hid (A = (21, (p : Int))) := by show _ = _; rw [← HAA.out, nmE_stray s k p hp h48 st]
            clear e st
            generalize (Utf8.decode s p).2 = n at *
            go_wp2
            go_quiet (fail)
            go_wp2
            go_ret2
            rw [HF.out]
            exact ⟨rfl, HW.out _ _⟩
          · rw [e] at c0
            have HBAD : Hid ((p = 0 ∧ among lets ((Utf8.decode s p).1 : Int) = false) ∨ nmR ((Utf8.decode s p).1 : Int) = false → A = (22, (p : Int))) := fun hb => by
              rw [← HAA.out, nmE_bad s k p hp h48 st hb]
            have HGOOD : Hid (¬ ((p = 0 ∧ among lets ((Utf8.decode s p).1 : Int) = false) ∨ nmR ((Utf8.decode s p).1 : Int) = false) → nmE s (k + 1) (p + (Utf8.decode s p).2) = A) := fun hb => by
              rw [← HAA.out, nmE_step s k p hp h48 st hb]
            clear e st HAA
            obtain ⟨r, hr⟩ : ∃ r : Nat, (Utf8.decode s p).1 = r := ⟨_, rfl⟩
            rw [hr] at c0 HBAD HGOOD
            clear hr
            have HRT : Hid (∀ o n, TabP 1 .i64 lets ((wr.alloc o).drewN n)) := fun o n => HT.out _ (HW.out o n)
            by_cases hk0 : k = 0
            · have hp0 := HKP.out.1 hk0
              subst hk0
              rw [Nat.zero_mul] at c0 c1 c2
              rw [Nat.zero_add] at c1 c2
              cases hal : among lets (r : Int) with
              | false =>
                have HF : Hid (A = (22, (p : Int))) := HBAD.out (.inl ⟨hp0, hal⟩)
                have HAL : Hid (among lets (r : Int) = false) := hal
                clear HBAD HGOOD hal hp0
                generalize (Utf8.decode s p).2 = n at *
                go_wp2_with fail
                refine (rletter_any _ _ (HRT.out _ 0)).mono ?_
                rw [HAL.out]
                rintro e w3 ⟨rfl, n3, rfl⟩
                go_wp2
                go_quiet (fail)
                go_wp2
                go_ret2
                rw [HF.out]
                exact ⟨rfl, by first | exact HW.out _ _ | (rw [World.drewN_drewN]; exact HW.out _ _)⟩
              | true =>
                cases hnm : nmR (r : Int) with
                | false =>
                  have HF : Hid (A = (22, (p : Int))) := HBAD.out (.inr hnm)
                  have HAL : Hid (among lets (r : Int) = true) := hal
                  have HNM : Hid (nmR (r : Int) = false) := hnm
                  clear HBAD HGOOD hal hp0 hnm
                  generalize (Utf8.decode s p).2 = n at *
                  go_wp2_with fail
                  refine (rletter_any _ _ (HRT.out _ 0)).mono ?_
                  rw [HAL.out]
                  rintro e w3 ⟨rfl, n3, rfl⟩
                  go_wp2_with fail
                  refine (rnamer_any _ _ (HRT.out _ _)).mono ?_
                  rw [HNM.out]
                  rintro e w4 ⟨rfl, n4, rfl⟩
                  go_wp2
                  go_quiet (fail)
                  go_wp2
                  go_ret2
                  rw [HF.out]
                  exact ⟨rfl, by first | exact HW.out _ _ | (rw [World.drewN_drewN]; exact HW.out _ _)⟩
                | true =>
                  have HF : Hid (nmE s (0 + 1) (p + (Utf8.decode s p).2) = A) := HGOOD.out (by simp [hal, hnm])
                  have HAL : Hid (among lets (r : Int) = true) := hal
                  have HNM : Hid (nmR (r : Int) = true) := hnm
                  clear HBAD HGOOD hal hp0 hnm
                  generalize (Utf8.decode s p).2 = n at *
                  go_wp2_with fail
                  refine (rletter_any _ _ (HRT.out _ 0)).mono ?_
                  rw [HAL.out]
                  rintro e w3 ⟨rfl, n3, rfl⟩
                  go_wp2_with fail
                  refine (rnamer_any _ _ (HRT.out _ _)).mono ?_
                  rw [HNM.out]
                  rintro e w4 ⟨rfl, n4, rfl⟩
                  go_wp2
                  go_roundw
                  case rel => exact ⟨0 + 1, p + n, by omega, by first | rfl | go_num, HE2.out, HF.out, by omega, by first | exact HW1.out _ _ | (rw [World.drewN_drewN]; exact HW1.out _ _)⟩
                  case measure => simp [intOf]; omega
            · have hp0 : ¬ p = 0 := fun e => hk0 (HKP.out.2 e)
              cases hnm : nmR (r : Int) with
              | false =>
                have HF : Hid (A = (22, (p : Int))) := HBAD.out (.inr hnm)
                have HNM : Hid (nmR (r : Int) = false) := hnm
                clear HBAD HGOOD hnm
                generalize (Utf8.decode s p).2 = n at *
                go_wp2_with fail
                refine (rnamer_any _ _ (HRT.out _ 0)).mono ?_
                rw [HNM.out]
                rintro e w4 ⟨rfl, n4, rfl⟩
                go_wp2
                go_quiet (fail)
                go_wp2
                go_ret2
                rw [HF.out]
                exact ⟨rfl, by first | exact HW.out _ _ | (rw [World.drewN_drewN]; exact HW.out _ _)⟩
              | true =>
                have HF : Hid (nmE s (k + 1) (p + (Utf8.decode s p).2) = A) := HGOOD.out (by simp [hp0, hnm])
                have HNM : Hid (nmR (r : Int) = true) := hnm
                clear HBAD HGOOD hnm
                generalize (Utf8.decode s p).2 = n at *
                go_wp2_with fail
                refine (rnamer_any _ _ (HRT.out _ 0)).mono ?_
                rw [HNM.out]
                rintro e w4 ⟨rfl, n4, rfl⟩
                go_wp2
                go_roundw
                case rel => exact ⟨k + 1, p + n, by omega, by go_num, HE2.out, HF.out, by omega, by first | exact HW1.out _ _ | (rw [World.drewN_drewN]; exact HW1.out _ _)⟩
                case measure => simp [intOf]; omega
      · have HF : Hid (A = (0, 0)) := by
          show _ = _
          rw [← HAA.out]
          apply nmE_out
          intro hp
          have h1 := HD.out
          rw [List.drop_eq_nil_of_le (by omega), pcs_in s p hp] at h1
          cases h1
        have HB := HB1.out wr hbel
        clear HC
        go_wp2
        go_ret2
        rw [HF.out]
        exact ⟨rfl, HB⟩
end Go.Proofs.YtklingmjlfjibaaDoor
