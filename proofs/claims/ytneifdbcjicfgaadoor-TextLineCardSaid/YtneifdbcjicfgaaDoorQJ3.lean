import Derived.Deep.RegionHeld
import Derived.Test.YtneifdbcjicfgaaDoorQJ
/-
  The reference: braced, escape.
-/
namespace Go.Proofs.YtneifdbcjicfgaaDoor
open Go Go.RowKit Go.Lib
open Tx

namespace Tx
theorem hv_dec (t : ByteArray) (p : Nat) : hv (Utf8.decode t p).1 = hv (at' t p) := by
  by_cases h : at' t p < 128
  · rw [dec_ascii t p h]
  · have h2 : ¬ (Utf8.decode t p).1 < 128 := fun hh => h (dec_low_at hh).1
    have key : ∀ c, ¬ c < 128 → hv c = none := fun c hc => by unfold hv; rw [if_neg (by omega), if_neg (by omega)]
    rw [key _ h2, key _ h]
theorem dec_125 (t : ByteArray) (p : Nat) : (Utf8.decode t p).1 = 125 ↔ at' t p = 125 := by
  by_cases h : at' t p < 128
  · rw [dec_ascii t p h]
  · have h2 : ¬ (Utf8.decode t p).1 < 128 := fun hh => h (dec_low_at hh).1
    omega
theorem cut_cut (s : ByteArray) (i k : Nat) (hi : i + k ≤ s.size) : (s.extract i s.size).extract k (s.extract i s.size).size = s.extract (i + k) s.size := by
  have h1 := size_cut s i s.size (Nat.le_refl _)
  have h2 := size_cut (s.extract i s.size) k (s.extract i s.size).size (Nat.le_refl _)
  have h3 := size_cut s (i + k) s.size (Nat.le_refl _)
  apply toList_inj
  apply List.ext_getElem?
  intro j
  by_cases hj : j < s.size - (i + k)
  · rw [toList_get _ j (by omega), toList_get _ j (by omega)]
    congr 1
    apply u8_eq
    have e1 := at_cut (s.extract i s.size) k (s.extract i s.size).size j (Nat.le_refl _) (by omega)
    have e2 := at_cut s i s.size (k + j) (Nat.le_refl _) (by omega)
    have e3 := at_cut s (i + k) s.size j (Nat.le_refl _) (by omega)
    rw [e2] at e1
    rw [show i + (k + j) = i + k + j by omega] at e1
    exact e1.trans e3.symm
  · rw [List.getElem?_eq_none (by rw [toList_len]; omega), List.getElem?_eq_none (by rw [toList_len]; omega)]
theorem at_from (s : ByteArray) (i j : Nat) (h : i + j < s.size) : at' (s.extract i s.size) j = at' s (i + j) := at_cut s i s.size j (Nat.le_refl _) (by omega)
theorem hv125 : hv 125 = none := by decide
/-- an escape with a brace -/
theorem esc_117 (s : ByteArray) (i : Nat) (h0 : at' s i = 92) (h1 : i + 1 < s.size) (hc : at' s (i + 1) = 117) :
    esc (s.extract i s.size) = if i + 2 < s.size ∧ at' s (i + 2) = 123 then erL (s.extract (i + 3) s.size) 0 0 else (⟨#[]⟩, 0) := by
  have hS := size_cut s i s.size (Nat.le_refl _)
  have a0 := at_from s i 0 (by omega)
  have a1 := at_from s i 1 h1
  rw [Nat.add_zero, h0] at a0
  rw [hc] at a1
  unfold esc
  rw [if_neg (pno a1 120 (by decide))]
  by_cases h : i + 2 < s.size ∧ at' s (i + 2) = 123
  · rw [if_pos h]
    have a2 := at_from s i 2 h.1
    rw [h.2] at a2
    have hh : Has (s.extract i s.size) 0 [92, 117, 123] := has_cons (by omega) a0 (has_cons (by omega) a1 (has1 (by omega) a2))
    rw [if_pos (pre_yes hh (by simp; omega)), cut_cut s i 3 (by omega)]
  · rw [if_neg h, if_neg (fun hp => h ?_), if_neg (pno a1 34 (by decide)), if_neg (pno a1 92 (by decide)), if_neg (pno a1 110 (by decide)), if_neg (pno a1 116 (by decide)), if_neg (pno a1 114 (by decide))]
    have hz : 3 ≤ (s.extract i s.size).size := pre_size _ _ hp
    have h2 := pre_at hp 2 (by show (2 : Nat) < 3; decide)
    rw [at_from s i 2 (by omega)] at h2
    exact ⟨by omega, h2⟩
end Tx
theorem ret2 (v : Value) (a b : Int) (h : a = b) : Ending.returned (.tuple #[v, .int .i64 a]) = Ending.returned (.tuple #[v, .int .i64 b]) := by rw [h]
/-- the answer of the reference's escape -/
def EscOK (w : World) (v : Value) (X : ByteArray × Nat) : Prop := (∃ ao n cap, v = .slice ao n cap) ∧ (X.2 ≠ 0 → SlB w v X.1.data.toList)
theorem escOK_no (w : World) : EscOK w (.slice none 0 0) (⟨#[]⟩, 0) := ⟨⟨_, _, _, rfl⟩, fun h => (h rfl).elim⟩

set_option maxRecDepth 100000 in
set_option maxHeartbeats 4000000 in
theorem braced_any (s : ByteArray) (i : Nat) (w : World) (hs : s.size ≤ 8000000) (h0 : at' s i = 92) (h1 : i + 1 < s.size) (hc : at' s (i + 1) = 117) :
    Calls Tryd.prog 77 #[.string s, .int .i64 (i : Int)] w fun e w' => ∃ v, e = .returned (.tuple #[v, .int .i64 (esc (s.extract i s.size)).2]) ∧ EscOK w' v (esc (s.extract i s.size)) ∧ Below w.heap.size w w' := by
  rw [esc_117 s i h0 h1 hc]
  clear h0 hc
  by_cases c1 : i + 2 < s.size
  · have g2 := at_get s (i + 2) c1
    by_cases c2 : at' s (i + 2) = 123
    · rw [if_pos ⟨c1, c2⟩]
      rw [g2] at c2
      obtain ⟨Z, hZ⟩ : ∃ Z, erL (s.extract (i + 3) s.size) 0 0 = Z := ⟨_, rfl⟩
      have hT := size_cut s (i + 3) s.size (Nat.le_refl _)
      have HA : Hid (∀ p, i + 3 + p < s.size → at' (s.extract (i + 3) s.size) p = at' s (i + 3 + p)) := fun p hp => at_from s (i + 3) p hp
      rw [hZ]
      generalize s.extract (i + 3) s.size = T at *
      have HZ : Hid (erL T 0 0 = Z) := hZ
      have HTS : Hid (T.size = s.size - (i + 3)) := hT
      clear hZ hT g2
      have HNO : Hid (∀ w' : World, EscOK w' (.slice none 0 0) (⟨#[]⟩, 0)) := escOK_no
      go_enter Tryd.func77, Tryd.ntmps77
      go_wp2
      go_loopw [6, 7] (fun k r wr => ∃ (p R : Nat), k = .int .i64 ((i : Int) + 3 + (p : Int)) ∧ r = .int .i64 (R : Int) ∧ erL T p R = Z ∧ p ≤ 6 ∧ R < 16 ^ p ∧ i + 3 + p ≤ s.size ∧ wr = w) (fun k _ _ => (s.size + 4 : Nat) - (intOf k).toNat)
      case atStart => exact ⟨0, 0, by simp, rfl, HZ.out, by omega, by decide, by omega, rfl⟩
      case round =>
        obtain ⟨p, R, rfl, rfl, hp, hp6, hR0, hps, rfl⟩ := hrel
        have HP : Hid (erL T p R = Z) := hp
        have HR0 : Hid (R < 16 ^ p) := hR0
        have hR : R < 16777216 := pow_lt p R hp6 hR0
        clear hp hR0 HZ
        by_cases hlt : i + 3 + p < s.size
        · have hTp : p < T.size := by rw [HTS.out]; omega
          have gk := at_get s (i + 3 + p) hlt
          have hcl := at_lt s (i + 3 + p)
          have HV : Hid (hv (Utf8.decode T p).1 = hv (at' s (i + 3 + p))) := by show _ = _; rw [hv_dec, HA.out p hlt]
          have H125 : Hid ((Utf8.decode T p).1 = 125 ↔ at' s (i + 3 + p) = 125) := by show _ ↔ _; rw [dec_125, HA.out p hlt]
          have HDG : Hid (∀ w' : World, Calls Tryd.prog 76 #[.int .u8 (at' s (i + 3 + p) : Int)] w' fun e w'' => e = .returned (.int .i64 (hvi (at' s (i + 3 + p)))) ∧ w'' = w') := fun w' => rdig_any _ w' hcl
          generalize at' s (i + 3 + p) = c at *
          subst gk
          generalize hcc : (s[i + 3 + p]'hlt).toNat = c at *
          cases hvc : hv c with
          | some d =>
            have hd16 := hv_lt hvc
            have HH : Hid (hvi c = (d : Int)) := hvi_some hvc
            have hne : c ≠ 125 := by intro e; rw [e, hv125] at hvc; cases hvc
            rw [HH.out] at HDG
            have HN1 : Hid (¬ ((Utf8.decode T p).1 = 125 ∧ 0 < p ∧ Utf8.valid (R : Int) = true)) := fun hh => hne (H125.out.1 hh.1)
            have HN2 : Hid (hv (Utf8.decode T p).1 = some d) := HV.out.trans hvc
            clear hvc HV H125 HH
            by_cases h6 : p < 6
            · have HN : Hid (erL T (p + 1) (R * 16 + d) = Z) := by show _ = _; rw [erL_on T p R d hTp (by omega) HN1.out HN2.out]; exact HP.out
              have HRN : Hid (R * 16 + d < 16 ^ (p + 1)) := by show _ < _; have := HR0.out; rw [Nat.pow_succ]; omega
              go_wp2_with fail
              refine (HDG.out _).mono ?_
              rintro e w1 ⟨rfl, rfl⟩
              go_wp2_with fail
              refine (HDG.out _).mono ?_
              rintro e w2 ⟨rfl, rfl⟩
              go_wp2
              go_roundw
              case rel => exact ⟨p + 1, R * 16 + d, by go_num, by go_num, HN.out, by omega, HRN.out, by omega, trivial⟩
              case measure => simp [intOf]; omega
            · obtain rfl : p = 6 := by omega
              have HF : Hid (Z = (⟨#[]⟩, 0)) := by show _ = _; rw [← HP.out]; exact erL_six T R d hTp HN1.out HN2.out
              have t1 : ((i : Int) + 3 + 6 == (i : Int) + 3) = false := by rw [beq_eq_false_iff_ne]; omega
              have t2 : ((c : Int) != (125 : Int)) = true := by rw [bne_iff_ne]; omega
              clear HP HA HN1 HN2 HR0
              go_wp2
              go_ret2
              exact ⟨_, by rw [HF.out]; rfl, by rw [HF.out]; exact HNO.out _, Below.refl _ _⟩
          | none =>
            have HH : Hid (hvi c = -1) := hvi_none hvc
            rw [HH.out] at HDG
            have HN2 : Hid (hv (Utf8.decode T p).1 = none) := HV.out.trans hvc
            clear hvc HV HH
            by_cases h6 : p < 6
            · by_cases hp0 : p = 0
              · subst hp0
                have HF : Hid (Z = (⟨#[]⟩, 0)) := by show _ = _; rw [← HP.out]; exact erL_no T 0 R hTp (fun hh => absurd hh.2.1 (by omega)) HN2.out
                have t1 : ((i : Int) + 3 + 0 == (i : Int) + 3) = true := by rw [beq_iff_eq]; omega
                clear HP HA HN2 HR0
                go_wp2_with fail
                refine (HDG.out _).mono ?_
                rintro e w1 ⟨rfl, rfl⟩
                go_wp2
                go_ret2
                exact ⟨_, by rw [HF.out]; rfl, by rw [HF.out]; exact HNO.out _, Below.refl _ _⟩
              · have t1 : ((i : Int) + 3 + (p : Int) == (i : Int) + 3) = false := by rw [beq_eq_false_iff_ne]; omega
                by_cases hc : c = 125
                · have HD : Hid ((Utf8.decode T p).1 = 125) := H125.out.2 hc
                  subst hc
                  by_cases hr1 : 1114111 < R
                  · have HF : Hid (Z = (⟨#[]⟩, 0)) := by show _ = _; rw [← HP.out]; exact erL_no T p R hTp (fun hh => absurd (valid_two R hh.2.2).1 (by omega)) HN2.out
                    have y0 : 1114111 < (R : Int) := by omega
                    have y1 : (R : Int) < 16777216 := by omega
                    clear HP HA HN2 HR0 H125 hr1 hR
                    generalize (R : Int) = y at *
                    go_wp2_with fail
                    refine (HDG.out _).mono ?_
                    rintro e w1 ⟨rfl, rfl⟩
                    go_wp2
                    go_ret2
                    exact ⟨_, by rw [HF.out]; rfl, by rw [HF.out]; exact HNO.out _, Below.refl _ _⟩
                  · have hr1' : R ≤ 1114111 := by omega
                    have HWI : Hid (∀ w' : World, Calls Tryd.prog 59 #[.int .i64 (R : Int), .int .i64 55296, .int .i64 57343] w' fun e w'' => e = .returned (.bool (decide ((55296 : Int) ≤ (R : Int)) && decide ((R : Int) ≤ 57343))) ∧ ∃ n, w'' = w'.drewN n) := fun w' => within_any _ _ _ w'
                    by_cases hr2 : 55296 ≤ R ∧ R ≤ 57343
                    · have HF : Hid (Z = (⟨#[]⟩, 0)) := by show _ = _; rw [← HP.out]; exact erL_no T p R hTp (fun hh => absurd (valid_two R hh.2.2).2 (by omega)) HN2.out
                      have HT : Hid ((decide ((55296 : Int) ≤ (R : Int)) && decide ((R : Int) ≤ 57343)) = true) := by show _ = _; rw [decide_eq_true (by omega), decide_eq_true (by omega)]; rfl
                      rw [HT.out] at HWI
                      have y0 : 0 ≤ (R : Int) := by omega
                      have y1 : (R : Int) ≤ 1114111 := by omega
                      clear HP HA HN2 HR0 H125 hr2 hr1 hr1' hR
                      generalize (R : Int) = y at *
                      go_wp2_with fail
                      refine (HDG.out _).mono ?_
                      rintro e w1 ⟨rfl, rfl⟩
                      go_wp2_with fail
                      refine (HWI.out _).mono ?_
                      rintro e w2 ⟨rfl, n2, rfl⟩
                      go_wp2
                      go_ret2
                      exact ⟨_, by rw [HF.out]; rfl, by rw [HF.out]; exact HNO.out _, below_drewN (Below.refl _ _) _⟩
                    · have hval : Utf8.valid (R : Int) = true := by
                        simp [Utf8.valid]
                        omega
                      have HF : Hid (Z = (Utf8.encode (R : Int), p + 4)) := by show _ = _; rw [← HP.out]; exact erL_end T p R hTp ⟨HD.out, by omega, hval⟩
                      have HT : Hid ((decide ((55296 : Int) ≤ (R : Int)) && decide ((R : Int) ≤ 57343)) = false) := by
                        show _ = _
                        by_cases h9 : 55296 ≤ R
                        · rw [decide_eq_false (show ¬ (R : Int) ≤ 57343 by omega), Bool.and_false]
                        · rw [decide_eq_false (show ¬ (55296 : Int) ≤ (R : Int) by omega), Bool.false_and]
                      rw [HT.out] at HWI
                      have HEN : Hid (∀ w' : World, Calls Tryd.prog 92 #[.int .i64 (R : Int)] w' fun e w'' => ∃ v, e = .returned v ∧ SlB w'' v (Utf8.encode (R : Int)).data.toList ∧ Below w'.heap.size w' w'') := fun w' => encoded_any R w' hval
                      have y0 : 0 ≤ (R : Int) := by omega
                      have y1 : (R : Int) ≤ 1114111 := by omega
                      clear HP HA HN2 HR0 H125 hr2 hval hr1 hr1' hR
                      generalize (R : Int) = y at *
                      generalize Utf8.encode y = E at *
                      go_wp2_with fail
                      refine (HDG.out _).mono ?_
                      rintro e w1 ⟨rfl, rfl⟩
                      go_wp2_with fail
                      refine (HWI.out _).mono ?_
                      rintro e w2 ⟨rfl, n2, rfl⟩
                      go_wp2_with fail
                      refine (HEN.out _).mono ?_
                      rintro e w3 ⟨v3, rfl, hs3, b3⟩
                      have B3 := andThen (below_drewN (Below.refl _ _) n2) b3
                      obtain ⟨g3, cap3, rfl, hc3⟩ := hs3
                      have HS3 : Hid (SlB w3 (.slice (some ⟨g3, 0, none⟩) E.data.toList.length cap3) E.data.toList) := ⟨g3, cap3, rfl, hc3⟩
                      clear hc3 b3
                      generalize E.data.toList.length = ln at *
                      go_wp2
                      go_ret2
                      refine ⟨.slice (some ⟨g3, 0, none⟩) ln cap3, ?_, ⟨⟨_, _, _, rfl⟩, fun _ => ?_⟩, B3⟩
                      · rw [HF.out]
                        exact ret2 _ _ _ (by omega)
                      · rw [HF.out]
                        exact HS3.out
                · have t2 : ((c : Int) != (125 : Int)) = true := by rw [bne_iff_ne]; omega
                  have HF : Hid (Z = (⟨#[]⟩, 0)) := by show _ = _; rw [← HP.out]; exact erL_no T p R hTp (fun hh => hc (H125.out.1 hh.1)) HN2.out
                  clear hc
                  clear HP HA HN2 HR0 H125
                  go_wp2_with fail
                  refine (HDG.out _).mono ?_
                  rintro e w1 ⟨rfl, rfl⟩
                  go_wp2
                  go_ret2
                  exact ⟨_, by rw [HF.out]; rfl, by rw [HF.out]; exact HNO.out _, Below.refl _ _⟩
            · obtain rfl : p = 6 := by omega
              have t1 : ((i : Int) + 3 + 6 == (i : Int) + 3) = false := by rw [beq_eq_false_iff_ne]; omega
              by_cases hc : c = 125
              · have HD : Hid ((Utf8.decode T 6).1 = 125) := H125.out.2 hc
                subst hc
                by_cases hr1 : 1114111 < R
                · have HF : Hid (Z = (⟨#[]⟩, 0)) := by show _ = _; rw [← HP.out]; exact erL_no T 6 R hTp (fun hh => absurd (valid_two R hh.2.2).1 (by omega)) HN2.out
                  have y0 : 1114111 < (R : Int) := by omega
                  have y1 : (R : Int) < 16777216 := by omega
                  clear HP HA HN2 HR0 H125 hr1 hR
                  generalize (R : Int) = y at *
                  go_wp2
                  go_ret2
                  exact ⟨_, by rw [HF.out]; rfl, by rw [HF.out]; exact HNO.out _, Below.refl _ _⟩
                · have hr1' : R ≤ 1114111 := by omega
                  have HWI : Hid (∀ w' : World, Calls Tryd.prog 59 #[.int .i64 (R : Int), .int .i64 55296, .int .i64 57343] w' fun e w'' => e = .returned (.bool (decide ((55296 : Int) ≤ (R : Int)) && decide ((R : Int) ≤ 57343))) ∧ ∃ n, w'' = w'.drewN n) := fun w' => within_any _ _ _ w'
                  by_cases hr2 : 55296 ≤ R ∧ R ≤ 57343
                  · have HF : Hid (Z = (⟨#[]⟩, 0)) := by show _ = _; rw [← HP.out]; exact erL_no T 6 R hTp (fun hh => absurd (valid_two R hh.2.2).2 (by omega)) HN2.out
                    have HT : Hid ((decide ((55296 : Int) ≤ (R : Int)) && decide ((R : Int) ≤ 57343)) = true) := by show _ = _; rw [decide_eq_true (by omega), decide_eq_true (by omega)]; rfl
                    rw [HT.out] at HWI
                    have y0 : 0 ≤ (R : Int) := by omega
                    have y1 : (R : Int) ≤ 1114111 := by omega
                    clear HP HA HN2 HR0 H125 hr2 hr1 hr1' hR
                    generalize (R : Int) = y at *
                    go_wp2_with fail
                    refine (HWI.out _).mono ?_
                    rintro e w2 ⟨rfl, n2, rfl⟩
                    go_wp2
                    go_ret2
                    exact ⟨_, by rw [HF.out]; rfl, by rw [HF.out]; exact HNO.out _, below_drewN (Below.refl _ _) _⟩
                  · have hval : Utf8.valid (R : Int) = true := by
                      simp [Utf8.valid]
                      omega
                    have HF : Hid (Z = (Utf8.encode (R : Int), 6 + 4)) := by show _ = _; rw [← HP.out]; exact erL_end T 6 R hTp ⟨HD.out, by omega, hval⟩
                    have HT : Hid ((decide ((55296 : Int) ≤ (R : Int)) && decide ((R : Int) ≤ 57343)) = false) := by
                      show _ = _
                      by_cases h9 : 55296 ≤ R
                      · rw [decide_eq_false (show ¬ (R : Int) ≤ 57343 by omega), Bool.and_false]
                      · rw [decide_eq_false (show ¬ (55296 : Int) ≤ (R : Int) by omega), Bool.false_and]
                    rw [HT.out] at HWI
                    have HEN : Hid (∀ w' : World, Calls Tryd.prog 92 #[.int .i64 (R : Int)] w' fun e w'' => ∃ v, e = .returned v ∧ SlB w'' v (Utf8.encode (R : Int)).data.toList ∧ Below w'.heap.size w' w'') := fun w' => encoded_any R w' hval
                    have y0 : 0 ≤ (R : Int) := by omega
                    have y1 : (R : Int) ≤ 1114111 := by omega
                    clear HP HA HN2 HR0 H125 hr2 hval hr1 hr1' hR
                    generalize (R : Int) = y at *
                    generalize Utf8.encode y = E at *
                    go_wp2_with fail
                    refine (HWI.out _).mono ?_
                    rintro e w2 ⟨rfl, n2, rfl⟩
                    go_wp2_with fail
                    refine (HEN.out _).mono ?_
                    rintro e w3 ⟨v3, rfl, hs3, b3⟩
                    have B3 := andThen (below_drewN (Below.refl _ _) n2) b3
                    obtain ⟨g3, cap3, rfl, hc3⟩ := hs3
                    have HS3 : Hid (SlB w3 (.slice (some ⟨g3, 0, none⟩) E.data.toList.length cap3) E.data.toList) := ⟨g3, cap3, rfl, hc3⟩
                    clear hc3 b3
                    generalize E.data.toList.length = ln at *
                    go_wp2
                    go_ret2
                    refine ⟨.slice (some ⟨g3, 0, none⟩) ln cap3, ?_, ⟨⟨_, _, _, rfl⟩, fun _ => ?_⟩, B3⟩
                    · rw [HF.out]
                      exact ret2 _ _ _ (by omega)
                    · rw [HF.out]
                      exact HS3.out
              · have t2 : ((c : Int) != (125 : Int)) = true := by rw [bne_iff_ne]; omega
                have HF : Hid (Z = (⟨#[]⟩, 0)) := by show _ = _; rw [← HP.out]; exact erL_no T 6 R hTp (fun hh => hc (H125.out.1 hh.1)) HN2.out
                clear hc
                clear HP HA HN2 HR0 H125
                go_wp2
                go_ret2
                exact ⟨_, by rw [HF.out]; rfl, by rw [HF.out]; exact HNO.out _, Below.refl _ _⟩
        · have HF : Hid (Z = (⟨#[]⟩, 0)) := by show _ = _; rw [← HP.out]; exact erL_out T p R (by rw [HTS.out]; omega)
          by_cases hp0 : p = 0
          · subst hp0
            have t1 : ((i : Int) + 3 + 0 == (i : Int) + 3) = true := by rw [beq_iff_eq]; omega
            go_wp2
            go_ret2
            exact ⟨_, by rw [HF.out]; rfl, by rw [HF.out]; exact HNO.out _, Below.refl _ _⟩
          · have t1 : ((i : Int) + 3 + (p : Int) == (i : Int) + 3) = false := by rw [beq_eq_false_iff_ne]; omega
            go_wp2
            go_ret2
            exact ⟨_, by rw [HF.out]; rfl, by rw [HF.out]; exact HNO.out _, Below.refl _ _⟩
    · rw [if_neg (fun h => c2 h.2)]
      rw [g2] at c2
      have t2 : (((s[i + 2]'c1).toNat : Int) != (123 : Int)) = true := by rw [bne_iff_ne]; omega
      have HNO : Hid (∀ w' : World, EscOK w' (.slice none 0 0) (⟨#[]⟩, 0)) := escOK_no
      clear g2 c2
      go_enter Tryd.func77, Tryd.ntmps77
      go_wp2
      go_ret2
      exact ⟨_, rfl, HNO.out _, Below.refl _ _⟩
  · rw [if_neg (fun h => c1 h.1)]
    have HNO : Hid (∀ w' : World, EscOK w' (.slice none 0 0) (⟨#[]⟩, 0)) := escOK_no
    go_enter Tryd.func77, Tryd.ntmps77
    go_wp2
    go_ret2
    exact ⟨_, rfl, HNO.out _, Below.refl _ _⟩
end Go.Proofs.YtneifdbcjicfgaaDoor
