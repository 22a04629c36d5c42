import Derived.BigQuiet
import Derived.OpenShut
import Derived.Test.YtneifdbcjicfgaaDoorQR
import Derived.Test.YtneifdbcjicfgaaDoorQN
/-
  TextLong: the law.
-/
namespace Go.Proofs.YtneifdbcjicfgaaDoor
open Go Go.RowKit
open Tx

theorem unq_q (t : ByteArray) : unq (quo t) 0 = (t, (((quo t).size : Nat) : Int), 0) := by
  have h := unq_quo ⟨#[]⟩ t ⟨#[]⟩
  have e : (⟨#[]⟩ : ByteArray) ++ quo t ++ ⟨#[]⟩ = quo t := by
    apply toList_inj
    rw [ByteArray.toList_eq, ByteArray.toList_eq, ByteArray.data_append, ByteArray.data_append]
    simp
  rw [e] at h
  have e2 : ((⟨#[]⟩ : ByteArray).size : Int) = 0 := rfl
  rw [e2] at h
  rw [h]
  have e3 : (⟨#[]⟩ : ByteArray).size = 0 := rfl
  rw [e3, Nat.zero_add]
theorem arr_index0 (a b : ByteArray) (w : World) : (Instr.index 58 (.agg #[.string a, .string b]) (.int .i64 0)).run Tryd.prog w = .ok (.string a) w := by kernel_rfl
theorem arr_index1 (a b : ByteArray) (w : World) : (Instr.index 58 (.agg #[.string a, .string b]) (.int .i64 1)).run Tryd.prog w = .ok (.string b) w := by kernel_rfl
set_option maxRecDepth 100000 in
set_option maxHeartbeats 8000000 in
theorem long_any (n0 k0 m0 : Int) (w : World) (hT : KTab w) (hn : -9223372036854775808 ≤ n0 ∧ n0 ≤ 9223372036854775807) (hk : -9223372036854775808 ≤ k0 ∧ k0 ≤ 9223372036854775807) (hm : -9223372036854775808 ≤ m0 ∧ m0 ≤ 9223372036854775807) :
    Calls Tryd.prog 6 #[.int .i64 n0, .int .i64 k0, .int .i64 m0] w fun e w' => e = .returned (.bool true) ∧ Below w.heap.size w w' := by
  obtain ⟨n, hnn⟩ : ∃ n : Nat, min (max n0 1) 1048576 = (n : Int) := ⟨(min (max n0 1) 1048576).toNat, by omega⟩
  have hn1 : 0 < n := by omega
  have hn2 : n ≤ 1048576 := by omega
  obtain ⟨k, hkk⟩ : ∃ k : Nat, min (max k0 0) ((n : Int) - 1) = (k : Int) := ⟨(min (max k0 0) ((n : Int) - 1)).toNat, by omega⟩
  have hk1 : k < n := by omega
  obtain ⟨m, hmm⟩ : ∃ m : Nat, min (max m0 0) (n : Int) = (m : Int) := ⟨(min (max m0 0) (n : Int)).toNat, by omega⟩
  have hm1 : m ≤ n := by omega
  obtain ⟨f1, f2, f3, f4, f5, f6, f7, f8⟩ := long_facts n k m hk1 hm1
  have hsz := lett_size n
  have hbs := lbad_size n k hk1
  have HLT : Hid (Calls Tryd.prog 19 #[.int .i64 (n : Int)] w fun e w' => e = .returned (.string (lett n)) ∧ Below w.heap.size w w') := letters_any n w hn1 hn2
  have HV1 : Hid (∀ w', Below w.heap.size w w' → Calls Tryd.prog 20 #[.string (lett n)] w' fun e w'' => e = .returned (.int .i64 (-1)) ∧ Below w'.heap.size w' w'') := fun w' hb => by
    have h9 := valid_any (lett n) w'
    rw [f1] at h9
    exact h9
  have HV2 : Hid (∀ w', Below w.heap.size w w' → Calls Tryd.prog 20 #[.string (lbad n k)] w' fun e w'' => e = .returned (.int .i64 (k : Int)) ∧ Below w'.heap.size w' w'') := fun w' hb => by
    have h9 := valid_any (lbad n k) w'
    rw [f2] at h9
    exact h9
  have HC1 : Hid (∀ w', Below w.heap.size w w' → Calls Tryd.prog 21 #[.string (lett n), .int .i64 (m : Int)] w' fun e w'' => e = .returned (.string ((lett n).extract 0 m)) ∧ Below w'.heap.size w' w'') := fun w' hb => by
    have h9 := clip_any (lett n) m w' (by omega)
    rw [f3] at h9
    exact h9
  have HC2 : Hid (∀ w', Below w.heap.size w w' → Calls Tryd.prog 21 #[.string (lett n), .int .i64 (n : Int)] w' fun e w'' => e = .returned (.string (lett n)) ∧ Below w'.heap.size w' w'') := fun w' hb => by
    have h9 := clip_any (lett n) n w' (by omega)
    rw [f4] at h9
    exact h9
  have HC3 : Hid (∀ w', Below w.heap.size w w' → Calls Tryd.prog 21 #[.string (lbad n k), .int .i64 (n : Int)] w' fun e w'' => e = .returned (.string (lbad n k)) ∧ Below w'.heap.size w' w'') := fun w' hb => by
    have h9 := clip_any (lbad n k) n w' (by omega)
    rw [f5] at h9
    exact h9
  have HQ1 : Hid (∀ w', Below w.heap.size w w' → Calls Tryd.prog 22 #[.string (lett n)] w' fun e w'' => e = .returned (.string (⟨#[34]⟩ ++ lett n ++ ⟨#[34]⟩)) ∧ Below w'.heap.size w' w'') := fun w' hb => by
    have h9 := quote_any (lett n) w' (by omega) (hT.kept hb).wt.hids (hT.kept hb).wt.db
    rw [f6] at h9
    exact h9
  have HU1 : Hid (∀ w', Below w.heap.size w w' → Calls Tryd.prog 23 #[.string (⟨#[34]⟩ ++ lett n ++ ⟨#[34]⟩), .int .i64 0] w' fun e w'' => e = .returned (.tuple #[.string (lett n), .int .i64 ((n : Int) + 2), .int .i64 0]) ∧ Below w'.heap.size w' w'') := fun w' hb => by
    have h9 := unq_any (quo (lett n)) 0 w' (by omega) (hT.kept hb).wt.hids (hT.kept hb).wt.db
    rw [unq_q, f7, f6] at h9
    exact h9
  have HQ2 : Hid (∀ w', Below w.heap.size w w' → Calls Tryd.prog 22 #[.string (lbad n k)] w' fun e w'' => e = .returned (.string (quo (lbad n k))) ∧ Below w'.heap.size w' w'') := fun w' hb => quote_any (lbad n k) w' (by omega) (hT.kept hb).wt.hids (hT.kept hb).wt.db
  have HU2 : Hid (∀ w', Below w.heap.size w w' → Calls Tryd.prog 23 #[.string (quo (lbad n k)), .int .i64 0] w' fun e w'' => e = .returned (.tuple #[.string (lbad n k), .int .i64 ((n : Int) + 5), .int .i64 0]) ∧ Below w'.heap.size w' w'') := fun w' hb => by
    have h9 := unq_any (quo (lbad n k)) 0 w' (by omega) (hT.kept hb).wt.hids (hT.kept hb).wt.db
    rw [unq_q, f8] at h9
    exact h9
  have HNM : Hid (∀ (s : ByteArray) w', s.size = n → Below w.heap.size w w' → Calls Tryd.prog 15 #[.string s] w' fun e w'' => e = .returned (.tuple #[.int .i64 (nmA s).1, .int .i64 (nmA s).2]) ∧ Below w'.heap.size w' w'') := fun s w' hs hb => name_any s w' (by omega) (hT.kept hb).wt.lets
  have HRN : Hid (∀ (s : ByteArray) w', s.size = n → Below w.heap.size w w' → Calls Tryd.prog 24 #[.string s] w' fun e w'' => e = .returned (.tuple #[.int .i64 (nmA s).1, .int .i64 (nmA s).2]) ∧ Below w'.heap.size w' w'') := fun s w' hs hb => rname_any s w' (by omega) (hT.kept hb).rl
  have HPW : Hid (∀ s w', Below w.heap.size w w' → Calls Tryd.prog 9 #[.string s] w' fun e w'' => ∃ v, e = .returned (.tuple #[v, .int .i64 (wdA s).2.1, .int .i64 (wdA s).2.2]) ∧ WdR w'.heap.size w'' v (wdA s).1 ∧ Below w'.heap.size w' w'') := fun s w' hb => words_any s w' (hT.kept hb).wt
  have HRW : Hid (∀ s w', Below w.heap.size w w' → Calls Tryd.prog 12 #[.string s] w' fun e w'' => ∃ v, e = .returned (.tuple #[v, .int .i64 (wdA s).2.1, .int .i64 (wdA s).2.2]) ∧ WdR w'.heap.size w'' v (wdA s).1 ∧ Below w'.heap.size w' w'') := fun s w' hb => rwords_any s w' (hT.kept hb).rl (hT.kept hb).rh
  have HBD : Hid ((lett n).extract 0 k ++ ⟨#[255]⟩ ++ (lett n).extract (k + 1) n = lbad n k) := rfl
  clear f1 f2 f3 f4 f5 f6 f7 f8 hT
  generalize lbad n k = bad at *
  generalize quo bad = qb at *
  generalize lett n = s at *
  go_enter Tryd.func6, Tryd.ntmps6
  go_wp2_with fail
  refine HLT.out.mono ?_
  rintro e w1 ⟨rfl, B1⟩
  clear HLT
  go_upto_region 4 with fail
  clear hn hk hm hnn hkk
  go_quiet (fail)
  rw [HBD.out]
  have B2 := below_drewN B1 nq
  generalize w1.drewN nq = w2 at B2 ⊢
  clear HBD B1
  go_wp2_with fail
  refine (HV1.out _ B2).mono ?_
  rintro e w3 ⟨rfl, b3⟩
  have B3 := andThen B2 b3
  clear HV1 B2 b3
  go_wp2_with fail
  refine (HV2.out _ B3).mono ?_
  rintro e w4 ⟨rfl, b4⟩
  have B4 := andThen B3 b4
  clear HV2 B3 b4
  go_upto_region 8 with fail
  clear hmm
  go_region_held3 (fun _ => True) (exact trivial)
    (first
      | (have hB6 := B6; go_at_call 21; refine (HC3.out _ B6).mono ?_; rintro e w7 ⟨rfl, b7⟩; have B7 := andThen B6 b7)
      | (have hB5 := B5; go_at_call 21; refine (HC2.out _ B5).mono ?_; rintro e w6 ⟨rfl, b6⟩; have B6 := andThen B5 b6)
      | (go_at_call 21; refine (HC1.out _ (Below.drew B4)).mono ?_; rintro e w5 ⟨rfl, b5⟩; have B5 := andThen (Below.drew B4) b5))
  clear HC1 HC2 HC3 b5 b6 b7 B4 B5 B6
  go_wp2_with fail
  refine (HQ1.out _ B7).mono ?_
  rintro e w8 ⟨rfl, b8⟩
  have B8 := andThen B7 b8
  clear HQ1 B7 b8
  go_wp2_with fail
  refine (HU1.out _ B8).mono ?_
  rintro e w9 ⟨rfl, b9⟩
  have B9 := andThen B8 b9
  clear HU1 B8 b9
  go_wp2_with fail
  refine (HQ2.out _ B9).mono ?_
  rintro e w10 ⟨rfl, b10⟩
  have B10 := andThen B9 b10
  clear HQ2 B9 b10
  go_wp2_with fail
  refine (HU2.out _ B10).mono ?_
  rintro e w11 ⟨rfl, b11⟩
  have B11 := andThen B10 b11
  clear HU2 B10 b11
  go_wp2
  go_loopw [129] (fun i wr => ∃ q : Nat, q ≤ 2 ∧ i = .int .i64 (q : Int) ∧ Below w.heap.size w wr) (fun i _ => 2 - (intOf i).toNat)
  case atStart => exact ⟨0, by omega, rfl, B11⟩
  case round =>
    obtain ⟨q, hq, rfl, hbel⟩ := hrel
    clear B11
    rcases (show q = 0 ∨ q = 1 ∨ q = 2 by omega) with rfl | rfl | rfl
    · rw [show ((0 : Nat) : Int) = 0 from rfl]
      have i0 := arr_index0 s bad
      have HN1 : Hid (∀ w', Below w.heap.size w w' → Calls Tryd.prog 15 #[.string s] w' fun e w'' => e = .returned (.tuple #[.int .i64 (nmA s).1, .int .i64 (nmA s).2]) ∧ Below w'.heap.size w' w'') := fun w' hb => HNM.out s w' hsz hb
      have HN2 : Hid (∀ w', Below w.heap.size w w' → Calls Tryd.prog 24 #[.string s] w' fun e w'' => e = .returned (.tuple #[.int .i64 (nmA s).1, .int .i64 (nmA s).2]) ∧ Below w'.heap.size w' w'') := fun w' hb => HRN.out s w' hsz hb
      have HP2 := HPW.out s
      have HR2 := HRW.out s
      have HP3 : Hid (∀ w', Below w.heap.size w w' → Calls Tryd.prog 9 #[.string s] w' fun e w'' => ∃ v, e = .returned (.tuple #[v, .int .i64 (wdA s).2.1, .int .i64 (wdA s).2.2]) ∧ WdR w'.heap.size w'' v (wdA s).1 ∧ Below w'.heap.size w' w'') := HP2
      have HR3 : Hid (∀ w', Below w.heap.size w w' → Calls Tryd.prog 12 #[.string s] w' fun e w'' => ∃ v, e = .returned (.tuple #[v, .int .i64 (wdA s).2.1, .int .i64 (wdA s).2.2]) ∧ WdR w'.heap.size w'' v (wdA s).1 ∧ Below w'.heap.size w' w'') := HR2
      clear HP2 HR2 HNM HRN HPW HRW
      generalize nmA s = A1 at *
      generalize wdA s = A2 at *
      obtain ⟨x1, x2⟩ := A1
      obtain ⟨l, er, pl⟩ := A2
      simp only at HN1 HN2 HP3 HR3
      go_wp2_with fail
      refine (HN1.out _ hbel).mono ?_
      rintro e z1 ⟨rfl, y1⟩
      have Y1 := andThen hbel y1
      clear HN1 y1
      go_wp2_with fail
      refine (HN2.out _ Y1).mono ?_
      rintro e z2 ⟨rfl, y2⟩
      have Y2 := andThen Y1 y2
      clear HN2 y2 Y1
      go_wp2_with fail
      refine (HP3.out _ Y2).mono ?_
      rintro e z3 ⟨v3, rfl, hr3, y3⟩
      obtain ⟨a3, c3, e3⟩ := hr3.shape
      subst e3
      have Y3 := andThen Y2 y3
      clear HP3 y3 Y2
      go_wp2_with fail
      refine (HR3.out _ Y3).mono ?_
      rintro e z4 ⟨v4, rfl, hr4, y4⟩
      obtain ⟨a4, c4, e4⟩ := hr4.shape
      subst e4
      have HSY : Hid (Calls Tryd.prog 10 #[.slice a3 l.length c3, .slice a4 l.length c4] z4 fun e w'' => e = .returned (.bool true) ∧ Below z4.heap.size z4 w'') := sameWords_yes l _ _ z4 (fun w' hb => (hr3.kept (andThen y4 hb)).at) (fun w' hb => (hr4.kept hb).at)
      have Y4 := andThen Y3 y4
      clear HR3 y4 Y3 hr3 hr4
      go_wp2_with fail
      refine HSY.out.mono ?_
      rintro e z5 ⟨rfl, y5⟩
      have Y5 := andThen Y4 y5
      clear HSY y5 Y4 hbel
      go_wp2
      go_roundw
      case rel => exact ⟨1, by omega, rfl, Y5⟩
      case measure => simp [intOf]
    · rw [show ((1 : Nat) : Int) = 1 from rfl]
      have i0 := arr_index1 s bad
      have HN1 : Hid (∀ w', Below w.heap.size w w' → Calls Tryd.prog 15 #[.string bad] w' fun e w'' => e = .returned (.tuple #[.int .i64 (nmA bad).1, .int .i64 (nmA bad).2]) ∧ Below w'.heap.size w' w'') := fun w' hb => HNM.out bad w' hbs hb
      have HN2 : Hid (∀ w', Below w.heap.size w w' → Calls Tryd.prog 24 #[.string bad] w' fun e w'' => e = .returned (.tuple #[.int .i64 (nmA bad).1, .int .i64 (nmA bad).2]) ∧ Below w'.heap.size w' w'') := fun w' hb => HRN.out bad w' hbs hb
      have HP2 := HPW.out bad
      have HR2 := HRW.out bad
      have HP3 : Hid (∀ w', Below w.heap.size w w' → Calls Tryd.prog 9 #[.string bad] w' fun e w'' => ∃ v, e = .returned (.tuple #[v, .int .i64 (wdA bad).2.1, .int .i64 (wdA bad).2.2]) ∧ WdR w'.heap.size w'' v (wdA bad).1 ∧ Below w'.heap.size w' w'') := HP2
      have HR3 : Hid (∀ w', Below w.heap.size w w' → Calls Tryd.prog 12 #[.string bad] w' fun e w'' => ∃ v, e = .returned (.tuple #[v, .int .i64 (wdA bad).2.1, .int .i64 (wdA bad).2.2]) ∧ WdR w'.heap.size w'' v (wdA bad).1 ∧ Below w'.heap.size w' w'') := HR2
      clear HP2 HR2 HNM HRN HPW HRW
      generalize nmA bad = A1 at *
      generalize wdA bad = A2 at *
      obtain ⟨x1, x2⟩ := A1
      obtain ⟨l, er, pl⟩ := A2
      simp only at HN1 HN2 HP3 HR3
      go_wp2_with fail
      refine (HN1.out _ hbel).mono ?_
      rintro e z1 ⟨rfl, y1⟩
      have Y1 := andThen hbel y1
      clear HN1 y1
      go_wp2_with fail
      refine (HN2.out _ Y1).mono ?_
      rintro e z2 ⟨rfl, y2⟩
      have Y2 := andThen Y1 y2
      clear HN2 y2 Y1
      go_wp2_with fail
      refine (HP3.out _ Y2).mono ?_
      rintro e z3 ⟨v3, rfl, hr3, y3⟩
      obtain ⟨a3, c3, e3⟩ := hr3.shape
      subst e3
      have Y3 := andThen Y2 y3
      clear HP3 y3 Y2
      go_wp2_with fail
      refine (HR3.out _ Y3).mono ?_
      rintro e z4 ⟨v4, rfl, hr4, y4⟩
      obtain ⟨a4, c4, e4⟩ := hr4.shape
      subst e4
      have HSY : Hid (Calls Tryd.prog 10 #[.slice a3 l.length c3, .slice a4 l.length c4] z4 fun e w'' => e = .returned (.bool true) ∧ Below z4.heap.size z4 w'') := sameWords_yes l _ _ z4 (fun w' hb => (hr3.kept (andThen y4 hb)).at) (fun w' hb => (hr4.kept hb).at)
      have Y4 := andThen Y3 y4
      clear HR3 y4 Y3 hr3 hr4
      go_wp2_with fail
      refine HSY.out.mono ?_
      rintro e z5 ⟨rfl, y5⟩
      have Y5 := andThen Y4 y5
      clear HSY y5 Y4 hbel
      go_wp2
      go_roundw
      case rel => exact ⟨2, by omega, rfl, Y5⟩
      case measure => simp [intOf]
    · rw [show ((2 : Nat) : Int) = 2 from rfl]
      go_wp2
      go_ret
      exact ⟨rfl, hbel⟩
end Go.Proofs.YtneifdbcjicfgaaDoor

/-
  TextLong: the arguments.
-/
namespace Go.Proofs.YtneifdbcjicfgaaDoor
open Go.RowKit
open Tx

theorem textLong_any (n0 k0 m0 : Int) (w : World) (hT : KTab w) (hn : (Lit.int .i64 n0).wf = true) (hk : (Lit.int .i64 k0).wf = true) (hm : (Lit.int .i64 m0).wf = true) :
    Calls Tryd.prog 6 #[.int .i64 n0, .int .i64 k0, .int .i64 m0] w fun e w' => e = .returned (.bool true) ∧ Below w.heap.size w w' := by
  have h1 := bounds_i64 hn
  have h2 := bounds_i64 hk
  have h3 := bounds_i64 hm
  exact long_any n0 k0 m0 w hT (by omega) (by omega) (by omega)
end Go.Proofs.YtneifdbcjicfgaaDoor
