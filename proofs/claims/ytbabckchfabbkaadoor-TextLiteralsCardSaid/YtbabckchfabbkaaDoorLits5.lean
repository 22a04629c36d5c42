/-
  The reference: shown, Quote.
-/
import Derived.Test.YtbabckchfabbkaaDoorLits4
import Derived.Test.YtbabckchfabbkaaDoorPcs
namespace Go.Proofs.YtbabckchfabbkaaDoor
open Go Go.RowKit Go.Lib
open Tx

namespace Tx
theorem ba_list (E : ByteArray) : (⟨E.data.toList.toArray⟩ : ByteArray) = E := by cases E; rfl
theorem hexL_two (c : Nat) (h0 : 16 ≤ c) (h1 : c < 256) : hexL c = [hexD (c / 16), hexD (c % 16)] := by
  rw [hexL_hi c (by omega), hexL_lo (c / 16) (by omega)]
  rfl
theorem app_list (a b : List UInt8) : (⟨a.toArray⟩ : ByteArray) ++ ⟨b.toArray⟩ = ⟨(a ++ b).toArray⟩ := by
  apply ByteArray.ext
  rw [ByteArray.data_append]
  simp
theorem hexB_two (c : Nat) (h0 : 16 ≤ c) (h1 : c < 256) : (⟨#[92, 120]⟩ : ByteArray) ++ ⟨(hexL c).toArray⟩ = hexB c := by
  rw [hexL_two c h0 h1]
  exact app_list [92, 120] [hexD (c / 16), hexD (c % 16)]
theorem hexB_one (c : Nat) (h0 : c < 16) : (⟨#[92, 120, 48]⟩ : ByteArray) ++ ⟨(hexL c).toArray⟩ = hexB c := by
  rw [hexL_lo c h0]
  have e1 : hexB c = ⟨#[92, 120, hexD 0, hexD c]⟩ := by unfold hexB; rw [Nat.div_eq_of_lt h0, Nat.mod_eq_of_lt h0]
  rw [e1]
  exact app_list [92, 120, 48] [hexD c]
theorem hexL_size (r : Nat) (hr : r ≤ 1114111) : (hexL r).length ≤ 6 := hexL_len 5 r (by omega)
end Tx
set_option maxRecDepth 100000 in
set_option maxHeartbeats 2000000 in
theorem shown_any (s : ByteArray) (q : Nat) (w : World) (hs : s.size ≤ 1000000) (hq : q < s.size) (hT : TabP 0 .i64 hids w) :
    Calls Tryd.prog 36 #[.string s, .agg #[.int .i64 (pcR s q), .int .i64 (q : Int), .int .i64 ((Utf8.decode s q).2 : Int)]] w fun e w' => e = .returned (.string (pcW s q)) ∧ Below w.heap.size w w' := by
  have HT : Hid (∀ w', Below w.heap.size w w' → TabP 0 .i64 hids w') := fun w' hb => hT.kept hb
  clear hT
  have g0 := at_get s q hq
  have hcl := at_lt s q
  have hdf := decode_fits s q hq
  cases hst : stray s q with
  | true =>
    have HW : Hid (pcW s q = hexB (at' s q)) := by show _ = _; unfold pcW; rw [if_pos hst]
    have HR : Hid (pcR s q = -1) := by show _ = _; unfold pcR; rw [if_pos hst]
    have h128 : 128 ≤ at' s q := by
      unfold stray at hst
      rw [Bool.and_eq_true, decide_eq_true_eq] at hst
      exact hst.1
    rw [HR.out, HW.out]
    have gc : (s[q]'hq).toNat = at' s q := g0.symm
    have HX : Hid (⟨#[92, 120]⟩ ++ ⟨(hexL (at' s q)).toArray⟩ = hexB (at' s q)) := hexB_two _ (by omega) hcl
    have HHX : Hid (∀ w', Calls Tryd.prog 59 #[.int .i64 (at' s q : Int)] w' fun e w'' => e = .returned (.string ⟨(hexL (at' s q)).toArray⟩) ∧ w'' = w') := fun w' => hex_any _ w' (by omega)
    have hln : (hexL (at' s q)).length ≤ 6 := hexL_size _ (by omega)
    generalize at' s q = c at *
    generalize hexL c = H at *
    generalize (Utf8.decode s q).2 = d at *
    clear g0 hst
    go_enter Tryd.func36, Tryd.ntmps36
    go_wp2_with fail
    refine (HHX.out _).mono ?_
    rintro e w1 ⟨rfl, rfl⟩
    go_wp2
    go_ret
    exact ⟨by rw [← HX.out]; rfl, up0 _ _⟩
  | false =>
    have HW : Hid (pcW s q = wrt (Utf8.decode s q).1) := by show _ = _; unfold pcW; rw [if_neg (by simp [hst])]
    have HR : Hid (pcR s q = ((Utf8.decode s q).1 : Int)) := by show _ = _; unfold pcR; rw [if_neg (by simp [hst])]
    have hed := enc_dec s q hq hst
    have hval := dec_valid s q
    rw [HR.out, HW.out]
    have HCUT : Hid (s.extract q (q + (Utf8.decode s q).2) = Utf8.encode ((Utf8.decode s q).1 : Int)) := by
      show _ = _
      have h9 := has_extract hed.1 (by rw [list_size, hed.2]; exact hdf.2.1)
      rw [list_size, hed.2, ba_list] at h9
      exact h9
    have hv2 := valid_two _ hval
    clear g0 hst hed
    generalize (Utf8.decode s q).1 = r at *
    generalize (Utf8.decode s q).2 = d at *
    have HHX : Hid (∀ w', Calls Tryd.prog 59 #[.int .i64 (r : Int)] w' fun e w'' => e = .returned (.string ⟨(hexL r).toArray⟩) ∧ w'' = w') := fun w' => hex_any _ w' (by omega)
    have hln : (hexL r).length ≤ 6 := hexL_size _ (by omega)
    clear hv2 hval
    by_cases c34 : r = 34
    · subst c34
      clear HHX hln
      go_enter Tryd.func36, Tryd.ntmps36
      go_wp2
      go_ret
      exact ⟨rfl, up0 _ _⟩
    by_cases c92 : r = 92
    · subst c92
      clear HHX hln
      go_enter Tryd.func36, Tryd.ntmps36
      go_wp2
      go_ret
      exact ⟨rfl, up0 _ _⟩
    by_cases c10 : r = 10
    · subst c10
      clear HHX hln
      go_enter Tryd.func36, Tryd.ntmps36
      go_wp2
      go_ret
      exact ⟨rfl, up0 _ _⟩
    by_cases c9 : r = 9
    · subst c9
      clear HHX hln
      go_enter Tryd.func36, Tryd.ntmps36
      go_wp2
      go_ret
      exact ⟨rfl, up0 _ _⟩
    by_cases c13 : r = 13
    · subst c13
      clear HHX hln
      go_enter Tryd.func36, Tryd.ntmps36
      go_wp2
      go_ret
      exact ⟨rfl, up0 _ _⟩
    have n34 : ¬ (r = 34 ∨ r = 92) := fun h => h.elim c34 c92
    have t1 : ((r : Int) == (34 : Int)) = false := by rw [beq_eq_false_iff_ne]; omega
    have t2 : ((r : Int) == (92 : Int)) = false := by rw [beq_eq_false_iff_ne]; omega
    have t3 : ((r : Int) == (10 : Int)) = false := by rw [beq_eq_false_iff_ne]; omega
    have t4 : ((r : Int) == (9 : Int)) = false := by rw [beq_eq_false_iff_ne]; omega
    have t5 : ((r : Int) == (13 : Int)) = false := by rw [beq_eq_false_iff_ne]; omega
    by_cases c16 : r < 16
    · have HX : Hid (⟨#[92, 120, 48]⟩ ++ ⟨(hexL r).toArray⟩ = wrt r) := by
        show _ = _
        rw [hexB_one r c16]
        unfold wrt
        rw [if_neg n34, if_neg c10, if_neg c9, if_neg c13, if_pos (by unfold ctl; rw [decide_eq_true (by omega)]; rfl)]
      generalize wrt r = Z at *
      generalize hexL r = H at *
      clear n34 c34 c92 c10 c9 c13 HCUT
      go_enter Tryd.func36, Tryd.ntmps36
      go_wp2_with fail
      refine (HHX.out _).mono ?_
      rintro e w1 ⟨rfl, rfl⟩
      go_wp2
      go_ret
      exact ⟨by rw [← HX.out]; rfl, up0 _ _⟩
    by_cases c32 : r < 32 ∨ r = 127
    · have HX : Hid (⟨#[92, 120]⟩ ++ ⟨(hexL r).toArray⟩ = wrt r) := by
        show _ = _
        rw [hexB_two r (by omega) (by omega)]
        unfold wrt
        rw [if_neg n34, if_neg c10, if_neg c9, if_neg c13, if_pos (by unfold ctl; rw [Bool.or_eq_true, decide_eq_true_eq, decide_eq_true_eq]; omega)]
      generalize wrt r = Z at *
      generalize hexL r = H at *
      clear n34 c34 c92 c10 c9 c13 HCUT
      by_cases k32 : r < 32
      · clear c32
        go_enter Tryd.func36, Tryd.ntmps36
        go_wp2_with fail
        refine (HHX.out _).mono ?_
        rintro e w1 ⟨rfl, rfl⟩
        go_wp2
        go_ret
        exact ⟨by rw [← HX.out]; rfl, up0 _ _⟩
      · obtain rfl : r = 127 := by omega
        clear c32
        go_enter Tryd.func36, Tryd.ntmps36
        go_wp2_with fail
        refine (HHX.out _).mono ?_
        rintro e w1 ⟨rfl, rfl⟩
        go_wp2
        go_ret
        exact ⟨by rw [← HX.out]; rfl, up0 _ _⟩
    have k32 : 32 ≤ r := by omega
    have t6 : ((r : Int) == (127 : Int)) = false := by rw [beq_eq_false_iff_ne]; omega
    have HCT : Hid (ctl (r : Int) = false) := by show _ = _; unfold ctl; rw [decide_eq_false (by omega), decide_eq_false (by omega)]; rfl
    have HHD : Hid (∀ w', Below w.heap.size w w' → Calls Tryd.prog 31 #[.int .i64 (r : Int)] w' fun e w'' => e = .returned (.bool (among hids (r : Int))) ∧ ∃ n, w'' = w'.drewN n) := fun w' hb => rhid_any _ w' (HT.out _ hb)
    cases hh : among hids (r : Int) with
    | true =>
      have HX : Hid (⟨#[92, 117, 123]⟩ ++ ⟨(hexL r).toArray⟩ ++ ⟨#[125]⟩ = wrt r) := by
        show _ = _
        unfold wrt
        rw [if_neg n34, if_neg c10, if_neg c9, if_neg c13, if_neg (by rw [HCT.out]; simp), if_pos hh]
      rw [hh] at HHD
      generalize wrt r = Z at *
      generalize hexL r = H at *
      clear n34 c34 c92 c10 c9 c13 HCUT hh HCT c32
      go_enter Tryd.func36, Tryd.ntmps36
      go_wp2_with fail
      refine (HHD.out _ (up0 _ _)).mono ?_
      rintro e w1 ⟨rfl, n1, hn1⟩
      have B1 : Below w.heap.size w w1 := by rw [hn1]; exact below_drewN (up0 _ _) n1
      have hcell : w1.cell? ⟨w.heap.size, 0, none⟩ = some (.int .i64 (r : Int)) := by rw [hn1]; exact World.cell?_alloc_new w _ _ 0
      clear hn1
      go_wp2_with fail
      refine (HHX.out _).mono ?_
      rintro e w2 ⟨rfl, rfl⟩
      go_wp2
      go_ret
      exact ⟨by rw [← HX.out]; rfl, B1⟩
    | false =>
      have HX : Hid (s.extract q (q + d) = wrt r) := by
        show _ = _
        rw [HCUT.out]
        unfold wrt
        rw [if_neg n34, if_neg c10, if_neg c9, if_neg c13, if_neg (by rw [HCT.out]; simp), if_neg (by rw [hh]; simp)]
      rw [hh] at HHD
      generalize wrt r = Z at *
      generalize hexL r = H at *
      clear n34 c34 c92 c10 c9 c13 HCUT hh HCT c32 HHX
      go_enter Tryd.func36, Tryd.ntmps36
      go_wp2_with fail
      refine (HHD.out _ (up0 _ _)).mono ?_
      rintro e w1 ⟨rfl, n1, hn1⟩
      have B1 : Below w.heap.size w w1 := by rw [hn1]; exact below_drewN (up0 _ _) n1
      have hcell1 : w1.cell? ⟨w.heap.size, 1, none⟩ = some (.int .i64 (q : Int)) := by rw [hn1]; exact World.cell?_alloc_new w _ _ 1
      have hcell2 : w1.cell? ⟨w.heap.size, 2, none⟩ = some (.int .i64 (d : Int)) := by rw [hn1]; exact World.cell?_alloc_new w _ _ 2
      clear hn1
      go_wp2
      go_ret
      exact ⟨by rw [← HX.out]; rfl, B1⟩
end Go.Proofs.YtbabckchfabbkaaDoor
