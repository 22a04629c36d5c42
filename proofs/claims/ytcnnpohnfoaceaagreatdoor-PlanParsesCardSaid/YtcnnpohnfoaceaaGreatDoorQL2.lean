import Derived.Test.YtcnnpohnfoaceaaGreatDoorQL1
import Derived.Test.YtcnnpohnfoaceaaGreatDoorQT7
/-
  The reference: shown, Quote.
-/
namespace Go.Proofs.YtcnnpohnfoaceaaGreatDoor.Text
open Go Go.RowKit Go.Lib
open Tx

namespace Tx
theorem ba_list (E : ByteArray) : (⟨E.data.toList.toArray⟩ : ByteArray) = E := by cases E; rfl
theorem hexL_two (c : Nat) (h0 : 16 ≤ c) (h1 : c < 256) : hexL c = [hexD (c / 16), hexD (c % 16)] := by
  rw [hexL_hi c (by omega), hexL_lo (c / 16) (by omega)]
  rfl
theorem app_list (a b : List UInt8) : (⟨a.toArray⟩ : ByteArray) ++ ⟨b.toArray⟩ = ⟨(a ++ b).toArray⟩ := by
  apply ByteArray.ext
  rw [ByteArray.data_append]
  simp
theorem hexB_two (c : Nat) (h0 : 16 ≤ c) (h1 : c < 256) : (⟨#[92, 120]⟩ : ByteArray) ++ ⟨(hexL c).toArray⟩ = hexB c := by
  rw [hexL_two c h0 h1]
  exact app_list [92, 120] [hexD (c / 16), hexD (c % 16)]
theorem hexB_one (c : Nat) (h0 : c < 16) : (⟨#[92, 120, 48]⟩ : ByteArray) ++ ⟨(hexL c).toArray⟩ = hexB c := by
  rw [hexL_lo c h0]
  have e1 : hexB c = ⟨#[92, 120, hexD 0, hexD c]⟩ := by unfold hexB; rw [Nat.div_eq_of_lt h0, Nat.mod_eq_of_lt h0]
  rw [e1]
  exact app_list [92, 120, 48] [hexD c]
theorem hexL_size (r : Nat) (hr : r ≤ 1114111) : (hexL r).length ≤ 6 := hexL_len 5 r (by omega)
end Tx
set_option maxRecDepth 100000 in
set_option maxHeartbeats 2000000 in
theorem shown_any (s : ByteArray) (q : Nat) (w : World) (hs : s.size ≤ 1000000) (hq : q < s.size) (hT : TabP 2 .i64 hids w) :
    Calls Tryz.prog 103 #[.string s, .agg #[.int .i64 (pcR s q), .int .i64 (q : Int), .int .i64 ((Utf8.decode s q).2 : Int)]] w fun e w' => e = .returned (.string (pcW s q)) ∧ Below w.heap.size w w' := by
  have HT : Hid (∀ w', Below w.heap.size w w' → TabP 2 .i64 hids w') := fun w' hb => hT.kept hb
  clear hT
  have g0 := at_get s q hq
  have hcl := at_lt s q
  have hdf := decode_fits s q hq
  cases hst : stray s q with
  | true =>
    have HW : Hid (pcW s q = hexB (at' s q)) := by show _ = _; unfold pcW; rw [if_pos hst]
    have HR : Hid (pcR s q = -1) := by show _ = _; unfold pcR; rw [if_pos hst]
    have h128 : 128 ≤ at' s q := by
      unfold stray at hst
      rw [Bool.and_eq_true, decide_eq_true_eq] at hst
      exact hst.1
    rw [HR.out, HW.out]
    have gc : (s[q]'hq).toNat = at' s q := g0.symm
    have HX : Hid (⟨#[92, 120]⟩ ++ ⟨(hexL (at' s q)).toArray⟩ = hexB (at' s q)) := hexB_two _ (by omega) hcl
    have HHX : Hid (∀ w', Calls Tryz.prog 124 #[.int .i64 (at' s q : Int)] w' fun e w'' => e = .returned (.string ⟨(hexL (at' s q)).toArray⟩) ∧ w'' = w') := fun w' => hex_any _ w' (by omega)
    have hln : (hexL (at' s q)).length ≤ 6 := hexL_size _ (by omega)
    generalize at' s q = c at *
    generalize hexL c = H at *
    generalize (Utf8.decode s q).2 = d at *
    clear g0 hst
    go_enter Tryz.func103, Tryz.ntmps103
    go_wp2_with fail
    refine (HHX.out _).mono ?_
    rintro e w1 ⟨rfl, rfl⟩
    go_wp2
    go_ret
    exact ⟨by rw [← HX.out]; rfl, up0 _ _⟩
  | false =>
    have HW : Hid (pcW s q = wrt (Utf8.decode s q).1) := by show _ = _; unfold pcW; rw [if_neg (by simp [hst])]
    have HR : Hid (pcR s q = ((Utf8.decode s q).1 : Int)) := by show _ = _; unfold pcR; rw [if_neg (by simp [hst])]
    have hed := enc_dec s q hq hst
    have hval := dec_valid s q
    rw [HR.out, HW.out]
    have HCUT : Hid (s.extract q (q + (Utf8.decode s q).2) = Utf8.encode ((Utf8.decode s q).1 : Int)) := by
      show _ = _
      have h9 := has_extract hed.1 (by rw [list_size, hed.2]; exact hdf.2.1)
      rw [list_size, hed.2, ba_list] at h9
      exact h9
    have hv2 := valid_two _ hval
    clear g0 hst hed
    generalize (Utf8.decode s q).1 = r at *
    generalize (Utf8.decode s q).2 = d at *
    have HHX : Hid (∀ w', Calls Tryz.prog 124 #[.int .i64 (r : Int)] w' fun e w'' => e = .returned (.string ⟨(hexL r).toArray⟩) ∧ w'' = w') := fun w' => hex_any _ w' (by omega)
    have hln : (hexL r).length ≤ 6 := hexL_size _ (by omega)
    clear hv2 hval
    by_cases c34 : r = 34
    · subst c34
      clear HHX hln
      go_enter Tryz.func103, Tryz.ntmps103
      go_wp2
      go_ret
      exact ⟨rfl, up0 _ _⟩
    by_cases c92 : r = 92
    · subst c92
      clear HHX hln
      go_enter Tryz.func103, Tryz.ntmps103
      go_wp2
      go_ret
      exact ⟨rfl, up0 _ _⟩
    by_cases c10 : r = 10
    · subst c10
      clear HHX hln
      go_enter Tryz.func103, Tryz.ntmps103
      go_wp2
      go_ret
      exact ⟨rfl, up0 _ _⟩
    by_cases c9 : r = 9
    · subst c9
      clear HHX hln
      go_enter Tryz.func103, Tryz.ntmps103
      go_wp2
      go_ret
      exact ⟨rfl, up0 _ _⟩
    by_cases c13 : r = 13
    · subst c13
      clear HHX hln
      go_enter Tryz.func103, Tryz.ntmps103
      go_wp2
      go_ret
      exact ⟨rfl, up0 _ _⟩
    have n34 : ¬ (r = 34 ∨ r = 92) := fun h => h.elim c34 c92
    have t1 : ((r : Int) == (34 : Int)) = false := by rw [beq_eq_false_iff_ne]; omega
    have t2 : ((r : Int) == (92 : Int)) = false := by rw [beq_eq_false_iff_ne]; omega
    have t3 : ((r : Int) == (10 : Int)) = false := by rw [beq_eq_false_iff_ne]; omega
    have t4 : ((r : Int) == (9 : Int)) = false := by rw [beq_eq_false_iff_ne]; omega
    have t5 : ((r : Int) == (13 : Int)) = false := by rw [beq_eq_false_iff_ne]; omega
    by_cases c16 : r < 16
    · have HX : Hid (⟨#[92, 120, 48]⟩ ++ ⟨(hexL r).toArray⟩ = wrt r) := by
        show _ = _
        rw [hexB_one r c16]
        unfold wrt
        rw [if_neg n34, if_neg c10, if_neg c9, if_neg c13, if_pos (by unfold ctl; rw [decide_eq_true (by omega)]; rfl)]
      generalize wrt r = Z at *
      generalize hexL r = H at *
      clear n34 c34 c92 c10 c9 c13 HCUT
      go_enter Tryz.func103, Tryz.ntmps103
      go_wp2_with fail
      refine (HHX.out _).mono ?_
      rintro e w1 ⟨rfl, rfl⟩
      go_wp2
      go_ret
      exact ⟨by rw [← HX.out]; rfl, up0 _ _⟩
    by_cases c32 : r < 32 ∨ r = 127
    · have HX : Hid (⟨#[92, 120]⟩ ++ ⟨(hexL r).toArray⟩ = wrt r) := by
        show _ = _
        rw [hexB_two r (by omega) (by omega)]
        unfold wrt
        rw [if_neg n34, if_neg c10, if_neg c9, if_neg c13, if_pos (by unfold ctl; rw [Bool.or_eq_true, decide_eq_true_eq, decide_eq_true_eq]; omega)]
      generalize wrt r = Z at *
      generalize hexL r = H at *
      clear n34 c34 c92 c10 c9 c13 HCUT
      by_cases k32 : r < 32
      · clear c32
        go_enter Tryz.func103, Tryz.ntmps103
        go_wp2_with fail
        refine (HHX.out _).mono ?_
        rintro e w1 ⟨rfl, rfl⟩
        go_wp2
        go_ret
        exact ⟨by rw [← HX.out]; rfl, up0 _ _⟩
      · obtain rfl : r = 127 := by omega
        clear c32
        go_enter Tryz.func103, Tryz.ntmps103
        go_wp2_with fail
        refine (HHX.out _).mono ?_
        rintro e w1 ⟨rfl, rfl⟩
        go_wp2
        go_ret
        exact ⟨by rw [← HX.out]; rfl, up0 _ _⟩
    have k32 : 32 ≤ r := by omega
    have t6 : ((r : Int) == (127 : Int)) = false := by rw [beq_eq_false_iff_ne]; omega
    have HCT : Hid (ctl (r : Int) = false) := by show _ = _; unfold ctl; rw [decide_eq_false (by omega), decide_eq_false (by omega)]; rfl
    have HHD : Hid (∀ w', Below w.heap.size w w' → Calls Tryz.prog 87 #[.int .i64 (r : Int)] w' fun e w'' => e = .returned (.bool (among hids (r : Int))) ∧ ∃ n, w'' = w'.drewN n) := fun w' hb => rhid_any _ w' (HT.out _ hb)
    cases hh : among hids (r : Int) with
    | true =>
      have HX : Hid (⟨#[92, 117, 123]⟩ ++ ⟨(hexL r).toArray⟩ ++ ⟨#[125]⟩ = wrt r) := by
        show _ = _
        unfold wrt
        rw [if_neg n34, if_neg c10, if_neg c9, if_neg c13, if_neg (by rw [HCT.out]; simp), if_pos hh]
      rw [hh] at HHD
      generalize wrt r = Z at *
      generalize hexL r = H at *
      clear n34 c34 c92 c10 c9 c13 HCUT hh HCT c32
      go_enter Tryz.func103, Tryz.ntmps103
      go_wp2_with fail
      refine (HHD.out _ (up0 _ _)).mono ?_
      rintro e w1 ⟨rfl, n1, hn1⟩
      have B1 : Below w.heap.size w w1 := by rw [hn1]; exact below_drewN (up0 _ _) n1
      have hcell : w1.cell? ⟨w.heap.size, 0, none⟩ = some (.int .i64 (r : Int)) := by rw [hn1]; exact World.cell?_alloc_new w _ _ 0
      clear hn1
      go_wp2_with fail
      refine (HHX.out _).mono ?_
      rintro e w2 ⟨rfl, rfl⟩
      go_wp2
      go_ret
      exact ⟨by rw [← HX.out]; rfl, B1⟩
    | false =>
      have HX : Hid (s.extract q (q + d) = wrt r) := by
        show _ = _
        rw [HCUT.out]
        unfold wrt
        rw [if_neg n34, if_neg c10, if_neg c9, if_neg c13, if_neg (by rw [HCT.out]; simp), if_neg (by rw [hh]; simp)]
      rw [hh] at HHD
      generalize wrt r = Z at *
      generalize hexL r = H at *
      clear n34 c34 c92 c10 c9 c13 HCUT hh HCT c32 HHX
      go_enter Tryz.func103, Tryz.ntmps103
      go_wp2_with fail
      refine (HHD.out _ (up0 _ _)).mono ?_
      rintro e w1 ⟨rfl, n1, hn1⟩
      have B1 : Below w.heap.size w w1 := by rw [hn1]; exact below_drewN (up0 _ _) n1
      have hcell1 : w1.cell? ⟨w.heap.size, 1, none⟩ = some (.int .i64 (q : Int)) := by rw [hn1]; exact World.cell?_alloc_new w _ _ 1
      have hcell2 : w1.cell? ⟨w.heap.size, 2, none⟩ = some (.int .i64 (d : Int)) := by rw [hn1]; exact World.cell?_alloc_new w _ _ 2
      clear hn1
      go_wp2
      go_ret
      exact ⟨by rw [← HX.out]; rfl, B1⟩
end Go.Proofs.YtcnnpohnfoaceaaGreatDoor.Text

/-
  The reference: Quote.
-/
namespace Go.Proofs.YtcnnpohnfoaceaaGreatDoor.Text
open Go Go.RowKit Go.Lib
open Tx

namespace Tx
/-- how pieces stand in a literal -/
def pcL (s : ByteArray) (l : List Nat) : List UInt8 := l.flatMap fun q => (pcW s q).data.toList
theorem pcL_all (s : ByteArray) : ∀ (k p : Nat), s.size - p ≤ k → pcL s (pcs s p) = qs s p
  | 0, p, hk => by rw [pcs_out s p (by omega), qs_out s p (by omega)]; rfl
  | k + 1, p, hk => by
    by_cases h : p < s.size
    · have hd := decode_fits s p h
      rw [pcs_in s p h, qs_in s p h, ← pcL_all s k (p + (Utf8.decode s p).2) (by omega)]
      rfl
    · rw [pcs_out s p h, qs_out s p h]; rfl
theorem pcL_drop (s : ByteArray) (l : List Nat) (k : Nat) (h : k < l.length) : pcL s (l.drop k) = (pcW s l[k]).data.toList ++ pcL s (l.drop (k + 1)) := by
  rw [List.drop_eq_getElem_cons h]
  rfl
theorem pcs_in_range (s : ByteArray) : ∀ (n p : Nat), s.size - p ≤ n → ∀ q ∈ pcs s p, q < s.size
  | 0, p, hk => by rw [pcs_out s p (by omega)]; intro q hq; cases hq
  | n + 1, p, hk => by
    by_cases h : p < s.size
    · have hd := decode_fits s p h
      rw [pcs_in s p h]
      intro q hq
      rcases List.mem_cons.1 hq with rfl | hq
      · exact h
      · exact pcs_in_range s n _ (by omega) q hq
    · rw [pcs_out s p h]; intro q hq; cases hq
theorem pcs_short (s : ByteArray) : ∀ (k p : Nat), s.size - p ≤ k → (pcs s p).length ≤ k
  | 0, p, hk => by rw [pcs_out s p (by omega)]; simp
  | k + 1, p, hk => by
    by_cases h : p < s.size
    · have hd := decode_fits s p h
      have := pcs_short s k (p + (Utf8.decode s p).2) (by omega)
      rw [pcs_in s p h, List.length_cons]
      omega
    · rw [pcs_out s p h]; simp
end Tx

set_option maxRecDepth 100000 in
set_option maxHeartbeats 4000000 in
theorem rquote_any (s : ByteArray) (w : World) (hs : s.size ≤ 1000000) (hT : TabP 2 .i64 hids w) :
    Calls Tryz.prog 88 #[.string s] w fun e w' => e = .returned (.string (quo s)) ∧ Below w.heap.size w w' := by
  have hin := info5q
  have HT : Hid (∀ w', Below w.heap.size w w' → TabP 2 .i64 hids w') := fun w' hb => hT.kept hb
  obtain ⟨T, hTT⟩ : ∃ T, 34 :: qs s 0 = T := ⟨_, rfl⟩
  have HQ : Hid (quo s = ⟨(T ++ [34]).toArray⟩) := by show _ = _; unfold quo; rw [← hTT]; rfl
  have HQ0 : Hid ([34] ++ pcL s ((pcs s 0).drop 0) = T) := by show _ = _; rw [List.drop_zero, pcL_all s _ 0 (Nat.le_refl _), ← hTT]; rfl
  have HP : Hid (∀ w', Calls Tryz.prog 90 #[.string s] w' fun e w'' => ∃ v, e = .returned v ∧ Pcs w'.heap.size w'' v s (pcs s 0) ∧ Below w'.heap.size w' w'') := fun w' => pieces_any s w' (by omega)
  have HPR : Hid (∀ q ∈ pcs s 0, q < s.size) := pcs_in_range s _ 0 (Nat.le_refl _)
  have hpl := pcs_short s s.size 0 (by omega)
  clear hT hTT
  generalize quo s = Z at *
  generalize pcs s 0 = R at *
  go_enter Tryz.func88, Tryz.ntmps88
  go_wp2_with fail
  refine (HP.out _).mono ?_
  rintro e w1 ⟨v1, rfl, hp1, b1⟩
  obtain ⟨ao1, cap1, rfl, hcap1, hsome1, hcell1⟩ := hp1.shape
  have HC1 : Hid (∀ k (hk : k < R.length), ∃ g, ao1 = some ⟨g, 0, none⟩ ∧ w1.cell? ⟨g, k * 3, none⟩ = some (.int .i64 (pcR s R[k])) ∧ w1.cell? ⟨g, k * 3 + 1, none⟩ = some (.int .i64 (R[k] : Int)) ∧ w1.cell? ⟨g, k * 3 + 2, none⟩ = some (.int .i64 ((Utf8.decode s R[k]).2 : Int))) := by
    intro k hk
    obtain ⟨g, hg⟩ := hsome1 k hk
    exact ⟨g, hg, hcell1 g hg k hk⟩
  have R1 : Hid (∀ o, Ro w1.heap.size (w1.alloc o) (.slice none 0 0) []) := fun o => ro_nil _ _
  have hs1 := b1.size
  have HB1 : Hid (Below w.heap.size w w1) := b1
  clear hp1 hsome1 hcell1 HP b1 hcap1
  go_wp2_with (at_builtin; refine wpList_app_one _ rfl (.tmp 10) (.tmp 11) 92 rfl w1.heap.size hin Tryz.underlying92 _ [] rfl (R1.out _) _ 34 rfl (World.cell?_alloc_new w1 _ _ 0) (by simp) (by simp) ?_)
  intro v2 w2 hr2 hg2
  have B2 : Below w1.heap.size w1 w2 := (R1.out _).below (up0 _ _) hg2
  have HR2 : Hid (Ro w1.heap.size w2 v2 [34]) := hr2
  have HB2 : Hid (Below w1.heap.size w1 w2) := B2
  obtain ⟨ao2, cap2, e2⟩ := hr2.shape
  obtain rfl : v2 = .slice ao2 1 cap2 := e2
  clear hr2 hg2 B2 R1
  go_wp2
  go_loopw [4, 5] (fun o i wr => ∃ (k : Nat) (L : List UInt8), k ≤ R.length ∧ i = .int .i64 (k : Int) ∧ Ro w1.heap.size wr o L ∧ L ++ pcL s (R.drop k) = T ∧ L.length ≤ 1 + 12 * k ∧ Below w1.heap.size w1 wr) (fun _ i _ => R.length - (intOf i).toNat)
  case atStart => exact ⟨0, [34], Nat.zero_le _, rfl, HR2.out, HQ0.out, by simp, HB2.out⟩
  case round =>
    obtain ⟨k, L, hk, rfl, hro, hL, hlen, hbel⟩ := hrel
    have HL : Hid (L ++ pcL s (R.drop k) = T) := hL
    clear hL HQ0 HR2 HB2
    obtain ⟨ao3, cap3, rfl⟩ := hro.shape
    by_cases hlt : k < R.length
    · obtain ⟨g, rfl, d0, d1, d2⟩ := HC1.out k hlt
      have c0 := (hbel.cell (p := ⟨g, k * 3, none⟩) (World.block_lt_of_cell? _ _ d0)).trans d0
      have c1 := (hbel.cell (p := ⟨g, k * 3 + 1, none⟩) (World.block_lt_of_cell? _ _ d1)).trans d1
      have c2 := (hbel.cell (p := ⟨g, k * 3 + 2, none⟩) (World.block_lt_of_cell? _ _ d2)).trans d2
      have hq := HPR.out R[k] (List.getElem_mem hlt)
      have HW12 : Hid ((pcW s R[k]).size ≤ 12) := pcW_le s R[k]
      have HSH : Hid (∀ w', Below w.heap.size w w' → Calls Tryz.prog 103 #[.string s, .agg #[.int .i64 (pcR s R[k]), .int .i64 (R[k] : Int), .int .i64 ((Utf8.decode s R[k]).2 : Int)]] w' fun e w'' => e = .returned (.string (pcW s R[k])) ∧ Below w'.heap.size w' w'') := fun w' hb => shown_any s R[k] w' hs hq (HT.out _ hb)
      have HNX : Hid (L ++ ((pcW s R[k]).data.toList ++ pcL s (R.drop (k + 1))) = T) := by show _ = _; rw [← pcL_drop s R k hlt]; exact HL.out
      have HBW : Hid (Below w.heap.size w wr) := andThen HB1.out hbel
      clear d0 d1 d2 HL HC1 HPR hq
      generalize pcR s R[k] = f0 at *
      generalize (Utf8.decode s R[k]).2 = f2 at *
      generalize pcW s R[k] = W at *
      generalize R[k] = f1 at *
      go_wp2_with fail
      refine (HSH.out _ HBW.out).mono ?_
      rintro e w3 ⟨rfl, b3⟩
      have hbel3 := andThen hbel b3
      have HR3 : Hid (Ro w1.heap.size w3 (.slice ao3 L.length cap3) L) := hro.kept b3
      clear b3 hbel hro HBW HSH c0 c1 c2
      have hW := HW12.out
      go_wp2
      go_loopw [4, 7] (fun o j wq => ∃ (n : Nat) (M : List UInt8), n ≤ W.size ∧ j = .int .i64 (n : Int) ∧ Ro w1.heap.size wq o M ∧ M = L ++ W.data.toList.take n ∧ Below w1.heap.size w1 wq) (fun _ j _ => W.size - (intOf j).toNat)
      case atStart => exact ⟨0, L, Nat.zero_le _, rfl, HR3.out, by simp, hbel3⟩
      case round =>
        obtain ⟨n, M, hn, rfl, hroM, hM, hbelM⟩ := hrel
        have HM : Hid (M = L ++ W.data.toList.take n) := hM
        have hMl : M.length ≤ 1 + 12 * k + 12 := by rw [hM, List.length_append, List.length_take]; omega
        clear hM HR3
        obtain ⟨ao5, cap5, rfl⟩ := hroM.shape
        by_cases hln : n < W.size
        · have HMN : Hid (M ++ [W[n]'hln] = L ++ W.data.toList.take (n + 1)) := by
            show _ = _
            have hl2 : n < W.data.toList.length := by rw [list_size]; exact hln
            rw [HM.out, List.take_succ_eq_append_getElem hl2, List.append_assoc]
            rfl
          have HR5 : Hid (∀ o, Ro w1.heap.size (wr.alloc o) (.slice ao5 M.length cap5) M) := fun o => hroM.kept (up0 _ _)
          have HB5 : Hid (∀ o, Below w1.heap.size w1 (wr.alloc o)) := fun o => up hbelM o
          have hs5 := hbelM.size
          clear hroM hbelM HM
          go_wp2_with (at_builtin; refine wpList_app_one _ rfl (.tmp 31) (.tmp 35) 92 rfl w1.heap.size hin Tryz.underlying92 _ M rfl (HR5.out _) _ (W[n]'hln) rfl (World.cell?_alloc_new wr _ _ 0) (by omega) (by simp; omega) ?_)
          intro v6 w6 hr6 hg6
          have HR6 : Hid (Ro w1.heap.size w6 v6 (L ++ W.data.toList.take (n + 1))) := by show Ro _ _ _ _; rw [← HMN.out]; exact hr6
          have HB6 : Hid (Below w1.heap.size w1 w6) := (HR5.out _).below (HB5.out _) hg6
          clear hr6 hg6 HR5 HB5
          go_wp2
          go_roundw
          case rel => exact ⟨n + 1, _, by omega, by go_num, HR6.out, rfl, HB6.out⟩
          case measure => simp [intOf]; omega
        · have HME : Hid (M = L ++ W.data.toList) := by
            show _ = _
            rw [HM.out, List.take_of_length_le (by rw [list_size]; omega)]
          have HNX2 : Hid (M ++ pcL s (R.drop (k + 1)) = T) := by show _ = _; rw [HME.out, List.append_assoc]; exact HNX.out
          have HML : Hid (M.length ≤ 1 + 12 * (k + 1)) := by show _ ≤ _; omega
          clear HM HNX
          go_wp2
          go_roundw
          case rel => exact ⟨k + 1, M, by omega, by go_num, hroM, HNX2.out, HML.out, hbelM⟩
          case measure => simp [intOf]; omega
    · have HF : Hid (L = T) := by
        show _ = _
        have := HL.out
        rw [List.drop_of_length_le (by omega)] at this
        have e0 : pcL s [] = [] := rfl
        rw [e0, List.append_nil] at this
        exact this
      have HR5 : Hid (∀ o, Ro w1.heap.size (wr.alloc o) (.slice ao3 L.length cap3) L) := fun o => hro.kept (up0 _ _)
      have HB5 : Hid (∀ o, Below w1.heap.size w1 (wr.alloc o)) := fun o => up hbel o
      have hs5 := hbel.size
      clear hro hbel HL
      go_wp2_with (at_builtin; refine wpList_app_one _ rfl (.tmp 37) (.tmp 38) 92 rfl w1.heap.size hin Tryz.underlying92 _ L rfl (HR5.out _) _ 34 rfl (World.cell?_alloc_new wr _ _ 0) (by omega) (by simp; omega) ?_)
      intro v6 w6 hr6 hg6
      have HB6 : Hid (Below w.heap.size w w6) := andThen HB1.out ((HR5.out _).below (HB5.out _) hg6)
      have hcv := hr6.str (by simp)
      obtain ⟨ao6, cap6, e6⟩ := hr6.shape
      rw [List.length_append] at e6
      obtain rfl : v6 = .slice ao6 (L.length + 1) cap6 := e6
      have HFF : Hid (Z = ⟨(L ++ [34]).toArray⟩) := by show _ = _; rw [HQ.out, HF.out]
      rw [← HFF.out] at hcv
      clear hr6 hg6 HR5 HB5
      go_wp2
      go_ret
      exact ⟨rfl, HB6.out⟩
end Go.Proofs.YtcnnpohnfoaceaaGreatDoor.Text

/-
  The reference: Unquote.
-/
namespace Go.Proofs.YtcnnpohnfoaceaaGreatDoor.Text
open Go Go.RowKit Go.Lib
open Tx

theorem Tx.stray_drop (s : ByteArray) (a i : Nat) (h : a + i < s.size) : stray (s.extract a s.size) i = stray s (a + i) := by
  unfold stray
  rw [decode_drop s a i h, at_from s a i h]
/-- append(v, x..) of bytes that lie somewhere -/
theorem wpList_app_sl {P : Program} (w : World) {ops : Array Oper} {rest : List Oper} {o : Oper} {a : Act} {Q : Exit → Act → World → Prop} (hgd : o.guard = none) (s x : Operand) (t : TypeId)
    (ho : o.op = .call { callee := .builtin .append, args := #[s, x], argTypes := #[t, t] })
    (B : Nat) (hinfo : ∃ i, P.info? 5 = some i ∧ i.zero = some (.int .u8 0) ∧ i.size = 1 ∧ i.bytes = 1) (ht : P.underlying t = some (.slice 5))
    (v : Value) (l : List UInt8) (hv : a.eval s = v) (h : Ro B w v l) (g n c : Nat) (m : List UInt8) (hx : a.eval x = .slice (some ⟨g, 0, none⟩) n c) (hn : n = m.length) (hc : ∀ j (h : j < m.length), w.cell? ⟨g, j, none⟩ = some (.int .u8 (m[j].toNat : Int))) (hl : l.length ≤ 100000000) (hm : m.length ≤ 100) (hB : B ≤ w.heap.size)
    (hK : ∀ v' w', Ro B w' v' (l ++ m) → w.grownBy w' v.ownBlock → wpList P ops Q rest (a.put o.dst v') w') : wpList P ops Q (o :: rest) a w := by
  obtain ⟨i, hi, hz, h1, h2⟩ := hinfo
  subst hn
  refine wpList_append_own w hgd s x t ho B 5 i (.int .u8 0) 1 1 ht hi hz h1 h2 rfl (by decide) v l.length (bc l) hv h ⟨g, 0, none⟩ m.length c (bc m) hx (by rw [bc_len, Nat.mul_one]) ?_ (by intro u hu; simp [bc] at hu; obtain ⟨b, _, rfl⟩ := hu; rfl) (by unfold maxLen; omega) (by omega) hB fun v' w' h3 h4 _ => hK v' w' ?_ h4
  · intro j u hj
    have hjl : j < m.length := by have := (List.getElem?_eq_some_iff.1 hj).1; rwa [bc_len] at this
    rw [Addr.add_lit, Nat.zero_add, hc j hjl]
    simp [bc, hjl] at hj
    rw [← hj]
  · show w'.ownsRow B 5 1 v' (l ++ m).length (bc (l ++ m))
    have e2 : bc (l ++ m) = bc l ++ bc m := by simp [bc]
    rw [List.length_append, e2]
    exact h3
theorem ret3 (v : Value) (a b c d : Int) (h : a = b) (h2 : c = d) : Ending.returned (.tuple #[v, .int .i64 a, .int .i64 c]) = Ending.returned (.tuple #[v, .int .i64 b, .int .i64 d]) := by rw [h, h2]

set_option maxRecDepth 100000 in
set_option maxHeartbeats 4000000 in
theorem runq_in (s : ByteArray) (k : Nat) (w : World) (hs : s.size ≤ 200000) (hlt : k < s.size) (h34 : (s[k]'hlt).toNat = 34) (hT : TabP 2 .i64 hids w) :
    Calls Tryz.prog 65 #[.string s, .int .i64 (k : Int)] w fun e w' => e = .returned (.tuple #[.string (unq s k).1, .int .i64 (unq s k).2.1, .int .i64 (unq s k).2.2]) ∧ Below w.heap.size w w' := by
  have hin := info5q
  have HT : Hid (∀ w', Below w.heap.size w w' → TabP 2 .i64 hids w') := fun w' hb => hT.kept hb
  have t2 : ((k : Int) == (s.size : Int)) = false := by rw [beq_eq_false_iff_ne]; omega
  have t3 : decide (s.size < k) = false := by rw [decide_eq_false_iff_not]; omega
  have t4 : decide ((k : Int) < 0) = false := by rw [decide_eq_false_iff_not]; omega
  have hzs := size_cut s (k + 1) s.size (Nat.le_refl _)
  have HU : Hid (unq s k = if (con (s.extract (k + 1) s.size) 0 [] 0).2.2 ≠ 0 then (⟨#[]⟩, 0, ((con (s.extract (k + 1) s.size) 0 [] 0).2.2 : Int)) else if quo (con (s.extract (k + 1) s.size) 0 [] 0).1 ≠ s.extract k (k + 1 + (con (s.extract (k + 1) s.size) 0 [] 0).2.1) then (⟨#[]⟩, 0, 28) else ((con (s.extract (k + 1) s.size) 0 [] 0).1, ((k + 1 + (con (s.extract (k + 1) s.size) 0 [] 0).2.1 : Nat) : Int), 0)) := by
    show _ = _
    unfold unq
    rw [if_neg (by omega), if_neg (by rw [Int.toNat_natCast, at_get s k hlt]; omega), Int.toNat_natCast]
  have HAT : Hid (∀ q, k + 1 + q < s.size → at' (s.extract (k + 1) s.size) q = at' s (k + 1 + q)) := fun q h => at_from s (k + 1) q h
  have HDE : Hid (∀ q, k + 1 + q < s.size → Utf8.decode (s.extract (k + 1) s.size) q = Utf8.decode s (k + 1 + q)) := fun q h => decode_drop s (k + 1) q h
  have HST : Hid (∀ q, k + 1 + q < s.size → stray (s.extract (k + 1) s.size) q = stray s (k + 1 + q)) := fun q h => stray_drop s (k + 1) q h
  have HCC : Hid (∀ q, k + 1 + q ≤ s.size → (s.extract (k + 1) s.size).extract q (s.extract (k + 1) s.size).size = s.extract (k + 1 + q) s.size) := fun q h => cut_cut s (k + 1) q h
  generalize s.extract (k + 1) s.size = z at *
  obtain ⟨X, hX⟩ : ∃ X, con z 0 [] 0 = X := ⟨_, rfl⟩
  rw [hX] at HU
  have HX : Hid (con z 0 [] 0 = X) := hX
  have HZS : Hid (z.size = s.size - (k + 1)) := hzs
  have HRO : Hid (Ro w.heap.size w (.slice none 0 0) []) := ro_nil _ _
  clear hT hX hzs
  go_enter Tryz.func65, Tryz.ntmps65
  go_wp2
  go_loopw [7, 8] (fun o i wr => ∃ (q : Nat) (L : List UInt8) (E : Nat), i = .int .i64 ((k : Int) + 1 + (q : Int)) ∧ Ro w.heap.size wr o L ∧ con z q L E = X ∧ E ≤ q ∧ L.length ≤ 4 * q ∧ k + 1 + q ≤ s.size ∧ Below w.heap.size w wr) (fun _ i _ => s.size - (intOf i).toNat)
  case atStart => exact ⟨0, [], 0, by simp, HRO.out, HX.out, Nat.le_refl _, by simp, by omega, Below.refl _ _⟩
  case round =>
    obtain ⟨q, L, E, rfl, hro, hcon, hE, hlen, hq, hbel⟩ := hrel
    have HC : Hid (con z q L E = X) := hcon
    clear hcon HX HRO
    obtain ⟨ao3, cap3, rfl⟩ := hro.shape
    by_cases hiq : k + 1 + q < s.size
    · have hzq : q < z.size := by rw [HZS.out]; omega
      have g1 := at_get s (k + 1 + q) hiq
      have hcl := at_lt s (k + 1 + q)
      have HA := HAT.out q hiq
      have HHA : Hid (at' z q = at' s (k + 1 + q)) := HA
      clear HA
      obtain ⟨c, hc⟩ : ∃ c, at' s (k + 1 + q) = c := ⟨_, rfl⟩
      have hcc : (s[k + 1 + q]'hiq).toNat = c := by rw [← g1]; exact hc
      have HZC : Hid (at' z q = c) := HHA.out.trans hc
      by_cases c34 : c = 34
      · subst c34
        have HXX : Hid (X = (⟨L.toArray⟩, q + 1, 0)) := by
          show _ = _
          rw [← HC.out]
          exact con_q z q L E hzq (by omega) (by rw [dec_ascii z q (by rw [HZC.out]; decide)]; exact HZC.out)
        have hcv := hro.str2
        have hLs : (⟨L.toArray⟩ : ByteArray).size = L.length := by show L.toArray.size = _; simp
        have HRQ : Hid (∀ w', Below w.heap.size w w' → Calls Tryz.prog 88 #[.string ⟨L.toArray⟩] w' fun e w'' => e = .returned (.string (quo ⟨L.toArray⟩)) ∧ Below w'.heap.size w' w'') := fun w' hb => rquote_any _ w' (by rw [hLs]; omega) (HT.out _ hb)
        rw [HXX.out] at HU
        clear g1 hc HHA HZC HC HAT HDE HST HCC hLs
        have wq : IntKind.i64.wrap ((k : Int) + 1 + (q : Int) + 1) = (k : Int) + 1 + (q : Int) + 1 := IntWalk.i64_in _ (by omega)
        have nq : ((k : Int) + 1 + (q : Int) + 1).toNat = k + 1 + (q + 1) := by omega
        have bq : (k : Int) + 1 + (q : Int) + 1 ≤ (s.size : Int) := by omega
        have bq2 : (k : Int) ≤ (k : Int) + 1 + (q : Int) + 1 := by omega
        have bq3 : 0 ≤ (k : Int) + 1 + (q : Int) + 1 := by omega
        generalize hV : (⟨L.toArray⟩ : ByteArray) = V at *
        by_cases hqe : quo V = s.extract k (k + 1 + (q + 1))
        · have HF : Hid (unq s k = (V, ((k + 1 + (q + 1) : Nat) : Int), 0)) := by show _ = _; rw [HU.out, if_neg (by simp), if_neg (fun h => h hqe)]
          rw [hqe] at HRQ
          clear HU hqe hV
          go_wp2_with fail
          go_region_held (fun _ => True) (exact trivial) (first
            | (go_at_call 88; refine (HRQ.out _ (by repeat (first | exact hbel | refine Below.drew ?_))).mono ?_; rintro e w2 ⟨rfl, b2⟩))
          all_goals
            have B2 := andThen (Below.drew hbel) b2
            clear b2
            go_wp2
            go_ret3
            exact ⟨by rw [HF.out]; exact ret3 _ _ ((k + 1 + (q + 1) : Nat) : Int) _ 0 (by omega) rfl, B2⟩
        · have HF : Hid (unq s k = (⟨#[]⟩, 0, 28)) := by show _ = _; rw [HU.out, if_neg (by simp), if_pos hqe]
          have tq : ((quo V).toList == (s.extract k (k + 1 + (q + 1))).toList) = false := by rw [beq_eq_false_iff_ne]; exact fun h => hqe (toList_inj h)
          generalize quo V = Y at *
          clear HU hqe hV
          go_wp2_with fail
          go_region_held (fun _ => True) (exact trivial) (first
            | (go_at_call 88; refine (HRQ.out _ (by repeat (first | exact hbel | refine Below.drew ?_))).mono ?_; rintro e w2 ⟨rfl, b2⟩))
          all_goals
            have B2 := andThen (Below.drew hbel) b2
            clear b2
            go_wp2
            go_ret3
            exact ⟨by rw [HF.out]; rfl, B2⟩
      · have t34 : ((c : Int) != (34 : Int)) = true := by rw [bne_iff_ne]; omega
        by_cases c92 : c = 92
        · subst c92
          have HRE : Hid (∀ w', Calls Tryz.prog 86 #[.string s, .int .i64 ((k : Int) + 1 + (q : Int))] w' fun e w'' => ∃ v, e = .returned (.tuple #[v, .int .i64 (esc (s.extract (k + 1 + q) s.size)).2]) ∧ EscOK w'' v (esc (s.extract (k + 1 + q) s.size)) ∧ Below w'.heap.size w' w'') := fun w' => by
            have h9 := resc_any s (k + 1 + q) w' (by omega) hiq hc
            rw [show ((k + 1 + q : Nat) : Int) = (k : Int) + 1 + (q : Int) by omega] at h9
            exact h9
          have HJ : Hid ((esc (s.extract (k + 1 + q) s.size)).2 ≠ 0 → con z (q + (esc (s.extract (k + 1 + q) s.size)).2) (L ++ (esc (s.extract (k + 1 + q) s.size)).1.data.toList) (q + (esc (s.extract (k + 1 + q) s.size)).2) = con z q L E ∧ q + (esc (s.extract (k + 1 + q) s.size)).2 ≤ z.size) := fun hne => by
            have h9 := con_jump z q L E hzq hE HZC.out (by rw [HCC.out q (by omega)]; exact hne)
            rw [HCC.out q (by omega)] at h9
            exact h9
          have HJ0 : Hid ((esc (s.extract (k + 1 + q) s.size)).2 = 0 → con z q L E = (⟨#[]⟩, 0, 27)) := fun h0 => con_e0 z q L E hzq (by omega) (by rw [dec_ascii z q (by rw [HZC.out]; decide)]; exact HZC.out) (by rw [HCC.out q (by omega)]; exact h0)
          have hel := esc_le (s.extract (k + 1 + q) s.size)
          clear g1 hc HHA HZC HAT HDE HST HCC
          generalize esc (s.extract (k + 1 + q) s.size) = Y at *
          obtain ⟨y1, y2⟩ := Y
          by_cases hy : y2 = 0
          · subst hy
            have HXX : Hid (X = (⟨#[]⟩, 0, 27)) := by show _ = _; rw [← HC.out]; exact HJ0.out rfl
            rw [HXX.out] at HU
            have HF : Hid (unq s k = (⟨#[]⟩, 0, 27)) := by show _ = _; rw [HU.out, if_pos (by simp)]; rfl
            clear HU HJ HJ0 HC
            go_wp2_with fail
            refine (HRE.out _).mono ?_
            rintro e w2 ⟨v2, rfl, he2, b2⟩
            have B2 := andThen hbel b2
            obtain ⟨⟨ao2, n2, cap2, rfl⟩, _⟩ := he2
            clear b2
            go_wp2
            go_ret3
            exact ⟨by rw [HF.out]; rfl, B2⟩
          · have t0 : ((y2 : Int) == (0 : Int)) = false := by rw [beq_eq_false_iff_ne]; omega
            have HN : Hid (con z (q + y2) (L ++ y1.data.toList) (q + y2) = X ∧ q + y2 ≤ z.size) := ⟨(HJ.out hy).1.trans HC.out, (HJ.out hy).2⟩
            have hqy : k + 1 + (q + y2) ≤ s.size := by have h8 := HN.out.2; rw [HZS.out] at h8; omega
            have hy1 : y1.data.toList.length ≤ 4 := by rw [list_size]; exact hel.1
            clear HJ HJ0 HC hel
            go_wp2_with fail
            refine (HRE.out _).mono ?_
            rintro e w2 ⟨v2, rfl, he2, b2⟩
            have B2 := andThen hbel b2
            have HR2 : Hid (Ro w.heap.size w2 (.slice ao3 L.length cap3) L) := hro.kept b2
            obtain ⟨g2, cap2, rfl, hc2⟩ := he2.2 hy
            have HC2 : Hid (∀ j (h : j < y1.data.toList.length), w2.cell? ⟨g2, j, none⟩ = some (.int .u8 ((y1.data.toList[j]).toNat : Int))) := hc2
            have hs2 := B2.size
            clear b2 he2 hc2 hro hbel
            generalize y1.data.toList = M at *
            go_wp2_with (at_builtin; refine wpList_app_sl _ rfl (.tmp 55) (.tmp 56) 92 rfl w.heap.size hin Tryz.underlying92 _ L rfl HR2.out g2 _ cap2 M rfl rfl HC2.out (by omega) (by omega) hs2 ?_)
            intro v6 w6 hr6 hg6
            have HR6 : Hid (Ro w.heap.size w6 v6 (L ++ M)) := hr6
            have HB6 : Hid (Below w.heap.size w w6) := HR2.out.below B2 hg6
            have HLL : Hid ((L ++ M).length ≤ 4 * (q + y2)) := by show _ ≤ _; rw [List.length_append]; omega
            clear hr6 hg6 HC2 HR2
            go_wp2
            go_roundw
            case rel =>
              exact ⟨q + y2, L ++ M, q + y2, by go_num, HR6.out, HN.out.1, Nat.le_refl _, HLL.out, hqy, HB6.out⟩
            case measure => simp [intOf]; omega
        · have t92 : ((c : Int) == (92 : Int)) = false := by rw [beq_eq_false_iff_ne]; omega
          have hdz := HDE.out q hiq
          have HDZ : Hid (Utf8.decode z q = Utf8.decode s (k + 1 + q)) := hdz
          have HSZ : Hid (stray z q = stray s (k + 1 + q)) := HST.out q hiq
          have hdf := decode_fits s (k + 1 + q) hiq
          have hed : stray s (k + 1 + q) = false → s.extract (k + 1 + q) (k + 1 + q + (Utf8.decode s (k + 1 + q)).2) = Utf8.encode ((Utf8.decode s (k + 1 + q)).1 : Int) := fun hst => by
            have h8 := enc_dec s (k + 1 + q) hiq hst
            have h9 := has_extract h8.1 (by rw [list_size, h8.2]; exact hdf.2.1)
            rw [list_size, h8.2, ba_list] at h9
            exact h9
          have HED : Hid (stray s (k + 1 + q) = false → s.extract (k + 1 + q) (k + 1 + q + (Utf8.decode s (k + 1 + q)).2) = Utf8.encode ((Utf8.decode s (k + 1 + q)).1 : Int)) := hed
          have HN34 : Hid (¬ (Utf8.decode z q).1 = 34) := fun h => by
            have h9 := dec_low_at (t := z) (p := q) (by rw [h]; decide)
            rw [h, HZC.out] at h9
            exact c34 h9.2.symm
          have HN92 : Hid (¬ (Utf8.decode z q).1 = 92) := fun h => by
            have h9 := dec_low_at (t := z) (p := q) (by rw [h]; decide)
            rw [h, HZC.out] at h9
            exact c92 h9.2.symm
          have HRAW : Hid ((ctl ((Utf8.decode s (k + 1 + q)).1 : Int) || among hids ((Utf8.decode s (k + 1 + q)).1 : Int) || stray s (k + 1 + q)) = true → X = (⟨#[]⟩, 0, 26)) := fun h => by
            rw [← HC.out]
            exact con_raw z q L E hzq (by omega) HN34.out HN92.out (by rw [HDZ.out, HSZ.out]; exact h)
          have HON : Hid ((ctl ((Utf8.decode s (k + 1 + q)).1 : Int) || among hids ((Utf8.decode s (k + 1 + q)).1 : Int) || stray s (k + 1 + q)) = false → con z (q + (Utf8.decode s (k + 1 + q)).2) (L ++ (Utf8.encode ((Utf8.decode s (k + 1 + q)).1 : Int)).data.toList) E = X) := fun h => by
            have h9 := con_on z q L E hzq (by omega) HN34.out HN92.out (by rw [HDZ.out, HSZ.out]; exact h)
            rw [HDZ.out] at h9
            exact h9.trans HC.out
          have HPI : Hid (∀ w', Calls Tryz.prog 42 #[.string s, .int .i64 ((k : Int) + 1 + (q : Int))] w' fun e w'' => e = .returned (.agg #[.int .i64 (pcR s (k + 1 + q)), .int .i64 ((k : Int) + 1 + (q : Int)), .int .i64 ((Utf8.decode s (k + 1 + q)).2 : Int)]) ∧ Below w'.heap.size w' w'') := fun w' => by
            have h9 := piece_any s (k + 1 + q) w' (by omega) hiq
            rw [show ((k + 1 + q : Nat) : Int) = (k : Int) + 1 + (q : Int) by omega] at h9
            exact h9
          have HRAWF : Hid (X = (⟨#[]⟩, 0, 26) → unq s k = (⟨#[]⟩, 0, 26)) := fun h => by
            rw [HU.out, h, if_pos (by simp)]
            rfl
          have HPR : Hid ((stray s (k + 1 + q) = true ∧ pcR s (k + 1 + q) = -1) ∨ (stray s (k + 1 + q) = false ∧ pcR s (k + 1 + q) = ((Utf8.decode s (k + 1 + q)).1 : Int))) := by
            show _ ∨ _
            unfold pcR
            cases stray s (k + 1 + q)
            · exact .inr ⟨rfl, rfl⟩
            · exact .inl ⟨rfl, rfl⟩
          clear hdz hed HDZ HSZ HN34 HN92 HU HC HAT HDE HST HCC g1 hc HHA HZC c34 c92
          generalize (Utf8.decode s (k + 1 + q)).1 = r at *
          generalize (Utf8.decode s (k + 1 + q)).2 = d at *
          generalize pcR s (k + 1 + q) = pr at *
          generalize stray s (k + 1 + q) = st at *
          have HHD : Hid (∀ w', Below w.heap.size w w' → Calls Tryz.prog 87 #[.int .i64 (r : Int)] w' fun e w'' => e = .returned (.bool (among hids (r : Int))) ∧ ∃ n, w'' = w'.drewN n) := fun w' hb => rhid_any _ w' (HT.out _ hb)
          rcases HPR.out with ⟨rfl, rfl⟩ | ⟨rfl, rfl⟩
          · have HF : Hid (unq s k = (⟨#[]⟩, 0, 26)) := HRAWF.out (HRAW.out (by simp))
            clear HPR HRAWF HRAW HON HED HHD
            go_wp2_with fail
            refine (HPI.out _).mono ?_
            rintro e w2 ⟨rfl, b2⟩
            have B2 := andThen hbel b2
            clear b2
            go_wp2
            go_ret3
            exact ⟨by rw [HF.out]; rfl, by repeat (first | exact B2 | refine Below.setCell ?_ (by have := B2.size; show _ ≤ _; omega) _ | refine up ?_ _)⟩
          · by_cases h32 : r < 32
            · have HF : Hid (unq s k = (⟨#[]⟩, 0, 26)) := HRAWF.out (HRAW.out (by
                have h9 : ctl (r : Int) = true := by unfold ctl; rw [decide_eq_true (by omega)]; rfl
                rw [h9]; rfl))
              clear HPR HRAWF HRAW HON HED HHD
              go_wp2_with fail
              refine (HPI.out _).mono ?_
              rintro e w2 ⟨rfl, b2⟩
              have B2 := andThen hbel b2
              clear b2
              go_wp2
              go_ret3
              exact ⟨by rw [HF.out]; rfl, by repeat (first | exact B2 | refine Below.setCell ?_ (by have := B2.size; show _ ≤ _; omega) _ | refine up ?_ _)⟩
            · by_cases h127 : r = 127
              · subst h127
                have HF : Hid (unq s k = (⟨#[]⟩, 0, 26)) := HRAWF.out (HRAW.out rfl)
                clear HPR HRAWF HRAW HON HED HHD
                go_wp2_with fail
                refine (HPI.out _).mono ?_
                rintro e w2 ⟨rfl, b2⟩
                have B2 := andThen hbel b2
                clear b2
                go_wp2
                go_ret3
                exact ⟨by rw [HF.out]; rfl, by repeat (first | exact B2 | refine Below.setCell ?_ (by have := B2.size; show _ ≤ _; omega) _ | refine up ?_ _)⟩
              · have t127 : ((r : Int) == (127 : Int)) = false := by rw [beq_eq_false_iff_ne]; omega
                have HCT : Hid (ctl (r : Int) = false) := by show _ = _; unfold ctl; rw [decide_eq_false (by omega), decide_eq_false (by omega)]; rfl
                cases hh : among hids (r : Int) with
                | true =>
                  have HF : Hid (unq s k = (⟨#[]⟩, 0, 26)) := HRAWF.out (HRAW.out (by rw [HCT.out, hh]; rfl))
                  rw [hh] at HHD
                  clear HPR HRAWF HRAW HON HED hh HCT h127
                  go_wp2_with fail
                  refine (HPI.out _).mono ?_
                  rintro e w2 ⟨rfl, b2⟩
                  have B2 := andThen hbel b2
                  have hs2 := B2.size
                  clear b2
                  go_wp2_with fail
                  refine (HHD.out _ (by repeat (first | exact B2 | refine Below.setCell ?_ (by show _ ≤ _; omega) _ | refine up ?_ _))).mono ?_
                  rintro e w3 ⟨rfl, n3, hn3⟩
                  have B3 : Below w.heap.size w w3 := by rw [hn3]; exact below_drewN (by repeat (first | exact B2 | refine Below.setCell ?_ (by show _ ≤ _; omega) _ | refine up ?_ _)) n3
                  clear hn3
                  go_wp2
                  go_ret3
                  exact ⟨by rw [HF.out]; rfl, B3⟩
                | false =>
                  have HN : Hid (con z (q + d) (L ++ (Utf8.encode (r : Int)).data.toList) E = X) := HON.out (by rw [HCT.out, hh]; rfl)
                  have HEX : Hid (s.extract (k + 1 + q) (k + 1 + q + d) = Utf8.encode (r : Int)) := HED.out rfl
                  have HE4 : Hid ((Utf8.encode (r : Int)).size ≤ 12) := Nat.le_trans (encode_le _) (by decide)
                  have HLL : Hid ((L ++ (Utf8.encode (r : Int)).data.toList).length ≤ 4 * (q + d)) := by show _ ≤ _; have := encode_le (r : Int); rw [List.length_append, list_size]; omega
                  rw [hh] at HHD
                  clear HPR HRAWF HRAW HON HED hh HCT h127
                  generalize Utf8.encode (r : Int) = EB at *
                  have hex := HEX.out
                  go_wp2_with fail
                  refine (HPI.out _).mono ?_
                  rintro e w2 ⟨rfl, b2⟩
                  have B2 := andThen hbel b2
                  have hs2 := B2.size
                  have HR2 : Hid (Ro w.heap.size w2 (.slice ao3 L.length cap3) L) := hro.kept b2
                  clear b2
                  have HOB : Hid (∀ j, (Value.slice ao3 L.length cap3).ownBlock = some j → j < w2.heap.size) := fun j hj => (World.ownsRow.lt HR2.out j hj).2
                  have HB3 : Hid (∀ o, Below w.heap.size w (w2.alloc o)) := fun o => up B2 o
                  have HR3 : Hid (∀ o, Ro w.heap.size (w2.alloc o) (.slice ao3 L.length cap3) L) := fun o => HR2.out.kept (up0 _ _)
                  go_wp2_with fail
                  refine (HHD.out _ (HB3.out _)).mono ?_
                  rintro e w3 ⟨rfl, n3, hn3⟩
                  have B3 : Below w.heap.size w w3 := by rw [hn3]; exact below_drewN (HB3.out _) n3
                  have HR4 : Hid (Ro w.heap.size w3 (.slice ao3 L.length cap3) L) := by show Ro _ _ _ _; rw [hn3]; exact (HR3.out _)
                  have hcell2 : w3.cell? ⟨w2.heap.size, 2, none⟩ = some (.int .i64 (d : Int)) := by rw [hn3]; exact World.cell?_alloc_new w2 _ _ 2
                  have hs3 := B3.size
                  clear hn3 HB3 HR3 HR2 B2 hbel hro
                  have nd : ((k : Int) + 1 + (q : Int)).toNat = k + 1 + q := by omega
                  have nd2 : ((k : Int) + 1 + (q : Int) + (d : Int)).toNat = k + 1 + q + d := by omega
                  go_wp2_with (at_builtin; refine wpList_app_str _ rfl (.tmp 77) (.tmp 84) 92 9 rfl w.heap.size hin Tryz.underlying92 Tryz.underlying9 _ L rfl HR4.out EB rfl (by omega) HE4.out hs3 ?_)
                  intro v6 w6 hr6 hg6
                  have HR6 : Hid (Ro w.heap.size w6 v6 (L ++ EB.data.toList)) := hr6
                  have HB6 : Hid (Below w.heap.size w w6) := HR4.out.below B3 hg6
                  have hcell6 : w6.cell? ⟨w2.heap.size, 2, none⟩ = some (.int .i64 (d : Int)) := by
                    rw [World.cell?_of_block (a := ⟨w2.heap.size, 2, none⟩) (hg6.block w2.heap.size (World.block_lt_of_cell? _ _ hcell2) (fun h => Nat.lt_irrefl _ (HOB.out _ h.symm)))]
                    exact hcell2
                  clear hr6 hg6
                  go_wp2
                  go_roundw
                  case rel => exact ⟨q + d, L ++ EB.data.toList, E, by go_num, HR6.out, HN.out, by omega, HLL.out, by omega, HB6.out⟩
                  case measure => simp [intOf]; omega
    · have HXX : Hid (X = (⟨#[]⟩, 0, 25)) := by show _ = _; rw [← HC.out]; exact con_out z q L E (by rw [HZS.out]; omega)
      rw [HXX.out] at HU
      have HF : Hid (unq s k = (⟨#[]⟩, 0, 25)) := by show _ = _; rw [HU.out, if_pos (by simp)]; rfl
      clear HU HC HAT HDE HST HCC
      go_wp2
      go_ret3
      exact ⟨by rw [HF.out]; rfl, hbel⟩
set_option maxRecDepth 100000 in
set_option maxHeartbeats 1000000 in
theorem runq_any (s : ByteArray) (at_ : Int) (w : World) (hs : s.size ≤ 200000) (hT : TabP 2 .i64 hids w) :
    Calls Tryz.prog 65 #[.string s, .int .i64 at_] w fun e w' => e = .returned (.tuple #[.string (unq s at_).1, .int .i64 (unq s at_).2.1, .int .i64 (unq s at_).2.2]) ∧ Below w.heap.size w w' := by
  by_cases h0 : at_ < 0
  · have HF : Hid (unq s at_ = (⟨#[]⟩, 0, 1)) := by show _ = _; unfold unq; rw [if_pos (.inl h0)]
    rw [HF.out]
    go_enter Tryz.func65, Tryz.ntmps65
    go_wp2
    go_ret3
    exact ⟨rfl, Below.refl _ _⟩
  by_cases h1 : (s.size : Int) < at_
  · have HF : Hid (unq s at_ = (⟨#[]⟩, 0, 1)) := by show _ = _; unfold unq; rw [if_pos (.inr h1)]
    rw [HF.out]
    go_enter Tryz.func65, Tryz.ntmps65
    go_wp2
    go_ret3
    exact ⟨rfl, Below.refl _ _⟩
  have n1 : ¬ (at_ < 0 ∨ (s.size : Int) < at_) := by omega
  obtain ⟨k, rfl⟩ := Int.eq_ofNat_of_zero_le (by omega : 0 ≤ at_)
  have hk : k ≤ s.size := by omega
  clear h0 h1
  by_cases h2 : k = s.size
  · have HF : Hid (unq s k = (⟨#[]⟩, 0, 24)) := by show _ = _; unfold unq; rw [if_neg n1, if_pos (.inl (by rw [h2]))]
    rw [HF.out]
    have t2 : ((k : Int) == (s.size : Int)) = true := by rw [h2]; exact beq_self_eq_true _
    clear h2 n1
    go_enter Tryz.func65, Tryz.ntmps65
    go_wp2
    go_ret3
    exact ⟨rfl, Below.refl _ _⟩
  have hlt : k < s.size := by omega
  have t2 : ((k : Int) == (s.size : Int)) = false := by rw [beq_eq_false_iff_ne]; omega
  have g0 := at_get s k hlt
  by_cases h3 : at' s k = 34
  · exact runq_in s k w hs hlt (by rw [← g0]; exact h3) hT
  · have HF : Hid (unq s k = (⟨#[]⟩, 0, 24)) := by show _ = _; unfold unq; rw [if_neg n1, if_pos (.inr (by rw [Int.toNat_natCast]; exact h3))]
    rw [HF.out]
    rw [g0] at h3
    have t3 : (((s[k]'hlt).toNat : Int) != (34 : Int)) = true := by rw [bne_iff_ne]; omega
    clear n1 g0 h3 h2
    go_enter Tryz.func65, Tryz.ntmps65
    go_wp2
    go_ret3
    exact ⟨rfl, Below.refl _ _⟩

end Go.Proofs.YtcnnpohnfoaceaaGreatDoor.Text
