import Derived.Test.YtneifdbcjicfgaaDoorQJ4
import Derived.Test.YtneifdbcjicfgaaDoorQK
/-
  The reference: shown, Quote.
-/
namespace Go.Proofs.YtneifdbcjicfgaaDoor
open Go Go.RowKit Go.Lib
open Tx

namespace Tx
theorem ba_list (E : ByteArray) : (⟨E.data.toList.toArray⟩ : ByteArray) = E := by cases E; rfl
theorem hexL_two (c : Nat) (h0 : 16 ≤ c) (h1 : c < 256) : hexL c = [hexD (c / 16), hexD (c % 16)] := by
  rw [hexL_hi c (by omega), hexL_lo (c / 16) (by omega)]
  rfl
theorem app_list (a b : List UInt8) : (⟨a.toArray⟩ : ByteArray) ++ ⟨b.toArray⟩ = ⟨(a ++ b).toArray⟩ := by
  apply ByteArray.ext
  rw [ByteArray.data_append]
  simp
theorem hexB_two (c : Nat) (h0 : 16 ≤ c) (h1 : c < 256) : (⟨#[92, 120]⟩ : ByteArray) ++ ⟨(hexL c).toArray⟩ = hexB c := by
  rw [hexL_two c h0 h1]
  exact app_list [92, 120] [hexD (c / 16), hexD (c % 16)]
theorem hexB_one (c : Nat) (h0 : c < 16) : (⟨#[92, 120, 48]⟩ : ByteArray) ++ ⟨(hexL c).toArray⟩ = hexB c := by
  rw [hexL_lo c h0]
  have e1 : hexB c = ⟨#[92, 120, hexD 0, hexD c]⟩ := by unfold hexB; rw [Nat.div_eq_of_lt h0, Nat.mod_eq_of_lt h0]
  rw [e1]
  exact app_list [92, 120, 48] [hexD c]
theorem hexL_size (r : Nat) (hr : r ≤ 1114111) : (hexL r).length ≤ 6 := hexL_len 5 r (by omega)
end Tx
set_option maxRecDepth 100000 in
set_option maxHeartbeats 2000000 in
theorem shown_any (s : ByteArray) (q : Nat) (w : World) (hs : s.size ≤ 1000000) (hq : q < s.size) (hT : TabP 3 .i64 hids w) :
    Calls Tryd.prog 78 #[.string s, .agg #[.int .i64 (pcR s q), .int .i64 (q : Int), .int .i64 ((Utf8.decode s q).2 : Int)]] w fun e w' => e = .returned (.string (pcW s q)) ∧ Below w.heap.size w w' := by
  have HT : Hid (∀ w', Below w.heap.size w w' → TabP 3 .i64 hids w') := fun w' hb => hT.kept hb
  clear hT
  have g0 := at_get s q hq
  have hcl := at_lt s q
  have hdf := decode_fits s q hq
  cases hst : stray s q with
  | true =>
    have HW : Hid (pcW s q = hexB (at' s q)) := by show _ = _; unfold pcW; rw [if_pos hst]
    have HR : Hid (pcR s q = -1) := by show _ = _; unfold pcR; rw [if_pos hst]
    have h128 : 128 ≤ at' s q := by
      unfold stray at hst
      rw [Bool.and_eq_true, decide_eq_true_eq] at hst
      exact hst.1
    rw [HR.out, HW.out]
    have gc : (s[q]'hq).toNat = at' s q := g0.symm
    have HX : Hid (⟨#[92, 120]⟩ ++ ⟨(hexL (at' s q)).toArray⟩ = hexB (at' s q)) := hexB_two _ (by omega) hcl
    have HHX : Hid (∀ w', Calls Tryd.prog 93 #[.int .i64 (at' s q : Int)] w' fun e w'' => e = .returned (.string ⟨(hexL (at' s q)).toArray⟩) ∧ w'' = w') := fun w' => hex_any _ w' (by omega)
    have hln : (hexL (at' s q)).length ≤ 6 := hexL_size _ (by omega)
    generalize at' s q = c at *
    generalize hexL c = H at *
    generalize (Utf8.decode s q).2 = d at *
    clear g0 hst
    go_enter Tryd.func78, Tryd.ntmps78
    go_wp2_with fail
    refine (HHX.out _).mono ?_
    rintro e w1 ⟨rfl, rfl⟩
    go_wp2
    go_ret
    exact ⟨by rw [← HX.out]; rfl, up0 _ _⟩
  | false =>
    have HW : Hid (pcW s q = wrt (Utf8.decode s q).1) := by show _ = _; unfold pcW; rw [if_neg (by simp [hst])]
    have HR : Hid (pcR s q = ((Utf8.decode s q).1 : Int)) := by show _ = _; unfold pcR; rw [if_neg (by simp [hst])]
    have hed := enc_dec s q hq hst
    have hval := dec_valid s q
    rw [HR.out, HW.out]
    have HCUT : Hid (s.extract q (q + (Utf8.decode s q).2) = Utf8.encode ((Utf8.decode s q).1 : Int)) := by
      show _ = _
      have h9 := has_extract hed.1 (by rw [list_size, hed.2]; exact hdf.2.1)
      rw [list_size, hed.2, ba_list] at h9
      exact h9
    have hv2 := valid_two _ hval
    clear g0 hst hed
    generalize (Utf8.decode s q).1 = r at *
    generalize (Utf8.decode s q).2 = d at *
    have HHX : Hid (∀ w', Calls Tryd.prog 93 #[.int .i64 (r : Int)] w' fun e w'' => e = .returned (.string ⟨(hexL r).toArray⟩) ∧ w'' = w') := fun w' => hex_any _ w' (by omega)
    have hln : (hexL r).length ≤ 6 := hexL_size _ (by omega)
    clear hv2 hval
    by_cases c34 : r = 34
    · subst c34
      clear HHX hln
      go_enter Tryd.func78, Tryd.ntmps78
      go_wp2
      go_ret
      exact ⟨rfl, up0 _ _⟩
    by_cases c92 : r = 92
    · subst c92
      clear HHX hln
      go_enter Tryd.func78, Tryd.ntmps78
      go_wp2
      go_ret
      exact ⟨rfl, up0 _ _⟩
    by_cases c10 : r = 10
    · subst c10
      clear HHX hln
      go_enter Tryd.func78, Tryd.ntmps78
      go_wp2
      go_ret
      exact ⟨rfl, up0 _ _⟩
    by_cases c9 : r = 9
    · subst c9
      clear HHX hln
      go_enter Tryd.func78, Tryd.ntmps78
      go_wp2
      go_ret
      exact ⟨rfl, up0 _ _⟩
    by_cases c13 : r = 13
    · subst c13
      clear HHX hln
      go_enter Tryd.func78, Tryd.ntmps78
      go_wp2
      go_ret
      exact ⟨rfl, up0 _ _⟩
    have n34 : ¬ (r = 34 ∨ r = 92) := fun h => h.elim c34 c92
    have t1 : ((r : Int) == (34 : Int)) = false := by rw [beq_eq_false_iff_ne]; omega
    have t2 : ((r : Int) == (92 : Int)) = false := by rw [beq_eq_false_iff_ne]; omega
    have t3 : ((r : Int) == (10 : Int)) = false := by rw [beq_eq_false_iff_ne]; omega
    have t4 : ((r : Int) == (9 : Int)) = false := by rw [beq_eq_false_iff_ne]; omega
    have t5 : ((r : Int) == (13 : Int)) = false := by rw [beq_eq_false_iff_ne]; omega
    by_cases c16 : r < 16
    · have HX : Hid (⟨#[92, 120, 48]⟩ ++ ⟨(hexL r).toArray⟩ = wrt r) := by
        show _ = _
        rw [hexB_one r c16]
        unfold wrt
        rw [if_neg n34, if_neg c10, if_neg c9, if_neg c13, if_pos (by unfold ctl; rw [decide_eq_true (by omega)]; rfl)]
      generalize wrt r = Z at *
      generalize hexL r = H at *
      clear n34 c34 c92 c10 c9 c13 HCUT
      go_enter Tryd.func78, Tryd.ntmps78
      go_wp2_with fail
      refine (HHX.out _).mono ?_
      rintro e w1 ⟨rfl, rfl⟩
      go_wp2
      go_ret
      exact ⟨by rw [← HX.out]; rfl, up0 _ _⟩
    by_cases c32 : r < 32 ∨ r = 127
    · have HX : Hid (⟨#[92, 120]⟩ ++ ⟨(hexL r).toArray⟩ = wrt r) := by
        show _ = _
        rw [hexB_two r (by omega) (by omega)]
        unfold wrt
        rw [if_neg n34, if_neg c10, if_neg c9, if_neg c13, if_pos (by unfold ctl; rw [Bool.or_eq_true, decide_eq_true_eq, decide_eq_true_eq]; omega)]
      generalize wrt r = Z at *
      generalize hexL r = H at *
      clear n34 c34 c92 c10 c9 c13 HCUT
      by_cases k32 : r < 32
      · clear c32
        go_enter Tryd.func78, Tryd.ntmps78
        go_wp2_with fail
        refine (HHX.out _).mono ?_
        rintro e w1 ⟨rfl, rfl⟩
        go_wp2
        go_ret
        exact ⟨by rw [← HX.out]; rfl, up0 _ _⟩
      · obtain rfl : r = 127 := by omega
        clear c32
        go_enter Tryd.func78, Tryd.ntmps78
        go_wp2_with fail
        refine (HHX.out _).mono ?_
        rintro e w1 ⟨rfl, rfl⟩
        go_wp2
        go_ret
        exact ⟨by rw [← HX.out]; rfl, up0 _ _⟩
    have k32 : 32 ≤ r := by omega
    have t6 : ((r : Int) == (127 : Int)) = false := by rw [beq_eq_false_iff_ne]; omega
    have HCT : Hid (ctl (r : Int) = false) := by show _ = _; unfold ctl; rw [decide_eq_false (by omega), decide_eq_false (by omega)]; rfl
    have HHD : Hid (∀ w', Below w.heap.size w w' → Calls Tryd.prog 65 #[.int .i64 (r : Int)] w' fun e w'' => e = .returned (.bool (among hids (r : Int))) ∧ ∃ n, w'' = w'.drewN n) := fun w' hb => rhid_any _ w' (HT.out _ hb)
    cases hh : among hids (r : Int) with
    | true =>
      have HX : Hid (⟨#[92, 117, 123]⟩ ++ ⟨(hexL r).toArray⟩ ++ ⟨#[125]⟩ = wrt r) := by
        show _ = _
        unfold wrt
        rw [if_neg n34, if_neg c10, if_neg c9, if_neg c13, if_neg (by rw [HCT.out]; simp), if_pos hh]
      rw [hh] at HHD
      generalize wrt r = Z at *
      generalize hexL r = H at *
      clear n34 c34 c92 c10 c9 c13 HCUT hh HCT c32
      go_enter Tryd.func78, Tryd.ntmps78
      go_wp2_with fail
      refine (HHD.out _ (up0 _ _)).mono ?_
      rintro e w1 ⟨rfl, n1, hn1⟩
      have B1 : Below w.heap.size w w1 := by rw [hn1]; exact below_drewN (up0 _ _) n1
      have hcell : w1.cell? ⟨w.heap.size, 0, none⟩ = some (.int .i64 (r : Int)) := by rw [hn1]; exact World.cell?_alloc_new w _ _ 0
      clear hn1
      go_wp2_with fail
      refine (HHX.out _).mono ?_
      rintro e w2 ⟨rfl, rfl⟩
      go_wp2
      go_ret
      exact ⟨by rw [← HX.out]; rfl, B1⟩
    | false =>
      have HX : Hid (s.extract q (q + d) = wrt r) := by
        show _ = _
        rw [HCUT.out]
        unfold wrt
        rw [if_neg n34, if_neg c10, if_neg c9, if_neg c13, if_neg (by rw [HCT.out]; simp), if_neg (by rw [hh]; simp)]
      rw [hh] at HHD
      generalize wrt r = Z at *
      generalize hexL r = H at *
      clear n34 c34 c92 c10 c9 c13 HCUT hh HCT c32 HHX
      go_enter Tryd.func78, Tryd.ntmps78
      go_wp2_with fail
      refine (HHD.out _ (up0 _ _)).mono ?_
      rintro e w1 ⟨rfl, n1, hn1⟩
      have B1 : Below w.heap.size w w1 := by rw [hn1]; exact below_drewN (up0 _ _) n1
      have hcell1 : w1.cell? ⟨w.heap.size, 1, none⟩ = some (.int .i64 (q : Int)) := by rw [hn1]; exact World.cell?_alloc_new w _ _ 1
      have hcell2 : w1.cell? ⟨w.heap.size, 2, none⟩ = some (.int .i64 (d : Int)) := by rw [hn1]; exact World.cell?_alloc_new w _ _ 2
      clear hn1
      go_wp2
      go_ret
      exact ⟨by rw [← HX.out]; rfl, B1⟩
end Go.Proofs.YtneifdbcjicfgaaDoor

/-
  The reference: Quote.
-/
namespace Go.Proofs.YtneifdbcjicfgaaDoor
open Go Go.RowKit Go.Lib
open Tx

namespace Tx
/-- how pieces stand in a literal -/
def pcL (s : ByteArray) (l : List Nat) : List UInt8 := l.flatMap fun q => (pcW s q).data.toList
theorem pcL_all (s : ByteArray) : ∀ (k p : Nat), s.size - p ≤ k → pcL s (pcs s p) = qs s p
  | 0, p, hk => by rw [pcs_out s p (by omega), qs_out s p (by omega)]; rfl
  | k + 1, p, hk => by
    by_cases h : p < s.size
    · have hd := decode_fits s p h
      rw [pcs_in s p h, qs_in s p h, ← pcL_all s k (p + (Utf8.decode s p).2) (by omega)]
      rfl
    · rw [pcs_out s p h, qs_out s p h]; rfl
theorem pcL_drop (s : ByteArray) (l : List Nat) (k : Nat) (h : k < l.length) : pcL s (l.drop k) = (pcW s l[k]).data.toList ++ pcL s (l.drop (k + 1)) := by
  rw [List.drop_eq_getElem_cons h]
  rfl
theorem pcs_in_range (s : ByteArray) : ∀ (n p : Nat), s.size - p ≤ n → ∀ q ∈ pcs s p, q < s.size
  | 0, p, hk => by rw [pcs_out s p (by omega)]; intro q hq; cases hq
  | n + 1, p, hk => by
    by_cases h : p < s.size
    · have hd := decode_fits s p h
      rw [pcs_in s p h]
      intro q hq
      rcases List.mem_cons.1 hq with rfl | hq
      · exact h
      · exact pcs_in_range s n _ (by omega) q hq
    · rw [pcs_out s p h]; intro q hq; cases hq
theorem pcs_short (s : ByteArray) : ∀ (k p : Nat), s.size - p ≤ k → (pcs s p).length ≤ k
  | 0, p, hk => by rw [pcs_out s p (by omega)]; simp
  | k + 1, p, hk => by
    by_cases h : p < s.size
    · have hd := decode_fits s p h
      have := pcs_short s k (p + (Utf8.decode s p).2) (by omega)
      rw [pcs_in s p h, List.length_cons]
      omega
    · rw [pcs_out s p h]; simp
end Tx

set_option maxRecDepth 100000 in
set_option maxHeartbeats 4000000 in
theorem rquote_any (s : ByteArray) (w : World) (hs : s.size ≤ 1000000) (hT : TabP 3 .i64 hids w) :
    Calls Tryd.prog 66 #[.string s] w fun e w' => e = .returned (.string (quo s)) ∧ Below w.heap.size w w' := by
  have hin := info5q
  have HT : Hid (∀ w', Below w.heap.size w w' → TabP 3 .i64 hids w') := fun w' hb => hT.kept hb
  obtain ⟨T, hTT⟩ : ∃ T, 34 :: qs s 0 = T := ⟨_, rfl⟩
  have HQ : Hid (quo s = ⟨(T ++ [34]).toArray⟩) := by show _ = _; unfold quo; rw [← hTT]; rfl
  have HQ0 : Hid ([34] ++ pcL s ((pcs s 0).drop 0) = T) := by show _ = _; rw [List.drop_zero, pcL_all s _ 0 (Nat.le_refl _), ← hTT]; rfl
  have HP : Hid (∀ w', Calls Tryd.prog 41 #[.string s] w' fun e w'' => ∃ v, e = .returned v ∧ Pcs w'.heap.size w'' v s (pcs s 0) ∧ Below w'.heap.size w' w'') := fun w' => pieces_any s w' (by omega)
  have HPR : Hid (∀ q ∈ pcs s 0, q < s.size) := pcs_in_range s _ 0 (Nat.le_refl _)
  have hpl := pcs_short s s.size 0 (by omega)
  clear hT hTT
  generalize quo s = Z at *
  generalize pcs s 0 = R at *
  go_enter Tryd.func66, Tryd.ntmps66
  go_wp2_with fail
  refine (HP.out _).mono ?_
  rintro e w1 ⟨v1, rfl, hp1, b1⟩
  obtain ⟨ao1, cap1, rfl, hcap1, hsome1, hcell1⟩ := hp1.shape
  have HC1 : Hid (∀ k (hk : k < R.length), ∃ g, ao1 = some ⟨g, 0, none⟩ ∧ w1.cell? ⟨g, k * 3, none⟩ = some (.int .i64 (pcR s R[k])) ∧ w1.cell? ⟨g, k * 3 + 1, none⟩ = some (.int .i64 (R[k] : Int)) ∧ w1.cell? ⟨g, k * 3 + 2, none⟩ = some (.int .i64 ((Utf8.decode s R[k]).2 : Int))) := by
    intro k hk
    obtain ⟨g, hg⟩ := hsome1 k hk
    exact ⟨g, hg, hcell1 g hg k hk⟩
  have R1 : Hid (∀ o, Ro w1.heap.size (w1.alloc o) (.slice none 0 0) []) := fun o => ro_nil _ _
  have hs1 := b1.size
  have HB1 : Hid (Below w.heap.size w w1) := b1
  clear hp1 hsome1 hcell1 HP b1 hcap1
  go_wp2_with (at_builtin; refine wpList_app_one _ rfl (.tmp 10) (.tmp 11) 72 rfl w1.heap.size hin Tryd.underlying72 _ [] rfl (R1.out _) _ 34 rfl (World.cell?_alloc_new w1 _ _ 0) (by simp) (by simp) ?_)
  intro v2 w2 hr2 hg2
  have B2 : Below w1.heap.size w1 w2 := (R1.out _).below (up0 _ _) hg2
  have HR2 : Hid (Ro w1.heap.size w2 v2 [34]) := hr2
  have HB2 : Hid (Below w1.heap.size w1 w2) := B2
  obtain ⟨ao2, cap2, e2⟩ := hr2.shape
  obtain rfl : v2 = .slice ao2 1 cap2 := e2
  clear hr2 hg2 B2 R1
  go_wp2
  go_loopw [4, 5] (fun o i wr => ∃ (k : Nat) (L : List UInt8), k ≤ R.length ∧ i = .int .i64 (k : Int) ∧ Ro w1.heap.size wr o L ∧ L ++ pcL s (R.drop k) = T ∧ L.length ≤ 1 + 12 * k ∧ Below w1.heap.size w1 wr) (fun _ i _ => R.length - (intOf i).toNat)
  case atStart => exact ⟨0, [34], Nat.zero_le _, rfl, HR2.out, HQ0.out, by simp, HB2.out⟩
  case round =>
    obtain ⟨k, L, hk, rfl, hro, hL, hlen, hbel⟩ := hrel
    have HL : Hid (L ++ pcL s (R.drop k) = T) := hL
    clear hL HQ0 HR2 HB2
    obtain ⟨ao3, cap3, rfl⟩ := hro.shape
    by_cases hlt : k < R.length
    · obtain ⟨g, rfl, d0, d1, d2⟩ := HC1.out k hlt
      have c0 := (hbel.cell (p := ⟨g, k * 3, none⟩) (World.block_lt_of_cell? _ _ d0)).trans d0
      have c1 := (hbel.cell (p := ⟨g, k * 3 + 1, none⟩) (World.block_lt_of_cell? _ _ d1)).trans d1
      have c2 := (hbel.cell (p := ⟨g, k * 3 + 2, none⟩) (World.block_lt_of_cell? _ _ d2)).trans d2
      have hq := HPR.out R[k] (List.getElem_mem hlt)
      have HW12 : Hid ((pcW s R[k]).size ≤ 12) := pcW_le s R[k]
      have HSH : Hid (∀ w', Below w.heap.size w w' → Calls Tryd.prog 78 #[.string s, .agg #[.int .i64 (pcR s R[k]), .int .i64 (R[k] : Int), .int .i64 ((Utf8.decode s R[k]).2 : Int)]] w' fun e w'' => e = .returned (.string (pcW s R[k])) ∧ Below w'.heap.size w' w'') := fun w' hb => shown_any s R[k] w' hs hq (HT.out _ hb)
      have HNX : Hid (L ++ ((pcW s R[k]).data.toList ++ pcL s (R.drop (k + 1))) = T) := by show _ = _; rw [← pcL_drop s R k hlt]; exact HL.out
      have HBW : Hid (Below w.heap.size w wr) := andThen HB1.out hbel
      clear d0 d1 d2 HL HC1 HPR hq
      generalize pcR s R[k] = f0 at *
      generalize (Utf8.decode s R[k]).2 = f2 at *
      generalize pcW s R[k] = W at *
      generalize R[k] = f1 at *
      go_wp2_with fail
      refine (HSH.out _ HBW.out).mono ?_
      rintro e w3 ⟨rfl, b3⟩
      have hbel3 := andThen hbel b3
      have HR3 : Hid (Ro w1.heap.size w3 (.slice ao3 L.length cap3) L) := hro.kept b3
      clear b3 hbel hro HBW HSH c0 c1 c2
      have hW := HW12.out
      go_wp2
      go_loopw [4, 7] (fun o j wq => ∃ (n : Nat) (M : List UInt8), n ≤ W.size ∧ j = .int .i64 (n : Int) ∧ Ro w1.heap.size wq o M ∧ M = L ++ W.data.toList.take n ∧ Below w1.heap.size w1 wq) (fun _ j _ => W.size - (intOf j).toNat)
      case atStart => exact ⟨0, L, Nat.zero_le _, rfl, HR3.out, by simp, hbel3⟩
      case round =>
        obtain ⟨n, M, hn, rfl, hroM, hM, hbelM⟩ := hrel
        have HM : Hid (M = L ++ W.data.toList.take n) := hM
        have hMl : M.length ≤ 1 + 12 * k + 12 := by rw [hM, List.length_append, List.length_take]; omega
        clear hM HR3
        obtain ⟨ao5, cap5, rfl⟩ := hroM.shape
        by_cases hln : n < W.size
        · have HMN : Hid (M ++ [W[n]'hln] = L ++ W.data.toList.take (n + 1)) := by
            show _ = _
            have hl2 : n < W.data.toList.length := by rw [list_size]; exact hln
            rw [HM.out, List.take_succ_eq_append_getElem hl2, List.append_assoc]
            rfl
          have HR5 : Hid (∀ o, Ro w1.heap.size (wr.alloc o) (.slice ao5 M.length cap5) M) := fun o => hroM.kept (up0 _ _)
          have HB5 : Hid (∀ o, Below w1.heap.size w1 (wr.alloc o)) := fun o => up hbelM o
          have hs5 := hbelM.size
          clear hroM hbelM HM
          go_wp2_with (at_builtin; refine wpList_app_one _ rfl (.tmp 31) (.tmp 35) 72 rfl w1.heap.size hin Tryd.underlying72 _ M rfl (HR5.out _) _ (W[n]'hln) rfl (World.cell?_alloc_new wr _ _ 0) (by omega) (by simp; omega) ?_)
          intro v6 w6 hr6 hg6
          have HR6 : Hid (Ro w1.heap.size w6 v6 (L ++ W.data.toList.take (n + 1))) := by show Ro _ _ _ _; rw [← HMN.out]; exact hr6
          have HB6 : Hid (Below w1.heap.size w1 w6) := (HR5.out _).below (HB5.out _) hg6
          clear hr6 hg6 HR5 HB5
          go_wp2
          go_roundw
          case rel => exact ⟨n + 1, _, by omega, by go_num, HR6.out, rfl, HB6.out⟩
          case measure => simp [intOf]; omega
        · have HME : Hid (M = L ++ W.data.toList) := by
            show _ = _
            rw [HM.out, List.take_of_length_le (by rw [list_size]; omega)]
          have HNX2 : Hid (M ++ pcL s (R.drop (k + 1)) = T) := by show _ = _; rw [HME.out, List.append_assoc]; exact HNX.out
          have HML : Hid (M.length ≤ 1 + 12 * (k + 1)) := by show _ ≤ _; omega
          clear HM HNX
          go_wp2
          go_roundw
          case rel => exact ⟨k + 1, M, by omega, by go_num, hroM, HNX2.out, HML.out, hbelM⟩
          case measure => simp [intOf]; omega
    · have HF : Hid (L = T) := by
        show _ = _
        have := HL.out
        rw [List.drop_of_length_le (by omega)] at this
        have e0 : pcL s [] = [] := rfl
        rw [e0, List.append_nil] at this
        exact this
      have HR5 : Hid (∀ o, Ro w1.heap.size (wr.alloc o) (.slice ao3 L.length cap3) L) := fun o => hro.kept (up0 _ _)
      have HB5 : Hid (∀ o, Below w1.heap.size w1 (wr.alloc o)) := fun o => up hbel o
      have hs5 := hbel.size
      clear hro hbel HL
      go_wp2_with (at_builtin; refine wpList_app_one _ rfl (.tmp 37) (.tmp 38) 72 rfl w1.heap.size hin Tryd.underlying72 _ L rfl (HR5.out _) _ 34 rfl (World.cell?_alloc_new wr _ _ 0) (by omega) (by simp; omega) ?_)
      intro v6 w6 hr6 hg6
      have HB6 : Hid (Below w.heap.size w w6) := andThen HB1.out ((HR5.out _).below (HB5.out _) hg6)
      have hcv := hr6.str (by simp)
      obtain ⟨ao6, cap6, e6⟩ := hr6.shape
      rw [List.length_append] at e6
      obtain rfl : v6 = .slice ao6 (L.length + 1) cap6 := e6
      have HFF : Hid (Z = ⟨(L ++ [34]).toArray⟩) := by show _ = _; rw [HQ.out, HF.out]
      rw [← HFF.out] at hcv
      clear hr6 hg6 HR5 HB5
      go_wp2
      go_ret
      exact ⟨rfl, HB6.out⟩
end Go.Proofs.YtneifdbcjicfgaaDoor
