import Derived.Test.YtneifdbcjicfgaaDoorQM8
/-
  The reference: Words.
-/
namespace Go.Proofs.YtneifdbcjicfgaaDoor
open Go Go.RowKit
open Tx

set_option maxRecDepth 100000 in
set_option maxHeartbeats 8000000 in
theorem rwords_any (s : ByteArray) (w : World) (hT : TabP 1 .i64 lets w) (hH : TabP 3 .i64 hids w) :
    Calls Tryd.prog 12 #[.string s] w fun e w' => ∃ v, e = .returned (.tuple #[v, .int .i64 (wdA s).2.1, .int .i64 (wdA s).2.2]) ∧ WdR w.heap.size w' v (wdA s).1 ∧ Below w.heap.size w w' := by
  by_cases h6 : 65536 < s.size
  · have HA : Hid (wdA s = ([], 2, 65536)) := by
      show _ = _
      unfold wdA
      rw [if_pos h6]
    rw [HA.out]
    clear HA hT hH
    go_enter Tryd.func12, Tryd.ntmps12
    go_wp2
    go_ret3
    exact ⟨_, rfl, WdR.nil _ _, Below.refl _ _⟩
  · obtain ⟨A, hA⟩ : ∃ A, wdA s = A := ⟨_, rfl⟩
    have HA : Hid (fin [] (wds s 0) = A) := by
      show _ = _
      rw [← hA]
      unfold wdA
      rw [if_neg h6, fin_nil]
    rw [hA]
    clear hA
    have HTL : Hid (∀ w', Below w.heap.size w w' → TabP 1 .i64 lets w') := fun w' hb => hT.kept hb
    have HTH : Hid (∀ w', Below w.heap.size w w' → TabP 3 .i64 hids w') := fun w' hb => hH.kept hb
    clear hT hH
    go_enter Tryd.func12, Tryd.ntmps12
    go_wp2
    go_loopw [5, 6] (fun vw vi wr => ∃ (p : Nat) (acc : List Wd), vi = .int .i64 (p : Int) ∧ p ≤ s.size ∧ acc.length ≤ p ∧ WdR w.heap.size wr vw acc ∧ fin acc (wds s p) = A ∧ Below w.heap.size w wr) (fun _ vi _ => s.size - (intOf vi).toNat)
    case atStart => exact ⟨0, [], rfl, Nat.zero_le _, Nat.le_refl _, WdR.nil _ _, HA.out, Below.refl _ _⟩
    case round =>
      obtain ⟨p, acc, rfl, hp, hal, hr, hfa, hbel⟩ := hrel
      have HFA : Hid (fin acc (wds s p) = A) := hfa
      have HR : Hid (WdR w.heap.size wr u5 acc) := hr
      clear HA hfa
      obtain ⟨aw, cw, ew⟩ := hr.shape
      subst ew
      clear hr
      by_cases hlt : p < s.size
      · have hg : (s[p]'hlt).toNat = at' s p := (at_get s p hlt).symm
        by_cases h35 : at' s p = 35
        · have HF : Hid (A = (acc, 0, 0)) := by
            show A = _
            rw [← HFA.out, wds_hash s p hlt h35]
            unfold fin
            simp
          rw [h35] at hg
          clear HFA
          go_wp2
          go_ret3
          rw [HF.out]
          exact ⟨_, rfl, HR.out, hbel⟩
        · have hb35 : ((at' s p : Int) != 35) = true := by simp; omega
          cases hbk : blk (at' s p) with
          | true =>
            have HBK : Hid (∀ w', Calls Tryd.prog 31 #[.int .u8 (at' s p : Int)] w' fun e w'' => e = .returned (.bool true) ∧ w'' = w') := fun w' => by
              have h9 := rblank_any (at' s p) w'
              rw [hbk] at h9
              exact h9
            have HF : Hid (fin acc (wds s (p + 1)) = A) := by
              show _ = A
              rw [← HFA.out, wds_blank s p hlt h35 hbk]
            clear HFA hbk h35
            generalize at' s p = c at *
            go_wp2_with fail
            refine (HBK.out _).mono ?_
            rintro e w2 ⟨rfl, rfl⟩
            go_wp2
            go_roundw
            case rel => exact ⟨p + 1, acc, by go_num, by omega, by omega, HR.out, HF.out, hbel⟩
            case measure => simp [intOf]; omega
          | false =>
            have HBK : Hid (∀ w', Calls Tryd.prog 31 #[.int .u8 (at' s p : Int)] w' fun e w'' => e = .returned (.bool false) ∧ w'' = w') := fun w' => by
              have h9 := rblank_any (at' s p) w'
              rw [hbk] at h9
              exact h9
            have HWD : Hid (∀ w', Below w.heap.size w w' → Calls Tryd.prog 32 #[.string s, .int .i64 (p : Int)] w' fun e w'' => e = .returned (rans (wordP s p)) ∧ Below w'.heap.size w' w'') := fun w' hb => rword_any s p w' hlt (by omega) (HTL.out _ hb) (HTH.out _ hb)
            cases hwp : wordP s p with
            | inr ep =>
              obtain ⟨er, pl⟩ := ep
              have hne := wordP_err s p _ hwp
              simp only at hne
              have HF : Hid (A = ([], er, pl)) := by
                show A = _
                rw [← HFA.out, wds_bad s p hlt h35 hbk _ hwp]
                unfold fin
                rw [if_neg hne]
              have hne' : (er != 0) = true := by simp [hne]
              rw [hwp] at HWD
              unfold rans wdv zeroW at HWD
              simp only at HWD
              clear HFA hbk h35 hwp
              generalize at' s p = c at *
              go_wp2_with fail
              refine (HBK.out _).mono ?_
              rintro e w2 ⟨rfl, rfl⟩
              go_wp2_with fail
              refine (HWD.out _ hbel).mono ?_
              rintro e w5 ⟨rfl, b5⟩
              have HB5 : Hid (∀ o, Below w.heap.size w (w5.alloc o)) := fun o => up (andThen hbel b5) o
              clear b5 HWD HBK
              go_wp2
              go_ret3
              rw [HF.out]
              exact ⟨_, rfl, WdR.nil _ _, HB5.out _⟩
            | inl de =>
              obtain ⟨d, en⟩ := de
              have h9 := word_end s p hlt d en hwp
              have hen1 := h9.1
              have hen2 := h9.2.1
              have HBH : Hid (fin (acc ++ [d]) (bhd s d.k en) = A) := by
                show _ = A
                rw [← HFA.out, wds_word s p hlt h35 hbk d en hwp, fin_fin]
              rw [hwp] at HWD
              unfold rans wdv at HWD
              simp only at HWD
              clear HFA hbk h35 hwp h9
              generalize at' s p = c at *
              go_wp2_with fail
              refine (HBK.out _).mono ?_
              rintro e w2 ⟨rfl, rfl⟩
              go_wp2_with fail
              refine (HWD.out _ hbel).mono ?_
              rintro e w5 ⟨rfl, b5⟩
              have HY : Hid (WdR w.heap.size w5 (.slice aw acc.length cw) acc ∧ Below w.heap.size w w5) := ⟨HR.out.kept b5, andThen hbel b5⟩
              clear b5 HWD HBK HR hbel
              go_upto_region 11 with fail
              obtain ⟨WX, hWX⟩ : ∃ WX, WX = w5.alloc (.cells #[.int .i64 d.k, .int .i64 d.at_, .string d.t, .int .i64 d.n] 24) := ⟨_, rfl⟩
              have hx0 : Wx WX w5.heap.size d := by rw [hWX]; exact wx_new w5 d 24
              have hx1 : WdR w.heap.size WX (.slice aw acc.length cw) acc := by rw [hWX]; exact HY.out.1.kept (up0 _ _)
              have hx3 : Below w.heap.size w WX := by rw [hWX]; exact up HY.out.2 _
              have hx4 : ∀ q, (Value.slice aw acc.length cw).ownBlock = some q → q < w5.heap.size := fun q hq => (World.ownsRow.lt HY.out.1 q hq).2
              have hx5 : WX.heap.size = w5.heap.size + 1 := by rw [hWX, heapW]
              rw [← hWX]
              obtain ⟨gX, hgX⟩ : ∃ gX, gX = w5.heap.size := ⟨_, rfl⟩
              rw [← hgX] at hx0 hx4 hx5 ⊢
              have HZ : Hid (∀ o, WdR w.heap.size (WX.alloc o) (.slice aw acc.length cw) acc ∧ w.heap.size ≤ (WX.alloc o).heap.size ∧ Below w.heap.size w (WX.alloc o) ∧ Wx (WX.alloc o) gX d ∧ gX < (WX.alloc o).heap.size) := fun o => by
                refine ⟨hx1.kept (up0 _ _), (up hx3 o).size, up hx3 o, hx0.block ((up0 WX o).block gX (by omega)), ?_⟩
                rw [heapW]; omega
              have HCC : Hid (∀ t j u, (wdc d)[j]? = some u → (WX.alloc (.cells #[.int .i64 d.k, .int .i64 d.at_, .string d.t, .int .i64 d.n] t)).cell? ⟨WX.heap.size, j, none⟩ = some u) := fun t j u hj => by
                rw [World.cell?_alloc_new]
                simpa [wdc] using hj
              have HOB : Hid (∀ q, (Value.slice aw acc.length cw).ownBlock = some q → q < gX) := hx4
              obtain ⟨q0, q1, q2, q3⟩ := hx0.cells
              clear hWX hgX hx0 hx1 hx3 hx4 hx5 HY
              go_wp2_with (at_builtin; refine wpList_append_wd _ rfl (.tmp 42) (.tmp 44) 25 rfl w.heap.size infoWd Tryd.underlying25 _ acc d rfl (HZ.out _).1 _ rfl (HCC.out _) (by omega) (HZ.out _).2.1 ?_)
              intro v6 w6 hr6 hb6 hg6
              have hz := HZ.out (.cells #[.int .i64 d.k, .int .i64 d.at_, .string d.t, .int .i64 d.n] 24)
              have hx6 : Wx w6 gX d := hz.2.2.2.1.block (hg6.block gX hz.2.2.2.2 (fun e => by have := HOB.out gX e.symm; omega))
              have HN : Hid (WdR w.heap.size w6 v6 (acc ++ [d]) ∧ Below w.heap.size w w6) := ⟨hr6, hz.2.2.1.trans hb6⟩
              obtain ⟨a6, c6, e6⟩ := hr6.shape
              rw [show (acc ++ [d]).length = acc.length + 1 by simp] at e6
              subst e6
              obtain ⟨y0, _, _, _⟩ := hx6.cells
              clear hr6 hb6 hg6 hz hx6 HZ HCC HOB q0 q1 q2 q3
              go_upto_region 13 with fail
              have HB0 : Hid (∀ w', Calls Tryd.prog 31 #[.int .u8 (at' s en : Int)] w' fun e w'' => e = .returned (.bool (blk (at' s en))) ∧ w'' = w') := fun w' => rblank_any (at' s en) w'
              have HS0 : Hid (∀ w', Calls Tryd.prog 33 #[.int .u8 (at' s en : Int)] w' fun e w'' => e = .returned (.bool (sgn (at' s en))) ∧ w'' = w') := fun w' => rsign_any (at' s en) w'
              go_cut [75] from 14 to 82 (fun c wx => c = .bool (decide (d.k ≠ 4 ∧ en < s.size ∧ at' s en ≠ 35 ∧ blk (at' s en) = false ∧ sgn (at' s en) = false)) ∧ w6 = wx)
              case first =>
                by_cases h4 : d.k = 4
                · rw [h4] at y0
                  go_wp2_with fail
                  go_meet
                  exact ⟨congrArg Value.bool (decide_eq_false (fun h => h.1 h4)).symm, rfl⟩
                · have b4 : (d.k != 4) = true := by simp [h4]
                  by_cases hen : en < s.size
                  · have hge : (s[en]'hen).toNat = at' s en := (at_get s en hen).symm
                    cases hb : blk (at' s en) with
                    | true =>
                      rw [hb] at HB0
                      generalize hce : at' s en = ce at *
                      go_wp2_with fail
                      refine (HB0.out _).mono ?_
                      rintro e w7 ⟨rfl, rfl⟩
                      go_wp2_with fail
                      go_meet
                      exact ⟨congrArg Value.bool (decide_eq_false (fun h => by have h9 := h.2.2.2.1; rw [hb] at h9; cases h9)).symm, rfl⟩
                    | false =>
                      rw [hb] at HB0
                      cases hsg : sgn (at' s en) with
                      | true =>
                        rw [hsg] at HS0
                        generalize hce : at' s en = ce at *
                        go_wp2_with fail
                        refine (HB0.out _).mono ?_
                        rintro e w7 ⟨rfl, rfl⟩
                        go_wp2_with fail
                        refine (HS0.out _).mono ?_
                        rintro e w8 ⟨rfl, rfl⟩
                        go_wp2_with fail
                        go_meet
                        exact ⟨congrArg Value.bool (decide_eq_false (fun h => by have h9 := h.2.2.2.2; rw [hsg] at h9; cases h9)).symm, rfl⟩
                      | false =>
                        rw [hsg] at HS0
                        by_cases h35 : at' s en = 35
                        · rw [h35] at HB0 HS0 hge
                          go_wp2_with fail
                          refine (HB0.out _).mono ?_
                          rintro e w7 ⟨rfl, rfl⟩
                          go_wp2_with fail
                          refine (HS0.out _).mono ?_
                          rintro e w8 ⟨rfl, rfl⟩
                          go_wp2_with fail
                          go_meet
                          exact ⟨congrArg Value.bool (decide_eq_false (fun h => h.2.2.1 h35)).symm, rfl⟩
                        · have b35 : ((at' s en : Int) != 35) = true := by simp; omega
                          generalize hce : at' s en = ce at *
                          go_wp2_with fail
                          refine (HB0.out _).mono ?_
                          rintro e w7 ⟨rfl, rfl⟩
                          go_wp2_with fail
                          refine (HS0.out _).mono ?_
                          rintro e w8 ⟨rfl, rfl⟩
                          go_wp2_with fail
                          go_meet
                          exact ⟨congrArg Value.bool (decide_eq_true ⟨h4, hen, h35, hb, hsg⟩).symm, rfl⟩
                  · go_wp2_with fail
                    go_meet
                    exact ⟨congrArg Value.bool (decide_eq_false (fun h => hen h.2.1)).symm, rfl⟩
              case rest =>
                obtain ⟨rfl, rfl⟩ := hcut
                clear HB0 HS0 y0
                by_cases hbad : d.k ≠ 4 ∧ en < s.size ∧ at' s en ≠ 35 ∧ blk (at' s en) = false ∧ sgn (at' s en) = false
                · have hen := hbad.2.1
                  have HPC : Hid (∀ w', Calls Tryd.prog 34 #[.string s, .int .i64 (en : Int)] w' fun e w'' => e = .returned (.agg #[.int .i64 (pcR s en), .int .i64 (en : Int), .int .i64 ((Utf8.decode s en).2 : Int)]) ∧ Below w'.heap.size w' w'') := fun w' => piece_any s en w' (by omega) hen
                  have hf0 := pc_field0
                  rw [decide_eq_true hbad]
                  cases hst : stray s en with
                  | true =>
                    have hpc : pcR s en = -1 := by
                      unfold pcR
                      rw [hst]
                      rfl
                    have HF : Hid (A = ([], 21, (en : Int))) := by
                      show A = _
                      rw [← HBH.out, bhd_err s d.k en hbad, hst]
                      unfold fin
                      simp
                    rw [hpc] at HPC
                    clear HBH hbad hst hpc
                    generalize (Utf8.decode s en).2 = wd at *
                    go_wp2_with fail
                    refine (HPC.out _).mono ?_
                    rintro e w7 ⟨rfl, b7⟩
                    have HB7 : Hid (Below w.heap.size w w7) := andThen HN.out.2 b7
                    clear b7 HPC HN
                    go_wp2
                    go_ret3
                    rw [HF.out]
                    exact ⟨_, rfl, WdR.nil _ _, HB7.out⟩
                  | false =>
                    have hpc : pcR s en = ((Utf8.decode s en).1 : Int) := by
                      unfold pcR
                      rw [hst]
                      rfl
                    have HF : Hid (A = ([], 22, (en : Int))) := by
                      show A = _
                      rw [← HBH.out, bhd_err s d.k en hbad, hst]
                      unfold fin
                      simp
                    rw [hpc] at HPC
                    clear HBH hbad hst hpc
                    generalize (Utf8.decode s en).2 = wd at *
                    generalize (Utf8.decode s en).1 = r at *
                    go_wp2_with fail
                    refine (HPC.out _).mono ?_
                    rintro e w7 ⟨rfl, b7⟩
                    have HB7 : Hid (Below w.heap.size w w7) := andThen HN.out.2 b7
                    clear b7 HPC HN
                    go_wp2
                    go_ret3
                    rw [HF.out]
                    exact ⟨_, rfl, WdR.nil _ _, HB7.out⟩
                · have HF : Hid (fin (acc ++ [d]) (wds s en) = A) := by
                    show _ = A
                    rw [← HBH.out]
                    unfold bhd
                    rw [if_neg hbad]
                  rw [decide_eq_false hbad]
                  clear HBH hbad
                  go_wp2
                  go_roundw
                  case rel => exact ⟨en, acc ++ [d], rfl, hen2, by rw [List.length_append]; simp; omega, HN.out.1, HF.out, HN.out.2⟩
                  case measure => simp [intOf]; omega
      · obtain rfl : p = s.size := by omega
        have HF : Hid (A = (acc, 0, 0)) := by
          show A = _
          rw [← HFA.out, wds_out s _ hlt]
          unfold fin
          simp
        clear HFA
        go_wp2
        go_ret3
        rw [HF.out]
        exact ⟨_, rfl, HR.out, hbel⟩
end Go.Proofs.YtneifdbcjicfgaaDoor
