import Derived.Test.YtppabcihbpbfpaaGreatDoorQK22
/-
  Package manifest on a disk: Sweep.
-/
namespace Go.Proofs.YtppabcihbpbfpaaGreatDoor
open Go Go.RowKit Go.ChangeShapes
open Wb
open Rd
/-- ready: of a disk -/
theorem mready_any (B g : Nat) (S : Dk.DS) (M : Mm) (w : World) (h : DM B w g S M) : Calls Tryz.prog 27 #[.pointer (some ⟨g, 0, none⟩)] w fun e w' => e = .returned (.int .i64 (if S.down = true then 60 else 0)) ∧ w = w' := by
  have HD : Hid (Calls Tryz.prog 17 #[.pointer (some ⟨g, 0, none⟩)] w fun e w' => e = .returned (.bool S.down) ∧ w = w') := (dkdown_any B g S M w h).mono fun e w' ⟨h1, h2⟩ => ⟨h1, h2.symm⟩
  clear h
  obtain ⟨D, hD⟩ : ∃ D, D = S.down := ⟨_, rfl⟩
  rw [← hD] at HD ⊢
  clear hD
  go_enter Tryz.func27, Tryz.ntmps27
  go_wp2_with fail
  refine HD.out.mono ?_
  rintro e w' ⟨rfl, rfl⟩
  cases D with
  | true =>
    go_wp2_with fail
    go_returns
    exact ⟨rfl, rfl⟩
  | false =>
    go_wp2_with fail
    go_returns
    exact ⟨rfl, rfl⟩
namespace Sw
open Dk
/-- what Sweep does, answers and tells -/
def swR (S : DS) (m : Mf) : DS × Int × List (List UInt8) :=
  if S.down = true then (S, 60, [])
  else if (chkM m : Int) ≠ 0 then (S, chkM m, [])
  else
    let L := (lst S).filter (old (cnd m.l))
    if (rms S L).2 ≠ 0 then ((rms S L).1, (rms S L).2, [])
    else if L = [] then (S, 0, [])
    else if sdE (rms S L).1 ≠ 0 then (sd (rms S L).1, sdE (rms S L).1, [])
    else (sd (rms S L).1, 0, L)
end Sw
set_option maxRecDepth 100000 in
set_option maxHeartbeats 16000000 in
theorem sweep_any (B g N : Nat) (S : Dk.DS) (M : Mm) (m : Mf) (v : Value) (w : World) (h : DM B w g S M) (hB : B ≤ w.heap.size) (hv : SgsAt w v m.l) (hT : NTab w) (hW : Dk.WF S N) (hN : N ≤ 1000000) (hfit : ∀ s ∈ m.l, Sg.fit s) (h128 : m.l.length ≤ 128) :
    Calls Tryz.prog 10 #[.pointer (some ⟨g, 0, none⟩), mfv m v] w fun e w' => ∃ v', e = .returned (.tuple #[v', .int .i64 (Sw.swR S m).2.1]) ∧ NmR w.heap.size w' v' (Sw.swR S m).2.2 ∧ DPost B g S M w (Sw.swR S m).1 w' := by
  obtain ⟨mg, mv, mx, mt, l⟩ := m
  obtain ⟨ao, cap, rfl, hc1, hc2, -⟩ := id hv
  simp only at hc1 hv hfit h128
  unfold maxLen at hc2
  have H0 : Hid (∀ W, Below w.heap.size w W → DM B W g S M) := fun W hW => h.kept hW
  have HBB : Hid (B ≤ w.heap.size ∧ Dk.WF S N ∧ N ≤ 1000000) := ⟨hB, hW, hN⟩
  have HSA : Hid (∀ W, Below w.heap.size w W → SgsAt W (.slice ao l.length cap) l) := fun W hW => hv.kept hW
  have HTT : Hid (∀ W, Below w.heap.size w W → NTab W) := fun W hW => hT.kept hW
  have HFT : Hid (∀ q, Ft g S M q → q < w.heap.size) := fun q hq => (h.ft hq).2
  obtain ⟨nl, hnl⟩ : ∃ n, n = l.length := ⟨_, rfl⟩
  have HNL : Hid (nl = l.length) := hnl
  have HMF : Hid ((∀ s ∈ l, Sg.fit s) ∧ l.length ≤ 128) := ⟨hfit, h128⟩
  obtain ⟨R, hR⟩ : ∃ R, R = Sw.swR S ⟨mg, mv, mx, mt, l⟩ := ⟨_, rfl⟩
  have HR : Hid (R = Sw.swR S ⟨mg, mv, mx, mt, l⟩) := hR
  obtain ⟨CK, hCK⟩ : ∃ c : Int, c = (chkM ⟨mg, mv, mx, mt, l⟩ : Int) := ⟨_, rfl⟩
  have HCK : Hid (CK = (chkM ⟨mg, mv, mx, mt, l⟩ : Int)) := hCK
  rw [← hR]
  show Calls _ _ #[_, .agg #[.int .i64 mg, .int .i64 mv, .int .i64 mx, .int .i64 mt, .slice ao l.length cap]] w _
  rw [← hnl] at HSA hc1 ⊢
  obtain ⟨p3, hp3⟩ : ∃ p, p = w.heap.size := ⟨_, rfl⟩
  obtain ⟨W1, hW1⟩ : ∃ W, W = w.alloc (.cells #[.int .i64 mg, .int .i64 mv, .int .i64 mx, .int .i64 mt, .slice ao nl cap] 24) := ⟨_, rfl⟩
  have H1 : Hid (LB W1 p3 24 [.int .i64 mg, .int .i64 mv, .int .i64 mx, .int .i64 mt, .slice ao nl cap] ∧ Below w.heap.size w W1) := by
    rw [hW1, hp3]
    exact ⟨lb_new w [.int .i64 mg, .int .i64 mv, .int .i64 mx, .int .i64 mt, .slice ao nl cap] 24, up0 _ _⟩
  have HW1 : Hid (w.alloc (.cells #[.int .i64 mg, .int .i64 mv, .int .i64 mx, .int .i64 mt, .slice ao nl cap] 24) = W1 ∧ w.heap.size = p3) := ⟨hW1.symm, hp3.symm⟩
  have HRY : Hid (Calls Tryz.prog 27 #[.pointer (some ⟨g, 0, none⟩)] W1 fun e w' => e = .returned (.int .i64 (if S.down = true then 60 else 0)) ∧ W1 = w') := mready_any B g S M W1 (H0.out W1 H1.out.2)
  clear h hB hv hT hW hN hW1 hp3 hR hCK hnl hfit h128
  go_enter Tryz.func10, Tryz.ntmps10
  go_upto_region 1 with fail
  rw [HW1.out.1, HW1.out.2]
  clear HW1
  by_cases hdn : S.down = true
  · rw [if_pos hdn] at HRY
    have hRR : R = (S, 60, []) := by
      rw [HR.out]
      unfold Sw.swR
      rw [if_pos hdn]
    have HE : Hid (R.1 = S ∧ R.2.1 = 60 ∧ R.2.2 = []) := by
      rw [hRR]
      exact ⟨rfl, rfl, rfl⟩
    clear hRR hdn
    go_wp2_with fail
    refine HRY.out.mono ?_
    rintro e w' ⟨rfl, rfl⟩
    go_wp2_with fail
    go_returns
    refine ⟨.slice none 0 0, by rw [HE.out.2.1]; rfl, ?_, ?_⟩
    · rw [HE.out.2.2]
      exact World.ownsRow_nil _ _ _ _
    · rw [HE.out.1]
      exact DPost.same (H0.out w (Below.refl _ _)) H1.out.2
  · rw [if_neg hdn] at HRY
    have HDN : Hid (¬ S.down = true) := hdn
    clear hdn
    have HCH : Hid (Calls Tryz.prog 5 #[.agg #[.int .i64 mg, .int .i64 mv, .int .i64 mx, .int .i64 mt, .slice ao nl cap]] W1 fun e w' => e = .returned (.int .i64 CK) ∧ Below W1.heap.size W1 w') := by
      rw [HCK.out]
      exact check_any ⟨mg, mv, mx, mt, l⟩ _ W1 (HSA.out W1 H1.out.2)
    have y0 := H1.out.1.cell 0 _ rfl
    have y1 := H1.out.1.cell 1 _ rfl
    have y2 := H1.out.1.cell 2 _ rfl
    have y3 := H1.out.1.cell 3 _ rfl
    have y4 := H1.out.1.cell 4 _ rfl
    go_wp2_with fail
    refine HRY.out.mono ?_
    rintro e w' ⟨rfl, rfl⟩
    go_wp2_with fail
    refine HCH.out.mono ?_
    rintro e W2 ⟨rfl, b2⟩
    have H2 : Hid (LB W2 p3 24 [.int .i64 mg, .int .i64 mv, .int .i64 mx, .int .i64 mt, .slice ao nl cap] ∧ Below w.heap.size w W2) := ⟨H1.out.1.kept b2, andThen H1.out.2 b2⟩
    clear y0 y1 y2 y3 y4 b2 HRY HCH H1
    by_cases hck : CK = 0
    · have x0 : (CK != 0) = false := by rw [hck]; rfl
      obtain ⟨L, hL⟩ : ∃ L, L = (Dk.lst S).filter (Sw.old (cnd l)) := ⟨_, rfl⟩
      obtain ⟨NN, hNN⟩ : ∃ n, n = L.length := ⟨_, rfl⟩
      have HNN : Hid (NN = L.length) := hNN
      have HLB : Hid (L.length ≤ N ∧ ∀ s ∈ L, s.length ≤ 40) := by
        have h1 := HBB.out.2.1.n1
        have h2 : (Dk.lst S).length ≤ S.nm.length ∧ ∀ s ∈ Dk.lst S, s.length ≤ 40 := by
          unfold Dk.lst
          split
          · exact ⟨by simp, fun s hs => by cases hs⟩
          · refine ⟨by rw [List.length_map]; exact Nat.le_refl _, fun s hs => ?_⟩
            obtain ⟨p, hp, rfl⟩ := List.mem_map.1 hs
            exact (Dk.isNm_len (HBB.out.2.1.nm p hp)).2
        rw [hL]
        exact ⟨Nat.le_trans (List.length_filter_le _ _) (Nat.le_trans h2.1 h1), fun s hs => h2.2 s (List.mem_filter.1 hs).1⟩
      have HST : Hid (Calls Tryz.prog 28 #[.pointer (some ⟨g, 0, none⟩), .agg #[.int .i64 mg, .int .i64 mv, .int .i64 mx, .int .i64 mt, .slice ao nl cap]] W2 fun e w' => ∃ na nc, e = .returned (.slice na NN nc) ∧ NN ≤ nc ∧ nc ≤ maxLen ∧ NmR W2.heap.size w' (.slice na NN nc) L ∧ Below W2.heap.size W2 w') := (stale_any B g S M ⟨mg, mv, mx, mt, l⟩ _ W2 (H0.out W2 H2.out.2) (HSA.out W2 H2.out.2) (HTT.out W2 H2.out.2) (by have := HBB.out.2.1.n1; have := HBB.out.2.2; omega) (fun p hp => by have := (Dk.isNm_len (HBB.out.2.1.nm p hp)).2; omega) HMF.out.1 HMF.out.2).mono fun e w' ⟨v', h1, h2, h3⟩ => by
        have h4 : NmR W2.heap.size w' v' L := by
          rw [hL]
          exact h2
        obtain ⟨a, c, e9, k1, k2⟩ := Mg.row_shape h4
        subst e9
        rw [← hNN] at h1 h4 k1
        exact ⟨a, c, h1, k1, k2, h4, h3⟩
      have HRR : Hid (R = if (Dk.rms S L).2 ≠ 0 then ((Dk.rms S L).1, (Dk.rms S L).2, []) else if L = [] then (S, 0, []) else if Dk.sdE (Dk.rms S L).1 ≠ 0 then (Dk.sd (Dk.rms S L).1, Dk.sdE (Dk.rms S L).1, []) else (Dk.sd (Dk.rms S L).1, 0, L)) := by
        show _ = _
        rw [HR.out]
        unfold Sw.swR
        rw [if_neg HDN.out, if_neg (by rw [← HCK.out]; omega), hL]
      have y0 := H2.out.1.cell 0 _ rfl
      have y1 := H2.out.1.cell 1 _ rfl
      have y2 := H2.out.1.cell 2 _ rfl
      have y3 := H2.out.1.cell 3 _ rfl
      have y4 := H2.out.1.cell 4 _ rfl
      clear hck HR hL hNN
      go_wp2_with fail
      refine HST.out.mono ?_
      rintro e W3 ⟨na, nc, rfl, hn1, hn2, hnr, b3⟩
      unfold maxLen at hn2
      have H3 : Hid (NmR W2.heap.size W3 (.slice na NN nc) L ∧ Below w.heap.size w W3) := ⟨hnr, andThen H2.out.2 b3⟩
      have HROW : Hid (∀ (W : World) (S' : Dk.DS), DPost B g S M W3 S' W → NmR W2.heap.size W (.slice na NN nc) L) := fun W S' ⟨M', d1, d2, d3⟩ => Mg.row_block H3.out.1 fun q e => d2.block q (World.ownsRow.lt H3.out.1 q e).2 fun e2 => by
        have h1 := HFT.out q e2
        have h2 := (World.ownsRow.lt H3.out.1 q e).1
        have h3 := H2.out.2.size
        omega
      clear y0 y1 y2 y3 y4 b3 hnr HST
      go_wp2_with fail
      go_loopw [28] (fun i wx => ∃ k : Nat, k ≤ NN ∧ i = .int .i64 (k : Int) ∧ (Dk.rms S (L.take k)).2 = 0 ∧ DPost B g S M W3 (Dk.rms S (L.take k)).1 wx) (fun i _ => NN - (intOf i).toNat)
      case atStart => exact ⟨0, Nat.zero_le _, rfl, rfl, DPost.same (H0.out W3 H3.out.2) (Below.refl _ _)⟩
      case round =>
        obtain ⟨k, hk, rfl, hE0, hdp⟩ := hrel
        have HX : Hid ((Dk.rms S (L.take k)).2 = 0 ∧ DPost B g S M W3 (Dk.rms S (L.take k)).1 wr) := ⟨hE0, hdp⟩
        clear hE0 hdp
        have hNb : NN ≤ 1000000 := by
          have := HLB.out.1
          have := HBB.out.2.2
          have := HNN.out
          omega
        by_cases hlt : k < NN
        · have hkL : k < L.length := by
            have := HNN.out
            omega
          have HTK : Hid (L.take (k + 1) = L.take k ++ [L[k]]) := List.take_succ_eq_append_getElem hkL
          have hsl := HLB.out.2 _ (List.getElem_mem hkL)
          obtain ⟨b, c, e, hc⟩ := NmR.read (HROW.out wr _ HX.out.2) k L[k] (List.getElem?_eq_getElem hkL)
          simp only [Value.slice.injEq] at e
          obtain ⟨rfl, -, rfl⟩ := e
          obtain ⟨s, hs⟩ : ∃ s, s = L[k] := ⟨_, rfl⟩
          rw [← hs] at HTK hsl hc
          have hcw : wr.cell? ⟨b, k, none⟩ = some (.string ⟨s.toArray⟩) := hc
          obtain ⟨Sk, hSk⟩ : ∃ T, T = (Dk.rms S (L.take k)).1 := ⟨_, rfl⟩
          obtain ⟨E, hE⟩ : ∃ E, E = Dk.synE Sk s := ⟨_, rfl⟩
          have HSK : Hid (Dk.rms S (L.take (k + 1)) = (Dk.rem Sk s, E)) := by
            show _ = _
            rw [HTK.out, Dk.rms_snoc _ _ _ HX.out.1, hE, hSk]
          have HRM : Hid (Calls Tryz.prog 29 #[.pointer (some ⟨g, 0, none⟩), .string ⟨s.toArray⟩] wr fun e w' => e = .returned (.int .i64 E) ∧ DPost B g S M W3 (Dk.rem Sk s) w') := by
            obtain ⟨M', d1, d2, d3⟩ := HX.out.2
            have hwf := HBB.out.2.1.rms (L.take k)
            have hlen : (L.take k).length ≤ 1000000 := by
              rw [List.length_take]
              omega
            have hN9 := HBB.out.2.2
            rw [← hSk] at d1 d3 hwf
            have h9 := dkremove_any B g Sk M' ⟨s.toArray⟩ wr d1 (Nat.le_trans HBB.out.1 (Nat.le_trans H3.out.2.size d2.size)) (by show s.toArray.size ≤ _; unfold maxLen; simp; omega) hwf.ar hwf.ids (by show s.toArray.size ≤ _; unfold maxLen; simp; omega) (by have := hwf.n1; omega) (by have := hwf.n3; omega)
            refine h9.mono fun e w' ⟨e1, e2⟩ => ⟨?_, ?_⟩
            · rw [hE]
              simpa using e1
            · have e3 : DPost B g Sk M' wr (Dk.rem Sk s) w' := by simpa using e2
              exact DPost.trans d2 d3 e3
          clear hc hs hSk hE
          go_wp2_with fail
          refine HRM.out.mono ?_
          rintro e W4 ⟨rfl, hd4⟩
          have H4 : Hid (DPost B g S M W3 (Dk.rem Sk s) W4) := hd4
          clear hd4 hcw HRM
          by_cases hE1 : E = 0
          · have x1 : (E != 0) = false := by rw [hE1]; rfl
            have HE2 : Hid ((Dk.rms S (L.take (k + 1))).2 = 0 ∧ (Dk.rms S (L.take (k + 1))).1 = Dk.rem Sk s) := by
              rw [HSK.out]
              exact ⟨hE1, rfl⟩
            clear hE1
            go_wp2_with fail
            go_roundw
            case rel => exact ⟨k + 1, by omega, by go_num, HE2.out.1, by rw [HE2.out.2]; exact H4.out⟩
            case measure => simp [intOf]; omega
          · have x1 : (E != 0) = true := bne_iff_ne.2 hE1
            have HE2 : Hid (R.1 = Dk.rem Sk s ∧ R.2.1 = E ∧ R.2.2 = []) := by
              have hr : Dk.rms S L = (Dk.rem Sk s, E) := by
                rw [← List.take_append_drop (k + 1) L, Dk.rms_pre _ _ _ (by rw [HSK.out]; exact hE1), HSK.out]
              rw [HRR.out, hr, if_pos hE1]
              exact ⟨rfl, rfl, rfl⟩
            clear hE1
            go_wp2_with fail
            go_returns
            refine ⟨.slice none 0 0, by rw [HE2.out.2.1]; rfl, ?_, ?_⟩
            · rw [HE2.out.2.2]
              exact World.ownsRow_nil _ _ _ _
            · rw [HE2.out.1]
              exact DPost.trans (IFr.kept H3.out.2) (fun _ hq => .inl hq) H4.out
        · have hke : k = NN := by omega
          obtain ⟨T, hT⟩ : ∃ T, T = (Dk.rms S L).1 := ⟨_, rfl⟩
          have HXL : Hid ((Dk.rms S L).2 = 0 ∧ DPost B g S M W3 T wr ∧ T = (Dk.rms S L).1) := by
            have h9 := HX.out
            rw [hke, HNN.out, List.take_length] at h9
            exact ⟨h9.1, by rw [hT]; exact h9.2, hT⟩
          clear hke HX hT
          by_cases hz : NN = 0
          · have hL0 : L = [] := List.eq_nil_of_length_eq_zero (by have := HNN.out; omega)
            have HE2 : Hid (R.1 = S ∧ R.2.1 = 0 ∧ R.2.2 = [] ∧ T = S) := by
              have h1 := HXL.out.1
              have h2 := HXL.out.2.2
              rw [HRR.out, if_neg (by rw [h1]; decide), if_pos hL0]
              refine ⟨rfl, rfl, rfl, ?_⟩
              rw [h2, hL0]
              rfl
            have x2 : ((NN : Int) == 0) = true := by rw [hz]; rfl
            clear hz hL0
            go_wp2_with fail
            go_returns
            refine ⟨.slice none 0 0, by rw [HE2.out.2.1]; rfl, ?_, ?_⟩
            · rw [HE2.out.2.2.1]
              exact World.ownsRow_nil _ _ _ _
            · rw [HE2.out.1]
              have h9 := HXL.out.2.1
              rw [HE2.out.2.2.2] at h9
              exact DPost.trans (IFr.kept H3.out.2) (fun _ hq => .inl hq) h9
          · have hL0 : L ≠ [] := fun e => hz (by rw [HNN.out, e]; rfl)
            have x2 : ((NN : Int) == 0) = false := by
              rw [beq_eq_false_iff_ne]
              omega
            obtain ⟨E, hE⟩ : ∃ E, E = Dk.sdE T := ⟨_, rfl⟩
            have HSD : Hid (Calls Tryz.prog 26 #[.pointer (some ⟨g, 0, none⟩)] wr fun e w' => e = .returned (.int .i64 E) ∧ DPost B g S M W3 (Dk.sd T) w') := by
              obtain ⟨M', d1, d2, d3⟩ := HXL.out.2.1
              have hwf := HBB.out.2.1.rms L
              rw [← HXL.out.2.2] at hwf
              rw [hE]
              exact (dksyncdir_any B g T M' wr d1 (Nat.le_trans HBB.out.1 (Nat.le_trans H3.out.2.size d2.size)) hwf.ar hwf.ids (by have h1 := hwf.tot; have h2 := hwf.tk; have h3 := hwf.q; omega)).mono fun e w' ⟨e1, e2⟩ => ⟨e1, DPost.trans d2 d3 e2⟩
            have HRE : Hid (R = if E ≠ 0 then (Dk.sd T, E, []) else (Dk.sd T, 0, L)) := by
              show _ = _
              rw [HRR.out, if_neg (by rw [HXL.out.1]; decide), if_neg hL0, hE, HXL.out.2.2]
            clear hz hL0 hE
            go_wp2_with fail
            refine HSD.out.mono ?_
            rintro e W4 ⟨rfl, hd4⟩
            have H4 : Hid (DPost B g S M W3 (Dk.sd T) W4) := hd4
            clear hd4 HSD
            by_cases hE1 : E = 0
            · have x1 : (E != 0) = false := by rw [hE1]; rfl
              have HE2 : Hid (R.1 = Dk.sd T ∧ R.2.1 = 0 ∧ R.2.2 = L) := by
                rw [HRE.out, if_neg (by omega)]
                exact ⟨rfl, rfl, rfl⟩
              clear hE1
              go_wp2_with fail
              go_returns
              refine ⟨.slice na NN nc, by rw [HE2.out.2.1]; rfl, ?_, ?_⟩
              · rw [HE2.out.2.2]
                exact row_low (HROW.out W4 _ H4.out) H2.out.2.size
              · rw [HE2.out.1]
                exact DPost.trans (IFr.kept H3.out.2) (fun _ hq => .inl hq) H4.out
            · have x1 : (E != 0) = true := bne_iff_ne.2 hE1
              have HE2 : Hid (R.1 = Dk.sd T ∧ R.2.1 = E ∧ R.2.2 = []) := by
                rw [HRE.out, if_pos hE1]
                exact ⟨rfl, rfl, rfl⟩
              clear hE1
              go_wp2_with fail
              go_returns
              refine ⟨.slice none 0 0, by rw [HE2.out.2.1]; rfl, ?_, ?_⟩
              · rw [HE2.out.2.2]
                exact World.ownsRow_nil _ _ _ _
              · rw [HE2.out.1]
                exact DPost.trans (IFr.kept H3.out.2) (fun _ hq => .inl hq) H4.out
    · have x0 : (CK != 0) = true := bne_iff_ne.2 hck
      have hRR : R = (S, CK, []) := by
        rw [HR.out]
        unfold Sw.swR
        rw [if_neg HDN.out, if_pos (by rw [← HCK.out]; exact hck), ← HCK.out]
      have HE : Hid (R.1 = S ∧ R.2.1 = CK ∧ R.2.2 = []) := by
        rw [hRR]
        exact ⟨rfl, rfl, rfl⟩
      clear hck hRR
      go_wp2_with fail
      go_returns
      refine ⟨.slice none 0 0, by rw [HE.out.2.1]; rfl, ?_, ?_⟩
      · rw [HE.out.2.2]
        exact World.ownsRow_nil _ _ _ _
      · rw [HE.out.1]
        exact DPost.same (H0.out w (Below.refl _ _)) H2.out.2
end Go.Proofs.YtppabcihbpbfpaaGreatDoor
