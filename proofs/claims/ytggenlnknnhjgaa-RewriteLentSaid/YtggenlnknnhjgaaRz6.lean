/-
  The Marks: grow.
-/
import Derived.Test.YtggenlnknnhjgaaRz5
namespace Go.Proofs.Ytggenlnknnhjgaa
open Go Go.RowKit Go.ChangeShapes
open Wb
open Cb
set_option maxRecDepth 100000 in
set_option maxHeartbeats 16000000 in
theorem mkgrow_any (B g : Nat) (C : Nat → Option Cl) (V : List Value) (l f : List En) (lh fh : List (Value × Nat)) (w : World) (h : Bk B w C g V l f lh fh) (hl : l.length ≤ 10000000) (hf : f.length ≤ 10000000) (hB : B ≤ w.heap.size) :
    Calls Try.prog 10 #[.pointer (some ⟨g, 0, none⟩)] w fun e w' => e = .returned (.tuple #[]) ∧ ∃ C' V' lh' fh', Bk B w' C' g V' l f lh' fh' ∧ lh'.length = l.length ∧ fh'.length = f.length ∧ St w w' C C' g V V' (fun _ => False) := by
  have HL : Hid (l.length ≤ 10000000 ∧ f.length ≤ 10000000) := ⟨hl, hf⟩
  have H0 : Hid (Bk B w C g V l f lh fh) := h
  have HBw : Hid (B ≤ w.heap.size) := hB
  clear h hl hf hB
  obtain ⟨aH1, cH1, rH1⟩ : ∃ a c, w.cell? ⟨g, 4, none⟩ = some (.slice a lh.length c) := by
    obtain ⟨v0, v1, v2, v3, v4, v5, hV⟩ := (H0.out).six
    obtain ⟨a, c, e, -⟩ := (H0.out).bm.at_ 4 v4 23 (lh.map (·.1)) (by rw [hV]; rfl) rfl
    rw [List.length_map] at e
    exact ⟨a, c, by rw [← e]; exact (H0.out).bm.cell 4 _ (by rw [hV]; rfl)⟩
  go_enter Try.func10, Try.ntmps10
  go_wp2_with fail
  go_loopw [2] (fun i wr => ∃ (C1 : Nat → Option Cl) (V1 : List Value) (H1 : List (Value × Nat)), i = .int .i64 (H1.length : Int) ∧ Bk B wr C1 g V1 l f H1 fh ∧ St w wr C C1 g V V1 (fun _ => False) ∧ B ≤ wr.heap.size) (fun i _ => l.length - (intOf i).toNat)
  case atStart => exact ⟨C, V, lh, rfl, H0.out, St.refl w C g V _, HBw.out⟩
  case round =>
    obtain ⟨C1, V1, H1, rfl, hbk, hst, hsz⟩ := hrel
    have HF : Hid (Bk B wr C1 g V1 l f H1 fh ∧ St w wr C C1 g V V1 (fun _ => False) ∧ B ≤ wr.heap.size) := ⟨hbk, hst, hsz⟩
    clear hbk hst hsz rH1
    obtain ⟨vL, aL, cL, eL, hVL, hcL, hatL⟩ : ∃ vL aL cL, vL = .slice aL l.length cL ∧ V1[0]? = some vL ∧ wr.cell? ⟨g, 0, none⟩ = some (.slice aL l.length cL) ∧ ∀ (j : Nat) (x : En), l[j]? = some x → ∃ b, aL = some ⟨b, 0, none⟩ ∧ wr.cell? ⟨b, j, none⟩ = some x.1 := by
      obtain ⟨v0, v1, v2, v3, v4, v5, hV⟩ := HF.out.1.six
      obtain ⟨a, c, e, -, -, h9⟩ := HF.out.1.bm.at_ 0 v0 23 (l.map (·.1)) (by rw [hV]; rfl) rfl
      rw [List.length_map] at e
      exact ⟨_, a, c, e, by rw [hV]; rfl, by rw [← e]; exact HF.out.1.bm.cell 0 _ (by rw [hV]; rfl), fun j x hx => h9 j _ (by rw [List.getElem?_map, hx]; rfl)⟩
    by_cases hlt : H1.length < l.length
    · obtain ⟨x, hx⟩ : ∃ x, l[H1.length]? = some x := ⟨l[H1.length], List.getElem?_eq_getElem hlt⟩
      have hxm := List.mem_of_getElem? hx
      obtain ⟨bL, rfl, hcx⟩ := hatL _ x hx
      have hvw := HF.out.1.vl x hxm
      obtain ⟨a9, c9, e9, h9a, h9b⟩ := hvw.sh HF.out.1.col
      obtain ⟨⟨mz, hmz⟩, hxn⟩ := HF.out.1.ml x hxm
      obtain ⟨xv, xn, xm⟩ := x
      simp only at hcx hvw e9 hmz hxn h9a
      subst e9 hmz
      have HX : Hid (l[H1.length]? = some (.slice a9 xn c9, xn, .int .u8 mz) ∧ Vw C1 kB.e kB.c (kB.ok (.int .u8 mz)) (.slice a9 xn c9) xn ∧ xn ≤ 5000000) := ⟨hx, hvw, hxn⟩
      have HLC : Hid (l.length ≤ 10000000 ∧ V1[0]? = some vL ∧ vL = .slice (some ⟨bL, 0, none⟩) l.length cL) := ⟨HL.out.1, hVL, eL⟩
      obtain ⟨jL, hjL⟩ : ∃ j, j = H1.length := ⟨_, rfl⟩
      obtain ⟨nL, hnL⟩ : ∃ m9, m9 = l.length := ⟨_, rfl⟩
      have HJ : Hid (jL = H1.length ∧ nL = l.length) := ⟨hjL, hnL⟩
      have hnL2 : nL ≤ 10000000 := by rw [hnL]; exact HL.out.1
      have HRD : Hid (∀ (W : World) (C2 : Nat → Option Cl), Bk B W C2 g V1 l f H1 fh → W.cell? ⟨g, 0, none⟩ = some (.slice (some ⟨bL, 0, none⟩) nL cL) ∧ W.cell? ⟨bL, jL, none⟩ = some (.slice a9 xn c9) ∧ ∃ aM bM cM, W.cell? ⟨g, 1, none⟩ = some (.slice aM nL cM) ∧ aM = some ⟨bM, 0, none⟩ ∧ W.cell? ⟨bM, jL, none⟩ = some (.int .u8 mz)) := fun W C2 hb => by
        obtain ⟨v0, v1, v2, v3, v4, v5, hV⟩ := hb.six
        obtain ⟨a, c, e, -, -, h9⟩ := hb.bm.at_ 0 v0 23 (l.map (·.1)) (by rw [hV]; rfl) rfl
        obtain ⟨a2, c2, e2, -, -, h92⟩ := hb.bm.at_ 1 v1 5 (l.map (·.2.2)) (by rw [hV]; rfl) rfl
        rw [List.length_map, ← HJ.out.2] at e e2
        have hvv : v0 = vL := by
          have h8 := HLC.out.2.1
          rw [hV] at h8
          exact Option.some.inj h8
        obtain ⟨b, hb1, hb2⟩ := h9 jL _ (by rw [HJ.out.1, List.getElem?_map, HX.out.1]; rfl)
        obtain ⟨bm, hm1, hm2⟩ := h92 jL _ (by rw [HJ.out.1, List.getElem?_map, HX.out.1]; rfl)
        have hbL : b = bL := by
          rw [hvv, HLC.out.2.2, hb1] at e
          simp only [Value.slice.injEq, Option.some.injEq, Addr.mk.injEq] at e
          exact e.1.1.symm
        subst hbL
        refine ⟨?_, hb2, a2, bm, c2, ?_, hm1, hm2⟩
        · have h7 := hb.bm.cell 0 v0 (by rw [hV]; rfl)
          rw [h7, hvv, HLC.out.2.2, HJ.out.2]
        · have h7 := hb.bm.cell 1 v1 (by rw [hV]; rfl)
          rw [h7, e2]
      rw [← hjL] at hlt hcx ⊢
      rw [← hnL] at hlt hcL ⊢
      unfold maxLen at h9b
      clear hx hxm hatL hvw hxn hVL eL hjL hnL
      go_wp2_with fail
      clear hcL hcx
      obtain ⟨wo, hwo⟩ : ∃ x, x = wr := ⟨_, rfl⟩
      subst hwo
      go_loopw [3, 4] (fun gs i w2 => ∃ (j : Nat) (C2 : Nat → Option Cl), j ≤ xn + 70 ∧ i = .int .i64 (j : Int) ∧ (∃ a c, gs = .slice a (xn + j) c) ∧ Bk B w2 C2 g V1 l f H1 fh ∧ St wo w2 C1 C2 g V1 V1 (fun _ => False) ∧ Vw C2 kB.e kB.c (kB.ok (.int .u8 mz)) gs (xn + j)) (fun _ i _ => xn + 70 - (intOf i).toNat)
      case atStart => exact ⟨0, C1, Nat.zero_le _, rfl, ⟨a9, c9, rfl⟩, HF.out.1, St.refl _ _ _ _ _, HX.out.2.1⟩
      case round =>
        obtain ⟨j, C2, hj, rfl, ⟨ag, cg, rfl⟩, hbk2, hst2, hvw2⟩ := hrel
        have HG : Hid (Bk B wr C2 g V1 l f H1 fh ∧ St wo wr C1 C2 g V1 V1 (fun _ => False) ∧ Vw C2 kB.e kB.c (kB.ok (.int .u8 mz)) (.slice ag (xn + j) cg) (xn + j)) := ⟨hbk2, hst2, hvw2⟩
        have hsz2 : B ≤ wr.heap.size := Nat.le_trans HF.out.2.2 hst2.fr.size
        clear hbk2 hst2 hvw2
        obtain ⟨q1, q2, aM, bM, cM, q3, rfl, q4⟩ := HRD.out wr C2 HG.out.1
        have hxn := HX.out.2.2
        by_cases hjl : j < xn + 70
        · have t1 : ((j : Int) < (xn : Int) + 70) = True := eq_true (by omega)
          obtain ⟨v9, W9, C9, hr9, k1, k2, k3, a7, c7, k4⟩ := HG.out.1.more hsz2 HG.out.2.2 23 23 _ 1 infB rfl (by decide) Try.underlying23 ([.int .u8 mz]) rfl rfl (fun u hu => by rw [List.mem_singleton.1 hu]; rfl) (by omega) (by omega)
          have HN : Hid (Bk B W9 C9 g V1 l f H1 fh ∧ St wo W9 C1 C9 g V1 V1 (fun _ => False) ∧ Vw C9 kB.e kB.c (kB.ok (.int .u8 mz)) v9 (xn + j + 1) ∧ v9 = .slice a7 (xn + j + 1) c7) := ⟨k1, (HG.out.2.1.trans k2).mono fun q e => e.elim id id, k3, k4⟩
          clear k1 k2 k3 k4 hsz2
          go_wp2_with (at_builtin; refine wpList_appRun rfl (.tmp 42) (.tmp 50) 23 rfl rfl rfl hr9 ?_)
          go_roundw
          case rel => exact ⟨j + 1, C9, by omega, by go_num, ⟨a7, c7, by rw [HN.out.2.2.2]; rfl⟩, HN.out.1, HN.out.2.1, HN.out.2.2.1⟩
          case measure => simp [intOf]; omega
        · obtain rfl : j = xn + 70 := by omega
          have t1 : (((xn + 70 : Nat) : Int) < (xn : Int) + 70) = False := eq_false (by omega)
          obtain ⟨v6, e6⟩ : ∃ v, V1[4]? = some v := by
            obtain ⟨v0, v1, v2, v3, v4, v5, hV⟩ := HG.out.1.six
            exact ⟨v4, by rw [hV]; rfl⟩
          obtain ⟨a6, c6, s6, -, -, -⟩ := HG.out.1.bm.at_ 4 v6 23 (H1.map (·.1)) e6 rfl
          rw [List.length_map] at s6
          subst s6
          have r6 := HG.out.1.bm.cell 4 _ e6
          obtain ⟨v9, W9, hr9, lb9, k1, k2, a7, c7, k4⟩ := HG.out.1.long_l hsz2 (y := (.slice ag (xn + (xn + 70)) cg, xn + (xn + 70))) HX.out.1 HG.out.2.2 _ e6 rfl HLC.out.1
          have t2 := lb9.cell 4 _ e6
          have z2 := lb9.free 4
          obtain ⟨gv, hgv⟩ : ∃ v, v = Value.slice ag (xn + (xn + 70)) cg := ⟨_, rfl⟩
          have HN : Hid (Bk B (W9.setCell ⟨g, 4, none⟩ v9) C2 g (V1.set 4 v9) l f (H1 ++ [(gv, xn + (xn + 70))]) fh ∧ St w (W9.setCell ⟨g, 4, none⟩ v9) C C2 g V (V1.set 4 v9) (fun _ => False) ∧ B ≤ (W9.setCell ⟨g, 4, none⟩ v9).heap.size ∧ jL + 1 = (H1 ++ [(gv, xn + (xn + 70))]).length) := ⟨by rw [hgv]; exact k1, (((HF.out.2.1.trans HG.out.2.1).trans k2).mono fun q e => e.elim (fun e => e.elim id id) id), Nat.le_trans hsz2 k2.fr.size, by rw [List.length_append, HJ.out.1]; rfl⟩
          clear k1 k2 hj hgv lb9 e6
          subst k4
          go_wp2_with (at_builtin; refine wpList_appRun rfl (.tmp 56) (.tmp 58) 28 rfl rfl rfl hr9 ?_)
          go_roundw
          case rel => exact ⟨C2, _, _, by rw [← HN.out.2.2.2]; go_num, HN.out.1, HN.out.2.1, HN.out.2.2.1⟩
          case measure => simp [intOf]; omega
    · have HLE : Hid (H1.length = l.length) := Nat.le_antisymm HF.out.1.hl.1 (by omega)
      obtain ⟨lhE, hlhE⟩ : ∃ x, x = H1 := ⟨_, rfl⟩
      obtain ⟨wA1, hwA1⟩ : ∃ x, x = wr := ⟨_, rfl⟩
      obtain ⟨CA1, hCA1⟩ : ∃ x, x = C1 := ⟨_, rfl⟩
      obtain ⟨VA1, hVA1⟩ : ∃ x, x = V1 := ⟨_, rfl⟩
      have HE1 : Hid (lhE.length = l.length) := by rw [hlhE]; exact HLE.out
      have HA1 : Hid (Bk B wA1 CA1 g VA1 l f lhE fh ∧ St w wA1 C CA1 g V VA1 (fun _ => False) ∧ B ≤ wA1.heap.size) := by
        rw [hwA1, hCA1, hVA1, hlhE]
        exact HF.out
      rw [← hwA1] at hcL ⊢
      obtain ⟨nL, hnL⟩ : ∃ m9, m9 = l.length := ⟨_, rfl⟩
      rw [← hnL] at hcL hlt
      clear hatL hVL eL HF HLE hwA1 hCA1 hVA1 hlhE hnL
      obtain ⟨aH2, cH2, rH2⟩ : ∃ a c, wA1.cell? ⟨g, 5, none⟩ = some (.slice a fh.length c) := by
        obtain ⟨v0, v1, v2, v3, v4, v5, hV⟩ := (HA1.out.1).six
        obtain ⟨a, c, e, -⟩ := (HA1.out.1).bm.at_ 5 v5 22 (fh.map (·.1)) (by rw [hV]; rfl) rfl
        rw [List.length_map] at e
        exact ⟨a, c, by rw [← e]; exact (HA1.out.1).bm.cell 5 _ (by rw [hV]; rfl)⟩
      go_wp2_with fail
      go_loopw [5] (fun i wr => ∃ (C1 : Nat → Option Cl) (V1 : List Value) (H1 : List (Value × Nat)), i = .int .i64 (H1.length : Int) ∧ Bk B wr C1 g V1 l f lhE H1 ∧ St w wr C C1 g V V1 (fun _ => False) ∧ B ≤ wr.heap.size) (fun i _ => f.length - (intOf i).toNat)
      case atStart => exact ⟨CA1, VA1, fh, rfl, HA1.out.1, HA1.out.2.1, HA1.out.2.2⟩
      case round =>
        obtain ⟨C1, V1, H1, rfl, hbk, hst, hsz⟩ := hrel
        have HF : Hid (Bk B wr C1 g V1 l f lhE H1 ∧ St w wr C C1 g V V1 (fun _ => False) ∧ B ≤ wr.heap.size) := ⟨hbk, hst, hsz⟩
        clear hbk hst hsz rH2
        obtain ⟨vL, aL, cL, eL, hVL, hcL, hatL⟩ : ∃ vL aL cL, vL = .slice aL f.length cL ∧ V1[2]? = some vL ∧ wr.cell? ⟨g, 2, none⟩ = some (.slice aL f.length cL) ∧ ∀ (j : Nat) (x : En), f[j]? = some x → ∃ b, aL = some ⟨b, 0, none⟩ ∧ wr.cell? ⟨b, j, none⟩ = some x.1 := by
          obtain ⟨v0, v1, v2, v3, v4, v5, hV⟩ := HF.out.1.six
          obtain ⟨a, c, e, -, -, h9⟩ := HF.out.1.bm.at_ 2 v2 22 (f.map (·.1)) (by rw [hV]; rfl) rfl
          rw [List.length_map] at e
          exact ⟨_, a, c, e, by rw [hV]; rfl, by rw [← e]; exact HF.out.1.bm.cell 2 _ (by rw [hV]; rfl), fun j x hx => h9 j _ (by rw [List.getElem?_map, hx]; rfl)⟩
        by_cases hlt : H1.length < f.length
        · obtain ⟨x, hx⟩ : ∃ x, f[H1.length]? = some x := ⟨f[H1.length], List.getElem?_eq_getElem hlt⟩
          have hxm := List.mem_of_getElem? hx
          obtain ⟨bL, rfl, hcx⟩ := hatL _ x hx
          have hvw := HF.out.1.vf x hxm
          obtain ⟨a9, c9, e9, h9a, h9b⟩ := hvw.sh HF.out.1.col
          obtain ⟨⟨mz, hmz⟩, hxn⟩ := HF.out.1.mf x hxm
          obtain ⟨xv, xn, xm⟩ := x
          simp only at hcx hvw e9 hmz hxn h9a
          subst e9 hmz
          have HX : Hid (f[H1.length]? = some (.slice a9 xn c9, xn, .int .i64 mz) ∧ Vw C1 kR.e kR.c (kR.ok (.int .i64 mz)) (.slice a9 xn c9) xn ∧ xn ≤ 5000000) := ⟨hx, hvw, hxn⟩
          have HLC : Hid (f.length ≤ 10000000 ∧ V1[2]? = some vL ∧ vL = .slice (some ⟨bL, 0, none⟩) f.length cL) := ⟨HL.out.2, hVL, eL⟩
          obtain ⟨jL, hjL⟩ : ∃ j, j = H1.length := ⟨_, rfl⟩
          obtain ⟨nL, hnL⟩ : ∃ m9, m9 = f.length := ⟨_, rfl⟩
          have HJ : Hid (jL = H1.length ∧ nL = f.length) := ⟨hjL, hnL⟩
          have hnL2 : nL ≤ 10000000 := by rw [hnL]; exact HL.out.2
          have HRD : Hid (∀ (W : World) (C2 : Nat → Option Cl), Bk B W C2 g V1 l f lhE H1 → W.cell? ⟨g, 2, none⟩ = some (.slice (some ⟨bL, 0, none⟩) nL cL) ∧ W.cell? ⟨bL, jL, none⟩ = some (.slice a9 xn c9) ∧ ∃ aM bM cM, W.cell? ⟨g, 3, none⟩ = some (.slice aM nL cM) ∧ aM = some ⟨bM, 0, none⟩ ∧ W.cell? ⟨bM, jL, none⟩ = some (.int .i64 mz)) := fun W C2 hb => by
            obtain ⟨v0, v1, v2, v3, v4, v5, hV⟩ := hb.six
            obtain ⟨a, c, e, -, -, h9⟩ := hb.bm.at_ 2 v2 22 (f.map (·.1)) (by rw [hV]; rfl) rfl
            obtain ⟨a2, c2, e2, -, -, h92⟩ := hb.bm.at_ 3 v3 3 (f.map (·.2.2)) (by rw [hV]; rfl) rfl
            rw [List.length_map, ← HJ.out.2] at e e2
            have hvv : v2 = vL := by
              have h8 := HLC.out.2.1
              rw [hV] at h8
              exact Option.some.inj h8
            obtain ⟨b, hb1, hb2⟩ := h9 jL _ (by rw [HJ.out.1, List.getElem?_map, HX.out.1]; rfl)
            obtain ⟨bm, hm1, hm2⟩ := h92 jL _ (by rw [HJ.out.1, List.getElem?_map, HX.out.1]; rfl)
            have hbL : b = bL := by
              rw [hvv, HLC.out.2.2, hb1] at e
              simp only [Value.slice.injEq, Option.some.injEq, Addr.mk.injEq] at e
              exact e.1.1.symm
            subst hbL
            refine ⟨?_, hb2, a2, bm, c2, ?_, hm1, hm2⟩
            · have h7 := hb.bm.cell 2 v2 (by rw [hV]; rfl)
              rw [h7, hvv, HLC.out.2.2, HJ.out.2]
            · have h7 := hb.bm.cell 3 v3 (by rw [hV]; rfl)
              rw [h7, e2]
          rw [← hjL] at hlt hcx ⊢
          rw [← hnL] at hlt hcL ⊢
          unfold maxLen at h9b
          clear hx hxm hatL hvw hxn hVL eL hjL hnL
          go_wp2_with fail
          clear hcL hcx
          obtain ⟨wo, hwo⟩ : ∃ x, x = wr := ⟨_, rfl⟩
          subst hwo
          go_loopw [6, 7] (fun gs i w2 => ∃ (j : Nat) (C2 : Nat → Option Cl), j ≤ xn + 20 ∧ i = .int .i64 (j : Int) ∧ (∃ a c, gs = .slice a (xn + j) c) ∧ Bk B w2 C2 g V1 l f lhE H1 ∧ St wo w2 C1 C2 g V1 V1 (fun _ => False) ∧ Vw C2 kR.e kR.c (kR.ok (.int .i64 mz)) gs (xn + j)) (fun _ i _ => xn + 20 - (intOf i).toNat)
          case atStart => exact ⟨0, C1, Nat.zero_le _, rfl, ⟨a9, c9, rfl⟩, HF.out.1, St.refl _ _ _ _ _, HX.out.2.1⟩
          case round =>
            obtain ⟨j, C2, hj, rfl, ⟨ag, cg, rfl⟩, hbk2, hst2, hvw2⟩ := hrel
            have HG : Hid (Bk B wr C2 g V1 l f lhE H1 ∧ St wo wr C1 C2 g V1 V1 (fun _ => False) ∧ Vw C2 kR.e kR.c (kR.ok (.int .i64 mz)) (.slice ag (xn + j) cg) (xn + j)) := ⟨hbk2, hst2, hvw2⟩
            have hsz2 : B ≤ wr.heap.size := Nat.le_trans HF.out.2.2 hst2.fr.size
            clear hbk2 hst2 hvw2
            obtain ⟨q1, q2, aM, bM, cM, q3, rfl, q4⟩ := HRD.out wr C2 HG.out.1
            have hxn := HX.out.2.2
            by_cases hjl : j < xn + 20
            · have t1 : ((j : Int) < (xn : Int) + 20) = True := eq_true (by omega)
              obtain ⟨v9, W9, C9, hr9, k1, k2, k3, a7, c7, k4⟩ := HG.out.1.more hsz2 HG.out.2.2 22 22 _ 120 infoR12 rfl (by decide) Try.underlying22 ([.int .i64 0, .int .i64 0, .int .i64 mz, .int .i64 0, .int .i64 0, .int .i64 0, .int .i64 0, .int .i64 0, .int .i64 0, .int .i64 0, .string ⟨#[]⟩, .slice none 0 0]) rfl rfl (fun u hu => by
              simp only [List.mem_cons, List.not_mem_nil, or_false] at hu
              rcases hu with rfl | rfl | rfl | rfl | rfl | rfl | rfl | rfl | rfl | rfl | rfl | rfl <;> rfl) (by omega) (by omega)
              have HN : Hid (Bk B W9 C9 g V1 l f lhE H1 ∧ St wo W9 C1 C9 g V1 V1 (fun _ => False) ∧ Vw C9 kR.e kR.c (kR.ok (.int .i64 mz)) v9 (xn + j + 1) ∧ v9 = .slice a7 (xn + j + 1) c7) := ⟨k1, (HG.out.2.1.trans k2).mono fun q e => e.elim id id, k3, k4⟩
              clear k1 k2 k3 k4 hsz2
              go_wp2_with (at_builtin; refine wpList_appRun rfl (.tmp 96) (.tmp 105) 22 rfl rfl rfl hr9 ?_)
              go_roundw
              case rel => exact ⟨j + 1, C9, by omega, by go_num, ⟨a7, c7, by rw [HN.out.2.2.2]; rfl⟩, HN.out.1, HN.out.2.1, HN.out.2.2.1⟩
              case measure => simp [intOf]; omega
            · obtain rfl : j = xn + 20 := by omega
              have t1 : (((xn + 20 : Nat) : Int) < (xn : Int) + 20) = False := eq_false (by omega)
              obtain ⟨v6, e6⟩ : ∃ v, V1[5]? = some v := by
                obtain ⟨v0, v1, v2, v3, v4, v5, hV⟩ := HG.out.1.six
                exact ⟨v5, by rw [hV]; rfl⟩
              obtain ⟨a6, c6, s6, -, -, -⟩ := HG.out.1.bm.at_ 5 v6 22 (H1.map (·.1)) e6 rfl
              rw [List.length_map] at s6
              subst s6
              have r6 := HG.out.1.bm.cell 5 _ e6
              obtain ⟨v9, W9, hr9, lb9, k1, k2, a7, c7, k4⟩ := HG.out.1.long_f hsz2 (y := (.slice ag (xn + (xn + 20)) cg, xn + (xn + 20))) HX.out.1 HG.out.2.2 _ e6 rfl HLC.out.1
              have t2 := lb9.cell 5 _ e6
              have z2 := lb9.free 5
              obtain ⟨gv, hgv⟩ : ∃ v, v = Value.slice ag (xn + (xn + 20)) cg := ⟨_, rfl⟩
              have HN : Hid (Bk B (W9.setCell ⟨g, 5, none⟩ v9) C2 g (V1.set 5 v9) l f lhE (H1 ++ [(gv, xn + (xn + 20))]) ∧ St w (W9.setCell ⟨g, 5, none⟩ v9) C C2 g V (V1.set 5 v9) (fun _ => False) ∧ B ≤ (W9.setCell ⟨g, 5, none⟩ v9).heap.size ∧ jL + 1 = (H1 ++ [(gv, xn + (xn + 20))]).length) := ⟨by rw [hgv]; exact k1, (((HF.out.2.1.trans HG.out.2.1).trans k2).mono fun q e => e.elim (fun e => e.elim id id) id), Nat.le_trans hsz2 k2.fr.size, by rw [List.length_append, HJ.out.1]; rfl⟩
              clear k1 k2 hj hgv lb9 e6
              subst k4
              go_wp2_with (at_builtin; refine wpList_appRun rfl (.tmp 111) (.tmp 113) 34 rfl rfl rfl hr9 ?_)
              go_roundw
              case rel => exact ⟨C2, _, _, by rw [← HN.out.2.2.2]; go_num, HN.out.1, HN.out.2.1, HN.out.2.2.1⟩
              case measure => simp [intOf]; omega
        · have HLE : Hid (H1.length = f.length) := Nat.le_antisymm HF.out.1.hf.1 (by omega)
          obtain ⟨fhE, hfhE⟩ : ∃ x, x = H1 := ⟨_, rfl⟩
          obtain ⟨wA2, hwA2⟩ : ∃ x, x = wr := ⟨_, rfl⟩
          obtain ⟨CA2, hCA2⟩ : ∃ x, x = C1 := ⟨_, rfl⟩
          obtain ⟨VA2, hVA2⟩ : ∃ x, x = V1 := ⟨_, rfl⟩
          have HE2 : Hid (fhE.length = f.length) := by rw [hfhE]; exact HLE.out
          have HA2 : Hid (Bk B wA2 CA2 g VA2 l f lhE fhE ∧ St w wA2 C CA2 g V VA2 (fun _ => False) ∧ B ≤ wA2.heap.size) := by
            rw [hwA2, hCA2, hVA2, hfhE]
            exact HF.out
          rw [← hwA2] at hcL ⊢
          obtain ⟨nL, hnL⟩ : ∃ m9, m9 = f.length := ⟨_, rfl⟩
          rw [← hnL] at hcL hlt
          clear hatL hVL eL HF HLE hwA2 hCA2 hVA2 hfhE hnL
          go_wp2_with fail
          go_end0
          exact ⟨rfl, CA2, VA2, lhE, fhE, HA2.out.1, HE1.out, HE2.out, HA2.out.2.1⟩
end Go.Proofs.Ytggenlnknnhjgaa
