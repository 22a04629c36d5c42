/-
  Package disk: Remove, Rename, Truncate.
-/
import Derived.Test.YtjepeeopjjnglaaDk7
namespace Go.Proofs.Ytjepeeopjjnglaa
open Go Go.RowKit Go.ChangeShapes
open Wb

namespace Dk
/-- Remove -/
def rem (S : DS) (s : List UInt8) : DS := if (findE S s).1 = 0 then (if (cnt S).1 = 0 then { (cnt S).2 with nm := Ch.app ⟨s, [], none⟩ (cnt S).2.nm, ch := (cnt S).2.ch ++ [⟨s, [], none⟩] } else (cnt S).2) else S
/-- Rename -/
def renE (S : DS) (a b : List UInt8) : Int := if askE S [a, b] = 0 then synE S a else askE S [a, b]
def ren (S : DS) (a b : List UInt8) : DS := if askE S [a, b] = 0 ∧ (findE S a).1 = 0 then (if (cnt S).1 = 0 then { (cnt S).2 with nm := Ch.app ⟨a, b, some (fil S a)⟩ (cnt S).2.nm, ch := (cnt S).2.ch ++ [⟨a, b, some (fil S a)⟩] } else (cnt S).2) else S
end Dk
set_option maxRecDepth 100000 in
set_option maxHeartbeats 8000000 in
theorem dkremove_any (B g : Nat) (S : Dk.DS) (M : Mm) (s : ByteArray) (w : World) (h : DM B w g S M) (hB : B ≤ w.heap.size) (hs : s.size ≤ maxLen) (hl : S.armed = true → 0 ≤ S.left ∧ S.left ≤ 9223372036854775807) (hid : ∀ p ∈ S.nm, p.2 ∈ S.ids) (hsz : s.size ≤ maxLen) (hn : S.nm.length ≤ 1000000000) (hc : S.ch.length ≤ 1000000000) :
    Calls Try.prog 31 #[.pointer (some ⟨g, 0, none⟩), .string s] w fun e w' => e = .returned (.int .i64 (Dk.synE S s.data.toList)) ∧ DPost B g S M w (Dk.rem S s.data.toList) w' := by
  have H0 : Hid (∀ W, Below w.heap.size w W → DM B W g S M) := fun W hW => h.kept hW
  have HB : Hid (B ≤ w.heap.size) := hB
  have cF := dkfind_any B g S M s w h hs
  have HCT : Hid (∀ W, Below w.heap.size w W → Calls Try.prog 53 #[.pointer (some ⟨g, 0, none⟩)] W fun e w' => e = .returned (.int .i64 (Dk.cnt S).1) ∧ DM B w' g (Dk.cnt S).2 M ∧ IFr W w' (· = g)) := fun W hW => dkcount_any B g S M W (H0.out W hW) hl
  clear h hB hl
  rcases Dk.find_cases S s.data.toList with ⟨f, hE, hg⟩ | ⟨ae, hne, hE⟩
  · have HFE : Hid (Dk.findE S s.data.toList = (0, some f)) := hE
    have HFI : Hid (f ∈ S.ids) := hid _ (Dk.get_mem hg)
    rw [hE] at cF
    dsimp only [fpo, fp] at cF
    clear hE hg hid hs
    have HSZ : Hid (s.size ≤ maxLen) := hsz
    have HNC : Hid (S.nm.length ≤ 1000000000 ∧ S.ch.length ≤ 1000000000) := ⟨hn, hc⟩
    clear hsz hn hc
    go_enter Try.func31, Try.ntmps31
    go_wp2_with fail
    refine cF.mono ?_
    rintro e W1 ⟨rfl, b1⟩
    have HB1 : Hid (Below w.heap.size w W1) := b1
    clear b1
    go_wp2_with fail
    refine (HCT.out W1 HB1.out).mono ?_
    rintro e W2 ⟨rfl, d2, f2⟩
    have HD2 : Hid (DM B W2 g (Dk.cnt S).2 M ∧ IFr w W2 (Ft g S M)) := ⟨d2, (IFr.kept HB1.out).trans f2 fun _ _ e => .inl e⟩
    clear d2 f2
    have HFC : Hid (f ∈ (Dk.cnt S).2.ids) := by rw [Dk.cnt_ids]; exact HFI.out
    by_cases hc0 : (Dk.cnt S).1 = 0
    · have HC0 : Hid ((Dk.cnt S).1 = 0) := hc0
      rw [hc0]
      clear hc0
      have HCH : Hid (Calls Try.prog 54 #[.pointer (some ⟨g, 0, none⟩), .agg #[.string s, .string ⟨#[]⟩, .pointer none]] W2 fun e w' => e = .returned (.tuple #[]) ∧ DPost B g S M w (Dk.rem S s.data.toList) w') := by
        refine (dkchange_any B g _ _ s ⟨#[]⟩ none _ HD2.out.1 (Nat.le_trans HB.out HD2.out.2.size) HSZ.out (show (⟨#[]⟩ : ByteArray).size ≤ maxLen from Nat.zero_le _) (fun e => absurd rfl e) (by rw [Dk.cnt_nm]; exact HNC.out.1) (by rw [Dk.cnt_ch]; exact HNC.out.2)).mono ?_
        rintro e w' ⟨rfl, vc', k1, k2, k3⟩
        refine ⟨rfl, ?_⟩
        have e9 : Dk.rem S s.data.toList = { (Dk.cnt S).2 with nm := Dk.Ch.app ⟨s.data.toList, [], none⟩ (Dk.cnt S).2.nm, ch := (Dk.cnt S).2.ch ++ [⟨s.data.toList, [], none⟩] } := by
          unfold Dk.rem
          rw [HFE.out, if_pos rfl, if_pos HC0.out]
        rw [e9]
        exact DPost.trans (S' := (Dk.cnt S).2) (M' := M) HD2.out.2 (fun q hq => .inl (ft_cnt hq)) ⟨_, k1, k2, k3⟩
      go_wp2_with fail
      refine HCH.out.mono ?_
      rintro e w' ⟨rfl, hpost⟩
      have HPO : Hid (DPost B g S M w (Dk.rem S s.data.toList) w') := hpost
      have HE : Hid (Dk.synE S s.data.toList = 0) := by
        show Dk.synE _ _ = 0
        unfold Dk.synE
        rw [HFE.out, if_pos rfl]
        exact HC0.out
      clear hpost
      go_wp2_with fail
      go_returns
      rw [HE.out]
      exact ⟨rfl, HPO.out⟩
    · obtain ⟨ce, hce⟩ : ∃ ce, ce = (Dk.cnt S).1 := ⟨_, rfl⟩
      have HE : Hid (Dk.synE S s.data.toList = ce ∧ Dk.rem S s.data.toList = (Dk.cnt S).2) := by
        refine ⟨?_, ?_⟩
        · unfold Dk.synE
          rw [HFE.out, if_pos rfl, hce]
        · unfold Dk.rem
          rw [HFE.out, if_pos rfl, if_neg hc0]
      rw [← hce] at hc0 ⊢
      have hd : (ce != 0) = true := by simp only [bne_iff_ne, ne_eq]; exact hc0
      clear hc0 hce
      go_wp2_with fail
      go_returns
      refine ⟨?_, ?_⟩
      · rw [HE.out.1]
        rfl
      · rw [HE.out.2]
        exact DPost.cnt HD2.out.2 HD2.out.1
  · have HE : Hid (Dk.synE S s.data.toList = ae ∧ Dk.rem S s.data.toList = S) := by
      refine ⟨?_, ?_⟩
      · unfold Dk.synE
        rw [hE, if_neg hne]
      · unfold Dk.rem
        rw [hE, if_neg hne]
    rw [hE] at cF
    dsimp only [fpo] at cF
    have hd : (ae != 0) = true := by simp only [bne_iff_ne, ne_eq]; exact hne
    clear hE hne hid hs HCT hsz hn hc
    go_enter Try.func31, Try.ntmps31
    go_wp2_with fail
    refine cF.mono ?_
    rintro e W1 ⟨rfl, b1⟩
    have HB1 : Hid (Below w.heap.size w W1) := b1
    clear b1
    go_wp2_with fail
    go_returns
    refine ⟨?_, ?_⟩
    · rw [HE.out.1]
      rfl
    · rw [HE.out.2]
      exact DPost.same (H0.out w (Below.refl _ _)) HB1.out
theorem strs2 (w : World) (s t : ByteArray) (ty : TypeId) : StrS (w.alloc (.cells #[.string s, .string t] ty)) (.slice (some ⟨w.heap.size, 0, none⟩) 2 2) [s, t] := ⟨_, 2, rfl, Nat.le_refl _, by unfold maxLen; omega, fun _ => ⟨w.heap.size, 0, rfl, fun j hj => by
  have L := lb_new w [.string s, .string t] ty
  have hj2 : j < 2 := by simpa using hj
  rcases (show j = 0 ∨ j = 1 by omega) with rfl | rfl
  · exact L.cell 0 _ rfl
  · exact L.cell 1 _ rfl⟩⟩
set_option maxRecDepth 100000 in
set_option maxHeartbeats 8000000 in
theorem dkrename_any (B g : Nat) (S : Dk.DS) (M : Mm) (s t : ByteArray) (w : World) (h : DM B w g S M) (hB : B ≤ w.heap.size) (hs : s.size ≤ maxLen) (ht : t.size ≤ maxLen) (hl : S.armed = true → 0 ≤ S.left ∧ S.left ≤ 9223372036854775807) (hid : ∀ p ∈ S.nm, p.2 ∈ S.ids) (hn : S.nm.length ≤ 1000000000) (hc : S.ch.length ≤ 1000000000) :
    Calls Try.prog 45 #[.pointer (some ⟨g, 0, none⟩), .string s, .string t] w fun e w' => e = .returned (.int .i64 (Dk.renE S s.data.toList t.data.toList)) ∧ DPost B g S M w (Dk.ren S s.data.toList t.data.toList) w' := by
  have H0 : Hid (∀ W, Below w.heap.size w W → DM B W g S M) := fun W hW => h.kept hW
  have HB : Hid (B ≤ w.heap.size) := hB
  have HSZ : Hid (s.size ≤ maxLen ∧ t.size ≤ maxLen) := ⟨hs, ht⟩
  have HNC : Hid (S.nm.length ≤ 1000000000 ∧ S.ch.length ≤ 1000000000) := ⟨hn, hc⟩
  have cA : ∀ W, W = w.alloc (.cells #[.string s, .string t] 9) → Calls Try.prog 52 #[.pointer (some ⟨g, 0, none⟩), .slice (some ⟨w.heap.size, 0, none⟩) 2 2] W fun e w' => e = .returned (.int .i64 (Dk.askE S [s.data.toList, t.data.toList])) ∧ w' = W := fun W e => by
    subst e
    exact dkask_any B g S M _ [s, t] _ (H0.out _ (up0 _ _)) (strs2 w s t _) (by simp)
  have HCF : Hid (∀ W, Below w.heap.size w W → Calls Try.prog 50 #[.pointer (some ⟨g, 0, none⟩), .string s] W fun e w' => e = .returned (.tuple #[fpo (Dk.findE S s.data.toList).2, .int .i64 (Dk.findE S s.data.toList).1]) ∧ Below W.heap.size W w') := fun W hW => dkfind_any B g S M s W (H0.out W hW) hs
  have HCT : Hid (∀ W, Below w.heap.size w W → Calls Try.prog 53 #[.pointer (some ⟨g, 0, none⟩)] W fun e w' => e = .returned (.int .i64 (Dk.cnt S).1) ∧ DM B w' g (Dk.cnt S).2 M ∧ IFr W w' (· = g)) := fun W hW => dkcount_any B g S M W (H0.out W hW) hl
  have HNM : Hid (∀ f, Dk.get S.nm s.data.toList = some f → f ∈ S.ids ∧ ∃ b, M.mn = some b) := fun f hg => ⟨hid _ (Dk.get_mem hg), by
    rcases h.nm.2 with ⟨-, e⟩ | ⟨b, e, -⟩
    · rw [e] at hg
      cases hg
    · exact ⟨b, e⟩⟩
  clear h hB hl hs ht hid hn hc
  by_cases ha : Dk.askE S [s.data.toList, t.data.toList] = 0
  · rw [ha] at cA
    have HAK : Hid (Dk.askE S [s.data.toList, t.data.toList] = 0) := ha
    clear ha
    rcases Dk.find_cases S s.data.toList with ⟨f, hE, hg⟩ | ⟨ae, hne, hE⟩
    · have HFE : Hid (Dk.findE S s.data.toList = (0, some f)) := hE
      have HFI : Hid (f ∈ S.ids) := (HNM.out f hg).1
      have HMN : Hid (∃ b, M.mn = some b) := (HNM.out f hg).2
      rw [hE] at HCF
      dsimp only [fpo, fp] at HCF
      clear hE hg
      go_enter Try.func45, Try.ntmps45
      go_wp2_with fail
      obtain ⟨W, hW⟩ : ∃ W, W = w.alloc (.cells #[.string s, .string t] 9) := ⟨_, rfl⟩
      rw [← hW]
      refine (cA W hW).mono ?_
      rintro e W0 ⟨rfl, rfl⟩
      have HB0 : Hid (Below w.heap.size w W0) := by rw [hW]; exact up0 _ _
      clear hW
      go_wp2_with fail
      refine (HCF.out W0 HB0.out).mono ?_
      rintro e W1 ⟨rfl, b1⟩
      have HB1 : Hid (Below w.heap.size w W1) := andThen HB0.out b1
      clear b1
      go_wp2_with fail
      refine (HCT.out W1 HB1.out).mono ?_
      rintro e W2 ⟨rfl, d2, f2⟩
      have HD2 : Hid (DM B W2 g (Dk.cnt S).2 M ∧ IFr w W2 (Ft g S M)) := ⟨d2, (IFr.kept HB1.out).trans f2 fun _ _ e => .inl e⟩
      clear d2 f2
      have HFC : Hid (f ∈ (Dk.cnt S).2.ids) := by rw [Dk.cnt_ids]; exact HFI.out
      by_cases hc0 : (Dk.cnt S).1 = 0
      · have HC0 : Hid ((Dk.cnt S).1 = 0) := hc0
        rw [hc0]
        clear hc0
        have HCH : Hid (Calls Try.prog 54 #[.pointer (some ⟨g, 0, none⟩), .agg #[.string s, .string t, .pointer (some ⟨f, 0, none⟩)]] W2 fun e w' => e = .returned (.tuple #[]) ∧ DPost B g S M w (Dk.ren S s.data.toList t.data.toList) w') := by
          refine (dkchange_any B g _ _ s t (some f) _ HD2.out.1 (Nat.le_trans HB.out HD2.out.2.size) HSZ.out.1 HSZ.out.2 (fun _ => ⟨HMN.out, ⟨f, rfl⟩⟩) (by rw [Dk.cnt_nm]; exact HNC.out.1) (by rw [Dk.cnt_ch]; exact HNC.out.2)).mono ?_
          rintro e w' ⟨rfl, vc', k1, k2, k3⟩
          refine ⟨rfl, ?_⟩
          have e9 : Dk.ren S s.data.toList t.data.toList = { (Dk.cnt S).2 with nm := Dk.Ch.app ⟨s.data.toList, t.data.toList, some f⟩ (Dk.cnt S).2.nm, ch := (Dk.cnt S).2.ch ++ [⟨s.data.toList, t.data.toList, some f⟩] } := by
            unfold Dk.ren Dk.fil
            rw [HFE.out, if_pos ⟨HAK.out, rfl⟩, if_pos HC0.out]
            rfl
          rw [e9]
          exact DPost.trans (S' := (Dk.cnt S).2) (M' := M) HD2.out.2 (fun q hq => .inl (ft_cnt hq)) ⟨_, k1, k2, k3⟩
        go_wp2_with fail
        refine HCH.out.mono ?_
        rintro e w' ⟨rfl, hpost⟩
        have HPO : Hid (DPost B g S M w (Dk.ren S s.data.toList t.data.toList) w') := hpost
        have HE : Hid (Dk.renE S s.data.toList t.data.toList = 0) := by
          show Dk.renE _ _ _ = 0
          unfold Dk.renE Dk.synE
          rw [if_pos HAK.out, HFE.out, if_pos rfl]
          exact HC0.out
        clear hpost
        go_wp2_with fail
        go_returns
        rw [HE.out]
        exact ⟨rfl, HPO.out⟩
      · obtain ⟨ce, hce⟩ : ∃ ce, ce = (Dk.cnt S).1 := ⟨_, rfl⟩
        have HE : Hid (Dk.renE S s.data.toList t.data.toList = ce ∧ Dk.ren S s.data.toList t.data.toList = (Dk.cnt S).2) := by
          refine ⟨?_, ?_⟩
          · unfold Dk.renE Dk.synE
            rw [if_pos HAK.out, HFE.out, if_pos rfl, hce]
          · unfold Dk.ren
            rw [HFE.out, if_pos ⟨HAK.out, rfl⟩, if_neg hc0]
        rw [← hce] at hc0 ⊢
        have hd : (ce != 0) = true := by simp only [bne_iff_ne, ne_eq]; exact hc0
        clear hc0 hce
        go_wp2_with fail
        go_returns
        refine ⟨?_, ?_⟩
        · rw [HE.out.1]
          rfl
        · rw [HE.out.2]
          exact DPost.cnt HD2.out.2 HD2.out.1
    · have HE : Hid (Dk.renE S s.data.toList t.data.toList = ae ∧ Dk.ren S s.data.toList t.data.toList = S) := by
        refine ⟨?_, ?_⟩
        · unfold Dk.renE Dk.synE
          rw [if_pos HAK.out, hE, if_neg hne]
        · unfold Dk.ren
          rw [if_neg (fun e => hne (by have h9 := e.2; rw [hE] at h9; exact h9))]
      rw [hE] at HCF
      dsimp only [fpo] at HCF
      have hd : (ae != 0) = true := by simp only [bne_iff_ne, ne_eq]; exact hne
      clear hE hne HCT
      go_enter Try.func45, Try.ntmps45
      go_wp2_with fail
      obtain ⟨W, hW⟩ : ∃ W, W = w.alloc (.cells #[.string s, .string t] 9) := ⟨_, rfl⟩
      rw [← hW]
      refine (cA W hW).mono ?_
      rintro e W0 ⟨rfl, rfl⟩
      have HB0 : Hid (Below w.heap.size w W0) := by rw [hW]; exact up0 _ _
      clear hW
      go_wp2_with fail
      refine (HCF.out W0 HB0.out).mono ?_
      rintro e W1 ⟨rfl, b1⟩
      have HB1 : Hid (Below w.heap.size w W1) := andThen HB0.out b1
      clear b1
      go_wp2_with fail
      go_returns
      refine ⟨?_, ?_⟩
      · rw [HE.out.1]
        rfl
      · rw [HE.out.2]
        exact DPost.same (H0.out w (Below.refl _ _)) HB1.out
  · obtain ⟨ae, hae⟩ : ∃ ae, ae = Dk.askE S [s.data.toList, t.data.toList] := ⟨_, rfl⟩
    have HE : Hid (Dk.renE S s.data.toList t.data.toList = ae ∧ Dk.ren S s.data.toList t.data.toList = S) := by
      refine ⟨?_, ?_⟩
      · unfold Dk.renE
        rw [if_neg ha, hae]
      · unfold Dk.ren
        rw [if_neg (fun e => ha e.1)]
    rw [← hae] at cA ha
    have hd : (ae != 0) = true := by simp only [bne_iff_ne, ne_eq]; exact ha
    clear hae ha HCF HCT
    go_enter Try.func45, Try.ntmps45
    go_wp2_with fail
    obtain ⟨W, hW⟩ : ∃ W, W = w.alloc (.cells #[.string s, .string t] 9) := ⟨_, rfl⟩
    rw [← hW]
    refine (cA W hW).mono ?_
    rintro e w' ⟨rfl, rfl⟩
    have hb : Hid (Below w.heap.size w w') := by rw [hW]; exact up0 _ _
    clear hW
    go_wp2_with fail
    go_returns
    refine ⟨?_, ?_⟩
    · rw [HE.out.1]
      rfl
    · rw [HE.out.2]
      exact DPost.same (H0.out w (Below.refl _ _)) hb.out
end Go.Proofs.Ytjepeeopjjnglaa
