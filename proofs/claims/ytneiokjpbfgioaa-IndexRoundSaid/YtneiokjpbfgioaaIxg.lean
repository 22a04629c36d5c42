/-
  IndexOne: the law's walk.
-/
import Derived.Test.YtneiokjpbfgioaaIxf
namespace Go.Proofs.Ytneiokjpbfgioaa
open Go Go.RowKit Go.ChangeShapes
open Wb

theorem ixbs_take {w : World} {ao : Option Addr} {cap : Nat} {l : List Nat} (h : Bs w (.slice ao l.length cap) l) (n : Nat) (hn : n ≤ l.length) : Bs w (.slice ao n cap) (l.take n) := by
  obtain ⟨ao', cap', e, h1, h2, h3, hc⟩ := h.shape
  simp only [Value.slice.injEq] at e
  obtain ⟨rfl, _, rfl⟩ := e
  refine ⟨⟨ao, cap, by rw [List.length_take, Nat.min_eq_left hn], by rw [List.length_take]; omega, h2, h3, fun hne => ?_⟩, fun x hx => h.good x (List.mem_of_mem_take hx)⟩
  have hl : l ≠ [] := fun e => hne (by rw [e]; simp)
  obtain ⟨b, off, rfl, hcell⟩ := hc hl
  refine ⟨b, off, rfl, fun j hj => ?_⟩
  rw [List.length_take] at hj
  rw [List.getElem_take]
  exact hcell j (by omega)
theorem Ix.encF_error (kvs : Ix.Gm) (all pre : List (Int × Int)) (hp : pre <+: all) (er : Nat) (h : Ix.encF kvs pre = .error er) : Ix.encF kvs all = .error er := by
  obtain ⟨t, rfl⟩ := hp
  unfold Ix.encF at h ⊢
  rw [List.foldlM_append, h]
  rfl
/-- Encode of what Decode reads -/
theorem ixback_any (g b base n : Nat) (l : List Nat) (w : World) (hok : ok l) (hl : l.length ≤ 65536) (h : MI w g b base n (Ix.decodeP l).2) (he : (Ix.decodeP l).1 = 0) (hn : n ≤ l.length) :
    Calls Try.prog 16 #[.pointer (some ⟨g, 0, none⟩)] w fun e w' => ∃ ad, ∃ m c : Nat, e = .returned (.tuple #[.slice ad m c, .int .i64 0]) ∧ Bs w' (.slice ad m c) l ∧ Below w.heap.size w w' := by
  obtain ⟨⟨k, o, hF⟩, h1, h2⟩ := Ix.decode_back l hok he h.ris
  refine (ixenc_any g b base n _ w h (by omega) (by omega) (by omega)).mono fun e w' ⟨hb, hc⟩ => ?_
  rcases hc with ⟨s, e1, ad, m, c, e2, e3⟩ | ⟨er, pre, e1, e2, -⟩
  · rw [hF] at e1
    cases e1
    exact ⟨ad, m, c, e2, e3.bs, hb⟩
  · rw [Ix.encF_error _ _ pre e1 er e2] at hF
    cases hF
set_option maxRecDepth 100000 in
set_option maxHeartbeats 4000000 in
theorem indexOne_walk (v : Value) (l : List Nat) (w : World) (h : Bs w v l) :
    Calls Try.prog 5 #[v] w fun e w' => e = .returned (.bool true) ∧ Below w.heap.size w w' := by
  obtain ⟨ao, cap, rfl, hl1, hl2, hl3, -⟩ := h.shape
  unfold maxLen at hl2
  have HB : Hid (∀ k, k ≤ l.length → Bs w (.slice ao k cap) (l.take k)) := fun k hk => ixbs_take h k hk
  have HL1 : Hid (∀ W, W = w.alloc (.cells #[.int .u8 1, .int .u8 5, .int .u8 2, .int .u8 7, .int .u8 1] 5) → Bs W (.slice (some ⟨w.heap.size, 0, none⟩) 5 5) [1, 5, 2, 7, 1] ∧ Below w.heap.size w W) := fun W e => by
    subst e
    exact ⟨(Own.lit (B := 0) w [1, 5, 2, 7, 1] (fun x hx => by simp at hx; omega) (Nat.zero_le _) (by simp [maxLen]) _ rfl).bs, up0 _ _⟩
  have HL2 : Hid (∀ W W' : World, W' = W.alloc (.cells #[.int .i64 7, .int .i64 8] 3) → Ri W' (.slice (some ⟨W.heap.size, 0, none⟩) 2 2) [7, 8] ∧ Below W.heap.size W W') := fun W W' e => by
    subst e
    exact ⟨Ri.of (World.ownsRow_lit (base := 0) (e := 3) (size := 1) W #[.int .i64 7, .int .i64 8] 2 (Nat.zero_le _) (by simp [maxLen]) rfl), up0 _ _⟩
  have HWF : Hid ((Lit.int .i64 5).wf = true) := WalkArith.wf_i64 (by omega)
  clear h
  by_cases k1 : 65536 < l.length
  · have hk1 : ((65536 : Int) < (l.length : Int)) = True := by simp; omega
    have hk2 : ((65536 : Int) ≤ (cap : Int)) = True := by simp; omega
    have H1 : Hid (Bs w (.slice ao 65536 cap) (l.take 65536) ∧ (l.take 65536).length ≤ 65536) := ⟨HB.out _ (by omega), by rw [List.length_take]; omega⟩
    clear HB k1
    go_enter Try.func5, Try.ntmps5
    go_wp2_with fail
    generalize l.take 65536 = l' at H1
    clear hl1 hl2 hl3 hk1 hk2
    generalize Value.slice ao 65536 cap = V at H1 ⊢
    refine (ixdec_any _ [1, 5, 2, 7, 1] _ (HL1.out _ rfl).1 (by decide)).mono ?_
    have HL9 : Hid (Below w.heap.size w (w.alloc (.cells #[.int .u8 1, .int .u8 5, .int .u8 2, .int .u8 7, .int .u8 1] 5))) := (HL1.out _ rfl).2
    generalize w.alloc (.cells #[.int .u8 1, .int .u8 5, .int .u8 2, .int .u8 7, .int .u8 1] 5) = W0 at HL9 ⊢
    clear HL1
    rintro e W1 hD
    unfold DcPost at hD
    rw [Ix.decode_one] at hD
    rcases hD with ⟨-, g, b, base, n, rfl, hM, hgb, hn, hb⟩ | ⟨hD, -⟩
    · have H2 : Hid (MI W1 g b base n [(5, [7, 8])] ∧ n ≤ 5 ∧ Below w.heap.size w W1) := ⟨hM, hn, andThen HL9.out hb⟩
      clear hM hgb hn hb HL9
      go_wp2_with fail
      refine (ixget_any g b base n _ 5 W1 H2.out.1 HWF.out (by have := H2.out.2.1; omega)).mono ?_
      rintro e W2 ⟨v2, rfl, r2, b2⟩
      have H3 : Hid (Ri W2 v2 [7, 8] ∧ Below w.heap.size w W2) := ⟨r2, andThen H2.out.2.2 b2⟩
      clear r2 b2 H2
      go_wp2_with fail
      refine (ixsamei_any _ _ [7, 8] [7, 8] _ (H3.out.1.kept (HL2.out W2 _ rfl).2) (HL2.out W2 _ rfl).1).mono ?_
      have H4 : Hid (Below w.heap.size w (W2.alloc (.cells #[.int .i64 7, .int .i64 8] 3))) := andThen H3.out.2 (HL2.out W2 _ rfl).2
      generalize W2.alloc (.cells #[.int .i64 7, .int .i64 8] 3) = W3 at H4 ⊢
      clear H3 HL2
      rintro e W4 ⟨rfl, b4⟩
      have H5 : Hid (Below w.heap.size w W4 ∧ Bs W4 V l' ∧ l'.length ≤ 65536) := by
        have b5 := andThen H4.out b4
        exact ⟨b5, H1.out.1.kept b5, H1.out.2⟩
      have hd9 : decide (([7, 8] : List Int) = [7, 8]) = true := rfl
      rw [hd9]
      clear H4 b4 H1 hd9 HWF
      go_wp2_with fail
      refine (ixdec_any V l' _ H5.out.2.1 (by have := H5.out.2.2; omega)).mono ?_
      rintro e W5 hD
      unfold DcPost at hD
      rcases hD with ⟨h0, g5, b5, base5, n5, rfl, hM, -, hn, hb⟩ | ⟨h0, rfl, hb⟩
      · have H6 : Hid (Below w.heap.size w W5 ∧ Bs W5 V l') := ⟨andThen H5.out.1 hb, H5.out.2.1.kept hb⟩
        have H7 : Hid (Calls Try.prog 16 #[.pointer (some ⟨g5, 0, none⟩)] W5 fun e w' => ∃ ad, ∃ m c : Nat, e = .returned (.tuple #[.slice ad m c, .int .i64 0]) ∧ Bs w' (.slice ad m c) l' ∧ Below W5.heap.size W5 w') := ixback_any g5 b5 base5 n5 l' W5 H6.out.2.good H5.out.2.2 hM h0 hn
        clear h0 hM hn hb H5
        go_wp2_with fail
        refine H7.out.mono ?_
        rintro e W6 ⟨ad, m, c, rfl, r6, b6⟩
        have H8 : Hid (Below w.heap.size w W6 ∧ Bs W6 V l' ∧ Bs W6 (.slice ad m c) l') := ⟨andThen H6.out.1 b6, H6.out.2.kept b6, r6⟩
        clear H6 H7 r6 b6
        go_wp2_with fail
        refine (ixsameb_any _ _ l' l' _ H8.out.2.1 H8.out.2.2).mono ?_
        rintro e W7 ⟨rfl, b7⟩
        have H9 : Hid (Below w.heap.size w W7) := andThen H8.out.1 b7
        have hd9 : decide (l' = l') = true := decide_eq_true rfl
        rw [hd9]
        clear b7 H8 hd9
        go_wp2_with fail
        go_ret
        exact ⟨rfl, H9.out⟩
      · have hd : (((Ix.decodeP l').1 : Int) != 0) = true := by simp; exact h0
        have H6 : Hid (Below w.heap.size w W5) := andThen H5.out.1 hb
        generalize (Ix.decodeP l').1 = er at hd ⊢
        clear h0 hb H5
        go_wp2_with fail
        go_ret
        exact ⟨rfl, H6.out⟩
    · exact absurd rfl hD
  · have hk1 : ((65536 : Int) < (l.length : Int)) = False := by simp; omega
    have H1 : Hid (Bs w (.slice ao l.length cap) l ∧ l.length ≤ 65536) := ⟨by have := HB.out l.length (Nat.le_refl _); rw [List.take_of_length_le (Nat.le_refl _)] at this; exact this, by omega⟩
    clear HB k1
    go_enter Try.func5, Try.ntmps5
    go_wp2_with fail
    clear hl1 hl2 hl3 hk1
    generalize Value.slice ao l.length cap = V at H1 ⊢
    obtain ⟨l', hl9⟩ : ∃ x, x = l := ⟨_, rfl⟩
    rw [← hl9] at H1
    clear hl9
    refine (ixdec_any _ [1, 5, 2, 7, 1] _ (HL1.out _ rfl).1 (by decide)).mono ?_
    have HL9 : Hid (Below w.heap.size w (w.alloc (.cells #[.int .u8 1, .int .u8 5, .int .u8 2, .int .u8 7, .int .u8 1] 5))) := (HL1.out _ rfl).2
    generalize w.alloc (.cells #[.int .u8 1, .int .u8 5, .int .u8 2, .int .u8 7, .int .u8 1] 5) = W0 at HL9 ⊢
    clear HL1
    rintro e W1 hD
    unfold DcPost at hD
    rw [Ix.decode_one] at hD
    rcases hD with ⟨-, g, b, base, n, rfl, hM, hgb, hn, hb⟩ | ⟨hD, -⟩
    · have H2 : Hid (MI W1 g b base n [(5, [7, 8])] ∧ n ≤ 5 ∧ Below w.heap.size w W1) := ⟨hM, hn, andThen HL9.out hb⟩
      clear hM hgb hn hb HL9
      go_wp2_with fail
      refine (ixget_any g b base n _ 5 W1 H2.out.1 HWF.out (by have := H2.out.2.1; omega)).mono ?_
      rintro e W2 ⟨v2, rfl, r2, b2⟩
      have H3 : Hid (Ri W2 v2 [7, 8] ∧ Below w.heap.size w W2) := ⟨r2, andThen H2.out.2.2 b2⟩
      clear r2 b2 H2
      go_wp2_with fail
      refine (ixsamei_any _ _ [7, 8] [7, 8] _ (H3.out.1.kept (HL2.out W2 _ rfl).2) (HL2.out W2 _ rfl).1).mono ?_
      have H4 : Hid (Below w.heap.size w (W2.alloc (.cells #[.int .i64 7, .int .i64 8] 3))) := andThen H3.out.2 (HL2.out W2 _ rfl).2
      generalize W2.alloc (.cells #[.int .i64 7, .int .i64 8] 3) = W3 at H4 ⊢
      clear H3 HL2
      rintro e W4 ⟨rfl, b4⟩
      have H5 : Hid (Below w.heap.size w W4 ∧ Bs W4 V l' ∧ l'.length ≤ 65536) := by
        have b5 := andThen H4.out b4
        exact ⟨b5, H1.out.1.kept b5, H1.out.2⟩
      have hd9 : decide (([7, 8] : List Int) = [7, 8]) = true := rfl
      rw [hd9]
      clear H4 b4 H1 hd9 HWF
      go_wp2_with fail
      refine (ixdec_any V l' _ H5.out.2.1 (by have := H5.out.2.2; omega)).mono ?_
      rintro e W5 hD
      unfold DcPost at hD
      rcases hD with ⟨h0, g5, b5, base5, n5, rfl, hM, -, hn, hb⟩ | ⟨h0, rfl, hb⟩
      · have H6 : Hid (Below w.heap.size w W5 ∧ Bs W5 V l') := ⟨andThen H5.out.1 hb, H5.out.2.1.kept hb⟩
        have H7 : Hid (Calls Try.prog 16 #[.pointer (some ⟨g5, 0, none⟩)] W5 fun e w' => ∃ ad, ∃ m c : Nat, e = .returned (.tuple #[.slice ad m c, .int .i64 0]) ∧ Bs w' (.slice ad m c) l' ∧ Below W5.heap.size W5 w') := ixback_any g5 b5 base5 n5 l' W5 H6.out.2.good H5.out.2.2 hM h0 hn
        clear h0 hM hn hb H5
        go_wp2_with fail
        refine H7.out.mono ?_
        rintro e W6 ⟨ad, m, c, rfl, r6, b6⟩
        have H8 : Hid (Below w.heap.size w W6 ∧ Bs W6 V l' ∧ Bs W6 (.slice ad m c) l') := ⟨andThen H6.out.1 b6, H6.out.2.kept b6, r6⟩
        clear H6 H7 r6 b6
        go_wp2_with fail
        refine (ixsameb_any _ _ l' l' _ H8.out.2.1 H8.out.2.2).mono ?_
        rintro e W7 ⟨rfl, b7⟩
        have H9 : Hid (Below w.heap.size w W7) := andThen H8.out.1 b7
        have hd9 : decide (l' = l') = true := decide_eq_true rfl
        rw [hd9]
        clear b7 H8 hd9
        go_wp2_with fail
        go_ret
        exact ⟨rfl, H9.out⟩
      · have hd : (((Ix.decodeP l').1 : Int) != 0) = true := by simp; exact h0
        have H6 : Hid (Below w.heap.size w W5) := andThen H5.out.1 hb
        generalize (Ix.decodeP l').1 = er at hd ⊢
        clear h0 hb H5
        go_wp2_with fail
        go_ret
        exact ⟨rfl, H6.out⟩
    · exact absurd rfl hD
end Go.Proofs.Ytneiokjpbfgioaa
