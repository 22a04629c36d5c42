/-
  IndexReads: the walk.
-/
import Derived.Test.YtneiokjpbfgioaaIxx
import Derived.Test.YtneiokjpbfgioaaIxv
import Derived.Test.YtneiokjpbfgioaaIxu
namespace Go.Proofs.Ytneiokjpbfgioaa
open Go Go.RowKit Go.ChangeShapes
open Wb

theorem Ix.decode_zero : Ix.decodeP [0] = (0, []) := by kernel_rfl
theorem own_put {B : Nat} {w : World} {g cap : Nat} {l : List Nat} (h : Wb.Own B w (.slice (some ⟨g, 0, none⟩) l.length cap) l) (k b : Nat) (hb : b < 256) : Wb.Own B (w.setCell ⟨g, k, none⟩ (.int .u8 (b : Int))) (.slice (some ⟨g, 0, none⟩) l.length cap) (l.set k b) := by
  have hst := (World.ownsRow.stored h.row k (.int .u8 (b : Int))).1
  have e : (bv l).set k (.int .u8 (b : Int)) = bv (l.set k b) := by unfold bv; rw [List.map_set]
  rw [e] at hst
  refine ⟨?_, fun x hx => ?_⟩
  · rw [List.length_set]
    exact hst
  · rcases List.mem_or_eq_of_mem_set hx with hx | hx
    · exact h.good x hx
    · omega
/-- what laid made, as it is handed out -/
theorem laid_bs {B : Nat} {w : World} {ai : Option Addr} {ci : Nat} {l : List Nat} (h : Wb.Own B w (.slice ai (l.length + 5) ci) (l ++ marksB)) : Bs w (.slice ai l.length ci) l := by
  have h9 := h.bs
  have e : (l ++ marksB).length = l.length + 5 := by simp [marksB]
  rw [← e] at h9
  have h8 := ixbs_take h9 l.length (by omega)
  rw [List.take_left] at h8
  exact h8
/-- while what laid made is written over: older blocks and the Multi stay -/
structure RdR (W3 W6 : World) (ai : Option Addr) (ci L g b base n : Nat) (kvs : Ix.Gm) (W : World) : Prop where
  bel : Below W3.heap.size W3 W
  mi : MI W g b base n kvs
  own : ∃ xs : List Nat, xs.length = L + 5 ∧ Wb.Own W3.heap.size W (.slice ai (L + 5) ci) xs
  lt : ∀ gi, ai = some ⟨gi, 0, none⟩ → gi < b
theorem RdR.put {W3 W6 : World} {ai : Option Addr} {ci L g b base n : Nat} {kvs : Ix.Gm} {W : World} (h : RdR W3 W6 ai ci L g b base n kvs W) (k t : Nat) (hk : k < L) (ht : t < 256) :
    ∃ gi y, ai = some ⟨gi, 0, none⟩ ∧ W.cell? ⟨gi, k, none⟩ = some (.int .u8 y) ∧ W.frozen? ⟨gi, k, none⟩ = false ∧ RdR W3 W6 ai ci L g b base n kvs (W.setCell ⟨gi, k, none⟩ (.int .u8 (t : Int))) := by
  obtain ⟨xs, hl, ho⟩ := h.own
  rcases ho.shape with ⟨_, h0⟩ | ⟨gi, cap', e, hBg, -, hlc, hcm, hcell⟩
  · rw [h0] at hl
    simp at hl
  · rw [hl] at e
    simp only [Value.slice.injEq, true_and] at e
    obtain ⟨rfl, rfl⟩ := e
    have ho' := ho
    rw [← hl] at ho'
    have h2 := own_put ho' k t ht
    have hs := (World.ownsRow.stored ho'.row k (.int .u8 (t : Int))).2
    have hlt := h.lt gi rfl
    have hblt := h.mi.blt
    refine ⟨gi, _, rfl, hcell k (by omega), World.ownsRow.frozenAt ho'.row k, h.bel.setCell (p := ⟨gi, k, none⟩) hBg _, h.mi.frame hs (fun e => by have := Option.some.inj e; omega) (fun e => ?_) (fun q e hm => ?_), ⟨xs.set k t, by rw [List.length_set]; exact hl, by rw [← hl]; exact h2⟩, h.lt⟩
    · obtain rfl := Option.some.inj e
      have h3 := h.mi.box
      unfold LB at h3
      rcases ho'.row.2 with ⟨e4, -⟩ | ⟨g4, cap4, cur4, e4, -, hh, -⟩
      · cases e4
      · simp only [Value.slice.injEq, Option.some.injEq, Addr.mk.injEq, and_true] at e4
        obtain ⟨rfl, -⟩ := e4
        rw [hh] at h3
        simp at h3
    · have h7 := (h.mi.row hm).1
      have := Option.some.inj e
      omega
set_option maxRecDepth 100000 in
set_option maxHeartbeats 8000000 in
theorem indexReads_walk (v : Value) (l : List Nat) (w : World) (h : Bs w v l) :
    Calls Try.prog 6 #[v] w fun e w' => e = .returned (.bool true) ∧ Below w.heap.size w w' := by
  obtain ⟨ao, cap, rfl, hl1, hl2, hl3, -⟩ := h.shape
  unfold maxLen at hl2
  have HB : Hid (∀ k, k ≤ l.length → Bs w (.slice ao k cap) (l.take k)) := fun k hk => ixbs_take h k hk
  have HL1 : Hid (∀ W, W = w.alloc (.cells #[.int .u8 0] 5) → Bs W (.slice (some ⟨w.heap.size, 0, none⟩) 1 1) [0] ∧ Below w.heap.size w W) := fun W e => by
    subst e
    exact ⟨(Own.lit (B := 0) w [0] (fun x hx => by simp at hx; omega) (Nat.zero_le _) (by simp [maxLen]) _ rfl).bs, up0 _ _⟩
  clear h
  by_cases k1 : 65536 < l.length
  · have hk1 : ((65536 : Int) < (l.length : Int)) = True := by simp; omega
    have hk2 : ((65536 : Int) ≤ (cap : Int)) = True := by simp; omega
    have H1 : Hid (Bs w (.slice ao 65536 cap) (l.take 65536) ∧ (l.take 65536).length ≤ 65536) := ⟨HB.out _ (by omega), by rw [List.length_take]; omega⟩
    clear HB k1
    go_enter Try.func6, Try.ntmps6
    go_wp2_with fail
    generalize l.take 65536 = l' at H1
    clear hl1 hl2 hl3 hk1 hk2
    generalize Value.slice ao 65536 cap = V at H1 ⊢
    refine (ixdec_any _ [0] _ (HL1.out _ rfl).1 (by decide)).mono ?_
    have HL9 : Hid (Below w.heap.size w (w.alloc (.cells #[.int .u8 0] 5))) := (HL1.out _ rfl).2
    generalize w.alloc (.cells #[.int .u8 0] 5) = W0 at HL9 ⊢
    clear HL1
    rintro e W1 hD
    unfold DcPost at hD
    rw [Ix.decode_zero] at hD
    rcases hD with ⟨-, g0, b0, base0, n0, rfl, hM, -, hn, hb⟩ | ⟨hD, -⟩
    · have HLE : Hid (Calls Try.prog 10 #[.pointer (some ⟨g0, 0, none⟩)] W1 fun e w' => e = .returned (.int .i64 0) ∧ Below W1.heap.size W1 w') := ixlen_any g0 b0 base0 n0 [] W1 hM (by decide)
      have H2 : Hid (Below w.heap.size w W1) := andThen HL9.out hb
      clear hM hn hb HL9
      go_wp2_with fail
      refine HLE.out.mono ?_
      rintro e W2 ⟨rfl, b2⟩
      have H3 : Hid (Below w.heap.size w W2 ∧ Bs W2 V l') := ⟨andThen H2.out b2, H1.out.1.kept (andThen H2.out b2)⟩
      have HRD : Hid (Calls Try.prog 22 #[V] W2 fun e w' => RdPost l' W2 e w') := rixdec_any V l' W2 H3.out.2 (by have := H1.out.2; omega)
      clear b2 H2 HLE
      go_wp2_with fail
      refine HRD.out.mono ?_
      rintro e W3 ⟨v3, rfl, hp3, b3⟩
      have H4 : Hid (Below w.heap.size w W3 ∧ Bs W3 V l' ∧ ((Ix.decodeP l').1 = 0 → Pr W3 v3 (prs (Ix.decodeP l').2))) := ⟨andThen H3.out.1 b3, H3.out.2.kept b3, hp3⟩
      have HLD : Hid (Calls Try.prog 23 #[V] W3 fun e w' => ∃ ao, ∃ cap : Nat, e = .returned (.slice ao l'.length cap) ∧ Wb.Own W3.heap.size w' (.slice ao (l'.length + 5) cap) (l' ++ marksB) ∧ Below W3.heap.size W3 w') := ixlaid_any V l' W3 H4.out.2.1 (by have := H1.out.2; omega)
      clear b3 hp3 HRD H3
      go_wp2_with fail
      refine HLD.out.mono ?_
      rintro e W4 ⟨ai, ci, rfl, ho4, b4⟩
      have H5 : Hid (Below w.heap.size w W4 ∧ Bs W4 V l' ∧ Below W3.heap.size W3 W4 ∧ Wb.Own W3.heap.size W4 (.slice ai (l'.length + 5) ci) (l' ++ marksB) ∧ Bs W4 (.slice ai l'.length ci) l') := ⟨andThen H4.out.1 b4, H4.out.2.1.kept b4, b4, ho4, laid_bs ho4⟩
      have HDC : Hid (Calls Try.prog 17 #[.slice ai l'.length ci] W4 fun e w' => DcPost l' W4 e w') := ixdec_any _ l' W4 H5.out.2.2.2.2 (by have := H1.out.2; omega)
      have HGD : Hid ((Ix.decodeP l').1 = 0 → (∀ p ∈ (Ix.decodeP l').2, p.2 ≠ []) ∧ (∀ p ∈ (Ix.decodeP l').2, 0 ≤ p.1 ∧ p.1 ≤ 9223372036854775807) ∧ (Ix.decodeP l').2.length ≤ l'.length ∧ Ix.total (Ix.decodeP l').2 ≤ l'.length) := fun he => Ix.decode_good l' H5.out.2.1.good he
      clear ho4 b4 HLD
      unfold DcPost at HDC
      obtain ⟨A, hA⟩ : ∃ A, Ix.decodeP l' = A := ⟨_, rfl⟩
      rw [hA] at HDC HGD H4 ⊢
      clear hA
      obtain ⟨er, kvs⟩ := A
      simp only at HDC HGD H4
      have hde : ((er : Int) != (er : Int)) = false := by simp
      go_wp2_with fail
      refine HDC.out.mono ?_
      rintro e W5 (⟨h0, g5, b5, base5, n5, rfl, hM, hb5, hn, hb⟩ | ⟨h0, rfl, hb⟩)
      · subst h0
        have H6 : Hid (MI W5 g5 b5 base5 n5 kvs ∧ W4.heap.size ≤ b5 ∧ n5 ≤ l'.length ∧ Below W4.heap.size W4 W5 ∧ Bs W5 (.slice ai (l'.length + 5) ci) (l' ++ marksB) ∧ Bs W5 V l' ∧ Below w.heap.size w W5) := ⟨hM, hb5, hn, hb, H5.out.2.2.2.1.bs.kept hb, H5.out.2.1.kept hb, andThen H5.out.1 hb⟩
        have HIN : Hid (Calls Try.prog 24 #[.slice ai l'.length ci, V] W5 fun e w' => e = .returned (.bool true) ∧ Below W5.heap.size W5 w') := ixintact_yes ai ci V l' W5 H6.out.2.2.2.2.1 H6.out.2.2.2.2.2.1 (by have := H1.out.2; omega)
        clear hM hb5 hn hb HDC
        go_wp2_with fail
        refine HIN.out.mono ?_
        rintro e W6 ⟨rfl, b6⟩
        have HR0 : Hid (RdR W3 W6 ai ci l'.length g5 b5 base5 n5 kvs W6) := ⟨andThen (andThen H5.out.2.2.1 H6.out.2.2.2.1) b6, H6.out.1.kept b6, ⟨l' ++ marksB, by simp [marksB], H5.out.2.2.2.1.kept (andThen H6.out.2.2.2.1 b6)⟩, fun gi hgi => by
            have h9 := World.ownsRow.lt H5.out.2.2.2.1.row gi (by rw [hgi]; rfl)
            have h8 := H6.out.2.1
            omega⟩
        have HF : Hid (Below w.heap.size w W6 ∧ l'.length ≤ 65536 ∧ n5 ≤ l'.length ∧ w.heap.size ≤ W3.heap.size) := ⟨andThen H6.out.2.2.2.2.2.2 b6, H1.out.2, H6.out.2.2.1, H4.out.1.size⟩
        have HG9 : Hid (∀ W, RdR W3 W6 ai ci l'.length g5 b5 base5 n5 kvs W → Calls Try.prog 25 #[.pointer (some ⟨g5, 0, none⟩), v3] W fun e w' => e = .returned (.bool true) ∧ Below W.heap.size W w') := fun W hW => by
          have h9 := HGD.out (by first | exact rfl | exact trivial)
          have h8 := HF.out.2.1
          have h7 := HF.out.2.2.1
          exact ixholds_yes g5 b5 base5 n5 kvs v3 W hW.mi ((H4.out.2.2 (by first | exact rfl | exact trivial)).kept hW.bel) (by omega) (by omega) (by omega) h9.1 h9.2.1
        have HZ9 : Hid (∀ W W', RdR W3 W6 ai ci l'.length g5 b5 base5 n5 kvs W → Below W.heap.size W W' → Below w.heap.size w W') := fun W W' hW hb => andThen (andThen H4.out.1 hW.bel) hb
        clear b6 HIN H6 H5 HGD H4 H1
        go_wp2_with fail
        generalize l'.length = L at *
        go_loopw [9] (fun i wr => ∃ k : Nat, k ≤ L ∧ i = .int .i64 (k : Int) ∧ RdR W3 W6 ai ci L g5 b5 base5 n5 kvs wr) (fun i _ => L - (intOf i).toNat)
        case atStart => exact ⟨0, Nat.zero_le _, rfl, HR0.out⟩
        case round =>
          clear HR0
          obtain ⟨k, hk, rfl, hR⟩ := hrel
          have hLs : L ≤ 65536 := HF.out.2.1
          by_cases hlt : k < L
          · obtain ⟨gi, y, rfl, c9, f9, R9⟩ := hR.put k 238 hlt (by decide)
            have HR9 : Hid (RdR W3 W6 (some ⟨gi, 0, none⟩) ci L g5 b5 base5 n5 kvs (wr.setCell ⟨gi, k, none⟩ (.int .u8 238))) := R9
            clear hR R9 HG9 HZ9 HF
            go_wp2_with fail
            go_roundw
            case rel => exact ⟨k + 1, by omega, by go_num, HR9.out⟩
            case measure => simp [intOf]; omega
          · have HC9 : Hid (Calls Try.prog 25 #[.pointer (some ⟨g5, 0, none⟩), v3] wr fun e w' => e = .returned (.bool true) ∧ Below wr.heap.size wr w') := HG9.out wr hR
            have HB9 : Hid (RdR W3 W6 ai ci L g5 b5 base5 n5 kvs wr) := hR
            clear hR HG9
            go_wp2_with fail
            refine HC9.out.mono ?_
            rintro e W7 ⟨rfl, b7⟩
            have HE9 : Hid (Below w.heap.size w W7) := HZ9.out _ _ HB9.out b7
            clear b7
            go_wp2_with fail
            go_ret
            exact ⟨rfl, HE9.out⟩
      · have hd : ((er : Int) != 0) = true := by simp; exact h0
        have H6 : Hid (Bs W5 (.slice ai (l'.length + 5) ci) (l' ++ marksB) ∧ Bs W5 V l' ∧ Below w.heap.size w W5) := ⟨H5.out.2.2.2.1.bs.kept hb, H5.out.2.1.kept hb, andThen H5.out.1 hb⟩
        have HIN : Hid (Calls Try.prog 24 #[.slice ai l'.length ci, V] W5 fun e w' => e = .returned (.bool true) ∧ Below W5.heap.size W5 w') := ixintact_yes ai ci V l' W5 H6.out.1 H6.out.2.1 (by have := H1.out.2; omega)
        clear hb HDC h0 HGD H4 H5
        go_wp2_with fail
        refine HIN.out.mono ?_
        rintro e W6 ⟨rfl, b6⟩
        have HE9 : Hid (Below w.heap.size w W6) := andThen H6.out.2.2 b6
        clear b6 HIN H6
        go_wp2_with fail
        go_ret
        exact ⟨rfl, HE9.out⟩
    · exact absurd rfl hD
  · have hk1 : ((65536 : Int) < (l.length : Int)) = False := by simp; omega
    have H1 : Hid (Bs w (.slice ao l.length cap) l ∧ l.length ≤ 65536) := ⟨by have := HB.out l.length (Nat.le_refl _); rw [List.take_of_length_le (Nat.le_refl _)] at this; exact this, by omega⟩
    clear HB k1
    go_enter Try.func6, Try.ntmps6
    go_wp2_with fail
    clear hl1 hl2 hl3 hk1
    generalize Value.slice ao l.length cap = V at H1 ⊢
    obtain ⟨l', hl9⟩ : ∃ x, x = l := ⟨_, rfl⟩
    rw [← hl9] at H1
    clear hl9
    refine (ixdec_any _ [0] _ (HL1.out _ rfl).1 (by decide)).mono ?_
    have HL9 : Hid (Below w.heap.size w (w.alloc (.cells #[.int .u8 0] 5))) := (HL1.out _ rfl).2
    generalize w.alloc (.cells #[.int .u8 0] 5) = W0 at HL9 ⊢
    clear HL1
    rintro e W1 hD
    unfold DcPost at hD
    rw [Ix.decode_zero] at hD
    rcases hD with ⟨-, g0, b0, base0, n0, rfl, hM, -, hn, hb⟩ | ⟨hD, -⟩
    · have HLE : Hid (Calls Try.prog 10 #[.pointer (some ⟨g0, 0, none⟩)] W1 fun e w' => e = .returned (.int .i64 0) ∧ Below W1.heap.size W1 w') := ixlen_any g0 b0 base0 n0 [] W1 hM (by decide)
      have H2 : Hid (Below w.heap.size w W1) := andThen HL9.out hb
      clear hM hn hb HL9
      go_wp2_with fail
      refine HLE.out.mono ?_
      rintro e W2 ⟨rfl, b2⟩
      have H3 : Hid (Below w.heap.size w W2 ∧ Bs W2 V l') := ⟨andThen H2.out b2, H1.out.1.kept (andThen H2.out b2)⟩
      have HRD : Hid (Calls Try.prog 22 #[V] W2 fun e w' => RdPost l' W2 e w') := rixdec_any V l' W2 H3.out.2 (by have := H1.out.2; omega)
      clear b2 H2 HLE
      go_wp2_with fail
      refine HRD.out.mono ?_
      rintro e W3 ⟨v3, rfl, hp3, b3⟩
      have H4 : Hid (Below w.heap.size w W3 ∧ Bs W3 V l' ∧ ((Ix.decodeP l').1 = 0 → Pr W3 v3 (prs (Ix.decodeP l').2))) := ⟨andThen H3.out.1 b3, H3.out.2.kept b3, hp3⟩
      have HLD : Hid (Calls Try.prog 23 #[V] W3 fun e w' => ∃ ao, ∃ cap : Nat, e = .returned (.slice ao l'.length cap) ∧ Wb.Own W3.heap.size w' (.slice ao (l'.length + 5) cap) (l' ++ marksB) ∧ Below W3.heap.size W3 w') := ixlaid_any V l' W3 H4.out.2.1 (by have := H1.out.2; omega)
      clear b3 hp3 HRD H3
      go_wp2_with fail
      refine HLD.out.mono ?_
      rintro e W4 ⟨ai, ci, rfl, ho4, b4⟩
      have H5 : Hid (Below w.heap.size w W4 ∧ Bs W4 V l' ∧ Below W3.heap.size W3 W4 ∧ Wb.Own W3.heap.size W4 (.slice ai (l'.length + 5) ci) (l' ++ marksB) ∧ Bs W4 (.slice ai l'.length ci) l') := ⟨andThen H4.out.1 b4, H4.out.2.1.kept b4, b4, ho4, laid_bs ho4⟩
      have HDC : Hid (Calls Try.prog 17 #[.slice ai l'.length ci] W4 fun e w' => DcPost l' W4 e w') := ixdec_any _ l' W4 H5.out.2.2.2.2 (by have := H1.out.2; omega)
      have HGD : Hid ((Ix.decodeP l').1 = 0 → (∀ p ∈ (Ix.decodeP l').2, p.2 ≠ []) ∧ (∀ p ∈ (Ix.decodeP l').2, 0 ≤ p.1 ∧ p.1 ≤ 9223372036854775807) ∧ (Ix.decodeP l').2.length ≤ l'.length ∧ Ix.total (Ix.decodeP l').2 ≤ l'.length) := fun he => Ix.decode_good l' H5.out.2.1.good he
      clear ho4 b4 HLD
      unfold DcPost at HDC
      obtain ⟨A, hA⟩ : ∃ A, Ix.decodeP l' = A := ⟨_, rfl⟩
      rw [hA] at HDC HGD H4 ⊢
      clear hA
      obtain ⟨er, kvs⟩ := A
      simp only at HDC HGD H4
      have hde : ((er : Int) != (er : Int)) = false := by simp
      go_wp2_with fail
      refine HDC.out.mono ?_
      rintro e W5 (⟨h0, g5, b5, base5, n5, rfl, hM, hb5, hn, hb⟩ | ⟨h0, rfl, hb⟩)
      · subst h0
        have H6 : Hid (MI W5 g5 b5 base5 n5 kvs ∧ W4.heap.size ≤ b5 ∧ n5 ≤ l'.length ∧ Below W4.heap.size W4 W5 ∧ Bs W5 (.slice ai (l'.length + 5) ci) (l' ++ marksB) ∧ Bs W5 V l' ∧ Below w.heap.size w W5) := ⟨hM, hb5, hn, hb, H5.out.2.2.2.1.bs.kept hb, H5.out.2.1.kept hb, andThen H5.out.1 hb⟩
        have HIN : Hid (Calls Try.prog 24 #[.slice ai l'.length ci, V] W5 fun e w' => e = .returned (.bool true) ∧ Below W5.heap.size W5 w') := ixintact_yes ai ci V l' W5 H6.out.2.2.2.2.1 H6.out.2.2.2.2.2.1 (by have := H1.out.2; omega)
        clear hM hb5 hn hb HDC
        go_wp2_with fail
        refine HIN.out.mono ?_
        rintro e W6 ⟨rfl, b6⟩
        have HR0 : Hid (RdR W3 W6 ai ci l'.length g5 b5 base5 n5 kvs W6) := ⟨andThen (andThen H5.out.2.2.1 H6.out.2.2.2.1) b6, H6.out.1.kept b6, ⟨l' ++ marksB, by simp [marksB], H5.out.2.2.2.1.kept (andThen H6.out.2.2.2.1 b6)⟩, fun gi hgi => by
            have h9 := World.ownsRow.lt H5.out.2.2.2.1.row gi (by rw [hgi]; rfl)
            have h8 := H6.out.2.1
            omega⟩
        have HF : Hid (Below w.heap.size w W6 ∧ l'.length ≤ 65536 ∧ n5 ≤ l'.length ∧ w.heap.size ≤ W3.heap.size) := ⟨andThen H6.out.2.2.2.2.2.2 b6, H1.out.2, H6.out.2.2.1, H4.out.1.size⟩
        have HG9 : Hid (∀ W, RdR W3 W6 ai ci l'.length g5 b5 base5 n5 kvs W → Calls Try.prog 25 #[.pointer (some ⟨g5, 0, none⟩), v3] W fun e w' => e = .returned (.bool true) ∧ Below W.heap.size W w') := fun W hW => by
          have h9 := HGD.out (by first | exact rfl | exact trivial)
          have h8 := HF.out.2.1
          have h7 := HF.out.2.2.1
          exact ixholds_yes g5 b5 base5 n5 kvs v3 W hW.mi ((H4.out.2.2 (by first | exact rfl | exact trivial)).kept hW.bel) (by omega) (by omega) (by omega) h9.1 h9.2.1
        have HZ9 : Hid (∀ W W', RdR W3 W6 ai ci l'.length g5 b5 base5 n5 kvs W → Below W.heap.size W W' → Below w.heap.size w W') := fun W W' hW hb => andThen (andThen H4.out.1 hW.bel) hb
        clear b6 HIN H6 H5 HGD H4 H1
        go_wp2_with fail
        generalize l'.length = L at *
        go_loopw [9] (fun i wr => ∃ k : Nat, k ≤ L ∧ i = .int .i64 (k : Int) ∧ RdR W3 W6 ai ci L g5 b5 base5 n5 kvs wr) (fun i _ => L - (intOf i).toNat)
        case atStart => exact ⟨0, Nat.zero_le _, rfl, HR0.out⟩
        case round =>
          clear HR0
          obtain ⟨k, hk, rfl, hR⟩ := hrel
          have hLs : L ≤ 65536 := HF.out.2.1
          by_cases hlt : k < L
          · obtain ⟨gi, y, rfl, c9, f9, R9⟩ := hR.put k 238 hlt (by decide)
            have HR9 : Hid (RdR W3 W6 (some ⟨gi, 0, none⟩) ci L g5 b5 base5 n5 kvs (wr.setCell ⟨gi, k, none⟩ (.int .u8 238))) := R9
            clear hR R9 HG9 HZ9 HF
            go_wp2_with fail
            go_roundw
            case rel => exact ⟨k + 1, by omega, by go_num, HR9.out⟩
            case measure => simp [intOf]; omega
          · have HC9 : Hid (Calls Try.prog 25 #[.pointer (some ⟨g5, 0, none⟩), v3] wr fun e w' => e = .returned (.bool true) ∧ Below wr.heap.size wr w') := HG9.out wr hR
            have HB9 : Hid (RdR W3 W6 ai ci L g5 b5 base5 n5 kvs wr) := hR
            clear hR HG9
            go_wp2_with fail
            refine HC9.out.mono ?_
            rintro e W7 ⟨rfl, b7⟩
            have HE9 : Hid (Below w.heap.size w W7) := HZ9.out _ _ HB9.out b7
            clear b7
            go_wp2_with fail
            go_ret
            exact ⟨rfl, HE9.out⟩
      · have hd : ((er : Int) != 0) = true := by simp; exact h0
        have H6 : Hid (Bs W5 (.slice ai (l'.length + 5) ci) (l' ++ marksB) ∧ Bs W5 V l' ∧ Below w.heap.size w W5) := ⟨H5.out.2.2.2.1.bs.kept hb, H5.out.2.1.kept hb, andThen H5.out.1 hb⟩
        have HIN : Hid (Calls Try.prog 24 #[.slice ai l'.length ci, V] W5 fun e w' => e = .returned (.bool true) ∧ Below W5.heap.size W5 w') := ixintact_yes ai ci V l' W5 H6.out.1 H6.out.2.1 (by have := H1.out.2; omega)
        clear hb HDC h0 HGD H4 H5
        go_wp2_with fail
        refine HIN.out.mono ?_
        rintro e W6 ⟨rfl, b6⟩
        have HE9 : Hid (Below w.heap.size w W6) := andThen H6.out.2.2 b6
        clear b6 HIN H6
        go_wp2_with fail
        go_ret
        exact ⟨rfl, HE9.out⟩
    · exact absurd rfl hD
end Go.Proofs.Ytneiokjpbfgioaa
