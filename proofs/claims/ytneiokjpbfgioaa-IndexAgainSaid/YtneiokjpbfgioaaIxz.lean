/-
  IndexAgain: the walk.
-/
import Derived.Test.YtneiokjpbfgioaaIxy
namespace Go.Proofs.Ytneiokjpbfgioaa
open Go Go.RowKit Go.ChangeShapes
open Wb

theorem Ix.decode_two : Ix.decodeP [1, 5, 1, 7] = (0, [(5, [7])]) := by kernel_rfl
/-- the caller's bytes, changed in place -/
structure AgS (w : World) (B : Nat) (ai : Option Addr) (ci L : Nat) (W : World) : Prop where
  bel : Below w.heap.size w W
  ge : w.heap.size ≤ B
  own : ∃ xs : List Nat, xs.length = L ∧ Wb.Own B W (.slice ai (L + 5) ci) (xs ++ marksB)
theorem AgS.kept {w : World} {B : Nat} {ai : Option Addr} {ci L : Nat} {W W' : World} (h : AgS w B ai ci L W) (hb : Below W.heap.size W W') : AgS w B ai ci L W' := by
  obtain ⟨xs, h1, h2⟩ := h.own
  exact ⟨andThen h.bel hb, h.ge, xs, h1, h2.kept hb⟩
theorem AgS.put {w : World} {B : Nat} {ai : Option Addr} {ci L : Nat} {W : World} (h : AgS w B ai ci L W) (k t : Nat) (hk : k < L) (ht : t < 256) :
    ∃ gi y, ai = some ⟨gi, 0, none⟩ ∧ W.cell? ⟨gi, k, none⟩ = some (.int .u8 y) ∧ W.frozen? ⟨gi, k, none⟩ = false ∧ AgS w B ai ci L (W.setCell ⟨gi, k, none⟩ (.int .u8 (t : Int))) := by
  obtain ⟨xs, hl, ho⟩ := h.own
  have hl5 : (xs ++ marksB).length = L + 5 := by simp [marksB, hl]
  rcases ho.shape with ⟨_, h0⟩ | ⟨gi, cap', e, hBg, -, hlc, hcm, hcell⟩
  · rw [h0] at hl5
    simp at hl5
  · rw [hl5] at e
    simp only [Value.slice.injEq, true_and] at e
    obtain ⟨rfl, rfl⟩ := e
    have ho' := ho
    rw [← hl5] at ho'
    have h2 := own_put ho' k t ht
    rw [hl5, List.set_append_left _ _ (by omega)] at h2
    exact ⟨gi, _, rfl, hcell k (by omega), World.ownsRow.frozenAt ho'.row k, h.bel.setCell (p := ⟨gi, k, none⟩) (Nat.le_trans h.ge hBg) _, h.ge, xs.set k t, by rw [List.length_set]; exact hl, h2⟩
/-- the place that a turn writes at, and the byte -/
theorem ag_place (x : Int) (L : Nat) (hL : 0 < L) : ∃ (z : Int) (j : Nat), bits .and .i64 x 1099511627775 = z ∧ 0 ≤ z ∧ z ≤ 1099511627775 ∧ j < L ∧ z.tmod (L : Int) = (j : Int) := by
  have e : bits .and .i64 x 1099511627775 = IntKind.i64.wrap ((BitVec.ofInt 64 x &&& BitVec.ofInt 64 1099511627775).toNat : Int) := rfl
  have h : (BitVec.ofInt 64 x &&& BitVec.ofInt 64 1099511627775).toNat ≤ 1099511627775 := by
    rw [BitVec.toNat_and]
    exact Nat.le_trans Nat.and_le_right (by decide)
  rw [IntWalk.i64_in _ (by omega)] at e
  refine ⟨_, (BitVec.ofInt 64 x &&& BitVec.ofInt 64 1099511627775).toNat % L, e, by omega, by omega, Nat.mod_lt _ hL, ?_⟩
  rw [Int.tmod_eq_emod_of_nonneg (by omega)]
  omega
theorem ag_byte (y : Int) : ∃ t : Nat, t < 256 ∧ IntKind.u8.wrap y = (t : Int) := by
  refine ⟨(y % 256).toNat, by omega, ?_⟩
  rw [IntKind.wrap_u8]
  omega
set_option maxRecDepth 100000 in
set_option maxHeartbeats 8000000 in
theorem indexAgain_walk (v vt : Value) (l : List Nat) (ts : List (Int × Int)) (w : World) (h : Bs w v l) (ht : Pr w vt ts) (hw : ∀ p ∈ ts, (Lit.int .i64 p.1).wf = true ∧ (Lit.int .i64 p.2).wf = true) :
    Calls Try.prog 7 #[v, vt] w fun e w' => e = .returned (.bool true) ∧ Below w.heap.size w w' := by
  have hin := info5
  obtain ⟨ao, cap, rfl, hl1, hl2, hl3, -⟩ := h.shape
  unfold maxLen at hl2
  have HB : Hid (∀ k, k ≤ l.length → Bs w (.slice ao k cap) (l.take k)) := fun k hk => ixbs_take h k hk
  obtain ⟨at1, ct, rfl, ht1, ht2, htc⟩ := ht
  unfold maxLen at ht2
  have HT : Hid (∀ (W : World) (j : Nat) (hj : j < ts.length), Below w.heap.size w W → ∃ b off, at1 = some ⟨b, off, none⟩ ∧ W.cell? ⟨b, off + j * 2, none⟩ = some (.int .i64 ts[j].1) ∧ W.cell? ⟨b, off + j * 2 + 1, none⟩ = some (.int .i64 ts[j].2)) := fun W j hj hb => by
    obtain ⟨b, off, rfl, hcell⟩ := htc (List.ne_nil_of_length_pos (by omega))
    have hc := hcell j hj
    exact ⟨b, off, rfl, (hb.cell (p := ⟨b, off + j * 2, none⟩) (World.block_lt_of_cell? _ _ hc.1)).trans hc.1, (hb.cell (p := ⟨b, off + j * 2 + 1, none⟩) (World.block_lt_of_cell? _ _ hc.2)).trans hc.2⟩
  have HTW : Hid (∀ (j : Nat) (hj : j < ts.length), (Lit.int .i64 ts[j].1).wf = true ∧ (Lit.int .i64 ts[j].2).wf = true) := fun j hj => hw _ (List.getElem_mem _)
  have HLT : Hid (∀ W W' : World, W' = W.alloc (.cells #[.int .u8 1, .int .u8 5, .int .u8 1, .int .u8 7] 5) → Bs W' (.slice (some ⟨W.heap.size, 0, none⟩) 4 4) [1, 5, 1, 7] ∧ Below W.heap.size W W') := fun W W' e => by
    subst e
    exact ⟨(Own.lit (B := 0) W [1, 5, 1, 7] (fun x hx => by simp at hx; omega) (Nat.zero_le _) (by simp [maxLen]) _ rfl).bs, up0 _ _⟩
  have HL2 : Hid (∀ W W' : World, W' = W.alloc (.cells #[.int .i64 7] 3) → Ri W' (.slice (some ⟨W.heap.size, 0, none⟩) 1 1) [7] ∧ Below W.heap.size W W') := fun W W' e => by
    subst e
    exact ⟨Ri.of (World.ownsRow_lit (base := 0) (e := 3) (size := 1) W #[.int .i64 7] 1 (Nat.zero_le _) (by simp [maxLen]) rfl), up0 _ _⟩
  have HWF : Hid ((Lit.int .i64 5).wf = true) := WalkArith.wf_i64 (by omega)
  clear h htc hw
  by_cases k1 : 2000 < l.length
  · have hk1 : ((2000 : Int) < (l.length : Int)) = True := by simp; omega
    have hk2 : ((2000 : Int) ≤ (cap : Int)) = True := by simp; omega
    have H1 : Hid (Bs w (.slice ao 2000 cap) (l.take 2000) ∧ (l.take 2000).length ≤ 2000) := ⟨HB.out _ (by omega), by rw [List.length_take]; omega⟩
    clear HB k1
    go_enter Try.func7, Try.ntmps7
    go_wp2_with fail
    generalize l.take 2000 = l' at H1
    clear hl1 hl2 hl3 hk1 hk2
    generalize Value.slice ao 2000 cap = V at H1 ⊢
    have HLD : Hid (Calls Try.prog 23 #[V] w fun e w' => ∃ ao, ∃ cap : Nat, e = .returned (.slice ao l'.length cap) ∧ Wb.Own w.heap.size w' (.slice ao (l'.length + 5) cap) (l' ++ marksB) ∧ Below w.heap.size w w') := ixlaid_any V l' w H1.out.1 (by have := H1.out.2; omega)
    refine HLD.out.mono ?_
    rintro e W1 ⟨ai, ci, rfl, ho1, b1⟩
    obtain ⟨B, hBe⟩ : ∃ B, B = w.heap.size := ⟨_, rfl⟩
    obtain ⟨L, hLe⟩ : ∃ L, L = l'.length := ⟨_, rfl⟩
    have HS0 : Hid (AgS w B ai ci L W1) := ⟨b1, by omega, l', hLe.symm, by rw [hBe, hLe]; exact ho1⟩
    have hLs : L ≤ 2000 := by rw [hLe]; exact H1.out.2
    rw [← hLe]
    clear ho1 b1 HLD H1 hBe hLe
    go_wp2_with fail
    go_loopw [6] (fun i wr => ∃ k : Nat, k ≤ 41 ∧ i = .int .i64 (k : Int) ∧ AgS w B ai ci L wr) (fun i _ => 41 - (intOf i).toNat)
    case atStart => exact ⟨0, by omega, rfl, HS0.out⟩
    case round =>
      clear HS0
      obtain ⟨k, hk, rfl, hR⟩ := hrel
      by_cases hgo : k ≤ ts.length ∧ k ≤ 40
      · have hd1 : ((k : Int) ≤ (ts.length : Int)) = True := by simp; omega
        have hd2 : ((k : Int) ≤ 40) = True := by simp; omega
        obtain ⟨xs, hxl, hown⟩ := hR.own
        have HX : Hid (xs.length ≤ 2000) := by show _ ≤ _; omega
        have hbi : Bs wr (.slice ai L ci) xs := by rw [← hxl]; exact laid_bs (by rw [hxl]; exact hown)
        have HBI : Hid (Bs wr (.slice ai L ci) xs) := hbi
        have HA0 : Hid (AgS w B ai ci L wr) := hR
        have HOW : Hid (Wb.Own B wr (.slice ai (L + 5) ci) (xs ++ marksB)) := hown
        have HXL : Hid (xs.length = L) := hxl
        clear hbi hR hown hxl
        go_wp2_with (at_builtin; refine wpList_append_at _ rfl (.const (.slice none 0 0)) (.tmp 31) 40 rfl wr.heap.size hin Try.underlying40 _ [] rfl (Wb.Own.nil _ _) _ xs rfl HBI.out (by have := HX.out; simp; omega) (Nat.le_refl _) ?_)
        intro v2 W2 ho2 g2 hat2
        have HB2 : Hid (Below wr.heap.size wr W2 ∧ Bs W2 v2 xs) := ⟨(Below.refl _ _).grown g2 (Nat.le_refl _) (fun q hq => by cases hq), by have := ho2.bs; simpa using this⟩
        obtain ⟨a2, n2, c2, e2⟩ := own_slice ho2
        subst e2
        have HRD : Hid (Calls Try.prog 22 #[.slice a2 n2 c2] W2 fun e w' => RdPost xs W2 e w') := rixdec_any _ xs W2 HB2.out.2 (by have := HX.out; omega)
        clear ho2 g2 hat2
        go_wp2_with fail
        refine HRD.out.mono ?_
        rintro e W3 ⟨v3, rfl, hp3, b3⟩
        have H3 : Hid (Below wr.heap.size wr W3 ∧ Bs W3 (.slice a2 n2 c2) xs ∧ ((Ix.decodeP xs).1 = 0 → Pr W3 v3 (prs (Ix.decodeP xs).2))) := ⟨andThen HB2.out.1 b3, HB2.out.2.kept b3, hp3⟩
        have HDC : Hid (Calls Try.prog 17 #[.slice ai L ci] W3 fun e w' => DcPost xs W3 e w') := ixdec_any _ xs W3 (HBI.out.kept H3.out.1) (by have := HX.out; omega)
        have HGD : Hid ((Ix.decodeP xs).1 = 0 → (∀ p ∈ (Ix.decodeP xs).2, p.2 ≠ []) ∧ (∀ p ∈ (Ix.decodeP xs).2, 0 ≤ p.1 ∧ p.1 ≤ 9223372036854775807) ∧ (Ix.decodeP xs).2.length ≤ xs.length ∧ Ix.total (Ix.decodeP xs).2 ≤ xs.length) := fun he => Ix.decode_good xs HBI.out.good he
        clear b3 hp3 HRD HB2
        unfold DcPost at HDC
        obtain ⟨A, hA⟩ : ∃ A, Ix.decodeP xs = A := ⟨_, rfl⟩
        rw [hA] at HDC HGD H3 ⊢
        clear hA
        obtain ⟨er, kvs⟩ := A
        simp only at HDC HGD H3
        have hde : ((er : Int) != (er : Int)) = false := by simp
        have HIN : Hid (∀ W, Below wr.heap.size wr W → Bs W (.slice a2 n2 c2) xs → Calls Try.prog 24 #[.slice ai L ci, .slice a2 n2 c2] W fun e w' => e = .returned (.bool true) ∧ Below W.heap.size W w') := fun W hb hbs => by
          have h9 := ixintact_yes ai ci (.slice a2 n2 c2) xs W (by rw [HXL.out]; exact HOW.out.bs.kept hb) hbs (by have := HX.out; omega)
          rw [HXL.out] at h9
          exact h9
        go_wp2_with fail
        refine HDC.out.mono ?_
        rintro e W4 (⟨h0, g4, b4, base4, n4, rfl, hM, hb4, hn, hb⟩ | ⟨h0, rfl, hb⟩)
        · subst h0
          have H4 : Hid (Below wr.heap.size wr W4 ∧ Bs W4 (.slice a2 n2 c2) xs) := ⟨andThen H3.out.1 hb, H3.out.2.1.kept hb⟩
          have HHO : Hid (Calls Try.prog 25 #[.pointer (some ⟨g4, 0, none⟩), v3] W4 fun e w' => e = .returned (.bool true) ∧ Below W4.heap.size W4 w') := by
            have h9 := HGD.out (by first | exact rfl | exact trivial)
            have h8 := HX.out
            exact ixholds_yes g4 b4 base4 n4 kvs v3 W4 hM ((H3.out.2.2 (by first | exact rfl | exact trivial)).kept hb) (by omega) (by omega) (by omega) h9.1 h9.2.1
          clear hM hb4 hn hb HDC H3 HGD
          go_wp2_with fail
          refine HHO.out.mono ?_
          rintro e W5 ⟨rfl, b5⟩
          have H5 : Hid (Below wr.heap.size wr W5 ∧ Bs W5 (.slice a2 n2 c2) xs) := ⟨andThen H4.out.1 b5, H4.out.2.kept b5⟩
          clear b5 HHO H4
          go_wp2_with fail
          refine (HIN.out W5 H5.out.1 H5.out.2).mono ?_
          rintro e W6 ⟨rfl, b6⟩
          have HA6 : Hid (AgS w B ai ci L W6) := HA0.out.kept (andThen H5.out.1 b6)
          clear b6 H5 HIN HA0 HBI HOW HXL HX
          by_cases hst : k < ts.length ∧ 0 < L
          · obtain ⟨bt, ot, rfl, ct0, ct1⟩ := HT.out W6 k hst.1 HA6.out.bel
            have hwf := HTW.out k hst.1
            generalize ts[k].1 = x at ct0 hwf
            generalize ts[k].2 = y at ct1 hwf
            obtain ⟨z, j, hz, hz1, hz2, hj, hzj⟩ := ag_place x L hst.2
            obtain ⟨t, htt, hty⟩ := ag_byte y
            have HAD : AgS w B ai ci L W6.drew := HA6.out.kept (Below.drew (Below.refl _ _))
            obtain ⟨gi, y9, rfl, c9, f9, -⟩ := HA6.out.put j t hj htt
            obtain ⟨gi2, y2, eg, -, -, R9⟩ := HAD.put j t hj htt
            simp only [Option.some.injEq, Addr.mk.injEq, and_true] at eg
            subst eg
            have HR9 : Hid (AgS w B (some ⟨gi, 0, none⟩) ci L (W6.drew.setCell ⟨gi, j, none⟩ (.int .u8 (t : Int)))) := R9
            have hd3 : ((k : Int) < (ts.length : Int)) = True := by simp; omega
            have hd4 : ((0 : Int) < (L : Int)) = True := by simp; omega
            have hL0 : (L : Int) ≠ 0 := by omega
            have hk4 : k < ts.length := hst.1
            clear R9 HA6 HAD hst hwf htt
            go_wp2_with fail
            go_region
            all_goals
              go_wp2_with fail
              go_roundw
              case rel => exact ⟨k + 1, by omega, by go_num, HR9.out⟩
              case measure => simp [intOf]; omega
          · by_cases hk5 : k < ts.length
            · have hd3 : ((k : Int) < (ts.length : Int)) = True := by simp; omega
              obtain rfl : L = 0 := by omega
              clear hst hLs
              go_wp2_with fail
              go_roundw
              case rel => exact ⟨k + 1, by omega, by go_num, HA6.out⟩
              case measure => simp [intOf]; omega
            · have hd3 : ((k : Int) < (ts.length : Int)) = False := by simp; omega
              clear hst
              go_wp2_with fail
              go_roundw
              case rel => exact ⟨k + 1, by omega, by go_num, HA6.out⟩
              case measure => simp [intOf]; omega
        · have hd : ((er : Int) == 0) = false := by simp; exact h0
          have H5 : Hid (Below wr.heap.size wr W4 ∧ Bs W4 (.slice a2 n2 c2) xs) := ⟨andThen H3.out.1 hb, H3.out.2.1.kept hb⟩
          clear hb HDC H3 HGD h0
          go_wp2_with fail
          refine (HIN.out W4 H5.out.1 H5.out.2).mono ?_
          rintro e W6 ⟨rfl, b6⟩
          have HA6 : Hid (AgS w B ai ci L W6) := HA0.out.kept (andThen H5.out.1 b6)
          clear b6 H5 HIN HA0 HBI HOW HXL HX
          by_cases hst : k < ts.length ∧ 0 < L
          · obtain ⟨bt, ot, rfl, ct0, ct1⟩ := HT.out W6 k hst.1 HA6.out.bel
            have hwf := HTW.out k hst.1
            generalize ts[k].1 = x at ct0 hwf
            generalize ts[k].2 = y at ct1 hwf
            obtain ⟨z, j, hz, hz1, hz2, hj, hzj⟩ := ag_place x L hst.2
            obtain ⟨t, htt, hty⟩ := ag_byte y
            have HAD : AgS w B ai ci L W6.drew := HA6.out.kept (Below.drew (Below.refl _ _))
            obtain ⟨gi, y9, rfl, c9, f9, -⟩ := HA6.out.put j t hj htt
            obtain ⟨gi2, y2, eg, -, -, R9⟩ := HAD.put j t hj htt
            simp only [Option.some.injEq, Addr.mk.injEq, and_true] at eg
            subst eg
            have HR9 : Hid (AgS w B (some ⟨gi, 0, none⟩) ci L (W6.drew.setCell ⟨gi, j, none⟩ (.int .u8 (t : Int)))) := R9
            have hd3 : ((k : Int) < (ts.length : Int)) = True := by simp; omega
            have hd4 : ((0 : Int) < (L : Int)) = True := by simp; omega
            have hL0 : (L : Int) ≠ 0 := by omega
            have hk4 : k < ts.length := hst.1
            clear R9 HA6 HAD hst hwf htt
            go_wp2_with fail
            go_region
            all_goals
              go_wp2_with fail
              go_roundw
              case rel => exact ⟨k + 1, by omega, by go_num, HR9.out⟩
              case measure => simp [intOf]; omega
          · by_cases hk5 : k < ts.length
            · have hd3 : ((k : Int) < (ts.length : Int)) = True := by simp; omega
              obtain rfl : L = 0 := by omega
              clear hst hLs
              go_wp2_with fail
              go_roundw
              case rel => exact ⟨k + 1, by omega, by go_num, HA6.out⟩
              case measure => simp [intOf]; omega
            · have hd3 : ((k : Int) < (ts.length : Int)) = False := by simp; omega
              clear hst
              go_wp2_with fail
              go_roundw
              case rel => exact ⟨k + 1, by omega, by go_num, HA6.out⟩
              case measure => simp [intOf]; omega
      · have HBW : Hid (Below w.heap.size w wr) := hR.bel
        clear hR
        by_cases hk9 : k ≤ ts.length
        · have hd1 : ((k : Int) ≤ (ts.length : Int)) = True := by simp; omega
          have hd2 : ((k : Int) ≤ 40) = False := by simp; omega
          go_wp2_with fail
          refine (ixdec_any _ [1, 5, 1, 7] _ (HLT.out wr _ rfl).1 (by decide)).mono ?_
          have HL9 : Hid (Below w.heap.size w (wr.alloc (.cells #[.int .u8 1, .int .u8 5, .int .u8 1, .int .u8 7] 5))) := andThen HBW.out (HLT.out wr _ rfl).2
          generalize wr.alloc (.cells #[.int .u8 1, .int .u8 5, .int .u8 1, .int .u8 7] 5) = W7 at HL9 ⊢
          rintro e W8 hD
          unfold DcPost at hD
          rw [Ix.decode_two] at hD
          rcases hD with ⟨-, g, b, base, n, rfl, hM, -, hn, hb⟩ | ⟨hD, -⟩
          · have H8 : Hid (MI W8 g b base n [(5, [7])] ∧ n ≤ 4 ∧ Below w.heap.size w W8) := ⟨hM, hn, andThen HL9.out hb⟩
            clear hM hn hb HL9
            go_wp2_with fail
            refine (ixget_any g b base n _ 5 W8 H8.out.1 HWF.out (by have := H8.out.2.1; omega)).mono ?_
            rintro e W9 ⟨v9, rfl, r9, b9⟩
            have H9 : Hid (Ri W9 v9 [7] ∧ Below w.heap.size w W9) := ⟨r9, andThen H8.out.2.2 b9⟩
            clear r9 b9 H8
            go_wp2_with fail
            refine (ixsamei_any _ _ [7] [7] _ (H9.out.1.kept (HL2.out W9 _ rfl).2) (HL2.out W9 _ rfl).1).mono ?_
            have H4 : Hid (Below w.heap.size w (W9.alloc (.cells #[.int .i64 7] 3))) := andThen H9.out.2 (HL2.out W9 _ rfl).2
            generalize W9.alloc (.cells #[.int .i64 7] 3) = Wa at H4 ⊢
            rintro e Wb ⟨rfl, bb⟩
            have H5 : Hid (Below w.heap.size w Wb) := andThen H4.out bb
            have hd9 : decide (([7] : List Int) = [7]) = true := rfl
            rw [hd9]
            clear bb
            go_wp2_with fail
            go_ret
            exact ⟨rfl, H5.out⟩
          · exact absurd rfl hD
        · have hd1 : ((k : Int) ≤ (ts.length : Int)) = False := by simp; omega
          go_wp2_with fail
          refine (ixdec_any _ [1, 5, 1, 7] _ (HLT.out wr _ rfl).1 (by decide)).mono ?_
          have HL9 : Hid (Below w.heap.size w (wr.alloc (.cells #[.int .u8 1, .int .u8 5, .int .u8 1, .int .u8 7] 5))) := andThen HBW.out (HLT.out wr _ rfl).2
          generalize wr.alloc (.cells #[.int .u8 1, .int .u8 5, .int .u8 1, .int .u8 7] 5) = W7 at HL9 ⊢
          rintro e W8 hD
          unfold DcPost at hD
          rw [Ix.decode_two] at hD
          rcases hD with ⟨-, g, b, base, n, rfl, hM, -, hn, hb⟩ | ⟨hD, -⟩
          · have H8 : Hid (MI W8 g b base n [(5, [7])] ∧ n ≤ 4 ∧ Below w.heap.size w W8) := ⟨hM, hn, andThen HL9.out hb⟩
            clear hM hn hb HL9
            go_wp2_with fail
            refine (ixget_any g b base n _ 5 W8 H8.out.1 HWF.out (by have := H8.out.2.1; omega)).mono ?_
            rintro e W9 ⟨v9, rfl, r9, b9⟩
            have H9 : Hid (Ri W9 v9 [7] ∧ Below w.heap.size w W9) := ⟨r9, andThen H8.out.2.2 b9⟩
            clear r9 b9 H8
            go_wp2_with fail
            refine (ixsamei_any _ _ [7] [7] _ (H9.out.1.kept (HL2.out W9 _ rfl).2) (HL2.out W9 _ rfl).1).mono ?_
            have H4 : Hid (Below w.heap.size w (W9.alloc (.cells #[.int .i64 7] 3))) := andThen H9.out.2 (HL2.out W9 _ rfl).2
            generalize W9.alloc (.cells #[.int .i64 7] 3) = Wa at H4 ⊢
            rintro e Wb ⟨rfl, bb⟩
            have H5 : Hid (Below w.heap.size w Wb) := andThen H4.out bb
            have hd9 : decide (([7] : List Int) = [7]) = true := rfl
            rw [hd9]
            clear bb
            go_wp2_with fail
            go_ret
            exact ⟨rfl, H5.out⟩
          · exact absurd rfl hD
  · have hk1 : ((2000 : Int) < (l.length : Int)) = False := by simp; omega
    have H1 : Hid (Bs w (.slice ao l.length cap) l ∧ l.length ≤ 2000) := ⟨by have := HB.out l.length (Nat.le_refl _); rw [List.take_of_length_le (Nat.le_refl _)] at this; exact this, by omega⟩
    clear HB k1
    go_enter Try.func7, Try.ntmps7
    go_wp2_with fail
    clear hl1 hl2 hl3 hk1
    generalize Value.slice ao l.length cap = V at H1 ⊢
    obtain ⟨l', hl9⟩ : ∃ x, x = l := ⟨_, rfl⟩
    rw [← hl9] at H1
    clear hl9
    have HLD : Hid (Calls Try.prog 23 #[V] w fun e w' => ∃ ao, ∃ cap : Nat, e = .returned (.slice ao l'.length cap) ∧ Wb.Own w.heap.size w' (.slice ao (l'.length + 5) cap) (l' ++ marksB) ∧ Below w.heap.size w w') := ixlaid_any V l' w H1.out.1 (by have := H1.out.2; omega)
    refine HLD.out.mono ?_
    rintro e W1 ⟨ai, ci, rfl, ho1, b1⟩
    obtain ⟨B, hBe⟩ : ∃ B, B = w.heap.size := ⟨_, rfl⟩
    obtain ⟨L, hLe⟩ : ∃ L, L = l'.length := ⟨_, rfl⟩
    have HS0 : Hid (AgS w B ai ci L W1) := ⟨b1, by omega, l', hLe.symm, by rw [hBe, hLe]; exact ho1⟩
    have hLs : L ≤ 2000 := by rw [hLe]; exact H1.out.2
    rw [← hLe]
    clear ho1 b1 HLD H1 hBe hLe
    go_wp2_with fail
    go_loopw [6] (fun i wr => ∃ k : Nat, k ≤ 41 ∧ i = .int .i64 (k : Int) ∧ AgS w B ai ci L wr) (fun i _ => 41 - (intOf i).toNat)
    case atStart => exact ⟨0, by omega, rfl, HS0.out⟩
    case round =>
      clear HS0
      obtain ⟨k, hk, rfl, hR⟩ := hrel
      by_cases hgo : k ≤ ts.length ∧ k ≤ 40
      · have hd1 : ((k : Int) ≤ (ts.length : Int)) = True := by simp; omega
        have hd2 : ((k : Int) ≤ 40) = True := by simp; omega
        obtain ⟨xs, hxl, hown⟩ := hR.own
        have HX : Hid (xs.length ≤ 2000) := by show _ ≤ _; omega
        have hbi : Bs wr (.slice ai L ci) xs := by rw [← hxl]; exact laid_bs (by rw [hxl]; exact hown)
        have HBI : Hid (Bs wr (.slice ai L ci) xs) := hbi
        have HA0 : Hid (AgS w B ai ci L wr) := hR
        have HOW : Hid (Wb.Own B wr (.slice ai (L + 5) ci) (xs ++ marksB)) := hown
        have HXL : Hid (xs.length = L) := hxl
        clear hbi hR hown hxl
        go_wp2_with (at_builtin; refine wpList_append_at _ rfl (.const (.slice none 0 0)) (.tmp 31) 40 rfl wr.heap.size hin Try.underlying40 _ [] rfl (Wb.Own.nil _ _) _ xs rfl HBI.out (by have := HX.out; simp; omega) (Nat.le_refl _) ?_)
        intro v2 W2 ho2 g2 hat2
        have HB2 : Hid (Below wr.heap.size wr W2 ∧ Bs W2 v2 xs) := ⟨(Below.refl _ _).grown g2 (Nat.le_refl _) (fun q hq => by cases hq), by have := ho2.bs; simpa using this⟩
        obtain ⟨a2, n2, c2, e2⟩ := own_slice ho2
        subst e2
        have HRD : Hid (Calls Try.prog 22 #[.slice a2 n2 c2] W2 fun e w' => RdPost xs W2 e w') := rixdec_any _ xs W2 HB2.out.2 (by have := HX.out; omega)
        clear ho2 g2 hat2
        go_wp2_with fail
        refine HRD.out.mono ?_
        rintro e W3 ⟨v3, rfl, hp3, b3⟩
        have H3 : Hid (Below wr.heap.size wr W3 ∧ Bs W3 (.slice a2 n2 c2) xs ∧ ((Ix.decodeP xs).1 = 0 → Pr W3 v3 (prs (Ix.decodeP xs).2))) := ⟨andThen HB2.out.1 b3, HB2.out.2.kept b3, hp3⟩
        have HDC : Hid (Calls Try.prog 17 #[.slice ai L ci] W3 fun e w' => DcPost xs W3 e w') := ixdec_any _ xs W3 (HBI.out.kept H3.out.1) (by have := HX.out; omega)
        have HGD : Hid ((Ix.decodeP xs).1 = 0 → (∀ p ∈ (Ix.decodeP xs).2, p.2 ≠ []) ∧ (∀ p ∈ (Ix.decodeP xs).2, 0 ≤ p.1 ∧ p.1 ≤ 9223372036854775807) ∧ (Ix.decodeP xs).2.length ≤ xs.length ∧ Ix.total (Ix.decodeP xs).2 ≤ xs.length) := fun he => Ix.decode_good xs HBI.out.good he
        clear b3 hp3 HRD HB2
        unfold DcPost at HDC
        obtain ⟨A, hA⟩ : ∃ A, Ix.decodeP xs = A := ⟨_, rfl⟩
        rw [hA] at HDC HGD H3 ⊢
        clear hA
        obtain ⟨er, kvs⟩ := A
        simp only at HDC HGD H3
        have hde : ((er : Int) != (er : Int)) = false := by simp
        have HIN : Hid (∀ W, Below wr.heap.size wr W → Bs W (.slice a2 n2 c2) xs → Calls Try.prog 24 #[.slice ai L ci, .slice a2 n2 c2] W fun e w' => e = .returned (.bool true) ∧ Below W.heap.size W w') := fun W hb hbs => by
          have h9 := ixintact_yes ai ci (.slice a2 n2 c2) xs W (by rw [HXL.out]; exact HOW.out.bs.kept hb) hbs (by have := HX.out; omega)
          rw [HXL.out] at h9
          exact h9
        go_wp2_with fail
        refine HDC.out.mono ?_
        rintro e W4 (⟨h0, g4, b4, base4, n4, rfl, hM, hb4, hn, hb⟩ | ⟨h0, rfl, hb⟩)
        · subst h0
          have H4 : Hid (Below wr.heap.size wr W4 ∧ Bs W4 (.slice a2 n2 c2) xs) := ⟨andThen H3.out.1 hb, H3.out.2.1.kept hb⟩
          have HHO : Hid (Calls Try.prog 25 #[.pointer (some ⟨g4, 0, none⟩), v3] W4 fun e w' => e = .returned (.bool true) ∧ Below W4.heap.size W4 w') := by
            have h9 := HGD.out (by first | exact rfl | exact trivial)
            have h8 := HX.out
            exact ixholds_yes g4 b4 base4 n4 kvs v3 W4 hM ((H3.out.2.2 (by first | exact rfl | exact trivial)).kept hb) (by omega) (by omega) (by omega) h9.1 h9.2.1
          clear hM hb4 hn hb HDC H3 HGD
          go_wp2_with fail
          refine HHO.out.mono ?_
          rintro e W5 ⟨rfl, b5⟩
          have H5 : Hid (Below wr.heap.size wr W5 ∧ Bs W5 (.slice a2 n2 c2) xs) := ⟨andThen H4.out.1 b5, H4.out.2.kept b5⟩
          clear b5 HHO H4
          go_wp2_with fail
          refine (HIN.out W5 H5.out.1 H5.out.2).mono ?_
          rintro e W6 ⟨rfl, b6⟩
          have HA6 : Hid (AgS w B ai ci L W6) := HA0.out.kept (andThen H5.out.1 b6)
          clear b6 H5 HIN HA0 HBI HOW HXL HX
          by_cases hst : k < ts.length ∧ 0 < L
          · obtain ⟨bt, ot, rfl, ct0, ct1⟩ := HT.out W6 k hst.1 HA6.out.bel
            have hwf := HTW.out k hst.1
            generalize ts[k].1 = x at ct0 hwf
            generalize ts[k].2 = y at ct1 hwf
            obtain ⟨z, j, hz, hz1, hz2, hj, hzj⟩ := ag_place x L hst.2
            obtain ⟨t, htt, hty⟩ := ag_byte y
            have HAD : AgS w B ai ci L W6.drew := HA6.out.kept (Below.drew (Below.refl _ _))
            obtain ⟨gi, y9, rfl, c9, f9, -⟩ := HA6.out.put j t hj htt
            obtain ⟨gi2, y2, eg, -, -, R9⟩ := HAD.put j t hj htt
            simp only [Option.some.injEq, Addr.mk.injEq, and_true] at eg
            subst eg
            have HR9 : Hid (AgS w B (some ⟨gi, 0, none⟩) ci L (W6.drew.setCell ⟨gi, j, none⟩ (.int .u8 (t : Int)))) := R9
            have hd3 : ((k : Int) < (ts.length : Int)) = True := by simp; omega
            have hd4 : ((0 : Int) < (L : Int)) = True := by simp; omega
            have hL0 : (L : Int) ≠ 0 := by omega
            have hk4 : k < ts.length := hst.1
            clear R9 HA6 HAD hst hwf htt
            go_wp2_with fail
            go_region
            all_goals
              go_wp2_with fail
              go_roundw
              case rel => exact ⟨k + 1, by omega, by go_num, HR9.out⟩
              case measure => simp [intOf]; omega
          · by_cases hk5 : k < ts.length
            · have hd3 : ((k : Int) < (ts.length : Int)) = True := by simp; omega
              obtain rfl : L = 0 := by omega
              clear hst hLs
              go_wp2_with fail
              go_roundw
              case rel => exact ⟨k + 1, by omega, by go_num, HA6.out⟩
              case measure => simp [intOf]; omega
            · have hd3 : ((k : Int) < (ts.length : Int)) = False := by simp; omega
              clear hst
              go_wp2_with fail
              go_roundw
              case rel => exact ⟨k + 1, by omega, by go_num, HA6.out⟩
              case measure => simp [intOf]; omega
        · have hd : ((er : Int) == 0) = false := by simp; exact h0
          have H5 : Hid (Below wr.heap.size wr W4 ∧ Bs W4 (.slice a2 n2 c2) xs) := ⟨andThen H3.out.1 hb, H3.out.2.1.kept hb⟩
          clear hb HDC H3 HGD h0
          go_wp2_with fail
          refine (HIN.out W4 H5.out.1 H5.out.2).mono ?_
          rintro e W6 ⟨rfl, b6⟩
          have HA6 : Hid (AgS w B ai ci L W6) := HA0.out.kept (andThen H5.out.1 b6)
          clear b6 H5 HIN HA0 HBI HOW HXL HX
          by_cases hst : k < ts.length ∧ 0 < L
          · obtain ⟨bt, ot, rfl, ct0, ct1⟩ := HT.out W6 k hst.1 HA6.out.bel
            have hwf := HTW.out k hst.1
            generalize ts[k].1 = x at ct0 hwf
            generalize ts[k].2 = y at ct1 hwf
            obtain ⟨z, j, hz, hz1, hz2, hj, hzj⟩ := ag_place x L hst.2
            obtain ⟨t, htt, hty⟩ := ag_byte y
            have HAD : AgS w B ai ci L W6.drew := HA6.out.kept (Below.drew (Below.refl _ _))
            obtain ⟨gi, y9, rfl, c9, f9, -⟩ := HA6.out.put j t hj htt
            obtain ⟨gi2, y2, eg, -, -, R9⟩ := HAD.put j t hj htt
            simp only [Option.some.injEq, Addr.mk.injEq, and_true] at eg
            subst eg
            have HR9 : Hid (AgS w B (some ⟨gi, 0, none⟩) ci L (W6.drew.setCell ⟨gi, j, none⟩ (.int .u8 (t : Int)))) := R9
            have hd3 : ((k : Int) < (ts.length : Int)) = True := by simp; omega
            have hd4 : ((0 : Int) < (L : Int)) = True := by simp; omega
            have hL0 : (L : Int) ≠ 0 := by omega
            have hk4 : k < ts.length := hst.1
            clear R9 HA6 HAD hst hwf htt
            go_wp2_with fail
            go_region
            all_goals
              go_wp2_with fail
              go_roundw
              case rel => exact ⟨k + 1, by omega, by go_num, HR9.out⟩
              case measure => simp [intOf]; omega
          · by_cases hk5 : k < ts.length
            · have hd3 : ((k : Int) < (ts.length : Int)) = True := by simp; omega
              obtain rfl : L = 0 := by omega
              clear hst hLs
              go_wp2_with fail
              go_roundw
              case rel => exact ⟨k + 1, by omega, by go_num, HA6.out⟩
              case measure => simp [intOf]; omega
            · have hd3 : ((k : Int) < (ts.length : Int)) = False := by simp; omega
              clear hst
              go_wp2_with fail
              go_roundw
              case rel => exact ⟨k + 1, by omega, by go_num, HA6.out⟩
              case measure => simp [intOf]; omega
      · have HBW : Hid (Below w.heap.size w wr) := hR.bel
        clear hR
        by_cases hk9 : k ≤ ts.length
        · have hd1 : ((k : Int) ≤ (ts.length : Int)) = True := by simp; omega
          have hd2 : ((k : Int) ≤ 40) = False := by simp; omega
          go_wp2_with fail
          refine (ixdec_any _ [1, 5, 1, 7] _ (HLT.out wr _ rfl).1 (by decide)).mono ?_
          have HL9 : Hid (Below w.heap.size w (wr.alloc (.cells #[.int .u8 1, .int .u8 5, .int .u8 1, .int .u8 7] 5))) := andThen HBW.out (HLT.out wr _ rfl).2
          generalize wr.alloc (.cells #[.int .u8 1, .int .u8 5, .int .u8 1, .int .u8 7] 5) = W7 at HL9 ⊢
          rintro e W8 hD
          unfold DcPost at hD
          rw [Ix.decode_two] at hD
          rcases hD with ⟨-, g, b, base, n, rfl, hM, -, hn, hb⟩ | ⟨hD, -⟩
          · have H8 : Hid (MI W8 g b base n [(5, [7])] ∧ n ≤ 4 ∧ Below w.heap.size w W8) := ⟨hM, hn, andThen HL9.out hb⟩
            clear hM hn hb HL9
            go_wp2_with fail
            refine (ixget_any g b base n _ 5 W8 H8.out.1 HWF.out (by have := H8.out.2.1; omega)).mono ?_
            rintro e W9 ⟨v9, rfl, r9, b9⟩
            have H9 : Hid (Ri W9 v9 [7] ∧ Below w.heap.size w W9) := ⟨r9, andThen H8.out.2.2 b9⟩
            clear r9 b9 H8
            go_wp2_with fail
            refine (ixsamei_any _ _ [7] [7] _ (H9.out.1.kept (HL2.out W9 _ rfl).2) (HL2.out W9 _ rfl).1).mono ?_
            have H4 : Hid (Below w.heap.size w (W9.alloc (.cells #[.int .i64 7] 3))) := andThen H9.out.2 (HL2.out W9 _ rfl).2
            generalize W9.alloc (.cells #[.int .i64 7] 3) = Wa at H4 ⊢
            rintro e Wb ⟨rfl, bb⟩
            have H5 : Hid (Below w.heap.size w Wb) := andThen H4.out bb
            have hd9 : decide (([7] : List Int) = [7]) = true := rfl
            rw [hd9]
            clear bb
            go_wp2_with fail
            go_ret
            exact ⟨rfl, H5.out⟩
          · exact absurd rfl hD
        · have hd1 : ((k : Int) ≤ (ts.length : Int)) = False := by simp; omega
          go_wp2_with fail
          refine (ixdec_any _ [1, 5, 1, 7] _ (HLT.out wr _ rfl).1 (by decide)).mono ?_
          have HL9 : Hid (Below w.heap.size w (wr.alloc (.cells #[.int .u8 1, .int .u8 5, .int .u8 1, .int .u8 7] 5))) := andThen HBW.out (HLT.out wr _ rfl).2
          generalize wr.alloc (.cells #[.int .u8 1, .int .u8 5, .int .u8 1, .int .u8 7] 5) = W7 at HL9 ⊢
          rintro e W8 hD
          unfold DcPost at hD
          rw [Ix.decode_two] at hD
          rcases hD with ⟨-, g, b, base, n, rfl, hM, -, hn, hb⟩ | ⟨hD, -⟩
          · have H8 : Hid (MI W8 g b base n [(5, [7])] ∧ n ≤ 4 ∧ Below w.heap.size w W8) := ⟨hM, hn, andThen HL9.out hb⟩
            clear hM hn hb HL9
            go_wp2_with fail
            refine (ixget_any g b base n _ 5 W8 H8.out.1 HWF.out (by have := H8.out.2.1; omega)).mono ?_
            rintro e W9 ⟨v9, rfl, r9, b9⟩
            have H9 : Hid (Ri W9 v9 [7] ∧ Below w.heap.size w W9) := ⟨r9, andThen H8.out.2.2 b9⟩
            clear r9 b9 H8
            go_wp2_with fail
            refine (ixsamei_any _ _ [7] [7] _ (H9.out.1.kept (HL2.out W9 _ rfl).2) (HL2.out W9 _ rfl).1).mono ?_
            have H4 : Hid (Below w.heap.size w (W9.alloc (.cells #[.int .i64 7] 3))) := andThen H9.out.2 (HL2.out W9 _ rfl).2
            generalize W9.alloc (.cells #[.int .i64 7] 3) = Wa at H4 ⊢
            rintro e Wb ⟨rfl, bb⟩
            have H5 : Hid (Below w.heap.size w Wb) := andThen H4.out bb
            have hd9 : decide (([7] : List Int) = [7]) = true := rfl
            rw [hd9]
            clear bb
            go_wp2_with fail
            go_ret
            exact ⟨rfl, H5.out⟩
          · exact absurd rfl hD
end Go.Proofs.Ytneiokjpbfgioaa
