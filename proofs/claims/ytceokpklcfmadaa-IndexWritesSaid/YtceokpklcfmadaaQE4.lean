import Derived.Test.YtceokpklcfmadaaQE3
import Derived.Test.YtceokpklcfmadaaQJ7
/-
  IndexWrites: the walk.
-/
namespace Go.Proofs.Ytceokpklcfmadaa
open Go Go.RowKit Go.ChangeShapes
open Wb

theorem wr_take {w W : World} {g b base n gK X : Nat} {ps : List (Int × Int)} {lv0 vl vm lv cv : Value} {rows : List (Value × Nat × Nat)} {L : List Nat} (h : WrS w g b base n ps lv0 gK vl vm rows X cv W) (hpr : Pr w lv0 ps) (hX : X ≤ W.heap.size) (ho : Wb.Own w.heap.size W lv L) (hL : L.length ≤ 60000) (hn : rows.length ≤ 20) (hlv : ∀ k, cv.ownBlock = some k → lv.ownBlock ≠ some k) (ha : ∀ r ∈ rows, ∀ q, r.1.ownBlock = some q → lv.ownBlock ≠ some q) (hm : ∀ q, vm.ownBlock = some q → lv.ownBlock ≠ some q) :
    Calls Try.prog 45 #[.pointer (some ⟨gK, 0, none⟩), lv] W fun e w' => e = .returned (.tuple #[]) ∧ ∃ vl' vm' rows', rows'.length = rows.length + 4 ∧ WrS w g b base n ps lv0 gK vl' vm' rows' X cv w' ∧ W.heap.size ≤ w'.heap.size ∧ ∀ g2 b2 base2 n2 kvs, MI W g2 b2 base2 n2 kvs → MI w' g2 b2 base2 n2 kvs :=
  (ixtakeb_any w.heap.size gK vl vm lv rows L W h.bk ho (by omega) hn h.bel.size ha hm).mono fun e w' ⟨h1, h2⟩ => by
    obtain ⟨vl', vm', rows', h3, h4⟩ := h.take hpr hX ho hlv h2
    obtain ⟨_, _, _, _, _, _, -, -, -, -, -, -, f⟩ := h2
    exact ⟨h1, vl', vm', rows', h3, h4, f.size, fun g2 b2 base2 n2 kvs hk => hk.tk h.bk ho f⟩
/-- apart from what was handed out ahead -/
theorem wr_apart {B W0 : Nat} {W W1 : World} {gK : Nat} {vl vm lv : Value} {rows : List (Value × Nat × Nat)} {L : List Nat} (bk : Bk B W gK vl vm rows) (hs : W.heap.size ≤ W0) (ho : Wb.Own W0 W1 lv L) : (∀ r ∈ rows, ∀ q, r.1.ownBlock = some q → lv.ownBlock ≠ some q) ∧ ∀ q, vm.ownBlock = some q → lv.ownBlock ≠ some q :=
  ⟨fun r hr q e e2 => by
    have h1 := (bk.lt).1 r hr q e
    have h2 := (own_block ho q e2).1
    omega, fun q e e2 => by
    have h1 := (bk.lt).2 q e
    have h2 := (own_block ho q e2).1
    omega⟩
theorem enc34 : Ix.encA [(3, 4)] = ([1, 3, 1, 4], 0) := by decide +kernel
set_option maxRecDepth 100000 in
set_option maxHeartbeats 8000000 in
theorem indexWrites_walk (v : Value) (ps0 : List (Int × Int)) (w : World) (h : Pr w v ps0) (hw0 : ∀ p ∈ ps0, (Lit.int .i64 p.1).wf = true ∧ (Lit.int .i64 p.2).wf = true) :
    Calls Try.prog 7 #[v] w fun e w' => e = .returned (.bool true) ∧ Below w.heap.size w w' := by
  have HCUT := ixcutp_any v ps0 w h
  obtain ⟨ps, hps⟩ : ∃ ps, ps = ps0.take 300 := ⟨_, rfl⟩
  rw [← hps] at HCUT
  have hl : ps.length ≤ 300 := by rw [hps, List.length_take]; omega
  have HW : Hid (∀ p ∈ ps, (Lit.int .i64 p.1).wf = true ∧ (Lit.int .i64 p.2).wf = true) := fun p hp => hw0 p (List.mem_of_mem_take (hps ▸ hp))
  have HWB : Hid (∀ p ∈ ps, (-9223372036854775808 ≤ p.1 ∧ p.1 ≤ 9223372036854775807) ∧ (-9223372036854775808 ≤ p.2 ∧ p.2 ≤ 9223372036854775807)) := fun p hp => ⟨i64_wf_bounds (HW.out p hp).1, i64_wf_bounds (HW.out p hp).2⟩
  have HSB : Hid (∀ (W : World) (va vb : Value) (l : List Nat), Bs W va l → Bs W vb l → Calls Try.prog 44 #[va, vb] W fun e w' => e = .returned (.bool true) ∧ Below W.heap.size W w') := fun W va vb l h1 h2 => (ixsameb_any va vb l l W h1 h2).mono fun e w' ⟨h3, h4⟩ => ⟨by rw [h3, decide_eq_true rfl], h4⟩
  have HLN : Hid ((Ix.encA ps).1.length ≤ 60000) := Ix.encA_len ps (by omega)
  obtain ⟨out, hout⟩ : ∃ out, out = (Ix.encA ps).1 := ⟨_, rfl⟩
  obtain ⟨er, her⟩ : ∃ er, er = (Ix.encA ps).2 := ⟨_, rfl⟩
  have HEN : Hid (∀ (W : World) (g b base : Nat), MI W g b base ps.length (Ix.gml ps) → Calls Try.prog 24 #[.pointer (some ⟨g, 0, none⟩)] W fun e w' => ∃ ad, ∃ m c : Nat, e = .returned (.tuple #[.slice ad m c, .int .i64 (er : Int)]) ∧ Wb.Own W.heap.size w' (.slice ad m c) (Ix.encA ps).1 ∧ Below W.heap.size W w') := fun W g b base hm => by
    rw [her]
    exact ixenc_own g b base _ ps W hm (by omega) (by omega) fun p hp => (HWB.out p hp).1
  have HRE : Hid (∀ (W : World) (u : Value), Pr W u ps → Calls Try.prog 43 #[u] W fun e w' => ∃ ad, ∃ m c : Nat, e = .returned (.tuple #[.slice ad m c, .int .i64 (er : Int)]) ∧ Wb.Own W.heap.size w' (.slice ad m c) (Ix.encA ps).1 ∧ Below W.heap.size W w') := fun W u hp => by
    rw [her]
    exact rixenc_own u ps W hp (by omega) HWB.out
  have HE2 : Hid (∀ (W : World) (g b base : Nat), MI W g b base 1 (Ix.gml [(3, 4)]) → Calls Try.prog 24 #[.pointer (some ⟨g, 0, none⟩)] W fun e w' => ∃ ad, ∃ m c : Nat, e = .returned (.tuple #[.slice ad m c, .int .i64 0]) ∧ Wb.Own W.heap.size w' (.slice ad m c) [1, 3, 1, 4] ∧ Below W.heap.size W w') := fun W g b base hm => by
    have h9 := ixenc_own g b base 1 [(3, 4)] W hm (by omega) (by simp) (by simp)
    rw [enc34] at h9
    exact h9
  have hde : ((er : Int) != (er : Int)) = false := by simp
  have HPR : Hid (Pr w v ps0) := h
  clear h hps hw0 her hout
  go_enter Try.func7, Try.ntmps7
  go_wp2_with fail
  refine HCUT.mono ?_
  rintro e W0 ⟨⟨v1, rfl, p1⟩, rfl⟩
  obtain ⟨va, vc, hve, -⟩ := id p1
  subst hve
  have HP : Hid (Pr W0 (.slice va ps.length vc) ps) := p1
  clear p1 HCUT HPR
  go_wp2_with fail
  refine (ixenc_nil W0).mono ?_
  rintro e W1 ⟨rfl, b1⟩
  have H1 : Hid (Below W0.heap.size W0 W1) := b1
  clear b1
  go_wp2_with fail
  refine (ixbuilt_any _ ps W1 (HP.out.kept H1.out) HW.out (by omega)).mono ?_
  rintro e W2 ⟨g, b, base, rfl, m2, b2, -, -⟩
  have H2 : Hid (Below W0.heap.size W0 W2 ∧ MI W2 g b base ps.length (Ix.gml ps)) := ⟨andThen H1.out b2, m2⟩
  clear b2 m2 H1
  go_wp2_with fail
  refine (HEN.out W2 g b base H2.out.2).mono ?_
  rintro e W3 ⟨ad3, m3, c3, rfl, o3, b3⟩
  have H3 : Hid (Below W0.heap.size W0 W3 ∧ MI W3 g b base ps.length (Ix.gml ps) ∧ Wb.Own W0.heap.size W3 (.slice ad3 m3 c3) (Ix.encA ps).1) := ⟨andThen H2.out.1 b3, H2.out.2.kept b3, o3.mono H2.out.1.size⟩
  clear b3 o3 H2
  go_wp2_with fail
  refine (HRE.out W3 _ (HP.out.kept H3.out.1)).mono ?_
  rintro e W4 ⟨ad4, m4, c4, rfl, o4, b4⟩
  have H4 : Hid (Below W0.heap.size W0 W4 ∧ MI W4 g b base ps.length (Ix.gml ps) ∧ Wb.Own W0.heap.size W4 (.slice ad3 m3 c3) (Ix.encA ps).1 ∧ Wb.Own W0.heap.size W4 (.slice ad4 m4 c4) (Ix.encA ps).1 ∧ (∀ k, (Value.slice ad4 m4 c4).ownBlock = some k → (Value.slice ad3 m3 c3).ownBlock ≠ some k)) := ⟨andThen H3.out.1 b4, H3.out.2.1.kept b4, H3.out.2.2.kept b4, o4.mono H3.out.1.size, fun k e1 e2 => by
    have h1 := (own_block o4 k e1).1
    have h2 := (own_block H3.out.2.2 k e2).2
    omega⟩
  clear b4 o4 H3
  go_wp2_with fail
  refine (HSB.out W4 _ _ _ H4.out.2.2.1.bs H4.out.2.2.2.1.bs).mono ?_
  rintro e W5 ⟨rfl, b5⟩
  have H5 : Hid (Below W0.heap.size W0 W5 ∧ MI W5 g b base ps.length (Ix.gml ps) ∧ Wb.Own W0.heap.size W5 (.slice ad3 m3 c3) (Ix.encA ps).1 ∧ Wb.Own W0.heap.size W5 (.slice ad4 m4 c4) (Ix.encA ps).1 ∧ (∀ k, (Value.slice ad4 m4 c4).ownBlock = some k → (Value.slice ad3 m3 c3).ownBlock ≠ some k)) := ⟨andThen H4.out.1 b5, H4.out.2.1.kept b5, H4.out.2.2.1.kept b5, H4.out.2.2.2.1.kept b5, H4.out.2.2.2.2⟩
  clear b5 H4
  go_wp2_with fail
  refine (ixholds_any g b base _ ps _ W5 H5.out.2.1 (HP.out.kept H5.out.1) (by omega) (by omega) fun p hp => (HWB.out p hp).1).mono ?_
  rintro e W6 ⟨rfl, b6⟩
  have HT : Hid (∀ W, W = W6.alloc (.cells #[.slice none 0 0, .slice none 0 0] 94) → Calls Try.prog 45 #[.pointer (some ⟨W6.heap.size, 0, none⟩), .slice ad3 m3 c3] W fun e w' => e = .returned (.tuple #[]) ∧ ∃ vl' vm' rows', rows'.length = 4 ∧ WrS W0 g b base ps.length ps (.slice va ps.length vc) W6.heap.size vl' vm' rows' W6.heap.size (.slice ad4 m4 c4) w' ∧ W6.heap.size ≤ w'.heap.size) := fun W e => by
    have b7 : Below W6.heap.size W6 W := by
      rw [e]
      exact up0 _ _
    have hb : Below W5.heap.size W5 W := andThen b6 b7
    have hbx : LB W W6.heap.size 94 [.slice none 0 0, .slice none 0 0] := by
      rw [e]
      exact lb_new W6 [.slice none 0 0, .slice none 0 0] 94
    have hs : WrS W0 g b base ps.length ps (.slice va ps.length vc) W6.heap.size (.slice none 0 0) (.slice none 0 0) [] W6.heap.size (.slice ad4 m4 c4) W :=
      ⟨andThen H5.out.1 hb, H5.out.2.1.kept hb, HP.out.kept (andThen H5.out.1 hb), ⟨hbx, World.ownsRow_nil _ _ _ _, Own.nil _ _, fun r hr => (by cases hr), fun r hr => (by cases hr)⟩, H5.out.2.2.2.1.kept hb, fun k e1 => Nat.lt_of_lt_of_le (own_block H5.out.2.2.2.1 k e1).2 b6.size, fun k e1 => (by cases e1), Nat.le_trans H5.out.1.size b6.size⟩
    refine (wr_take hs HP.out b7.size (H5.out.2.2.1.kept hb) HLN.out (by simp) H5.out.2.2.2.2 (fun r hr => by cases hr) (fun q e1 => by cases e1)).mono fun e w' ⟨h1, vl', vm', rows', h2, h3, h4, _⟩ => ⟨h1, vl', vm', rows', h2, h3, Nat.le_trans b7.size h4⟩
  clear b6 H5
  go_wp2_with fail
  refine (HT.out _ rfl).mono ?_
  rintro e W7 ⟨rfl, vl7, vm7, rows7, hr7, s7, z7⟩
  clear HT
  generalize W6.heap.size = gK at *
  have H7 : Hid (WrS W0 g b base ps.length ps (.slice va ps.length vc) gK vl7 vm7 rows7 gK (.slice ad4 m4 c4) W7 ∧ gK ≤ W7.heap.size) := ⟨s7, z7⟩
  clear s7 z7
  go_wp2_with fail
  refine (ixnew_any W7).mono ?_
  rintro e W8 ⟨rfl, m8, b8, hn8⟩
  have HAD : Hid (Calls Try.prog 11 #[.pointer (some ⟨W7.heap.size + 1, 0, none⟩), .int .i64 3, .int .i64 4] W8 fun e w' => e = .returned (.tuple #[]) ∧ MI w' (W7.heap.size + 1) W7.heap.size (W7.heap.size + 2) 1 (Ix.gml [(3, 4)]) ∧ WrS W0 g b base ps.length ps (.slice va ps.length vc) gK vl7 vm7 rows7 gK (.slice ad4 m4 c4) w' ∧ gK ≤ w'.heap.size) := (ixadd_any _ _ _ 0 [] 3 4 W8 m8 (by decide) (by decide) (by omega)).mono fun e w' ⟨h1, h2, h3, _⟩ => by
    have hb : Below W7.heap.size W7 w' := b8.trans (h3.below _ b8.size fun k hk => hk.elim (fun e => by omega) fun e => absurd e (hn8 k))
    exact ⟨h1, h2, H7.out.1.kept hb, Nat.le_trans H7.out.2 hb.size⟩
  generalize W7.heap.size + 1 = g2 at *
  generalize W7.heap.size + 2 = base2 at *
  obtain ⟨b2, hb2⟩ : ∃ b2, b2 = W7.heap.size := ⟨_, rfl⟩
  rw [← hb2] at HAD
  clear m8 b8 hn8 H7 hb2
  go_wp2_with fail
  refine HAD.out.mono ?_
  rintro e W9 ⟨rfl, n9, s9, z9⟩
  have H9 : Hid (MI W9 g2 b2 base2 1 (Ix.gml [(3, 4)]) ∧ WrS W0 g b base ps.length ps (.slice va ps.length vc) gK vl7 vm7 rows7 gK (.slice ad4 m4 c4) W9 ∧ gK ≤ W9.heap.size) := ⟨n9, s9, z9⟩
  clear n9 s9 z9 HAD
  go_wp2_with fail
  refine (HE2.out W9 g2 b2 base2 H9.out.1).mono ?_
  rintro e W10 ⟨ada, ma, ca, rfl, oa, b10⟩
  obtain ⟨apx, apm⟩ := wr_apart H9.out.2.1.bk (Nat.le_refl _) oa
  have HTX : Hid (Wb.Own W9.heap.size W10 (.slice ada ma ca) [1, 3, 1, 4] ∧ MI W10 g2 b2 base2 1 (Ix.gml [(3, 4)]) ∧ WrS W0 g b base ps.length ps (.slice va ps.length vc) gK vl7 vm7 rows7 gK (.slice ad4 m4 c4) W10 ∧ gK ≤ W10.heap.size ∧ (∀ r ∈ rows7, ∀ q, r.1.ownBlock = some q → (Value.slice ada ma ca).ownBlock ≠ some q) ∧ (∀ q, vm7.ownBlock = some q → (Value.slice ada ma ca).ownBlock ≠ some q) ∧ (∀ k, (Value.slice ad4 m4 c4).ownBlock = some k → (Value.slice ada ma ca).ownBlock ≠ some k) ∧ W0.heap.size ≤ W9.heap.size) := ⟨oa, H9.out.1.kept b10, H9.out.2.1.kept b10, Nat.le_trans H9.out.2.2 b10.size, apx, apm, fun k e1 e2 => by
    have h1 := (own_block H9.out.2.1.cb k e1).2
    have h2 := (own_block oa k e2).1
    omega, H9.out.2.1.bel.size⟩
  clear oa b10 H9 apx apm
  have HSX : Hid (∀ W, W = W10.alloc (.cells #[.int .u8 1, .int .u8 3, .int .u8 1, .int .u8 4] 5) → Calls Try.prog 44 #[.slice ada ma ca, .slice (some ⟨W10.heap.size, 0, none⟩) 4 4] W fun e w' => e = .returned (.bool true) ∧ Below W10.heap.size W10 w') := fun W e => by
    have b7 : Below W10.heap.size W10 W := by
      rw [e]
      exact up0 _ _
    have hl : Wb.Own W10.heap.size W (.slice (some ⟨W10.heap.size, 0, none⟩) 4 4) [1, 3, 1, 4] := by
      rw [e]
      exact Own.lit W10 [1, 3, 1, 4] (by intro x hx; simp at hx; omega) (Nat.le_refl _) (by simp [maxLen]) _ rfl
    exact (HSB.out W _ _ _ (HTX.out.1.kept b7).bs hl.bs).mono fun e w' ⟨h1, h2⟩ => ⟨h1, andThen b7 h2⟩
  go_wp2_with fail
  refine (HSX.out _ rfl).mono ?_
  rintro e W11 ⟨rfl, b11⟩
  have H11 : Hid (Below W10.heap.size W10 W11) := b11
  clear b11 HSX
  go_wp2_with fail
  refine (ixwholeb_any W0.heap.size gK vl7 vm7 rows7 W11 (HTX.out.2.2.1.bk.kept H11.out) (by omega)).mono ?_
  rintro e W12 ⟨rfl, b12⟩
  have HTK : Hid (Calls Try.prog 45 #[.pointer (some ⟨gK, 0, none⟩), .slice ada ma ca] W12 fun e w' => e = .returned (.tuple #[]) ∧ ∃ vl' vm' rows', rows'.length = rows7.length + 4 ∧ WrS W0 g b base ps.length ps (.slice va ps.length vc) gK vl' vm' rows' gK (.slice ad4 m4 c4) w' ∧ W12.heap.size ≤ w'.heap.size ∧ ∀ g2 b2 base2 n2 kvs, MI W12 g2 b2 base2 n2 kvs → MI w' g2 b2 base2 n2 kvs) := by
    have hb := andThen H11.out b12
    have ho := (HTX.out.1.mono HTX.out.2.2.2.2.2.2.2).kept hb
    exact wr_take (HTX.out.2.2.1.kept hb) HP.out (Nat.le_trans HTX.out.2.2.2.1 hb.size) ho (by simp) (by omega) HTX.out.2.2.2.2.2.2.1 HTX.out.2.2.2.2.1 HTX.out.2.2.2.2.2.1
  have H12 : Hid (MI W12 g2 b2 base2 1 (Ix.gml [(3, 4)]) ∧ gK ≤ W12.heap.size) := ⟨HTX.out.2.1.kept (andThen H11.out b12), Nat.le_trans HTX.out.2.2.2.1 (andThen H11.out b12).size⟩
  clear b12 H11 HTX
  go_wp2_with fail
  refine HTK.out.mono ?_
  rintro e W13 ⟨rfl, vl8, vm8, rows8, hr8, s13, z13, k13⟩
  have H13 : Hid (MI W13 g2 b2 base2 1 (Ix.gml [(3, 4)]) ∧ WrS W0 g b base ps.length ps (.slice va ps.length vc) gK vl8 vm8 rows8 gK (.slice ad4 m4 c4) W13 ∧ gK ≤ W13.heap.size) := ⟨k13 _ _ _ _ _ H12.out.1, s13, Nat.le_trans H12.out.2 z13⟩
  clear s13 z13 k13 HTK H12
  go_wp2_with fail
  refine (HEN.out W13 g b base H13.out.2.1.mi).mono ?_
  rintro e W14 ⟨add, md, cd, rfl, od, b14⟩
  obtain ⟨apx, apm⟩ := wr_apart H13.out.2.1.bk (Nat.le_refl _) od
  have HTD : Hid (Wb.Own W13.heap.size W14 (.slice add md cd) (Ix.encA ps).1 ∧ MI W14 g2 b2 base2 1 (Ix.gml [(3, 4)]) ∧ WrS W0 g b base ps.length ps (.slice va ps.length vc) gK vl8 vm8 rows8 gK (.slice ad4 m4 c4) W14 ∧ gK ≤ W14.heap.size ∧ (∀ r ∈ rows8, ∀ q, r.1.ownBlock = some q → (Value.slice add md cd).ownBlock ≠ some q) ∧ (∀ q, vm8.ownBlock = some q → (Value.slice add md cd).ownBlock ≠ some q) ∧ (∀ k, (Value.slice ad4 m4 c4).ownBlock = some k → (Value.slice add md cd).ownBlock ≠ some k) ∧ W0.heap.size ≤ W13.heap.size) := ⟨od, H13.out.1.kept b14, H13.out.2.1.kept b14, Nat.le_trans H13.out.2.2 b14.size, apx, apm, fun k e1 e2 => by
    have h1 := (own_block H13.out.2.1.cb k e1).2
    have h2 := (own_block od k e2).1
    omega, H13.out.2.1.bel.size⟩
  clear od b14 H13 apx apm
  go_wp2_with fail
  refine (HSB.out W14 _ _ _ HTD.out.1.bs HTD.out.2.2.1.cb.bs).mono ?_
  rintro e W15 ⟨rfl, b15⟩
  have H15 : Hid (Below W14.heap.size W14 W15) := b15
  clear b15
  go_wp2_with fail
  refine (ixwholeb_any W0.heap.size gK vl8 vm8 rows8 W15 (HTD.out.2.2.1.bk.kept H15.out) (by omega)).mono ?_
  rintro e W16 ⟨rfl, b16⟩
  have HTK : Hid (Calls Try.prog 45 #[.pointer (some ⟨gK, 0, none⟩), .slice add md cd] W16 fun e w' => e = .returned (.tuple #[]) ∧ ∃ vl' vm' rows', rows'.length = rows8.length + 4 ∧ WrS W0 g b base ps.length ps (.slice va ps.length vc) gK vl' vm' rows' gK (.slice ad4 m4 c4) w' ∧ W16.heap.size ≤ w'.heap.size ∧ ∀ g2 b2 base2 n2 kvs, MI W16 g2 b2 base2 n2 kvs → MI w' g2 b2 base2 n2 kvs) := by
    have hb := andThen H15.out b16
    have ho := (HTD.out.1.mono HTD.out.2.2.2.2.2.2.2).kept hb
    exact wr_take (HTD.out.2.2.1.kept hb) HP.out (Nat.le_trans HTD.out.2.2.2.1 hb.size) ho HLN.out (by omega) HTD.out.2.2.2.2.2.2.1 HTD.out.2.2.2.2.1 HTD.out.2.2.2.2.2.1
  have H16 : Hid (MI W16 g2 b2 base2 1 (Ix.gml [(3, 4)])) := HTD.out.2.1.kept (andThen H15.out b16)
  clear b16 H15 HTD
  go_wp2_with fail
  refine HTK.out.mono ?_
  rintro e W17 ⟨rfl, vl9, vm9, rows9, hr9, s17, z17, k17⟩
  have H17 : Hid (MI W17 g2 b2 base2 1 (Ix.gml [(3, 4)]) ∧ WrS W0 g b base ps.length ps (.slice va ps.length vc) gK vl9 vm9 rows9 gK (.slice ad4 m4 c4) W17) := ⟨k17 _ _ _ _ _ H16.out, s17⟩
  clear s17 z17 k17 HTK H16
  go_wp2_with fail
  refine (HE2.out W17 g2 b2 base2 H17.out.1).mono ?_
  rintro e W18 ⟨ady, my, cy, rfl, oy, b18⟩
  have HSX : Hid (∀ W, W = W18.alloc (.cells #[.int .u8 1, .int .u8 3, .int .u8 1, .int .u8 4] 5) → Calls Try.prog 44 #[.slice ady my cy, .slice (some ⟨W18.heap.size, 0, none⟩) 4 4] W fun e w' => e = .returned (.bool true) ∧ Below W18.heap.size W18 w') := fun W e => by
    have b7 : Below W18.heap.size W18 W := by
      rw [e]
      exact up0 _ _
    have hl : Wb.Own W18.heap.size W (.slice (some ⟨W18.heap.size, 0, none⟩) 4 4) [1, 3, 1, 4] := by
      rw [e]
      exact Own.lit W18 [1, 3, 1, 4] (by intro x hx; simp at hx; omega) (Nat.le_refl _) (by simp [maxLen]) _ rfl
    exact (HSB.out W _ _ _ (oy.kept b7).bs hl.bs).mono fun e w' ⟨h1, h2⟩ => ⟨h1, andThen b7 h2⟩
  have H18 : Hid (WrS W0 g b base ps.length ps (.slice va ps.length vc) gK vl9 vm9 rows9 gK (.slice ad4 m4 c4) W18) := H17.out.2.kept b18
  clear oy b18 H17
  go_wp2_with fail
  refine (HSX.out _ rfl).mono ?_
  rintro e W19 ⟨rfl, b19⟩
  have H19 : Hid (WrS W0 g b base ps.length ps (.slice va ps.length vc) gK vl9 vm9 rows9 gK (.slice ad4 m4 c4) W19) := H18.out.kept b19
  clear b19 HSX H18
  go_wp2_with fail
  refine (ixwholeb_any W0.heap.size gK vl9 vm9 rows9 W19 H19.out.bk (by omega)).mono ?_
  rintro e W20 ⟨rfl, b20⟩
  have H20 : Hid (Below W0.heap.size W0 W20) := andThen H19.out.bel b20
  clear b20 H19
  go_wp2_with fail
  go_returns
  exact ⟨rfl, H20.out⟩
end Go.Proofs.Ytceokpklcfmadaa
