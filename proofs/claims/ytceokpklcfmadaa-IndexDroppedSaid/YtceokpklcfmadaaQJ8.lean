import Derived.Test.YtceokpklcfmadaaQJ7
/-
  IndexDropped: the walk.
-/
namespace Go.Proofs.Ytceokpklcfmadaa
open Go Go.RowKit Go.ChangeShapes
open Wb

theorem lb_ifr {g b base n : Nat} {kvs : Ix.Gm} {W W' : World} {k : Nat} {D : List Value} {F : Nat → Prop} (hm : MI W g b base n kvs) (h : LB W k 32 D) (hf : IFr W W' F) (hF : ∀ q, F q → q = b ∨ Mrow W b q) : LB W' k 32 D := (hf.block k h.lt fun e => by
  unfold LB at h
  rcases hF k e with e2 | e2
  · subst e2
    obtain ⟨es9, clock, hb9, -⟩ := hm.map
    rw [hb9] at h
    cases h
  · obtain ⟨cs2, z2, h4⟩ := hm.rowTI e2
    rw [h] at h4
    simp at h4).trans h
theorem lb_row {B s m : Nat} {l : Value} {xs : List Value} {W W' : World} {k : Nat} {D : List Value} (hr : W.ownsRow B 54 s l m xs) (h : LB W k 32 D) (hg : W.grownBy W' l.ownBlock) : LB W' k 32 D := h.other' hg fun e => by
  unfold LB at h
  obtain ⟨cs, z, h3⟩ := ownsRow_cells hr e
  rw [h] at h3
  simp at h3
set_option maxRecDepth 100000 in
set_option maxHeartbeats 4000000 in
theorem indexDropped_walk (v : Value) (ss : List St6) (w : World) (h : Sx w v ss) (hw : ∀ s ∈ ss, (Lit.int .i64 s.ke).wf = true ∧ (Lit.int .i64 s.va).wf = true) :
    Calls Try.prog 8 #[v] w fun e w' => e = .returned (.bool true) ∧ Below w.heap.size w w' := by
  obtain ⟨a, c, rfl, hm1, hm2, hc⟩ := h
  unfold maxLen at hm2
  have HC : Hid (∀ j (hj : j < ss.length), ∃ b off, a = some ⟨b, off, none⟩ ∧ (∀ W, Below w.heap.size w W → W.cell? ⟨b, off + j * 6, none⟩ = some (.int .i64 ss[j].kd) ∧ W.cell? ⟨b, off + j * 6 + 1, none⟩ = some (.int .i64 ss[j].ob) ∧ W.cell? ⟨b, off + j * 6 + 2, none⟩ = some (.int .i64 ss[j].ke) ∧ W.cell? ⟨b, off + j * 6 + 3, none⟩ = some (.int .i64 ss[j].va) ∧ W.cell? ⟨b, off + j * 6 + 4, none⟩ = some (.int .i64 ss[j].hi) ∧ W.cell? ⟨b, off + j * 6 + 5, none⟩ = some (.int .i64 ss[j].sp)) ∧ (Lit.int .i64 ss[j].ke).wf = true ∧ (Lit.int .i64 ss[j].va).wf = true) := fun j hj => by
    obtain ⟨b, off, e, hcell⟩ := hc (List.ne_nil_of_length_pos (by omega))
    obtain ⟨h0, h1, h2, h3, h4, h5⟩ := hcell j hj
    refine ⟨b, off, e, fun W hW => ?_, hw _ (List.getElem_mem hj)⟩
    have up : ∀ {o : Nat} {x : Value}, w.cell? ⟨b, o, none⟩ = some x → W.cell? ⟨b, o, none⟩ = some x := fun {o x} hx => (hW.cell (p := ⟨b, o, none⟩) (World.block_lt_of_cell? _ _ hx)).trans hx
    exact ⟨up h0, up h1, up h2, up h3, up h4, up h5⟩
  clear hc hw
  have HNW : Hid (Calls Try.prog 9 #[] w fun e w' => e = .returned (.pointer (some ⟨w.heap.size + 1, 0, none⟩)) ∧ MI w' (w.heap.size + 1) w.heap.size (w.heap.size + 2) 0 [] ∧ Below w.heap.size w w' ∧ ∀ q, ¬ Mrow w' w.heap.size q) := ixnew_any w
  go_enter Try.func8, Try.ntmps8
  go_wp2_with fail
  refine HNW.out.mono ?_
  rintro e W1 ⟨rfl, m1, b1, hn1⟩
  have H1 : Hid (DpS w (w.heap.size + 1) w.heap.size (w.heap.size + 2) 0 [] (.slice none 0 0) W1) := DpS.zero m1 b1 (fun q hq => absurd hq (hn1 q)) (Nat.le_refl _)
  have HAD : Hid (Calls Try.prog 11 #[.pointer (some ⟨w.heap.size + 1, 0, none⟩), .int .i64 4, .int .i64 1] W1 fun e w' => e = .returned (.tuple #[]) ∧ MI w' (w.heap.size + 1) w.heap.size (w.heap.size + 2) 1 (Ix.add [] 4 1) ∧ IFr W1 w' (fun q => q = w.heap.size ∨ Mrow W1 w.heap.size q) ∧ ∀ q, Mrow w' w.heap.size q → Mrow W1 w.heap.size q ∨ W1.heap.size ≤ q) := ixadd_any _ _ _ 0 [] 4 1 W1 m1 (by decide) (by decide) (by omega)
  clear m1 b1 hn1 HNW
  go_wp2_with fail
  refine HAD.out.mono ?_
  rintro e W2 ⟨rfl, m2, f2, r2⟩
  have H2 : Hid (MI W2 (w.heap.size + 1) w.heap.size (w.heap.size + 2) 1 (Ix.gml [(4, 1)]) ∧ Below w.heap.size w W2 ∧ ∀ q, Mrow W2 w.heap.size q → w.heap.size ≤ q) := ⟨m2, (H1.out.bel).trans (f2.below _ H1.out.bel.size fun k hk => hk.elim (fun e => by omega) (H1.out.mr k)), fun q hq => (r2 q hq).elim (H1.out.mr q) (Nat.le_trans H1.out.bel.size)⟩
  have HPL : Hid (∀ W, W = W2.alloc (.cells #[.int .i64 4, .int .i64 1] 54) → Calls Try.prog 47 #[.pointer (some ⟨w.heap.size + 1, 0, none⟩), .slice (some ⟨W2.heap.size, 0, none⟩) 1 1] W fun e w' => e = .returned (.bool true) ∧ MI w' (w.heap.size + 1) w.heap.size (w.heap.size + 2) 1 (Ix.gml [(4, 1)]) ∧ Below w.heap.size w w' ∧ ∀ q, Mrow w' w.heap.size q → w.heap.size ≤ q) := fun W e => by
    subst e
    have hb0 : Below W2.heap.size W2 (W2.alloc (.cells #[.int .i64 4, .int .i64 1] 54)) := up0 _ _
    have mk := m2.kept hb0
    refine (ixplain_any _ _ _ 1 [(4, 1)] _ _ mk (Pr.of (World.ownsRow_lit (base := 0) (e := 54) (size := 2) W2 #[.int .i64 4, .int .i64 1] 1 (Nat.zero_le _) (by simp [maxLen]) rfl)) (by omega) (by simp) (by simp)).mono fun e w' ⟨h1, h2⟩ => ⟨h1, mk.kept h2, andThen (andThen H2.out.2.1 hb0) h2, fun q hq => H2.out.2.2 q ((hq.same (h2.block _ mk.blt.2)).same (hb0.block _ m2.blt.2))⟩
  clear m2 f2 r2 H1 HAD
  go_wp2_with fail
  refine (HPL.out _ rfl).mono ?_
  rintro e W3 ⟨rfl, m3, b3, r3⟩
  have HDR : Hid (Calls Try.prog 15 #[.pointer (some ⟨w.heap.size + 1, 0, none⟩), .int .i64 4] W3 fun e w' => e = .returned (.int .i64 1) ∧ DpS w (w.heap.size + 1) w.heap.size (w.heap.size + 2) 1 [] (.slice none 0 0) w') := (ixdrop_any _ _ _ 1 (Ix.gml [(4, 1)]) 4 W3 m3 (by decide) (by omega)).mono fun e w' ⟨h1, h2, h3, h4⟩ => ⟨h1, DpS.zero h2 (b3.trans (h3.below _ b3.size fun k hk => by omega)) (fun q hq => r3 q (h4 q hq)) (Nat.le_refl _)⟩
  clear m3 b3 r3 HPL H2
  go_wp2_with fail
  refine HDR.out.mono ?_
  rintro e W4 ⟨rfl, d4⟩
  have H4 : Hid (DpS w (w.heap.size + 1) w.heap.size (w.heap.size + 2) 1 [] (.slice none 0 0) W4) := d4
  clear d4 HDR
  generalize hg : w.heap.size + 1 = g at *
  generalize hbs : w.heap.size + 2 = base at *
  obtain ⟨bb, hbb⟩ : ∃ bb, bb = w.heap.size := ⟨_, rfl⟩
  have H5 : Hid (DpS w g bb base 1 [] (.slice none 0 0) W4) := by
    rw [hbb]
    exact H4.out
  clear H4 hg hbs hbb
  go_wp2_with fail
  obtain ⟨N, hN⟩ : ∃ N, N = min ss.length 60 := ⟨_, rfl⟩
  go_loopw [4, 5] (fun l i wr => ∃ j n : Nat, ∃ ps, j ≤ N ∧ i = .int .i64 (j : Int) ∧ ps.length ≤ j ∧ n ≤ 1 + j ∧ DpS w g bb base n ps l wr) (fun _ i _ => N - (intOf i).toNat)
  case atStart => exact ⟨0, 1, [], Nat.zero_le _, rfl, Nat.le_refl _, Nat.le_refl _, H5.out⟩
  case round =>
    obtain ⟨j, n, ps, hj, rfl, hpl, hn, hg⟩ := hrel
    have HG : Hid (DpS w g bb base n ps u4 wr) := hg
    clear hg
    by_cases hlt : j < N
    · obtain ⟨b, off, rfl, hcell, hwk, hwv⟩ := HC.out j (by omega)
      obtain ⟨q0, q1, q2, q3, q4, q5⟩ := hcell wr HG.out.bel
      have hd1 : ((j : Int) < (ss.length : Int)) = True := by simp; omega
      have hd2 : ((j : Int) < 60) = True := by simp; omega
      clear hcell
      obtain ⟨st, hst⟩ : ∃ st, st = ss[j]'(by omega) := ⟨_, rfl⟩
      rw [← hst] at q0 q1 q2 q3 q4 q5 hwk hwv
      clear hst
      obtain ⟨kd, ob, ke, va, hi, sp⟩ := st
      simp only at q0 q1 q2 q3 q4 q5 hwk hwv
      have HW : Hid ((Lit.int .i64 ke).wf = true ∧ (Lit.int .i64 va).wf = true) := ⟨hwk, hwv⟩
      clear hwk hwv
      have HL6 : Hid (∀ W, W = wr.alloc (.cells #[.int .i64 kd, .int .i64 ob, .int .i64 ke, .int .i64 va, .int .i64 hi, .int .i64 sp] 32) → DpS w g bb base n ps u4 W ∧ LB W wr.heap.size 32 [.int .i64 kd, .int .i64 ob, .int .i64 ke, .int .i64 va, .int .i64 hi, .int .i64 sp]) := fun W e => by
        subst e
        exact ⟨HG.out.kept (up0 _ _), lb_new wr [.int .i64 kd, .int .i64 ob, .int .i64 ke, .int .i64 va, .int .i64 hi, .int .i64 sp] 32⟩
      by_cases hk1 : kd = 1
      · subst hk1
        have HAD : Hid (∀ W, W = wr.alloc (.cells #[.int .i64 1, .int .i64 ob, .int .i64 ke, .int .i64 va, .int .i64 hi, .int .i64 sp] 32) → Calls Try.prog 11 #[.pointer (some ⟨g, 0, none⟩), .int .i64 ke, .int .i64 va] W fun e w' => e = .returned (.tuple #[]) ∧ LB w' wr.heap.size 32 [.int .i64 1, .int .i64 ob, .int .i64 ke, .int .i64 va, .int .i64 hi, .int .i64 sp] ∧ ∀ W1, W1 = w'.alloc (.cells #[.int .i64 ke, .int .i64 va] 54) → W1.ownsRow w.heap.size 54 2 u4 ps.length (ps.flatMap enP) ∧ w.heap.size ≤ W1.heap.size ∧ W1.rangeAt w'.heap.size 0 (enP (ke, va)) ∧ ∀ W2 u, W2.ownsRow w.heap.size 54 2 u (ps.length + 1) ((ps ++ [(ke, va)]).flatMap enP) → W1.grownBy W2 u4.ownBlock → DpS w g bb base (n + 1) (ps ++ [(ke, va)]) u W2 ∧ LB W2 wr.heap.size 32 [.int .i64 1, .int .i64 ob, .int .i64 ke, .int .i64 va, .int .i64 hi, .int .i64 sp]) := fun W e => by
          have hd := (HL6.out W e).1
          have hL := (HL6.out W e).2
          clear e
          refine (ixadd_any g bb base n (Ix.gml ps) ke va W hd.mi HW.out.1 HW.out.2 (by omega)).mono fun e w' ⟨e1, e2, e3, e4⟩ => ⟨e1, lb_ifr hd.mi hL e3 fun q h => h, fun W1 hW1 => ?_⟩
          have b1 : Below w'.heap.size w' W1 := by
            rw [hW1]
            exact up0 _ _
          have hL1 := (lb_ifr hd.mi hL e3 fun q h => h).kept b1
          have h9 := fun W2 u => hd.add ke va HW.out.1 HW.out.2 e2 e3 e4 W1 W2 b1 u
          refine ⟨(h9 W1 u4).1, (h9 W1 u4).2.1, by rw [hW1]; exact (lb_new w' (enP (ke, va)) 54).range, fun W2 u hr hg => ⟨(h9 W2 u).2.2 hr hg, lb_row (h9 W1 u4).1 hL1 hg⟩⟩
        go_wp2_with fail
        refine (HAD.out _ rfl).mono ?_
        rintro e W6 ⟨rfl, lb6, k6⟩
        have x2 := lb6.cell 2 _ rfl
        have x3 := lb6.cell 3 _ rfl
        have K6 : Hid (∀ W1, W1 = W6.alloc (.cells #[.int .i64 ke, .int .i64 va] 54) → W1.ownsRow w.heap.size 54 2 u4 ps.length (ps.flatMap enP) ∧ w.heap.size ≤ W1.heap.size ∧ W1.rangeAt W6.heap.size 0 (enP (ke, va)) ∧ ∀ W2 u, W2.ownsRow w.heap.size 54 2 u (ps.length + 1) ((ps ++ [(ke, va)]).flatMap enP) → W1.grownBy W2 u4.ownBlock → DpS w g bb base (n + 1) (ps ++ [(ke, va)]) u W2 ∧ LB W2 wr.heap.size 32 [.int .i64 1, .int .i64 ob, .int .i64 ke, .int .i64 va, .int .i64 hi, .int .i64 sp]) := k6
        clear lb6 k6 HAD HL6
        go_wp2_with (at_builtin; refine wpList_appPA _ rfl (.tmp 49) (.tmp 55) rfl w.heap.size u4 ps rfl (K6.out _ rfl).1 W6.heap.size 1 (ke, va) rfl (K6.out _ rfl).2.2.1 (by omega) (K6.out _ rfl).2.1 ?_)
        intro v7 W7 hr7 hg7 hat7
        obtain ⟨d7, lb7⟩ := (K6.out _ rfl).2.2.2 W7 v7 (by rw [List.flatMap_append]; simpa using hr7) hg7
        have x5 := lb7.cell 5 _ rfl
        have H7 : Hid (DpS w g bb base (n + 1) (ps ++ [(ke, va)]) v7 W7) := d7
        clear hr7 hg7 hat7 d7 lb7 K6 x2 x3
        have HP9 : Hid (Calls Try.prog 47 #[.pointer (some ⟨g, 0, none⟩), v7] W7 fun e w' => e = .returned (.bool true) ∧ DpS w g bb base (n + 1) (ps ++ [(ke, va)]) v7 w') := (ixplain_any g bb base (n + 1) (ps ++ [(ke, va)]) v7 W7 H7.out.mi (Pr.of H7.out.row) (by omega) (by rw [List.length_append, List.length_singleton]; omega) H7.out.bd).mono fun e w' ⟨h1, h2⟩ => ⟨h1, H7.out.kept h2⟩
        have HLN : Hid ((ps ++ [(ke, va)]).length ≤ j + 1) := (show (ps ++ [(ke, va)]).length ≤ j + 1 by rw [List.length_append, List.length_singleton]; omega)
        clear HG
        go_wp2_with fail
        · refine HP9.out.mono ?_
          rintro e W9 ⟨rfl, d9⟩
          have H9 : Hid (DpS w g bb base (n + 1) (ps ++ [(ke, va)]) v7 W9) := d9
          clear d9 HP9
          go_wp2_with fail
          go_roundw
          case rel => exact ⟨j + 1, n + 1, ps ++ [(ke, va)], by omega, by go_num, HLN.out, by omega, H9.out⟩
          case measure => simp [intOf]; omega
        · go_roundw
          case rel => exact ⟨j + 1, n + 1, ps ++ [(ke, va)], by omega, by go_num, HLN.out, by omega, H7.out⟩
          case measure => simp [intOf]; omega
      · have hk1' : (kd == 1) = false := by simp; exact hk1
        by_cases hk5 : kd = 5
        · subst hk5
          have HRD : Hid (∀ W, W = wr.alloc (.cells #[.int .i64 5, .int .i64 ob, .int .i64 ke, .int .i64 va, .int .i64 hi, .int .i64 sp] 32) → Calls Try.prog 31 #[u4, .int .i64 ke] W fun e w' => ∃ ad, ∃ m c : Nat, e = .returned (.tuple #[.slice ad m c, .int .i64 ((Ix.get (Ix.gml ps) ke).length : Int)]) ∧ LB w' wr.heap.size 32 [.int .i64 5, .int .i64 ob, .int .i64 ke, .int .i64 va, .int .i64 hi, .int .i64 sp] ∧ Calls Try.prog 15 #[.pointer (some ⟨g, 0, none⟩), .int .i64 ke] w' fun e w'' => e = .returned (.int .i64 ((Ix.get (Ix.gml ps) ke).length : Int)) ∧ LB w'' wr.heap.size 32 [.int .i64 5, .int .i64 ob, .int .i64 ke, .int .i64 va, .int .i64 hi, .int .i64 sp] ∧ DpS w g bb base n (Ix.pdel ps ke) (.slice ad m c) w'') := fun W e => by
            have hd := (HL6.out W e).1
            have hL := (HL6.out W e).2
            clear e
            refine (rixdrop_any u4 ps ke W (Pr.of hd.row) (by omega)).mono fun e w' ⟨ad, m, c, e1, e2, e3⟩ => ⟨ad, m, c, e1, hL.kept e3, ?_⟩
            have hd1 := hd.kept e3
            refine (ixdrop_any g bb base n (Ix.gml ps) ke w' hd1.mi HW.out.1 (by omega)).mono fun e w'' ⟨f1, f2, f3, f4⟩ => ⟨f1, lb_ifr hd1.mi (hL.kept e3) f3 fun q h => .inl h, hd.drop ke w' w'' _ e3 e2 f2 f3 f4⟩
          have hde : (((Ix.get (Ix.gml ps) ke).length : Int) != ((Ix.get (Ix.gml ps) ke).length : Int)) = false := by simp
          generalize ((Ix.get (Ix.gml ps) ke).length : Int) = gl at *
          go_wp2_with fail
          refine (HRD.out _ rfl).mono ?_
          rintro e W6 ⟨ad, m, c6, rfl, lb6, k6⟩
          have x2 := lb6.cell 2 _ rfl
          have K6 : Hid (Calls Try.prog 15 #[.pointer (some ⟨g, 0, none⟩), .int .i64 ke] W6 fun e w'' => e = .returned (.int .i64 gl) ∧ LB w'' wr.heap.size 32 [.int .i64 5, .int .i64 ob, .int .i64 ke, .int .i64 va, .int .i64 hi, .int .i64 sp] ∧ DpS w g bb base n (Ix.pdel ps ke) (.slice ad m c6) w'') := k6
          clear lb6 k6 HRD HL6
          go_wp2_with fail
          refine K6.out.mono ?_
          rintro e W7 ⟨rfl, lb7, d7⟩
          have x5 := lb7.cell 5 _ rfl
          have H7 : Hid (DpS w g bb base n (Ix.pdel ps ke) (.slice ad m c6) W7) := d7
          clear d7 lb7 K6 x2
          have HP9 : Hid (Calls Try.prog 47 #[.pointer (some ⟨g, 0, none⟩), (.slice ad m c6)] W7 fun e w' => e = .returned (.bool true) ∧ DpS w g bb base (n) (Ix.pdel ps ke) (.slice ad m c6) w') := (ixplain_any g bb base (n) (Ix.pdel ps ke) (.slice ad m c6) W7 H7.out.mi (Pr.of H7.out.row) (by omega) (by have := Ix.pdel_len ps ke; omega) H7.out.bd).mono fun e w' ⟨h1, h2⟩ => ⟨h1, H7.out.kept h2⟩
          have HLN : Hid ((Ix.pdel ps ke).length ≤ j + 1) := (show (Ix.pdel ps ke).length ≤ j + 1 by have := Ix.pdel_len ps ke; omega)
          clear HG
          go_wp2_with fail
          · refine HP9.out.mono ?_
            rintro e W9 ⟨rfl, d9⟩
            have H9 : Hid (DpS w g bb base (n) (Ix.pdel ps ke) (.slice ad m c6) W9) := d9
            clear d9 HP9
            go_wp2_with fail
            go_roundw
            case rel => exact ⟨j + 1, n, Ix.pdel ps ke, by omega, by go_num, HLN.out, by omega, H9.out⟩
            case measure => simp [intOf]; omega
          · go_roundw
            case rel => exact ⟨j + 1, n, Ix.pdel ps ke, by omega, by go_num, HLN.out, by omega, H7.out⟩
            case measure => simp [intOf]; omega
        · have hk5' : (kd == 5) = false := by simp; exact hk5
          have HLN : Hid (ps.length ≤ j + 1) := (show ps.length ≤ j + 1 by omega)
          have HP9 : Hid (∀ W, W = wr.alloc (.cells #[.int .i64 kd, .int .i64 ob, .int .i64 ke, .int .i64 va, .int .i64 hi, .int .i64 sp] 32) → Calls Try.prog 47 #[.pointer (some ⟨g, 0, none⟩), u4] W fun e w' => e = .returned (.bool true) ∧ DpS w g bb base n ps u4 w') := fun W hW => by
            have hd := (HL6.out W hW).1
            exact (ixplain_any g bb base n ps u4 W hd.mi (Pr.of hd.row) (by omega) (by omega) hd.bd).mono fun e w' ⟨h1, h2⟩ => ⟨h1, hd.kept h2⟩
          clear HG
          go_wp2_with fail
          · refine (HP9.out _ rfl).mono ?_
            rintro e W9 ⟨rfl, d9⟩
            have H9 : Hid (DpS w g bb base n ps u4 W9) := d9
            clear d9 HP9
            go_wp2_with fail
            go_roundw
            case rel => exact ⟨j + 1, n, ps, by omega, by go_num, HLN.out, by omega, H9.out⟩
            case measure => simp [intOf]; omega
          · go_roundw
            case rel => exact ⟨j + 1, n, ps, by omega, by go_num, HLN.out, by omega, (HL6.out _ rfl).1⟩
            case measure => simp [intOf]; omega
    · have HP9 : Hid (Calls Try.prog 47 #[.pointer (some ⟨g, 0, none⟩), u4] wr fun e w' => e = .returned (.bool true) ∧ Below w.heap.size w w') := (ixplain_any g bb base n ps u4 wr HG.out.mi (Pr.of HG.out.row) (by omega) (by omega) HG.out.bd).mono fun e w' ⟨h1, h2⟩ => ⟨h1, andThen HG.out.bel h2⟩
      have hdec : ((j : Int) < (ss.length : Int)) = True ∧ ((j : Int) < 60) = False ∨ ((j : Int) < (ss.length : Int)) = False := by
        by_cases h1 : j < ss.length
        · exact .inl ⟨by simp; omega, by simp; omega⟩
        · exact .inr (by simp; omega)
      rcases hdec with ⟨hd1, hd2⟩ | hd1
      · go_wp2_with fail
        refine HP9.out.mono ?_
        rintro e W9 ⟨rfl, b9⟩
        have H9 : Hid (Below w.heap.size w W9) := b9
        clear b9 HP9
        go_wp2_with fail
        go_returns
        exact ⟨rfl, H9.out⟩
      · go_wp2_with fail
        refine HP9.out.mono ?_
        rintro e W9 ⟨rfl, b9⟩
        have H9 : Hid (Below w.heap.size w W9) := b9
        clear b9 HP9
        go_wp2_with fail
        go_returns
        exact ⟨rfl, H9.out⟩
end Go.Proofs.Ytceokpklcfmadaa
