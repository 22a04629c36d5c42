import Derived.Deep.RegionHeld
import Derived.BigQuiet
import Derived.Deep.CutBlock
import Derived.Test.YtgdfnlbiminblaaQG23
/-
  DiskAgain: the walk.
-/
namespace Go.Proofs.Ytgdfnlbiminblaa
open Go Go.RowKit Go.ChangeShapes
open Wb
open Rd
set_option maxRecDepth 100000 in
set_option maxHeartbeats 32000000 in
theorem diskAgain_early (q : Int) (vf va vc vt : Value) (l : List Nat) (w : World) (hd : Bs w va l) (hq : q > 65536 ∨ l.length > 20000) :
    Calls Try.prog 3 #[.int .i64 q, vf, va, vc, vt] w fun e w' => e = .returned (.bool true) ∧ Below w.heap.size w w' := by
  obtain ⟨da, dc, rfl, hd1, hd2, -⟩ := hd.shape
  obtain ⟨L, hL0⟩ : ∃ L, L = l.length := ⟨_, rfl⟩
  rw [← hL0] at hd1 hq ⊢
  clear hd hL0
  by_cases h1 : q > 65536
  · have t1 : (q > 65536) = True := eq_true h1
    clear h1 hq
    go_enter Try.func3, Try.ntmps3
    go_wp2_with fail
    go_returns
    exact ⟨rfl, Below.refl _ _⟩
  · have t1 : (q > 65536) = False := eq_false h1
    have t2 : ((L : Int) > 20000) = True := eq_true (by omega)
    clear h1 hq
    go_enter Try.func3, Try.ntmps3
    go_wp2_with fail
    go_returns
    exact ⟨rfl, Below.refl _ _⟩
set_option maxRecDepth 100000 in
set_option maxHeartbeats 64000000 in
theorem diskAgain_walk (q : Int) (ok1 : Nat → Prop) (vf vd vc vt : Value) (fs : List (List UInt8 × List Nat)) (l : List Nat) (cs ts : List (Int × Int)) (w : World) (hf : Fls ok1 w vf fs) (hd : Bs w vd l) (hc : CtS w vc cs) (ht : Pr w vt ts) (hn : fs.length ≤ 1048576) (hnm : ∀ x ∈ fs, x.1.length ≤ maxLen) (hfl : Dk.flen fs ≤ 1000000000) (hcl : cs.length ≤ 1048576) (hq : q ≤ 65536) (hL : l.length ≤ 20000) :
    Calls Try.prog 3 #[.int .i64 q, vf, vd, vc, vt] w fun e w' => e = .returned (.bool true) ∧ Below w.heap.size w w' := by
  obtain ⟨fa, fc, rfl⟩ := fls_slice hf
  obtain ⟨da, dc, rfl, hd1, hd2, -⟩ := hd.shape
  obtain ⟨ca, cc, rfl, hc1, hc2, hc3⟩ := hc
  have hct : CtS w (.slice ca cs.length cc) cs := ⟨ca, cc, rfl, hc1, hc2, hc3⟩
  obtain ⟨ta, tc, rfl, ht1, ht2, ht3⟩ := ht
  have htt : Pr w (.slice ta ts.length tc) ts := ⟨ta, tc, rfl, ht1, ht2, ht3⟩
  unfold maxLen at hd2 hc2 ht2
  have HF0 : Hid (Fls ok1 w (.slice fa fs.length fc) fs ∧ Bs w (.slice da l.length dc) l) := ⟨hf, hd⟩
  have HC : Hid (∀ W, Below w.heap.size w W → CtS W (.slice ca cs.length cc) cs) := fun W hW => hct.kept hW
  have HT : Hid (∀ W, Below w.heap.size w W → Pr W (.slice ta ts.length tc) ts) := fun W hW => htt.kept hW
  have HN : Hid ((∀ x ∈ fs, x.1.length ≤ maxLen) ∧ Dk.flen fs ≤ 1000000000) := ⟨hnm, hfl⟩
  obtain ⟨n, hn0⟩ : ∃ n, n = fs.length := ⟨_, rfl⟩
  obtain ⟨m, hm0⟩ : ∃ m, m = cs.length := ⟨_, rfl⟩
  obtain ⟨T, hT0⟩ : ∃ T, T = ts.length := ⟨_, rfl⟩
  obtain ⟨L, hL0⟩ : ∃ L, L = l.length := ⟨_, rfl⟩
  have htm : T ≤ 9223372036854775807 := by omega
  rw [← hn0] at HF0 hn ⊢
  rw [← hm0] at HC hcl hc1 ⊢
  rw [← hT0] at HT ht1 ⊢
  rw [← hL0] at HF0 hL hd1 ⊢
  have HNE : Hid (n = fs.length ∧ m = cs.length ∧ T = ts.length ∧ L = l.length) := ⟨hn0, hm0, hT0, hL0⟩
  have HRD : Hid (Calls Try.prog 4 #[.int .i64 4194304] w fun e w' => ∃ g f M, e = .returned (.pointer (some ⟨g, 0, none⟩)) ∧ DM w.heap.size w' g (aS f [7]) M ∧ Below w.heap.size w w') := (dlready_any 4194304 w (by omega)).mono fun e w' ⟨g, f, M, h1, h2, h3⟩ => ⟨g, f, M, h1, by rw [aS_rdy] at h2; exact h2, h3⟩
  have t1 : (q > 65536) = False := eq_false (by omega)
  have t2 : ((L : Int) > 20000) = False := eq_false (by omega)
  clear hf hd hc1 hc3 hct ht3 htt hnm hfl hn0 hm0 hT0 hL0 hc2 hd1 ht1 ht2 hd2
  go_enter Try.func3, Try.ntmps3
  go_wp2_with fail
  refine HRD.out.mono ?_
  rintro e W1 ⟨ga, f, M, rfl, dm1, b1⟩
  have H1 : Hid (DM w.heap.size W1 ga (aS f [7]) M ∧ Below w.heap.size w W1) := ⟨dm1, b1⟩
  have HCP : Hid (Calls Try.prog 5 #[.slice fa n fc] W1 fun e w' => ∃ oa oc ys, e = .returned (.slice oa n oc) ∧ FOA W1.heap.size w' (.slice oa n oc) ys ∧ fT ys = fs ∧ Below W1.heap.size W1 w') := (dlcopiesA_any ok1 _ fs W1 (HF0.out.1.kept b1) (by have := HNE.out.1; omega) (fun x hx => by have := flen_mem x hx; have := HN.out.2; omega)).mono fun e w' ⟨v', ys, h1, h2, h3, h4⟩ => by
    obtain ⟨a, c, e9, -⟩ := Mg.row_shape h2.fo.row
    have hyl : ys.length = n := by
      have := congrArg List.length h3
      rw [List.length_map] at this
      rw [this, HNE.out.1]
    rw [hyl] at e9
    subst e9
    exact ⟨a, c, ys, h1, h2, h3, h4⟩
  clear dm1 b1 HRD t1 t2
  go_wp2_with fail
  refine HCP.out.mono ?_
  rintro e W2 ⟨oa, oc, ys0, rfl, fo2, hys0, b2⟩
  have hyl : ys0.length = n := by
    have := congrArg List.length hys0
    unfold fT at this
    rw [List.length_map] at this
    rw [this, HNE.out.1]
  obtain ⟨bA, cA, W3, hr3, fo3, b3, hcA, hcA2⟩ := foa_behind fo2 b2.size (by omega)
  rw [hyl] at hr3 fo3 hcA
  have hsz : (W2.alloc (.cells #[.int .u8 77] 5)).heap.size = W2.heap.size + 1 := Array.size_push _
  rw [hsz] at hr3
  clear hsz
  obtain ⟨V3, hV3⟩ : ∃ v, v = (.slice (some ⟨W2.heap.size, 0, none⟩) 1 1 : Value) := ⟨_, rfl⟩
  have H3 : Hid (FOA W1.heap.size W3 (.slice (some ⟨bA, 0, none⟩) (n + 1) cA) (ys0 ++ [(bhN, V3, [77])]) ∧ Below W1.heap.size W1 W3 ∧ fT ys0 = fs ∧ ys0.length = n) := ⟨by rw [hV3]; exact fo3, b2.trans b3, hys0, hyl⟩
  clear fo2 hys0 b2 hyl fo3 b3 HCP hcA2 hV3
  go_upto_region 7 with (at_builtin; refine wpList_appRun rfl (.tmp 45) (.tmp 48) 22 rfl rfl rfl hr3 ?_)
  clear hr3
  have hsl : ((n : Int) ≤ (cA : Int)) = True := eq_true (by omega)
  go_upto_region 8 with fail
  obtain ⟨x4, y4, z4, W4, hr4, bC, kC, W5, hr5, rw5, b5, hkC, hkC2⟩ := cts_behind HNE.out.2.1 (HC.out W3 (andThen H1.out.2 H3.out.2.1)) (by omega)
  have H5 : Hid (W5.ownsRow W3.heap.size 32 2 (.slice (some ⟨bC, 0, none⟩) (m + 1) kC) (cs ++ [(-77, -78)]).length ((cs ++ [(-77, -78)]).flatMap enK) ∧ Below W3.heap.size W3 W5) := ⟨rw5, b5⟩
  have HCD : Hid (Calls Try.prog 6 #[.slice da L dc] W5 fun e w' => ∃ xb zb, e = .returned (.slice xb L zb) ∧ Own W5.heap.size w' (.slice xb L zb) l ∧ Below W5.heap.size W5 w') := (dlcopied_any _ l W5 (HF0.out.2.kept (andThen (andThen H1.out.2 H3.out.2.1) b5)) (by have := HNE.out.2.2.2; omega)).mono fun e w' ⟨v', h1, h2, h3⟩ => by
    obtain ⟨a, c, rfl, -⟩ := Mg.row_shape h2.row
    rw [← HNE.out.2.2.2] at h1 h2
    exact ⟨a, c, h1, h2, h3⟩
  clear rw5 b5 hkC2 hsl
  go_wp2_with (at_builtin; first | refine wpList_appRun rfl (.tmp 54) (.tmp 55) 24 rfl rfl rfl hr4 ?_ | refine wpList_appRun rfl (.tmp 56) (.tmp 58) 24 rfl rfl rfl hr5 ?_)
  clear hr4 hr5
  refine HCD.out.mono ?_
  rintro e W6 ⟨xb, zb, rfl, ob, b6⟩
  have H6 : Hid (Own W5.heap.size W6 (.slice xb L zb) l ∧ Below W5.heap.size W5 W6) := ⟨ob, b6⟩
  clear ob b6 HCD
  obtain ⟨W7, hW7⟩ : ∃ W, W = W6.alloc (.cells #[.int .u8 7] 5) := ⟨_, rfl⟩
  obtain ⟨p7, hp7⟩ : ∃ p, p = W6.heap.size := ⟨_, rfl⟩
  have H7 : Hid (Own W6.heap.size W7 (.slice (some ⟨p7, 0, none⟩) 1 1) [7] ∧ Below W6.heap.size W6 W7) := by
    rw [hW7, hp7]
    exact ⟨Own.lit W6 [7] (by intro x hx; rw [List.mem_singleton.1 hx]; omega) (Nat.le_refl _) (by unfold maxLen; simp) _ rfl, up0 _ _⟩
  have HW7 : Hid (W6.alloc (.cells #[.int .u8 7] 5) = W7 ∧ W6.heap.size = p7) := ⟨hW7.symm, hp7.symm⟩
  clear hW7 hp7
  have H8 : Hid (DG w fs cs ga f (.slice (some ⟨bA, 0, none⟩) (n + 1) cA) (.slice (some ⟨bC, 0, none⟩) (m + 1) kC) (.slice xb L zb) L 1 0 (.slice (some ⟨p7, 0, none⟩) 1 1) (.slice none 0 0) (.slice none 0 0) W7) := by
    obtain ⟨col, h1, h2⟩ := AG.start H1.out.2.size H1.out.1 H3.out.1 H3.out.2.1 H5.out.1 H5.out.2 H6.out.1 H6.out.2 H7.out.1 H7.out.2
    refine ⟨_, _, _, _, _, _, col, h1, ⟨?_, V3, ?_⟩, HNE.out.2.2.2.symm, rfl, ⟨rfl, fun k d x hd => by simp at hd⟩, rfl, h2, andThen H1.out.2 (andThen H3.out.2.1 (andThen H5.out.2 (andThen H6.out.2 H7.out.2)))⟩
    · have h9 := H3.out.2.2.1
      rw [List.map_append, ← h9]
      unfold fT
      rw [List.map_map]
      rfl
    · have h9 := H3.out.2.2.2
      have h10 := HNE.out.1
      rw [← h10, ← h9, List.getElem?_append_right (Nat.le_refl _), Nat.sub_self]
      rfl
  clear H3 H5 H6 H7 HF0 H1
  go_upto_region 11 with fail
  rw [HW7.out.1, HW7.out.2]
  clear HW7
  go_wp2_with fail
  go_loopw [16, 17, 18, 19] (fun kv dv wv i wr => ∃ (j kn dn : Nat) (ka : Option Addr) (kc : Nat) (da : Option Addr) (dc : Nat) (wa : Option Addr) (wc : Nat), j ≤ 40 ∧ j ≤ T + 1 ∧ i = .int .i64 (j : Int) ∧ kv = .slice ka kn kc ∧ dv = .slice da dn dc ∧ wv = .slice wa dn wc ∧ dn ≤ j ∧ Hid (kn = 1 + j * L) ∧ DG w fs cs ga f (.slice (some ⟨bA, 0, none⟩) (n + 1) cA) (.slice (some ⟨bC, 0, none⟩) (m + 1) kC) (.slice xb L zb) L kn dn kv dv wv wr) (fun _ _ _ i _ => 41 - (intOf i).toNat)
  case atStart => exact ⟨0, 1, 0, _, _, _, _, _, _, by omega, by omega, rfl, rfl, rfl, rfl, Nat.le_refl _, (by omega : 1 = 1 + 0 * L), H8.out⟩
  case round =>
    obtain ⟨j, kn, dn, ka, kc, oa2, dc2, wa, wc, hj, hjT, rfl, rfl, rfl, rfl, hdn, hkn, hdg⟩ := hrel
    have HKN : Hid (kn = 1 + j * L) := hkn
    have HG : Hid (DG w fs cs ga f (.slice (some ⟨bA, 0, none⟩) (n + 1) cA) (.slice (some ⟨bC, 0, none⟩) (m + 1) kC) (.slice xb L zb) L kn dn (.slice ka kn kc) (.slice oa2 dn dc2) (.slice wa dn wc) wr) := hdg
    clear hkn hdg H8
    by_cases hlt : j ≤ T
    · by_cases hl2 : j < 40
      · obtain ⟨ys, bl, kl, M, ds, ws, col, hag, hok, hbl, hkl, hdw, hdl, hc0, hbw⟩ := HG.out
        obtain ⟨gs, hgs⟩ : ∃ gs, gs = fT (ys.take n) := ⟨_, rfl⟩
        have hnf := HNE.out.1
        have hgl : gs.length = n := by
          rw [hgs, hnf]
          exact hok.tlen
        have HGL : Hid (gs.length = n ∧ (∀ x ∈ gs, x.1.length ≤ maxLen) ∧ Dk.flen gs ≤ 1000000000) := by
          refine ⟨hgl, ?_, ?_⟩
          · rw [hgs, hnf]
            exact hok.names (P := fun s => s.length ≤ maxLen) HN.out.1
          · rw [hgs, hnf, hok.flen]
            exact HN.out.2
        have HGV : Hid (∀ W, Below wr.heap.size wr W → Fls (0 ≤ ·) W (.slice (some ⟨bA, 0, none⟩) n cA) gs) := fun W hW => by
          have h9 := hok.len
          have h8 := (hag.giv n (by omega)).kept hW
          rw [← hgs] at h8
          exact h8
        have H0 : Hid (AG wr col (.slice (some ⟨bA, 0, none⟩) (n + 1) cA) ys (.slice (some ⟨bC, 0, none⟩) (m + 1) kC) (cs ++ [(-77, -78)]) (.slice xb L zb) bl (.slice ka kn kc) kl ga f M (.slice oa2 dn dc2) ds (.slice wa dn wc) ws ∧ Okf fs ys ∧ bl.length = L ∧ kl.length = kn ∧ DWo 1048576 ds ws ∧ ds.length = dn ∧ (∀ q, q < w.heap.size → col q = 0) ∧ Below w.heap.size w wr) := ⟨hag, hok, hbl, hkl, hdw, hdl, hc0, hbw⟩
        clear hag hok hbl hkl hdw hdl hc0 hbw hgs hgl hnf
        have HCQ : Hid (Calls Try.prog 5 #[.slice (some ⟨bA, 0, none⟩) n cA] wr fun e w' => ∃ a c, e = .returned (.slice a n c) ∧ Fls (fun _ => True) w' (.slice a n c) gs ∧ Below wr.heap.size wr w') := (dlcopies_any _ _ gs wr (HGV.out wr (Below.refl _ _)) (by have := HGL.out.1; omega) (fun x hx => by have := flen_mem x hx; have := HGL.out.2.2; omega)).mono fun e w' ⟨v', ys, h1, h2, h3, h4⟩ => by
          have h5 := h2.fls
          rw [h3] at h5
          obtain ⟨a, c, rfl⟩ := fls_slice h5
          have h6 := HGL.out.1
          rw [h6] at h1 h5
          exact ⟨a, c, h1, h5.mono fun _ _ => trivial, h4⟩
        go_upto_region 16 with fail
        go_wp2_with fail
        refine HCQ.out.mono ?_
        rintro e Wa ⟨va, vc, rfl, fa1, ba⟩
        have HA : Hid (Fls (fun _ => True) Wa (.slice va n vc) gs ∧ Below wr.heap.size wr Wa) := ⟨fa1, ba⟩
        clear fa1 ba HCQ
        have HLD : Hid (Calls Try.prog 7 #[.int .i64 q, .slice (some ⟨bA, 0, none⟩) n cA] Wa (LdP q gs Wa)) := ld_any q _ _ gs Wa (HGV.out Wa HA.out.2) (by have := HGL.out.1; omega) HGL.out.2.1
        go_wp2_with fail
        refine HLD.out.mono ?_
        rintro e Wb ⟨po, rfl, bb, hcase⟩
        obtain ⟨E, hE⟩ : ∃ E, E = rldE q gs := ⟨_, rfl⟩
        rw [← hE] at hcase ⊢
        obtain ⟨bad, hpv⟩ : ∃ b, po.isNone = b := ⟨_, rfl⟩
        have x0 : (E != 0) = bad := by
          rcases hcase with ⟨e0, rfl⟩ | ⟨e0, g, S, M2, rfl, -⟩
          · rw [← hpv]
            exact bne_iff_ne.2 e0
          · rw [← hpv, e0]
            rfl
        have HB : Hid (Below Wa.heap.size Wa Wb ∧ E = rldE q gs ∧ ((E ≠ 0 ∧ po = none) ∨ (E = 0 ∧ ∃ g S M, po = some ⟨g, 0, none⟩ ∧ DM Wa.heap.size Wb g S M ∧ Dk.WF S gs.length ∧ Rl S (rbgn q gs)))) := ⟨bb, hE, hcase⟩
        have HXB : Hid (po.isNone = bad ∧ (E != 0) = bad) := ⟨hpv, x0⟩
        clear bb hE HLD hcase hpv x0
        have HCR : Hid (Calls Try.prog 5 #[.slice (some ⟨bA, 0, none⟩) n cA] Wb fun e w' => ∃ a c, e = .returned (.slice a n c) ∧ Fls (fun _ => True) w' (.slice a n c) gs ∧ Below Wb.heap.size Wb w') := (dlcopies_any _ _ gs Wb (HGV.out Wb (andThen HA.out.2 HB.out.1)) (by have := HGL.out.1; omega) (fun x hx => by have := flen_mem x hx; have := HGL.out.2.2; omega)).mono fun e w' ⟨v', ys, h1, h2, h3, h4⟩ => by
          have h5 := h2.fls
          rw [h3] at h5
          obtain ⟨a, c, rfl⟩ := fls_slice h5
          have h6 := HGL.out.1
          rw [h6] at h1 h5
          exact ⟨a, c, h1, h5.mono fun _ _ => trivial, h4⟩
        go_wp2_with fail
        refine HCR.out.mono ?_
        rintro e Wc ⟨ra, rc, rfl, fc1, bc⟩
        have HC1 : Hid (Fls (fun _ => True) Wc (.slice ra n rc) gs ∧ Below Wb.heap.size Wb Wc) := ⟨fc1, bc⟩
        clear fc1 bc HCR
        have HRK : Hid (Calls Try.prog 8 #[.int .i64 q, .slice ra n rc] Wc fun e w' => ∃ yq ya1 yn1 yc1 ya2 yn2 yc2 ya3 yn3 yc3 ya4 yn4 yc4 yl yd, e = .returned (.tuple #[.agg #[.int .i64 yq, .slice ya1 yn1 yc1, .slice ya2 yn2 yc2, .slice ya3 yn3 yc3, .slice ya4 yn4 yc4, .int .i64 yl, .bool yd], .int .i64 E]) ∧ (E = 0 → RdM (Wc.heap.size ≤ ·) w' (rbgn q gs) (.agg #[.int .i64 yq, .slice ya1 yn1 yc1, .slice ya2 yn2 yc2, .slice ya3 yn3 yc3, .slice ya4 yn4 yc4, .int .i64 yl, .bool yd])) ∧ Below Wc.heap.size Wc w') := (rkload_any _ q _ gs Wc HC1.out.1 (by have := HGL.out.1; omega) (fun x hx => by have := flen_mem x hx; have := HGL.out.2.2; omega) HGL.out.2.1 (by have := HGL.out.2.2; omega)).mono fun e w' ⟨v', E', h1, ⟨yq, ya1, yn1, yc1, ya2, yn2, yc2, ya3, yn3, yc3, ya4, yn4, yc4, yl, yd, hv⟩, h2, h3, h4⟩ => by
          rw [← HB.out.2.1] at h2
          subst h2 hv
          exact ⟨_, _, _, _, _, _, _, _, _, _, _, _, _, _, _, h1, h3, h4⟩
        go_wp2_with fail
        refine HRK.out.mono ?_
        rintro e Wd ⟨yq, ya1, yn1, yc1, ya2, yn2, yc2, ya3, yn3, yc3, ya4, yn4, yc4, yl, yd, rfl, hrd, bd⟩
        have HD : Hid ((E = 0 → RdM (Wc.heap.size ≤ ·) Wd (rbgn q gs) (.agg #[.int .i64 yq, .slice ya1 yn1 yc1, .slice ya2 yn2 yc2, .slice ya3 yn3 yc3, .slice ya4 yn4 yc4, .int .i64 yl, .bool yd])) ∧ Below Wc.heap.size Wc Wd) := ⟨hrd, bd⟩
        clear hrd bd HRK
        obtain ⟨pb, hpb⟩ : ∃ p, p = Wd.heap.size := ⟨_, rfl⟩
        obtain ⟨We, hWe⟩ : ∃ W, W = Wd.alloc (.cells #[.int .i64 yq, .slice ya1 yn1 yc1, .slice ya2 yn2 yc2, .slice ya3 yn3 yc3, .slice ya4 yn4 yc4, .int .i64 yl, .bool yd] 45) := ⟨_, rfl⟩
        have HE : Hid (LB We pb 45 [.int .i64 yq, .slice ya1 yn1 yc1, .slice ya2 yn2 yc2, .slice ya3 yn3 yc3, .slice ya4 yn4 yc4, .int .i64 yl, .bool yd] ∧ Below Wd.heap.size Wd We ∧ pb = Wd.heap.size) := by
          refine ⟨?_, ?_, hpb⟩
          · rw [hWe, hpb]
            exact lb_new Wd [.int .i64 yq, .slice ya1 yn1 yc1, .slice ya2 yn2 yc2, .slice ya3 yn3 yc3, .slice ya4 yn4 yc4, .int .i64 yl, .bool yd] 45
          · rw [hWe]
            exact up0 _ _
        have HWe : Hid (Wd.alloc (.cells #[.int .i64 yq, .slice ya1 yn1 yc1, .slice ya2 yn2 yc2, .slice ya3 yn3 yc3, .slice ya4 yn4 yc4, .int .i64 yl, .bool yd] 45) = We ∧ Wd.heap.size = pb) := ⟨hWe.symm, hpb.symm⟩
        clear hWe hpb
        go_upto_region 19 with fail
        rw [HWe.out.1, HWe.out.2]
        clear HWe
        have HBE : Hid (Below wr.heap.size wr We) := andThen HA.out.2 (andThen HB.out.1 (andThen HC1.out.2 (andThen HD.out.2 HE.out.2.1)))
        have HNU : Hid (∀ W : World, Calls Try.prog 9 #[.int .i64 E] W fun e w' => e = .returned (.int .i64 E) ∧ W = w') := fun W => (dlnum_any E W).mono fun e w' ⟨h1, h2⟩ => ⟨h1, h2.symm⟩
        have HFA : Hid (Calls Try.prog 10 #[.slice (some ⟨bA, 0, none⟩) n cA, .slice va n vc] We fun e w' => e = .returned (.bool true) ∧ Below We.heap.size We w') := dlfalike_yes _ _ _ _ gs We (HGV.out We HBE.out) (HA.out.1.kept (andThen HB.out.1 (andThen HC1.out.2 (andThen HD.out.2 HE.out.2.1))))
        have xE : (E != E) = false := by simp
        have xb : (bad != bad) = false := by simp
        have hpv := HXB.out.1
        have x0 := HXB.out.2
        go_wp2_with fail
        refine (HNU.out _).mono ?_
        rintro e Wn ⟨rfl, rfl⟩
        go_wp2_with fail
        refine HFA.out.mono ?_
        rintro e Wf ⟨rfl, bf⟩
        have HF : Hid (Below We.heap.size We Wf ∧ LB Wf pb 45 [.int .i64 yq, .slice ya1 yn1 yc1, .slice ya2 yn2 yc2, .slice ya3 yn3 yc3, .slice ya4 yn4 yc4, .int .i64 yl, .bool yd] ∧ Below wr.heap.size wr Wf) := ⟨bf, HE.out.1.kept bf, andThen HBE.out bf⟩
        clear bf HFA HNU xE xb x0
        go_upto_if 106 with fail
        go_cut [17, 18, 25, 26] from 107 to 145 (fun dv wv x25 x26 wx => ∃ (dn2 : Nat) (oa : Option Addr) (dc : Nat) (wa : Option Addr) (wc : Nat), dn2 ≤ j + 1 ∧ dv = .slice oa dn2 dc ∧ wv = .slice wa dn2 wc ∧ DG w fs cs ga f (.slice (some ⟨bA, 0, none⟩) (n + 1) cA) (.slice (some ⟨bC, 0, none⟩) (m + 1) kC) (.slice xb L zb) L kn dn2 (.slice ka kn kc) dv wv wx)
        case first =>
          rcases HB.out.2.2 with ⟨e0, e1⟩ | ⟨e0, g, S, M2, e1, hdm, hWF, hRl⟩
          · have hb1 : bad = true := by
              rw [← hpv, e1]
              rfl
            subst e1
            subst hb1
            clear e0
            go_wp2_with fail
            go_meet
            exact ⟨dn, _, _, _, _, by omega, rfl, rfl, HG.out.kept HF.out.2.2⟩
          · have hb1 : bad = false := by
              rw [← hpv, e1]
              rfl
            subst e1
            subst hb1
            have HSY : Hid (Sy gs.length S (rbgn q gs)) := Sy.load hWF hRl
            have HSZ : Hid (wr.heap.size ≤ Wa.heap.size ∧ Wa.heap.size ≤ Wb.heap.size ∧ Wb.heap.size ≤ Wc.heap.size ∧ Wc.heap.size ≤ Wd.heap.size ∧ pb = Wd.heap.size ∧ Wd.heap.size ≤ We.heap.size ∧ We.heap.size ≤ Wf.heap.size) := ⟨HA.out.2.size, HB.out.1.size, HC1.out.2.size, HD.out.2.size, HE.out.2.2, HE.out.2.1.size, HF.out.1.size⟩
            have hBF := andThen HC1.out.2 (andThen HD.out.2 (andThen HE.out.2.1 HF.out.1))
            have hDF := andThen HE.out.2.1 HF.out.1
            have hdnl := H0.out.2.2.2.2.2.1
            obtain ⟨dv1, Wg, col1, hr1, hag1, fr1, ⟨a1, k1, rfl⟩, hco1⟩ := H0.out.1.addD HF.out.2.2 (hdm.kept hBF) HA.out.2.size (by omega)
            rw [hdnl] at hr1 hag1
            have HG1 : Hid (AG Wg col1 (.slice (some ⟨bA, 0, none⟩) (n + 1) cA) ys (.slice (some ⟨bC, 0, none⟩) (m + 1) kC) (cs ++ [(-77, -78)]) (.slice xb L zb) bl (.slice ka kn kc) kl ga f M (.slice a1 (dn + 1) k1) (ds ++ [(g, S, M2)]) (.slice wa dn wc) ws ∧ IFr Wf Wg (fun q => (Value.slice oa2 dn dc2).ownBlock = some q) ∧ (∀ q, q < wr.heap.size → col1 q = col q) ∧ RdM (Wc.heap.size ≤ ·) Wg (rbgn q gs) (.agg #[.int .i64 yq, .slice ya1 yn1 yc1, .slice ya2 yn2 yc2, .slice ya3 yn3 yc3, .slice ya4 yn4 yc4, .int .i64 yl, .bool yd]) ∧ LB Wg pb 45 [.int .i64 yq, .slice ya1 yn1 yc1, .slice ya2 yn2 yc2, .slice ya3 yn3 yc3, .slice ya4 yn4 yc4, .int .i64 yl, .bool yd] ∧ Below w.heap.size w Wg) := by
              have hlow : ∀ q, (Value.slice oa2 dn dc2).ownBlock = some q → q < wr.heap.size := fun q e => H0.out.1.a6.lt q e
              have z := HSZ.out
              have hbl := HF.out.2.1
              refine ⟨hag1, fr1, hco1, ?_, ?_, ?_⟩
              · have hr := (HD.out.1 e0).kept hDF
                exact hr.blk fun q hq hl => fr1.block q hl fun e => by
                  have := hlow q e
                  omega
              · exact (fr1.block pb hbl.lt fun e => by
                  have := hlow pb e
                  omega).trans hbl
              · have hb0 := andThen H0.out.2.2.2.2.2.2.2 HF.out.2.2
                exact (andThen hb0 (Below.refl _ _)).trans (col_below (col := col) (i := 6) H0.out.2.2.2.2.2.2.1 fr1 hb0.size (fun q e => H0.out.1.a6.c q e) (by decide))
            have HGN : Hid (gs.length ≤ 1048576 ∧ Dk.WF S 1048576) := ⟨by have := HGL.out.1; omega, hWF.mono (by have := HGL.out.1; omega)⟩
            clear hag1 fr1 hco1 e0 hBF hDF hdm hWF hRl hpv
            go_upto_region 23 with (at_builtin; refine wpList_appRun rfl (.tmp 107) (.tmp 109) 34 rfl rfl rfl hr1 ?_)
            clear hr1
            have HFI : Hid (Calls Try.prog 11 #[.agg #[.int .i64 yq, .slice ya1 yn1 yc1, .slice ya2 yn2 yc2, .slice ya3 yn3 yc3, .slice ya4 yn4 yc4, .int .i64 yl, .bool yd]] Wg fun e w' => ∃ v, e = .returned v ∧ Fls (Wg.heap.size ≤ ·) w' v (Dk.files S) ∧ Below Wg.heap.size Wg w') := by
              have h9 := HSY.out
              have h8 := rkfiles_any _ (rbgn q gs) _ Wg HG1.out.2.2.2.1 (by have := h9.bn.1; have := HGN.out.1; omega) h9.rl.okn (fun t ht => by have := (h9.ln t ht).2; omega)
              rw [h9.rl.files] at h8
              exact h8
            have LBx := HG1.out.2.2.2.2.1
            have y0 := LBx.cell 0 _ rfl
            have y1 := LBx.cell 1 _ rfl
            have y2 := LBx.cell 2 _ rfl
            have y3 := LBx.cell 3 _ rfl
            have y4 := LBx.cell 4 _ rfl
            have y5 := LBx.cell 5 _ rfl
            have y6 := LBx.cell 6 _ rfl
            clear LBx
            go_wp2_with fail
            refine HFI.out.mono ?_
            rintro e Wh ⟨v1, rfl, fh, bh1⟩
            obtain ⟨wfs, hwfs⟩ : ∃ x, x = Dk.files S := ⟨_, rfl⟩
            rw [← hwfs] at fh
            have HFS : Hid (wfs = Dk.files S ∧ wfs.length ≤ 1048576 ∧ ∀ x ∈ wfs, x.2.length ≤ 4194304) := by
              have h8 := HGN.out.2
              refine ⟨hwfs, ?_, fun x hx => ?_⟩
              · have h9 : wfs.length = S.nm.length := by
                  rw [hwfs]
                  unfold Dk.files
                  exact List.length_map ..
                have := h8.n1
                omega
              · rw [hwfs] at hx
                unfold Dk.files at hx
                obtain ⟨p, hp, rfl⟩ := List.mem_map.1 hx
                exact (h8.fl _ (h8.ids p hp)).2
            have HH : Hid (Fls (Wg.heap.size ≤ ·) Wh v1 wfs ∧ Below Wg.heap.size Wg Wh) := ⟨fh, bh1⟩
            clear fh bh1 HFI hwfs y0 y1 y2 y3 y4 y5 y6
            have HCP2 : Hid (Calls Try.prog 5 #[v1] Wh fun e w' => ∃ a n c ys, e = .returned (.slice a n c) ∧ FOA Wh.heap.size w' (.slice a n c) ys ∧ fT ys = wfs ∧ Below Wh.heap.size Wh w') := (dlcopiesA_any _ _ wfs Wh HH.out.1 (by have := HFS.out.2.1; omega) (fun x hx => by have := HFS.out.2.2 x hx; omega)).mono fun e w' ⟨v', ys, h1, h2, h3, h4⟩ => by
              obtain ⟨a, c, e9, -⟩ := Mg.row_shape h2.fo.row
              subst e9
              exact ⟨a, _, c, ys, h1, h2, h3, h4⟩
            go_wp2_with fail
            refine HCP2.out.mono ?_
            rintro e Wi ⟨ia, inn, ic, wys, rfl, fi, hwys, bi1⟩
            have hwl : ws.length = dn := by
              have h9 := H0.out.2.2.2.2.1.1
              have h8 := H0.out.2.2.2.2.2.1
              omega
            obtain ⟨wv1, Wj, col2, hr2, hag2, fr2, ⟨a2, k2, rfl⟩, hco2⟩ := HG1.out.1.addW (andThen HH.out.2 bi1) fi HH.out.2.size (by omega) rfl
            rw [hwl] at hr2 hag2
            have HG2 : Hid (AG Wj col2 (.slice (some ⟨bA, 0, none⟩) (n + 1) cA) ys (.slice (some ⟨bC, 0, none⟩) (m + 1) kC) (cs ++ [(-77, -78)]) (.slice xb L zb) bl (.slice ka kn kc) kl ga f M (.slice a1 (dn + 1) k1) (ds ++ [(g, S, M2)]) (.slice a2 (dn + 1) k2) (ws ++ [(Value.slice ia inn ic, wys)]) ∧ (∀ q, q < w.heap.size → col2 q = 0) ∧ RdM (Wc.heap.size ≤ ·) Wj (rbgn q gs) (.agg #[.int .i64 yq, .slice ya1 yn1 yc1, .slice ya2 yn2 yc2, .slice ya3 yn3 yc3, .slice ya4 yn4 yc4, .int .i64 yl, .bool yd]) ∧ LB Wj pb 45 [.int .i64 yq, .slice ya1 yn1 yc1, .slice ya2 yn2 yc2, .slice ya3 yn3 yc3, .slice ya4 yn4 yc4, .int .i64 yl, .bool yd] ∧ Below w.heap.size w Wj ∧ fT wys = Dk.files S) := by
              have hlow : ∀ q, (Value.slice wa dn wc).ownBlock = some q → q < wr.heap.size := fun q e => H0.out.1.a7.lt q e
              have z := HSZ.out
              have bgi := andThen HH.out.2 bi1
              have hwr := H0.out.2.2.2.2.2.2.2.size
              have hwg : w.heap.size ≤ Wg.heap.size := HG1.out.2.2.2.2.2.size
              have hfg : Wf.heap.size ≤ Wg.heap.size := HG1.out.2.1.size
              have hc1 : ∀ q, q < w.heap.size → col1 q = 0 := fun q hq => (HG1.out.2.2.1 q (by omega)).trans (H0.out.2.2.2.2.2.2.1 q hq)
              refine ⟨hag2, fun q hq => (hco2 q (by omega)).trans (hc1 q hq), ?_, ?_, ?_, hwys.trans HFS.out.1⟩
              · exact (HG1.out.2.2.2.1.kept bgi).blk fun q hq hl => fr2.block q hl fun e => by
                  have := hlow q e
                  omega
              · have hbl := HG1.out.2.2.2.2.1.kept bgi
                exact (fr2.block pb hbl.lt fun e => by
                  have := hlow pb e
                  omega).trans hbl
              · have hb0 := andThen HG1.out.2.2.2.2.2 bgi
                exact hb0.trans (col_below (col := col1) (i := 7) hc1 fr2 hb0.size (fun q e => HG1.out.1.a7.c q e) (by decide))
            clear hag2 fr2 hco2 fi hwys bi1 HCP2
            go_upto_region 24 with (at_builtin; refine wpList_appRun rfl (.tmp 111) (.tmp 115) 35 rfl rfl rfl hr2 ?_)
            clear hr2
            have HDW : Hid (DWo 1048576 (ds ++ [(g, S, M2)]) (ws ++ [(Value.slice ia inn ic, wys)])) := H0.out.2.2.2.2.1.add HGN.out.2 HG2.out.2.2.2.2.2
            clear HG1 HH HFS
            have HCX : Hid (Calls Try.prog 12 #[.pointer (some ⟨g, 0, none⟩), .int .i64 (j : Int), .slice (some ⟨bC, 0, none⟩) m kC] Wj fun e w' => ∃ v, e = .returned v ∧ Fls (Wj.heap.size ≤ ·) w' v (Dk.crash S (j : Int) cs) ∧ Below Wj.heap.size Wj w') := by
              have hd2 := (HG2.out.1.a8 (g, S, M2) (List.mem_append_right _ (List.mem_singleton.2 rfl))).p
              have hc2 := HG2.out.1.cut
              rw [← HNE.out.2.1] at hc2
              exact dkcrash_wf 0 g S M2 1048576 (j : Int) _ cs Wj hd2 hc2 HGN.out.2 (by omega)
            have hsl : ((m : Int) ≤ (kC : Int)) = True := eq_true (by omega)
            go_wp2_with fail
            clear hsl
            refine HCX.out.mono ?_
            rintro e Wk ⟨v2, rfl, fk, bk⟩
            have HK : Hid (Fls (Wj.heap.size ≤ ·) Wk v2 (Dk.crash S (j : Int) cs) ∧ Below Wj.heap.size Wj Wk) := ⟨fk, bk⟩
            clear fk bk HCX
            have HCY : Hid (Calls Try.prog 13 #[.agg #[.int .i64 yq, .slice ya1 yn1 yc1, .slice ya2 yn2 yc2, .slice ya3 yn3 yc3, .slice ya4 yn4 yc4, .int .i64 yl, .bool yd], .int .i64 (j : Int), .slice ca m cc] Wk fun e w' => ∃ v, e = .returned v ∧ Fls (Wk.heap.size ≤ ·) w' v (Dk.crash S (j : Int) cs) ∧ Below Wk.heap.size Wk w') := by
              have h9 := HSY.out
              have h8 := rkcrash_any _ (rbgn q gs) _ (j : Int) _ cs Wk (HG2.out.2.2.1.kept HK.out.2) (HC.out Wk (andThen HG2.out.2.2.2.2.1 HK.out.2)) (by have := h9.bn; have := HGN.out.1; omega) h9.rl.chg (fun t ht => by have := h9.ln t ht; omega)
              rw [h9.rl.crash] at h8
              exact h8
            have LBx := HG2.out.2.2.2.1.kept HK.out.2
            have y0 := LBx.cell 0 _ rfl
            have y1 := LBx.cell 1 _ rfl
            have y2 := LBx.cell 2 _ rfl
            have y3 := LBx.cell 3 _ rfl
            have y4 := LBx.cell 4 _ rfl
            have y5 := LBx.cell 5 _ rfl
            have y6 := LBx.cell 6 _ rfl
            clear LBx
            go_wp2_with fail
            refine HCY.out.mono ?_
            rintro e Wl ⟨v3, rfl, fl1, bl1⟩
            have HLF : Hid (Calls Try.prog 10 #[v2, v3] Wl fun e w' => e = .returned (.bool true) ∧ Below Wl.heap.size Wl w') := dlfalike_yes _ _ _ _ _ Wl (HK.out.1.kept bl1) fl1
            have HL1 : Hid (Below Wj.heap.size Wj Wl) := andThen HK.out.2 bl1
            clear fl1 bl1 HCY y0 y1 y2 y3 y4 y5 y6 HK
            go_wp2_with fail
            refine HLF.out.mono ?_
            rintro e Wm ⟨rfl, bm⟩
            have HM : Hid (Below Wj.heap.size Wj Wm) := andThen HL1.out bm
            clear bm HLF HL1
            go_wp2_with fail
            obtain ⟨Wo, hWo⟩ : ∃ x, x = wr := ⟨_, rfl⟩
            subst hWo
            go_loopw [26] (fun i wx => ∃ k : Nat, k ≤ m ∧ i = .int .i64 (k : Int) ∧ Below Wj.heap.size Wj wx) (fun i _ => m - (intOf i).toNat)
            case atStart => exact ⟨0, Nat.zero_le _, rfl, HM.out⟩
            case round =>
              obtain ⟨k, hk, rfl, hbx⟩ := hrel
              have HX : Hid (Below Wj.heap.size Wj wr) := hbx
              clear hbx
              by_cases hltk : k < m
              · obtain ⟨ca2, cc2, he2, -, -, hcc⟩ := HC.out wr (andThen HG2.out.2.2.2.2.1 HX.out)
                obtain ⟨cb, coff, rfl, hcl2⟩ : ∃ b off, ca = some ⟨b, off, none⟩ ∧ ∀ j (h : j < cs.length), wr.cell? ⟨b, off + j * 2, none⟩ = some (.int .i64 cs[j].1) ∧ wr.cell? ⟨b, off + j * 2 + 1, none⟩ = some (.int .i64 cs[j].2) := by
                  simp only [Value.slice.injEq] at he2
                  obtain ⟨rfl, -, -⟩ := he2
                  have h9 := HNE.out.2.1
                  exact hcc (List.ne_nil_of_length_pos (by omega))
                obtain ⟨C1, C2, q1, q2, q3, q4⟩ : ∃ C1 C2 : Int, wr.cell? ⟨bC, k * 2, none⟩ = some (.int .i64 C1) ∧ wr.cell? ⟨bC, k * 2 + 1, none⟩ = some (.int .i64 C2) ∧ wr.cell? ⟨cb, coff + k * 2, none⟩ = some (.int .i64 C1) ∧ wr.cell? ⟨cb, coff + k * 2 + 1, none⟩ = some (.int .i64 C2) := by
                  have h9 := HNE.out.2.1
                  have hk2 : k < cs.length := by omega
                  have hrow := (HG2.out.1.kept HX.out).a2.p
                  have hx : (cs ++ [(-77, -78)])[k]? = some cs[k] := by
                    rw [List.getElem?_append_left hk2]
                    exact List.getElem?_eq_getElem hk2
                  obtain ⟨b1, k1, e1, r1⟩ := row_read (en := enK) enK_len hrow k cs[k] hx 0 _ rfl
                  obtain ⟨b2, k2, e2, r2⟩ := row_read (en := enK) enK_len hrow k cs[k] hx 1 _ rfl
                  simp only [Value.slice.injEq, Option.some.injEq, Addr.mk.injEq] at e1 e2
                  obtain ⟨⟨rfl, -, -⟩, -, -⟩ := e1
                  obtain ⟨⟨rfl, -, -⟩, -, -⟩ := e2
                  exact ⟨cs[k].1, cs[k].2, r1, r2, (hcl2 k hk2).1, (hcl2 k hk2).2⟩
                clear he2 hcc hcl2
                go_upto_region 30 with fail
                go_quiet (fail)
                go_wp2_with fail
                go_roundw
                case rel => exact ⟨k + 1, by omega, by go_num, bel_drewN HX.out _⟩
                case measure => simp [intOf]; omega
              · go_wp2_with fail
                go_meet
                exact ⟨dn + 1, _, _, _, _, by omega, rfl, rfl, ys, bl, kl, M, _, _, col2, HG2.out.1.kept HX.out, H0.out.2.1, H0.out.2.2.1, H0.out.2.2.2.1, HDW.out, by rw [List.length_append, H0.out.2.2.2.2.2.1]; rfl, HG2.out.2.1, andThen HG2.out.2.2.2.2.1 HX.out⟩
        case rest =>
          obtain ⟨dn2, oa3, dc3, wa3, wc3, hdn2, rfl, rfl, hdg⟩ := hcut
          have hkl2 : kn + L ≤ 4194304 := by
            have h9 := HKN.out
            have h8 : j * L ≤ 39 * 20000 := Nat.mul_le_mul (by omega) hL
            omega
          have HAPP : Hid (Calls Try.prog 14 #[.pointer (some ⟨ga, 0, none⟩), .string ⟨#[122]⟩, .slice xb L zb] wc fun e w' => e = .returned (.int .i64 0) ∧ DH w fs cs ga f (.slice (some ⟨bA, 0, none⟩) (n + 1) cA) (.slice (some ⟨bC, 0, none⟩) (m + 1) kC) (.slice xb L zb) L kn dn2 (.slice ka kn kc) (.slice oa3 dn2 dc3) (.slice wa3 dn2 wc3) w') := hdg.append hkl2
          clear HG H0 HGV HGL HA HB HXB HC1 HD HE HBE HF hpv hdg
          go_wp2_with fail
          refine HAPP.out.mono ?_
          rintro e Wp ⟨rfl, hdh⟩
          obtain ⟨kv2, Wq, hr9, hdg9, k3, kc3, rfl⟩ := hdh.book hkl2
          have HG9 : Hid (DG w fs cs ga f (.slice (some ⟨bA, 0, none⟩) (n + 1) cA) (.slice (some ⟨bC, 0, none⟩) (m + 1) kC) (.slice xb L zb) L (kn + L) dn2 (.slice k3 (kn + L) kc3) (.slice oa3 dn2 dc3) (.slice wa3 dn2 wc3) Wq) := hdg9
          have HNU : Hid (∀ W : World, Calls Try.prog 9 #[.int .i64 0] W fun e w' => e = .returned (.int .i64 0) ∧ W = w') := fun W => (dlnum_any 0 W).mono fun e w' ⟨h1, h2⟩ => ⟨h1, h2.symm⟩
          have HRE : Hid (Calls Try.prog 15 #[.pointer (some ⟨ga, 0, none⟩), .string ⟨#[122]⟩] Wq fun e w' => ∃ v, e = .returned (.tuple #[v, .int .i64 0]) ∧ (∃ l, Bs w' v l ∧ Bs w' (.slice k3 (kn + L) kc3) l) ∧ Below Wq.heap.size Wq w') := hdg9.read hkl2
          clear hdh hdg9 HAPP
          go_wp2_with fail
          refine (HNU.out _).mono ?_
          rintro e Wn ⟨rfl, rfl⟩
          go_wp2_with (at_builtin; refine wpList_appRun rfl (.tmp 158) (.tmp 159) 23 rfl rfl rfl hr9 ?_)
          clear hr9
          refine HRE.out.mono ?_
          rintro e Wr ⟨vr, rfl, ⟨lr, hb1, hb2⟩, br⟩
          have HAL : Hid (Calls Try.prog 16 #[vr, .slice k3 (kn + L) kc3] Wr fun e w' => e = .returned (.bool true) ∧ Below Wr.heap.size Wr w') := dlalike_yes _ _ lr Wr hb1 hb2
          have HR9 : Hid (Below Wq.heap.size Wq Wr) := br
          clear hb1 hb2 br HRE
          go_wp2_with fail
          refine (HNU.out _).mono ?_
          rintro e Wn ⟨rfl, rfl⟩
          go_wp2_with fail
          refine HAL.out.mono ?_
          rintro e Ws ⟨rfl, bs⟩
          have HGS : Hid (DG w fs cs ga f (.slice (some ⟨bA, 0, none⟩) (n + 1) cA) (.slice (some ⟨bC, 0, none⟩) (m + 1) kC) (.slice xb L zb) L (kn + L) dn2 (.slice k3 (kn + L) kc3) (.slice oa3 dn2 dc3) (.slice wa3 dn2 wc3) Ws) := (HG9.out.kept HR9.out).kept bs
          clear bs HAL HR9 HG9 HNU
          go_upto_block 4 with fail
          obtain ⟨Wo, hWo⟩ : ∃ x, x = wr := ⟨_, rfl⟩
          subst hWo
          go_cut [30, 31] from 175 to 215 (fun x30 x31 wx => DG w fs cs ga f (.slice (some ⟨bA, 0, none⟩) (n + 1) cA) (.slice (some ⟨bC, 0, none⟩) (m + 1) kC) (.slice xb L zb) L (kn + L) dn2 (.slice k3 (kn + L) kc3) (.slice oa3 dn2 dc3) (.slice wa3 dn2 wc3) wx)
          case first =>
            by_cases hjt : j < T
            · obtain ⟨tb, toff, Y1, Y2, rfl, HTC⟩ : ∃ (tb toff : Nat) (Y1 Y2 : Int), ta = some ⟨tb, toff, none⟩ ∧ Hid (tb < w.heap.size ∧ ∀ W, Below w.heap.size w W → W.cell? ⟨tb, toff + j * 2, none⟩ = some (.int .i64 Y1) ∧ W.cell? ⟨tb, toff + j * 2 + 1, none⟩ = some (.int .i64 Y2)) := by
                obtain ⟨a9, c9, e9, -, -, h9⟩ := HT.out w (Below.refl _ _)
                have hT9 := HNE.out.2.2.1
                have hj9 : j < ts.length := by omega
                obtain ⟨tb, toff, e8, h8⟩ := h9 (List.ne_nil_of_length_pos (by omega))
                simp only [Value.slice.injEq] at e9
                obtain ⟨rfl, -, -⟩ := e9
                subst e8
                refine ⟨tb, toff, ts[j].1, ts[j].2, rfl, World.block_lt_of_cell? _ _ (h8 j hj9).1, fun W hW => ?_⟩
                exact ⟨(hW.cell (p := ⟨tb, toff + j * 2, none⟩) (World.block_lt_of_cell? _ _ (h8 j hj9).1)).trans (h8 j hj9).1, (hW.cell (p := ⟨tb, toff + j * 2 + 1, none⟩) (World.block_lt_of_cell? _ _ (h8 j hj9).2)).trans (h8 j hj9).2⟩
              have hub := byte_of Y2
              go_wp2_with fail
              go_loopw [30] (fun i wx => ∃ k : Nat, k ≤ n ∧ i = .int .i64 (k : Int) ∧ DG w fs cs ga f (.slice (some ⟨bA, 0, none⟩) (n + 1) cA) (.slice (some ⟨bC, 0, none⟩) (m + 1) kC) (.slice xb L zb) L (kn + L) dn2 (.slice k3 (kn + L) kc3) (.slice oa3 dn2 dc3) (.slice wa3 dn2 wc3) wx) (fun i _ => n - (intOf i).toNat)
              case atStart => exact ⟨0, Nat.zero_le _, rfl, HGS.out⟩
              case round =>
                obtain ⟨k, hk, rfl, hdx⟩ := hrel
                have HX : Hid (DG w fs cs ga f (.slice (some ⟨bA, 0, none⟩) (n + 1) cA) (.slice (some ⟨bC, 0, none⟩) (m + 1) kC) (.slice xb L zb) L (kn + L) dn2 (.slice k3 (kn + L) kc3) (.slice oa3 dn2 dc3) (.slice wa3 dn2 wc3) wr) := hdx
                by_cases hkn : k < n
                · obtain ⟨va, len, vc, hlen, hce, hpos⟩ := hdx.file k (by have := HNE.out.1; omega)
                  have HCE : Hid (∀ W, Below wr.heap.size wr W → W.cell? ⟨bA, k * 2 + 1, none⟩ = some (.slice va len vc)) := hce
                  have hlen2 : len ≤ 1000000000 := by
                    have := HN.out.2
                    omega
                  have r0 := hce wr (Below.refl _ _)
                  clear hce hdx hlen
                  by_cases hl0 : 0 < len
                  · obtain ⟨g, rfl, hgw, hgb, hput⟩ := hpos hl0
                    have HPU : Hid (∀ p, p < len → ∀ W, Below wr.heap.size wr W → (∃ z : Int, W.cell? ⟨g, p, none⟩ = some (.int .u8 z)) ∧ W.frozen? ⟨g, p, none⟩ = false ∧ ∀ b : Nat, b < 256 → DG w fs cs ga f (.slice (some ⟨bA, 0, none⟩) (n + 1) cA) (.slice (some ⟨bC, 0, none⟩) (m + 1) kC) (.slice xb L zb) L (kn + L) dn2 (.slice k3 (kn + L) kc3) (.slice oa3 dn2 dc3) (.slice wa3 dn2 wc3) (W.setCell ⟨g, p, none⟩ (.int .u8 (b : Int)))) := hput
                    clear hput hpos
                    obtain ⟨jj, hjj, hsp⟩ := dlspot_any (IntKind.i64.wrap (Y1 + (k : Int))) len hl0 (by omega)
                    obtain ⟨ub2, hub2⟩ := hub
                    have HSP : Hid (∀ W : World, Calls Try.prog 17 #[.int .i64 (IntKind.i64.wrap (Y1 + (k : Int))), .int .i64 (len : Int)] W fun e w' => e = .returned (.int .i64 (jj : Int)) ∧ W = w') := fun W => (hsp W).mono fun e w' ⟨h1, h2⟩ => ⟨h1, h2.symm⟩
                    have HCL : Hid (∀ W, Below wr.heap.size wr W → W.cell? ⟨tb, toff + j * 2, none⟩ = some (.int .i64 Y1) ∧ W.cell? ⟨tb, toff + j * 2 + 1, none⟩ = some (.int .i64 Y2)) := fun W hW => HTC.out.2 W (andThen HX.out.below hW)
                    obtain ⟨r1, r2⟩ := HCL.out wr (Below.refl _ _)
                    obtain ⟨⟨z9, c9⟩, f9, -⟩ := HPU.out jj hjj wr (Below.refl _ _)
                    have HSS : Hid (∀ v, (wr.drew.setCell ⟨g, jj, none⟩ v).cell? ⟨bA, k * 2 + 1, none⟩ = some (.slice (some ⟨g, 0, none⟩) len vc) ∧ (wr.drew.setCell ⟨g, jj, none⟩ v).cell? ⟨tb, toff + j * 2, none⟩ = some (.int .i64 Y1) ∧ (wr.drew.setCell ⟨g, jj, none⟩ v).cell? ⟨tb, toff + j * 2 + 1, none⟩ = some (.int .i64 Y2)) := fun v => by
                      have hd := Below.drew (Below.refl wr.heap.size wr)
                      have h1 := HCE.out _ hd
                      have h2 := HCL.out _ hd
                      have hgt : tb ≠ g := by
                        have := HTC.out.1
                        omega
                      have far : ∀ b, b ≠ g → (wr.drew.setCell ⟨g, jj, none⟩ v).heap[b]? = wr.drew.heap[b]? := fun b hb => set_other _ _ _ _ hb
                      refine ⟨?_, ?_, ?_⟩
                      · exact (cell_blk (far bA (Ne.symm hgb)) _).trans h1
                      · exact (cell_blk (far tb hgt) _).trans h2.1
                      · exact (cell_blk (far tb hgt) _).trans h2.2
                    have HSD : Hid (wr.drew.cell? ⟨bA, k * 2 + 1, none⟩ = some (.slice (some ⟨g, 0, none⟩) len vc) ∧ wr.drew.cell? ⟨tb, toff + j * 2, none⟩ = some (.int .i64 Y1) ∧ wr.drew.cell? ⟨tb, toff + j * 2 + 1, none⟩ = some (.int .i64 Y2)) := ⟨r0, r1, r2⟩
                    clear hsp
                    go_upto_region 44 with fail
                    go_region_held (fun w' => w'.cell? ⟨bA, k * 2 + 1, none⟩ = some (.slice (some ⟨g, 0, none⟩) len vc) ∧ w'.cell? ⟨tb, toff + j * 2, none⟩ = some (.int .i64 Y1) ∧ w'.cell? ⟨tb, toff + j * 2 + 1, none⟩ = some (.int .i64 Y2)) (first | exact HSD.out | exact HSS.out _) (first | (go_at_call 17; refine (HSP.out _).mono ?_; rintro e w' ⟨rfl, rfl⟩))
                    go_wp2_with fail
                    go_roundw
                    case rel =>
                      refine ⟨k + 1, by omega, by go_num, ?_⟩
                      have h9 := (HPU.out jj hjj _ (Below.drew (Below.refl _ _))).2.2 ub2 hub2.1
                      first | exact h9 | (rw [hub2.2]; exact h9)
                    case measure => simp [intOf]; omega
                  · go_wp2_with fail
                    go_roundw
                    case rel => exact ⟨k + 1, by omega, by go_num, HX.out⟩
                    case measure => simp [intOf]; omega
                · go_wp2_with fail
                  go_meet
                  exact HX.out
            · go_wp2_with fail
              go_loopw [30] (fun i wx => i = .int .i64 0 ∧ DG w fs cs ga f (.slice (some ⟨bA, 0, none⟩) (n + 1) cA) (.slice (some ⟨bC, 0, none⟩) (m + 1) kC) (.slice xb L zb) L (kn + L) dn2 (.slice k3 (kn + L) kc3) (.slice oa3 dn2 dc3) (.slice wa3 dn2 wc3) wx) (fun i _ => 0)
              case atStart => exact ⟨rfl, HGS.out⟩
              case round =>
                obtain ⟨rfl, hdx⟩ := hrel
                go_wp2_with fail
                go_meet
                exact hdx
          case rest =>
            have HGT : Hid (DG w fs cs ga f (.slice (some ⟨bA, 0, none⟩) (n + 1) cA) (.slice (some ⟨bC, 0, none⟩) (m + 1) kC) (.slice xb L zb) L (kn + L) dn2 (.slice k3 (kn + L) kc3) (.slice oa3 dn2 dc3) (.slice wa3 dn2 wc3) wc) := hcut
            clear hcut HGS
            go_step
            go_step
            go_cut [] from 216 to 240 (fun wx => DG w fs cs ga f (.slice (some ⟨bA, 0, none⟩) (n + 1) cA) (.slice (some ⟨bC, 0, none⟩) (m + 1) kC) (.slice xb L zb) L (kn + L) dn2 (.slice k3 (kn + L) kc3) (.slice oa3 dn2 dc3) (.slice wa3 dn2 wc3) wx)
            case first =>
              by_cases hjt : j < T
              · by_cases hL0 : 0 < L
                · obtain ⟨tb, toff, Y1, Y2, rfl, HTC⟩ : ∃ (tb toff : Nat) (Y1 Y2 : Int), ta = some ⟨tb, toff, none⟩ ∧ Hid (tb < w.heap.size ∧ ∀ W, Below w.heap.size w W → W.cell? ⟨tb, toff + j * 2, none⟩ = some (.int .i64 Y1) ∧ W.cell? ⟨tb, toff + j * 2 + 1, none⟩ = some (.int .i64 Y2)) := by
                    obtain ⟨a9, c9, e9, -, -, h9⟩ := HT.out w (Below.refl _ _)
                    have hT9 := HNE.out.2.2.1
                    have hj9 : j < ts.length := by omega
                    obtain ⟨tb, toff, e8, h8⟩ := h9 (List.ne_nil_of_length_pos (by omega))
                    simp only [Value.slice.injEq] at e9
                    obtain ⟨rfl, -, -⟩ := e9
                    subst e8
                    refine ⟨tb, toff, ts[j].1, ts[j].2, rfl, World.block_lt_of_cell? _ _ (h8 j hj9).1, fun W hW => ?_⟩
                    exact ⟨(hW.cell (p := ⟨tb, toff + j * 2, none⟩) (World.block_lt_of_cell? _ _ (h8 j hj9).1)).trans (h8 j hj9).1, (hW.cell (p := ⟨tb, toff + j * 2 + 1, none⟩) (World.block_lt_of_cell? _ _ (h8 j hj9).2)).trans (h8 j hj9).2⟩
                  obtain ⟨ub, hub1, hub2⟩ := byte_of Y2
                  obtain ⟨g, rfl, hgw, hput⟩ := HGT.out.buf hL0
                  have HPU : Hid (∀ p, p < L → ∀ W, Below wc.heap.size wc W → (∃ z : Int, W.cell? ⟨g, p, none⟩ = some (.int .u8 z)) ∧ W.frozen? ⟨g, p, none⟩ = false ∧ ∀ b : Nat, b < 256 → DG w fs cs ga f (.slice (some ⟨bA, 0, none⟩) (n + 1) cA) (.slice (some ⟨bC, 0, none⟩) (m + 1) kC) (.slice (some ⟨g, 0, none⟩) L zb) L (kn + L) dn2 (.slice k3 (kn + L) kc3) (.slice oa3 dn2 dc3) (.slice wa3 dn2 wc3) (W.setCell ⟨g, p, none⟩ (.int .u8 (b : Int)))) := hput
                  obtain ⟨jj, hjj, hsp⟩ := dlspot_any Y1 L hL0 (by omega)
                  have HSP : Hid (∀ W : World, Calls Try.prog 17 #[.int .i64 Y1, .int .i64 (L : Int)] W fun e w' => e = .returned (.int .i64 (jj : Int)) ∧ W = w') := fun W => (hsp W).mono fun e w' ⟨h1, h2⟩ => ⟨h1, h2.symm⟩
                  have HCL : Hid (∀ W, Below wc.heap.size wc W → W.cell? ⟨tb, toff + j * 2, none⟩ = some (.int .i64 Y1) ∧ W.cell? ⟨tb, toff + j * 2 + 1, none⟩ = some (.int .i64 Y2)) := fun W hW => HTC.out.2 W (andThen HGT.out.below hW)
                  obtain ⟨r1, r2⟩ := HCL.out wc (Below.refl _ _)
                  obtain ⟨⟨z9, c9⟩, f9, -⟩ := HPU.out jj hjj wc (Below.refl _ _)
                  have HSS : Hid (∀ v, (wc.drew.setCell ⟨g, jj, none⟩ v).cell? ⟨tb, toff + j * 2, none⟩ = some (.int .i64 Y1) ∧ (wc.drew.setCell ⟨g, jj, none⟩ v).cell? ⟨tb, toff + j * 2 + 1, none⟩ = some (.int .i64 Y2)) := fun v => by
                    have h2 := HCL.out _ (Below.drew (Below.refl wc.heap.size wc))
                    have hgt : tb ≠ g := by
                      have := HTC.out.1
                      omega
                    have far : ∀ b, b ≠ g → (wc.drew.setCell ⟨g, jj, none⟩ v).heap[b]? = wc.drew.heap[b]? := fun b hb => set_other _ _ _ _ hb
                    exact ⟨(cell_blk (far tb hgt) _).trans h2.1, (cell_blk (far tb hgt) _).trans h2.2⟩
                  have HSD : Hid (wc.drew.cell? ⟨tb, toff + j * 2, none⟩ = some (.int .i64 Y1) ∧ wc.drew.cell? ⟨tb, toff + j * 2 + 1, none⟩ = some (.int .i64 Y2)) := ⟨r1, r2⟩
                  clear hsp hput
                  go_upto_region 46 with fail
                  go_region_held (fun w' => w'.cell? ⟨tb, toff + j * 2, none⟩ = some (.int .i64 Y1) ∧ w'.cell? ⟨tb, toff + j * 2 + 1, none⟩ = some (.int .i64 Y2)) (first | exact HSD.out | exact HSS.out _) (first | (go_at_call 17; refine (HSP.out _).mono ?_; rintro e w' ⟨rfl, rfl⟩))
                  go_wp2_with fail
                  go_meet
                  have h9 := (HPU.out jj hjj _ (Below.drew (Below.refl _ _))).2.2 ub hub1
                  first | exact h9 | (rw [hub2]; exact h9)
                · go_wp2_with fail
                  go_meet
                  exact HGT.out
              · go_wp2_with fail
                go_meet
                exact HGT.out
            case rest =>
              have HGU : Hid (DG w fs cs ga f (.slice (some ⟨bA, 0, none⟩) (n + 1) cA) (.slice (some ⟨bC, 0, none⟩) (m + 1) kC) (.slice xb L zb) L (kn + L) dn2 (.slice k3 (kn + L) kc3) (.slice oa3 dn2 dc3) (.slice wa3 dn2 wc3) wc) := hcut
              clear hcut HGT
              go_wp2_with fail
              go_loopw [32] (fun i wx => ∃ k : Nat, k ≤ dn2 ∧ i = .int .i64 (k : Int) ∧ DG w fs cs ga f (.slice (some ⟨bA, 0, none⟩) (n + 1) cA) (.slice (some ⟨bC, 0, none⟩) (m + 1) kC) (.slice xb L zb) L (kn + L) dn2 (.slice k3 (kn + L) kc3) (.slice oa3 dn2 dc3) (.slice wa3 dn2 wc3) wx) (fun i _ => dn2 - (intOf i).toNat)
              case atStart => exact ⟨0, Nat.zero_le _, rfl, HGU.out⟩
              case round =>
                obtain ⟨k, hk, rfl, hdx⟩ := hrel
                have HX : Hid (DG w fs cs ga f (.slice (some ⟨bA, 0, none⟩) (n + 1) cA) (.slice (some ⟨bC, 0, none⟩) (m + 1) kC) (.slice xb L zb) L (kn + L) dn2 (.slice k3 (kn + L) kc3) (.slice oa3 dn2 dc3) (.slice wa3 dn2 wc3) wr) := hdx
                by_cases hkd : k < dn2
                · obtain ⟨bd, bw, g, xa, xn, xc, rfl, rfl, hsp⟩ := hdx.disk k hkd
                  have HKD : Hid (∀ W, Below wr.heap.size wr W → Calls Try.prog 18 #[.pointer (some ⟨g, 0, none⟩)] W fun e w' => ∃ v, e = .returned v ∧ Below W.heap.size W w' ∧ ∀ W2, Below w'.heap.size w' W2 → Calls Try.prog 10 #[v, .slice xa xn xc] W2 fun e w'' => e = .returned (.bool true) ∧ Below W2.heap.size W2 w'') := fun W hW => (hsp W hW).2.2
                  have HKC : Hid (∀ W, Below wr.heap.size wr W → W.cell? ⟨bd, k, none⟩ = some (.pointer (some ⟨g, 0, none⟩)) ∧ W.cell? ⟨bw, k, none⟩ = some (.slice xa xn xc)) := fun W hW => ⟨(hsp W hW).1, (hsp W hW).2.1⟩
                  obtain ⟨c1, c2⟩ := HKC.out wr (Below.refl _ _)
                  have HDW : Hid (Below wr.heap.size wr wr.drew) := Below.drew (Below.refl _ _)
                  clear hsp hdx
                  go_upto_region 50 with fail
                  go_region_held (fun w' => w'.cell? ⟨bd, k, none⟩ = some (.pointer (some ⟨g, 0, none⟩)) ∧ w'.cell? ⟨bw, k, none⟩ = some (.slice xa xn xc)) (first | (exact HKC.out _ HDW.out) | (exact HKC.out _ (andThen HDW.out bx)) | (exact HKC.out _ (andThen HDW.out (andThen bx bz)))) (first | (go_at_call 18; refine (HKD.out _ HDW.out).mono ?_; rintro e Wx ⟨vx, rfl, bx, hfx⟩) | (go_at_call 10; refine (hfx _ (Below.refl _ _)).mono ?_; rintro e Wz ⟨rfl, bz⟩))
                  go_wp2_with fail
                  go_roundw
                  case rel => exact ⟨k + 1, by omega, by go_num, HX.out.kept (andThen HDW.out (andThen bx bz))⟩
                  case measure => simp [intOf]; omega
                · have HBH : Hid (Calls Try.prog 19 #[.slice (some ⟨bA, 0, none⟩) (n + 1) cA, .int .i64 (n : Int), .slice (some ⟨bC, 0, none⟩) (m + 1) kC, .int .i64 (m : Int)] wr fun e w' => e = .returned (.bool true) ∧ wr = w') := (HX.out.beh HNE.out.1 HNE.out.2.1 hn hcl).mono fun e w' ⟨h1, h2⟩ => ⟨h1, h2.symm⟩
                  clear hdx
                  go_wp2_with fail
                  refine HBH.out.mono ?_
                  rintro e Wz ⟨rfl, rfl⟩
                  go_wp2_with fail
                  go_roundw
                  case rel =>
                    refine ⟨j + 1, kn + L, dn2, k3, kc3, oa3, dc3, wa3, wc3, by omega, by omega, by go_num, rfl, rfl, rfl, by omega, ?_, HX.out⟩
                    have h9 := HKN.out
                    show kn + L = 1 + (j + 1) * L
                    rw [Nat.add_mul, Nat.one_mul]
                    omega
                  case measure => simp [intOf]; omega
      · go_wp2_with fail
        go_returns
        exact ⟨rfl, HG.out.choose_spec.choose_spec.choose_spec.choose_spec.choose_spec.choose_spec.choose_spec.2.2.2.2.2.2.2⟩
    · go_wp2_with fail
      go_returns
      exact ⟨rfl, HG.out.choose_spec.choose_spec.choose_spec.choose_spec.choose_spec.choose_spec.choose_spec.2.2.2.2.2.2.2⟩
end Go.Proofs.Ytgdfnlbiminblaa
