import Derived.Deep.CutRange
import Derived.Test.YtceokpklcfmadaaQM2
import Derived.Test.YtceokpklcfmadaaQE3
/-
  IndexMany: the walk.
-/
namespace Go.Proofs.Ytceokpklcfmadaa
open Go Go.RowKit Go.ChangeShapes
open Wb

/-- the container under way -/
structure MS (w : World) (g b base c : Nat) (kvs : Ix.Gm) (W : World) : Prop where
  mi : MI W g b base c kvs
  bel : Below w.heap.size w W
  mr : ∀ q, Mrow W b q → w.heap.size ≤ q
  hb : w.heap.size ≤ b
section
variable {w : World} {g b base c : Nat} {kvs : Ix.Gm} {W W' : World}
theorem MS.kept (h : MS w g b base c kvs W) (hb : Below W.heap.size W W') : MS w g b base c kvs W' := ⟨h.mi.kept hb, andThen h.bel hb, fun q hq => h.mr q (hq.same (hb.block b h.mi.blt.2)), h.hb⟩
theorem MS.add (h : MS w g b base c kvs W) {kvs' : Ix.Gm} {c' : Nat} (hm : MI W' g b base c' kvs') (hf : IFr W W' (fun q => q = b ∨ Mrow W b q)) (hM : ∀ q, Mrow W' b q → Mrow W b q ∨ W.heap.size ≤ q) : MS w g b base c' kvs' W' :=
  ⟨hm, h.bel.trans (hf.below _ h.bel.size fun k hk => hk.elim (fun e => by rw [e]; exact h.hb) (h.mr k)), fun q hq => (hM q hq).elim (h.mr q) (Nat.le_trans h.bel.size), h.hb⟩
theorem MS.drop (h : MS w g b base c kvs W) {kvs' : Ix.Gm} {c' : Nat} (hm : MI W' g b base c' kvs') (hf : IFr W W' (fun q => q = b)) (hM : ∀ q, Mrow W' b q → Mrow W b q) : MS w g b base c' kvs' W' :=
  ⟨hm, h.bel.trans (hf.below _ h.bel.size fun k hk => by rw [hk]; exact h.hb), fun q hq => h.mr q (hM q hq), h.hb⟩
/-- another container stays where one drops a key -/
theorem MI.undropped {gy bY basey cy : Nat} {kvs2 : Ix.Gm} (hx : MI W g b base c kvs) (hy : MI W gy bY basey cy kvs2) (hne : bY ≠ b) (hf : IFr W W' (fun q => q = b)) : MI W' gy bY basey cy kvs2 := by
  obtain ⟨es9, clock, hb9, -⟩ := hx.map
  refine hy.off hf.size (hf.block gy hy.box.lt fun e => ?_) (hf.block bY hy.blt.2 hne) fun k hk => hf.block k (hy.row hk).2 fun e => ?_
  · subst e
    have hL := hy.box
    unfold LB at hL
    rw [hb9] at hL
    cases hL
  · subst e
    obtain ⟨cs2, z2, h4⟩ := hy.rowTI hk
    rw [hb9] at h4
    cases h4
end
theorem wf_of_b {x : Int} (h1 : -9223372036854775808 ≤ x) (h2 : x ≤ 9223372036854775807) : (Lit.int .i64 x).wf = true := by
  simp [Lit.wf, IntKind.min, IntKind.max, IntKind.signed, IntKind.bits]
  omega
theorem many_enc {g b base N step cnt m : Nat} {w : World} (h : MI w g b base N (Ix.tl step cnt m)) (h2 : 1 ≤ step) (h3 : step ≤ 2) (h4 : cnt ≤ 3000) (h5 : 1 ≤ m) (h6 : m ≤ 400) (h7 : cnt * m ≤ 20000) (hn : N < 1000000000) :
    Calls Try.prog 24 #[.pointer (some ⟨g, 0, none⟩)] w fun e w' => ∃ ad, ∃ c : Nat, e = .returned (.tuple #[.slice ad (Ix.wrI (Ix.tle step cnt m)).length c, .int .i64 0]) ∧ Bs w' (.slice ad (Ix.wrI (Ix.tle step cnt m)).length c) (Ix.wrI (Ix.tle step cnt m)) ∧ Below w.heap.size w w' := by
  have hk := Ix.tle_ok step cnt m h2 h3 h4 h5 (by omega)
  obtain ⟨k, o, hF⟩ := Ix.encode_fwd (Ix.tle step cnt m) hk
  rw [← Ix.gm_tle] at h
  refine (ixenc_any g b base N _ w h (by rw [Ix.gm_tle, Ix.tl_len]; omega) (by rw [Ix.gm_allE _ hk, Ix.prs_len, Ix.gm_tle, Ix.tl_total]; omega) hn).mono fun e w' ⟨hbl, hc⟩ => ?_
  rcases hc with ⟨s, e1, ad, mm, c, e2, e3⟩ | ⟨er, pre, e1, e2, -⟩
  · rw [hF] at e1
    cases e1
    obtain ⟨ad9, c9, e9, -⟩ := e3.bs.shape
    rw [e9] at e2 e3
    exact ⟨ad9, c9, e2, e3.bs, hbl⟩
  · rw [Ix.encF_error _ _ pre e1 er e2] at hF
    cases hF
theorem many_dec {step cnt m : Nat} {v : Value} {w : World} (hv : Bs w v (Ix.wrI (Ix.tle step cnt m))) (h2 : 1 ≤ step) (h3 : step ≤ 2) (h4 : cnt ≤ 3000) (h5 : 1 ≤ m) (h6 : m ≤ 400) (h7 : cnt * m ≤ 20000) :
    Calls Try.prog 25 #[v] w fun e w' => ∃ g b base N, e = .returned (.tuple #[.pointer (some ⟨g, 0, none⟩), .int .i64 0]) ∧ MI w' g b base N (Ix.tl step cnt m) ∧ N < 1000000000 ∧ w.heap.size ≤ b ∧ Below w.heap.size w w' := by
  have hk := Ix.tle_ok step cnt m h2 h3 h4 h5 (by omega)
  have hlen := Ix.wrI_tle step cnt m h2 h3 h4 h5 h6 h7
  refine (ixdec_any v _ w hv (by omega)).mono fun e w' hD => ?_
  unfold DcPost at hD
  rw [Ix.decode_fwd _ hk (by rw [(Ix.tle_len step cnt m).1]; omega) (fun q hq => by rw [(Ix.tle_len step cnt m).2 q hq]; omega), Ix.gm_tle] at hD
  rcases hD with ⟨-, g5, b5, base5, n5, e1, e2, e3, e4, e5⟩ | ⟨h0, -⟩
  · exact ⟨g5, b5, base5, n5, e1, e2, by omega, e3, e5⟩
  · exact absurd rfl h0
set_option maxRecDepth 100000 in
set_option maxHeartbeats 8000000 in
theorem indexMany_walk (n0 m0 : Int) (w : World) (_hn0 : (Lit.int .i64 n0).wf = true) (_hm0 : (Lit.int .i64 m0).wf = true) :
    Calls Try.prog 4 #[.int .i64 n0, .int .i64 m0] w fun e w' => e = .returned (.bool true) ∧ Below w.heap.size w w' := by
  clear _hn0 _hm0
  obtain ⟨n, hn, hn1, hn2⟩ : ∃ n : Nat, min (max n0 1) 3000 = (n : Int) ∧ 1 ≤ n ∧ n ≤ 3000 := ⟨(min (max n0 1) 3000).toNat, by omega, by omega, by omega⟩
  obtain ⟨q, hq, hq1, hq2⟩ : ∃ q : Nat, (20000 : Int) / (n : Int) = (q : Int) ∧ 1 ≤ q ∧ n * q ≤ 20000 := ⟨20000 / n, by simp, (Nat.le_div_iff_mul_le (by omega)).2 (by omega), Nat.mul_div_le 20000 n⟩
  have HZ : Hid (∀ z : Int, 1 ≤ z → z ≤ 400 → z ≤ (q : Int) → ∃ m : Nat, (Value.int .i64 z) = .int .i64 (m : Int) ∧ 1 ≤ m ∧ m ≤ 400 ∧ n * m ≤ 20000) := fun z h1 h2 h3 => ⟨z.toNat, by congr 1; omega, by omega, by omega, Nat.le_trans (Nat.mul_le_mul_left n (show z.toNat ≤ q by omega)) hq2⟩
  clear hq2
  go_enter Try.func4, Try.ntmps4
  go_upto_region 2 with fail
  go_cut [1] from 18 to 22 (fun s1 wx => (∃ m : Nat, s1 = .int .i64 (m : Int) ∧ 1 ≤ m ∧ m ≤ 400 ∧ n * m ≤ 20000) ∧ wx = w)
  case first =>
    go_wp2_with fail
    all_goals go_meet
    all_goals exact ⟨HZ.out _ (by omega) (by omega) (by omega), rfl⟩
  case rest =>
    obtain ⟨⟨m, rfl, hm1, hm2, hnm⟩, hwc⟩ := hcut
    rw [hwc]
    clear hwc hq hq1 HZ hn
    have HNM : Hid (n * m ≤ 20000) := hnm
    obtain ⟨tt, htt⟩ : ∃ tt, tt = n * m := ⟨_, rfl⟩
    have htb : tt ≤ 20000 := by omega
    have hwt : IntKind.i64.wrap ((n : Int) * (m : Int)) = (tt : Int) := by
      have e9 : (n : Int) * (m : Int) = (tt : Int) := by rw [htt]; simp
      rw [e9, IntWalk.i64_in _ (by omega)]
    have hdt : ((tt : Int) != (tt : Int)) = false := by simp
    have HTT : Hid (tt = n * m) := htt
    have HT1 : Hid (∀ (W : World) (g b base N : Nat), MI W g b base N (Ix.tl 1 n m) → N < 1000000000 → Calls Try.prog 26 #[.pointer (some ⟨g, 0, none⟩), .int .i64 (n : Int), .int .i64 (m : Int), .int .i64 1] W fun e w' => e = .returned (.bool true) ∧ Below W.heap.size W w') := fun W g b base N hM hN => ixtold_any g b base N n m 1 n W hM hN (by omega) (by omega) (by rw [Nat.div_one]) hn1 hn2 hm1 hm2 HNM.out
    have HT2 : Hid (∀ (W : World) (g b base N : Nat), MI W g b base N (Ix.tl 2 (n / 2) m) → N < 1000000000 → Calls Try.prog 26 #[.pointer (some ⟨g, 0, none⟩), .int .i64 (n : Int), .int .i64 (m : Int), .int .i64 2] W fun e w' => e = .returned (.bool true) ∧ Below W.heap.size W w') := fun W g b base N hM hN => ixtold_any g b base N n m 2 (n / 2) W hM hN (by omega) (by omega) rfl hn1 hn2 hm1 hm2 HNM.out
    have hn2m : n / 2 * m ≤ 20000 := Nat.le_trans (Nat.mul_le_mul_right m (Nat.div_le_self n 2)) hnm
    have HN2M : Hid (n / 2 * m ≤ 20000 ∧ n / 2 ≤ 3000) := ⟨hn2m, by omega⟩
    clear htt hnm hn2m
    go_wp2_with fail
    refine (ixnew_any w).mono ?_
    rintro e W1 ⟨rfl, m1, b1, hn1'⟩
    obtain ⟨g, hg⟩ : ∃ g, g = w.heap.size + 1 := ⟨_, rfl⟩
    obtain ⟨base, hbase⟩ : ∃ x, x = w.heap.size + 2 := ⟨_, rfl⟩
    obtain ⟨b, hb⟩ : ∃ x, x = w.heap.size := ⟨_, rfl⟩
    rw [← hg, ← hbase] at m1
    rw [← hg]
    have H1 : Hid (MS w g b base 0 (Ix.mst n 0 n) W1) := by
      rw [Ix.mst_begin, hb]
      exact ⟨m1, b1, fun q hq => absurd hq (hn1' q), Nat.le_refl _⟩
    clear m1 b1 hn1' hg hbase hb
    go_wp2_with fail
    go_loopw [6] (fun i wr => ∃ k : Nat, ∃ c : Nat, k ≤ m ∧ i = .int .i64 (k : Int) ∧ c ≤ 3001 * k ∧ MS w g b base c (Ix.mst n k n) wr) (fun i _ => m - (intOf i).toNat)
    case atStart => exact ⟨0, 0, Nat.zero_le _, rfl, Nat.zero_le _, H1.out⟩
    case round =>
      clear H1
      obtain ⟨k, c, hk, rfl, hc, hs⟩ := hrel
      have HS : Hid (MS w g b base c (Ix.mst n k n) wr) := hs
      clear hs
      by_cases hlt : k < m
      · have hdk : ((k : Int) < (m : Int)) = True := by simp; omega
        have hw7 : IntKind.i64.wrap (7 * (k : Int)) = 7 * (k : Int) := IntWalk.i64_in _ (by omega)
        go_wp2_with fail
        go_loopw [7] (fun i2 wr2 => ∃ i : Nat, ∃ c2 : Nat, i ≤ n ∧ i2 = .int .i64 (i : Int) ∧ c2 ≤ 3001 * k + (n - i) ∧ MS w g b base c2 (Ix.mst n k i) wr2) (fun i2 _ => (intOf i2).toNat)
        case atStart => exact ⟨n, c, Nat.le_refl _, rfl, by omega, HS.out⟩
        case round =>
          clear HS
          obtain ⟨i, c2, hi, rfl, hc2, hs⟩ := hrel
          have HS2 : Hid (MS w g b base c2 (Ix.mst n k i) wr) := hs
          clear hs
          by_cases hi0 : 0 < i
          · obtain ⟨j, rfl⟩ : ∃ j, i = j + 1 := ⟨i - 1, by omega⟩
            obtain ⟨i, hie⟩ : ∃ i, i = j + 1 := ⟨_, rfl⟩
            have HAD : Hid (Calls Try.prog 11 #[.pointer (some ⟨g, 0, none⟩), .int .i64 (3 * (i : Int)), .int .i64 (7 * (k : Int) + (i : Int))] wr fun e w' => e = .returned (.tuple #[]) ∧ MS w g b base (c2 + 1) (Ix.mst n k j) w') := by
              rw [hie]
              have h9 := ixadd_any g b base c2 (Ix.mst n k (j + 1)) (3 * ((j + 1 : Nat) : Int)) (7 * (k : Int) + ((j + 1 : Nat) : Int)) wr HS2.out.mi (wf_of_b (by omega) (by omega)) (wf_of_b (by omega) (by omega)) (by omega)
              rw [Ix.mst_step n k j (by omega)] at h9
              exact h9.mono fun e w' ⟨h1, h2, h3, h4⟩ => ⟨h1, HS2.out.add h2 h3 h4⟩
            rw [← hie]
            have hgi : ((0 : Int) < (i : Int)) = True := by simp; omega
            have hw3 : IntKind.i64.wrap (3 * (i : Int)) = 3 * (i : Int) := IntWalk.i64_in _ (by omega)
            have hw8 : IntKind.i64.wrap (7 * (k : Int) + (i : Int)) = 7 * (k : Int) + (i : Int) := IntWalk.i64_in _ (by omega)
            have hwj : IntKind.i64.wrap ((i : Int) - 1) = (j : Int) := by rw [IntWalk.i64_in _ (by omega)]; omega
            have HIE : Hid (i = j + 1) := hie
            have hin : i ≤ n := by omega
            have hmea : j < i := by omega
            clear hie hi hi0 HS2
            go_wp2_with fail
            refine HAD.out.mono ?_
            rintro e W3 ⟨rfl, s3⟩
            have H3 : Hid (MS w g b base (c2 + 1) (Ix.mst n k j) W3) := s3
            clear s3 HAD
            go_wp2_with fail
            go_roundw
            case rel => exact ⟨j, c2 + 1, by omega, rfl, by have := HIE.out; omega, H3.out⟩
            case measure => simp [intOf]; omega
          · obtain rfl : i = 0 := by omega
            have HS3 : Hid (MS w g b base c2 (Ix.mst n (k + 1) n) wr) := by
              rw [← Ix.mst_zero]
              exact HS2.out
            clear HS2
            go_wp2_with fail
            go_roundw
            case rel => exact ⟨k + 1, c2, by omega, by go_num, by omega, HS3.out⟩
            case measure => simp [intOf]; omega
      · obtain rfl : m = k := by omega
        have HX : Hid (MS w g b base c (Ix.tl 1 n m) wr) := by
          have h9 := HS.out
          rw [Ix.mst_end n m hm1, ← Ix.tl_one] at h9
          exact h9
        have hcb : c < 900000000 := by omega
        have hdk : ((m : Int) < (m : Int)) = False := by simp
        clear HS hlt hk hc
        go_wp2_with fail
        refine (many_enc HX.out.mi (by omega) (by omega) hn2 hm1 hm2 HNM.out (by omega)).mono ?_
        rintro e V1 ⟨ad1, c1, rfl, s1, f1⟩
        have HV1 : Hid (MS w g b base c (Ix.tl 1 n m) V1 ∧ Bs V1 (.slice ad1 (Ix.wrI (Ix.tle 1 n m)).length c1) (Ix.wrI (Ix.tle 1 n m))) := ⟨HX.out.kept f1, s1⟩
        clear s1 f1 HX
        go_wp2_with fail
        refine (many_dec HV1.out.2 (by omega) (by omega) hn2 hm1 hm2 HNM.out).mono ?_
        rintro e V2 ⟨gy, bY, bsy, Ny, rfl, my, hNy, hby, f2⟩
        have HV2 : Hid (MS w g b base c (Ix.tl 1 n m) V2 ∧ MI V2 gy bY bsy Ny (Ix.tl 1 n m) ∧ bY ≠ b) := ⟨HV1.out.1.kept f2, my, by have := HV1.out.1.mi.blt.2; omega⟩
        clear my hby f2 HV1
        have HLE : Hid (Calls Try.prog 14 #[.pointer (some ⟨g, 0, none⟩)] V2 fun e w' => e = .returned (.int .i64 (tt : Int)) ∧ Below V2.heap.size V2 w') := by
          have h9 := ixlen_any g b base c (Ix.tl 1 n m) V2 HV2.out.1.mi (by rw [Ix.tl_total]; have := HNM.out; omega)
          rw [Ix.tl_total, ← HTT.out] at h9
          exact h9
        go_wp2_with fail
        refine HLE.out.mono ?_
        rintro e V3 ⟨rfl, f3⟩
        have HV3 : Hid (MS w g b base c (Ix.tl 1 n m) V3 ∧ MI V3 gy bY bsy Ny (Ix.tl 1 n m) ∧ bY ≠ b) := ⟨HV2.out.1.kept f3, HV2.out.2.1.kept f3, HV2.out.2.2⟩
        clear f3 HV2 HLE
        go_wp2_with fail
        refine (HT1.out V3 g b base c HV3.out.1.mi (by omega)).mono ?_
        rintro e V4 ⟨rfl, f4⟩
        have HV4 : Hid (MS w g b base c (Ix.tl 1 n m) V4 ∧ MI V4 gy bY bsy Ny (Ix.tl 1 n m) ∧ bY ≠ b) := ⟨HV3.out.1.kept f4, HV3.out.2.1.kept f4, HV3.out.2.2⟩
        clear f4 HV3
        go_wp2_with fail
        refine (HT1.out V4 gy bY bsy Ny HV4.out.2.1 hNy).mono ?_
        rintro e V5 ⟨rfl, f5⟩
        have HV5 : Hid (MS w g b base c (Ix.mdr n m 1) V5 ∧ MI V5 gy bY bsy Ny (Ix.tl 1 n m) ∧ bY ≠ b) := by
          rw [Ix.mdr_begin, ← Ix.tl_one]
          exact ⟨HV4.out.1.kept f5, HV4.out.2.1.kept f5, HV4.out.2.2⟩
        clear f5 HV4
        go_wp2_with fail
        go_loopw [12] (fun i wr => ∃ i' : Nat, i' % 2 = 1 ∧ i' ≤ n + 2 ∧ i = .int .i64 (i' : Int) ∧ MS w g b base c (Ix.mdr n m i') wr ∧ MI wr gy bY bsy Ny (Ix.tl 1 n m) ∧ bY ≠ b) (fun i _ => n + 2 - (intOf i).toNat)
        case atStart => exact ⟨1, rfl, by omega, rfl, HV5.out⟩
        case round =>
          clear HV5
          obtain ⟨i, hi2, hi3, rfl, hs⟩ := hrel
          have HS5 : Hid (MS w g b base c (Ix.mdr n m i) wr ∧ MI wr gy bY bsy Ny (Ix.tl 1 n m) ∧ bY ≠ b) := hs
          clear hs
          by_cases hin : i ≤ n
          · have hdi : ((i : Int) ≤ (n : Int)) = True := by simp; omega
            have hw3 : IntKind.i64.wrap (3 * (i : Int)) = 3 * (i : Int) := IntWalk.i64_in _ (by omega)
            have hdm : ((m : Int) != (m : Int)) = false := by simp
            have HDR : Hid (Calls Try.prog 15 #[.pointer (some ⟨g, 0, none⟩), .int .i64 (3 * (i : Int))] wr fun e w' => e = .returned (.int .i64 (m : Int)) ∧ MS w g b base c (Ix.mdr n m (i + 2)) w' ∧ MI w' gy bY bsy Ny (Ix.tl 1 n m) ∧ bY ≠ b) := by
              have h9 := ixdrop_any g b base c (Ix.mdr n m i) (3 * (i : Int)) wr HS5.out.1.mi (wf_of_b (by omega) (by omega)) (by omega)
              rw [Ix.mdr_get n m i (by omega) hin, Ix.vs_len, Ix.mdr_step n m i hi2] at h9
              exact h9.mono fun e w' ⟨h1, h2, h3, h4⟩ => ⟨h1, HS5.out.1.drop h2 h3 h4, HS5.out.1.mi.undropped HS5.out.2.1 HS5.out.2.2 h3, HS5.out.2.2⟩
            have hi2' : Hid (i % 2 = 1) := hi2
            clear HS5 hi2
            go_wp2_with fail
            refine HDR.out.mono ?_
            rintro e V6 ⟨rfl, s6⟩
            have H6 : Hid (MS w g b base c (Ix.mdr n m (i + 2)) V6 ∧ MI V6 gy bY bsy Ny (Ix.tl 1 n m) ∧ bY ≠ b) := s6
            clear s6 HDR
            go_wp2_with fail
            go_roundw
            case rel => exact ⟨i + 2, by have := hi2'.out; omega, by omega, by go_num, H6.out⟩
            case measure => simp [intOf]; omega
          · have hdi : ((i : Int) ≤ (n : Int)) = False := eq_false (by omega)
            have HX2 : Hid (MS w g b base c (Ix.tl 2 (n / 2) m) wr ∧ MI wr gy bY bsy Ny (Ix.tl 1 n m)) := by
              have h9 := HS5.out.1
              rw [Ix.mdr_end n m i (by omega)] at h9
              exact ⟨h9, HS5.out.2.1⟩
            clear HS5 hi2 hi3 hin
            go_wp2_with fail
            refine (many_enc HX2.out.1.mi (by omega) (by omega) HN2M.out.2 hm1 hm2 HN2M.out.1 (by omega)).mono ?_
            rintro e V7 ⟨ad7, c7, rfl, s7, f7⟩
            have HV7 : Hid (MS w g b base c (Ix.tl 2 (n / 2) m) V7 ∧ MI V7 gy bY bsy Ny (Ix.tl 1 n m) ∧ Bs V7 (.slice ad7 (Ix.wrI (Ix.tle 2 (n / 2) m)).length c7) (Ix.wrI (Ix.tle 2 (n / 2) m))) := ⟨HX2.out.1.kept f7, HX2.out.2.kept f7, s7⟩
            clear s7 f7 HX2
            go_wp2_with fail
            refine (many_dec HV7.out.2.2 (by omega) (by omega) HN2M.out.2 hm1 hm2 HN2M.out.1).mono ?_
            rintro e V8 ⟨gz, bz, bsz, Nz, rfl, mz, hNz, -, f8⟩
            have HV8 : Hid (MS w g b base c (Ix.tl 2 (n / 2) m) V8 ∧ MI V8 gy bY bsy Ny (Ix.tl 1 n m) ∧ MI V8 gz bz bsz Nz (Ix.tl 2 (n / 2) m)) := ⟨HV7.out.1.kept f8, HV7.out.2.1.kept f8, mz⟩
            clear mz f8 HV7
            by_cases hn1' : n = 1
            · have hlen : (Ix.wrI (Ix.tle 2 (n / 2) m)).length = 1 := by
                subst hn1'
                rfl
              have hde : ((n : Int) == 1) = true := by simp; omega
              have HLE : Hid (Calls Try.prog 14 #[.pointer (some ⟨gz, 0, none⟩)] V8 fun e w' => e = .returned (.int .i64 0) ∧ Below V8.heap.size V8 w') := by
                have h9 := ixlen_any gz bz bsz Nz (Ix.tl 2 (n / 2) m) V8 HV8.out.2.2 (by rw [Ix.tl_total]; have := HN2M.out.1; omega)
                have e9 : n / 2 * m = 0 := by
                  subst hn1'
                  simp
                rw [Ix.tl_total, e9] at h9
                exact h9
              rw [hlen]
              clear hn1'
              go_wp2_with fail
              refine HLE.out.mono ?_
              rintro e V9 ⟨rfl, f9⟩
              have H9 : Hid (Below w.heap.size w V9) := andThen HV8.out.1.bel f9
              clear f9 HV8 HLE
              go_wp2_with fail
              go_returns
              exact ⟨rfl, H9.out⟩
            · have hde : ((n : Int) == 1) = false := by simp; omega
              go_wp2_with fail
              refine (HT2.out V8 g b base c HV8.out.1.mi (by omega)).mono ?_
              rintro e V9 ⟨rfl, f9⟩
              have HV9 : Hid (Below w.heap.size w V9 ∧ MI V9 gy bY bsy Ny (Ix.tl 1 n m) ∧ MI V9 gz bz bsz Nz (Ix.tl 2 (n / 2) m)) := ⟨andThen HV8.out.1.bel f9, HV8.out.2.1.kept f9, HV8.out.2.2.kept f9⟩
              clear f9 HV8
              go_wp2_with fail
              refine (HT2.out V9 gz bz bsz Nz HV9.out.2.2 hNz).mono ?_
              rintro e V10 ⟨rfl, f10⟩
              have HV10 : Hid (Below w.heap.size w V10 ∧ MI V10 gy bY bsy Ny (Ix.tl 1 n m)) := ⟨andThen HV9.out.1 f10, HV9.out.2.1.kept f10⟩
              clear f10 HV9
              go_wp2_with fail
              refine (HT1.out V10 gy bY bsy Ny HV10.out.2 hNy).mono ?_
              rintro e V11 ⟨rfl, f11⟩
              have H11 : Hid (Below w.heap.size w V11) := andThen HV10.out.1 f11
              clear f11 HV10
              go_wp2_with fail
              go_returns
              exact ⟨rfl, H11.out⟩
end Go.Proofs.Ytceokpklcfmadaa
