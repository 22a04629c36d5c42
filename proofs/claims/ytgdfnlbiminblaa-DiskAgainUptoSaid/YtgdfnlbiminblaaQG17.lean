import Derived.Test.YtgdfnlbiminblaaQG16
/-
  The document's disk: Crash.
-/
namespace Go.Proofs.Ytgdfnlbiminblaa
open Go Go.RowKit Go.ChangeShapes
open Wb
open Rd
namespace Rd
theorem chd_len (l : Dk.Nm) (c : RCh) : (chd l c).length ≤ l.length + 1 := by
  unfold chd
  split
  · exact Dk.len_put _ _ _
  · split
    · have h1 := Dk.len_put (Dk.del l c.a) c.b ((Dk.get l c.a).getD 0)
      have h2 := Dk.len_del l c.a
      omega
    · have h2 := Dk.len_del l c.a
      omega
theorem chs_len : ∀ (cs : List RCh) (l : Dk.Nm), (chs l cs).length ≤ l.length + cs.length
  | [], l => by
    show l.length ≤ _
    simp
  | c :: cs, l => by
    have h1 := chs_len cs (chd l c)
    have h2 := chd_len l c
    show (chs (chd l c) cs).length ≤ _
    rw [List.length_cons]
    omega
/-- what Crash needs of the changes -/
structure Chg (R : RS) : Prop where
  two : ∀ k c, R.ch[k]? = some c → c.k = 2 → ∃ i, Dk.get (chs R.la (R.ch.take k)) c.a = some i
  ok : ∀ k, okl R.th (chs R.la (R.ch.take k))
theorem CR.two {th : List Th} {φ : Nat → Nat} : ∀ {cs : List RCh} {ds : List Dk.Ch} {l : Dk.Nm}, CR th φ l cs ds → ∀ k c, cs[k]? = some c → c.k = 2 → ∃ i, Dk.get (chs l (cs.take k)) c.a = some i
  | [], [], _, _, k, c, hc, _ => by simp at hc
  | c' :: cs, d :: ds, l, h, 0, c, hc, h2 => by
    have e : c' = c := by simpa using hc
    subst e
    rcases h.1 with ⟨hk, -⟩ | ⟨-, ⟨i, hg, -⟩, -⟩ | ⟨hk, -⟩
    · omega
    · exact ⟨i, hg⟩
    · omega
  | c' :: cs, d :: ds, l, h, k + 1, c, hc, h2 => by
    rw [List.take_succ_cons]
    exact CR.two h.2 k c (by simpa using hc) h2
  | [], _ :: _, _, h, _, _, _, _ => h.elim
  | _ :: _, [], _, h, _, _, _, _ => h.elim
theorem Rl.chg {S : Dk.DS} {R : RS} (h : Rl S R) : Chg R := ⟨h.ch.two, fun k => (h.ch.take h.ok k).2⟩
end Rd
set_option maxRecDepth 100000 in
set_option maxHeartbeats 16000000 in
theorem rkcrash_any (ok : Nat → Prop) (R : RS) (v : Value) (keep : Int) (cv : Value) (cs : List (Int × Int)) (w : World) (h : RdM ok w R v) (hcs : CtS w cv cs) (hl : R.la.length + R.ch.length ≤ 200000000) (hok : Chg R) (hln : ∀ t ∈ R.th, t.syn ≤ t.data.length ∧ t.data.length ≤ 1000000000) :
    Calls Try.prog 13 #[v, .int .i64 keep, cv] w fun e w' => ∃ v', e = .returned v' ∧ Fls (w.heap.size ≤ ·) w' v' (rcrash R keep cs) ∧ Below w.heap.size w w' := by
  obtain ⟨xs, tv, nv, lv, cv9, rfl, hxs, hS⟩ := h
  have HV0 : Hid (SM ok w xs R.nm R.la R.ch tv nv lv cv9) := hS
  have HXS : Hid (R.th = xs.map (·.2)) := hxs
  have HCS : Hid (∀ W, Below w.heap.size w W → CtS W cv cs) := fun W hW => hcs.kept hW
  obtain ⟨sa, sc, hve, hs1, hs2, -⟩ := hcs
  subst hve
  obtain ⟨a1, c1, m1, h1, h2, h3⟩ := row_at hS.rt.row
  subst m1
  obtain ⟨a2, c2, rfl⟩ := rw_slice hS.rn
  obtain ⟨a3, c3, rfl⟩ := rw_slice hS.rl
  obtain ⟨a4, c4, m4, g1, g2, g3⟩ := row_at hS.rc.row
  subst m4
  unfold maxLen at h2 hs2 g2
  have HCH : Hid (Chg R ∧ ∀ t ∈ R.th, t.syn ≤ t.data.length ∧ t.data.length ≤ 1000000000) := ⟨hok, hln⟩
  clear hS hxs hok hln
  have b1 := up0 w (.cells #[.int .i64 R.quota, .slice a1 xs.length c1, .slice a2 R.nm.length c2, .slice a3 R.la.length c3, .slice a4 R.ch.length c4, .int .i64 R.left, .bool R.down] 45)
  have l1 := lb_new w [.int .i64 R.quota, .slice a1 xs.length c1, .slice a2 R.nm.length c2, .slice a3 R.la.length c3, .slice a4 R.ch.length c4, .int .i64 R.left, .bool R.down] 45
  obtain ⟨W2, hW2⟩ : ∃ W, W = w.alloc (.cells #[.int .i64 R.quota, .slice a1 xs.length c1, .slice a2 R.nm.length c2, .slice a3 R.la.length c3, .slice a4 R.ch.length c4, .int .i64 R.left, .bool R.down] 45) := ⟨_, rfl⟩
  obtain ⟨p2, hp2⟩ : ∃ p, p = w.heap.size := ⟨_, rfl⟩
  have HB2 : Hid (LB W2 p2 45 [.int .i64 R.quota, .slice a1 xs.length c1, .slice a2 R.nm.length c2, .slice a3 R.la.length c3, .slice a4 R.ch.length c4, .int .i64 R.left, .bool R.down] ∧ Below w.heap.size w W2) := by
    rw [hW2, hp2]
    exact ⟨l1, b1⟩
  have HW2 : Hid (w.alloc (.cells #[.int .i64 R.quota, .slice a1 xs.length c1, .slice a2 R.nm.length c2, .slice a3 R.la.length c3, .slice a4 R.ch.length c4, .int .i64 R.left, .bool R.down] 45) = W2 ∧ w.heap.size = p2) := ⟨hW2.symm, hp2.symm⟩
  clear b1 l1 hW2 hp2
  have d0 := HB2.out.1.cell 0 _ rfl
  have d1 := HB2.out.1.cell 1 _ rfl
  have d2 := HB2.out.1.cell 2 _ rfl
  have d3 := HB2.out.1.cell 3 _ rfl
  have d4 := HB2.out.1.cell 4 _ rfl
  have d5 := HB2.out.1.cell 5 _ rfl
  have d6 := HB2.out.1.cell 6 _ rfl
  have b1 := up0 W2 (.cells #[.slice a1 xs.length c1, .slice a2 R.nm.length c2, .slice a3 R.la.length c3, .slice a4 R.ch.length c4] 43)
  have l1 := lb_new W2 [.slice a1 xs.length c1, .slice a2 R.nm.length c2, .slice a3 R.la.length c3, .slice a4 R.ch.length c4] 43
  obtain ⟨W3, hW3⟩ : ∃ W, W = W2.alloc (.cells #[.slice a1 xs.length c1, .slice a2 R.nm.length c2, .slice a3 R.la.length c3, .slice a4 R.ch.length c4] 43) := ⟨_, rfl⟩
  obtain ⟨p3, hp3⟩ : ∃ p, p = W2.heap.size := ⟨_, rfl⟩
  have HB3 : Hid (LB W3 p3 43 [.slice a1 xs.length c1, .slice a2 R.nm.length c2, .slice a3 R.la.length c3, .slice a4 R.ch.length c4] ∧ LB W3 p2 45 [.int .i64 R.quota, .slice a1 xs.length c1, .slice a2 R.nm.length c2, .slice a3 R.la.length c3, .slice a4 R.ch.length c4, .int .i64 R.left, .bool R.down] ∧ Below w.heap.size w W3) := by
    rw [hW3, hp3]
    exact ⟨l1, HB2.out.1.kept b1, andThen HB2.out.2 b1⟩
  have HW3 : Hid (W2.alloc (.cells #[.slice a1 xs.length c1, .slice a2 R.nm.length c2, .slice a3 R.la.length c3, .slice a4 R.ch.length c4] 43) = W3 ∧ W2.heap.size = p3) := ⟨hW3.symm, hp3.symm⟩
  clear b1 l1 hW3 hp3
  obtain ⟨N, hN⟩ : ∃ N : Nat, N = (Dk.wth keep (R.ch.length : Int)).toNat := ⟨_, rfl⟩
  have hNi : Dk.wth keep (R.ch.length : Int) = (N : Int) := by
    rw [hN]
    unfold Dk.wth
    omega
  have hNl : N ≤ R.ch.length := by
    unfold Dk.wth at hNi
    omega
  have HN : Hid (N = (Dk.wth keep (R.ch.length : Int)).toNat) := hN
  have HIN : Hid (∀ W, Calls Try.prog 30 #[.int .i64 keep, .int .i64 0, .int .i64 (R.ch.length : Int)] W fun e w' => e = .returned (.int .i64 (N : Int)) ∧ W = w') := fun W => (rkinto_any _ _ _ _).mono fun e w' ⟨h1, h2⟩ => ⟨by rw [h1, Rd.into_wth _ _ (by omega), hNi], h2.symm⟩
  clear hN hNi
  go_enter Try.func13, Try.ntmps13
  go_upto_region 1 with fail
  rw [HW2.out.1, HW2.out.2]
  go_upto_region 2 with fail
  rw [HW3.out.1, HW3.out.2]
  clear d0 d1 d2 d3 d4 d5 d6
  have s2 := HB3.out.1.cell 2 _ rfl
  have s3 := HB3.out.1.cell 3 _ rfl
  go_wp2_with fail
  refine (HIN.out _).mono ?_
  rintro e Wf ⟨rfl, rfl⟩
  clear s2 s3 HIN
  go_wp2_with fail
  go_loopw [8, 10] (fun o i wr => ∃ k : Nat, k ≤ N ∧ i = .int .i64 (k : Int) ∧ En (fun _ => True) wr o (chs R.la (R.ch.take k)) ∧ Below W3.heap.size W3 wr) (fun _ i _ => N - (intOf i).toNat)
  case atStart => exact ⟨0, Nat.zero_le _, rfl, (HV0.out.kept HB3.out.2.2).rl.mono fun _ _ => trivial, Below.refl _ _⟩
  case round =>
    obtain ⟨k, hk, rfl, hen, hb⟩ := hrel
    have HE : Hid (En (fun _ => True) wr u8 (chs R.la (R.ch.take k)) ∧ Below W3.heap.size W3 wr) := ⟨hen, hb⟩
    have s3 := (HB3.out.1.kept hb).cell 3 _ rfl
    clear hen hb
    by_cases hlt : k < N
    · obtain ⟨gb, hgb⟩ := g3 (List.ne_nil_of_length_pos (by omega))
      subst hgb
      obtain ⟨c, hc⟩ : ∃ c, R.ch[k]? = some c := ⟨_, List.getElem?_eq_getElem (by omega)⟩
      have hrw := (HV0.out.kept (andThen HB3.out.2.2 HE.out.2)).rc.row
      have y0 := row_cellx enG_len hrw k c hc 0 _ rfl
      have y1 := row_cellx enG_len hrw k c hc 1 _ rfl
      have y2 := row_cellx enG_len hrw k c hc 2 _ rfl
      have y3 := row_cellx enG_len hrw k c hc 3 _ rfl
      simp only [Nat.add_zero] at y0 y1 y2 y3
      unfold enS at y1 y2
      have HCC : Hid (Calls Try.prog 31 #[u8, .agg #[.int .i64 c.k, .string ⟨c.a.toArray⟩, .string ⟨c.b.toArray⟩, .int .i64 (c.f : Int)]] wr fun e w' => ∃ v', e = .returned v' ∧ En (wr.heap.size ≤ ·) w' v' (chd (chs R.la (R.ch.take k)) c) ∧ Below wr.heap.size wr w') := rkchanged_any _ u8 _ c wr HE.out.1 (by have h9 := chs_len (R.ch.take k) R.la; rw [List.length_take] at h9; omega) (fun e => HCH.out.1.two k c hc e)
      have HTK : Hid (chs R.la (R.ch.take (k + 1)) = chd (chs R.la (R.ch.take k)) c) := by
        show chs R.la (R.ch.take (k + 1)) = _
        obtain ⟨hkl, e⟩ := List.getElem?_eq_some_iff.1 hc
        rw [List.take_succ_eq_append_getElem hkl, e, chs_snoc]
      clear hrw hc
      go_wp2_with fail
      refine HCC.out.mono ?_
      rintro e W5 ⟨v5, rfl, e5, b5⟩
      have H5 : Hid (En (fun _ => True) W5 v5 (chs R.la (R.ch.take (k + 1))) ∧ Below W3.heap.size W3 W5) := ⟨by rw [HTK.out]; exact e5.mono fun _ _ => trivial, andThen HE.out.2 b5⟩
      clear e5 b5 HCC y0 y1 y2 y3 s3
      go_wp2_with fail
      go_roundw
      case rel => exact ⟨k + 1, by omega, by go_num, H5.out.1, H5.out.2⟩
      case measure => simp [intOf]; omega
    · obtain rfl : k = N := by omega
      obtain ⟨NM, hNM⟩ : ∃ l, l = chs R.la (R.ch.take k) := ⟨_, rfl⟩
      have HRC : Hid (rcrash R keep cs = NM.mapIdx fun j p => (p.1, Dk.lv ⟨(R.th.getD p.2 ⟨[], 0, false⟩).data, (R.th.getD p.2 ⟨[], 0, false⟩).syn⟩ (cs.getD j (0, 0)))) := by
        rw [hNM, HN.out]
        rfl
      have HNK : Hid (okl R.th NM) := by rw [hNM]; exact HCH.out.1.ok k
      have hNL : NM.length ≤ 200000000 := by
        rw [hNM]
        have h9 := chs_len (R.ch.take k) R.la
        rw [List.length_take] at h9
        omega
      rw [← hNM] at HE
      obtain ⟨na, nc, ev, m1, m2, m3⟩ := row_at HE.out.1.row
      subst ev
      unfold maxLen at m2
      obtain ⟨W4, hW4⟩ : ∃ x, x = wr := ⟨_, rfl⟩
      subst hW4
      clear hNM s3
      obtain ⟨RC, hRC⟩ : ∃ x, rcrash R keep cs = x := ⟨_, rfl⟩
      rw [hRC] at HRC
      have HRE : Hid (rcrash R keep cs = RC) := hRC
      clear hRC
      go_wp2_with fail
      go_loopw [11, 12] (fun o i wr => ∃ (k : Nat) (ys : List (List UInt8 × Value × List Nat)), k ≤ NM.length ∧ i = .int .i64 (k : Int) ∧ FO W4.heap.size wr o ys ∧ (ys.map fun x => (x.1, x.2.2)) = RC.take k ∧ Below W4.heap.size W4 wr) (fun _ i _ => NM.length - (intOf i).toNat)
      case atStart => exact ⟨0, [], Nat.zero_le _, rfl, FO.nil _ _, rfl, Below.refl _ _⟩
      case round =>
        obtain ⟨k, ys, hk, rfl, hfo, hys, hb⟩ := hrel
        have HO : Hid (FO W4.heap.size wr u11 ys ∧ (ys.map fun x => (x.1, x.2.2)) = RC.take k ∧ Below W4.heap.size W4 wr) := ⟨hfo, hys, hb⟩
        have hyl : ys.length ≤ 300000000 := by
          have h9 := congrArg List.length hys
          rw [List.length_map, List.length_take] at h9
          omega
        have s0 := (HB3.out.1.kept (andThen HE.out.2 hb)).cell 0 _ rfl
        have s1 := (HB3.out.1.kept (andThen HE.out.2 hb)).cell 1 _ rfl
        have s2 := (HB3.out.1.kept (andThen HE.out.2 hb)).cell 2 _ rfl
        have s3 := (HB3.out.1.kept (andThen HE.out.2 hb)).cell 3 _ rfl
        clear hfo hys hb
        by_cases hlt : k < NM.length
        · obtain ⟨nb, hbe⟩ := m3 (List.ne_nil_of_length_pos (by omega))
          subst hbe
          have HSW : ∀ W, Below wr.heap.size wr W → SM ok W xs R.nm R.la R.ch _ _ _ _ := fun W hW => HV0.out.kept (andThen HB3.out.2.2 (andThen HE.out.2 (andThen HO.out.2.2 hW)))
          have HNW : ∀ W, Below wr.heap.size wr W → En (fun _ => True) W (.slice (some ⟨nb, 0, none⟩) NM.length nc) NM := fun W hW => HE.out.1.kept (andThen HO.out.2.2 hW)
          obtain ⟨p, hp⟩ : ∃ p, NM[k]? = some p := ⟨_, List.getElem?_eq_getElem hlt⟩
          obtain ⟨hkl, hpe⟩ := List.getElem?_eq_some_iff.1 hp
          have htk := (HNK.out p (List.mem_of_getElem? hp)).2
          have HTK0 : RC.take (k + 1) = RC.take k ++ [(p.1, Dk.lv ⟨(R.th.getD p.2 ⟨[], 0, false⟩).data, (R.th.getD p.2 ⟨[], 0, false⟩).syn⟩ (cs.getD k (0, 0)))] := by
            rw [HRC.out, List.take_succ_eq_append_getElem (by rw [List.length_mapIdx]; exact hlt), List.getElem_mapIdx, hpe]
          have YN : ∀ W, Below wr.heap.size wr W → W.cell? ⟨nb, k * 2, none⟩ = some (.string ⟨p.1.toArray⟩) ∧ W.cell? ⟨nb, k * 2 + 1, none⟩ = some (.int .i64 (p.2 : Int)) := fun W hW => by
            have h9 := (HNW W hW).cells k hlt
            rw [hpe] at h9
            exact h9
          obtain ⟨n9, i⟩ := p
          simp only at YN htk HTK0
          have hil : i < xs.length := by
            have h9 := tok_lt htk
            rw [HXS.out, List.length_map] at h9
            exact h9
          obtain ⟨xv, td, ts, tt, hxi⟩ : ∃ xv td ts tt, xs[i]? = some (xv, (⟨td, ts, tt⟩ : Th)) := ⟨xs[i].1, xs[i].2.data, xs[i].2.syn, xs[i].2.there, List.getElem?_eq_getElem hil⟩
          have hx9 : R.th[i]? = some ⟨td, ts, tt⟩ := by rw [HXS.out, List.getElem?_map, hxi]; rfl
          rw [List.getD_eq_getElem?_getD, hx9] at HTK0
          have HSN : Hid (ts ≤ td.length ∧ td.length ≤ 1000000000) := HCH.out.2 _ (List.mem_of_getElem? hx9)
          have hOD := ((HSW wr (Below.refl _ _)).od _ (List.mem_of_getElem? hxi)).1
          obtain ⟨ta0, tc0, ev, -⟩ := Mg.row_shape hOD.row
          simp only at ev hOD
          subst ev
          obtain ⟨tb, htb⟩ := h3 (List.ne_nil_of_length_pos (by omega))
          subst htb
          have HBT : Hid (∀ W, Below wr.heap.size wr W → Bs W (.slice ta0 td.length tc0) td) := fun W hW => (hOD.kept hW).bs
          have HYN : Hid (∀ W, Below wr.heap.size wr W → W.cell? ⟨nb, k * 2, none⟩ = some (.string ⟨n9.toArray⟩)) := fun W hW => (YN W hW).1
          have HCW : Hid (∀ W, Below wr.heap.size wr W → W.cell? ⟨p3, 0, none⟩ = some (.slice (some ⟨tb, 0, none⟩) xs.length c1) ∧ W.cell? ⟨nb, k * 2 + 1, none⟩ = some (.int .i64 (i : Int)) ∧ W.cell? ⟨tb, i * 3, none⟩ = some (.slice ta0 td.length tc0) ∧ W.cell? ⟨tb, i * 3 + 1, none⟩ = some (.int .i64 (ts : Int)) ∧ W.cell? ⟨tb, i * 3 + 2, none⟩ = some (.bool tt)) := fun W hW => by
            have hr := (HSW W hW).rt.row
            have q0 := row_cellx enT_len hr i _ hxi 0 _ rfl
            simp only [Nat.add_zero] at q0
            exact ⟨(HB3.out.1.kept (andThen HE.out.2 (andThen HO.out.2.2 hW))).cell 0 _ rfl, (YN W hW).2, q0, row_cellx enT_len hr i _ hxi 1 _ rfl, row_cellx enT_len hr i _ hxi 2 _ rfl⟩
          obtain ⟨-, y9, y5, y6, y7⟩ := HCW.out wr (Below.refl _ _)
          have y0 := HYN.out wr (Below.refl _ _)
          obtain ⟨cx, cy, hcut⟩ : ∃ cx cy, cs.getD k (0, 0) = (cx, cy) := ⟨_, _, rfl⟩
          rw [hcut] at HTK0
          have HTK : Hid (RC.take (k + 1) = RC.take k ++ [(n9, Dk.lv ⟨td, ts⟩ (cx, cy))]) := HTK0
          have hcW := HCS.out wr (andThen HB3.out.2.2 (andThen HE.out.2 HO.out.2.2))
          clear HTK0 YN HNW HSW hp hpe hkl htk hxi hx9 hOD
          by_cases hkc : k < cs.length
          · obtain ⟨sa', sc', e9, -, -, hcc⟩ := hcW
            simp only [Value.slice.injEq] at e9
            obtain ⟨rfl, -, -⟩ := e9
            obtain ⟨cb, co, e8, hc8⟩ := hcc (List.ne_nil_of_length_pos (by omega))
            subst e8
            obtain ⟨x0, x1⟩ := hc8 k hkc
            have ex : cs[k] = (cx, cy) := by
              rw [← hcut, List.getD_eq_getElem?_getD, List.getElem?_eq_getElem hkc]
              rfl
            rw [ex] at x0 x1
            have x0' := ((up0 wr (.cells #[.int .i64 0, .int .i64 0] 32)).cell (p := ⟨cb, co + k * 2, none⟩) (World.block_lt_of_cell? _ _ x0)).trans x0
            have x1' := ((up0 wr (.cells #[.int .i64 0, .int .i64 0] 32)).cell (p := ⟨cb, co + k * 2 + 1, none⟩) (World.block_lt_of_cell? _ _ x1)).trans x1
            simp only at x0' x1'
            clear hc8 hcc hcut ex x0 x1
            go_upto_region 15 with fail
            clear x0' x1'
            obtain ⟨Wc, hWc⟩ : ∃ W, W = wr.alloc (.cells #[.int .i64 cx, .int .i64 cy] 32) := ⟨_, rfl⟩
            obtain ⟨p9, hp9⟩ : ∃ p, p = wr.heap.size := ⟨_, rfl⟩
            have HC9 : Hid (LB Wc p9 32 [.int .i64 cx, .int .i64 cy] ∧ Below wr.heap.size wr Wc) := by
              rw [hWc, hp9]
              exact ⟨lb_new wr [.int .i64 cx, .int .i64 cy] 32, up0 wr _⟩
            rw [← hWc, ← hp9]
            clear hWc hp9 s0 s1 s2 s3 y0 y9 y5 y6 y7
            have HCK : Hid (∀ W, Below Wc.heap.size Wc W → W.cell? ⟨p3, 0, none⟩ = some (.slice (some ⟨tb, 0, none⟩) xs.length c1) ∧ W.cell? ⟨nb, k * 2 + 1, none⟩ = some (.int .i64 (i : Int)) ∧ W.cell? ⟨tb, i * 3, none⟩ = some (.slice ta0 td.length tc0) ∧ W.cell? ⟨tb, i * 3 + 1, none⟩ = some (.int .i64 (ts : Int)) ∧ W.cell? ⟨tb, i * 3 + 2, none⟩ = some (.bool tt) ∧ W.cell? ⟨p9, 0, none⟩ = some (.int .i64 cx) ∧ W.cell? ⟨p9, 1, none⟩ = some (.int .i64 cy)) := fun W hW => by
              have h9 := andThen HC9.out.2 hW
              obtain ⟨g1, g2, g3, g4, g5⟩ := HCW.out W h9
              exact ⟨g1, g2, g3, g4, g5, (HC9.out.1.kept hW).cell 0 _ rfl, (HC9.out.1.kept hW).cell 1 _ rfl⟩
            obtain ⟨s0, y9, y5, y6, y7, v0, v1⟩ := HCK.out Wc (Below.refl _ _)
            have HLF : Hid (∀ W, Below Wc.heap.size Wc W → Calls Try.prog 32 #[.agg #[.slice ta0 td.length tc0, .int .i64 (ts : Int), .bool tt], .agg #[.int .i64 cx, .int .i64 cy]] W fun e w' => ∃ b9 n8 c9, e = .returned (.slice b9 n8 c9) ∧ Own W.heap.size w' (.slice b9 n8 c9) (Dk.lv ⟨td, ts⟩ (cx, cy)) ∧ Below W.heap.size W w') := fun W hW => (rkleft_any _ td ts tt cx cy W (HBT.out W (andThen HC9.out.2 hW)) HSN.out.1 HSN.out.2).mono fun e w' ⟨v', h1, h2, h3⟩ => by
              obtain ⟨b9, c9, rfl, -⟩ := Mg.row_shape h2.row
              exact ⟨b9, _, c9, h1, h2, h3⟩
            go_wp2_with fail
            go_region_held3 (fun w' => w'.cell? ⟨p3, 0, none⟩ = some (.slice (some ⟨tb, 0, none⟩) xs.length c1) ∧ w'.cell? ⟨nb, k * 2 + 1, none⟩ = some (.int .i64 (i : Int)) ∧ w'.cell? ⟨tb, i * 3, none⟩ = some (.slice ta0 td.length tc0) ∧ w'.cell? ⟨tb, i * 3 + 1, none⟩ = some (.int .i64 (ts : Int)) ∧ w'.cell? ⟨tb, i * 3 + 2, none⟩ = some (.bool tt) ∧ w'.cell? ⟨p9, 0, none⟩ = some (.int .i64 cx) ∧ w'.cell? ⟨p9, 1, none⟩ = some (.int .i64 cy)) (first | go_keep | (exact HCK.out _ (andThen (Below.drew (Below.refl _ _)) hb')))
              (first | (go_at_call 32; refine (HLF.out _ ?_).mono ?_; (exact Below.drew (Below.refl _ _)); rintro e w' ⟨b9, n8, c9, rfl, o9, hb'⟩))
            have hbw : Below wr.heap.size wr w' := andThen HC9.out.2 (andThen (Below.drew (Below.refl _ _)) hb')
            have own9 : Own W4.heap.size w' (.slice b9 n8 c9) (Dk.lv ⟨td, ts⟩ (cx, cy)) := o9.mono (Nat.le_trans HO.out.2.2.size (Nat.le_trans HC9.out.2.size (Below.drew (Below.refl Wc.heap.size Wc)).size))
            have yn := HYN.out w' hbw
            have b3 := up0 w' (.cells #[.string ⟨n9.toArray⟩, .slice b9 n8 c9] 30)
            have L3 : LB (w'.alloc (.cells #[.string ⟨n9.toArray⟩, .slice b9 n8 c9] 30)) w'.heap.size 30 (enF (n9, .slice b9 n8 c9, Dk.lv ⟨td, ts⟩ (cx, cy))) := lb_new w' [.string ⟨n9.toArray⟩, .slice b9 n8 c9] 30
            obtain ⟨o4, W9, hr4, f4, b4⟩ := ((HO.out.1.kept hbw).kept b3).app 22 (n9, .slice b9 n8 c9, Dk.lv ⟨td, ts⟩ (cx, cy)) (own9.kept b3) w'.heap.size 1 L3 (by omega) (Nat.le_trans HO.out.2.2.size (Nat.le_trans hbw.size b3.size))
            have H4 : Hid (FO W4.heap.size W9 o4 (ys ++ [(n9, .slice b9 n8 c9, Dk.lv ⟨td, ts⟩ (cx, cy))]) ∧ Below W4.heap.size W4 W9) := ⟨f4, (andThen (andThen HO.out.2.2 hbw) b3).trans b4⟩
            clear f4 b4 L3 b3 own9 hbw o9 hb' s0 y9 y5 y6 y7 v0 v1
            go_wp2_with (at_builtin; refine wpList_appRun rfl (.tmp 61) (.tmp 69) 22 rfl rfl rfl hr4 ?_)
            clear hr4 yn
            go_wp2_with fail
            go_roundw
            case rel =>
              refine ⟨k + 1, _, by omega, by go_num, H4.out.1, ?_, H4.out.2⟩
              rw [List.map_append, HO.out.2.1, HTK.out]
              rfl
            case measure => simp [intOf]; omega
          · obtain ⟨rfl, rfl⟩ : cx = 0 ∧ cy = 0 := by
              rw [List.getD_eq_getElem?_getD, List.getElem?_eq_none (by omega)] at hcut
              have h9 : ((0 : Int), (0 : Int)) = (cx, cy) := hcut
              simp only [Prod.mk.injEq] at h9
              exact ⟨h9.1.symm, h9.2.symm⟩
            clear hcut hcW
            obtain ⟨cx, hcx⟩ : ∃ c : Int, c = 0 := ⟨_, rfl⟩
            obtain ⟨cy, hcy⟩ : ∃ c : Int, c = 0 := ⟨_, rfl⟩
            go_upto_region 15 with fail
            obtain rfl := hcx
            obtain rfl := hcy
            obtain ⟨Wc, hWc⟩ : ∃ W, W = wr.alloc (.cells #[.int .i64 0, .int .i64 0] 32) := ⟨_, rfl⟩
            obtain ⟨p9, hp9⟩ : ∃ p, p = wr.heap.size := ⟨_, rfl⟩
            have HC9 : Hid (LB Wc p9 32 [.int .i64 0, .int .i64 0] ∧ Below wr.heap.size wr Wc) := by
              rw [hWc, hp9]
              exact ⟨lb_new wr [.int .i64 0, .int .i64 0] 32, up0 wr _⟩
            rw [← hWc, ← hp9]
            clear hWc hp9 s0 s1 s2 s3 y0 y9 y5 y6 y7
            have HCK : Hid (∀ W, Below Wc.heap.size Wc W → W.cell? ⟨p3, 0, none⟩ = some (.slice (some ⟨tb, 0, none⟩) xs.length c1) ∧ W.cell? ⟨nb, k * 2 + 1, none⟩ = some (.int .i64 (i : Int)) ∧ W.cell? ⟨tb, i * 3, none⟩ = some (.slice ta0 td.length tc0) ∧ W.cell? ⟨tb, i * 3 + 1, none⟩ = some (.int .i64 (ts : Int)) ∧ W.cell? ⟨tb, i * 3 + 2, none⟩ = some (.bool tt) ∧ W.cell? ⟨p9, 0, none⟩ = some (.int .i64 0) ∧ W.cell? ⟨p9, 1, none⟩ = some (.int .i64 0)) := fun W hW => by
              have h9 := andThen HC9.out.2 hW
              obtain ⟨g1, g2, g3, g4, g5⟩ := HCW.out W h9
              exact ⟨g1, g2, g3, g4, g5, (HC9.out.1.kept hW).cell 0 _ rfl, (HC9.out.1.kept hW).cell 1 _ rfl⟩
            obtain ⟨s0, y9, y5, y6, y7, v0, v1⟩ := HCK.out Wc (Below.refl _ _)
            have HLF : Hid (∀ W, Below Wc.heap.size Wc W → Calls Try.prog 32 #[.agg #[.slice ta0 td.length tc0, .int .i64 (ts : Int), .bool tt], .agg #[.int .i64 0, .int .i64 0]] W fun e w' => ∃ b9 n8 c9, e = .returned (.slice b9 n8 c9) ∧ Own W.heap.size w' (.slice b9 n8 c9) (Dk.lv ⟨td, ts⟩ (0, 0)) ∧ Below W.heap.size W w') := fun W hW => (rkleft_any _ td ts tt 0 0 W (HBT.out W (andThen HC9.out.2 hW)) HSN.out.1 HSN.out.2).mono fun e w' ⟨v', h1, h2, h3⟩ => by
              obtain ⟨b9, c9, rfl, -⟩ := Mg.row_shape h2.row
              exact ⟨b9, _, c9, h1, h2, h3⟩
            go_wp2_with fail
            go_region_held3 (fun w' => w'.cell? ⟨p3, 0, none⟩ = some (.slice (some ⟨tb, 0, none⟩) xs.length c1) ∧ w'.cell? ⟨nb, k * 2 + 1, none⟩ = some (.int .i64 (i : Int)) ∧ w'.cell? ⟨tb, i * 3, none⟩ = some (.slice ta0 td.length tc0) ∧ w'.cell? ⟨tb, i * 3 + 1, none⟩ = some (.int .i64 (ts : Int)) ∧ w'.cell? ⟨tb, i * 3 + 2, none⟩ = some (.bool tt) ∧ w'.cell? ⟨p9, 0, none⟩ = some (.int .i64 0) ∧ w'.cell? ⟨p9, 1, none⟩ = some (.int .i64 0)) (first | go_keep | (exact HCK.out _ (andThen (Below.drew (Below.refl _ _)) hb')))
              (first | (go_at_call 32; refine (HLF.out _ ?_).mono ?_; (exact Below.drew (Below.refl _ _)); rintro e w' ⟨b9, n8, c9, rfl, o9, hb'⟩))
            have hbw : Below wr.heap.size wr w' := andThen HC9.out.2 (andThen (Below.drew (Below.refl _ _)) hb')
            have own9 : Own W4.heap.size w' (.slice b9 n8 c9) (Dk.lv ⟨td, ts⟩ (0, 0)) := o9.mono (Nat.le_trans HO.out.2.2.size (Nat.le_trans HC9.out.2.size (Below.drew (Below.refl Wc.heap.size Wc)).size))
            have yn := HYN.out w' hbw
            have b3 := up0 w' (.cells #[.string ⟨n9.toArray⟩, .slice b9 n8 c9] 30)
            have L3 : LB (w'.alloc (.cells #[.string ⟨n9.toArray⟩, .slice b9 n8 c9] 30)) w'.heap.size 30 (enF (n9, .slice b9 n8 c9, Dk.lv ⟨td, ts⟩ (0, 0))) := lb_new w' [.string ⟨n9.toArray⟩, .slice b9 n8 c9] 30
            obtain ⟨o4, W9, hr4, f4, b4⟩ := ((HO.out.1.kept hbw).kept b3).app 22 (n9, .slice b9 n8 c9, Dk.lv ⟨td, ts⟩ (0, 0)) (own9.kept b3) w'.heap.size 1 L3 (by omega) (Nat.le_trans HO.out.2.2.size (Nat.le_trans hbw.size b3.size))
            have H4 : Hid (FO W4.heap.size W9 o4 (ys ++ [(n9, .slice b9 n8 c9, Dk.lv ⟨td, ts⟩ (0, 0))]) ∧ Below W4.heap.size W4 W9) := ⟨f4, (andThen (andThen HO.out.2.2 hbw) b3).trans b4⟩
            clear f4 b4 L3 b3 own9 hbw o9 hb' s0 y9 y5 y6 y7 v0 v1
            go_wp2_with (at_builtin; refine wpList_appRun rfl (.tmp 61) (.tmp 69) 22 rfl rfl rfl hr4 ?_)
            clear hr4 yn
            go_wp2_with fail
            go_roundw
            case rel =>
              refine ⟨k + 1, _, by omega, by go_num, H4.out.1, ?_, H4.out.2⟩
              rw [List.map_append, HO.out.2.1, HTK.out]
              rfl
            case measure => simp [intOf]; omega
        · have HF : Hid ((ys.map fun x => (x.1, x.2.2)) = RC) := by
            have h9 := HO.out.2.1
            rw [List.take_of_length_le (by rw [HRC.out, List.length_mapIdx]; omega)] at h9
            exact h9
          go_wp2_with fail
          go_returns
          have h9 := HO.out.1.fls
          rw [HF.out] at h9
          have h8 := andThen HB3.out.2.2 HE.out.2
          rw [HRE.out]
          exact ⟨_, rfl, h9.mono fun q hq => Nat.le_trans h8.size hq, andThen h8 HO.out.2.2⟩
end Go.Proofs.Ytgdfnlbiminblaa
