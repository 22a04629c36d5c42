/-
  WireOwn: the law's walk.
-/
import Derived.Test.YtppgijgmhjfdfaaDoorWo4
namespace Go.Proofs.YtppgijgmhjfdfaaDoor
open Go Go.RowKit
open Wb

theorem two_first {B : Nat} {w : World} {v : Value} {ps : List (Value × List Nat)} {x y : List Nat} {r : List (List Nat)} (h : Ans B w v ps) (hm : ps.map Prod.snd = x :: y :: r) (hx : 0 < x.length) (hy : 0 < y.length) :
    ∃ g, ∃ cp : Nat, ∃ a0, ∃ z0 c0 : Nat, ∃ a1, ∃ z1 c1 : Nat, v = .slice (some ⟨g, 0, none⟩) ps.length cp ∧ 2 ≤ ps.length ∧ ps.length ≤ cp ∧ cp ≤ maxLen ∧ 0 < z0 ∧ 0 < z1 ∧ w.cell? ⟨g, 0, none⟩ = some (.slice a0 z0 c0) ∧ w.cell? ⟨g, 1, none⟩ = some (.slice a1 z1 c1) := by
  match ps, hm, h with
  | p0 :: p1 :: pr, hm, h =>
    simp only [List.map_cons, List.cons.injEq] at hm
    obtain ⟨a0, c0, e0, _⟩ := (h.each p0 (by simp)).bs.shape
    obtain ⟨a1, c1, e1, _⟩ := (h.each p1 (by simp)).bs.shape
    have hr0 := h.row
    rcases h.row.2 with ⟨_, h0⟩ | ⟨g, cp, cur, e, _, _, hn, hm2, _, _⟩
    · cases h0
    · subst e
      refine ⟨g, cp, a0, p0.2.length, c0, a1, p1.2.length, c1, rfl, by simp, hn, hm2, by rw [hm.1]; exact hx, by rw [hm.2.1]; exact hy, ?_, ?_⟩
      · rw [World.ownsRow.cellAt hr0 0 (by simp), ← e0]; rfl
      · rw [World.ownsRow.cellAt hr0 1 (by simp), ← e1]; rfl
  | [p0], hm, _ => simp at hm
  | [], hm, _ => simp at hm
set_option maxRecDepth 100000 in
set_option maxHeartbeats 4000000 in
theorem wown_any (u : Nat) (i : Int) (v : Value) (ls : List (List Nat)) (w : World) (hT : Tab w) (hu : u < 18446744073709551616) (hi0 : -9223372036854775808 ≤ i) (hi1 : i ≤ 9223372036854775807) (h : Ps w v ls) (hbd : ∀ j (h : j < ls.length), ls[j].length ≤ 140737488355328) (hcap : ∀ ao n cap, v = .slice ao n cap → n ≤ cap) :
    Calls Tryd.prog 3 #[.int .u64 (u : Int), .int .i64 i, v] w fun e w' => e = .returned (.bool true) ∧ Below w.heap.size w w' := by
  have hin := info5
  have hib := info22
  have HT : Hid (∀ w', Below w.heap.size w w' → Tab w') := fun w' hb => hT.kept hb
  have HLI : Hid (Calls Tryd.prog 5 #[v] w fun e w' => LtPost w ls e w') := lightW_any v ls w h hbd hcap
  obtain ⟨av, cv, rfl, _⟩ := h.shape
  clear hT h hbd hcap
  go_enter Tryd.func3, Tryd.ntmps3
  go_wp2_with fail
  refine HLI.out.mono ?_
  rintro e w0 ⟨vr, k0, rfl, _, hfl, h5, hps, rfl⟩
  generalize ls.take k0 = gs at *
  have HPS : Hid (∀ w', Below w0.heap.size w0 w' → Ps w' vr gs) := fun w' hb => hps.kept hb
  have HG : Hid (∀ x ∈ gs, x.length ≤ 4194304) := fun x hx => Nat.le_trans (each_flat hx) hfl
  obtain ⟨hsh, hsl⟩ := ansL_short u i hu hi0 hi1 gs hfl h5
  have hfr := flatF_len gs
  have HFL : Hid (∀ j, ((gs.take j).flatMap frU).length ≤ 5000000) := fun j => by
    have h1 := flatF_len (gs.take j)
    have h2 := flat_le gs j
    have h3 := List.length_take_le j gs
    have h4 : (gs.take j).length ≤ gs.length := List.length_take_le' j gs
    omega
  have HAN : Hid (∀ w' vb, Below w0.heap.size w0 w' → Bs w' vb (gs.flatMap frU) → Calls Tryd.prog 9 #[.int .u64 (u : Int), .int .i64 i, vr, vb] w' fun e w'' => ∃ v' ps, e = .returned v' ∧ Ans w'.heap.size w'' v' ps ∧ ps.map Prod.snd = ansL u i gs (gs.flatMap frU) ∧ Below w'.heap.size w' w'') := fun w' vb hb hbs => answers_any u i vr vb gs _ w' (HT.out _ hb) hu hi0 hi1 (HPS.out _ hb) hbs HG.out h5 (by omega)
  have HKB : Hid (∀ w', Below w0.heap.size w0 w' → Calls Tryd.prog 8 #[vr] w' fun e w'' => ∃ v', e = .returned v' ∧ OwnP w'.heap.size w'' v' gs ∧ Below w'.heap.size w' w'') := fun w' hb => keptE_any vr gs w' (HPS.out _ hb) (fun x hx => Nat.le_trans (HG.out x hx) (by decide)) (by omega)
  have HL0 : Hid (ansL u i gs (gs.flatMap frU) = Wn.uint u :: Wn.uint (zz i) :: (gs.flatMap ansOne ++ (rfs ((gs.flatMap frU).length + 1) (gs.flatMap frU) 0).1)) := rfl
  generalize ansL u i gs (gs.flatMap frU) = L at *
  have HSH : Hid (∀ c ∈ L, c.length ≤ 8388608) := hsh
  obtain ⟨ar, cr, rfl, hmx, hc⟩ := hps.shape
  unfold maxLen at hmx
  have HC : Hid (∀ j (h : j < gs.length), ∃ b off aj, ∃ cj : Nat, ar = some ⟨b, off, none⟩ ∧ ∀ w', Below w0.heap.size w0 w' → w'.cell? ⟨b, off + j, none⟩ = some (.slice aj gs[j].length cj) ∧ Bs w' (.slice aj gs[j].length cj) gs[j]) := fun j hj => by
    obtain ⟨b, off, e, hcell⟩ := hc (List.ne_nil_of_length_pos (by omega))
    obtain ⟨vj, h1, h2⟩ := hcell j hj
    obtain ⟨aj, cj, rfl, _⟩ := h2.shape
    exact ⟨b, off, aj, cj, e, fun w' hb' => ⟨(hb'.cell (p := ⟨b, off + j, none⟩) (World.block_lt_of_cell? _ _ h1)).trans h1, h2.kept hb'⟩⟩
  clear HLI hps hc hfl hsh hfr
  go_wp2
  go_loopw [7, 8] (fun o k wr => ∃ j : Nat, j ≤ gs.length ∧ k = .int .i64 (j : Int) ∧ Own w0.heap.size wr o ((gs.take j).flatMap frU) ∧ Below w0.heap.size w0 wr) (fun _ k _ => gs.length - (intOf k).toNat)
  case atStart => exact ⟨0, Nat.zero_le _, rfl, Own.nil _ _, Below.refl _ _⟩
  case round =>
    obtain ⟨j, hj, rfl, ho, hbel⟩ := hrel
    have hsz := hbel.size
    by_cases hlt : j < gs.length
    · clear HAN HKB HL0 HSH
      obtain ⟨b, off, aj, cj, rfl, hcb⟩ := HC.out j hlt
      have HM : Hid ((gs.take (j + 1)).flatMap frU = (gs.take j).flatMap frU ++ frU gs[j]) := flat_snoc frU gs j hlt
      generalize gs[j] = x at *
      obtain ⟨q0, hx0⟩ := hcb wr hbel
      have hal := HFL.out j
      have hxl := (frU_len x).1
      clear hcb HC HG HFL
      generalize (gs.take j).flatMap frU = m at *
      go_wp2_with fail
      refine (frameU_any _ x _ ((HT.out _ hbel).kept (up0 _ _)) (ps1 _ _ rfl _ hx0)).mono ?_
      rintro e w4 ⟨a4, n4, c4, er, rfl, rfl, ho4, b4'⟩
      have b4 := andThen (up0 _ _) b4'
      have HO : Hid (Own w0.heap.size w4 u7 m ∧ Bs w4 (.slice a4 (frU x).length c4) (frU x)) := ⟨ho.kept b4, ho4.bs⟩
      have B4 := andThen hbel b4
      have hs4 := B4.size
      clear ho4 b4' q0 hx0 ho b4
      generalize frU x = f at *
      go_wp2_with (at_builtin; refine wpList_append _ rfl (.tmp 38) (.tmp 39) 25 rfl w0.heap.size hin Tryd.underlying25 _ m rfl HO.out.1 _ f rfl HO.out.2 (by omega) hs4 ?_)
      intro v5 w5 ho5 b5 _
      have R : Hid (Own w0.heap.size w5 v5 ((gs.take (j + 1)).flatMap frU) ∧ Below w0.heap.size w0 w5) := ⟨by rw [HM.out]; exact ho5, B4.trans b5⟩
      clear ho5 b5 HO B4 HM hbel
      go_wp2
      go_roundw
      case rel => exact ⟨j + 1, by omega, by go_num, R.out.1, R.out.2⟩
      case measure => simp [intOf]; omega
    · obtain rfl : j = gs.length := by omega
      rw [List.take_length] at ho
      have hal := HFL.out gs.length
      rw [List.take_length] at hal
      clear HC HFL HG
      generalize gs.flatMap frU = lb at *
      generalize wr = wb at *
      obtain ⟨ab, cb, rfl, _⟩ := ho.bs.shape
      have HB : Hid (∀ w', Below wb.heap.size wb w' → Bs w' (.slice ab lb.length cb) lb) := fun w' hb => (ho.kept hb).bs
      clear ho
      go_wp2_with fail
      refine (part_n _ lb lb.length _ (HB.out _ (Below.refl _ _)) (by omega) (by omega)).mono ?_
      rw [List.take_of_length_le (Nat.le_refl _)]
      rintro e w00 ⟨vwh, rfl, hoW, b00⟩
      have HWH : Hid (∀ w', Below w00.heap.size w00 w' → Bs w' vwh lb) := fun w' hb => (hoW.kept hb).bs
      clear hoW
      go_wp2_with fail
      refine (HKB.out _ (andThen hbel b00)).mono ?_
      rintro e w1 ⟨vin, rfl, hIn, b1'⟩
      have b1 := andThen b00 b1'
      have B01 := andThen hbel b1
      have HIN : Hid (∀ w', Below w1.heap.size w1 w' → Ps w' vin gs ∧ Ps w' (.slice ar gs.length cr) gs ∧ Bs w' (.slice ab lb.length cb) lb ∧ Bs w' vwh lb ∧ Below w0.heap.size w0 w') := fun w' hb => ⟨(hIn.kept hb).ps, HPS.out _ (andThen B01 hb), HB.out _ (andThen b1 hb), HWH.out _ (andThen b1' hb), andThen B01 hb⟩
      have HAY : Hid (∀ w', Below w1.heap.size w1 w' → Calls Tryd.prog 9 #[.int .u64 (u : Int), .int .i64 i, .slice ar gs.length cr, .slice ab lb.length cb] w' fun e w'' => ∃ v' ps, e = .returned v' ∧ Ans w'.heap.size w'' v' ps ∧ ps.map Prod.snd = L ∧ Below w'.heap.size w' w'') := fun w' hb => HAN.out w' _ (HIN.out _ hb).2.2.2.2 (HIN.out _ hb).2.2.1
      clear hIn b1 b1' b00 hbel HKB HAN HB HWH HPS B01
      go_wp2_with fail
      refine (HAY.out _ (Below.refl _ _)).mono ?_
      rintro e w2 ⟨v1, ps1, rfl, hR1, hm1, b2⟩
      have hn1 : ps1.length ≤ 4300000 := by rw [← hm1, List.length_map] at hsl; exact hsl
      have hp1 := hR1.ps
      rw [hm1] at hp1
      have HD1 : Hid ((∀ p ∈ ps1, ∀ g, p.1.ownBlock = some g → g < w2.heap.size) ∧ (∀ g, v1.ownBlock = some g → g < w2.heap.size) ∧ ps1.map Prod.snd = L) := ⟨hR1.lt.1, hR1.lt.2, hm1⟩
      obtain ⟨g1, cp1, a0, z0, c0, a1, z1, c1, e2, hl2, hcl2, hcl3, hz0, hz1, hcl4, hcl5⟩ := two_first hR1 (hm1.trans HL0.out) (Wn.uint_pos _) (Wn.uint_pos _)
      unfold maxLen at hcl3
      subst e2
      have HCEL : Hid (∀ w', Below w2.heap.size w2 w' → w'.cell? ⟨g1, 0, none⟩ = some (.slice a0 z0 c0) ∧ w'.cell? ⟨g1, 1, none⟩ = some (.slice a1 z1 c1)) := fun w' hb => ⟨(hb.cell (p := ⟨g1, 0, none⟩) (World.block_lt_of_cell? _ _ hcl4)).trans hcl4, (hb.cell (p := ⟨g1, 1, none⟩) (World.block_lt_of_cell? _ _ hcl5)).trans hcl5⟩
      have HR1 : Hid (∀ w', Below w2.heap.size w2 w' → Ans w1.heap.size w' (.slice (some ⟨g1, 0, none⟩) ps1.length cp1) ps1 ∧ Ps w' (.slice (some ⟨g1, 0, none⟩) ps1.length cp1) L) := fun w' hb => ⟨hR1.kept hb, hp1.kept hb⟩
      have HCW : Hid (Calls Tryd.prog 8 #[.slice (some ⟨g1, 0, none⟩) ps1.length cp1] w2 fun e w' => ∃ v', e = .returned v' ∧ OwnP w2.heap.size w' v' L ∧ Below w2.heap.size w2 w') := keptE_any (.slice (some ⟨g1, 0, none⟩) ps1.length cp1) L w2 hp1 HSH.out (by omega)
      clear hR1 hm1 hp1 hcl4 hcl5 HL0
      go_wp2_with fail
      refine HCW.out.mono ?_
      rintro e w3 ⟨vws, rfl, hWs, b3⟩
      have HWS : Hid (∀ w', (∀ g, w2.heap.size ≤ g → g < w3.heap.size → w'.heap[g]? = w3.heap[g]?) → Ps w' vws L) := fun w' hs => (ownP_frame hWs hs).ps
      have HW3 : Hid (∀ w', Below w3.heap.size w3 w' → Ps w' vws L) := fun w' hb => HWS.out w' fun g _ hg => hb.block g hg
      have B13 := andThen b2 b3
      clear hWs HCW
      go_wp2_with fail
      refine (HAY.out _ B13).mono ?_
      rintro e w4 ⟨v2, ps2, rfl, hR2, hm2, b4⟩
      have hn2 : ps2.length ≤ 4300000 := by
        have h9 := hsl
        rw [← hm2, List.length_map] at h9
        exact h9
      have hp2 := hR2.ps
      rw [hm2] at hp2
      have HR2 : Hid (∀ w', Below w4.heap.size w4 w' → Ans w3.heap.size w' v2 ps2 ∧ Ps w' v2 L) := fun w' hb => ⟨hR2.kept hb, hp2.kept hb⟩
      have HD2 : Hid ((∀ p ∈ ps2, ∀ g, p.1.ownBlock = some g → w3.heap.size ≤ g) ∧ ps2.map Prod.snd = L) := ⟨hR2.ge, hm2⟩
      clear hR2 hm2 hp2
      have HS1 : Hid (∀ w', Below w4.heap.size w4 w' → Calls Tryd.prog 10 #[.slice (some ⟨g1, 0, none⟩) ps1.length cp1, vws] w' fun e w'' => e = .returned (.bool true) ∧ Below w'.heap.size w' w'') := fun w' hb => sameAll_yes _ _ L w' (HR1.out _ (andThen b3 (andThen b4 hb))).2 (HW3.out _ (andThen b4 hb))
      have HS2 : Hid (∀ w', Below w4.heap.size w4 w' → Calls Tryd.prog 10 #[v2, vws] w' fun e w'' => e = .returned (.bool true) ∧ Below w'.heap.size w' w'') := fun w' hb => sameAll_yes _ _ L w' (HR2.out _ hb).2 (HW3.out _ (andThen b4 hb))
      have HCE4 : Hid (∀ w', Below w4.heap.size w4 w' → w'.cell? ⟨g1, 0, none⟩ = some (.slice a0 z0 c0) ∧ w'.cell? ⟨g1, 1, none⟩ = some (.slice a1 z1 c1)) := fun w' hb => HCEL.out _ (andThen b3 (andThen b4 hb))
      obtain ⟨k0', k1'⟩ := HCE4.out _ (Below.refl _ _)
      have d0 : ((z0 : Int) == 0) = false := beq_eq_false_iff_ne.2 (by omega)
      have d1 : ((z1 : Int) == 0) = false := beq_eq_false_iff_ne.2 (by omega)
      have hli : (1 : Int) < (ps1.length : Int) := by omega
      clear HCEL
      go_wp2_with fail
      refine (HS1.out _ (Below.refl _ _)).mono ?_
      rintro e w5 ⟨rfl, b5⟩
      go_wp2_with fail
      refine (HS2.out _ b5).mono ?_
      rintro e w6 ⟨rfl, b6⟩
      have B46 := andThen b5 b6
      have B36 := andThen b4 B46
      have B26 := andThen b3 B36
      have hR1 := (HR1.out _ B26).1
      have hR2 := (HR2.out _ B46).1
      have h23 : w2.heap.size ≤ w3.heap.size := b3.size
      have h12 : w1.heap.size ≤ w2.heap.size := b2.size
      have h26 : w2.heap.size ≤ w6.heap.size := B26.size
      clear HS1 HS2 HCE4 k0' k1' d0 d1
      go_wp2_with (at_builtin; refine wpList_append_ans _ rfl (.tmp 83) (.tmp 84) 23 rfl w1.heap.size w3.heap.size hib Tryd.underlying23 _ v2 ps1 ps2 rfl rfl hR1 hR2 (by omega) (fun p hp g hg => Nat.lt_of_lt_of_le (HD1.out.1 p hp g hg) h23) (fun g hg => Nat.lt_of_lt_of_le (HD1.out.2.1 g hg) h23) (by omega) (by omega) ?_)
      intro v3 w7 hR3 hg7
      have b7 : Below w1.heap.size w6 w7 := grown_below hR1.row hg7 (by omega)
      have S7 : Hid (∀ g, w2.heap.size ≤ g → g < w3.heap.size → w7.heap[g]? = w3.heap[g]?) := fun g h1 h2 => (hg7.block g (Nat.lt_of_lt_of_le h2 B36.size) (fun e => by
        have := HD1.out.2.1 g e.symm
        omega)).trans (B36.block g h2)
      have B17 : Below w1.heap.size w1 w7 := (andThen b2 B26).trans b7
      have hn3 : (ps1 ++ ps2).length ≤ 9000000 := by rw [List.length_append]; omega
      have HS3 : Hid (∀ p ∈ ps1 ++ ps2, p.2.length ≤ 8388608) := fun p hp => by
        rcases List.mem_append.1 hp with hp | hp
        · exact HSH.out p.2 (by rw [← HD1.out.2.2]; exact List.mem_map.2 ⟨p, hp, rfl⟩)
        · exact HSH.out p.2 (by rw [← HD2.out.2]; exact List.mem_map.2 ⟨p, hp, rfl⟩)
      have HDD : Hid (∀ g, w2.heap.size ≤ g → g < w3.heap.size → ∀ d ∈ (ps1 ++ ps2).map Prod.fst, d.ownBlock ≠ some g) := fun g h1 h2 d hd e => by
        obtain ⟨p, hp, rfl⟩ := List.mem_map.1 hd
        rcases List.mem_append.1 hp with hp | hp
        · have := HD1.out.1 p hp g e
          omega
        · have := HD2.out.1 p hp g e
          omega
      have HF3 : Hid (Calls Tryd.prog 11 #[v3] w7 fun e w' => ∃ vm fs, e = .returned vm ∧ Fil w1.heap.size w' v3 vm (ps1 ++ ps2) fs ∧ Below w1.heap.size w7 w' ∧ Frm ((ps1 ++ ps2).map Prod.fst) w7 w') := filledA hR3 hn3 HS3.out (Nat.le_refl _) B17.size
      have h37 : w3.heap.size ≤ w7.heap.size := Nat.le_trans B36.size hg7.size
      clear hR1 hR2 hR3 hg7 b7 HR1 HR2 HD1 HD2 B36 B26 B46 b4 b5 b6 b2 b3 B13 HW3 hcl2 hcl3 hl2 hli
      generalize ps1 ++ ps2 = ps3 at *
      go_wp2_with fail
      refine HF3.out.mono ?_
      rintro e w9 ⟨vm3, fs3, rfl, hA3, b9, hF9⟩
      have HWS9 : Hid (∀ w', Below w9.heap.size w9 w' → Ps w' vws L) := fun w' hb => (HWS.out w9 fun g h1 h2 => (hF9.same g (Nat.lt_of_lt_of_le h2 h37) (HDD.out g h1 h2)).trans (S7.out g h1 h2)).kept hb
      have B19 : Below w1.heap.size w1 w9 := B17.trans b9
      have HA3 : Hid (∀ w', Below w9.heap.size w9 w' → Calls Tryd.prog 12 #[v3, vm3] w' fun e w'' => e = .returned (.bool true) ∧ w'' = w') := fun w' hb => standA (hA3.kept hb) hn3 HS3.out (Nat.le_refl _)
      have HIN9 : Hid (∀ w', Below w9.heap.size w9 w' → Ps w' vin gs ∧ Ps w' (.slice ar gs.length cr) gs ∧ Bs w' (.slice ab lb.length cb) lb ∧ Bs w' vwh lb ∧ Below w0.heap.size w0 w') := fun w' hb => HIN.out _ (andThen B19 hb)
      clear hA3 b9 hF9 HF3 S7 HWS HDD HIN B17 h37
      go_wp2_with fail
      refine (HAY.out _ B19).mono ?_
      rintro e w10 ⟨v4, ps4, rfl, hR4, hm4, b10⟩
      have hn4 : ps4.length ≤ 9000000 := by
        rw [← hm4, List.length_map] at hsl
        omega
      have hp4 := hR4.ps
      rw [hm4] at hp4
      have HR4 : Hid (∀ w', Below w10.heap.size w10 w' → Ans w9.heap.size w' v4 ps4 ∧ Ps w' v4 L) := fun w' hb => ⟨hR4.kept hb, hp4.kept hb⟩
      have HS4 : Hid (∀ p ∈ ps4, p.2.length ≤ 8388608) := fun p hp => HSH.out p.2 (by rw [← hm4]; exact List.mem_map.2 ⟨p, hp, rfl⟩)
      clear hR4 hm4 hp4
      go_wp2_with fail
      refine (HA3.out _ b10).mono ?_
      rintro e w11 ⟨rfl, rfl⟩
      have HS5 : Hid (Calls Tryd.prog 10 #[v4, vws] w11 fun e w' => e = .returned (.bool true) ∧ Below w11.heap.size w11 w') := sameAll_yes _ _ L w11 (HR4.out _ (Below.refl _ _)).2 (HWS9.out _ b10)
      go_wp2_with fail
      refine HS5.out.mono ?_
      rintro e w12 ⟨rfl, b12⟩
      have B912 := andThen b10 b12
      have HF6 : Hid (Calls Tryd.prog 11 #[v4] w12 fun e w' => ∃ vm fs, e = .returned vm ∧ Fil w9.heap.size w' v4 vm ps4 fs ∧ Below w9.heap.size w12 w' ∧ Frm (ps4.map Prod.fst) w12 w') := filledA (HR4.out _ b12).1 hn4 HS4.out (Nat.le_refl _) B912.size
      clear HS5 HR4
      go_wp2_with fail
      refine HF6.out.mono ?_
      rintro e w15 ⟨vm6, fs6, rfl, hA6, b15, _⟩
      have B915 : Below w9.heap.size w9 w15 := B912.trans b15
      have HA6 : Hid (∀ w', Below w15.heap.size w15 w' → Calls Tryd.prog 12 #[v4, vm6] w' fun e w'' => e = .returned (.bool true) ∧ w'' = w') := fun w' hb => standA (hA6.kept hb) hn4 HS4.out (Nat.le_refl _)
      clear hA6 b15 HF6 B912
      go_wp2_with fail
      refine (HAY.out _ (andThen B19 B915)).mono ?_
      rintro e w16 ⟨v5, ps5, rfl, hR5, hm5, b16⟩
      have hp5 := hR5.ps
      rw [hm5] at hp5
      have B916 := andThen B915 b16
      have HS7 : Hid (Calls Tryd.prog 10 #[v5, vws] w16 fun e w' => e = .returned (.bool true) ∧ Below w16.heap.size w16 w') := sameAll_yes _ _ L w16 hp5 (HWS9.out _ B916)
      clear hR5 hm5 hp5 HAY
      go_wp2_with fail
      refine (HA3.out _ B916).mono ?_
      rintro e w17 ⟨rfl, rfl⟩
      go_wp2_with fail
      refine (HA6.out _ b16).mono ?_
      rintro e w18 ⟨rfl, rfl⟩
      go_wp2_with fail
      refine HS7.out.mono ?_
      rintro e w20 ⟨rfl, b20⟩
      have B920 := andThen B916 b20
      clear HS7
      have HS8 : Hid (Calls Tryd.prog 13 #[.slice ab lb.length cb, vwh] w20 fun e w' => e = .returned (.bool true) ∧ Below w20.heap.size w20 w') := same_yes _ _ lb w20 (HIN9.out _ B920).2.2.1 (HIN9.out _ B920).2.2.2.1
      go_wp2_with fail
      refine HS8.out.mono ?_
      rintro e w21 ⟨rfl, b21⟩
      have B921 := andThen B920 b21
      clear HS8
      have HS9 : Hid (Calls Tryd.prog 10 #[.slice ar gs.length cr, vin] w21 fun e w' => e = .returned (.bool true) ∧ Below w21.heap.size w21 w') := sameAll_yes _ _ gs w21 (HIN9.out _ B921).2.1 (HIN9.out _ B921).1
      go_wp2_with fail
      refine HS9.out.mono ?_
      rintro e w22 ⟨rfl, b22⟩
      have B22 := (HIN9.out _ (andThen B921 b22)).2.2.2.2
      clear HS9
      go_wp2
      go_ret
      exact ⟨rfl, B22⟩
end Go.Proofs.YtppgijgmhjfdfaaDoor
