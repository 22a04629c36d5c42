import Derived.Test.YtppabcihbpbfpaaDoorQK26
/-
  ManifestMany: the walk.
-/
namespace Go.Proofs.YtppabcihbpbfpaaDoor
open Go Go.RowKit Go.ChangeShapes
open Wb
open Rd
def mineV : Value := .string ⟨#[109, 105, 110, 101]⟩
def yourV : Value := .string ⟨#[121, 111, 117, 114, 115]⟩
theorem infoStr : (Tryd.prog.info? 9).map (fun i => (i.zero, i.size, i.bytes)) = some (some (.string ⟨#[]⟩), 1, 16) := by kernel_rfl
/-- a row of one and the same: a place of it -/
theorem mk_at {c : Value} {B : Nat} {w : World} {a : Option Addr} {n cap : Nat} (h : Mg.Mk 9 [c] B w (.slice a n cap) n) (i : Nat) (hi : i < n) : ∃ g, a = some ⟨g, 0, none⟩ ∧ w.cell? ⟨g, i, none⟩ = some c := by
  rcases h.2 with ⟨e, h0⟩ | ⟨g, cap', cur, e, -⟩
  · omega
  · simp only [Value.slice.injEq] at e
    obtain ⟨rfl, -, rfl⟩ := e
    refine ⟨g, rfl, ?_⟩
    have h9 := World.ownsRow.cellAt h i (by show i < n * 1; omega)
    rw [h9, Mg.pat_get [c] n i (by show i < n * 1; omega)]
    show [c][i % 1]? = some c
    rw [Nat.mod_one]
    rfl
set_option maxRecDepth 100000 in
set_option maxHeartbeats 32000000 in
theorem manifestMany_walk (n k o : Int) (w : World) (hT : NTab w) :
    Calls Tryd.prog 3 #[.int .i64 n, .int .i64 k, .int .i64 o] w fun e w' => e = .returned (.bool true) ∧ Below w.heap.size w w' := by
  have HTT : Hid (∀ W, Below w.heap.size w W → NTab W) := fun W hW => hT.kept hW
  clear hT
  obtain ⟨N, HN1, hN2, hN3⟩ : ∃ N : Nat, min (max n 1) 600 = (N : Int) ∧ 1 ≤ N ∧ N ≤ 600 := ⟨(min (max n 1) 600).toNat, by omega, by omega, by omega⟩
  obtain ⟨O, HO1, hO2, hO3⟩ : ∃ O : Nat, min (max o 1) 600 = (O : Int) ∧ 1 ≤ O ∧ O ≤ 600 := ⟨(min (max o 1) 600).toNat, by omega, by omega, by omega⟩
  have HNO : Hid (min (max n 1) 600 = (N : Int) ∧ min (max o 1) 600 = (O : Int)) := ⟨HN1, HO1⟩
  clear HN1 HO1
  obtain ⟨bad, hbad⟩ : ∃ b, b = decide (k < 1 ∨ k > (N : Int)) := ⟨_, rfl⟩
  have HBAD : Hid (bad = decide (k < 1 ∨ k > (N : Int))) := hbad
  clear hbad
  go_enter Tryd.func3, Tryd.ntmps3
  go_upto_region 3 with fail
  rw [HNO.out.1, HNO.out.2]
  go_cut [32] from 26 to 31 (fun s wx => s = .bool bad ∧ w = wx)
  case first =>
    by_cases h1 : k < 1
    · have t1 : (k < 1) = True := eq_true h1
      have HZ : Hid (bad = true) := by rw [HBAD.out]; exact decide_eq_true (.inl h1)
      clear h1
      go_wp2_with fail
      go_meet
      exact ⟨by rw [HZ.out], rfl⟩
    · have t1 : (k < 1) = False := eq_false h1
      by_cases h2 : k > (N : Int)
      · have t2 : (k > (N : Int)) = True := eq_true h2
        have HZ : Hid (bad = true) := by rw [HBAD.out]; exact decide_eq_true (.inr h2)
        clear h1 h2
        go_wp2_with fail
        go_meet
        exact ⟨by rw [HZ.out], rfl⟩
      · have t2 : (k > (N : Int)) = False := eq_false h2
        have HZ : Hid (bad = false) := by rw [HBAD.out]; exact decide_eq_false fun e => e.elim h1 h2
        clear h1 h2
        go_wp2_with fail
        go_meet
        exact ⟨by rw [HZ.out], rfl⟩
  case rest =>
    obtain ⟨rfl, rfl⟩ := hcut
    go_upto_if 32 with fail
    go_cut [1] from 33 to 33 (fun s wx => (∃ K : Nat, s = .int .i64 (K : Int) ∧ 1 ≤ K ∧ K ≤ N) ∧ w = wx)
    case first =>
      cases bad with
      | true =>
        go_wp2_with fail
        go_meet
        exact ⟨⟨N, rfl, hN2, Nat.le_refl _⟩, rfl⟩
      | false =>
        have hk1 : 1 ≤ k ∧ k ≤ (N : Int) := by
          have h9 := HBAD.out
          have h8 := of_decide_eq_false h9.symm
          omega
        obtain ⟨K, rfl⟩ : ∃ K : Nat, k = (K : Int) := ⟨k.toNat, by omega⟩
        go_wp2_with fail
        go_meet
        exact ⟨⟨K, rfl, by omega, by omega⟩, rfl⟩
    case rest =>
      obtain ⟨⟨K, rfl, hK1, hK2⟩, rfl⟩ := hcut
      have HSW : Hid (Calls Tryd.prog 4 #[.int .i64 (N : Int), .int .i64 (K : Int)] w (SwP N K w)) := swept_any N K w (HTT.out w (Below.refl _ _)) ⟨hN2, hN3⟩ ⟨hK1, hK2⟩
      go_wp2_with fail
      refine HSW.out.mono ?_
      rintro e W1 ⟨aa, am, ac, ns, rfl, hm, hnr, hl, hnd, hall, b1⟩
      have H1 : Hid (NmR w.heap.size W1 (.slice aa am ac) ns ∧ am = ns.length ∧ ns.length = N - 1 ∧ ns.Nodup ∧ (∀ s ∈ ns, ∃ i, 1 ≤ i ∧ i ≤ N ∧ i ≠ K ∧ s = Sw.sN i) ∧ Below w.heap.size w W1) := ⟨hnr, hm, hl, hnd, hall, b1⟩
      have hamb : am ≤ 600 := by omega
      clear hm hnr hl hnd hall b1 HSW
      go_wp2_with fail
      go_loopw [9] (fun i wx => ∃ j : Nat, j ≤ am ∧ i = .int .i64 (j : Int) ∧ Below W1.heap.size W1 wx) (fun i _ => am - (intOf i).toNat)
      case atStart => exact ⟨0, Nat.zero_le _, rfl, Below.refl _ _⟩
      case round =>
        obtain ⟨j, hj, rfl, hbx⟩ := hrel
        have HX : Hid (Below W1.heap.size W1 wr) := hbx
        clear hbx
        by_cases hlt : j < am
        · have hjn : j < ns.length := by
            have := H1.out.2.1
            omega
          obtain ⟨b, c, e, -⟩ := NmR.read H1.out.1 j _ (List.getElem?_eq_getElem hjn)
          have HCE : Hid (∀ (W : World), Below W1.heap.size W1 W → ∀ (q : Nat) (s : List UInt8), ns[q]? = some s → W.cell? ⟨b, q, none⟩ = some (.string ⟨s.toArray⟩)) := fun W hW q s hs => by
            obtain ⟨b2, c2, e2, hc⟩ := NmR.read H1.out.1 q s hs
            rw [e] at e2
            simp only [Value.slice.injEq, Option.some.injEq, Addr.mk.injEq, and_true] at e2
            obtain ⟨rfl, -, -⟩ := e2
            exact (hW.cell (World.block_lt_of_cell? _ _ hc)).trans hc
          simp only [Value.slice.injEq] at e
          obtain ⟨rfl, -, rfl⟩ := e
          obtain ⟨ii, i1, i2, i3, hsi⟩ := H1.out.2.2.2.2.1 _ (List.getElem_mem hjn)
          obtain ⟨s, hs⟩ : ∃ s, s = ns[j] := ⟨_, rfl⟩
          have HSJ : Hid (ns[j]? = some s) := by
            show _ = _
            rw [hs]
            exact List.getElem?_eq_getElem hjn
          rw [← hs] at hsi
          have HNU : Hid (∀ W, Calls Tryd.prog 5 #[.string ⟨s.toArray⟩] W fun e w' => e = .returned (.tuple #[.int .i64 (ii : Int), .bool true]) ∧ Below W.heap.size W w') := fun W => by
            have h9 := r8num_any ⟨s.toArray⟩ (by
              show s.toArray.size ≤ _
              have := (Dk.isNm_len (Sw.sN_nm (i := ii) i1 (by omega))).2
              rw [← hsi] at this
              simp
              omega) W
            have h8 : rNum s = ((ii : Int), true) := by
              rw [← nums_same, hsi, Sw.sN_num i1 (by omega)]
            have h7 : (⟨s.toArray⟩ : ByteArray).data.toList = s := by simp
            rw [h7, h8] at h9
            exact h9
          have r0 := HCE.out wr HX.out j s HSJ.out
          have x1 : ((ii : Int) < 1) = False := eq_false (by omega)
          have x2 : ((ii : Int) > (N : Int)) = False := eq_false (by omega)
          have x3 : ((ii : Int) == (K : Int)) = false := by
            rw [beq_eq_false_iff_ne]
            omega
          clear hs hsi
          go_wp2_with fail
          refine (HNU.out _).mono ?_
          rintro e W2 ⟨rfl, b2⟩
          have H2 : Hid (Below W1.heap.size W1 W2) := andThen HX.out b2
          clear b2 r0
          go_wp2_with fail
          obtain ⟨Wo, hWo⟩ : ∃ x, x = wr := ⟨_, rfl⟩
          subst hWo
          go_loopw [12] (fun i wx => ∃ q : Nat, q ≤ j ∧ i = .int .i64 (q : Int) ∧ Below W1.heap.size W1 wx) (fun i _ => j - (intOf i).toNat)
          case atStart => exact ⟨0, Nat.zero_le _, rfl, H2.out⟩
          case round =>
            obtain ⟨q, hq, rfl, hbx⟩ := hrel
            have HY : Hid (Below W1.heap.size W1 wr) := hbx
            clear hbx
            by_cases hqj : q < j
            · by_cases h50 : N < 50
              · obtain ⟨t, ht⟩ : ∃ t, ns[q]? = some t := ⟨_, List.getElem?_eq_getElem (by omega)⟩
                have q0 := HCE.out wr HY.out q t ht
                have q1 := HCE.out wr HY.out j s HSJ.out
                have xq : (t == s) = false := by
                  rw [beq_eq_false_iff_ne]
                  intro e
                  obtain ⟨h2, h3⟩ := List.getElem?_eq_some_iff.1 ht
                  obtain ⟨h4, h5⟩ := List.getElem?_eq_some_iff.1 HSJ.out
                  have := (List.pairwise_iff_getElem.1 H1.out.2.2.2.1) q j h2 h4 hqj
                  exact this (by rw [h3, h5, e])
                clear ht
                go_upto_region 17 with fail
                go_quiet (fail)
                go_wp2_with fail
                go_roundw
                case rel => exact ⟨q + 1, by omega, by go_num, bel_drewN HY.out _⟩
                case measure => simp [intOf]; omega
              · go_wp2_with fail
                go_roundw
                case rel => exact ⟨j + 1, by omega, by go_num, HY.out⟩
                case measure => simp [intOf]; omega
            · go_wp2_with fail
              go_roundw
              case rel => exact ⟨j + 1, by omega, by go_num, HY.out⟩
              case measure => simp [intOf]; omega
        · obtain ⟨Wo, hWo⟩ : ∃ x, x = wr := ⟨_, rfl⟩
          subst hWo
          have HSW2 : Hid (Calls Tryd.prog 4 #[.int .i64 (O : Int), .int .i64 (O : Int)] Wo (SwP O O Wo)) := swept_any O O Wo (HTT.out Wo (andThen H1.out.2.2.2.2.2 HX.out)) ⟨hO2, hO3⟩ ⟨hO2, Nat.le_refl _⟩
          go_wp2_with fail
          refine HSW2.out.mono ?_
          rintro e W3 ⟨ba, bm, bc, ms, rfl, hm2, hnr2, hl2, -, -, b3⟩
          have hbmb : bm ≤ 600 := by omega
          obtain ⟨XA, hXA⟩ : ∃ X, X = ns.flatMap enStr := ⟨_, rfl⟩
          obtain ⟨XB, hXB⟩ : ∃ X, X = ms.flatMap enStr := ⟨_, rfl⟩
          have HXL : Hid (XA.length = am * 1 ∧ XB.length = bm * 1) := by
            rw [hXA, hXB, flat_str, flat_str, List.length_map, List.length_map, Nat.mul_one, Nat.mul_one]
            exact ⟨H1.out.2.1.symm, hm2.symm⟩
          have hs1 := HX.out.size
          have HGA : Hid (∀ q, (Value.slice aa am ac).ownBlock = some q → q < Wo.heap.size ∧ w.heap.size ≤ q) := fun q e => ⟨Nat.lt_of_lt_of_le (World.ownsRow.lt H1.out.1 q e).2 hs1, (World.ownsRow.lt H1.out.1 q e).1⟩
          have hwo : w.heap.size ≤ Wo.heap.size := Nat.le_trans H1.out.2.2.2.2.2.size hs1
          have HWO : Hid (w.heap.size ≤ Wo.heap.size) := hwo
          have H3 : Hid (W3.ownsRow w.heap.size 9 1 (.slice aa am ac) am (Mg.fil [.string ⟨#[109, 105, 110, 101]⟩] XA 0) ∧ W3.ownsRow Wo.heap.size 9 1 (.slice ba bm bc) bm XB ∧ Below w.heap.size w W3) := by
            refine ⟨?_, ?_, andThen (andThen H1.out.2.2.2.2.2 HX.out) b3⟩
            · rw [Mg.fil_zero, hXA]
              have h9 := Mg.row_kept H1.out.1 (andThen HX.out b3)
              rw [← H1.out.2.1] at h9
              exact h9
            · have h9 : W3.ownsRow Wo.heap.size 9 1 (.slice ba bm bc) ms.length (ms.flatMap enStr) := hnr2
              rw [← hm2, ← hXB] at h9
              exact h9
          clear hm2 hnr2 hl2 b3 hXA hXB hs1 hwo HSW2 H1 HX
          go_wp2_with fail
          go_loopw [14] (fun i wx => ∃ j : Nat, j ≤ am ∧ i = .int .i64 (j : Int) ∧ wx.ownsRow w.heap.size 9 1 (.slice aa am ac) am (Mg.fil [.string ⟨#[109, 105, 110, 101]⟩] XA j) ∧ wx.ownsRow Wo.heap.size 9 1 (.slice ba bm bc) bm XB ∧ Below w.heap.size w wx) (fun i _ => am - (intOf i).toNat)
          case atStart => exact ⟨0, Nat.zero_le _, rfl, H3.out.1, H3.out.2.1, H3.out.2.2⟩
          case round =>
            obtain ⟨j3, hj3, rfl, hra, hrb, hbw⟩ := hrel
            have HY : Hid (wr.ownsRow w.heap.size 9 1 (.slice aa am ac) am (Mg.fil [.string ⟨#[109, 105, 110, 101]⟩] XA j3) ∧ wr.ownsRow Wo.heap.size 9 1 (.slice ba bm bc) bm XB ∧ Below w.heap.size w wr) := ⟨hra, hrb, hbw⟩
            clear hrb hbw
            by_cases hlt3 : j3 < am
            · obtain ⟨g, rfl, hth, hrow2, hgr2, hBg⟩ := Mg.fill_step (cs := [.string ⟨#[109, 105, 110, 101]⟩]) (by decide) HXL.out.1 hra hlt3
              have e1 : j3 * List.length (α := Value) [.string ⟨#[109, 105, 110, 101]⟩] = j3 := Nat.mul_one _
              rw [e1] at hth hrow2 hgr2
              obtain ⟨u0, hu0⟩ := Option.isSome_iff_exists.1 (hth 0 (Nat.zero_lt_one)).1
              have f0 : wr.frozen? ⟨g, j3, none⟩ = false := (hth 0 (Nat.zero_lt_one)).2
              have hu1 : wr.cell? ⟨g, j3, none⟩ = some u0 := hu0
              have HR : Hid ((wr.setCell ⟨g, j3, none⟩ (.string ⟨#[109, 105, 110, 101]⟩)).ownsRow w.heap.size 9 1 (.slice (some ⟨g, 0, none⟩) am ac) am (Mg.fil [.string ⟨#[109, 105, 110, 101]⟩] XA (j3 + 1)) ∧ (wr.setCell ⟨g, j3, none⟩ (.string ⟨#[109, 105, 110, 101]⟩)).ownsRow Wo.heap.size 9 1 (.slice ba bm bc) bm XB ∧ Below w.heap.size w (wr.setCell ⟨g, j3, none⟩ (.string ⟨#[109, 105, 110, 101]⟩))) := by
                refine ⟨hrow2, ?_, HY.out.2.2.grown hgr2 HY.out.2.2.size fun q e => by rw [← Option.some.inj e]; exact hBg⟩
                refine Mg.row_other HY.out.2.1 hgr2 fun q e e2 => ?_
                have h1 := (World.ownsRow.lt HY.out.2.1 q e).1
                have h2 := (HGA.out g rfl).1
                have h3 := Option.some.inj e2
                omega
              clear hra hth hrow2 hgr2 hBg e1 hu0
              go_wp2_with fail
              go_roundw
              case rel => exact ⟨j3 + 1, by omega, by go_num, HR.out.1, HR.out.2.1, HR.out.2.2⟩
              case measure => simp [intOf]; omega
            · obtain ⟨W4, hW4⟩ : ∃ x, x = wr := ⟨_, rfl⟩
              subst hW4
              have hje : j3 = am := by omega
              have HMA : Hid (Mg.Mk 9 [.string ⟨#[109, 105, 110, 101]⟩] w.heap.size W4 (.slice aa am ac) am ∧ W4.ownsRow Wo.heap.size 9 1 (.slice ba bm bc) bm XB ∧ Below w.heap.size w W4) := by
                refine ⟨?_, HY.out.2.1, HY.out.2.2⟩
                have h9 := HY.out.1
                rw [hje, Mg.fil_end _ _ _ HXL.out.1] at h9
                exact h9
              clear hje hra HY
              have HAP : Hid (∃ la lc W5, (Builtin.append_ #[22, 22] 22 #[(.slice aa am ac), .slice (some ⟨W4.heap.size, 0, none⟩) 3 3]).run Tryd.prog (W4.alloc (.cells #[.string ⟨#[109, 105, 110, 101]⟩, .string ⟨#[109, 105, 110, 101]⟩, .string ⟨#[109, 105, 110, 101]⟩] 9)) = .ok (.slice la (am + 3) lc) W5 ∧ Mg.Mk 9 [.string ⟨#[109, 105, 110, 101]⟩] w.heap.size W5 (.slice la (am + 3) lc) (am + 3) ∧ Mg.Mk 9 [.string ⟨#[109, 105, 110, 101]⟩] w.heap.size W5 (.slice aa am ac) am ∧ W5.ownsRow Wo.heap.size 9 1 (.slice ba bm bc) bm (Mg.fil [.string ⟨#[121, 111, 117, 114, 115]⟩] XB 0) ∧ Below w.heap.size w W5 ∧ ∀ q, (Value.slice la (am + 3) lc).ownBlock = some q → (Value.slice ba bm bc).ownBlock ≠ some q) := by
                have b5 := up0 W4 (.cells #[.string ⟨#[109, 105, 110, 101]⟩, .string ⟨#[109, 105, 110, 101]⟩, .string ⟨#[109, 105, 110, 101]⟩] 9)
                have L5 := lb_new W4 [.string ⟨#[109, 105, 110, 101]⟩, .string ⟨#[109, 105, 110, 101]⟩, .string ⟨#[109, 105, 110, 101]⟩] 9
                have hrb := Mg.row_kept HMA.out.2.1 b5
                obtain ⟨v', W5, hr, k1, k2, k3, k4⟩ := Mg.append_mk (P := Tryd.prog) _ w.heap.size 9 22 22 [.string ⟨#[109, 105, 110, 101]⟩] (.string ⟨#[]⟩) 16 (by decide) (fun u hu => by rw [List.mem_singleton.1 hu]; rfl) infoStr rfl Tryd.underlying22 (.slice aa am ac) am 3 (Mg.row_kept HMA.out.1 b5) W4.heap.size 3 (fun j u hu => L5.cell j u hu) (by omega) (by omega) (Nat.le_trans HMA.out.2.2.size b5.size)
                obtain ⟨la, lc, e9, -⟩ := Mg.row_shape k1
                subst e9
                have hbq : ∀ q, (Value.slice ba bm bc).ownBlock = some q → Wo.heap.size ≤ q ∧ q < W4.heap.size := fun q e => World.ownsRow.lt HMA.out.2.1 q e
                refine ⟨la, lc, W5, hr, k1, k4 _ _ (Mg.row_kept HMA.out.1 b5), ?_, ?_, fun q e e2 => ?_⟩
                · rw [Mg.fil_zero]
                  refine Mg.row_other hrb k2 fun q e e2 => ?_
                  have h1 := (hbq q e).1
                  have h2 := (HGA.out q e2).1
                  omega
                · exact (andThen HMA.out.2.2 b5).grown k2 (andThen HMA.out.2.2 b5).size fun q e => (HGA.out q e).2
                · have h1 := hbq q e2
                  rcases k3 with e3 | e3
                  · have h2 := (HGA.out q (e3.symm.trans e)).1
                    omega
                  · rw [e3] at e
                    have h3 := Option.some.inj e
                    have h4 := b5.size
                    omega
              obtain ⟨la, lc, W5, hr5, m1, m2, m3, m4, m5⟩ := HAP.out
              have H5 : Hid (Mg.Mk 9 [.string ⟨#[109, 105, 110, 101]⟩] w.heap.size W5 (.slice la (am + 3) lc) (am + 3) ∧ Mg.Mk 9 [.string ⟨#[109, 105, 110, 101]⟩] w.heap.size W5 (.slice aa am ac) am ∧ W5.ownsRow Wo.heap.size 9 1 (.slice ba bm bc) bm (Mg.fil [.string ⟨#[121, 111, 117, 114, 115]⟩] XB 0) ∧ Below w.heap.size w W5 ∧ ∀ q, (Value.slice la (am + 3) lc).ownBlock = some q → (Value.slice ba bm bc).ownBlock ≠ some q) := ⟨m1, m2, m3, m4, m5⟩
              clear m1 m2 m3 m4 m5 HAP HMA
              go_wp2_with (at_builtin; refine wpList_appRun rfl (.tmp 107) (.tmp 108) 22 rfl rfl rfl hr5 ?_)
              clear hr5
              go_loopw [16] (fun i wx => ∃ j : Nat, j ≤ bm ∧ i = .int .i64 (j : Int) ∧ wx.ownsRow Wo.heap.size 9 1 (.slice ba bm bc) bm (Mg.fil [.string ⟨#[121, 111, 117, 114, 115]⟩] XB j) ∧ Mg.Mk 9 [.string ⟨#[109, 105, 110, 101]⟩] w.heap.size wx (.slice la (am + 3) lc) (am + 3) ∧ Mg.Mk 9 [.string ⟨#[109, 105, 110, 101]⟩] w.heap.size wx (.slice aa am ac) am ∧ Below w.heap.size w wx) (fun i _ => bm - (intOf i).toNat)
              case atStart => exact ⟨0, Nat.zero_le _, rfl, H5.out.2.2.1, H5.out.1, H5.out.2.1, H5.out.2.2.2.1⟩
              case round =>
                obtain ⟨j4, hj4, rfl, hrb, hml, hma, hbw⟩ := hrel
                have HZ : Hid (wr.ownsRow Wo.heap.size 9 1 (.slice ba bm bc) bm (Mg.fil [.string ⟨#[121, 111, 117, 114, 115]⟩] XB j4) ∧ Mg.Mk 9 [.string ⟨#[109, 105, 110, 101]⟩] w.heap.size wr (.slice la (am + 3) lc) (am + 3) ∧ Mg.Mk 9 [.string ⟨#[109, 105, 110, 101]⟩] w.heap.size wr (.slice aa am ac) am ∧ Below w.heap.size w wr) := ⟨hrb, hml, hma, hbw⟩
                clear hml hma hbw
                by_cases hlt4 : j4 < bm
                · obtain ⟨g, rfl, hth, hrow2, hgr2, hBg⟩ := Mg.fill_step (cs := [.string ⟨#[121, 111, 117, 114, 115]⟩]) (by decide) HXL.out.2 hrb hlt4
                  have e1 : j4 * List.length (α := Value) [.string ⟨#[121, 111, 117, 114, 115]⟩] = j4 := Nat.mul_one _
                  rw [e1] at hth hrow2 hgr2
                  obtain ⟨u0, hu0⟩ := Option.isSome_iff_exists.1 (hth 0 (Nat.zero_lt_one)).1
                  have f0 : wr.frozen? ⟨g, j4, none⟩ = false := (hth 0 (Nat.zero_lt_one)).2
                  have hu1 : wr.cell? ⟨g, j4, none⟩ = some u0 := hu0
                  have HR : Hid ((wr.setCell ⟨g, j4, none⟩ (.string ⟨#[121, 111, 117, 114, 115]⟩)).ownsRow Wo.heap.size 9 1 (.slice (some ⟨g, 0, none⟩) bm bc) bm (Mg.fil [.string ⟨#[121, 111, 117, 114, 115]⟩] XB (j4 + 1)) ∧ Mg.Mk 9 [.string ⟨#[109, 105, 110, 101]⟩] w.heap.size (wr.setCell ⟨g, j4, none⟩ (.string ⟨#[121, 111, 117, 114, 115]⟩)) (.slice la (am + 3) lc) (am + 3) ∧ Mg.Mk 9 [.string ⟨#[109, 105, 110, 101]⟩] w.heap.size (wr.setCell ⟨g, j4, none⟩ (.string ⟨#[121, 111, 117, 114, 115]⟩)) (.slice aa am ac) am ∧ Below w.heap.size w (wr.setCell ⟨g, j4, none⟩ (.string ⟨#[121, 111, 117, 114, 115]⟩))) := by
                    refine ⟨hrow2, Mg.row_other HZ.out.2.1 hgr2 fun q e e2 => ?_, Mg.row_other HZ.out.2.2.1 hgr2 fun q e e2 => ?_, HZ.out.2.2.2.grown hgr2 HZ.out.2.2.2.size fun q e => by rw [← Option.some.inj e]; exact Nat.le_trans HWO.out hBg⟩
                    · exact H5.out.2.2.2.2 q e e2
                    · have h2 := (HGA.out q e).1
                      have h3 := Option.some.inj e2
                      omega
                  clear hrb hth hrow2 hgr2 hBg e1 hu0
                  go_wp2_with fail
                  go_roundw
                  case rel => exact ⟨j4 + 1, by omega, by go_num, HR.out.1, HR.out.2.1, HR.out.2.2.1, HR.out.2.2.2⟩
                  case measure => simp [intOf]; omega
                · obtain ⟨W6, hW6⟩ : ∃ x, x = wr := ⟨_, rfl⟩
                  subst hW6
                  have hje : j4 = bm := by omega
                  have HMB : Hid (Mg.Mk 9 [.string ⟨#[121, 111, 117, 114, 115]⟩] Wo.heap.size W6 (.slice ba bm bc) bm ∧ Mg.Mk 9 [.string ⟨#[109, 105, 110, 101]⟩] w.heap.size W6 (.slice la (am + 3) lc) (am + 3) ∧ Mg.Mk 9 [.string ⟨#[109, 105, 110, 101]⟩] w.heap.size W6 (.slice aa am ac) am ∧ Below w.heap.size w W6) := by
                    refine ⟨?_, HZ.out.2⟩
                    have h9 := HZ.out.1
                    rw [hje, Mg.fil_end _ _ _ HXL.out.2] at h9
                    exact h9
                  clear hje hrb HZ
                  have HAP2 : Hid (∃ ga gc W7, (Builtin.append_ #[22, 22] 22 #[(.slice ba bm bc), .slice (some ⟨W6.heap.size, 0, none⟩) 1 1]).run Tryd.prog (W6.alloc (.cells #[.string ⟨#[121, 111, 117, 114, 115]⟩] 9)) = .ok (.slice ga (bm + 1) gc) W7 ∧ Mg.Mk 9 [.string ⟨#[121, 111, 117, 114, 115]⟩] w.heap.size W7 (.slice ga (bm + 1) gc) (bm + 1) ∧ Mg.Mk 9 [.string ⟨#[121, 111, 117, 114, 115]⟩] w.heap.size W7 (.slice ba bm bc) bm ∧ Mg.Mk 9 [.string ⟨#[109, 105, 110, 101]⟩] w.heap.size W7 (.slice la (am + 3) lc) (am + 3) ∧ Mg.Mk 9 [.string ⟨#[109, 105, 110, 101]⟩] w.heap.size W7 (.slice aa am ac) am ∧ Below w.heap.size w W7) := by
                    have b7 := up0 W6 (.cells #[.string ⟨#[121, 111, 117, 114, 115]⟩] 9)
                    have L7 := lb_new W6 [.string ⟨#[121, 111, 117, 114, 115]⟩] 9
                    have hB6 := (World.ownsRow.lt (w := W6)) HMB.out.1
                    obtain ⟨v', W7, hr, k1, k2, k3, k4⟩ := Mg.append_mk (P := Tryd.prog) _ w.heap.size 9 22 22 [.string ⟨#[121, 111, 117, 114, 115]⟩] (.string ⟨#[]⟩) 16 (by decide) (fun u hu => by rw [List.mem_singleton.1 hu]; rfl) infoStr rfl Tryd.underlying22 (.slice ba bm bc) bm 1 (row_low (Mg.row_kept HMB.out.1 b7) HWO.out) W6.heap.size 1 (fun j u hu => L7.cell j u hu) (by omega) (by omega) (Nat.le_trans HMB.out.2.2.2.size b7.size)
                    obtain ⟨ga, gc, e9, -⟩ := Mg.row_shape k1
                    subst e9
                    refine ⟨ga, gc, W7, hr, k1, k4 _ _ (row_low (Mg.row_kept HMB.out.1 b7) HWO.out), Mg.row_other (Mg.row_kept HMB.out.2.1 b7) k2 fun q e e2 => ?_, Mg.row_other (Mg.row_kept HMB.out.2.2.1 b7) k2 fun q e e2 => ?_, (andThen HMB.out.2.2.2 b7).grown k2 (andThen HMB.out.2.2.2 b7).size fun q e => Nat.le_trans HWO.out (hB6 q e).1⟩
                    · exact H5.out.2.2.2.2 q e e2
                    · have h2 := (HGA.out q e).1
                      have h3 := (hB6 q e2).1
                      omega
                  obtain ⟨ga, gc, W7, hr7, m1, m2, m3, m4, m5⟩ := HAP2.out
                  have H7 : Hid (Mg.Mk 9 [.string ⟨#[121, 111, 117, 114, 115]⟩] w.heap.size W7 (.slice ga (bm + 1) gc) (bm + 1) ∧ Mg.Mk 9 [.string ⟨#[121, 111, 117, 114, 115]⟩] w.heap.size W7 (.slice ba bm bc) bm ∧ Mg.Mk 9 [.string ⟨#[109, 105, 110, 101]⟩] w.heap.size W7 (.slice la (am + 3) lc) (am + 3) ∧ Mg.Mk 9 [.string ⟨#[109, 105, 110, 101]⟩] w.heap.size W7 (.slice aa am ac) am ∧ Below w.heap.size w W7) := ⟨m1, m2, m3, m4, m5⟩
                  clear m1 m2 m3 m4 m5 HAP2 HMB
                  go_wp2_with (at_builtin; refine wpList_appRun rfl (.tmp 119) (.tmp 120) 22 rfl rfl rfl hr7 ?_)
                  clear hr7
                  go_loopw [18] (fun i wx => ∃ j : Nat, j ≤ (am + 3) ∧ i = .int .i64 (j : Int) ∧ Below W7.heap.size W7 wx) (fun i _ => (am + 3) - (intOf i).toNat)
                  case atStart => exact ⟨0, Nat.zero_le _, rfl, Below.refl _ _⟩
                  case round =>
                    obtain ⟨j5, hj5, rfl, hbx⟩ := hrel
                    have HV : Hid (Below W7.heap.size W7 wr) := hbx
                    clear hbx
                    by_cases hlt5 : j5 < (am + 3)
                    · obtain ⟨gl, rfl, hcl⟩ := mk_at H7.out.2.2.1 j5 hlt5
                      have q0 := (HV.out.cell (World.block_lt_of_cell? _ _ hcl)).trans hcl
                      clear hcl
                      by_cases hlt6 : j5 < am
                      · obtain ⟨gs, rfl, hcs⟩ := mk_at H7.out.2.2.2.1 j5 hlt6
                        have q1 := (HV.out.cell (World.block_lt_of_cell? _ _ hcs)).trans hcs
                        clear hcs
                        go_wp2_with fail
                        go_roundw
                        case rel => exact ⟨j5 + 1, by omega, by go_num, HV.out⟩
                        case measure => simp [intOf]; omega
                      · go_wp2_with fail
                        go_roundw
                        case rel => exact ⟨j5 + 1, by omega, by go_num, HV.out⟩
                        case measure => simp [intOf]; omega
                    · obtain ⟨W8, hW8⟩ : ∃ x, x = wr := ⟨_, rfl⟩
                      subst hW8
                      go_wp2_with fail
                      go_loopw [19] (fun i wx => ∃ j : Nat, j ≤ (bm + 1) ∧ i = .int .i64 (j : Int) ∧ Below W7.heap.size W7 wx) (fun i _ => (bm + 1) - (intOf i).toNat)
                      case atStart => exact ⟨0, Nat.zero_le _, rfl, HV.out⟩
                      case round =>
                        obtain ⟨j5, hj5, rfl, hbx⟩ := hrel
                        have HV : Hid (Below W7.heap.size W7 wr) := hbx
                        clear hbx
                        by_cases hlt5 : j5 < (bm + 1)
                        · obtain ⟨gl, rfl, hcl⟩ := mk_at H7.out.1 j5 hlt5
                          have q0 := (HV.out.cell (World.block_lt_of_cell? _ _ hcl)).trans hcl
                          clear hcl
                          by_cases hlt6 : j5 < bm
                          · obtain ⟨gs, rfl, hcs⟩ := mk_at H7.out.2.1 j5 hlt6
                            have q1 := (HV.out.cell (World.block_lt_of_cell? _ _ hcs)).trans hcs
                            clear hcs
                            go_wp2_with fail
                            go_roundw
                            case rel => exact ⟨j5 + 1, by omega, by go_num, HV.out⟩
                            case measure => simp [intOf]; omega
                          · go_wp2_with fail
                            go_roundw
                            case rel => exact ⟨j5 + 1, by omega, by go_num, HV.out⟩
                            case measure => simp [intOf]; omega
                        · go_wp2_with fail
                          go_returns
                          exact ⟨rfl, andThen H7.out.2.2.2.2 HV.out⟩
end Go.Proofs.YtppabcihbpbfpaaDoor
