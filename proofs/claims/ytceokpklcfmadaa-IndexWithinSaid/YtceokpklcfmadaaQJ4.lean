import Derived.Test.YtceokpklcfmadaaQJ3
import Derived.Test.YtceokpklcfmadaaQIA
/-
  annalsref5: Encode, the walk.
-/
namespace Go.Proofs.Ytceokpklcfmadaa
open Go Go.RowKit Go.ChangeShapes
open Wb

theorem own_on {B : Nat} {w W W' : World} {v : Value} {l : List Nat} (hb : Below w.heap.size w W) (ho : Wb.Own B W v l) (hB : w.heap.size ≤ B) (hg : W.grownBy W' v.ownBlock) : Below w.heap.size w W' := hb.grown hg hb.size fun q e => by
  have := (World.ownsRow.lt ho.row q e).1
  omega
theorem Ix.gml_vals (ps : List (Int × Int)) (p : Int × List Int) (hp : p ∈ Ix.gml ps) (x : Int) (hx : x ∈ p.2) : ∃ q ∈ ps, q.2 = x := by
  have h1 := Ix.get_mem (Ix.gml_fine ps).ris (k := p.1) (l := p.2) hp
  rw [← Ix.vals_gml] at h1
  rw [← h1] at hx
  unfold Ix.vals at hx
  obtain ⟨q, hq, e⟩ := List.mem_map.1 hx
  exact ⟨q, (List.mem_filter.1 hq).1, e⟩
theorem Ix.u64_nn (x : Int) (h0 : 0 ≤ x) (h1 : x ≤ 9223372036854775807) : IntKind.u64.wrap x = (Ix.u64 (x - 0) : Int) := by
  have h := Ix.u64_eq (x - 0)
  rw [IntWalk.i64_in _ (by omega)] at h
  rw [← h]
  congr 1
  omega
/-- Uint, as a call -/
theorem ruint_c (y : Nat) (hy : y < 18446744073709551616) (W : World) : Calls Try.prog 59 #[.int .u64 (y : Int)] W fun e w' => ∃ ad m c, e = .returned (.slice ad m c) ∧ Bs w' (.slice ad m c) (Wn.uint y) ∧ Below W.heap.size W w' := (ruint_any y W hy).mono fun e w' ⟨v', e1, e2, e3⟩ => by
  obtain ⟨ad, c, e4, -⟩ := e2.bs.shape
  subst e4
  exact ⟨ad, _, c, e1, e2.bs, e3⟩
theorem own_shape {B : Nat} {w : World} {v : Value} {l : List Nat} (h : Wb.Own B w v l) : ∃ a c, v = .slice a l.length c := by
  obtain ⟨a, c, e, _⟩ := h.bs.shape
  exact ⟨a, c, e⟩
set_option maxRecDepth 100000 in
set_option maxHeartbeats 8000000 in
theorem rixenc_any (v : Value) (ps : List (Int × Int)) (w : World) (h : Pr w v ps) (hl : ps.length ≤ 100000) (hw : ∀ p ∈ ps, (-9223372036854775808 ≤ p.1 ∧ p.1 ≤ 9223372036854775807) ∧ (-9223372036854775808 ≤ p.2 ∧ p.2 ≤ 9223372036854775807)) :
    Calls Try.prog 43 #[v] w fun e w' => RePost ps w e w' := by
  have hin := info5
  have HKS : Hid (Calls Try.prog 30 #[v] w fun e w' => ∃ v', e = .returned v' ∧ Ri w' v' ((Ix.gml ps).map (·.1)) ∧ Below w.heap.size w w') := rixkeys_any v ps w h (by omega) fun p hp => (hw p hp).1
  have HGT : Hid (∀ (W : World) (k : Int), Below w.heap.size w W → Calls Try.prog 28 #[v, .int .i64 k] W fun e w' => ∃ v', e = .returned v' ∧ w'.ownsRow W.heap.size 3 1 v' (Ix.get (Ix.gml ps) k).length ((Ix.get (Ix.gml ps) k).map (Value.int .i64)) ∧ Below W.heap.size W w') := fun W k hW => by
    have h9 := rixget_own v ps k W (h.kept hW) (by omega)
    rw [Ix.vals_gml] at h9
    exact h9
  have hf := Ix.gml_fine ps
  have HFI : Hid (Ix.rising (Ix.gml ps) ∧ (Ix.gml ps).length ≤ 100000 ∧ (∀ p ∈ Ix.gml ps, p.2 ≠ [] ∧ -9223372036854775808 ≤ p.1 ∧ p.1 ≤ 9223372036854775807 ∧ ∀ x ∈ p.2, -9223372036854775808 ≤ x ∧ x ≤ 9223372036854775807) ∧ (prs (Ix.gml ps)).length ≤ 100000) := ⟨hf.ris, Nat.le_trans hf.len hl, fun p hp => ⟨hf.ne p hp, by
    obtain ⟨q, hq, e⟩ := hf.key p hp
    have h9 := (hw q hq).1
    rw [e] at h9
    exact ⟨h9.1, h9.2, fun x hx => by
      obtain ⟨q, hq, e⟩ := Ix.gml_vals ps p hp x hx
      rw [← e]
      exact (hw q hq).2⟩⟩, by rw [Ix.prs_len, hf.tot]; exact hl⟩
  unfold RePost
  generalize Ix.gml ps = kvs at *
  obtain ⟨va, vc, rfl, -⟩ := h
  clear hw hf
  have hkl : kvs.length ≤ 100000 := HFI.out.2.1
  have hwk : IntKind.u64.wrap (kvs.length : Int) = (kvs.length : Int) := IntWalk.u64_in _ (by omega)
  go_enter Try.func43, Try.ntmps43
  go_wp2_with fail
  refine HKS.out.mono ?_
  rintro e W1 ⟨kv, rfl, rk, b1⟩
  obtain ⟨ka, kc, rfl, hk2, hkc⟩ := rk
  rw [List.length_map] at hk2 ⊢
  unfold maxLen at hk2
  have HKC : Hid (∀ (W : World) (i : Nat) (p : Int × List Int), kvs[i]? = some p → Below W1.heap.size W1 W → ∃ bb oo, ka = some ⟨bb, oo, none⟩ ∧ W.cell? ⟨bb, oo + i, none⟩ = some (.int .i64 p.1) ∧ ∀ (q : Int × List Int), 0 < i → kvs[i - 1]? = some q → W.cell? ⟨bb, oo + (i - 1), none⟩ = some (.int .i64 q.1)) := fun W i p hp hW => by
    obtain ⟨hi, ep⟩ := List.getElem?_eq_some_iff.1 hp
    obtain ⟨bb, oo, e1, hcell⟩ := hkc (fun e => by have := congrArg List.length e; rw [List.length_map] at this; simp at this; rw [this] at hi; simp at hi)
    have h1 := hcell i (by rw [List.length_map]; exact hi)
    rw [List.getElem_map, ep] at h1
    refine ⟨bb, oo, e1, (hW.cell (p := ⟨bb, oo + i, none⟩) (World.block_lt_of_cell? _ _ h1)).trans h1, fun q h0 hq => ?_⟩
    obtain ⟨hi2, eq⟩ := List.getElem?_eq_some_iff.1 hq
    have h2 := hcell (i - 1) (by rw [List.length_map]; exact hi2)
    rw [List.getElem_map, eq] at h2
    exact (hW.cell (p := ⟨bb, oo + (i - 1), none⟩) (World.block_lt_of_cell? _ _ h2)).trans h2
  have HB1 : Hid (Below w.heap.size w W1) := b1
  have HU0 : Hid (Calls Try.prog 59 #[.int .u64 (kvs.length : Int)] W1 fun e w' => ∃ v', e = .returned v' ∧ Wb.Own W1.heap.size w' v' (Wn.uint kvs.length) ∧ Below W1.heap.size W1 w') := ruint_any kvs.length W1 (by omega)
  clear hkc b1 HKS
  go_wp2_with fail
  refine HU0.out.mono ?_
  rintro e W2 ⟨ov, rfl, o2, b2⟩
  have HO0 : Hid (ReO W1 kvs 0 ov W2 ∧ Below W1.heap.size W1 W2) := ⟨⟨b2, Wn.uint kvs.length, 0, rfl, o2, by have := Wn.uint_len10 kvs.length (by omega); simp [prs]; omega⟩, b2⟩
  clear o2 b2 HU0
  go_wp2_with fail
  go_loopw [5, 6] (fun ov iv wr => ∃ i : Nat, i ≤ kvs.length ∧ iv = .int .i64 (i : Int) ∧ ReO W1 kvs i ov wr ∧ Below W1.heap.size W1 wr) (fun _ iv _ => kvs.length - (intOf iv).toNat)
  case atStart => exact ⟨0, Nat.zero_le _, rfl, HO0.out.1, HO0.out.2⟩
  case round =>
    clear HO0
    obtain ⟨i, hi, rfl, hro, hbw⟩ := hrel
    have HRO : Hid (ReO W1 kvs i u5 wr ∧ Below W1.heap.size W1 wr) := ⟨hro, hbw⟩
    clear hro hbw
    by_cases hlt : i < kvs.length
    · obtain ⟨⟨k, vs⟩, hp⟩ : ∃ p, kvs[i]? = some p := ⟨kvs[i], List.getElem?_eq_getElem hlt⟩
      have hpm := HFI.out.2.2.1 (k, vs) (List.mem_of_getElem? hp)
      have HPM : Hid (vs ≠ [] ∧ (∀ x ∈ vs, -9223372036854775808 ≤ x ∧ x ≤ 9223372036854775807) ∧ Ix.get kvs k = vs ∧ kvs[i]? = some (k, vs)) := ⟨hpm.1, hpm.2.2.2, Ix.get_mem HFI.out.1 (List.mem_of_getElem? hp), hp⟩
      have hkb1 : -9223372036854775808 ≤ k := hpm.2.1
      have hkb2 : k ≤ 9223372036854775807 := hpm.2.2.1
      obtain ⟨bb, oo, rfl, ck, hck⟩ := HKC.out wr i _ hp HRO.out.2
      simp only at ck
      have HVL : Hid (vs.length ≤ 100000) := by
        have h8 := Ix.upto_prefix kvs i k vs vs.length hp
        have h9 := h8.length_le
        unfold Ix.upto at h9
        rw [List.take_length, List.length_append, List.length_map] at h9
        have := HFI.out.2.2.2
        show _ ≤ _
        omega
      by_cases hk1 : k < 1
      · have hd1 : (k < 1) = True := by simp; exact hk1
        have HER : Hid (Ix.encF kvs (Ix.upto kvs i k vs 1) = .error 50 ∧ Ix.upto kvs i k vs 1 <+: prs kvs) := by
          refine ⟨?_, Ix.upto_prefix kvs i k vs 1 hp⟩
          obtain ⟨-, out, off, e1, -, -⟩ := HRO.out.1
          obtain ⟨x, r, rfl⟩ : ∃ x r, vs = x :: r := by
            cases vs with
            | nil => exact absurd rfl hpm.1
            | cons x r => exact ⟨x, r, rfl⟩
          have e2 : Ix.upto kvs i k (x :: r) 1 = prs (kvs.take i) ++ [(k, x)] := by simp [Ix.upto]
          rw [e2, Ix.encF_ok_step kvs _ _ _ e1]
          unfold Ix.encS
          rw [if_pos hk1]
        have HBB : Hid (Below w.heap.size w wr) := andThen HB1.out HRO.out.1.1
        clear HRO hck HKC HGT HPM hpm hp
        go_wp2_with fail
        go_returns
        exact ⟨HBB.out, .inr ⟨50, _, HER.out.2, HER.out.1, rfl⟩⟩
      · have hd1 : (k < 1) = False := by simp; omega
        by_cases hi0 : i = 0
        · subst hi0
          have hy1 : IntKind.u64.wrap k = ((Ix.u64 (k - Ix.lastKey kvs 0) : Nat) : Int) := Ix.u64_nn k (by omega) hkb2
          obtain ⟨y1, hyu⟩ : ∃ y1, y1 = Ix.u64 (k - Ix.lastKey kvs 0) := ⟨_, rfl⟩
          rw [← hyu] at hy1
          have HYU : Hid (y1 = Ix.u64 (k - Ix.lastKey kvs 0)) := hyu
          have HRX : Hid (ReO W1 kvs 0 u5 wr ∧ Below W1.heap.size W1 wr) := HRO.out
          have ckx : wr.cell? ⟨bb, oo + 0, none⟩ = some (.int .i64 k) := ck
          rw [Nat.add_zero] at ckx ck
          clear hyu hck hpm hp HRO
          have HUY : Hid (y1 < 18446744073709551616) := by rw [HYU.out]; exact Ix.u64_lt _
          have hwv : IntKind.u64.wrap (vs.length : Int) = (vs.length : Int) := IntWalk.u64_in _ (by have := HVL.out; omega)
          go_wp2_with fail
          refine (HGT.out wr k (andThen HB1.out HRX.out.1.1)).mono ?_
          rintro e W3 ⟨gv, rfl, rg, b3⟩
          rw [HPM.out.2.2.1] at rg
          obtain ⟨hb8, out0, off0, e0, ho0, hl0⟩ := HRX.out.1
          obtain ⟨BX, hBX⟩ : ∃ BX, BX = wr.heap.size := ⟨_, rfl⟩
          rw [← hBX] at rg
          obtain ⟨ga, gc, hge, hg2, -⟩ := Ri.of rg
          unfold maxLen at hg2
          subst hge
          have H3 : Hid (Wb.Own W1.heap.size W3 u5 out0 ∧ Below W1.heap.size W1 W3 ∧ out0.length ≤ 10000000 ∧ VsS BX (.slice ga vs.length gc) vs u5 W3) := ⟨ho0.kept b3, andThen hb8 b3, by
            have h8 := (Ix.upto_prefix kvs 0 k vs 0 HPM.out.2.2.2).length_le
            have e8 : Ix.upto kvs 0 k vs 0 = prs (kvs.take 0) := by simp [Ix.upto]
            rw [e8] at h8
            have := HFI.out.2.2.2
            omega, rg, fun q e e2 => by
            have h8 := (World.ownsRow.lt rg q e).1
            have h9 := (World.ownsRow.lt ho0.row q e2).2
            omega⟩
          have HE0 : Hid (Ix.encF kvs (prs (kvs.take 0)) = .ok (out0, Ix.lastKey kvs 0, off0) ∧ out0.length ≤ 10 + 30 * (prs (kvs.take 0)).length ∧ True ∧ Ix.lastKey kvs 0 < k ∧ 1 ≤ k) := ⟨e0, hl0, trivial, Ix.lastKey_lt kvs HFI.out.1 0 k vs HPM.out.2.2.2 (by omega), by omega⟩
          clear hb8 e0 ho0 hl0 b3 HRX ckx rg hBX
          have HU5 : Hid (Calls Try.prog 59 #[.int .u64 (y1 : Int)] W3 fun e w' => ∃ ad m c, e = .returned (.slice ad m c) ∧ Bs w' (.slice ad m c) (Wn.uint y1) ∧ Below W3.heap.size W3 w') := ruint_c y1 HUY.out W3
          go_wp2_with fail
          refine HU5.out.mono ?_
          rintro e W5a ⟨a5, m5, c5, rfl, bs5, b5⟩
          have HA5 : Hid (Wb.Own W1.heap.size W5a u5 out0 ∧ Bs W5a (.slice a5 m5 c5) (Wn.uint y1) ∧ Below W1.heap.size W1 W5a ∧ (out0).length + (Wn.uint y1).length ≤ 140737488355328 ∧ VsS BX (.slice ga vs.length gc) vs u5 W5a) := ⟨H3.out.1.kept b5, bs5, andThen H3.out.2.1 b5, by have := H3.out.2.2.1; have := Wn.uint_len10 y1 HUY.out; omega, H3.out.2.2.2.kept b5⟩
          clear bs5 b5 HU5 H3
          go_wp2_with (at_builtin; refine wpList_append_at _ rfl (.tmp 49) (.tmp 52) 44 rfl W1.heap.size hin Try.underlying44 u5 out0 rfl HA5.out.1 _ (Wn.uint y1) rfl HA5.out.2.1 HA5.out.2.2.2.1 HA5.out.2.2.1.size ?_)
          intro v5 W5b ho5 hg5 hat5
          have H5 : Hid (Wb.Own W1.heap.size W5b v5 (out0 ++ Wn.uint y1) ∧ Below W1.heap.size W1 W5b ∧ (out0 ++ Wn.uint y1).length ≤ (out0).length + 10 ∧ VsS BX (.slice ga vs.length gc) vs v5 W5b) := ⟨by simpa using ho5, own_on HA5.out.2.2.1 HA5.out.1 (Nat.le_refl _) hg5, by rw [List.length_append]; have := Wn.uint_len10 y1 HUY.out; omega, HA5.out.2.2.2.2.app hg5 hat5⟩
          clear ho5 hg5 hat5 HA5
          have HVU : Hid (vs.length < 18446744073709551616) := by have := HVL.out; show _ < _; omega
          have H5L : Hid (Wb.Own W1.heap.size W5b v5 (out0 ++ Wn.uint y1) ∧ Below W1.heap.size W1 W5b ∧ (out0 ++ Wn.uint y1).length ≤ 10000100 ∧ VsS BX (.slice ga vs.length gc) vs v5 W5b) := ⟨H5.out.1, H5.out.2.1, by
            have := H5.out.2.2.1
            have h9 := HE0.out.2.1
            have h8 := (Ix.upto_prefix kvs 0 k vs 0 HPM.out.2.2.2).length_le
            have e8 : Ix.upto kvs 0 k vs 0 = prs (kvs.take 0) := by simp [Ix.upto]
            rw [e8] at h8
            have := HFI.out.2.2.2
            omega, H5.out.2.2.2⟩
          clear H5
          have HU6 : Hid (Calls Try.prog 59 #[.int .u64 (vs.length : Int)] W5b fun e w' => ∃ ad m c, e = .returned (.slice ad m c) ∧ Bs w' (.slice ad m c) (Wn.uint vs.length) ∧ Below W5b.heap.size W5b w') := ruint_c vs.length HVU.out W5b
          go_wp2_with fail
          refine HU6.out.mono ?_
          rintro e W6a ⟨a6, m6, c6, rfl, bs6, b6⟩
          have HA6 : Hid (Wb.Own W1.heap.size W6a v5 (out0 ++ Wn.uint y1) ∧ Bs W6a (.slice a6 m6 c6) (Wn.uint vs.length) ∧ Below W1.heap.size W1 W6a ∧ ((out0 ++ Wn.uint y1)).length + (Wn.uint vs.length).length ≤ 140737488355328 ∧ VsS BX (.slice ga vs.length gc) vs v5 W6a) := ⟨H5L.out.1.kept b6, bs6, andThen H5L.out.2.1 b6, by have := H5L.out.2.2.1; have := Wn.uint_len10 vs.length HVU.out; omega, H5L.out.2.2.2.kept b6⟩
          clear bs6 b6 HU6 H5L
          go_wp2_with (at_builtin; refine wpList_append_at _ rfl (.tmp 54) (.tmp 58) 44 rfl W1.heap.size hin Try.underlying44 v5 (out0 ++ Wn.uint y1) rfl HA6.out.1 _ (Wn.uint vs.length) rfl HA6.out.2.1 HA6.out.2.2.2.1 HA6.out.2.2.1.size ?_)
          intro v6 W6b ho6 hg6 hat6
          have H6 : Hid (Wb.Own W1.heap.size W6b v6 ((out0 ++ Wn.uint y1) ++ Wn.uint vs.length) ∧ Below W1.heap.size W1 W6b ∧ ((out0 ++ Wn.uint y1) ++ Wn.uint vs.length).length ≤ ((out0 ++ Wn.uint y1)).length + 10 ∧ VsS BX (.slice ga vs.length gc) vs v6 W6b) := ⟨by simpa using ho6, own_on HA6.out.2.2.1 HA6.out.1 (Nat.le_refl _) hg6, by rw [List.length_append]; have := Wn.uint_len10 vs.length HVU.out; omega, HA6.out.2.2.2.2.app hg6 hat6⟩
          clear ho6 hg6 hat6 HA6
          obtain ⟨hd, hhd⟩ : ∃ hd, hd = out0 ++ Wn.uint y1 ++ Wn.uint vs.length := ⟨_, rfl⟩
          have HHD : Hid (out0 ++ Wn.uint y1 ++ Wn.uint vs.length = hd) := hhd.symm
          have HLH : Hid (hd.length ≤ 30 + 30 * (Ix.upto kvs 0 k vs 0).length) := by
            have e8 : Ix.upto kvs 0 k vs 0 = prs (kvs.take 0) := by simp [Ix.upto]
            have h7 := Wn.uint_len10 y1 HUY.out
            have h8 := Wn.uint_len10 vs.length HVU.out
            have h9 := HE0.out.2.1
            show _ ≤ _
            rw [e8, hhd, List.length_append, List.length_append]
            omega
          have HI0 : Hid (ReI W1 kvs 0 k vs hd 0 v6 W6b ∧ VsS BX (.slice ga vs.length gc) vs v6 W6b) := ⟨⟨H6.out.2.1, hd, by rw [hhd]; exact H6.out.1, HLH.out, .inl ⟨rfl, rfl⟩⟩, H6.out.2.2.2⟩
          clear H6 hhd
          go_wp2_with fail
          go_loopw [5, 9] (fun ov jv w7 => ∃ j : Nat, j ≤ vs.length ∧ jv = .int .i64 (j : Int) ∧ ReI W1 kvs 0 k vs hd j ov w7 ∧ VsS BX (.slice ga vs.length gc) vs ov w7) (fun _ jv _ => vs.length - (intOf jv).toNat)
          case atStart => exact ⟨0, Nat.zero_le _, rfl, HI0.out.1, HI0.out.2⟩
          case round =>
            clear HI0
            obtain ⟨j, hj, rfl, hri, hvs⟩ := hrel
            by_cases hjl : j < vs.length
            · obtain ⟨gb, go, rfl, cx, cpx⟩ := hvs.cells j hjl
              have hxb := HPM.out.2.1 _ (List.getElem_mem hjl)
              have HUP : Hid (Ix.upto kvs 0 k vs (j + 1) = Ix.upto kvs 0 k vs j ++ [(k, vs[j])] ∧ Ix.upto kvs 0 k vs (j + 1) <+: prs kvs) := ⟨Ix.upto_succ kvs 0 k vs j hjl, Ix.upto_prefix kvs 0 k vs (j + 1) HPM.out.2.2.2⟩
              have HUL : Hid ((Ix.upto kvs 0 k vs j).length ≤ 100000 ∧ (Ix.upto kvs 0 k vs (j + 1)).length = (Ix.upto kvs 0 k vs j).length + 1) := ⟨by have h8 := (Ix.upto_prefix kvs 0 k vs j HPM.out.2.2.2).length_le; have := HFI.out.2.2.2; omega, by rw [HUP.out.1, List.length_append, List.length_singleton]⟩
              obtain ⟨hbr, out, hor, holr, hcase⟩ := hri
              have HRI : Hid (Below W1.heap.size W1 wr ∧ Wb.Own W1.heap.size wr u5 out ∧ out.length ≤ 30 + 30 * (Ix.upto kvs 0 k vs j).length ∧ VsS BX (.slice (some ⟨gb, go, none⟩) vs.length gc) vs u5 wr) := ⟨hbr, hor, holr, hvs⟩
              obtain ⟨x, hx⟩ : ∃ x, x = vs[j] := ⟨_, rfl⟩
              rw [← hx] at cx hxb HUP
              have HXJ : Hid (x = vs[j]) := hx
              clear hbr hor holr hvs hx
              by_cases hj0 : j = 0
              · subst hj0
                obtain rfl : out = hd := by
                  rcases hcase with ⟨-, e⟩ | ⟨-, h0, -⟩
                  · exact e
                  · omega
                rw [Nat.add_zero] at cx
                clear hcase cpx
                have hstep : Ix.encF kvs (Ix.upto kvs 0 k vs 0 ++ [(k, x)]) = if x < 0 then .error 52 else .ok (out0 ++ Wn.uint (Ix.u64 (k - Ix.lastKey kvs 0)) ++ Wn.uint (Ix.get kvs k).length ++ Wn.uint (Ix.u64 (x - 0)), k, x) := by
                  have e2 : Ix.upto kvs 0 k vs 0 = prs (kvs.take 0) := by simp [Ix.upto]
                  rw [e2, Ix.encF_ok_step kvs _ _ _ HE0.out.1]
                  unfold Ix.encS
                  rw [if_neg (by have := HE0.out.2.2.2.2; show ¬ k < 1; omega), if_pos (by have := HE0.out.2.2.2.1; show k ≠ Ix.lastKey kvs 0; omega)]
                by_cases hx0 : x < 0
                · have hdx : (x < 0) = True := by simp; exact hx0
                  rw [if_pos hx0] at hstep
                  have HER : Hid (Below w.heap.size w wr ∧ Ix.encF kvs (Ix.upto kvs 0 k vs (0 + 1)) = .error 52 ∧ Ix.upto kvs 0 k vs (0 + 1) <+: prs kvs) := ⟨andThen HB1.out HRI.out.1, by rw [HUP.out.1]; exact hstep, HUP.out.2⟩
                  clear HRI hstep
                  go_wp2_with fail
                  go_quiet (fail)
                  go_wp2_with fail
                  go_returns
                  exact ⟨bel_drewI HER.out.1 _, .inr ⟨52, _, HER.out.2.2, HER.out.2.1, rfl⟩⟩
                · have hdx : (x < 0) = False := by simp; omega
                  rw [if_neg hx0, HPM.out.2.2.1, ← HYU.out] at hstep
                  have hy2 : IntKind.u64.wrap x = ((Ix.u64 (x - 0) : Nat) : Int) := Ix.u64_nn x (by omega) (by omega)
                  obtain ⟨y2, hyv⟩ : ∃ y2, y2 = Ix.u64 (x - 0) := ⟨_, rfl⟩
                  rw [← hyv] at hy2 hstep
                  have HY2 : Hid (y2 < 18446744073709551616) := by rw [hyv]; exact Ix.u64_lt _
                  have HST : Hid (Ix.encF kvs (Ix.upto kvs 0 k vs (0 + 1)) = .ok (out ++ Wn.uint y2, k, x)) := by
                    show _ = _
                    rw [HUP.out.1, hstep, HHD.out]
                  clear hyv hstep
                  go_wp2_with fail
                  go_quiet (fail)
                  obtain ⟨wd, hwd⟩ : ∃ wd, wd = wr.drewN nq := ⟨_, rfl⟩
                  rw [← hwd]
                  have cxd : wd.cell? ⟨gb, go, none⟩ = some (.int .i64 x) := by rw [hwd]; exact cx
                  have HI5 : Hid (Wb.Own W1.heap.size wd u5 out ∧ Below W1.heap.size W1 wd ∧ out.length ≤ 10000000 ∧ VsS BX (.slice (some ⟨gb, go, none⟩) vs.length gc) vs u5 wd) := by
                    have hbd : Below wr.heap.size wr wd := by rw [hwd]; exact bel_drewI (Below.refl _ _) _
                    exact ⟨HRI.out.2.1.kept hbd, andThen HRI.out.1 hbd, by have := HRI.out.2.2.1; have := HUL.out.1; omega, HRI.out.2.2.2.kept hbd⟩
                  clear HRI cx hwd
                  have HU8 : Hid (Calls Try.prog 59 #[.int .u64 (y2 : Int)] wd fun e w' => ∃ ad m c, e = .returned (.slice ad m c) ∧ Bs w' (.slice ad m c) (Wn.uint y2) ∧ Below wd.heap.size wd w') := ruint_c y2 HY2.out wd
                  go_wp2_with fail
                  refine HU8.out.mono ?_
                  rintro e W8a ⟨a8, m8, c8, rfl, bs8, b8⟩
                  have HA8 : Hid (Wb.Own W1.heap.size W8a u5 out ∧ Bs W8a (.slice a8 m8 c8) (Wn.uint y2) ∧ Below W1.heap.size W1 W8a ∧ (out).length + (Wn.uint y2).length ≤ 140737488355328 ∧ VsS BX (.slice (some ⟨gb, go, none⟩) vs.length gc) vs u5 W8a) := ⟨HI5.out.1.kept b8, bs8, andThen HI5.out.2.1 b8, by have := HI5.out.2.2.1; have := Wn.uint_len10 y2 HY2.out; omega, HI5.out.2.2.2.kept b8⟩
                  clear bs8 b8 HU8 HI5
                  go_wp2_with (at_builtin; refine wpList_append_at _ rfl (.tmp 106) (.tmp 109) 44 rfl W1.heap.size hin Try.underlying44 u5 out rfl HA8.out.1 _ (Wn.uint y2) rfl HA8.out.2.1 HA8.out.2.2.2.1 HA8.out.2.2.1.size ?_)
                  intro v8 W8b ho8 hg8 hat8
                  have H8 : Hid (Wb.Own W1.heap.size W8b v8 (out ++ Wn.uint y2) ∧ Below W1.heap.size W1 W8b ∧ (out ++ Wn.uint y2).length ≤ (out).length + 10 ∧ VsS BX (.slice (some ⟨gb, go, none⟩) vs.length gc) vs v8 W8b) := ⟨by simpa using ho8, own_on HA8.out.2.2.1 HA8.out.1 (Nat.le_refl _) hg8, by rw [List.length_append]; have := Wn.uint_len10 y2 HY2.out; omega, HA8.out.2.2.2.2.app hg8 hat8⟩
                  clear ho8 hg8 hat8 HA8
                  have HNX : Hid (ReI W1 kvs 0 k vs out (0 + 1) v8 W8b ∧ VsS BX (.slice (some ⟨gb, go, none⟩) vs.length gc) vs v8 W8b) := ⟨⟨H8.out.2.1, _, H8.out.1, by have := H8.out.2.2.1; have := HLH.out; have := HUL.out.2; omega, .inr ⟨hjl, by omega, by show Ix.encF kvs (Ix.upto kvs 0 k vs (0 + 1)) = .ok (out ++ Wn.uint y2, k, vs[0]); rw [HST.out, HXJ.out], by have := H8.out.2.2.1; have := HLH.out; have := HUL.out.2; omega⟩⟩, H8.out.2.2.2⟩
                  go_wp2_with fail
                  go_roundw
                  case rel => exact ⟨0 + 1, by omega, by go_num, HNX.out.1, HNX.out.2⟩
                  case measure => simp [intOf]; omega
              · replace cpx := cpx (by omega)
                obtain ⟨h91, -, hef, hbl⟩ : ∃ h : j - 1 < vs.length, 0 < j ∧ Ix.encF kvs (Ix.upto kvs 0 k vs j) = .ok (out, k, vs[j - 1]) ∧ out.length ≤ 10 + 30 * (Ix.upto kvs 0 k vs j).length := by
                  rcases hcase with ⟨e, -⟩ | h9
                  · exact absurd e hj0
                  · exact h9
                have hpb := HPM.out.2.1 _ (List.getElem_mem h91)
                obtain ⟨px, hpx⟩ : ∃ px, px = vs[j - 1] := ⟨_, rfl⟩
                rw [← hpx] at cpx hef hpb
                have hstep := Ix.encF_ok_step kvs _ (k, x) _ hef
                unfold Ix.encS at hstep
                rw [if_neg (by have := HE0.out.2.2.2.2; show ¬ k < 1; omega), if_neg (by simp)] at hstep
                simp only at hstep
                have hdj : ((j : Int) == 0) = false := by simp; exact hj0
                have hdj2 : ((0 : Int) < (j : Int)) = True := by simp; omega
                have hj1 : 0 < j := by omega
                have hdj3 : decide (0 < j) = true := by simp; omega
                have hwj : IntKind.i64.wrap ((j : Int) - 1) = ((j - 1 : Nat) : Int) := by
                  rw [IntWalk.i64_in _ (by have := HVL.out; omega)]
                  omega
                have hj9 : j - 1 < vs.length := h91
                have HBL : Hid (out.length ≤ 10 + 30 * (Ix.upto kvs 0 k vs j).length) := hbl
                clear hcase hef hpx hbl
                by_cases hxp : x ≤ px
                · have hdx : (x ≤ px) = True := by simp; exact hxp
                  rw [if_pos hxp] at hstep
                  have HER : Hid (Below w.heap.size w wr ∧ Ix.encF kvs (Ix.upto kvs 0 k vs (j + 1)) = .error 52 ∧ Ix.upto kvs 0 k vs (j + 1) <+: prs kvs) := ⟨andThen HB1.out HRI.out.1, by rw [HUP.out.1]; exact hstep, HUP.out.2⟩
                  clear HRI hstep
                  go_wp2_with fail
                  go_quiet (fail)
                  go_wp2_with fail
                  go_returns
                  exact ⟨bel_drewI HER.out.1 _, .inr ⟨52, _, HER.out.2.2, HER.out.2.1, rfl⟩⟩
                · have hdx : (x ≤ px) = False := by simp; omega
                  rw [if_neg hxp] at hstep
                  have hy2 := Ix.u64_eq (x - px)
                  obtain ⟨gI, hgI⟩ : ∃ gI, IntKind.i64.wrap (x - px) = gI := ⟨_, rfl⟩
                  obtain ⟨y2, hyv⟩ : ∃ y2, y2 = Ix.u64 (x - px) := ⟨_, rfl⟩
                  rw [← hyv, hgI] at hy2
                  rw [← hyv] at hstep
                  have HY2 : Hid (y2 < 18446744073709551616) := by rw [hyv]; exact Ix.u64_lt _
                  have HST : Hid (Ix.encF kvs (Ix.upto kvs 0 k vs (j + 1)) = .ok (out ++ Wn.uint y2, k, x)) := by
                    show _ = _
                    rw [HUP.out.1]
                    exact hstep
                  clear hyv hstep
                  go_wp2_with fail
                  go_quiet (fail)
                  obtain ⟨wd, hwd⟩ : ∃ wd, wd = wr.drewN nq := ⟨_, rfl⟩
                  rw [← hwd]
                  have cxd : wd.cell? ⟨gb, go + j, none⟩ = some (.int .i64 x) := by rw [hwd]; exact cx
                  have cpd : wd.cell? ⟨gb, go + (j - 1), none⟩ = some (.int .i64 px) := by rw [hwd]; exact cpx
                  have HI4 : Hid (Wb.Own W1.heap.size wd u5 out ∧ Below W1.heap.size W1 wd ∧ out.length ≤ 10000000 ∧ VsS BX (.slice (some ⟨gb, go, none⟩) vs.length gc) vs u5 wd) := by
                    have hbd : Below wr.heap.size wr wd := by rw [hwd]; exact bel_drewI (Below.refl _ _) _
                    exact ⟨HRI.out.2.1.kept hbd, andThen HRI.out.1 hbd, by have := HRI.out.2.2.1; have := HUL.out.1; omega, HRI.out.2.2.2.kept hbd⟩
                  clear cx cpx hwd
                  go_wp2_with fail
                  go_quiet (fail)
                  obtain ⟨we, hwe⟩ : ∃ we, we = wd.drewN nq := ⟨_, rfl⟩
                  rw [← hwe]
                  have HI5 : Hid (Wb.Own W1.heap.size we u5 out ∧ Below W1.heap.size W1 we ∧ out.length ≤ 10000000 ∧ VsS BX (.slice (some ⟨gb, go, none⟩) vs.length gc) vs u5 we) := by
                    have hbd : Below wd.heap.size wd we := by rw [hwe]; exact bel_drewI (Below.refl _ _) _
                    exact ⟨HI4.out.1.kept hbd, andThen HI4.out.2.1 hbd, HI4.out.2.2.1, HI4.out.2.2.2.kept hbd⟩
                  clear HI4 cxd cpd hwe hgI
                  have HU8 : Hid (Calls Try.prog 59 #[.int .u64 (y2 : Int)] we fun e w' => ∃ ad m c, e = .returned (.slice ad m c) ∧ Bs w' (.slice ad m c) (Wn.uint y2) ∧ Below we.heap.size we w') := ruint_c y2 HY2.out we
                  go_wp2_with fail
                  refine HU8.out.mono ?_
                  rintro e W8a ⟨a8, m8, c8, rfl, bs8, b8⟩
                  have HA8 : Hid (Wb.Own W1.heap.size W8a u5 out ∧ Bs W8a (.slice a8 m8 c8) (Wn.uint y2) ∧ Below W1.heap.size W1 W8a ∧ (out).length + (Wn.uint y2).length ≤ 140737488355328 ∧ VsS BX (.slice (some ⟨gb, go, none⟩) vs.length gc) vs u5 W8a) := ⟨HI5.out.1.kept b8, bs8, andThen HI5.out.2.1 b8, by have := HI5.out.2.2.1; have := Wn.uint_len10 y2 HY2.out; omega, HI5.out.2.2.2.kept b8⟩
                  clear bs8 b8 HU8 HI5
                  go_wp2_with (at_builtin; refine wpList_append_at _ rfl (.tmp 106) (.tmp 109) 44 rfl W1.heap.size hin Try.underlying44 u5 out rfl HA8.out.1 _ (Wn.uint y2) rfl HA8.out.2.1 HA8.out.2.2.2.1 HA8.out.2.2.1.size ?_)
                  intro v8 W8b ho8 hg8 hat8
                  have H8 : Hid (Wb.Own W1.heap.size W8b v8 (out ++ Wn.uint y2) ∧ Below W1.heap.size W1 W8b ∧ (out ++ Wn.uint y2).length ≤ (out).length + 10 ∧ VsS BX (.slice (some ⟨gb, go, none⟩) vs.length gc) vs v8 W8b) := ⟨by simpa using ho8, own_on HA8.out.2.2.1 HA8.out.1 (Nat.le_refl _) hg8, by rw [List.length_append]; have := Wn.uint_len10 y2 HY2.out; omega, HA8.out.2.2.2.2.app hg8 hat8⟩
                  clear ho8 hg8 hat8 HA8
                  have HNX : Hid (ReI W1 kvs 0 k vs hd (j + 1) v8 W8b ∧ VsS BX (.slice (some ⟨gb, go, none⟩) vs.length gc) vs v8 W8b) := ⟨⟨H8.out.2.1, _, H8.out.1, by have := H8.out.2.2.1; have := HRI.out.2.2.1; have := HUL.out.2; omega, .inr ⟨hjl, by omega, by have h9 := HST.out; rw [HXJ.out] at h9; exact h9, by have := H8.out.2.2.1; have := HBL.out; have := HUL.out.2; omega⟩⟩, H8.out.2.2.2⟩
                  clear HRI
                  go_wp2_with fail
                  go_roundw
                  case rel => exact ⟨j + 1, by omega, by go_num, HNX.out.1, HNX.out.2⟩
                  case measure => simp [intOf]; omega
            · obtain rfl : j = vs.length := by omega
              obtain ⟨hbr, out, hor, holr, hcase⟩ := hri
              have HNX : Hid (ReO W1 kvs (0 + 1) u5 wr ∧ Below W1.heap.size W1 wr) := by
                have hpos : 0 < vs.length := List.length_pos_iff.2 HPM.out.1
                rcases hcase with ⟨e, -⟩ | ⟨h91, -, hef, hbl⟩
                · omega
                · rw [Ix.upto_full kvs 0 k vs HPM.out.2.2.2] at hef hbl
                  refine ⟨⟨hbr, out, vs[vs.length - 1], ?_, hor, hbl⟩, hbr⟩
                  rw [Ix.lastKey, HPM.out.2.2.2]
                  exact hef
              clear hbr hor holr hcase hvs
              go_wp2_with fail
              go_roundw
              case rel => exact ⟨0 + 1, by omega, by go_num, HNX.out.1, HNX.out.2⟩
              case measure => simp [intOf]; omega
        · obtain ⟨⟨pk, pv⟩, hq⟩ : ∃ q, kvs[i - 1]? = some q := ⟨kvs[i - 1]'(by omega), List.getElem?_eq_getElem (by omega)⟩
          have cpk := hck _ (by omega) hq
          simp only at cpk
          have hd2 : ((0 : Int) < (i : Int)) = True := by simp; omega
          have hwi : IntKind.i64.wrap ((i : Int) - 1) = ((i - 1 : Nat) : Int) := by
            rw [IntWalk.i64_in _ (by omega)]
            omega
          have hi9 : i - 1 < kvs.length := by omega
          have hlk : Ix.lastKey kvs i = pk := by
            have e9 : i = (i - 1) + 1 := by omega
            rw [e9, Ix.lastKey, hq]
            rfl
          have hy1 := Ix.u64_eq (k - pk)
          obtain ⟨gI, hgI⟩ : ∃ gI, IntKind.i64.wrap (k - pk) = gI := ⟨_, rfl⟩
          obtain ⟨y1, hyu⟩ : ∃ y1, y1 = Ix.u64 (k - pk) := ⟨_, rfl⟩
          rw [← hyu, hgI] at hy1
          have HYU : Hid (y1 = Ix.u64 (k - Ix.lastKey kvs i)) := by rw [hlk]; exact hyu
          clear hyu hck hpm hp hq hlk
          go_wp2_with fail
          go_quiet (fail)
          obtain ⟨wd, hwd⟩ : ∃ wd, wd = wr.drewN nq := ⟨_, rfl⟩
          rw [← hwd]
          have HRX : Hid (ReO W1 kvs i u5 wd ∧ Below W1.heap.size W1 wd) := by
            rw [hwd]
            exact ⟨HRO.out.1.kept (bel_drewI (Below.refl _ _) _), bel_drewI HRO.out.2 _⟩
          have ckx : wd.cell? ⟨bb, oo + i, none⟩ = some (.int .i64 k) := by rw [hwd]; exact ck
          clear HRO ck cpk hwd hgI hd2 hwi hi9
          have HUY : Hid (y1 < 18446744073709551616) := by rw [HYU.out]; exact Ix.u64_lt _
          have hwv : IntKind.u64.wrap (vs.length : Int) = (vs.length : Int) := IntWalk.u64_in _ (by have := HVL.out; omega)
          go_wp2_with fail
          refine (HGT.out wd k (andThen HB1.out HRX.out.1.1)).mono ?_
          rintro e W3 ⟨gv, rfl, rg, b3⟩
          rw [HPM.out.2.2.1] at rg
          obtain ⟨hb8, out0, off0, e0, ho0, hl0⟩ := HRX.out.1
          obtain ⟨BX, hBX⟩ : ∃ BX, BX = wd.heap.size := ⟨_, rfl⟩
          rw [← hBX] at rg
          obtain ⟨ga, gc, hge, hg2, -⟩ := Ri.of rg
          unfold maxLen at hg2
          subst hge
          have H3 : Hid (Wb.Own W1.heap.size W3 u5 out0 ∧ Below W1.heap.size W1 W3 ∧ out0.length ≤ 10000000 ∧ VsS BX (.slice ga vs.length gc) vs u5 W3) := ⟨ho0.kept b3, andThen hb8 b3, by
            have h8 := (Ix.upto_prefix kvs i k vs 0 HPM.out.2.2.2).length_le
            have e8 : Ix.upto kvs i k vs 0 = prs (kvs.take i) := by simp [Ix.upto]
            rw [e8] at h8
            have := HFI.out.2.2.2
            omega, rg, fun q e e2 => by
            have h8 := (World.ownsRow.lt rg q e).1
            have h9 := (World.ownsRow.lt ho0.row q e2).2
            omega⟩
          have HE0 : Hid (Ix.encF kvs (prs (kvs.take i)) = .ok (out0, Ix.lastKey kvs i, off0) ∧ out0.length ≤ 10 + 30 * (prs (kvs.take i)).length ∧ True ∧ Ix.lastKey kvs i < k ∧ 1 ≤ k) := ⟨e0, hl0, trivial, Ix.lastKey_lt kvs HFI.out.1 i k vs HPM.out.2.2.2 (by omega), by omega⟩
          clear hb8 e0 ho0 hl0 b3 HRX ckx rg hBX
          have HU5 : Hid (Calls Try.prog 59 #[.int .u64 (y1 : Int)] W3 fun e w' => ∃ ad m c, e = .returned (.slice ad m c) ∧ Bs w' (.slice ad m c) (Wn.uint y1) ∧ Below W3.heap.size W3 w') := ruint_c y1 HUY.out W3
          go_wp2_with fail
          refine HU5.out.mono ?_
          rintro e W5a ⟨a5, m5, c5, rfl, bs5, b5⟩
          have HA5 : Hid (Wb.Own W1.heap.size W5a u5 out0 ∧ Bs W5a (.slice a5 m5 c5) (Wn.uint y1) ∧ Below W1.heap.size W1 W5a ∧ (out0).length + (Wn.uint y1).length ≤ 140737488355328 ∧ VsS BX (.slice ga vs.length gc) vs u5 W5a) := ⟨H3.out.1.kept b5, bs5, andThen H3.out.2.1 b5, by have := H3.out.2.2.1; have := Wn.uint_len10 y1 HUY.out; omega, H3.out.2.2.2.kept b5⟩
          clear bs5 b5 HU5 H3
          go_wp2_with (at_builtin; refine wpList_append_at _ rfl (.tmp 49) (.tmp 52) 44 rfl W1.heap.size hin Try.underlying44 u5 out0 rfl HA5.out.1 _ (Wn.uint y1) rfl HA5.out.2.1 HA5.out.2.2.2.1 HA5.out.2.2.1.size ?_)
          intro v5 W5b ho5 hg5 hat5
          have H5 : Hid (Wb.Own W1.heap.size W5b v5 (out0 ++ Wn.uint y1) ∧ Below W1.heap.size W1 W5b ∧ (out0 ++ Wn.uint y1).length ≤ (out0).length + 10 ∧ VsS BX (.slice ga vs.length gc) vs v5 W5b) := ⟨by simpa using ho5, own_on HA5.out.2.2.1 HA5.out.1 (Nat.le_refl _) hg5, by rw [List.length_append]; have := Wn.uint_len10 y1 HUY.out; omega, HA5.out.2.2.2.2.app hg5 hat5⟩
          clear ho5 hg5 hat5 HA5
          have HVU : Hid (vs.length < 18446744073709551616) := by have := HVL.out; show _ < _; omega
          have H5L : Hid (Wb.Own W1.heap.size W5b v5 (out0 ++ Wn.uint y1) ∧ Below W1.heap.size W1 W5b ∧ (out0 ++ Wn.uint y1).length ≤ 10000100 ∧ VsS BX (.slice ga vs.length gc) vs v5 W5b) := ⟨H5.out.1, H5.out.2.1, by
            have := H5.out.2.2.1
            have h9 := HE0.out.2.1
            have h8 := (Ix.upto_prefix kvs i k vs 0 HPM.out.2.2.2).length_le
            have e8 : Ix.upto kvs i k vs 0 = prs (kvs.take i) := by simp [Ix.upto]
            rw [e8] at h8
            have := HFI.out.2.2.2
            omega, H5.out.2.2.2⟩
          clear H5
          have HU6 : Hid (Calls Try.prog 59 #[.int .u64 (vs.length : Int)] W5b fun e w' => ∃ ad m c, e = .returned (.slice ad m c) ∧ Bs w' (.slice ad m c) (Wn.uint vs.length) ∧ Below W5b.heap.size W5b w') := ruint_c vs.length HVU.out W5b
          go_wp2_with fail
          refine HU6.out.mono ?_
          rintro e W6a ⟨a6, m6, c6, rfl, bs6, b6⟩
          have HA6 : Hid (Wb.Own W1.heap.size W6a v5 (out0 ++ Wn.uint y1) ∧ Bs W6a (.slice a6 m6 c6) (Wn.uint vs.length) ∧ Below W1.heap.size W1 W6a ∧ ((out0 ++ Wn.uint y1)).length + (Wn.uint vs.length).length ≤ 140737488355328 ∧ VsS BX (.slice ga vs.length gc) vs v5 W6a) := ⟨H5L.out.1.kept b6, bs6, andThen H5L.out.2.1 b6, by have := H5L.out.2.2.1; have := Wn.uint_len10 vs.length HVU.out; omega, H5L.out.2.2.2.kept b6⟩
          clear bs6 b6 HU6 H5L
          go_wp2_with (at_builtin; refine wpList_append_at _ rfl (.tmp 54) (.tmp 58) 44 rfl W1.heap.size hin Try.underlying44 v5 (out0 ++ Wn.uint y1) rfl HA6.out.1 _ (Wn.uint vs.length) rfl HA6.out.2.1 HA6.out.2.2.2.1 HA6.out.2.2.1.size ?_)
          intro v6 W6b ho6 hg6 hat6
          have H6 : Hid (Wb.Own W1.heap.size W6b v6 ((out0 ++ Wn.uint y1) ++ Wn.uint vs.length) ∧ Below W1.heap.size W1 W6b ∧ ((out0 ++ Wn.uint y1) ++ Wn.uint vs.length).length ≤ ((out0 ++ Wn.uint y1)).length + 10 ∧ VsS BX (.slice ga vs.length gc) vs v6 W6b) := ⟨by simpa using ho6, own_on HA6.out.2.2.1 HA6.out.1 (Nat.le_refl _) hg6, by rw [List.length_append]; have := Wn.uint_len10 vs.length HVU.out; omega, HA6.out.2.2.2.2.app hg6 hat6⟩
          clear ho6 hg6 hat6 HA6
          obtain ⟨hd, hhd⟩ : ∃ hd, hd = out0 ++ Wn.uint y1 ++ Wn.uint vs.length := ⟨_, rfl⟩
          have HHD : Hid (out0 ++ Wn.uint y1 ++ Wn.uint vs.length = hd) := hhd.symm
          have HLH : Hid (hd.length ≤ 30 + 30 * (Ix.upto kvs i k vs 0).length) := by
            have e8 : Ix.upto kvs i k vs 0 = prs (kvs.take i) := by simp [Ix.upto]
            have h7 := Wn.uint_len10 y1 HUY.out
            have h8 := Wn.uint_len10 vs.length HVU.out
            have h9 := HE0.out.2.1
            show _ ≤ _
            rw [e8, hhd, List.length_append, List.length_append]
            omega
          have HI0 : Hid (ReI W1 kvs i k vs hd 0 v6 W6b ∧ VsS BX (.slice ga vs.length gc) vs v6 W6b) := ⟨⟨H6.out.2.1, hd, by rw [hhd]; exact H6.out.1, HLH.out, .inl ⟨rfl, rfl⟩⟩, H6.out.2.2.2⟩
          clear H6 hhd
          go_wp2_with fail
          go_loopw [5, 9] (fun ov jv w7 => ∃ j : Nat, j ≤ vs.length ∧ jv = .int .i64 (j : Int) ∧ ReI W1 kvs i k vs hd j ov w7 ∧ VsS BX (.slice ga vs.length gc) vs ov w7) (fun _ jv _ => vs.length - (intOf jv).toNat)
          case atStart => exact ⟨0, Nat.zero_le _, rfl, HI0.out.1, HI0.out.2⟩
          case round =>
            clear HI0
            obtain ⟨j, hj, rfl, hri, hvs⟩ := hrel
            by_cases hjl : j < vs.length
            · obtain ⟨gb, go, rfl, cx, cpx⟩ := hvs.cells j hjl
              have hxb := HPM.out.2.1 _ (List.getElem_mem hjl)
              have HUP : Hid (Ix.upto kvs i k vs (j + 1) = Ix.upto kvs i k vs j ++ [(k, vs[j])] ∧ Ix.upto kvs i k vs (j + 1) <+: prs kvs) := ⟨Ix.upto_succ kvs i k vs j hjl, Ix.upto_prefix kvs i k vs (j + 1) HPM.out.2.2.2⟩
              have HUL : Hid ((Ix.upto kvs i k vs j).length ≤ 100000 ∧ (Ix.upto kvs i k vs (j + 1)).length = (Ix.upto kvs i k vs j).length + 1) := ⟨by have h8 := (Ix.upto_prefix kvs i k vs j HPM.out.2.2.2).length_le; have := HFI.out.2.2.2; omega, by rw [HUP.out.1, List.length_append, List.length_singleton]⟩
              obtain ⟨hbr, out, hor, holr, hcase⟩ := hri
              have HRI : Hid (Below W1.heap.size W1 wr ∧ Wb.Own W1.heap.size wr u5 out ∧ out.length ≤ 30 + 30 * (Ix.upto kvs i k vs j).length ∧ VsS BX (.slice (some ⟨gb, go, none⟩) vs.length gc) vs u5 wr) := ⟨hbr, hor, holr, hvs⟩
              obtain ⟨x, hx⟩ : ∃ x, x = vs[j] := ⟨_, rfl⟩
              rw [← hx] at cx hxb HUP
              have HXJ : Hid (x = vs[j]) := hx
              clear hbr hor holr hvs hx
              by_cases hj0 : j = 0
              · subst hj0
                obtain rfl : out = hd := by
                  rcases hcase with ⟨-, e⟩ | ⟨-, h0, -⟩
                  · exact e
                  · omega
                rw [Nat.add_zero] at cx
                clear hcase cpx
                have hstep : Ix.encF kvs (Ix.upto kvs i k vs 0 ++ [(k, x)]) = if x < 0 then .error 52 else .ok (out0 ++ Wn.uint (Ix.u64 (k - Ix.lastKey kvs i)) ++ Wn.uint (Ix.get kvs k).length ++ Wn.uint (Ix.u64 (x - 0)), k, x) := by
                  have e2 : Ix.upto kvs i k vs 0 = prs (kvs.take i) := by simp [Ix.upto]
                  rw [e2, Ix.encF_ok_step kvs _ _ _ HE0.out.1]
                  unfold Ix.encS
                  rw [if_neg (by have := HE0.out.2.2.2.2; show ¬ k < 1; omega), if_pos (by have := HE0.out.2.2.2.1; show k ≠ Ix.lastKey kvs i; omega)]
                by_cases hx0 : x < 0
                · have hdx : (x < 0) = True := by simp; exact hx0
                  rw [if_pos hx0] at hstep
                  have HER : Hid (Below w.heap.size w wr ∧ Ix.encF kvs (Ix.upto kvs i k vs (0 + 1)) = .error 52 ∧ Ix.upto kvs i k vs (0 + 1) <+: prs kvs) := ⟨andThen HB1.out HRI.out.1, by rw [HUP.out.1]; exact hstep, HUP.out.2⟩
                  clear HRI hstep
                  go_wp2_with fail
                  go_quiet (fail)
                  go_wp2_with fail
                  go_returns
                  exact ⟨bel_drewI HER.out.1 _, .inr ⟨52, _, HER.out.2.2, HER.out.2.1, rfl⟩⟩
                · have hdx : (x < 0) = False := by simp; omega
                  rw [if_neg hx0, HPM.out.2.2.1, ← HYU.out] at hstep
                  have hy2 : IntKind.u64.wrap x = ((Ix.u64 (x - 0) : Nat) : Int) := Ix.u64_nn x (by omega) (by omega)
                  obtain ⟨y2, hyv⟩ : ∃ y2, y2 = Ix.u64 (x - 0) := ⟨_, rfl⟩
                  rw [← hyv] at hy2 hstep
                  have HY2 : Hid (y2 < 18446744073709551616) := by rw [hyv]; exact Ix.u64_lt _
                  have HST : Hid (Ix.encF kvs (Ix.upto kvs i k vs (0 + 1)) = .ok (out ++ Wn.uint y2, k, x)) := by
                    show _ = _
                    rw [HUP.out.1, hstep, HHD.out]
                  clear hyv hstep
                  go_wp2_with fail
                  go_quiet (fail)
                  obtain ⟨wd, hwd⟩ : ∃ wd, wd = wr.drewN nq := ⟨_, rfl⟩
                  rw [← hwd]
                  have cxd : wd.cell? ⟨gb, go, none⟩ = some (.int .i64 x) := by rw [hwd]; exact cx
                  have HI5 : Hid (Wb.Own W1.heap.size wd u5 out ∧ Below W1.heap.size W1 wd ∧ out.length ≤ 10000000 ∧ VsS BX (.slice (some ⟨gb, go, none⟩) vs.length gc) vs u5 wd) := by
                    have hbd : Below wr.heap.size wr wd := by rw [hwd]; exact bel_drewI (Below.refl _ _) _
                    exact ⟨HRI.out.2.1.kept hbd, andThen HRI.out.1 hbd, by have := HRI.out.2.2.1; have := HUL.out.1; omega, HRI.out.2.2.2.kept hbd⟩
                  clear HRI cx hwd
                  have HU8 : Hid (Calls Try.prog 59 #[.int .u64 (y2 : Int)] wd fun e w' => ∃ ad m c, e = .returned (.slice ad m c) ∧ Bs w' (.slice ad m c) (Wn.uint y2) ∧ Below wd.heap.size wd w') := ruint_c y2 HY2.out wd
                  go_wp2_with fail
                  refine HU8.out.mono ?_
                  rintro e W8a ⟨a8, m8, c8, rfl, bs8, b8⟩
                  have HA8 : Hid (Wb.Own W1.heap.size W8a u5 out ∧ Bs W8a (.slice a8 m8 c8) (Wn.uint y2) ∧ Below W1.heap.size W1 W8a ∧ (out).length + (Wn.uint y2).length ≤ 140737488355328 ∧ VsS BX (.slice (some ⟨gb, go, none⟩) vs.length gc) vs u5 W8a) := ⟨HI5.out.1.kept b8, bs8, andThen HI5.out.2.1 b8, by have := HI5.out.2.2.1; have := Wn.uint_len10 y2 HY2.out; omega, HI5.out.2.2.2.kept b8⟩
                  clear bs8 b8 HU8 HI5
                  go_wp2_with (at_builtin; refine wpList_append_at _ rfl (.tmp 106) (.tmp 109) 44 rfl W1.heap.size hin Try.underlying44 u5 out rfl HA8.out.1 _ (Wn.uint y2) rfl HA8.out.2.1 HA8.out.2.2.2.1 HA8.out.2.2.1.size ?_)
                  intro v8 W8b ho8 hg8 hat8
                  have H8 : Hid (Wb.Own W1.heap.size W8b v8 (out ++ Wn.uint y2) ∧ Below W1.heap.size W1 W8b ∧ (out ++ Wn.uint y2).length ≤ (out).length + 10 ∧ VsS BX (.slice (some ⟨gb, go, none⟩) vs.length gc) vs v8 W8b) := ⟨by simpa using ho8, own_on HA8.out.2.2.1 HA8.out.1 (Nat.le_refl _) hg8, by rw [List.length_append]; have := Wn.uint_len10 y2 HY2.out; omega, HA8.out.2.2.2.2.app hg8 hat8⟩
                  clear ho8 hg8 hat8 HA8
                  have HNX : Hid (ReI W1 kvs i k vs out (0 + 1) v8 W8b ∧ VsS BX (.slice (some ⟨gb, go, none⟩) vs.length gc) vs v8 W8b) := ⟨⟨H8.out.2.1, _, H8.out.1, by have := H8.out.2.2.1; have := HLH.out; have := HUL.out.2; omega, .inr ⟨hjl, by omega, by show Ix.encF kvs (Ix.upto kvs i k vs (0 + 1)) = .ok (out ++ Wn.uint y2, k, vs[0]); rw [HST.out, HXJ.out], by have := H8.out.2.2.1; have := HLH.out; have := HUL.out.2; omega⟩⟩, H8.out.2.2.2⟩
                  go_wp2_with fail
                  go_roundw
                  case rel => exact ⟨0 + 1, by omega, by go_num, HNX.out.1, HNX.out.2⟩
                  case measure => simp [intOf]; omega
              · replace cpx := cpx (by omega)
                obtain ⟨h91, -, hef, hbl⟩ : ∃ h : j - 1 < vs.length, 0 < j ∧ Ix.encF kvs (Ix.upto kvs i k vs j) = .ok (out, k, vs[j - 1]) ∧ out.length ≤ 10 + 30 * (Ix.upto kvs i k vs j).length := by
                  rcases hcase with ⟨e, -⟩ | h9
                  · exact absurd e hj0
                  · exact h9
                have hpb := HPM.out.2.1 _ (List.getElem_mem h91)
                obtain ⟨px, hpx⟩ : ∃ px, px = vs[j - 1] := ⟨_, rfl⟩
                rw [← hpx] at cpx hef hpb
                have hstep := Ix.encF_ok_step kvs _ (k, x) _ hef
                unfold Ix.encS at hstep
                rw [if_neg (by have := HE0.out.2.2.2.2; show ¬ k < 1; omega), if_neg (by simp)] at hstep
                simp only at hstep
                have hdj : ((j : Int) == 0) = false := by simp; exact hj0
                have hdj2 : ((0 : Int) < (j : Int)) = True := by simp; omega
                have hj1 : 0 < j := by omega
                have hdj3 : decide (0 < j) = true := by simp; omega
                have hwj : IntKind.i64.wrap ((j : Int) - 1) = ((j - 1 : Nat) : Int) := by
                  rw [IntWalk.i64_in _ (by have := HVL.out; omega)]
                  omega
                have hj9 : j - 1 < vs.length := h91
                have HBL : Hid (out.length ≤ 10 + 30 * (Ix.upto kvs i k vs j).length) := hbl
                clear hcase hef hpx hbl
                by_cases hxp : x ≤ px
                · have hdx : (x ≤ px) = True := by simp; exact hxp
                  rw [if_pos hxp] at hstep
                  have HER : Hid (Below w.heap.size w wr ∧ Ix.encF kvs (Ix.upto kvs i k vs (j + 1)) = .error 52 ∧ Ix.upto kvs i k vs (j + 1) <+: prs kvs) := ⟨andThen HB1.out HRI.out.1, by rw [HUP.out.1]; exact hstep, HUP.out.2⟩
                  clear HRI hstep
                  go_wp2_with fail
                  go_quiet (fail)
                  go_wp2_with fail
                  go_returns
                  exact ⟨bel_drewI HER.out.1 _, .inr ⟨52, _, HER.out.2.2, HER.out.2.1, rfl⟩⟩
                · have hdx : (x ≤ px) = False := by simp; omega
                  rw [if_neg hxp] at hstep
                  have hy2 := Ix.u64_eq (x - px)
                  obtain ⟨gI, hgI⟩ : ∃ gI, IntKind.i64.wrap (x - px) = gI := ⟨_, rfl⟩
                  obtain ⟨y2, hyv⟩ : ∃ y2, y2 = Ix.u64 (x - px) := ⟨_, rfl⟩
                  rw [← hyv, hgI] at hy2
                  rw [← hyv] at hstep
                  have HY2 : Hid (y2 < 18446744073709551616) := by rw [hyv]; exact Ix.u64_lt _
                  have HST : Hid (Ix.encF kvs (Ix.upto kvs i k vs (j + 1)) = .ok (out ++ Wn.uint y2, k, x)) := by
                    show _ = _
                    rw [HUP.out.1]
                    exact hstep
                  clear hyv hstep
                  go_wp2_with fail
                  go_quiet (fail)
                  obtain ⟨wd, hwd⟩ : ∃ wd, wd = wr.drewN nq := ⟨_, rfl⟩
                  rw [← hwd]
                  have cxd : wd.cell? ⟨gb, go + j, none⟩ = some (.int .i64 x) := by rw [hwd]; exact cx
                  have cpd : wd.cell? ⟨gb, go + (j - 1), none⟩ = some (.int .i64 px) := by rw [hwd]; exact cpx
                  have HI4 : Hid (Wb.Own W1.heap.size wd u5 out ∧ Below W1.heap.size W1 wd ∧ out.length ≤ 10000000 ∧ VsS BX (.slice (some ⟨gb, go, none⟩) vs.length gc) vs u5 wd) := by
                    have hbd : Below wr.heap.size wr wd := by rw [hwd]; exact bel_drewI (Below.refl _ _) _
                    exact ⟨HRI.out.2.1.kept hbd, andThen HRI.out.1 hbd, by have := HRI.out.2.2.1; have := HUL.out.1; omega, HRI.out.2.2.2.kept hbd⟩
                  clear cx cpx hwd
                  go_wp2_with fail
                  go_quiet (fail)
                  obtain ⟨we, hwe⟩ : ∃ we, we = wd.drewN nq := ⟨_, rfl⟩
                  rw [← hwe]
                  have HI5 : Hid (Wb.Own W1.heap.size we u5 out ∧ Below W1.heap.size W1 we ∧ out.length ≤ 10000000 ∧ VsS BX (.slice (some ⟨gb, go, none⟩) vs.length gc) vs u5 we) := by
                    have hbd : Below wd.heap.size wd we := by rw [hwe]; exact bel_drewI (Below.refl _ _) _
                    exact ⟨HI4.out.1.kept hbd, andThen HI4.out.2.1 hbd, HI4.out.2.2.1, HI4.out.2.2.2.kept hbd⟩
                  clear HI4 cxd cpd hwe hgI
                  have HU8 : Hid (Calls Try.prog 59 #[.int .u64 (y2 : Int)] we fun e w' => ∃ ad m c, e = .returned (.slice ad m c) ∧ Bs w' (.slice ad m c) (Wn.uint y2) ∧ Below we.heap.size we w') := ruint_c y2 HY2.out we
                  go_wp2_with fail
                  refine HU8.out.mono ?_
                  rintro e W8a ⟨a8, m8, c8, rfl, bs8, b8⟩
                  have HA8 : Hid (Wb.Own W1.heap.size W8a u5 out ∧ Bs W8a (.slice a8 m8 c8) (Wn.uint y2) ∧ Below W1.heap.size W1 W8a ∧ (out).length + (Wn.uint y2).length ≤ 140737488355328 ∧ VsS BX (.slice (some ⟨gb, go, none⟩) vs.length gc) vs u5 W8a) := ⟨HI5.out.1.kept b8, bs8, andThen HI5.out.2.1 b8, by have := HI5.out.2.2.1; have := Wn.uint_len10 y2 HY2.out; omega, HI5.out.2.2.2.kept b8⟩
                  clear bs8 b8 HU8 HI5
                  go_wp2_with (at_builtin; refine wpList_append_at _ rfl (.tmp 106) (.tmp 109) 44 rfl W1.heap.size hin Try.underlying44 u5 out rfl HA8.out.1 _ (Wn.uint y2) rfl HA8.out.2.1 HA8.out.2.2.2.1 HA8.out.2.2.1.size ?_)
                  intro v8 W8b ho8 hg8 hat8
                  have H8 : Hid (Wb.Own W1.heap.size W8b v8 (out ++ Wn.uint y2) ∧ Below W1.heap.size W1 W8b ∧ (out ++ Wn.uint y2).length ≤ (out).length + 10 ∧ VsS BX (.slice (some ⟨gb, go, none⟩) vs.length gc) vs v8 W8b) := ⟨by simpa using ho8, own_on HA8.out.2.2.1 HA8.out.1 (Nat.le_refl _) hg8, by rw [List.length_append]; have := Wn.uint_len10 y2 HY2.out; omega, HA8.out.2.2.2.2.app hg8 hat8⟩
                  clear ho8 hg8 hat8 HA8
                  have HNX : Hid (ReI W1 kvs i k vs hd (j + 1) v8 W8b ∧ VsS BX (.slice (some ⟨gb, go, none⟩) vs.length gc) vs v8 W8b) := ⟨⟨H8.out.2.1, _, H8.out.1, by have := H8.out.2.2.1; have := HRI.out.2.2.1; have := HUL.out.2; omega, .inr ⟨hjl, by omega, by have h9 := HST.out; rw [HXJ.out] at h9; exact h9, by have := H8.out.2.2.1; have := HBL.out; have := HUL.out.2; omega⟩⟩, H8.out.2.2.2⟩
                  clear HRI
                  go_wp2_with fail
                  go_roundw
                  case rel => exact ⟨j + 1, by omega, by go_num, HNX.out.1, HNX.out.2⟩
                  case measure => simp [intOf]; omega
            · obtain rfl : j = vs.length := by omega
              obtain ⟨hbr, out, hor, holr, hcase⟩ := hri
              have HNX : Hid (ReO W1 kvs (i + 1) u5 wr ∧ Below W1.heap.size W1 wr) := by
                have hpos : 0 < vs.length := List.length_pos_iff.2 HPM.out.1
                rcases hcase with ⟨e, -⟩ | ⟨h91, -, hef, hbl⟩
                · omega
                · rw [Ix.upto_full kvs i k vs HPM.out.2.2.2] at hef hbl
                  refine ⟨⟨hbr, out, vs[vs.length - 1], ?_, hor, hbl⟩, hbr⟩
                  rw [Ix.lastKey, HPM.out.2.2.2]
                  exact hef
              clear hbr hor holr hcase hvs
              go_wp2_with fail
              go_roundw
              case rel => exact ⟨i + 1, by omega, by go_num, HNX.out.1, HNX.out.2⟩
              case measure => simp [intOf]; omega
    · obtain rfl : i = kvs.length := by omega
      obtain ⟨hb9, out, off, e1, ho, -⟩ := HRO.out.1
      rw [List.take_length] at e1
      obtain ⟨ad, c, rfl⟩ := own_shape ho
      have HEN : Hid (Below w.heap.size w wr ∧ Ix.encF kvs (prs kvs) = .ok (out, Ix.lastKey kvs kvs.length, off) ∧ Wb.Own w.heap.size wr (.slice ad out.length c) out) := ⟨andThen HB1.out hb9, e1, ho.mono HB1.out.size⟩
      clear hb9 e1 ho HRO
      generalize out.length = m at *
      go_wp2_with fail
      go_returns
      exact ⟨HEN.out.1, .inl ⟨_, HEN.out.2.1, ad, m, c, rfl, HEN.out.2.2⟩⟩
end Go.Proofs.Ytceokpklcfmadaa
