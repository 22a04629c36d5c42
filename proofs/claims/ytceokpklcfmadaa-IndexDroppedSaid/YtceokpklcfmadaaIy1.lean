/-
  IndexSplits: cutPairs, samePairs, built.
-/
import Derived.Test.YtceokpklcfmadaaIy0
import Derived.Test.YtceokpklcfmadaaIxt
namespace Go.Proofs.Ytceokpklcfmadaa
open Go Go.RowKit Go.ChangeShapes
open Wb

theorem Pr.take {w : World} {a : Option Addr} {n c : Nat} {ps : List (Int × Int)} (h : Pr w (.slice a n c) ps) (k : Nat) (hk : k ≤ ps.length) : Pr w (.slice a k c) (ps.take k) := by
  obtain ⟨a2, c2, e, hm1, hm2, hc⟩ := h
  simp only [Value.slice.injEq] at e
  obtain ⟨rfl, rfl, rfl⟩ := e
  have hl : (ps.take k).length = k := by rw [List.length_take]; omega
  refine ⟨a, c, by rw [hl], by rw [hl]; omega, hm2, fun hne => ?_⟩
  obtain ⟨b, off, rfl, hcell⟩ := hc (fun e => by rw [e] at hne; simp at hne)
  refine ⟨b, off, rfl, fun j hj => ?_⟩
  rw [hl] at hj
  rw [List.getElem_take]
  exact hcell j (by omega)
set_option maxRecDepth 100000 in
set_option maxHeartbeats 1000000 in
theorem ixcutp_any (v : Value) (ps : List (Int × Int)) (w : World) (h : Pr w v ps) :
    Calls Try.prog 37 #[v] w fun e w' => (∃ v', e = .returned v' ∧ Pr w v' (ps.take 300)) ∧ w' = w := by
  have HP : Hid (∀ a n c, v = .slice a n c → ∀ k, k ≤ ps.length → Pr w (.slice a k c) (ps.take k)) := fun a n c e k hk => (e ▸ h : Pr w (.slice a n c) ps).take k hk
  obtain ⟨a, c, rfl, hm1, hm2, -⟩ := h
  unfold maxLen at hm2
  by_cases hlt : 300 < ps.length
  · have hd : ((300 : Int) < (ps.length : Int)) = True := by simp; omega
    have hd2 : ((300 : Int) ≤ (c : Int)) = True := by simp; omega
    have HQ : Hid (Pr w (.slice a 300 c) (ps.take 300)) := HP.out a _ c rfl 300 (by omega)
    go_enter Try.func37, Try.ntmps37
    go_wp2_with fail
    go_returns
    exact ⟨⟨_, rfl, HQ.out⟩, rfl⟩
  · have hd : ((300 : Int) < (ps.length : Int)) = False := by simp; omega
    have HQ : Hid (Pr w (.slice a ps.length c) (ps.take 300)) := by
      have := HP.out a _ c rfl ps.length (Nat.le_refl _)
      rw [List.take_of_length_le (Nat.le_refl _)] at this
      show Pr w _ _
      rw [List.take_of_length_le (by omega)]
      exact this
    go_enter Try.func37, Try.ntmps37
    go_wp2_with fail
    go_returns
    exact ⟨⟨_, rfl, HQ.out⟩, rfl⟩
set_option maxRecDepth 100000 in
set_option maxHeartbeats 2000000 in
theorem ixsamep_yes (v1 v2 : Value) (ps : List (Int × Int)) (w : World) (h1 : Pr w v1 ps) (h2 : Pr w v2 ps) :
    Calls Try.prog 34 #[v1, v2] w fun e w' => e = .returned (.bool true) ∧ Below w.heap.size w w' := by
  obtain ⟨a1, c1, rfl, hm1, hm2, hc1⟩ := h1
  obtain ⟨a2, c2, rfl, hn1, hn2, hc2⟩ := h2
  unfold maxLen at hm2 hn2
  have HC : Hid (∀ j (hj : j < ps.length), ∃ b off b2 off2, a1 = some ⟨b, off, none⟩ ∧ a2 = some ⟨b2, off2, none⟩ ∧ ∀ W, Below w.heap.size w W → W.cell? ⟨b, off + j * 2, none⟩ = some (.int .i64 ps[j].1) ∧ W.cell? ⟨b, off + j * 2 + 1, none⟩ = some (.int .i64 ps[j].2) ∧ W.cell? ⟨b2, off2 + j * 2, none⟩ = some (.int .i64 ps[j].1) ∧ W.cell? ⟨b2, off2 + j * 2 + 1, none⟩ = some (.int .i64 ps[j].2)) := fun j hj => by
    obtain ⟨b, off, rfl, hx⟩ := hc1 (List.ne_nil_of_length_pos (by omega))
    obtain ⟨b2, off2, rfl, hy⟩ := hc2 (List.ne_nil_of_length_pos (by omega))
    have hx := hx j hj
    have hy := hy j hj
    exact ⟨b, off, b2, off2, rfl, rfl, fun W hW => ⟨(hW.cell (p := ⟨b, off + j * 2, none⟩) (World.block_lt_of_cell? _ _ hx.1)).trans hx.1, (hW.cell (p := ⟨b, off + j * 2 + 1, none⟩) (World.block_lt_of_cell? _ _ hx.2)).trans hx.2, (hW.cell (p := ⟨b2, off2 + j * 2, none⟩) (World.block_lt_of_cell? _ _ hy.1)).trans hy.1, (hW.cell (p := ⟨b2, off2 + j * 2 + 1, none⟩) (World.block_lt_of_cell? _ _ hy.2)).trans hy.2⟩⟩
  have hd0 : ((ps.length : Int) != (ps.length : Int)) = false := by simp
  clear hc1 hc2
  go_enter Try.func34, Try.ntmps34
  go_wp2_with fail
  go_loopw [5] (fun i wr => ∃ k : Nat, k ≤ ps.length ∧ i = .int .i64 (k : Int) ∧ Below w.heap.size w wr) (fun i _ => ps.length - (intOf i).toNat)
  case atStart => exact ⟨0, Nat.zero_le _, rfl, Below.refl _ _⟩
  case round =>
    obtain ⟨k, hk, rfl, hb⟩ := hrel
    have HB : Hid (∀ t, Below w.heap.size w (wr.drewN t)) := fun t => bel_drewI hb t
    by_cases hlt : k < ps.length
    · obtain ⟨b, off, b2, off2, rfl, rfl, hcell⟩ := HC.out k hlt
      obtain ⟨x1, x2, x3, x4⟩ := hcell wr hb
      generalize ps[k].1 = x at *
      generalize ps[k].2 = y at *
      clear hcell hb
      go_wp2_with fail
      go_quiet (fail)
      go_wp2_with fail
      go_roundw
      case rel => exact ⟨k + 1, by omega, by go_num, HB.out _⟩
      case measure => simp [intOf]; omega
    · go_wp2_with fail
      go_returns
      exact ⟨rfl, hb⟩
theorem st_ixadd {ops : Array Oper} {o : Oper} {a : Act} {W : World} {K : Act → World → Prop} {Q : Exit → Act → World → Prop} {E : Prop} (hgd : o.guard = none) (p q r : Nat) (ho : o.op = .call { callee := .value (.func 11), args := #[.tmp p, .tmp q, .tmp r], argTypes := #[23, 3, 3] }) {u1 u2 u3 : Value} (hp : a.tmps[p]?.getD undef = u1) (hq : a.tmps[q]?.getD undef = u2) (hr : a.tmps[r]?.getD undef = u3) {R : World → Prop} (hC : Calls Try.prog 11 #[u1, u2, u3] W fun e W' => e = .returned (.tuple #[]) ∧ R W') (h : ∀ W', R W' → K (a.put o.dst (.tuple #[])) W') : if Region.wanted o (yielded ops a.tmps) = true then Oper.wp Try.prog o a W K Q else E := by
  rw [if_pos (by simp [Region.wanted, hgd])]
  obtain ⟨dst, op', ty, pos, after, guard⟩ := o
  simp only at ho hgd
  subst ho hgd
  have HC : Hid (Calls Try.prog 11 #[u1, u2, u3] W fun e W' => e = .returned (.tuple #[]) ∧ R W') := hC
  clear hC
  go_simp
  refine HC.out.mono ?_
  rintro e W' ⟨rfl, r⟩
  exact h W' r
/-- while pairs are added -/
structure BuS (w : World) (ps : List (Int × Int)) (g b base j : Nat) (W : World) : Prop where
  mi : MI W g b base j (Ix.gml (ps.take j))
  bel : Below w.heap.size w W
  ge : w.heap.size ≤ b ∧ b < g
  row : ∀ q, Mrow W b q → w.heap.size ≤ q
set_option maxRecDepth 100000 in
set_option maxHeartbeats 4000000 in
theorem ixbuilt_any (v : Value) (ps : List (Int × Int)) (w : World) (h : Pr w v ps) (hw : ∀ p ∈ ps, (Lit.int .i64 p.1).wf = true ∧ (Lit.int .i64 p.2).wf = true) (hl : ps.length ≤ 10000000) :
    Calls Try.prog 38 #[v] w fun e w' => ∃ g b base, e = .returned (.pointer (some ⟨g, 0, none⟩)) ∧ MI w' g b base ps.length (Ix.gml ps) ∧ Below w.heap.size w w' ∧ w.heap.size ≤ b ∧ b < g := by
  obtain ⟨a, c, rfl, hm1, hm2, hc⟩ := h
  unfold maxLen at hm2
  have HC : Hid (∀ j (hj : j < ps.length), ∃ b off, a = some ⟨b, off, none⟩ ∧ (∀ W, Below w.heap.size w W → W.cell? ⟨b, off + j * 2, none⟩ = some (.int .i64 ps[j].1) ∧ W.cell? ⟨b, off + j * 2 + 1, none⟩ = some (.int .i64 ps[j].2)) ∧ (Lit.int .i64 ps[j].1).wf = true ∧ (Lit.int .i64 ps[j].2).wf = true) := fun j hj => by
    obtain ⟨b, off, rfl, hx⟩ := hc (List.ne_nil_of_length_pos (by omega))
    have hx := hx j hj
    have hwf := hw _ (List.getElem_mem hj)
    exact ⟨b, off, rfl, fun W hW => ⟨(hW.cell (p := ⟨b, off + j * 2, none⟩) (World.block_lt_of_cell? _ _ hx.1)).trans hx.1, (hW.cell (p := ⟨b, off + j * 2 + 1, none⟩) (World.block_lt_of_cell? _ _ hx.2)).trans hx.2⟩, hwf⟩
  have HN : Hid (Calls Try.prog 9 #[] w fun e w' => e = .returned (.pointer (some ⟨w.heap.size + 1, 0, none⟩)) ∧ MI w' (w.heap.size + 1) w.heap.size (w.heap.size + 2) 0 [] ∧ Below w.heap.size w w' ∧ ∀ q, ¬ Mrow w' w.heap.size q) := ixnew_any w
  have HS : Hid (∀ (g b base j : Nat) (W : World) (hj : j < ps.length), BuS w ps g b base j W → Calls Try.prog 11 #[.pointer (some ⟨g, 0, none⟩), .int .i64 ps[j].1, .int .i64 ps[j].2] W fun e w' => e = .returned (.tuple #[]) ∧ BuS w ps g b base (j + 1) w') := fun g b base j W hj hB => by
    have hwf := hw _ (List.getElem_mem hj)
    refine (ixadd_any g b base j _ ps[j].1 ps[j].2 W hB.mi hwf.1 hwf.2 (by omega)).mono fun e w' ⟨e1, e2, e3, e4⟩ => ⟨e1, ?_, ?_, hB.ge, fun q hq => ?_⟩
    · rw [Ix.gml_take ps j hj]
      exact e2
    · exact hB.bel.trans (e3.below _ hB.bel.size fun k hk => by
        rcases hk with rfl | hk
        · exact hB.ge.1
        · exact hB.row k hk)
    · rcases e4 q hq with h5 | h5
      · exact hB.row q h5
      · have := hB.bel.size
        omega
  clear hc hw
  go_enter Try.func38, Try.ntmps38
  go_wp2_with fail
  refine HN.out.mono ?_
  rintro e w1 ⟨rfl, m1, b1, r1⟩
  obtain ⟨g, b, base, hg, hb, hbs⟩ : ∃ g b base, g = w.heap.size + 1 ∧ b = w.heap.size ∧ base = w.heap.size + 2 := ⟨_, _, _, rfl, rfl, rfl⟩
  have HB0 : Hid (BuS w ps g b base 0 w1) := ⟨by rw [hg, hb, hbs]; exact m1, b1, by omega, fun q hq => absurd hq (by rw [hb]; exact r1 q)⟩
  rw [← hg]
  clear m1 b1 r1 HN hg hb hbs
  go_wp2_with fail
  go_loopw [4] (fun i wr => ∃ k : Nat, k ≤ ps.length ∧ i = .int .i64 (k : Int) ∧ BuS w ps g b base k wr) (fun i _ => ps.length - (intOf i).toNat)
  case atStart => exact ⟨0, Nat.zero_le _, rfl, HB0.out⟩
  case round =>
    clear HB0
    obtain ⟨k, hk, rfl, hB⟩ := hrel
    by_cases hlt : k < ps.length
    · obtain ⟨bk, off, rfl, hcell, -⟩ := HC.out k hlt
      have HAD : Hid (∀ W, BuS w ps g b base k W → Calls Try.prog 11 #[.pointer (some ⟨g, 0, none⟩), .int .i64 ps[k].1, .int .i64 ps[k].2] W fun e w' => e = .returned (.tuple #[]) ∧ BuS w ps g b base (k + 1) w') := fun W hW => HS.out g b base k W hlt hW
      have HCL : Hid (∀ W, Below w.heap.size w W → W.cell? ⟨bk, off + k * 2, none⟩ = some (.int .i64 ps[k].1) ∧ W.cell? ⟨bk, off + k * 2 + 1, none⟩ = some (.int .i64 ps[k].2)) := hcell
      clear hcell HS HC
      generalize ps[k].1 = x at *
      generalize ps[k].2 = y at *
      have hB0 : BuS w ps g b base k wr.drew := ⟨hB.mi.kept (Below.drew (Below.refl _ _)), andThen hB.bel (Below.drew (Below.refl _ _)), hB.ge, hB.row⟩
      go_upto_region 5 with fail
      refine wp_region_held_drew (S := fun W : World => W.cell? ⟨bk, off + k * 2, none⟩ = some (.int .i64 x) ∧ W.cell? ⟨bk, off + k * 2 + 1, none⟩ = some (.int .i64 y)) (by kernel_rfl) (HCL.out _ hB0.bel) (fun hH => ?_)
      obtain ⟨W0, hW0⟩ : ∃ x, x = wr.drew := ⟨_, rfl⟩
      rw [← hW0] at hB0 hH ⊢
      clear hW0 hB
      refine zqk 0 rfl hH ?_
      simp only [Act.put, List.setIfInBounds_toArray, List.set_cons_zero, List.set_cons_succ, List.getElem_toArray, List.getElem_cons_zero]
      refine zqk 1 rfl hH ?_
      simp only [Act.put, List.setIfInBounds_toArray, List.set_cons_zero, List.set_cons_succ, List.getElem_toArray, List.getElem_cons_zero, List.getElem_cons_succ]
      refine zqk 2 rfl hH ?_
      simp only [Act.put, List.setIfInBounds_toArray, List.set_cons_zero, List.set_cons_succ, List.getElem_toArray, List.getElem_cons_zero, List.getElem_cons_succ]
      refine zqk 3 rfl hH ?_
      simp only [Act.put, List.setIfInBounds_toArray, List.set_cons_zero, List.set_cons_succ, List.getElem_toArray, List.getElem_cons_zero, List.getElem_cons_succ]
      refine zqk 4 rfl hH ?_
      simp only [Act.put, List.setIfInBounds_toArray, List.set_cons_zero, List.set_cons_succ, List.getElem_toArray, List.getElem_cons_zero, List.getElem_cons_succ]
      refine zqk 5 rfl hH ?_
      simp only [Act.put, List.setIfInBounds_toArray, List.set_cons_zero, List.set_cons_succ, List.getElem_toArray, List.getElem_cons_zero, List.getElem_cons_succ]
      refine zqk 6 rfl hH ?_
      simp only [Act.put, List.setIfInBounds_toArray, List.set_cons_zero, List.set_cons_succ, List.getElem_toArray, List.getElem_cons_zero, List.getElem_cons_succ]
      refine zqk 7 rfl hH ?_
      simp only [Act.put, List.setIfInBounds_toArray, List.set_cons_zero, List.set_cons_succ, List.getElem_toArray, List.getElem_cons_zero, List.getElem_cons_succ]
      refine zqk 8 rfl hH ?_
      simp only [Act.put, List.setIfInBounds_toArray, List.set_cons_zero, List.set_cons_succ, List.getElem_toArray, List.getElem_cons_zero, List.getElem_cons_succ]
      refine zqk 9 rfl hH ?_
      simp only [Act.put, List.setIfInBounds_toArray, List.set_cons_zero, List.set_cons_succ, List.getElem_toArray, List.getElem_cons_zero, List.getElem_cons_succ]
      refine zqk 10 rfl hH ?_
      simp only [Act.put, List.setIfInBounds_toArray, List.set_cons_zero, List.set_cons_succ, List.getElem_toArray, List.getElem_cons_zero, List.getElem_cons_succ]
      refine zqr 11 rfl (fun K hK => ?_)
      refine st_ixadd rfl 16 21 26 rfl rfl rfl rfl (HAD.out _ hB0) (fun W1 r1 => ?_)
      refine hK.out _ _ (HCL.out _ r1.bel) (fun hH => ?_)
      clear hK K
      simp only [Act.put, List.setIfInBounds_toArray, List.set_cons_zero, List.set_cons_succ, List.getElem_toArray, List.getElem_cons_zero, List.getElem_cons_succ]
      refine wpAnyH_done (by kernel_rfl) ?_ _
      have HE : Hid (BuS w ps g b base (k + 1) W1) := r1
      clear r1 hB0 hH
      go_wp2_with fail
      go_roundw
      case rel => exact ⟨k + 1, by omega, by go_num, HE.out⟩
      case measure => simp [intOf]; omega
    · obtain rfl : k = ps.length := by omega
      have HE : Hid (MI wr g b base ps.length (Ix.gml ps) ∧ Below w.heap.size w wr ∧ w.heap.size ≤ b ∧ b < g) := ⟨by have := hB.mi; rwa [List.take_length] at this, hB.bel, hB.ge⟩
      clear hB HS HC
      go_wp2_with fail
      go_returns
      exact ⟨g, b, base, rfl, HE.out⟩
end Go.Proofs.Ytceokpklcfmadaa
