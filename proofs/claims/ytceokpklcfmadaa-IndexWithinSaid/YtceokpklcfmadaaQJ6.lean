import Derived.Maps.OwnIn
import Derived.Test.YtceokpklcfmadaaQID
import Derived.Test.YtceokpklcfmadaaQJ2
import Derived.Test.YtceokpklcfmadaaQI8
/-
  IndexSplits: cutPairs, samePairs, built.
-/
namespace Go.Proofs.Ytceokpklcfmadaa
open Go Go.RowKit Go.ChangeShapes
open Wb

theorem Pr.take {w : World} {a : Option Addr} {n c : Nat} {ps : List (Int × Int)} (h : Pr w (.slice a n c) ps) (k : Nat) (hk : k ≤ ps.length) : Pr w (.slice a k c) (ps.take k) := by
  obtain ⟨a2, c2, e, hm1, hm2, hc⟩ := h
  simp only [Value.slice.injEq] at e
  obtain ⟨rfl, rfl, rfl⟩ := e
  have hl : (ps.take k).length = k := by rw [List.length_take]; omega
  refine ⟨a, c, by rw [hl], by rw [hl]; omega, hm2, fun hne => ?_⟩
  obtain ⟨b, off, rfl, hcell⟩ := hc (fun e => by rw [e] at hne; simp at hne)
  refine ⟨b, off, rfl, fun j hj => ?_⟩
  rw [hl] at hj
  rw [List.getElem_take]
  exact hcell j (by omega)
set_option maxRecDepth 100000 in
set_option maxHeartbeats 1000000 in
theorem ixcutp_any (v : Value) (ps : List (Int × Int)) (w : World) (h : Pr w v ps) :
    Calls Try.prog 37 #[v] w fun e w' => (∃ v', e = .returned v' ∧ Pr w v' (ps.take 300)) ∧ w' = w := by
  have HP : Hid (∀ a n c, v = .slice a n c → ∀ k, k ≤ ps.length → Pr w (.slice a k c) (ps.take k)) := fun a n c e k hk => (e ▸ h : Pr w (.slice a n c) ps).take k hk
  obtain ⟨a, c, rfl, hm1, hm2, -⟩ := h
  unfold maxLen at hm2
  by_cases hlt : 300 < ps.length
  · have hd : ((300 : Int) < (ps.length : Int)) = True := by simp; omega
    have hd2 : ((300 : Int) ≤ (c : Int)) = True := by simp; omega
    have HQ : Hid (Pr w (.slice a 300 c) (ps.take 300)) := HP.out a _ c rfl 300 (by omega)
    go_enter Try.func37, Try.ntmps37
    go_wp2_with fail
    go_returns
    exact ⟨⟨_, rfl, HQ.out⟩, rfl⟩
  · have hd : ((300 : Int) < (ps.length : Int)) = False := by simp; omega
    have HQ : Hid (Pr w (.slice a ps.length c) (ps.take 300)) := by
      have := HP.out a _ c rfl ps.length (Nat.le_refl _)
      rw [List.take_of_length_le (Nat.le_refl _)] at this
      show Pr w _ _
      rw [List.take_of_length_le (by omega)]
      exact this
    go_enter Try.func37, Try.ntmps37
    go_wp2_with fail
    go_returns
    exact ⟨⟨_, rfl, HQ.out⟩, rfl⟩
set_option maxRecDepth 100000 in
set_option maxHeartbeats 2000000 in
theorem ixsamep_yes (v1 v2 : Value) (ps : List (Int × Int)) (w : World) (h1 : Pr w v1 ps) (h2 : Pr w v2 ps) :
    Calls Try.prog 34 #[v1, v2] w fun e w' => e = .returned (.bool true) ∧ Below w.heap.size w w' := by
  obtain ⟨a1, c1, rfl, hm1, hm2, hc1⟩ := h1
  obtain ⟨a2, c2, rfl, hn1, hn2, hc2⟩ := h2
  unfold maxLen at hm2 hn2
  have HC : Hid (∀ j (hj : j < ps.length), ∃ b off b2 off2, a1 = some ⟨b, off, none⟩ ∧ a2 = some ⟨b2, off2, none⟩ ∧ ∀ W, Below w.heap.size w W → W.cell? ⟨b, off + j * 2, none⟩ = some (.int .i64 ps[j].1) ∧ W.cell? ⟨b, off + j * 2 + 1, none⟩ = some (.int .i64 ps[j].2) ∧ W.cell? ⟨b2, off2 + j * 2, none⟩ = some (.int .i64 ps[j].1) ∧ W.cell? ⟨b2, off2 + j * 2 + 1, none⟩ = some (.int .i64 ps[j].2)) := fun j hj => by
    obtain ⟨b, off, rfl, hx⟩ := hc1 (List.ne_nil_of_length_pos (by omega))
    obtain ⟨b2, off2, rfl, hy⟩ := hc2 (List.ne_nil_of_length_pos (by omega))
    have hx := hx j hj
    have hy := hy j hj
    exact ⟨b, off, b2, off2, rfl, rfl, fun W hW => ⟨(hW.cell (p := ⟨b, off + j * 2, none⟩) (World.block_lt_of_cell? _ _ hx.1)).trans hx.1, (hW.cell (p := ⟨b, off + j * 2 + 1, none⟩) (World.block_lt_of_cell? _ _ hx.2)).trans hx.2, (hW.cell (p := ⟨b2, off2 + j * 2, none⟩) (World.block_lt_of_cell? _ _ hy.1)).trans hy.1, (hW.cell (p := ⟨b2, off2 + j * 2 + 1, none⟩) (World.block_lt_of_cell? _ _ hy.2)).trans hy.2⟩⟩
  have hd0 : ((ps.length : Int) != (ps.length : Int)) = false := by simp
  clear hc1 hc2
  go_enter Try.func34, Try.ntmps34
  go_wp2_with fail
  go_loopw [5] (fun i wr => ∃ k : Nat, k ≤ ps.length ∧ i = .int .i64 (k : Int) ∧ Below w.heap.size w wr) (fun i _ => ps.length - (intOf i).toNat)
  case atStart => exact ⟨0, Nat.zero_le _, rfl, Below.refl _ _⟩
  case round =>
    obtain ⟨k, hk, rfl, hb⟩ := hrel
    have HB : Hid (∀ t, Below w.heap.size w (wr.drewN t)) := fun t => bel_drewI hb t
    by_cases hlt : k < ps.length
    · obtain ⟨b, off, b2, off2, rfl, rfl, hcell⟩ := HC.out k hlt
      obtain ⟨x1, x2, x3, x4⟩ := hcell wr hb
      generalize ps[k].1 = x at *
      generalize ps[k].2 = y at *
      clear hcell hb
      go_wp2_with fail
      go_quiet (fail)
      go_wp2_with fail
      go_roundw
      case rel => exact ⟨k + 1, by omega, by go_num, HB.out _⟩
      case measure => simp [intOf]; omega
    · go_wp2_with fail
      go_returns
      exact ⟨rfl, hb⟩
theorem st_ixadd {ops : Array Oper} {o : Oper} {a : Act} {W : World} {K : Act → World → Prop} {Q : Exit → Act → World → Prop} {E : Prop} (hgd : o.guard = none) (p q r : Nat) (ho : o.op = .call { callee := .value (.func 11), args := #[.tmp p, .tmp q, .tmp r], argTypes := #[23, 3, 3] }) {u1 u2 u3 : Value} (hp : a.tmps[p]?.getD undef = u1) (hq : a.tmps[q]?.getD undef = u2) (hr : a.tmps[r]?.getD undef = u3) {R : World → Prop} (hC : Calls Try.prog 11 #[u1, u2, u3] W fun e W' => e = .returned (.tuple #[]) ∧ R W') (h : ∀ W', R W' → K (a.put o.dst (.tuple #[])) W') : if Region.wanted o (yielded ops a.tmps) = true then Oper.wp Try.prog o a W K Q else E := by
  rw [if_pos (by simp [Region.wanted, hgd])]
  obtain ⟨dst, op', ty, pos, after, guard⟩ := o
  simp only at ho hgd
  subst ho hgd
  have HC : Hid (Calls Try.prog 11 #[u1, u2, u3] W fun e W' => e = .returned (.tuple #[]) ∧ R W') := hC
  clear hC
  go_simp
  refine HC.out.mono ?_
  rintro e W' ⟨rfl, r⟩
  exact h W' r
/-- while pairs are added -/
structure BuS (w : World) (ps : List (Int × Int)) (g b base j : Nat) (W : World) : Prop where
  mi : MI W g b base j (Ix.gml (ps.take j))
  bel : Below w.heap.size w W
  ge : w.heap.size ≤ b ∧ b < g
  row : ∀ q, Mrow W b q → w.heap.size ≤ q
set_option maxRecDepth 100000 in
set_option maxHeartbeats 4000000 in
theorem ixbuilt_any (v : Value) (ps : List (Int × Int)) (w : World) (h : Pr w v ps) (hw : ∀ p ∈ ps, (Lit.int .i64 p.1).wf = true ∧ (Lit.int .i64 p.2).wf = true) (hl : ps.length ≤ 10000000) :
    Calls Try.prog 38 #[v] w fun e w' => ∃ g b base, e = .returned (.pointer (some ⟨g, 0, none⟩)) ∧ MI w' g b base ps.length (Ix.gml ps) ∧ Below w.heap.size w w' ∧ w.heap.size ≤ b ∧ b < g := by
  obtain ⟨a, c, rfl, hm1, hm2, hc⟩ := h
  unfold maxLen at hm2
  have HC : Hid (∀ j (hj : j < ps.length), ∃ b off, a = some ⟨b, off, none⟩ ∧ (∀ W, Below w.heap.size w W → W.cell? ⟨b, off + j * 2, none⟩ = some (.int .i64 ps[j].1) ∧ W.cell? ⟨b, off + j * 2 + 1, none⟩ = some (.int .i64 ps[j].2)) ∧ (Lit.int .i64 ps[j].1).wf = true ∧ (Lit.int .i64 ps[j].2).wf = true) := fun j hj => by
    obtain ⟨b, off, rfl, hx⟩ := hc (List.ne_nil_of_length_pos (by omega))
    have hx := hx j hj
    have hwf := hw _ (List.getElem_mem hj)
    exact ⟨b, off, rfl, fun W hW => ⟨(hW.cell (p := ⟨b, off + j * 2, none⟩) (World.block_lt_of_cell? _ _ hx.1)).trans hx.1, (hW.cell (p := ⟨b, off + j * 2 + 1, none⟩) (World.block_lt_of_cell? _ _ hx.2)).trans hx.2⟩, hwf⟩
  have HN : Hid (Calls Try.prog 9 #[] w fun e w' => e = .returned (.pointer (some ⟨w.heap.size + 1, 0, none⟩)) ∧ MI w' (w.heap.size + 1) w.heap.size (w.heap.size + 2) 0 [] ∧ Below w.heap.size w w' ∧ ∀ q, ¬ Mrow w' w.heap.size q) := ixnew_any w
  have HS : Hid (∀ (g b base j : Nat) (W : World) (hj : j < ps.length), BuS w ps g b base j W → Calls Try.prog 11 #[.pointer (some ⟨g, 0, none⟩), .int .i64 ps[j].1, .int .i64 ps[j].2] W fun e w' => e = .returned (.tuple #[]) ∧ BuS w ps g b base (j + 1) w') := fun g b base j W hj hB => by
    have hwf := hw _ (List.getElem_mem hj)
    refine (ixadd_any g b base j _ ps[j].1 ps[j].2 W hB.mi hwf.1 hwf.2 (by omega)).mono fun e w' ⟨e1, e2, e3, e4⟩ => ⟨e1, ?_, ?_, hB.ge, fun q hq => ?_⟩
    · rw [Ix.gml_take ps j hj]
      exact e2
    · exact hB.bel.trans (e3.below _ hB.bel.size fun k hk => by
        rcases hk with rfl | hk
        · exact hB.ge.1
        · exact hB.row k hk)
    · rcases e4 q hq with h5 | h5
      · exact hB.row q h5
      · have := hB.bel.size
        omega
  clear hc hw
  go_enter Try.func38, Try.ntmps38
  go_wp2_with fail
  refine HN.out.mono ?_
  rintro e w1 ⟨rfl, m1, b1, r1⟩
  obtain ⟨g, b, base, hg, hb, hbs⟩ : ∃ g b base, g = w.heap.size + 1 ∧ b = w.heap.size ∧ base = w.heap.size + 2 := ⟨_, _, _, rfl, rfl, rfl⟩
  have HB0 : Hid (BuS w ps g b base 0 w1) := ⟨by rw [hg, hb, hbs]; exact m1, b1, by omega, fun q hq => absurd hq (by rw [hb]; exact r1 q)⟩
  rw [← hg]
  clear m1 b1 r1 HN hg hb hbs
  go_wp2_with fail
  go_loopw [4] (fun i wr => ∃ k : Nat, k ≤ ps.length ∧ i = .int .i64 (k : Int) ∧ BuS w ps g b base k wr) (fun i _ => ps.length - (intOf i).toNat)
  case atStart => exact ⟨0, Nat.zero_le _, rfl, HB0.out⟩
  case round =>
    clear HB0
    obtain ⟨k, hk, rfl, hB⟩ := hrel
    by_cases hlt : k < ps.length
    · obtain ⟨bk, off, rfl, hcell, -⟩ := HC.out k hlt
      have HAD : Hid (∀ W, BuS w ps g b base k W → Calls Try.prog 11 #[.pointer (some ⟨g, 0, none⟩), .int .i64 ps[k].1, .int .i64 ps[k].2] W fun e w' => e = .returned (.tuple #[]) ∧ BuS w ps g b base (k + 1) w') := fun W hW => HS.out g b base k W hlt hW
      have HCL : Hid (∀ W, Below w.heap.size w W → W.cell? ⟨bk, off + k * 2, none⟩ = some (.int .i64 ps[k].1) ∧ W.cell? ⟨bk, off + k * 2 + 1, none⟩ = some (.int .i64 ps[k].2)) := hcell
      clear hcell HS HC
      generalize ps[k].1 = x at *
      generalize ps[k].2 = y at *
      have hB0 : BuS w ps g b base k wr.drew := ⟨hB.mi.kept (Below.drew (Below.refl _ _)), andThen hB.bel (Below.drew (Below.refl _ _)), hB.ge, hB.row⟩
      go_upto_region 5 with fail
      refine wp_region_held_drew (S := fun W : World => W.cell? ⟨bk, off + k * 2, none⟩ = some (.int .i64 x) ∧ W.cell? ⟨bk, off + k * 2 + 1, none⟩ = some (.int .i64 y)) (by kernel_rfl) (HCL.out _ hB0.bel) (fun hH => ?_)
      obtain ⟨W0, hW0⟩ : ∃ x, x = wr.drew := ⟨_, rfl⟩
      rw [← hW0] at hB0 hH ⊢
      clear hW0 hB
      refine zqk 0 rfl hH ?_
      simp only [Act.put, List.setIfInBounds_toArray, List.set_cons_zero, List.set_cons_succ, List.getElem_toArray, List.getElem_cons_zero]
      refine zqk 1 rfl hH ?_
      simp only [Act.put, List.setIfInBounds_toArray, List.set_cons_zero, List.set_cons_succ, List.getElem_toArray, List.getElem_cons_zero, List.getElem_cons_succ]
      refine zqk 2 rfl hH ?_
      simp only [Act.put, List.setIfInBounds_toArray, List.set_cons_zero, List.set_cons_succ, List.getElem_toArray, List.getElem_cons_zero, List.getElem_cons_succ]
      refine zqk 3 rfl hH ?_
      simp only [Act.put, List.setIfInBounds_toArray, List.set_cons_zero, List.set_cons_succ, List.getElem_toArray, List.getElem_cons_zero, List.getElem_cons_succ]
      refine zqk 4 rfl hH ?_
      simp only [Act.put, List.setIfInBounds_toArray, List.set_cons_zero, List.set_cons_succ, List.getElem_toArray, List.getElem_cons_zero, List.getElem_cons_succ]
      refine zqk 5 rfl hH ?_
      simp only [Act.put, List.setIfInBounds_toArray, List.set_cons_zero, List.set_cons_succ, List.getElem_toArray, List.getElem_cons_zero, List.getElem_cons_succ]
      refine zqk 6 rfl hH ?_
      simp only [Act.put, List.setIfInBounds_toArray, List.set_cons_zero, List.set_cons_succ, List.getElem_toArray, List.getElem_cons_zero, List.getElem_cons_succ]
      refine zqk 7 rfl hH ?_
      simp only [Act.put, List.setIfInBounds_toArray, List.set_cons_zero, List.set_cons_succ, List.getElem_toArray, List.getElem_cons_zero, List.getElem_cons_succ]
      refine zqk 8 rfl hH ?_
      simp only [Act.put, List.setIfInBounds_toArray, List.set_cons_zero, List.set_cons_succ, List.getElem_toArray, List.getElem_cons_zero, List.getElem_cons_succ]
      refine zqk 9 rfl hH ?_
      simp only [Act.put, List.setIfInBounds_toArray, List.set_cons_zero, List.set_cons_succ, List.getElem_toArray, List.getElem_cons_zero, List.getElem_cons_succ]
      refine zqk 10 rfl hH ?_
      simp only [Act.put, List.setIfInBounds_toArray, List.set_cons_zero, List.set_cons_succ, List.getElem_toArray, List.getElem_cons_zero, List.getElem_cons_succ]
      refine zqr 11 rfl (fun K hK => ?_)
      refine st_ixadd rfl 16 21 26 rfl rfl rfl rfl (HAD.out _ hB0) (fun W1 r1 => ?_)
      refine hK.out _ _ (HCL.out _ r1.bel) (fun hH => ?_)
      clear hK K
      simp only [Act.put, List.setIfInBounds_toArray, List.set_cons_zero, List.set_cons_succ, List.getElem_toArray, List.getElem_cons_zero, List.getElem_cons_succ]
      refine wpAnyH_done (by kernel_rfl) ?_ _
      have HE : Hid (BuS w ps g b base (k + 1) W1) := r1
      clear r1 hB0 hH
      go_wp2_with fail
      go_roundw
      case rel => exact ⟨k + 1, by omega, by go_num, HE.out⟩
      case measure => simp [intOf]; omega
    · obtain rfl : k = ps.length := by omega
      have HE : Hid (MI wr g b base ps.length (Ix.gml ps) ∧ Below w.heap.size w wr ∧ w.heap.size ≤ b ∧ b < g) := ⟨by have := hB.mi; rwa [List.take_length] at this, hB.bel, hB.ge⟩
      clear hB HS HC
      go_wp2_with fail
      go_returns
      exact ⟨g, b, base, rfl, HE.out⟩
end Go.Proofs.Ytceokpklcfmadaa

/-
  IndexSplits: what it holds between two rounds; a region outside a round.
-/
namespace Go.Proofs.Ytceokpklcfmadaa
open Go Go.RowKit Go.ChangeShapes
open Wb

/-! a region of a fenced function goes as anywhere -/
section
variable {P : Program} {ops : Array Oper} {Q : Exit → Act → World → Prop} {md : Region.Mode} {n : Nat}
theorem opIn_of0 {o : Oper} {a : Act} {w : World} {K : Act → World → Prop} (hnd : ∀ c, o.op ≠ .defer c) (h : Oper.wp P o a w K Q) : Oper.wpIn Fence.wide n P o a w K Q := by
  unfold Oper.wp at h
  refine ⟨fun _ _ => trivial, ?_⟩
  rw [Oper.semAt_plain Fence.wide _ o hnd]
  generalize (execOp a.eval o).run P w = r at h ⊢
  cases r with
  | ok x w' =>
    cases x with
    | value v => exact h
    | skip => exact h
    | defer d => exact h
    | enter f args => exact ⟨(fun h => by cases h), callsIn_wide.2 h⟩
    | row row args => exact ⟨(fun h => by cases h), fun c cs _ => let ⟨v, w', r, s⟩ := h c cs; ⟨v, w', r, stepsIn_wide.2 s⟩⟩
    | _ => exact False.elim h
  | halt x w' =>
    cases x with
    | panic v => exact h
    | _ => exact False.elim h
theorem anyIn_of0 (hlo : ¬ LetsOut Q) (hnd : ∀ (i : Nat) (o : Oper), ops[i]? = some o → ∀ c, o.op ≠ .defer c) : ∀ (fuel : Nat) (listed : Array Bool) (a : Act) (w : World), wpAny P md ops Q fuel listed a w → wpAnyIn Fence.wide n P md ops Q fuel listed a w
  | 0, _, _, _, h => h
  | fuel + 1, listed, a, w, h => ⟨h.1, fun i hi => by
    have h1 := h.2 i hi
    unfold wpOp at h1
    unfold wpOpIn
    cases ho : ops[i]? with
    | none =>
      rw [ho] at h1
      exact anyIn_of0 hlo hnd fuel _ a w h1
    | some o =>
      rw [ho] at h1
      simp only at h1 ⊢
      split
      · rename_i hw
        rw [if_pos hw] at h1
        have h1 := h1.resolve_right fun h => hlo h.2
        exact opIn_of0 (hnd i o ho) (Oper.wp_mono (fun a' w' h' => anyIn_of0 hlo hnd fuel _ a' w' h') h1)
      · rename_i hw
        rw [if_neg hw] at h1
        exact ⟨fun _ _ => trivial, anyIn_of0 hlo hnd fuel _ _ _ h1⟩⟩
theorem regionIn_of0 {id : Nat} {a : Act} {w : World} {S : World → Prop} (hlo : ¬ LetsOut Q) (hm : P.follows .mixedOrders = true) (hnd : noDefer ops = true) (hS : S w.drew) (h : S w.drew → wpAnyH P .any ops Q S ops.size (Array.replicate ops.size false) a w.drew) : (Code.region id ops true).wpIn Fence.wide n P Q a w :=
  wpIn_region_any hm (anyIn_of0 hlo (fun i o ho c e => by
    unfold noDefer at hnd
    rw [Array.all_eq_true_iff_forall_mem] at hnd
    have := hnd o (Array.mem_of_getElem? ho)
    rw [e] at this
    cases this) _ _ _ _ (wpAny_of_held _ _ _ _ (h hS)))
theorem regionIn_of1 {id : Nat} {a : Act} {w : World} {S : World → Prop} {K : Act → World → Prop} {Q' : Exit → Act → World → Prop} (hm : P.follows .mixedOrders = true) (hnd : noDefer ops = true) (hS : S w.drew) (h : S w.drew → wpAnyH P .any ops (Exit.then K (fun _ _ _ => False)) S ops.size (Array.replicate ops.size false) a w.drew) : (Code.region id ops true).wpIn Fence.wide n P (Exit.then K Q') a w :=
  Code.wpIn_mono (fun e a w h => by cases e <;> first | exact h | exact h.elim) (regionIn_of0 (by rintro ⟨_, _, h⟩; exact h) hm hnd hS h)
end
theorem MI.rowTI {w : World} {g b base n : Nat} {kvs : Ix.Gm} (h : MI w g b base n kvs) {k : Nat} (hm : Mrow w b k) : ∃ cs z, w.heap[k]? = some (.cells cs 3 z) := by
  obtain ⟨es, clock, hb, x, hx, hk⟩ := hm
  obtain ⟨es', clock', hb', F, -⟩ := h.map
  obtain ⟨rfl, rfl⟩ : es' = es ∧ clock' = clock := by rw [hb'] at hb; simpa using hb
  obtain ⟨y, hy⟩ := F.reads x hx
  obtain ⟨z, hz, _⟩ := WideElems.rd_val hy
  obtain ⟨zs, hoi, _⟩ := rowElem_inv hz
  rcases hoi.1.2 with ⟨e, -⟩ | ⟨g7, c7, cur7, e, -, hh, -⟩
  · rw [e] at hk
    cases hk
  · rw [e] at hk
    obtain rfl := Option.some.inj hk
    exact ⟨_, _, hh⟩
/-- a block that neither a Multi nor a box of numbers holds -/
def Hml (W : World) (b r : Nat) : Prop := (∃ cs t z, W.heap[r]? = some (.cells cs t z) ∧ (t = 54 ∨ t = 55)) ∨ (∃ o : Obj, W.heap[r]? = some o ∧ o.isCells = false ∧ b < r)
theorem MI.hml {w w' : World} {g b base n : Nat} {kvs : Ix.Gm} (h : MI w g b base n kvs) {row : Option Nat} (hg : w.grownBy w' row) (hr : ∀ r, row = some r → Hml w b r) : MI w' g b base n kvs := by
  refine h.frame hg (fun e => ?_) (fun e => ?_) (fun k e hk => ?_)
  · obtain ⟨es, clock, hb, -⟩ := h.map
    rcases hr _ e with ⟨cs, t, z, h1, -⟩ | ⟨o, -, -, h3⟩
    · rw [hb] at h1
      cases h1
    · omega
  · have hx := h.box
    unfold LB at hx
    rcases hr _ e with ⟨cs, t, z, h1, h2⟩ | ⟨o, h1, h2, -⟩
    · rw [hx] at h1
      simp at h1
      rcases h2 with rfl | rfl <;> exact absurd h1.2.1 (by decide)
    · rw [hx] at h1
      obtain rfl := Option.some.inj h1
      cases h2
  · obtain ⟨cs9, z9, h9⟩ := h.rowTI hk
    rcases hr _ e with ⟨cs, t, z, h1, h2⟩ | ⟨o, h1, h2, -⟩
    · rw [h9] at h1
      simp at h1
      rcases h2 with rfl | rfl <;> exact absurd h1.2.1 (by decide)
    · rw [h9] at h1
      obtain rfl := Option.some.inj h1
      cases h2
theorem LB.hml {w w' : World} {q : Nat} {t : TypeId} {D : List Value} (h : LB w q t D) {b : Nat} {row : Option Nat} (hg : w.grownBy w' row) (hr : ∀ r, row = some r → Hml w b r) (h1 : t ≠ 54) (h2 : t ≠ 55) : LB w' q t D := by
  refine h.other' hg fun e => ?_
  unfold LB at h
  rcases hr _ e with ⟨cs, t', z, h3, h4⟩ | ⟨o, h3, h4, -⟩
  · rw [h] at h3
    simp at h3
    obtain rfl := h3.2.1
    rcases h4 with h4 | h4
    · exact h1 h4
    · exact h2 h4
  · rw [h] at h3
    obtain rfl := Option.some.inj h3
    cases h4
/-- what stays while IndexSplits gathers: the key, the result, the three iterators' boxes, the container -/
structure SpX (w : World) (g b base n : Nat) (kvs : Ix.Gm) (at1 l3 : Int) (B3 B4 m1 m2 m3 : Nat) (W : World) : Prop where
  bat : LB W B3 3 [.int .i64 at1]
  res : LB W B4 4 [.bool false]
  i1 : LB W m1 23 [.pointer (some ⟨g, 0, none⟩)] ∧ LB W (m1 + 1) 3 [.int .i64 (-9223372036854775808)] ∧ LB W (m1 + 2) 3 [.int .i64 9223372036854775807]
  i2 : LB W m2 23 [.pointer (some ⟨g, 0, none⟩)] ∧ LB W (m2 + 1) 3 [.int .i64 (-9223372036854775808)] ∧ LB W (m2 + 2) 3 [.int .i64 at1]
  i3 : LB W m3 23 [.pointer (some ⟨g, 0, none⟩)] ∧ LB W (m3 + 1) 3 [.int .i64 l3] ∧ LB W (m3 + 2) 3 [.int .i64 9223372036854775807]
  mi : MI W g b base n kvs
  bel : Below w.heap.size w W
/-- a list that is gathered: its box, its row -/
structure LsT (w : World) (B : Nat) (v : Value) (xs : List (Int × Int)) (W : World) : Prop where
  box : LB W B 55 [v]
  row : W.ownsRow w.heap.size 54 2 v xs.length (xs.flatMap enP)
section
variable {w : World} {g b base n : Nat} {kvs : Ix.Gm} {at1 l3 : Int} {B3 B4 m1 m2 m3 : Nat} {W W' : World}
theorem SpX.other (h : SpX w g b base n kvs at1 l3 B3 B4 m1 m2 m3 W) {row : Option Nat} (hg : W.grownBy W' row) (hr : ∀ r, row = some r → w.heap.size ≤ r ∧ Hml W b r) : SpX w g b base n kvs at1 l3 B3 B4 m1 m2 m3 W' := by
  have hr2 : ∀ r, row = some r → Hml W b r := fun r e => (hr r e).2
  exact ⟨h.bat.hml hg hr2 (by decide) (by decide), h.res.hml hg hr2 (by decide) (by decide), ⟨h.i1.1.hml hg hr2 (by decide) (by decide), h.i1.2.1.hml hg hr2 (by decide) (by decide), h.i1.2.2.hml hg hr2 (by decide) (by decide)⟩, ⟨h.i2.1.hml hg hr2 (by decide) (by decide), h.i2.2.1.hml hg hr2 (by decide) (by decide), h.i2.2.2.hml hg hr2 (by decide) (by decide)⟩, ⟨h.i3.1.hml hg hr2 (by decide) (by decide), h.i3.2.1.hml hg hr2 (by decide) (by decide), h.i3.2.2.hml hg hr2 (by decide) (by decide)⟩, h.mi.hml hg hr2, h.bel.grown hg h.bel.size fun k e => (hr k e).1⟩
theorem SpX.kept (h : SpX w g b base n kvs at1 l3 B3 B4 m1 m2 m3 W) (hb : Below W.heap.size W W') : SpX w g b base n kvs at1 l3 B3 B4 m1 m2 m3 W' := h.other (grown_none hb none) fun r e => by cases e
theorem LsT.rowAt {B : Nat} {v : Value} {xs : List (Int × Int)} (h : LsT w B v xs W) {r : Nat} (e : v.ownBlock = some r) : w.heap.size ≤ r ∧ r < W.heap.size ∧ ∃ cs z, W.heap[r]? = some (.cells cs 54 z) := by
  have h1 := World.ownsRow.lt h.row r e
  rcases h.row.2 with ⟨e1, -⟩ | ⟨g7, c7, cur7, e1, -, hh, -⟩
  · rw [e1] at e
    cases e
  · rw [e1] at e
    obtain rfl := Option.some.inj e
    exact ⟨h1.1, h1.2, _, _, hh⟩
theorem LsT.other {B : Nat} {v : Value} {xs : List (Int × Int)} (h : LsT w B v xs W) {row : Option Nat} (hg : W.grownBy W' row) (h1 : row ≠ some B) (h2 : ∀ k, v.ownBlock = some k → row ≠ some k) : LsT w B v xs W' := by
  refine ⟨h.box.other' hg h1, h.row.kept hg ?_⟩
  cases e : v.ownBlock with
  | none => exact .inl rfl
  | some k => exact .inr fun e2 => h2 k e e2.symm
theorem LsT.kept {B : Nat} {v : Value} {xs : List (Int × Int)} (h : LsT w B v xs W) (hb : Below W.heap.size W W') : LsT w B v xs W' := h.other (grown_none hb none) (by simp) (by simp)
theorem LsT.nonc {B : Nat} {v : Value} {xs : List (Int × Int)} (h : LsT w B v xs W) {row : Option Nat} (hg : W.grownBy W' row) (hr : ∀ r, row = some r → ∃ o : Obj, W.heap[r]? = some o ∧ o.isCells = false) : LsT w B v xs W' := by
  refine h.other hg (fun e => ?_) (fun k ek e => ?_)
  · obtain ⟨o, h1, h2⟩ := hr _ e
    have hx := h.box
    unfold LB at hx
    rw [hx] at h1
    obtain rfl := Option.some.inj h1
    cases h2
  · obtain ⟨o, h1, h2⟩ := hr _ e
    obtain ⟨-, -, cs, z, h3⟩ := h.rowAt ek
    rw [h3] at h1
    obtain rfl := Option.some.inj h1
    cases h2
end
/-- how a round goes on -/
structure RS (w : World) (fx : Nat → Prop) (W W' : World) : Prop where
  kp : KpI fx 54 W W'
  ko : KeepsOthers W W'
/-- what IndexSplits holds: the lists 'all' (or 'parts') at B, the other at B' -/
structure SpS (w : World) (g b base n : Nat) (kvs : Ix.Gm) (at1 l3 : Int) (B3 B4 m1 m2 m3 B B' : Nat) (v v' : Value) (xs ys : List (Int × Int)) (W : World) : Prop where
  x : SpX w g b base n kvs at1 l3 B3 B4 m1 m2 m3 W
  one : LsT w B v xs W
  two : LsT w B' v' ys W
  ap : ∀ k, v.ownBlock = some k → v'.ownBlock ≠ some k
  ne : B ≠ B'
  ge : w.heap.size ≤ B ∧ w.heap.size ≤ B'
section
variable {w : World} {g b base n : Nat} {kvs : Ix.Gm} {at1 l3 : Int} {B3 B4 m1 m2 m3 B B' : Nat} {v v' : Value} {xs ys : List (Int × Int)} {W W' : World}
theorem SpS.swap (h : SpS w g b base n kvs at1 l3 B3 B4 m1 m2 m3 B B' v v' xs ys W) : SpS w g b base n kvs at1 l3 B3 B4 m1 m2 m3 B' B v' v ys xs W := ⟨h.x, h.two, h.one, fun k e e2 => h.ap k e2 e, h.ne.symm, h.ge.2, h.ge.1⟩
theorem SpS.kept (h : SpS w g b base n kvs at1 l3 B3 B4 m1 m2 m3 B B' v v' xs ys W) (hb : Below W.heap.size W W') : SpS w g b base n kvs at1 l3 B3 B4 m1 m2 m3 B B' v v' xs ys W' := ⟨h.x.kept hb, h.one.kept hb, h.two.kept hb, h.ap, h.ne, h.ge⟩
theorem SpS.nonc (h : SpS w g b base n kvs at1 l3 B3 B4 m1 m2 m3 B B' v v' xs ys W) {Z : Nat} (hZ : b < Z) (hw : w.heap.size ≤ Z) {row : Option Nat} (hg : W.grownBy W' row) (hr : ∀ r, row = some r → Z ≤ r ∧ ∃ o : Obj, W.heap[r]? = some o ∧ o.isCells = false) : SpS w g b base n kvs at1 l3 B3 B4 m1 m2 m3 B B' v v' xs ys W' := by
  refine ⟨h.x.other hg fun r e => ?_, h.one.nonc hg fun r e => (hr r e).2, h.two.nonc hg fun r e => (hr r e).2, h.ap, h.ne, h.ge⟩
  obtain ⟨h1, o, h2, h3⟩ := hr r e
  exact ⟨by omega, .inr ⟨o, h2, h3, by omega⟩⟩
/-- one more pair: append, then the box -/
theorem SpS.app (h : SpS w g b base n kvs at1 l3 B3 B4 m1 m2 m3 B B' v v' xs ys W) (p : Int × Int) (W1 W2 : World) (e1 : W1 = W.alloc (.cells #[.int .i64 p.1, .int .i64 p.2] 54)) {u : Value} (hr : W2.ownsRow w.heap.size 54 2 u (xs ++ [p]).length ((xs ++ [p]).flatMap enP)) (hg : W1.grownBy W2 v.ownBlock) (hat : u.ownBlock = v.ownBlock ∨ u.ownBlock = some W1.heap.size) :
    LB W2 B 55 [v] ∧ SpS w g b base n kvs at1 l3 B3 B4 m1 m2 m3 B B' u v' (xs ++ [p]) ys (W2.setCell ⟨B, 0, none⟩ u) ∧ RS w (fun k => k = B ∨ k = B') W (W2.setCell ⟨B, 0, none⟩ u) := by
  have b1 : Below W.heap.size W W1 := by rw [e1]; exact up0 _ _
  have h1 := h.kept b1
  have hvr : ∀ r, v.ownBlock = some r → w.heap.size ≤ r ∧ Hml W1 b r := fun r e => by
    obtain ⟨h2, -, cs, z, h3⟩ := h1.one.rowAt e
    exact ⟨h2, .inl ⟨cs, _, z, h3, .inl rfl⟩⟩
  have hne : ∀ {q : Nat} {x : Value}, LB W1 q 55 [x] → v.ownBlock ≠ some q := fun {q x} L e => by
    obtain ⟨-, -, cs, z, h3⟩ := h1.one.rowAt e
    unfold LB at L
    rw [L] at h3
    simp at h3
  have x2 := h1.x.other hg hvr
  have box2 : LB W2 B 55 [v] := h1.one.box.other' hg (hne h1.one.box)
  have two2 : LsT w B' v' ys W2 := h1.two.other hg (hne h1.two.box) fun k e e2 => h.ap k e2 e
  have hst : W2.grownBy (W2.setCell ⟨B, 0, none⟩ u) (some B) := ⟨rfl, rfl, rfl, by simp [World.setCell], fun k _ hn => set_other _ _ _ _ fun e => hn (by rw [e])⟩
  have hB : Hml W2 b B := by
    have hx := box2
    unfold LB at hx
    exact .inl ⟨_, _, _, hx, .inr rfl⟩
  have hrowB : ∀ {u' : Value} {k : Nat} {zs : List Value}, W2.ownsRow w.heap.size 54 2 u' k zs → u'.ownBlock ≠ some B := fun {u' k zs} ho e => by
    rcases ho.2 with ⟨e3, -⟩ | ⟨g7, c7, cur7, e3, -, hh, -⟩
    · rw [e3] at e
      cases e
    · rw [e3] at e
      obtain rfl := Option.some.inj e
      have hx := box2
      unfold LB at hx
      rw [hx] at hh
      simp at hh
  refine ⟨box2, ⟨x2.other hst fun r e => ?_, ⟨box2.set 0 u, hr.kept hst ?_⟩, two2.other hst (fun e => h.ne (Option.some.inj e)) fun k e e2 => ?_, fun k e e2 => ?_, h.ne, h.ge⟩, ⟨⟨?_, ?_, ?_, ?_, fun k cs t z e h5 h6 => ?_⟩, ⟨?_, fun k o e h5 => ?_⟩⟩⟩
  · obtain rfl := Option.some.inj e
    exact ⟨h.ge.1, hB⟩
  · cases e : u.ownBlock with
    | none => exact .inl rfl
    | some k => exact .inr fun e2 => hrowB hr (e.trans e2)
  · obtain rfl := Option.some.inj e2
    exact hrowB two2.row e
  · rcases hat with e3 | e3
    · exact h.ap k (e3 ▸ e) e2
    · have e4 := Option.some.inj (e3.symm.trans e)
      have := (h.two.rowAt e2).2.1
      have := b1.size
      omega
  · exact hg.os.trans b1.os
  · exact hg.tape.trans b1.tape
  · exact hg.output.trans b1.output
  · have := hg.size
    have := b1.size
    simp [World.setCell]
    omega
  · have hlt := (Array.getElem?_eq_some_iff.1 e).1
    refine (set_other _ _ _ _ fun e3 => h6 (.inl e3)).trans ((hg.block k (Nat.lt_of_lt_of_le hlt b1.size) fun e3 => ?_).trans ((b1.block k hlt).trans e))
    obtain ⟨-, -, cs2, z2, h7⟩ := h.one.rowAt e3.symm
    rw [e] at h7
    simp at h7
    exact h5 h7.2.1
  · have := hg.size
    have := b1.size
    simp [World.setCell]
    omega
  · have hlt := (Array.getElem?_eq_some_iff.1 e).1
    refine (set_other _ _ _ _ fun e3 => ?_).trans ((hg.block k (Nat.lt_of_lt_of_le hlt b1.size) fun e3 => ?_).trans ((b1.block k hlt).trans e))
    · subst e3
      have hx := h.one.box
      unfold LB at hx
      rw [hx] at e
      obtain rfl := Option.some.inj e
      cases h5
    · obtain ⟨-, -, cs2, z2, h7⟩ := h.one.rowAt e3.symm
      rw [e] at h7
      obtain rfl := Option.some.inj h7
      cases h5
end
/-- append of one pair, in a fence -/
theorem wpListIn_appP {F : Fence} {nF : Nat} (w : World) {ops : Array Oper} {rest : List Oper} {o : Oper} {a : Act} {Q : Exit → Act → World → Prop} (hgd : o.guard = none) (s x : Operand)
    (ho : o.op = .call { callee := .builtin .append, args := #[s, x], argTypes := #[55, 55] })
    (B : Nat) (v : Value) (ps : List (Int × Int)) (hv : a.eval s = v) (h : w.ownsRow B 54 2 v ps.length (ps.flatMap enP)) (g c : Nat) (p : Int × Int) (hx : a.eval x = .slice (some ⟨g, 0, none⟩) 1 c)
    (hc : w.rangeAt g 0 (enP p)) (hmax : ps.length ≤ 100000000) (hB : B ≤ w.heap.size)
    (hK : ∀ ad m c w', w'.ownsRow B 54 2 (.slice ad m c) (ps ++ [p]).length ((ps ++ [p]).flatMap enP) → w.grownBy w' v.ownBlock → ((Value.slice ad m c).ownBlock = v.ownBlock ∨ (Value.slice ad m c).ownBlock = some w.heap.size) → wpListIn F nF Try.prog ops Q rest (a.put o.dst (.slice ad m c)) w') : wpListIn F nF Try.prog ops Q (o :: rest) a w := by
  obtain ⟨i0, hi, hq⟩ := Option.map_eq_some_iff.1 infoP
  simp only [Prod.mk.injEq] at hq
  obtain ⟨v', w', hr, h2, h3, -, h5⟩ := run_append_own_at (P := Try.prog) w B 55 o.type 54 i0 _ 2 16 Try.underlying55 hi hq.1 hq.2.1 hq.2.2 rfl (by decide) v ps.length _ h ⟨g, 0, none⟩ 1 c (enP p) rfl (fun j u hj => by
    have := hc j u hj
    rw [Addr.add_lit]
    exact this) (fun u hu => by simp [enP] at hu; rcases hu with rfl | rfl <;> rfl) (by unfold maxLen; omega) (by omega) hB
  obtain ⟨ad, m, c', rfl⟩ : ∃ ad m c', v' = .slice ad m c' := by
    rcases h2.2 with ⟨rfl, -⟩ | ⟨g', cap, cur, rfl, -⟩ <;> exact ⟨_, _, _, rfl⟩
  refine wpListIn_plain hgd fun K hK' => ?_
  unfold Oper.wpIn
  refine ⟨by simp [Oper.about, ho, resolve, Target.leads, Sem.run_pure], ?_⟩
  rw [Oper.semAt_plain F _ _ (by rw [ho]; intro c hc'; cases hc')]
  simp [execOp, ho, resolve, invoke, builtin, hv, hx, hr, Result.andThen]
  refine hK' _ _ (hK ad m c' w' ?_ h3 h5)
  rw [List.length_append, List.flatMap_append]
  simpa using h2
/-- a range's rounds: the pairs behind those that stood there, the other list, the marks of earlier ranges -/
def IS (w : World) (g b base n : Nat) (kvs : Ix.Gm) (at1 l3 : Int) (B3 B4 m1 m2 m3 B B' : Nat) (v' : Value) (zs ys : List (Int × Int)) (Ds : List Nat) (pre : List PI) (W : World) : Prop :=
  (∃ ad, ∃ m c : Nat, SpS w g b base n kvs at1 l3 B3 B4 m1 m2 m3 B B' (.slice ad m c) v' (zs ++ pre.map (·.1)) ys W) ∧ ∀ D ∈ Ds, W.heap[D]? = some (.deferred (some []))
/-- a range that was left -/
def IXS (bad : Int → Prop) (c : Code) (pre : List PI) (_W : World) : Prop := c = .ret ∧ ∃ x ∈ pre, bad x.1.1
theorem IS_own {w : World} {g b base n : Nat} {kvs : Ix.Gm} {at1 l3 : Int} {B3 B4 m1 m2 m3 B B' : Nat} {v' : Value} {zs ys : List (Int × Int)} {Ds : List Nat} {Z : Nat} (hb : b < Z) (hw : w.heap.size ≤ Z) (hD : ∀ D ∈ Ds, D < Z) : OwnFrom Z (IS w g b base n kvs at1 l3 B3 B4 m1 m2 m3 B B' v' zs ys Ds) := by
  rintro s A A' row ⟨⟨ad, m, c, h1⟩, h2⟩ hg hr
  refine ⟨⟨ad, m, c, h1.nonc hb hw hg hr⟩, fun D hd => (hg.block D (Array.getElem?_eq_some_iff.1 (h2 D hd)).1 fun e => ?_).trans (h2 D hd)⟩
  have := (hr D e.symm).1
  have := hD D hd
  omega
theorem IXS_own (bad : Int → Prop) (Z : Nat) (c : Code) : OwnFrom Z (IXS bad c) := fun _ _ _ _ h _ _ => h
theorem lb_putObj {W : World} {D q : Nat} {o : Obj} {t : TypeId} {vs : List Value} (L : LB W q t vs) (hK : W.heap[D]? = some o) (hc : o.isCells = false) (o' : Obj) : LB (W.putObj D o') q t vs := by
  refine L.other' (grownBy_putObj' W D o') fun e => ?_
  obtain rfl := Option.some.inj e
  unfold LB at L
  rw [L] at hK
  obtain rfl := Option.some.inj hK
  cases hc
theorem below_putObj {w W : World} {D : Nat} (h : Below w.heap.size w W) (hD : w.heap.size ≤ D) (o' : Obj) : Below w.heap.size w (W.putObj D o') := h.grown (grownBy_putObj' W D o') h.size fun k e => by
  obtain rfl := Option.some.inj e
  exact hD
theorem mark_putObj {W : World} {D D' : Nat} {o : Obj} (h : W.heap[D']? = some o) (hne : D' ≠ D) (o' : Obj) : (W.putObj D o').heap[D']? = some o := ((grownBy_putObj' W D o').block D' (Array.getElem?_eq_some_iff.1 h).1 fun e => hne (Option.some.inj e)).trans h
end Go.Proofs.Ytceokpklcfmadaa
