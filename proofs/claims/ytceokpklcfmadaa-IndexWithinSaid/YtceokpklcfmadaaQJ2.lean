import Derived.Test.YtceokpklcfmadaaQID
import Derived.Test.YtceokpklcfmadaaQJ1
/-
  IndexReads: holds.
-/
namespace Go.Proofs.Ytceokpklcfmadaa
open Go Go.RowKit Go.ChangeShapes
open Wb

section
variable {ops : Array Oper} {o : Oper} {a : Act} {W : World} {K : Act → World → Prop} {Q : Exit → Act → World → Prop} {E : Prop}
theorem st_ixget (hgd : o.guard = none) (p q : Nat) (ho : o.op = .call { callee := .value (.func 21), args := #[.tmp p, .tmp q], argTypes := #[23, 3] }) {u1 u2 : Value} (hp : a.tmps[p]?.getD undef = u1) (hq : a.tmps[q]?.getD undef = u2) {R : Value → World → Prop} (hC : Calls Try.prog 21 #[u1, u2] W fun e W' => ∃ v', e = .returned v' ∧ R v' W') (h : ∀ v' W', R v' W' → K (a.put o.dst v') W') : if Region.wanted o (yielded ops a.tmps) = true then Oper.wp Try.prog o a W K Q else E := by
  rw [if_pos (by simp [Region.wanted, hgd])]
  obtain ⟨dst, op', ty, pos, after, guard⟩ := o
  simp only at ho hgd
  subst ho hgd
  have HC : Hid (Calls Try.prog 21 #[u1, u2] W fun e W' => ∃ v', e = .returned v' ∧ R v' W') := hC
  clear hC
  go_simp
  refine HC.out.mono ?_
  rintro e W' ⟨v', rfl, r⟩
  exact h v' W' r
theorem st_rixget (hgd : o.guard = none) (p q : Nat) (ho : o.op = .call { callee := .value (.func 28), args := #[.tmp p, .tmp q], argTypes := #[55, 3] }) {u1 u2 : Value} (hp : a.tmps[p]?.getD undef = u1) (hq : a.tmps[q]?.getD undef = u2) {R : Value → World → Prop} (hC : Calls Try.prog 28 #[u1, u2] W fun e W' => ∃ v', e = .returned v' ∧ R v' W') (h : ∀ v' W', R v' W' → K (a.put o.dst v') W') : if Region.wanted o (yielded ops a.tmps) = true then Oper.wp Try.prog o a W K Q else E := by
  rw [if_pos (by simp [Region.wanted, hgd])]
  obtain ⟨dst, op', ty, pos, after, guard⟩ := o
  simp only at ho hgd
  subst ho hgd
  have HC : Hid (Calls Try.prog 28 #[u1, u2] W fun e W' => ∃ v', e = .returned v' ∧ R v' W') := hC
  clear hC
  go_simp
  refine HC.out.mono ?_
  rintro e W' ⟨v', rfl, r⟩
  exact h v' W' r
theorem st_same (hgd : o.guard = none) (p q : Nat) (ho : o.op = .call { callee := .value (.func 17), args := #[.tmp p, .tmp q], argTypes := #[35, 35] }) {u1 u2 : Value} (hp : a.tmps[p]?.getD undef = u1) (hq : a.tmps[q]?.getD undef = u2) {zs : List Int} (h1 : Ri W u1 zs) (h2 : Ri W u2 zs) (h : ∀ W', Below W.heap.size W W' → K (a.put o.dst (.bool true)) W') : if Region.wanted o (yielded ops a.tmps) = true then Oper.wp Try.prog o a W K Q else E := by
  rw [if_pos (by simp [Region.wanted, hgd])]
  obtain ⟨dst, op', ty, pos, after, guard⟩ := o
  simp only at ho hgd
  subst ho hgd
  have HC : Hid (Calls Try.prog 17 #[u1, u2] W fun e W' => e = .returned (.bool (decide (zs = zs))) ∧ Below W.heap.size W W') := ixsamei_any u1 u2 zs zs W h1 h2
  clear h1 h2
  go_simp
  refine HC.out.mono ?_
  rintro e W' ⟨rfl, r⟩
  rw [decide_eq_true rfl]
  exact h W' r
end
end Go.Proofs.Ytceokpklcfmadaa

/-
  annalsref5: All, Keys of any list; holds of any list.
-/
namespace Go.Proofs.Ytceokpklcfmadaa
open Go Go.RowKit Go.ChangeShapes
open Wb

set_option maxRecDepth 100000 in
theorem rixall_any (v : Value) (ps : List (Int × Int)) (w : World) (h : Pr w v ps) (hl : ps.length ≤ 10000000) (hb : ∀ p ∈ ps, -9223372036854775808 ≤ p.1 ∧ p.1 ≤ 9223372036854775807) :
    Calls Try.prog 35 #[v] w fun e w' => ∃ v', e = .returned v' ∧ w'.ownsRow w.heap.size 54 2 v' (prs (Ix.gml ps)).length ((prs (Ix.gml ps)).flatMap enP) ∧ Below w.heap.size w w' := by
  have HS : Hid (Calls Try.prog 56 #[v, .int .i64 (-9223372036854775808), .int .i64 9223372036854775807] w fun e w' => ∃ v', e = .returned v' ∧ w'.ownsRow w.heap.size 54 2 v' (prs (Ix.gml ps)).length ((prs (Ix.gml ps)).flatMap enP) ∧ Below w.heap.size w w') := by
    have h9 := rixsorted_any v ps (-9223372036854775808) 9223372036854775807 w h hl
    rw [Ix.all_gml ps hb] at h9
    exact h9
  clear h hb
  generalize prs (Ix.gml ps) = qs at *
  go_enter Try.func35, Try.ntmps35
  go_wp2_with fail
  refine HS.out.mono ?_
  rintro e w1 ⟨v1, rfl, r1, b1⟩
  have H1 : Hid (w1.ownsRow w.heap.size 54 2 v1 qs.length (qs.flatMap enP) ∧ Below w.heap.size w w1) := ⟨r1, b1⟩
  clear r1 b1 HS
  go_wp2_with fail
  go_ret
  exact ⟨_, rfl, H1.out.1, H1.out.2⟩
set_option maxRecDepth 100000 in
set_option maxHeartbeats 4000000 in
theorem rixkeys_of (v : Value) (ps : List (Int × Int)) (w0 : World) (h : Calls Try.prog 35 #[v] w0 fun e w' => ∃ v', e = .returned v' ∧ w'.ownsRow w0.heap.size 54 2 v' ps.length (ps.flatMap enP) ∧ Below w0.heap.size w0 w') (hl : ps.length ≤ 10000000) :
    Calls Try.prog 30 #[v] w0 fun e w' => ∃ v', e = .returned v' ∧ Ri w' v' (Ix.dks none ps) ∧ Below w0.heap.size w0 w' := by
  have hin := infoI
  have HA : Hid (Calls Try.prog 35 #[v] w0 fun e w' => ∃ v', e = .returned v' ∧ w'.ownsRow w0.heap.size 54 2 v' ps.length (ps.flatMap enP) ∧ Below w0.heap.size w0 w') := h
  clear h
  go_enter Try.func30, Try.ntmps30
  go_wp2_with fail
  refine HA.out.mono ?_
  rintro e w ⟨v1, rfl, r1, b1⟩
  have HB0 : Hid (Below w0.heap.size w0 w) := b1
  obtain ⟨a, c, rfl, hm1, hm2, hc⟩ := Pr.of r1
  unfold maxLen at hm2
  have HC : Hid (ps ≠ [] → ∃ b off, a = some ⟨b, off, none⟩ ∧ ∀ j (h : j < ps.length), w.cell? ⟨b, off + j * 2, none⟩ = some (.int .i64 ps[j].1) ∧ w.cell? ⟨b, off + j * 2 + 1, none⟩ = some (.int .i64 ps[j].2)) := hc
  clear hc r1 b1 HA
  go_wp2_with fail
  go_loopw [4, 5] (fun o i wr => ∃ j : Nat, j ≤ ps.length ∧ i = .int .i64 (j : Int) ∧ KyS w ps 0 j o wr) (fun _ i _ => ps.length - (intOf i).toNat)
  case atStart => exact ⟨0, Nat.zero_le _, rfl, ⟨World.ownsRow_nil _ _ _ _, Below.refl _ _⟩⟩
  case round =>
    obtain ⟨j, hj, rfl, hg⟩ := hrel
    have HG : Hid (KyS w ps 0 j u4 wr) := hg
    clear hg
    by_cases hlt : j < ps.length
    · obtain ⟨b, off, rfl, hcell⟩ := HC.out (List.ne_nil_of_length_pos (by omega))
      have q1 := (HG.out.bel.cell (p := ⟨b, off + j * 2, none⟩) (World.block_lt_of_cell? _ _ (hcell j hlt).1)).trans (hcell j hlt).1
      have HGN : Hid (∀ n, KyS w ps 0 j u4 (wr.drewN n)) := fun n => ⟨HG.out.row, bel_drewI HG.out.bel n⟩
      have HL : Hid ((Ix.dks none (ps.take j)).length ≤ 100000000) := by
        have := Ix.dks_len (ps.take j) none
        rw [List.length_take] at this
        show _ ≤ _
        omega
      by_cases h0 : 0 < j
      · have q0 := (HG.out.bel.cell (p := ⟨b, off + (j - 1) * 2, none⟩) (World.block_lt_of_cell? _ _ (hcell (j - 1) (by omega)).1)).trans (hcell (j - 1) (by omega)).1
        have hd0 : ((j : Int) == 0) = false := by simp; omega
        have hw : IntKind.i64.wrap ((j : Int) - 1) = ((j - 1 : Nat) : Int) := by
          rw [IntWalk.i64_in _ (by omega)]
          omega
        clear hcell
        obtain ⟨z, hz⟩ : ∃ z, z = ps[j].1 := ⟨_, rfl⟩
        obtain ⟨z0, hz0⟩ : ∃ z0, z0 = (ps[j - 1]'(by omega)).1 := ⟨_, rfl⟩
        rw [← hz] at q1
        rw [← hz0] at q0
        by_cases he : z = z0
        · have H3 : Hid (∀ n, KyS w ps 0 (j + 1) u4 (wr.drewN n)) := fun n => ⟨by rw [Ix.dks_skip ps j hlt h0 (by rw [← hz, ← hz0]; exact he)]; exact (HGN.out n).row, (HGN.out n).bel⟩
          have hd1 : (z0 != z0) = false := by simp
          clear hz hz0
          subst he
          go_wp2_with fail
          go_quiet (fail)
          go_wp2_with fail
          go_roundw
          case rel => exact ⟨j + 1, by omega, by go_num, H3.out _⟩
          case measure => simp [intOf]; omega
        · have HV : Hid (Ix.dks none (ps.take (j + 1)) = Ix.dks none (ps.take j) ++ [z]) := by
            show _ = _
            rw [hz]
            exact Ix.dks_take ps j hlt (.inr ⟨h0, by rw [← hz, ← hz0]; exact he⟩)
          have hd1 : (z != z0) = true := by rw [bne_iff_ne]; exact he
          clear he hz hz0
          have HR : Hid (∀ n W, W = (wr.drewN n).alloc (.cells #[.int .i64 z] 3) → W.ownsRow w.heap.size 3 1 u4 (Ix.dks none (ps.take j)).length ((Ix.dks none (ps.take j)).map (Value.int .i64)) ∧ W.cell? ⟨wr.heap.size, 0, none⟩ = some (.int .i64 z) ∧ w.heap.size ≤ W.heap.size ∧ Below w.heap.size w W) := fun n W e => by
            subst e
            exact ⟨(HGN.out n).row.alloc _, (lb_new (wr.drewN n) [.int .i64 z] 3).cell 0 _ rfl, Nat.le_trans (HGN.out n).bel.size (up0 _ _).size, up (HGN.out n).bel _⟩
          go_wp2_with fail
          go_quiet (fail)
          go_wp2_with (at_builtin; refine wpList_appI _ rfl (.tmp 30) (.tmp 36) 35 rfl w.heap.size hin Try.underlying35 u4 (Ix.dks none (ps.take j)) rfl (HR.out _ _ rfl).1 wr.heap.size 1 z rfl (HR.out _ _ rfl).2.1 HL.out (HR.out _ _ rfl).2.2.1 ?_)
          intro v3 w3 hr3 hg3
          have H3 : Hid (KyS w ps 0 (j + 1) v3 w3) := by
            refine ⟨by rw [HV.out, List.length_append, List.map_append]; exact hr3, (HR.out _ _ rfl).2.2.2.grown hg3 (HR.out _ _ rfl).2.2.1 fun q e => (World.ownsRow.lt HG.out.row q e).1⟩
          clear hr3 hg3 HR
          go_wp2_with fail
          go_roundw
          case rel => exact ⟨j + 1, by omega, by go_num, H3.out⟩
          case measure => simp [intOf]; omega
      · obtain rfl : j = 0 := by omega
        have HV : Hid (Ix.dks none (ps.take (0 + 1)) = Ix.dks none (ps.take 0) ++ [ps[0].1]) := Ix.dks_take ps 0 hlt (.inl rfl)
        generalize ps[0].1 = z at *
        have q9 : wr.cell? ⟨b, off, none⟩ = some (.int .i64 z) := by simpa using q1
        clear q1
        have HR : Hid (∀ n W, W = (wr.drewN n).alloc (.cells #[.int .i64 z] 3) → W.ownsRow w.heap.size 3 1 u4 (Ix.dks none (ps.take 0)).length ((Ix.dks none (ps.take 0)).map (Value.int .i64)) ∧ W.cell? ⟨wr.heap.size, 0, none⟩ = some (.int .i64 z) ∧ w.heap.size ≤ W.heap.size ∧ Below w.heap.size w W) := fun n W e => by
          subst e
          exact ⟨(HGN.out n).row.alloc _, (lb_new (wr.drewN n) [.int .i64 z] 3).cell 0 _ rfl, Nat.le_trans (HGN.out n).bel.size (up0 _ _).size, up (HGN.out n).bel _⟩
        clear hcell h0
        go_wp2_with fail
        go_quiet (fail)
        go_wp2_with (at_builtin; refine wpList_appI _ rfl (.tmp 30) (.tmp 36) 35 rfl w.heap.size hin Try.underlying35 u4 (Ix.dks none (ps.take 0)) rfl (HR.out _ _ rfl).1 wr.heap.size 1 z rfl (HR.out _ _ rfl).2.1 HL.out (HR.out _ _ rfl).2.2.1 ?_)
        intro v3 w3 hr3 hg3
        have H3 : Hid (KyS w ps 0 (0 + 1) v3 w3) := by
          refine ⟨by rw [HV.out, List.length_append, List.map_append]; exact hr3, (HR.out _ _ rfl).2.2.2.grown hg3 (HR.out _ _ rfl).2.2.1 fun q e => (World.ownsRow.lt HG.out.row q e).1⟩
        clear hr3 hg3 HR
        go_wp2_with fail
        go_roundw
        case rel => exact ⟨0 + 1, by omega, by go_num, H3.out⟩
        case measure => simp [intOf]; omega
    · have H3 : Hid (Ri wr u4 (Ix.dks none ps)) := by
        have h9 := Ri.of HG.out.row
        rw [List.take_of_length_le (by omega)] at h9
        exact h9
      go_wp2_with fail
      go_ret
      exact ⟨_, rfl, H3.out, andThen HB0.out HG.out.bel⟩
theorem rixkeys_any (v : Value) (ps : List (Int × Int)) (w : World) (h : Pr w v ps) (hl : ps.length ≤ 10000000) (hb : ∀ p ∈ ps, -9223372036854775808 ≤ p.1 ∧ p.1 ≤ 9223372036854775807) :
    Calls Try.prog 30 #[v] w fun e w' => ∃ v', e = .returned v' ∧ Ri w' v' ((Ix.gml ps).map (·.1)) ∧ Below w.heap.size w w' := by
  have hf := Ix.gml_fine ps
  have h9 := rixkeys_of v (prs (Ix.gml ps)) w (rixall_any v ps w h hl hb) (by rw [Ix.prs_len, hf.tot]; exact hl)
  rw [Ix.dks_prs (Ix.gml ps) none hf.ris hf.ne (by simp)] at h9
  exact h9
set_option maxRecDepth 100000 in
set_option maxHeartbeats 4000000 in
theorem ixholds_any (g b base n : Nat) (ps : List (Int × Int)) (v : Value) (w : World) (h : MI w g b base n (Ix.gml ps)) (hp : Pr w v ps) (hn : n < 1000000000) (hl : ps.length ≤ 10000000) (hw : ∀ p ∈ ps, -9223372036854775808 ≤ p.1 ∧ p.1 ≤ 9223372036854775807) :
    Calls Try.prog 39 #[.pointer (some ⟨g, 0, none⟩), v] w fun e w' => e = .returned (.bool true) ∧ Below w.heap.size w w' := by
  have hf := Ix.gml_fine ps
  have hb : ∀ p ∈ Ix.gml ps, -9223372036854775808 ≤ p.1 ∧ p.1 ≤ 9223372036854775807 := fun p hp => by
    obtain ⟨q, hq, e⟩ := hf.key p hp
    rw [← e]
    exact hw q hq
  have hk : (Ix.gml ps).length ≤ 10000000 := Nat.le_trans hf.len hl
  have HLN : Hid (Calls Try.prog 14 #[.pointer (some ⟨g, 0, none⟩)] w fun e w' => e = .returned (.int .i64 (ps.length : Int)) ∧ Below w.heap.size w w') := by
    have h9 := ixlen_any g b base n (Ix.gml ps) w h (by rw [hf.tot]; omega)
    rw [hf.tot] at h9
    exact h9
  have HRK : Hid (∀ W, Below w.heap.size w W → Calls Try.prog 30 #[v] W fun e w' => ∃ v', e = .returned v' ∧ Ri w' v' ((Ix.gml ps).map (·.1)) ∧ Below W.heap.size W w') := fun W hW => rixkeys_any v ps W (hp.kept hW) hl hw
  have HKY : Hid (∀ W, Below w.heap.size w W → Calls Try.prog 18 #[.pointer (some ⟨g, 0, none⟩)] W fun e w' => ∃ v, e = .returned v ∧ Ri w' v ((Ix.gml ps).map (·.1)) ∧ Below W.heap.size W w') := fun W hW => ixkeys_any g b base n (Ix.gml ps) W (h.kept hW) hk
  have HGE : Hid (∀ (W : World) (k : Nat) (hlt : k < (Ix.gml ps).length), Below w.heap.size w W → Calls Try.prog 21 #[.pointer (some ⟨g, 0, none⟩), .int .i64 (Ix.gml ps)[k].1] W fun e w' => ∃ v', e = .returned v' ∧ (Ri w' v' (Ix.get (Ix.gml ps) (Ix.gml ps)[k].1) ∧ Below W.heap.size W w')) := fun W k hlt hW => ixget_any g b base n (Ix.gml ps) _ W (h.kept hW) (WalkArith.wf_i64 (by have := hb (Ix.gml ps)[k] (List.getElem_mem _); omega)) hn
  have HRG : Hid (∀ (W : World) (k : Nat) (hlt : k < (Ix.gml ps).length), Below w.heap.size w W → Calls Try.prog 28 #[v, .int .i64 (Ix.gml ps)[k].1] W fun e w' => ∃ v', e = .returned v' ∧ (Ri w' v' (Ix.get (Ix.gml ps) (Ix.gml ps)[k].1) ∧ Below W.heap.size W w')) := fun W k hlt hW => by
    have h9 := rixget_any v ps (Ix.gml ps)[k].1 W (hp.kept hW) hl
    rw [Ix.vals_gml] at h9
    exact h9
  obtain ⟨av, cv, rfl, -, -, -⟩ := hp
  have hd0 : ((ps.length : Int) != (ps.length : Int)) = false := by simp
  clear h hb hf hw
  generalize Ix.gml ps = kvs at *
  go_enter Try.func39, Try.ntmps39
  go_wp2_with fail
  refine HLN.out.mono ?_
  rintro e w1 ⟨rfl, b1⟩
  have HB1 : Hid (Below w.heap.size w w1) := b1
  clear b1 HLN
  go_wp2_with fail
  refine (HRK.out _ HB1.out).mono ?_
  rintro e w2 ⟨v2, rfl, r2, b2⟩
  have HB2 : Hid (Below w.heap.size w w2 ∧ Ri w2 v2 (kvs.map (·.1))) := ⟨andThen HB1.out b2, r2⟩
  clear r2 b2 HB1 HRK
  go_wp2_with fail
  refine (HKY.out _ HB2.out.1).mono ?_
  rintro e w3 ⟨v3, rfl, r3, b3⟩
  have HB3 : Hid (Below w.heap.size w w3 ∧ Ri w3 v2 (kvs.map (·.1)) ∧ Ri w3 v3 (kvs.map (·.1))) := ⟨andThen HB2.out.1 b3, HB2.out.2.kept b3, r3⟩
  clear r3 b3 HB2 HKY
  go_wp2_with fail
  refine (ixsamei_any _ _ _ _ _ HB3.out.2.2 HB3.out.2.1).mono ?_
  rintro e w4 ⟨rfl, b4⟩
  rw [decide_eq_true rfl]
  have HB4 : Hid (Below w.heap.size w w4) := andThen HB3.out.1 b4
  have hr4 : Ri w4 v2 (kvs.map (·.1)) := HB3.out.2.1.kept b4
  obtain ⟨a2, c2, rfl, hm2, hc2⟩ := hr4
  rw [List.length_map] at hm2 ⊢
  unfold maxLen at hm2
  have HC2 : Hid (kvs.map (·.1) ≠ [] → ∃ b off, a2 = some ⟨b, off, none⟩ ∧ ∀ j (h : j < (kvs.map (·.1)).length), w4.cell? ⟨b, off + j, none⟩ = some (.int .i64 (kvs.map (·.1))[j])) := hc2
  clear hc2 b4 HB3
  go_wp2_with fail
  go_loopw [6] (fun i wr => ∃ k : Nat, k ≤ kvs.length ∧ i = .int .i64 (k : Int) ∧ Below w4.heap.size w4 wr) (fun i _ => kvs.length - (intOf i).toNat)
  case atStart => exact ⟨0, Nat.zero_le _, rfl, Below.refl _ _⟩
  case round =>
    obtain ⟨k, hk9, rfl, hbel⟩ := hrel
    by_cases hlt : k < kvs.length
    · obtain ⟨bk, off, rfl, hcell⟩ := HC2.out (fun e => by
        have := congrArg List.length e
        rw [List.length_map] at this
        simp at this
        rw [this] at hlt
        simp at hlt)
      have hck := hcell k (by rw [List.length_map]; exact hlt)
      rw [List.getElem_map] at hck
      have HKC : Hid (∀ W, Below w4.heap.size w4 W → W.cell? ⟨bk, off + k, none⟩ = some (.int .i64 kvs[k].1)) := fun W hW => (hW.cell (p := ⟨bk, off + k, none⟩) (World.block_lt_of_cell? _ _ hck)).trans hck
      have HG2 : Hid (∀ W, Below w4.heap.size w4 W → Calls Try.prog 21 #[.pointer (some ⟨g, 0, none⟩), .int .i64 kvs[k].1] W fun e w' => ∃ v', e = .returned v' ∧ (Ri w' v' (Ix.get kvs kvs[k].1) ∧ Below W.heap.size W w')) := fun W hW => HGE.out W k hlt (andThen HB4.out hW)
      have HR2 : Hid (∀ W, Below w4.heap.size w4 W → Calls Try.prog 28 #[.slice av (ps.length) cv, .int .i64 kvs[k].1] W fun e w' => ∃ v', e = .returned v' ∧ (Ri w' v' (Ix.get kvs kvs[k].1) ∧ Below W.heap.size W w')) := fun W hW => HRG.out W k hlt (andThen HB4.out hW)
      clear hcell hck HGE HRG
      generalize kvs[k].1 = key at *
      have B0 : Below w4.heap.size w4 wr.drew := Below.drew hbel
      go_upto_region 9 with fail
      refine wp_region_held_drew (S := fun W : World => W.cell? ⟨bk, off + k, none⟩ = some (.int .i64 key)) (by kernel_rfl) (HKC.out _ B0) (fun hH => ?_)
      obtain ⟨W0, hW0⟩ : ∃ x, x = wr.drew := ⟨_, rfl⟩
      rw [← hW0] at B0 hH ⊢
      clear hW0 hbel
      refine zqk 0 rfl hH ?_
      simp only [Act.put, List.setIfInBounds_toArray, List.set_cons_zero, List.set_cons_succ, List.getElem_toArray, List.getElem_cons_zero]
      refine zqk 1 rfl hH ?_
      simp only [Act.put, List.setIfInBounds_toArray, List.set_cons_zero, List.set_cons_succ, List.getElem_toArray, List.getElem_cons_zero, List.getElem_cons_succ]
      refine zqk 2 rfl hH ?_
      simp only [Act.put, List.setIfInBounds_toArray, List.set_cons_zero, List.set_cons_succ, List.getElem_toArray, List.getElem_cons_zero, List.getElem_cons_succ]
      refine zqk 3 rfl hH ?_
      simp only [Act.put, List.setIfInBounds_toArray, List.set_cons_zero, List.set_cons_succ, List.getElem_toArray, List.getElem_cons_zero, List.getElem_cons_succ]
      refine zqk 4 rfl hH ?_
      simp only [Act.put, List.setIfInBounds_toArray, List.set_cons_zero, List.set_cons_succ, List.getElem_toArray, List.getElem_cons_zero, List.getElem_cons_succ]
      refine zqk 6 rfl hH ?_
      simp only [Act.put, List.setIfInBounds_toArray, List.set_cons_zero, List.set_cons_succ, List.getElem_toArray, List.getElem_cons_zero, List.getElem_cons_succ]
      refine zqk 7 rfl hH ?_
      simp only [Act.put, List.setIfInBounds_toArray, List.set_cons_zero, List.set_cons_succ, List.getElem_toArray, List.getElem_cons_zero, List.getElem_cons_succ]
      refine zqk 8 rfl hH ?_
      simp only [Act.put, List.setIfInBounds_toArray, List.set_cons_zero, List.set_cons_succ, List.getElem_toArray, List.getElem_cons_zero, List.getElem_cons_succ]
      refine zqk 9 rfl hH ?_
      simp only [Act.put, List.setIfInBounds_toArray, List.set_cons_zero, List.set_cons_succ, List.getElem_toArray, List.getElem_cons_zero, List.getElem_cons_succ]
      refine zqk 10 rfl hH ?_
      simp only [Act.put, List.setIfInBounds_toArray, List.set_cons_zero, List.set_cons_succ, List.getElem_toArray, List.getElem_cons_zero, List.getElem_cons_succ]
      refine zqr 5 rfl (fun K hK => ?_)
      refine st_ixget rfl 29 33 rfl rfl rfl (HG2.out _ B0) (fun v1 W1 r1 => ?_)
      have B1 : Below w4.heap.size w4 W1 := andThen B0 r1.2
      refine hK.out _ _ (HKC.out _ B1) (fun hH => ?_)
      clear hK K
      simp only [Act.put, List.setIfInBounds_toArray, List.set_cons_zero, List.set_cons_succ, List.getElem_toArray, List.getElem_cons_zero, List.getElem_cons_succ]
      refine zqr 11 rfl (fun K hK => ?_)
      refine st_rixget rfl 35 39 rfl rfl rfl (HR2.out _ B1) (fun v2 W2 r2 => ?_)
      have B2 : Below w4.heap.size w4 W2 := andThen B1 r2.2
      refine hK.out _ _ (HKC.out _ B2) (fun hH => ?_)
      clear hK K
      simp only [Act.put, List.setIfInBounds_toArray, List.set_cons_zero, List.set_cons_succ, List.getElem_toArray, List.getElem_cons_zero, List.getElem_cons_succ]
      refine zqr 12 rfl (fun K hK => ?_)
      refine st_same rfl 34 40 rfl rfl rfl (r1.1.kept r2.2) (r2.1) (fun W3 b3 => ?_)
      have B3 : Below w4.heap.size w4 W3 := andThen B2 b3
      refine hK.out _ _ (HKC.out _ B3) (fun hH => ?_)
      clear hK K
      simp only [Act.put, List.setIfInBounds_toArray, List.set_cons_zero, List.set_cons_succ, List.getElem_toArray, List.getElem_cons_zero, List.getElem_cons_succ]
      refine zqk 13 rfl hH ?_
      simp only [Act.put, List.setIfInBounds_toArray, List.set_cons_zero, List.set_cons_succ, List.getElem_toArray, List.getElem_cons_zero, List.getElem_cons_succ]
      refine wpAnyH_done (by kernel_rfl) ?_ _
      have HB3 : Hid (Below w4.heap.size w4 W3) := B3
      clear hH
      go_wp2_with fail
      go_roundw
      case rel => exact ⟨k + 1, by omega, by go_num, HB3.out⟩
      case measure => simp [intOf]; omega
    · have HB9 : Hid (Below w.heap.size w wr) := andThen HB4.out hbel
      go_wp2_with fail
      go_ret
      exact ⟨rfl, HB9.out⟩
end Go.Proofs.Ytceokpklcfmadaa
