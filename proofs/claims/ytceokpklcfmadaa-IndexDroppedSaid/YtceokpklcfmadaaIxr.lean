/-
  annalsref5: All, Keys of a list that is sorted.
-/
import Derived.Test.YtceokpklcfmadaaIxq
namespace Go.Proofs.Ytceokpklcfmadaa
open Go Go.RowKit Go.ChangeShapes
open Wb

set_option maxRecDepth 100000 in
theorem rixall_ok (v : Value) (ps : List (Int × Int)) (w : World) (h : Pr w v ps) (hl : ps.length ≤ 10000000) (hs : ps.Pairwise (fun p q => p.1 ≤ q.1)) (hb : ∀ p ∈ ps, 0 ≤ p.1 ∧ p.1 ≤ 9223372036854775807) :
    Calls Try.prog 35 #[v] w fun e w' => ∃ v', e = .returned v' ∧ w'.ownsRow w.heap.size 54 2 v' ps.length (ps.flatMap enP) ∧ Below w.heap.size w w' := by
  have HS : Hid (Calls Try.prog 56 #[v, .int .i64 (-9223372036854775808), .int .i64 9223372036854775807] w fun e w' => ∃ v', e = .returned v' ∧ w'.ownsRow w.heap.size 54 2 v' ps.length (ps.flatMap enP) ∧ Below w.heap.size w w') := rixsorted_ok v ps w h hl hs hb
  clear h hs hb
  go_enter Try.func35, Try.ntmps35
  go_wp2_with fail
  refine HS.out.mono ?_
  rintro e w1 ⟨v1, rfl, r1, b1⟩
  have H1 : Hid (w1.ownsRow w.heap.size 54 2 v1 ps.length (ps.flatMap enP) ∧ Below w.heap.size w w1) := ⟨r1, b1⟩
  clear r1 b1 HS
  go_wp2_with fail
  go_ret
  exact ⟨_, rfl, H1.out.1, H1.out.2⟩
namespace Ix
/-- each key once -/
def dks : Option Int → List (Int × Int) → List Int
  | _, [] => []
  | pr, p :: r => (if pr = some p.1 then [] else [p.1]) ++ dks (some p.1) r
def lastK (pr : Option Int) : List (Int × Int) → Option Int
  | [] => pr
  | p :: r => lastK (some p.1) r
theorem dks_snoc (p : Int × Int) : ∀ (l : List (Int × Int)) (pr : Option Int), dks pr (l ++ [p]) = dks pr l ++ (if lastK pr l = some p.1 then [] else [p.1])
  | [], pr => by by_cases h : pr = some p.1 <;> simp [dks, lastK, h]
  | q :: r, pr => by
    rw [List.cons_append, dks, dks_snoc p r, dks, lastK, List.append_assoc]
theorem lastK_take : ∀ (ps : List (Int × Int)) (j : Nat) (h : j < ps.length) (pr : Option Int), lastK pr (ps.take (j + 1)) = some ps[j].1
  | p :: r, 0, _, pr => rfl
  | p :: r, j + 1, h, pr => by
    rw [List.take_succ_cons, lastK]
    exact lastK_take r j (by simpa using h) _
theorem dks_take (ps : List (Int × Int)) (j : Nat) (h : j < ps.length) (hz : j = 0 ∨ ∃ hj : 0 < j, ps[j].1 ≠ ps[j - 1].1) : dks none (ps.take (j + 1)) = dks none (ps.take j) ++ [ps[j].1] := by
  rw [List.take_succ_eq_append_getElem h, dks_snoc, if_neg]
  rcases hz with rfl | ⟨hj, hne⟩
  · simp [lastK]
  · have e : j = (j - 1) + 1 := by omega
    have h2 := lastK_take ps (j - 1) (by omega) none
    rw [← e] at h2
    rw [h2]
    intro e2
    exact hne (Option.some.inj e2).symm
theorem dks_skip (ps : List (Int × Int)) (j : Nat) (h : j < ps.length) (hj : 0 < j) (he : ps[j].1 = ps[j - 1].1) : dks none (ps.take (j + 1)) = dks none (ps.take j) := by
  rw [List.take_succ_eq_append_getElem h, dks_snoc, if_pos, List.append_nil]
  have e : j = (j - 1) + 1 := by omega
  have h2 := lastK_take ps (j - 1) (by omega) none
  rw [← e] at h2
  rw [h2, he]
theorem dks_len : ∀ (ps : List (Int × Int)) (pr : Option Int), (dks pr ps).length ≤ ps.length
  | [], _ => Nat.le_refl _
  | p :: r, pr => by
    have := dks_len r (some p.1)
    rw [dks, List.length_append, List.length_cons]
    split <;> simp <;> omega
end Ix
/-- what Keys has gathered -/
structure KyS (w : World) (ps : List (Int × Int)) (b : Nat) (j : Nat) (o : Value) (wr : World) : Prop where
  row : wr.ownsRow w.heap.size 3 1 o (Ix.dks none (ps.take j)).length ((Ix.dks none (ps.take j)).map (Value.int .i64))
  bel : Below w.heap.size w wr
set_option maxRecDepth 100000 in
set_option maxHeartbeats 4000000 in
theorem rixkeys_ok (v : Value) (ps : List (Int × Int)) (w0 : World) (h : Pr w0 v ps) (hl : ps.length ≤ 10000000) (hs : ps.Pairwise (fun p q => p.1 ≤ q.1)) (hb : ∀ p ∈ ps, 0 ≤ p.1 ∧ p.1 ≤ 9223372036854775807) :
    Calls Try.prog 30 #[v] w0 fun e w' => ∃ v', e = .returned v' ∧ Ri w' v' (Ix.dks none ps) ∧ Below w0.heap.size w0 w' := by
  have hin := infoI
  have HA : Hid (Calls Try.prog 35 #[v] w0 fun e w' => ∃ v', e = .returned v' ∧ w'.ownsRow w0.heap.size 54 2 v' ps.length (ps.flatMap enP) ∧ Below w0.heap.size w0 w') := rixall_ok v ps w0 h hl hs hb
  clear h hs hb
  go_enter Try.func30, Try.ntmps30
  go_wp2_with fail
  refine HA.out.mono ?_
  rintro e w ⟨v1, rfl, r1, b1⟩
  have HB0 : Hid (Below w0.heap.size w0 w) := b1
  obtain ⟨a, c, rfl, hm1, hm2, hc⟩ := Pr.of r1
  unfold maxLen at hm2
  have HC : Hid (ps ≠ [] → ∃ b off, a = some ⟨b, off, none⟩ ∧ ∀ j (h : j < ps.length), w.cell? ⟨b, off + j * 2, none⟩ = some (.int .i64 ps[j].1) ∧ w.cell? ⟨b, off + j * 2 + 1, none⟩ = some (.int .i64 ps[j].2)) := hc
  clear hc r1 b1 HA
  go_wp2_with fail
  go_loopw [4, 5] (fun o i wr => ∃ j : Nat, j ≤ ps.length ∧ i = .int .i64 (j : Int) ∧ KyS w ps 0 j o wr) (fun _ i _ => ps.length - (intOf i).toNat)
  case atStart => exact ⟨0, Nat.zero_le _, rfl, ⟨World.ownsRow_nil _ _ _ _, Below.refl _ _⟩⟩
  case round =>
    obtain ⟨j, hj, rfl, hg⟩ := hrel
    have HG : Hid (KyS w ps 0 j u4 wr) := hg
    clear hg
    by_cases hlt : j < ps.length
    · obtain ⟨b, off, rfl, hcell⟩ := HC.out (List.ne_nil_of_length_pos (by omega))
      have q1 := (HG.out.bel.cell (p := ⟨b, off + j * 2, none⟩) (World.block_lt_of_cell? _ _ (hcell j hlt).1)).trans (hcell j hlt).1
      have HGN : Hid (∀ n, KyS w ps 0 j u4 (wr.drewN n)) := fun n => ⟨HG.out.row, bel_drewI HG.out.bel n⟩
      have HL : Hid ((Ix.dks none (ps.take j)).length ≤ 100000000) := by
        have := Ix.dks_len (ps.take j) none
        rw [List.length_take] at this
        show _ ≤ _
        omega
      by_cases h0 : 0 < j
      · have q0 := (HG.out.bel.cell (p := ⟨b, off + (j - 1) * 2, none⟩) (World.block_lt_of_cell? _ _ (hcell (j - 1) (by omega)).1)).trans (hcell (j - 1) (by omega)).1
        have hd0 : ((j : Int) == 0) = false := by simp; omega
        have hw : IntKind.i64.wrap ((j : Int) - 1) = ((j - 1 : Nat) : Int) := by
          rw [IntWalk.i64_in _ (by omega)]
          omega
        clear hcell
        obtain ⟨z, hz⟩ : ∃ z, z = ps[j].1 := ⟨_, rfl⟩
        obtain ⟨z0, hz0⟩ : ∃ z0, z0 = (ps[j - 1]'(by omega)).1 := ⟨_, rfl⟩
        rw [← hz] at q1
        rw [← hz0] at q0
        by_cases he : z = z0
        · have H3 : Hid (∀ n, KyS w ps 0 (j + 1) u4 (wr.drewN n)) := fun n => ⟨by rw [Ix.dks_skip ps j hlt h0 (by rw [← hz, ← hz0]; exact he)]; exact (HGN.out n).row, (HGN.out n).bel⟩
          have hd1 : (z0 != z0) = false := by simp
          clear hz hz0
          subst he
          go_wp2_with fail
          go_quiet (fail)
          go_wp2_with fail
          go_roundw
          case rel => exact ⟨j + 1, by omega, by go_num, H3.out _⟩
          case measure => simp [intOf]; omega
        · have HV : Hid (Ix.dks none (ps.take (j + 1)) = Ix.dks none (ps.take j) ++ [z]) := by
            show _ = _
            rw [hz]
            exact Ix.dks_take ps j hlt (.inr ⟨h0, by rw [← hz, ← hz0]; exact he⟩)
          have hd1 : (z != z0) = true := by rw [bne_iff_ne]; exact he
          clear he hz hz0
          have HR : Hid (∀ n W, W = (wr.drewN n).alloc (.cells #[.int .i64 z] 3) → W.ownsRow w.heap.size 3 1 u4 (Ix.dks none (ps.take j)).length ((Ix.dks none (ps.take j)).map (Value.int .i64)) ∧ W.cell? ⟨wr.heap.size, 0, none⟩ = some (.int .i64 z) ∧ w.heap.size ≤ W.heap.size ∧ Below w.heap.size w W) := fun n W e => by
            subst e
            exact ⟨(HGN.out n).row.alloc _, (lb_new (wr.drewN n) [.int .i64 z] 3).cell 0 _ rfl, Nat.le_trans (HGN.out n).bel.size (up0 _ _).size, up (HGN.out n).bel _⟩
          go_wp2_with fail
          go_quiet (fail)
          go_wp2_with (at_builtin; refine wpList_appI _ rfl (.tmp 30) (.tmp 36) 35 rfl w.heap.size hin Try.underlying35 u4 (Ix.dks none (ps.take j)) rfl (HR.out _ _ rfl).1 wr.heap.size 1 z rfl (HR.out _ _ rfl).2.1 HL.out (HR.out _ _ rfl).2.2.1 ?_)
          intro v3 w3 hr3 hg3
          have H3 : Hid (KyS w ps 0 (j + 1) v3 w3) := by
            refine ⟨by rw [HV.out, List.length_append, List.map_append]; exact hr3, (HR.out _ _ rfl).2.2.2.grown hg3 (HR.out _ _ rfl).2.2.1 fun q e => (World.ownsRow.lt HG.out.row q e).1⟩
          clear hr3 hg3 HR
          go_wp2_with fail
          go_roundw
          case rel => exact ⟨j + 1, by omega, by go_num, H3.out⟩
          case measure => simp [intOf]; omega
      · obtain rfl : j = 0 := by omega
        have HV : Hid (Ix.dks none (ps.take (0 + 1)) = Ix.dks none (ps.take 0) ++ [ps[0].1]) := Ix.dks_take ps 0 hlt (.inl rfl)
        generalize ps[0].1 = z at *
        have q9 : wr.cell? ⟨b, off, none⟩ = some (.int .i64 z) := by simpa using q1
        clear q1
        have HR : Hid (∀ n W, W = (wr.drewN n).alloc (.cells #[.int .i64 z] 3) → W.ownsRow w.heap.size 3 1 u4 (Ix.dks none (ps.take 0)).length ((Ix.dks none (ps.take 0)).map (Value.int .i64)) ∧ W.cell? ⟨wr.heap.size, 0, none⟩ = some (.int .i64 z) ∧ w.heap.size ≤ W.heap.size ∧ Below w.heap.size w W) := fun n W e => by
          subst e
          exact ⟨(HGN.out n).row.alloc _, (lb_new (wr.drewN n) [.int .i64 z] 3).cell 0 _ rfl, Nat.le_trans (HGN.out n).bel.size (up0 _ _).size, up (HGN.out n).bel _⟩
        clear hcell h0
        go_wp2_with fail
        go_quiet (fail)
        go_wp2_with (at_builtin; refine wpList_appI _ rfl (.tmp 30) (.tmp 36) 35 rfl w.heap.size hin Try.underlying35 u4 (Ix.dks none (ps.take 0)) rfl (HR.out _ _ rfl).1 wr.heap.size 1 z rfl (HR.out _ _ rfl).2.1 HL.out (HR.out _ _ rfl).2.2.1 ?_)
        intro v3 w3 hr3 hg3
        have H3 : Hid (KyS w ps 0 (0 + 1) v3 w3) := by
          refine ⟨by rw [HV.out, List.length_append, List.map_append]; exact hr3, (HR.out _ _ rfl).2.2.2.grown hg3 (HR.out _ _ rfl).2.2.1 fun q e => (World.ownsRow.lt HG.out.row q e).1⟩
        clear hr3 hg3 HR
        go_wp2_with fail
        go_roundw
        case rel => exact ⟨0 + 1, by omega, by go_num, H3.out⟩
        case measure => simp [intOf]; omega
    · have H3 : Hid (Ri wr u4 (Ix.dks none ps)) := by
        have h9 := Ri.of HG.out.row
        rw [List.take_of_length_le (by omega)] at h9
        exact h9
      go_wp2_with fail
      go_ret
      exact ⟨_, rfl, H3.out, andThen HB0.out HG.out.bel⟩
end Go.Proofs.Ytceokpklcfmadaa
