import Derived.Test.YtceokpklcfmadaaQIB
/-
  annalsref5: Sorted, All of a list that is sorted.
-/
namespace Go.Proofs.Ytceokpklcfmadaa
open Go Go.RowKit Go.ChangeShapes
open Wb

/-- the same memory, another draw -/
def dr (w : World) (d : Nat) : World := { w with drawn := d }
theorem dr_drewN (w : World) (d n : Nat) : (dr w d).drewN n = dr w (d + n) := rfl
/-- what Sorted has gathered -/
structure SrS (w : World) (ps : List (Int × Int)) (j : Nat) (o : Value) (wr : World) : Prop where
  row : wr.ownsRow w.heap.size 54 2 o (ps.take j).length ((ps.take j).flatMap enP)
  bel : Below w.heap.size w wr
set_option maxRecDepth 100000 in
set_option maxHeartbeats 4000000 in
theorem rixsorted_ok (v : Value) (ps : List (Int × Int)) (w : World) (h : Pr w v ps) (hl : ps.length ≤ 10000000) (hs : ps.Pairwise (fun p q => p.1 ≤ q.1)) (hb : ∀ p ∈ ps, 0 ≤ p.1 ∧ p.1 ≤ 9223372036854775807) :
    Calls Try.prog 56 #[v, .int .i64 (-9223372036854775808), .int .i64 9223372036854775807] w fun e w' => ∃ v', e = .returned v' ∧ w'.ownsRow w.heap.size 54 2 v' ps.length (ps.flatMap enP) ∧ Below w.heap.size w w' := by
  have hin := infoP
  obtain ⟨a, c, rfl, hm1, hm2, hc⟩ := h
  unfold maxLen at hm2
  have HC : Hid (ps ≠ [] → ∃ b off, a = some ⟨b, off, none⟩ ∧ ∀ j (h : j < ps.length), w.cell? ⟨b, off + j * 2, none⟩ = some (.int .i64 ps[j].1) ∧ w.cell? ⟨b, off + j * 2 + 1, none⟩ = some (.int .i64 ps[j].2)) := hc
  have HS : Hid (ps.Pairwise (fun p q => p.1 ≤ q.1) ∧ ∀ p ∈ ps, 0 ≤ p.1 ∧ p.1 ≤ 9223372036854775807) := ⟨hs, hb⟩
  clear hc hs hb
  go_enter Try.func56, Try.ntmps56
  go_wp2_with fail
  go_loopw [7, 8] (fun o i wr => ∃ j : Nat, j ≤ ps.length ∧ i = .int .i64 (j : Int) ∧ SrS w ps j o wr) (fun _ i _ => ps.length - (intOf i).toNat)
  case atStart => exact ⟨0, Nat.zero_le _, rfl, ⟨World.ownsRow_nil _ _ _ _, Below.refl _ _⟩⟩
  case round =>
    obtain ⟨j, hj, rfl, hg⟩ := hrel
    have HG : Hid (SrS w ps j u7 wr) := hg
    clear hg
    by_cases hlt : j < ps.length
    · obtain ⟨b, off, rfl, hcell⟩ := HC.out (List.ne_nil_of_length_pos (by omega))
      have q1 := (HG.out.bel.cell (p := ⟨b, off + j * 2, none⟩) (World.block_lt_of_cell? _ _ (hcell j hlt).1)).trans (hcell j hlt).1
      have q2 := (HG.out.bel.cell (p := ⟨b, off + j * 2 + 1, none⟩) (World.block_lt_of_cell? _ _ (hcell j hlt).2)).trans (hcell j hlt).2
      have hk0 := HS.out.2 ps[j] (List.getElem_mem _)
      have HP : Hid (ps.take (j + 1) = ps.take j ++ [ps[j]]) := List.take_succ_eq_append_getElem hlt
      clear hcell
      obtain ⟨p, hp⟩ : ∃ p, p = ps[j] := ⟨_, rfl⟩
      rw [← hp] at q1 q2 hk0 HP
      have HPJ : Hid (p = ps[j]) := hp
      clear hp
      obtain ⟨x, y⟩ := p
      simp only at q1 q2 hk0
      have HL : Hid ((ps.take j).length ≤ 100000000) := by
        show _ ≤ _
        rw [List.length_take]
        omega
      have HR : Hid (∀ W, W = (wr.alloc (.cells #[.int .i64 x, .int .i64 y] 54)).alloc (.cells #[.int .i64 x, .int .i64 y] 54) → W.ownsRow w.heap.size 54 2 u7 (ps.take j).length ((ps.take j).flatMap enP) ∧ W.rangeAt (wr.heap.size + 1) 0 (enP (x, y)) ∧ w.heap.size ≤ W.heap.size ∧ Below w.heap.size w W ∧ LB W wr.heap.size 54 (enP (x, y)) ∧ wr.heap.size < W.heap.size) := fun W e => by
        subst e
        have hL := lb_new (wr.alloc (.cells #[.int .i64 x, .int .i64 y] 54)) (enP (x, y)) 54
        rw [heap_one] at hL
        have hL0 := lb_new wr (enP (x, y)) 54
        have hB := up (up HG.out.bel (.cells #[.int .i64 x, .int .i64 y] 54)) (.cells #[.int .i64 x, .int .i64 y] 54)
        refine ⟨(HG.out.row.alloc _).alloc _, hL.range, hB.size, hB, ?_, by rw [heap_one, heap_one]; omega⟩
        exact (Below.heap_alloc _ _ _ (by rw [heap_one]; omega)).trans hL0
      go_upto_region 7 with fail
      go_wp2_with (at_builtin; refine wpList_appP _ rfl (.tmp 31) (.tmp 33) 55 rfl w.heap.size hin Try.underlying55 u7 (ps.take j) rfl (HR.out _ rfl).1 (wr.heap.size + 1) 1 (x, y) rfl (HR.out _ rfl).2.1 HL.out (HR.out _ rfl).2.2.1 ?_)
      intro v3 w3 hr3 hg3
      have hl4 : (ps.take (j + 1)).length = j + 1 := by
        rw [List.length_take]
        omega
      have hr4 : w3.ownsRow w.heap.size 54 2 v3 (ps.take (j + 1)).length ((ps.take (j + 1)).flatMap enP) := by
        rw [hl4, HP.out, List.flatMap_append]
        simpa using hr3
      have hB3 : Below w.heap.size w w3 := (HR.out _ rfl).2.2.2.1.grown hg3 (HR.out _ rfl).2.2.1 fun q e => (World.ownsRow.lt HG.out.row q e).1
      have hP3 : LB w3 wr.heap.size 54 (enP (x, y)) := (hg3.block _ (HR.out _ rfl).2.2.2.2.2 fun e => by
        have := (World.ownsRow.lt HG.out.row _ e.symm).2
        omega).trans (HR.out _ rfl).2.2.2.2.1
      have H4 : Hid (SrS w ps (j + 1) v3 w3) := ⟨hr4, hB3⟩
      have p0 : w3.cell? ⟨wr.heap.size, 0, none⟩ = some (.int .i64 x) := hP3.cell 0 _ rfl
      have p1 : w3.cell? ⟨wr.heap.size, 1, none⟩ = some (.int .i64 y) := hP3.cell 1 _ rfl
      obtain ⟨a4, c4, e4, h41, h42, hc4⟩ := Pr.of hr4
      obtain ⟨b4, o4, e5, hcell4⟩ := hc4 (fun e => by rw [e] at hl4; simp at hl4)
      have hz := hr4.2
      subst e5
      rw [hl4] at e4 h41
      subst e4
      have ho4 : o4 = 0 ∧ w3.frozen? ⟨b4, j * 2, none⟩ = false ∧ w3.frozen? ⟨b4, j * 2 + 1, none⟩ = false := by
        rcases hz with ⟨e6, -⟩ | ⟨g6, cap6, cur6, e6, -, hh6, -⟩
        · cases e6
        · simp only [Value.slice.injEq, Option.some.injEq, Addr.mk.injEq, and_true] at e6
          obtain ⟨⟨rfl, rfl⟩, -⟩ := e6
          exact ⟨rfl, by simp [World.frozen?, hh6], by simp [World.frozen?, hh6]⟩
      obtain ⟨rfl, f0, f1⟩ := ho4
      have c0 := (hcell4 j (by omega)).1
      have c1 := (hcell4 j (by omega)).2
      have HPJ2 : ps[j] = (x, y) := HPJ.out.symm
      rw [List.getElem_take, HPJ2, Nat.zero_add] at c0 c1
      have HPV : Hid (0 < j → ∃ z, z ≤ x ∧ w3.cell? ⟨b4, (j - 1) * 2, none⟩ = some (.int .i64 z)) := fun h0 => by
        have h1 := (hcell4 (j - 1) (by omega)).1
        rw [List.getElem_take, Nat.zero_add] at h1
        have h2 := List.pairwise_iff_getElem.1 HS.out.1 (j - 1) j (by omega) hlt (by omega)
        rw [HPJ2] at h2
        exact ⟨_, h2, h1⟩
      have HSAME : Hid (∀ t, ((dr w3 t).setCell ⟨b4, j * 2, none⟩ (.int .i64 x)).setCell ⟨b4, j * 2 + 1, none⟩ (.int .i64 y) = dr w3 t) := fun t => by
        have e1 : (dr w3 t).setCell ⟨b4, j * 2, none⟩ (.int .i64 x) = dr w3 t := set_same (w := dr w3 t) c0
        rw [e1]
        exact set_same (w := dr w3 t) c1
      have HB4 : Hid (∀ t, SrS w ps (j + 1) (.slice (some ⟨b4, 0, none⟩) (j + 1) c4) (dr w3 t)) := fun t => ⟨H4.out.row, H4.out.bel.trans ⟨rfl, rfl, rfl, Nat.le_refl _, fun _ _ => rfl⟩⟩
      unfold maxLen at h42
      clear hr3 hg3 hr4 hB3 hP3 hcell4 hc4 hz HR H4 HPJ2 HPJ HP q1 q2 HL
      go_wp2_with fail
      go_loopw [10] (fun k w4 => k = .int .i64 (j : Int) ∧ ∃ t, w4 = dr w3 t) (fun _ _ => 0)
      case atStart => exact ⟨rfl, w3.drawn, rfl⟩
      case round =>
        obtain ⟨rfl, t, rfl⟩ := hrel
        have p0' : ∀ t, (dr w3 t).cell? ⟨wr.heap.size, 0, none⟩ = some (.int .i64 x) := fun _ => p0
        have p1' : ∀ t, (dr w3 t).cell? ⟨wr.heap.size, 1, none⟩ = some (.int .i64 y) := fun _ => p1
        have c0' : ∀ t, (dr w3 t).cell? ⟨b4, j * 2, none⟩ = some (.int .i64 x) := fun _ => c0
        have c1' : ∀ t, (dr w3 t).cell? ⟨b4, j * 2 + 1, none⟩ = some (.int .i64 y) := fun _ => c1
        have f0' : ∀ t, (dr w3 t).frozen? ⟨b4, j * 2, none⟩ = false := fun _ => f0
        have f1' : ∀ t, (dr w3 t).frozen? ⟨b4, j * 2 + 1, none⟩ = false := fun _ => f1
        clear p0 p1 c0 c1 f0 f1
        by_cases h0 : 0 < j
        · obtain ⟨z, hz, hcz⟩ := HPV.out h0
          have hcz' : ∀ t, (dr w3 t).cell? ⟨b4, (j - 1) * 2, none⟩ = some (.int .i64 z) := fun _ => hcz
          have hd0 : ((0 : Int) < (j : Int)) = True := by simp; exact h0
          have hd1 : (x < z) = False := by simp; omega
          have hw : IntKind.i64.wrap ((j : Int) - 1) = ((j - 1 : Nat) : Int) := by
            rw [IntWalk.i64_in _ (by omega)]
            omega
          clear hcz
          go_wp2_with fail
          go_quiet (fail)
          rw [dr_drewN]
          go_wp2_with fail
          rw [HSAME.out]
          go_roundw
          case rel => exact ⟨j + 1, by omega, by go_num, HB4.out _⟩
          case measure => simp [intOf]; omega
        · obtain rfl : j = 0 := by omega
          clear h0 HPV
          go_wp2_with fail
          go_quiet (fail)
          rw [dr_drewN]
          go_wp2_with fail
          rw [HSAME.out]
          go_roundw
          case rel => exact ⟨0 + 1, by omega, by go_num, HB4.out _⟩
          case measure => simp [intOf]; omega
    · have H3 : Hid (wr.ownsRow w.heap.size 54 2 u7 ps.length (ps.flatMap enP)) := by
        have h9 := HG.out.row
        rw [List.take_of_length_le (by omega)] at h9
        exact h9
      go_wp2_with fail
      go_ret
      exact ⟨_, rfl, H3.out, HG.out.bel⟩
end Go.Proofs.Ytceokpklcfmadaa

/-
  annalsref5: All, Keys of a list that is sorted.
-/
namespace Go.Proofs.Ytceokpklcfmadaa
open Go Go.RowKit Go.ChangeShapes
open Wb

set_option maxRecDepth 100000 in
theorem rixall_ok (v : Value) (ps : List (Int × Int)) (w : World) (h : Pr w v ps) (hl : ps.length ≤ 10000000) (hs : ps.Pairwise (fun p q => p.1 ≤ q.1)) (hb : ∀ p ∈ ps, 0 ≤ p.1 ∧ p.1 ≤ 9223372036854775807) :
    Calls Try.prog 35 #[v] w fun e w' => ∃ v', e = .returned v' ∧ w'.ownsRow w.heap.size 54 2 v' ps.length (ps.flatMap enP) ∧ Below w.heap.size w w' := by
  have HS : Hid (Calls Try.prog 56 #[v, .int .i64 (-9223372036854775808), .int .i64 9223372036854775807] w fun e w' => ∃ v', e = .returned v' ∧ w'.ownsRow w.heap.size 54 2 v' ps.length (ps.flatMap enP) ∧ Below w.heap.size w w') := rixsorted_ok v ps w h hl hs hb
  clear h hs hb
  go_enter Try.func35, Try.ntmps35
  go_wp2_with fail
  refine HS.out.mono ?_
  rintro e w1 ⟨v1, rfl, r1, b1⟩
  have H1 : Hid (w1.ownsRow w.heap.size 54 2 v1 ps.length (ps.flatMap enP) ∧ Below w.heap.size w w1) := ⟨r1, b1⟩
  clear r1 b1 HS
  go_wp2_with fail
  go_ret
  exact ⟨_, rfl, H1.out.1, H1.out.2⟩
namespace Ix
/-- each key once -/
def dks : Option Int → List (Int × Int) → List Int
  | _, [] => []
  | pr, p :: r => (if pr = some p.1 then [] else [p.1]) ++ dks (some p.1) r
def lastK (pr : Option Int) : List (Int × Int) → Option Int
  | [] => pr
  | p :: r => lastK (some p.1) r
theorem dks_snoc (p : Int × Int) : ∀ (l : List (Int × Int)) (pr : Option Int), dks pr (l ++ [p]) = dks pr l ++ (if lastK pr l = some p.1 then [] else [p.1])
  | [], pr => by by_cases h : pr = some p.1 <;> simp [dks, lastK, h]
  | q :: r, pr => by
    rw [List.cons_append, dks, dks_snoc p r, dks, lastK, List.append_assoc]
theorem lastK_take : ∀ (ps : List (Int × Int)) (j : Nat) (h : j < ps.length) (pr : Option Int), lastK pr (ps.take (j + 1)) = some ps[j].1
  | p :: r, 0, _, pr => rfl
  | p :: r, j + 1, h, pr => by
    rw [List.take_succ_cons, lastK]
    exact lastK_take r j (by simpa using h) _
theorem dks_take (ps : List (Int × Int)) (j : Nat) (h : j < ps.length) (hz : j = 0 ∨ ∃ hj : 0 < j, ps[j].1 ≠ ps[j - 1].1) : dks none (ps.take (j + 1)) = dks none (ps.take j) ++ [ps[j].1] := by
  rw [List.take_succ_eq_append_getElem h, dks_snoc, if_neg]
  rcases hz with rfl | ⟨hj, hne⟩
  · simp [lastK]
  · have e : j = (j - 1) + 1 := by omega
    have h2 := lastK_take ps (j - 1) (by omega) none
    rw [← e] at h2
    rw [h2]
    intro e2
    exact hne (Option.some.inj e2).symm
theorem dks_skip (ps : List (Int × Int)) (j : Nat) (h : j < ps.length) (hj : 0 < j) (he : ps[j].1 = ps[j - 1].1) : dks none (ps.take (j + 1)) = dks none (ps.take j) := by
  rw [List.take_succ_eq_append_getElem h, dks_snoc, if_pos, List.append_nil]
  have e : j = (j - 1) + 1 := by omega
  have h2 := lastK_take ps (j - 1) (by omega) none
  rw [← e] at h2
  rw [h2, he]
theorem dks_len : ∀ (ps : List (Int × Int)) (pr : Option Int), (dks pr ps).length ≤ ps.length
  | [], _ => Nat.le_refl _
  | p :: r, pr => by
    have := dks_len r (some p.1)
    rw [dks, List.length_append, List.length_cons]
    split <;> simp <;> omega
end Ix
/-- what Keys has gathered -/
structure KyS (w : World) (ps : List (Int × Int)) (b : Nat) (j : Nat) (o : Value) (wr : World) : Prop where
  row : wr.ownsRow w.heap.size 3 1 o (Ix.dks none (ps.take j)).length ((Ix.dks none (ps.take j)).map (Value.int .i64))
  bel : Below w.heap.size w wr
set_option maxRecDepth 100000 in
set_option maxHeartbeats 4000000 in
theorem rixkeys_ok (v : Value) (ps : List (Int × Int)) (w0 : World) (h : Pr w0 v ps) (hl : ps.length ≤ 10000000) (hs : ps.Pairwise (fun p q => p.1 ≤ q.1)) (hb : ∀ p ∈ ps, 0 ≤ p.1 ∧ p.1 ≤ 9223372036854775807) :
    Calls Try.prog 30 #[v] w0 fun e w' => ∃ v', e = .returned v' ∧ Ri w' v' (Ix.dks none ps) ∧ Below w0.heap.size w0 w' := by
  have hin := infoI
  have HA : Hid (Calls Try.prog 35 #[v] w0 fun e w' => ∃ v', e = .returned v' ∧ w'.ownsRow w0.heap.size 54 2 v' ps.length (ps.flatMap enP) ∧ Below w0.heap.size w0 w') := rixall_ok v ps w0 h hl hs hb
  clear h hs hb
  go_enter Try.func30, Try.ntmps30
  go_wp2_with fail
  refine HA.out.mono ?_
  rintro e w ⟨v1, rfl, r1, b1⟩
  have HB0 : Hid (Below w0.heap.size w0 w) := b1
  obtain ⟨a, c, rfl, hm1, hm2, hc⟩ := Pr.of r1
  unfold maxLen at hm2
  have HC : Hid (ps ≠ [] → ∃ b off, a = some ⟨b, off, none⟩ ∧ ∀ j (h : j < ps.length), w.cell? ⟨b, off + j * 2, none⟩ = some (.int .i64 ps[j].1) ∧ w.cell? ⟨b, off + j * 2 + 1, none⟩ = some (.int .i64 ps[j].2)) := hc
  clear hc r1 b1 HA
  go_wp2_with fail
  go_loopw [4, 5] (fun o i wr => ∃ j : Nat, j ≤ ps.length ∧ i = .int .i64 (j : Int) ∧ KyS w ps 0 j o wr) (fun _ i _ => ps.length - (intOf i).toNat)
  case atStart => exact ⟨0, Nat.zero_le _, rfl, ⟨World.ownsRow_nil _ _ _ _, Below.refl _ _⟩⟩
  case round =>
    obtain ⟨j, hj, rfl, hg⟩ := hrel
    have HG : Hid (KyS w ps 0 j u4 wr) := hg
    clear hg
    by_cases hlt : j < ps.length
    · obtain ⟨b, off, rfl, hcell⟩ := HC.out (List.ne_nil_of_length_pos (by omega))
      have q1 := (HG.out.bel.cell (p := ⟨b, off + j * 2, none⟩) (World.block_lt_of_cell? _ _ (hcell j hlt).1)).trans (hcell j hlt).1
      have HGN : Hid (∀ n, KyS w ps 0 j u4 (wr.drewN n)) := fun n => ⟨HG.out.row, bel_drewI HG.out.bel n⟩
      have HL : Hid ((Ix.dks none (ps.take j)).length ≤ 100000000) := by
        have := Ix.dks_len (ps.take j) none
        rw [List.length_take] at this
        show _ ≤ _
        omega
      by_cases h0 : 0 < j
      · have q0 := (HG.out.bel.cell (p := ⟨b, off + (j - 1) * 2, none⟩) (World.block_lt_of_cell? _ _ (hcell (j - 1) (by omega)).1)).trans (hcell (j - 1) (by omega)).1
        have hd0 : ((j : Int) == 0) = false := by simp; omega
        have hw : IntKind.i64.wrap ((j : Int) - 1) = ((j - 1 : Nat) : Int) := by
          rw [IntWalk.i64_in _ (by omega)]
          omega
        clear hcell
        obtain ⟨z, hz⟩ : ∃ z, z = ps[j].1 := ⟨_, rfl⟩
        obtain ⟨z0, hz0⟩ : ∃ z0, z0 = (ps[j - 1]'(by omega)).1 := ⟨_, rfl⟩
        rw [← hz] at q1
        rw [← hz0] at q0
        by_cases he : z = z0
        · have H3 : Hid (∀ n, KyS w ps 0 (j + 1) u4 (wr.drewN n)) := fun n => ⟨by rw [Ix.dks_skip ps j hlt h0 (by rw [← hz, ← hz0]; exact he)]; exact (HGN.out n).row, (HGN.out n).bel⟩
          have hd1 : (z0 != z0) = false := by simp
          clear hz hz0
          subst he
          go_wp2_with fail
          go_quiet (fail)
          go_wp2_with fail
          go_roundw
          case rel => exact ⟨j + 1, by omega, by go_num, H3.out _⟩
          case measure => simp [intOf]; omega
        · have HV : Hid (Ix.dks none (ps.take (j + 1)) = Ix.dks none (ps.take j) ++ [z]) := by
            show _ = _
            rw [hz]
            exact Ix.dks_take ps j hlt (.inr ⟨h0, by rw [← hz, ← hz0]; exact he⟩)
          have hd1 : (z != z0) = true := by rw [bne_iff_ne]; exact he
          clear he hz hz0
          have HR : Hid (∀ n W, W = (wr.drewN n).alloc (.cells #[.int .i64 z] 3) → W.ownsRow w.heap.size 3 1 u4 (Ix.dks none (ps.take j)).length ((Ix.dks none (ps.take j)).map (Value.int .i64)) ∧ W.cell? ⟨wr.heap.size, 0, none⟩ = some (.int .i64 z) ∧ w.heap.size ≤ W.heap.size ∧ Below w.heap.size w W) := fun n W e => by
            subst e
            exact ⟨(HGN.out n).row.alloc _, (lb_new (wr.drewN n) [.int .i64 z] 3).cell 0 _ rfl, Nat.le_trans (HGN.out n).bel.size (up0 _ _).size, up (HGN.out n).bel _⟩
          go_wp2_with fail
          go_quiet (fail)
          go_wp2_with (at_builtin; refine wpList_appI _ rfl (.tmp 30) (.tmp 36) 35 rfl w.heap.size hin Try.underlying35 u4 (Ix.dks none (ps.take j)) rfl (HR.out _ _ rfl).1 wr.heap.size 1 z rfl (HR.out _ _ rfl).2.1 HL.out (HR.out _ _ rfl).2.2.1 ?_)
          intro v3 w3 hr3 hg3
          have H3 : Hid (KyS w ps 0 (j + 1) v3 w3) := by
            refine ⟨by rw [HV.out, List.length_append, List.map_append]; exact hr3, (HR.out _ _ rfl).2.2.2.grown hg3 (HR.out _ _ rfl).2.2.1 fun q e => (World.ownsRow.lt HG.out.row q e).1⟩
          clear hr3 hg3 HR
          go_wp2_with fail
          go_roundw
          case rel => exact ⟨j + 1, by omega, by go_num, H3.out⟩
          case measure => simp [intOf]; omega
      · obtain rfl : j = 0 := by omega
        have HV : Hid (Ix.dks none (ps.take (0 + 1)) = Ix.dks none (ps.take 0) ++ [ps[0].1]) := Ix.dks_take ps 0 hlt (.inl rfl)
        generalize ps[0].1 = z at *
        have q9 : wr.cell? ⟨b, off, none⟩ = some (.int .i64 z) := by simpa using q1
        clear q1
        have HR : Hid (∀ n W, W = (wr.drewN n).alloc (.cells #[.int .i64 z] 3) → W.ownsRow w.heap.size 3 1 u4 (Ix.dks none (ps.take 0)).length ((Ix.dks none (ps.take 0)).map (Value.int .i64)) ∧ W.cell? ⟨wr.heap.size, 0, none⟩ = some (.int .i64 z) ∧ w.heap.size ≤ W.heap.size ∧ Below w.heap.size w W) := fun n W e => by
          subst e
          exact ⟨(HGN.out n).row.alloc _, (lb_new (wr.drewN n) [.int .i64 z] 3).cell 0 _ rfl, Nat.le_trans (HGN.out n).bel.size (up0 _ _).size, up (HGN.out n).bel _⟩
        clear hcell h0
        go_wp2_with fail
        go_quiet (fail)
        go_wp2_with (at_builtin; refine wpList_appI _ rfl (.tmp 30) (.tmp 36) 35 rfl w.heap.size hin Try.underlying35 u4 (Ix.dks none (ps.take 0)) rfl (HR.out _ _ rfl).1 wr.heap.size 1 z rfl (HR.out _ _ rfl).2.1 HL.out (HR.out _ _ rfl).2.2.1 ?_)
        intro v3 w3 hr3 hg3
        have H3 : Hid (KyS w ps 0 (0 + 1) v3 w3) := by
          refine ⟨by rw [HV.out, List.length_append, List.map_append]; exact hr3, (HR.out _ _ rfl).2.2.2.grown hg3 (HR.out _ _ rfl).2.2.1 fun q e => (World.ownsRow.lt HG.out.row q e).1⟩
        clear hr3 hg3 HR
        go_wp2_with fail
        go_roundw
        case rel => exact ⟨0 + 1, by omega, by go_num, H3.out⟩
        case measure => simp [intOf]; omega
    · have H3 : Hid (Ri wr u4 (Ix.dks none ps)) := by
        have h9 := Ri.of HG.out.row
        rw [List.take_of_length_le (by omega)] at h9
        exact h9
      go_wp2_with fail
      go_ret
      exact ⟨_, rfl, H3.out, andThen HB0.out HG.out.bel⟩
end Go.Proofs.Ytceokpklcfmadaa

/-
  Package index, pure: the pairs of keys with their numbers.
-/
namespace Go.Proofs.Ytceokpklcfmadaa
open Go Go.RowKit Go.ChangeShapes

namespace Ix
theorem prs_cons (p : Int × List Int) (r : Gm) : prs (p :: r) = (p.2.map fun v => (p.1, v)) ++ prs r := rfl
theorem prs_len : ∀ (kvs : Gm), (prs kvs).length = total kvs
  | [] => rfl
  | p :: r => by
    have := prs_len r
    unfold total at this ⊢
    rw [prs_cons, List.length_append, List.length_map, List.map_cons, List.sum_cons, this]
theorem prs_mem {kvs : Gm} {x : Int × Int} (h : x ∈ prs kvs) : ∃ p ∈ kvs, x.1 = p.1 := by
  unfold prs at h
  obtain ⟨p, hp, hx⟩ := List.mem_flatMap.1 h
  obtain ⟨v, -, rfl⟩ := List.mem_map.1 hx
  exact ⟨p, hp, rfl⟩
theorem prs_sorted : ∀ (kvs : Gm), rising kvs → (prs kvs).Pairwise (fun p q => p.1 ≤ q.1)
  | [], _ => List.Pairwise.nil
  | p :: r, h => by
    unfold rising at h
    rw [List.pairwise_cons] at h
    rw [prs_cons, List.pairwise_append]
    refine ⟨?_, prs_sorted r h.2, fun x hx y hy => ?_⟩
    · rw [List.pairwise_map]
      exact List.pairwise_of_forall fun _ _ => Int.le_refl _
    · obtain ⟨v, -, rfl⟩ := List.mem_map.1 hx
      obtain ⟨q, hq, e⟩ := prs_mem hy
      have := h.1 q hq
      rw [e]
      exact Int.le_of_lt this
theorem vals_append (a b : List (Int × Int)) (k : Int) : vals (a ++ b) k = vals a k ++ vals b k := by
  unfold vals
  rw [List.filter_append, List.map_append]
theorem vals_none (ps : List (Int × Int)) (k : Int) (h : ∀ p ∈ ps, p.1 ≠ k) : vals ps k = [] := by
  unfold vals
  rw [List.filter_eq_nil_iff.2 fun p hp => by simpa using h p hp]
  rfl
theorem vals_row (k : Int) : ∀ (l : List Int), vals (l.map fun v => (k, v)) k = l
  | [] => rfl
  | x :: r => by
    have := vals_row k r
    unfold vals at this ⊢
    simp at this ⊢
    exact this
theorem vals_prs : ∀ (kvs : Gm) (k : Int), rising kvs → vals (prs kvs) k = get kvs k
  | [], _, _ => rfl
  | p :: r, k, h => by
    unfold rising at h
    rw [List.pairwise_cons] at h
    rw [prs_cons, vals_append, get_cons]
    by_cases e : p.1 = k
    · rw [if_pos e, ← e, vals_row, vals_none _ _ fun x hx => by
        obtain ⟨q, hq, e2⟩ := prs_mem hx
        have := h.1 q hq
        omega, List.append_nil]
    · rw [if_neg e, vals_none (p.2.map _) k fun x hx => by
        obtain ⟨v, -, rfl⟩ := List.mem_map.1 hx
        exact e, List.nil_append]
      exact vals_prs r k h.2
theorem dks_row (k : Int) : ∀ (l : List Int) (ps : List (Int × Int)), dks (some k) ((l.map fun v => (k, v)) ++ ps) = dks (some k) ps
  | [], _ => rfl
  | x :: r, ps => by
    rw [List.map_cons, List.cons_append, dks, if_pos rfl, List.nil_append]
    exact dks_row k r ps
theorem dks_prs : ∀ (kvs : Gm) (pr : Option Int), rising kvs → (∀ p ∈ kvs, p.2 ≠ []) → (∀ p ∈ kvs, pr ≠ some p.1) → dks pr (prs kvs) = kvs.map (·.1)
  | [], _, _, _, _ => rfl
  | (k, []) :: r, _, _, hn, _ => absurd rfl (hn _ List.mem_cons_self)
  | (k, x :: l) :: r, pr, h, hn, hp => by
    unfold rising at h
    rw [List.pairwise_cons] at h
    rw [prs_cons]
    show dks pr ((k, x) :: ((l.map fun v => (k, v)) ++ prs r)) = k :: r.map (·.1)
    rw [dks, if_neg (hp (k, x :: l) List.mem_cons_self), dks_row, dks_prs r (some k) h.2 (fun p q => hn p (List.mem_cons_of_mem _ q)) fun p q => by
      have := h.1 p q
      intro e
      have e := Option.some.inj e
      simp only at this
      omega]
    rfl
end Ix
end Go.Proofs.Ytceokpklcfmadaa

/-
  Package index, pure: a list of pairs as keys with their numbers; cut at a key.
-/
namespace Go.Proofs.Ytceokpklcfmadaa
open Go Go.RowKit Go.ChangeShapes

namespace Ix
/-- what a container holds behind these were added -/
def gml (ps : List (Int × Int)) : Gm := ps.foldl (fun m p => add m p.1 p.2) []
theorem gml_snoc (ps : List (Int × Int)) (p : Int × Int) : gml (ps ++ [p]) = add (gml ps) p.1 p.2 := by
  unfold gml
  rw [List.foldl_append]
  rfl
theorem gml_take (ps : List (Int × Int)) (j : Nat) (hj : j < ps.length) : gml (ps.take (j + 1)) = add (gml (ps.take j)) ps[j].1 ps[j].2 := by
  rw [List.take_succ_eq_append_getElem hj, gml_snoc]
theorem total_add : ∀ (kvs : Gm) (k v : Int), total (add kvs k v) = total kvs + 1
  | [], _, _ => rfl
  | (k', l) :: r, k, v => by
    rw [add]
    split
    · unfold total
      simp
      omega
    · split
      · unfold total
        simp
        omega
      · have ih := total_add r k v
        unfold total at ih ⊢
        simp at ih ⊢
        omega
theorem add_length : ∀ (kvs : Gm) (k v : Int), (add kvs k v).length ≤ kvs.length + 1
  | [], _, _ => by simp [add]
  | (k', l) :: r, k, v => by
    rw [add]
    split
    · simp
    · split
      · simp
      · have ih := add_length r k v
        simp
        omega
theorem add_ne : ∀ (kvs : Gm) (k v : Int), (∀ p ∈ kvs, p.2 ≠ []) → ∀ p ∈ add kvs k v, p.2 ≠ []
  | [], _, _, _, p, hp => by
    rw [add] at hp
    rw [List.mem_singleton.1 hp]
    simp
  | (k', l) :: r, k, v, h, p, hp => by
    rw [add] at hp
    split at hp
    · rcases List.mem_cons.1 hp with rfl | hp
      · simp
      · exact h p hp
    · split at hp
      · rcases List.mem_cons.1 hp with rfl | hp
        · simp
        · exact h p (List.mem_cons_of_mem _ hp)
      · rcases List.mem_cons.1 hp with rfl | hp
        · exact h _ List.mem_cons_self
        · exact add_ne r k v (fun q hq => h q (List.mem_cons_of_mem _ hq)) p hp
/-- what such a container is like -/
structure Fine (ps : List (Int × Int)) (kvs : Gm) : Prop where
  ris : rising kvs
  tot : total kvs = ps.length
  len : kvs.length ≤ ps.length
  ne : ∀ p ∈ kvs, p.2 ≠ []
  key : ∀ p ∈ kvs, ∃ q ∈ ps, q.1 = p.1
theorem fine_snoc {ps : List (Int × Int)} {kvs : Gm} (h : Fine ps kvs) (p : Int × Int) : Fine (ps ++ [p]) (add kvs p.1 p.2) := by
  refine ⟨add_rising _ _ _ h.ris, ?_, ?_, add_ne _ _ _ h.ne, fun q hq => ?_⟩
  · rw [total_add, h.tot, List.length_append, List.length_singleton]
  · have := add_length kvs p.1 p.2
    have := h.len
    rw [List.length_append, List.length_singleton]
    omega
  · rcases add_keys _ _ _ q hq with e | ⟨r, hr, e⟩
    · exact ⟨p, by simp, e.symm⟩
    · obtain ⟨s, hs, e2⟩ := h.key r hr
      exact ⟨s, List.mem_append_left _ hs, e2.trans e⟩
theorem gml_fine (ps : List (Int × Int)) : Fine ps (gml ps) := by
  have key : ∀ j, j ≤ ps.length → Fine (ps.take j) (gml (ps.take j)) := fun j => by
    induction j with
    | zero => intro _; exact ⟨List.Pairwise.nil, rfl, Nat.le_refl _, fun p hp => (by cases hp), fun p hp => (by cases hp)⟩
    | succ j ih =>
      intro hj
      rw [List.take_succ_eq_append_getElem (by omega), gml_snoc]
      exact fine_snoc (ih (by omega)) _
  have := key ps.length (Nat.le_refl _)
  rwa [List.take_length] at this
theorem within_all (kvs : Gm) (lo hi : Int) (h : ∀ p ∈ kvs, lo ≤ p.1 ∧ p.1 ≤ hi) : within kvs lo hi = kvs := by
  unfold within
  rw [List.filter_eq_self]
  intro p hp
  simpa using h p hp
theorem within_none (kvs : Gm) (lo hi : Int) (h : ∀ p ∈ kvs, ¬ (lo ≤ p.1 ∧ p.1 ≤ hi)) : within kvs lo hi = [] := by
  unfold within
  rw [List.filter_eq_nil_iff]
  intro p hp
  simpa using h p hp
/-- cut at a key -/
theorem within_cut : ∀ (kvs : Gm) (lo at1 hi : Int), rising kvs → (∀ p ∈ kvs, lo ≤ p.1 ∧ p.1 ≤ hi) → within kvs lo at1 ++ within kvs (at1 + 1) hi = kvs
  | [], _, _, _, _, _ => rfl
  | p :: r, lo, at1, hi, h, hb => by
    have h0 := h
    unfold rising at h
    rw [List.pairwise_cons] at h
    have hp := hb p List.mem_cons_self
    by_cases hc : p.1 ≤ at1
    · have e1 : within (p :: r) lo at1 = p :: within r lo at1 := by
        unfold within
        rw [List.filter_cons, if_pos (by simp; omega)]
      have e2 : within (p :: r) (at1 + 1) hi = within r (at1 + 1) hi := by
        unfold within
        rw [List.filter_cons, if_neg (by simp; omega)]
      rw [e1, e2, List.cons_append, within_cut r lo at1 hi h.2 fun q hq => hb q (List.mem_cons_of_mem _ hq)]
    · have hall : ∀ q ∈ p :: r, at1 < q.1 := fun q hq => by
        rcases List.mem_cons.1 hq with rfl | hq
        · omega
        · have := h.1 q hq
          omega
      rw [within_none _ lo at1 fun q hq => by have := hall q hq; omega, within_all _ (at1 + 1) hi fun q hq => by
        have := hall q hq
        have := hb q hq
        omega]
      rfl
theorem prs_append (a b : Gm) : prs (a ++ b) = prs a ++ prs b := by
  unfold prs
  rw [List.flatMap_append]
theorem within_mem {kvs : Gm} {lo hi : Int} {x : Int × Int} (h : x ∈ prs (within kvs lo hi)) : lo ≤ x.1 ∧ x.1 ≤ hi := by
  obtain ⟨p, hp, e⟩ := prs_mem h
  unfold within at hp
  have := (List.mem_filter.1 hp).2
  rw [e]
  simpa using this
theorem within_total : ∀ (kvs : Gm) (lo hi : Int), total (within kvs lo hi) ≤ total kvs
  | [], _, _ => Nat.le_refl _
  | p :: r, lo, hi => by
    have ih := within_total r lo hi
    unfold within total at ih ⊢
    rw [List.filter_cons]
    split
    · simp at ih ⊢
      exact ih
    · simp at ih ⊢
      omega
end Ix
end Go.Proofs.Ytceokpklcfmadaa
