/-
  annalsref5: Sorted, All of a list that is sorted.
-/
import Derived.Test.YtceokpklcfmadaaIxp
namespace Go.Proofs.Ytceokpklcfmadaa
open Go Go.RowKit Go.ChangeShapes
open Wb

/-- the same memory, another draw -/
def dr (w : World) (d : Nat) : World := { w with drawn := d }
theorem dr_drewN (w : World) (d n : Nat) : (dr w d).drewN n = dr w (d + n) := rfl
/-- what Sorted has gathered -/
structure SrS (w : World) (ps : List (Int × Int)) (j : Nat) (o : Value) (wr : World) : Prop where
  row : wr.ownsRow w.heap.size 54 2 o (ps.take j).length ((ps.take j).flatMap enP)
  bel : Below w.heap.size w wr
set_option maxRecDepth 100000 in
set_option maxHeartbeats 4000000 in
theorem rixsorted_ok (v : Value) (ps : List (Int × Int)) (w : World) (h : Pr w v ps) (hl : ps.length ≤ 10000000) (hs : ps.Pairwise (fun p q => p.1 ≤ q.1)) (hb : ∀ p ∈ ps, 0 ≤ p.1 ∧ p.1 ≤ 9223372036854775807) :
    Calls Try.prog 56 #[v, .int .i64 (-9223372036854775808), .int .i64 9223372036854775807] w fun e w' => ∃ v', e = .returned v' ∧ w'.ownsRow w.heap.size 54 2 v' ps.length (ps.flatMap enP) ∧ Below w.heap.size w w' := by
  have hin := infoP
  obtain ⟨a, c, rfl, hm1, hm2, hc⟩ := h
  unfold maxLen at hm2
  have HC : Hid (ps ≠ [] → ∃ b off, a = some ⟨b, off, none⟩ ∧ ∀ j (h : j < ps.length), w.cell? ⟨b, off + j * 2, none⟩ = some (.int .i64 ps[j].1) ∧ w.cell? ⟨b, off + j * 2 + 1, none⟩ = some (.int .i64 ps[j].2)) := hc
  have HS : Hid (ps.Pairwise (fun p q => p.1 ≤ q.1) ∧ ∀ p ∈ ps, 0 ≤ p.1 ∧ p.1 ≤ 9223372036854775807) := ⟨hs, hb⟩
  clear hc hs hb
  go_enter Try.func56, Try.ntmps56
  go_wp2_with fail
  go_loopw [7, 8] (fun o i wr => ∃ j : Nat, j ≤ ps.length ∧ i = .int .i64 (j : Int) ∧ SrS w ps j o wr) (fun _ i _ => ps.length - (intOf i).toNat)
  case atStart => exact ⟨0, Nat.zero_le _, rfl, ⟨World.ownsRow_nil _ _ _ _, Below.refl _ _⟩⟩
  case round =>
    obtain ⟨j, hj, rfl, hg⟩ := hrel
    have HG : Hid (SrS w ps j u7 wr) := hg
    clear hg
    by_cases hlt : j < ps.length
    · obtain ⟨b, off, rfl, hcell⟩ := HC.out (List.ne_nil_of_length_pos (by omega))
      have q1 := (HG.out.bel.cell (p := ⟨b, off + j * 2, none⟩) (World.block_lt_of_cell? _ _ (hcell j hlt).1)).trans (hcell j hlt).1
      have q2 := (HG.out.bel.cell (p := ⟨b, off + j * 2 + 1, none⟩) (World.block_lt_of_cell? _ _ (hcell j hlt).2)).trans (hcell j hlt).2
      have hk0 := HS.out.2 ps[j] (List.getElem_mem _)
      have HP : Hid (ps.take (j + 1) = ps.take j ++ [ps[j]]) := List.take_succ_eq_append_getElem hlt
      clear hcell
      obtain ⟨p, hp⟩ : ∃ p, p = ps[j] := ⟨_, rfl⟩
      rw [← hp] at q1 q2 hk0 HP
      have HPJ : Hid (p = ps[j]) := hp
      clear hp
      obtain ⟨x, y⟩ := p
      simp only at q1 q2 hk0
      have HL : Hid ((ps.take j).length ≤ 100000000) := by
        show _ ≤ _
        rw [List.length_take]
        omega
      have HR : Hid (∀ W, W = (wr.alloc (.cells #[.int .i64 x, .int .i64 y] 54)).alloc (.cells #[.int .i64 x, .int .i64 y] 54) → W.ownsRow w.heap.size 54 2 u7 (ps.take j).length ((ps.take j).flatMap enP) ∧ W.rangeAt (wr.heap.size + 1) 0 (enP (x, y)) ∧ w.heap.size ≤ W.heap.size ∧ Below w.heap.size w W ∧ LB W wr.heap.size 54 (enP (x, y)) ∧ wr.heap.size < W.heap.size) := fun W e => by
        subst e
        have hL := lb_new (wr.alloc (.cells #[.int .i64 x, .int .i64 y] 54)) (enP (x, y)) 54
        rw [heap_one] at hL
        have hL0 := lb_new wr (enP (x, y)) 54
        have hB := up (up HG.out.bel (.cells #[.int .i64 x, .int .i64 y] 54)) (.cells #[.int .i64 x, .int .i64 y] 54)
        refine ⟨(HG.out.row.alloc _).alloc _, hL.range, hB.size, hB, ?_, by rw [heap_one, heap_one]; omega⟩
        exact (Below.heap_alloc _ _ _ (by rw [heap_one]; omega)).trans hL0
      go_upto_region 7 with fail
      go_wp2_with (at_builtin; refine wpList_appP _ rfl (.tmp 31) (.tmp 33) 55 rfl w.heap.size hin Try.underlying55 u7 (ps.take j) rfl (HR.out _ rfl).1 (wr.heap.size + 1) 1 (x, y) rfl (HR.out _ rfl).2.1 HL.out (HR.out _ rfl).2.2.1 ?_)
      intro v3 w3 hr3 hg3
      have hl4 : (ps.take (j + 1)).length = j + 1 := by
        rw [List.length_take]
        omega
      have hr4 : w3.ownsRow w.heap.size 54 2 v3 (ps.take (j + 1)).length ((ps.take (j + 1)).flatMap enP) := by
        rw [hl4, HP.out, List.flatMap_append]
        simpa using hr3
      have hB3 : Below w.heap.size w w3 := (HR.out _ rfl).2.2.2.1.grown hg3 (HR.out _ rfl).2.2.1 fun q e => (World.ownsRow.lt HG.out.row q e).1
      have hP3 : LB w3 wr.heap.size 54 (enP (x, y)) := (hg3.block _ (HR.out _ rfl).2.2.2.2.2 fun e => by
        have := (World.ownsRow.lt HG.out.row _ e.symm).2
        omega).trans (HR.out _ rfl).2.2.2.2.1
      have H4 : Hid (SrS w ps (j + 1) v3 w3) := ⟨hr4, hB3⟩
      have p0 : w3.cell? ⟨wr.heap.size, 0, none⟩ = some (.int .i64 x) := hP3.cell 0 _ rfl
      have p1 : w3.cell? ⟨wr.heap.size, 1, none⟩ = some (.int .i64 y) := hP3.cell 1 _ rfl
      obtain ⟨a4, c4, e4, h41, h42, hc4⟩ := Pr.of hr4
      obtain ⟨b4, o4, e5, hcell4⟩ := hc4 (fun e => by rw [e] at hl4; simp at hl4)
      have hz := hr4.2
      subst e5
      rw [hl4] at e4 h41
      subst e4
      have ho4 : o4 = 0 ∧ w3.frozen? ⟨b4, j * 2, none⟩ = false ∧ w3.frozen? ⟨b4, j * 2 + 1, none⟩ = false := by
        rcases hz with ⟨e6, -⟩ | ⟨g6, cap6, cur6, e6, -, hh6, -⟩
        · cases e6
        · simp only [Value.slice.injEq, Option.some.injEq, Addr.mk.injEq, and_true] at e6
          obtain ⟨⟨rfl, rfl⟩, -⟩ := e6
          exact ⟨rfl, by simp [World.frozen?, hh6], by simp [World.frozen?, hh6]⟩
      obtain ⟨rfl, f0, f1⟩ := ho4
      have c0 := (hcell4 j (by omega)).1
      have c1 := (hcell4 j (by omega)).2
      have HPJ2 : ps[j] = (x, y) := HPJ.out.symm
      rw [List.getElem_take, HPJ2, Nat.zero_add] at c0 c1
      have HPV : Hid (0 < j → ∃ z, z ≤ x ∧ w3.cell? ⟨b4, (j - 1) * 2, none⟩ = some (.int .i64 z)) := fun h0 => by
        have h1 := (hcell4 (j - 1) (by omega)).1
        rw [List.getElem_take, Nat.zero_add] at h1
        have h2 := List.pairwise_iff_getElem.1 HS.out.1 (j - 1) j (by omega) hlt (by omega)
        rw [HPJ2] at h2
        exact ⟨_, h2, h1⟩
      have HSAME : Hid (∀ t, ((dr w3 t).setCell ⟨b4, j * 2, none⟩ (.int .i64 x)).setCell ⟨b4, j * 2 + 1, none⟩ (.int .i64 y) = dr w3 t) := fun t => by
        have e1 : (dr w3 t).setCell ⟨b4, j * 2, none⟩ (.int .i64 x) = dr w3 t := set_same (w := dr w3 t) c0
        rw [e1]
        exact set_same (w := dr w3 t) c1
      have HB4 : Hid (∀ t, SrS w ps (j + 1) (.slice (some ⟨b4, 0, none⟩) (j + 1) c4) (dr w3 t)) := fun t => ⟨H4.out.row, H4.out.bel.trans ⟨rfl, rfl, rfl, Nat.le_refl _, fun _ _ => rfl⟩⟩
      unfold maxLen at h42
      clear hr3 hg3 hr4 hB3 hP3 hcell4 hc4 hz HR H4 HPJ2 HPJ HP q1 q2 HL
      go_wp2_with fail
      go_loopw [10] (fun k w4 => k = .int .i64 (j : Int) ∧ ∃ t, w4 = dr w3 t) (fun _ _ => 0)
      case atStart => exact ⟨rfl, w3.drawn, rfl⟩
      case round =>
        obtain ⟨rfl, t, rfl⟩ := hrel
        have p0' : ∀ t, (dr w3 t).cell? ⟨wr.heap.size, 0, none⟩ = some (.int .i64 x) := fun _ => p0
        have p1' : ∀ t, (dr w3 t).cell? ⟨wr.heap.size, 1, none⟩ = some (.int .i64 y) := fun _ => p1
        have c0' : ∀ t, (dr w3 t).cell? ⟨b4, j * 2, none⟩ = some (.int .i64 x) := fun _ => c0
        have c1' : ∀ t, (dr w3 t).cell? ⟨b4, j * 2 + 1, none⟩ = some (.int .i64 y) := fun _ => c1
        have f0' : ∀ t, (dr w3 t).frozen? ⟨b4, j * 2, none⟩ = false := fun _ => f0
        have f1' : ∀ t, (dr w3 t).frozen? ⟨b4, j * 2 + 1, none⟩ = false := fun _ => f1
        clear p0 p1 c0 c1 f0 f1
        by_cases h0 : 0 < j
        · obtain ⟨z, hz, hcz⟩ := HPV.out h0
          have hcz' : ∀ t, (dr w3 t).cell? ⟨b4, (j - 1) * 2, none⟩ = some (.int .i64 z) := fun _ => hcz
          have hd0 : ((0 : Int) < (j : Int)) = True := by simp; exact h0
          have hd1 : (x < z) = False := by simp; omega
          have hw : IntKind.i64.wrap ((j : Int) - 1) = ((j - 1 : Nat) : Int) := by
            rw [IntWalk.i64_in _ (by omega)]
            omega
          clear hcz
          go_wp2_with fail
          go_quiet (fail)
          rw [dr_drewN]
          go_wp2_with fail
          rw [HSAME.out]
          go_roundw
          case rel => exact ⟨j + 1, by omega, by go_num, HB4.out _⟩
          case measure => simp [intOf]; omega
        · obtain rfl : j = 0 := by omega
          clear h0 HPV
          go_wp2_with fail
          go_quiet (fail)
          rw [dr_drewN]
          go_wp2_with fail
          rw [HSAME.out]
          go_roundw
          case rel => exact ⟨0 + 1, by omega, by go_num, HB4.out _⟩
          case measure => simp [intOf]; omega
    · have H3 : Hid (wr.ownsRow w.heap.size 54 2 u7 ps.length (ps.flatMap enP)) := by
        have h9 := HG.out.row
        rw [List.take_of_length_le (by omega)] at h9
        exact h9
      go_wp2_with fail
      go_ret
      exact ⟨_, rfl, H3.out, HG.out.bel⟩
end Go.Proofs.Ytceokpklcfmadaa
