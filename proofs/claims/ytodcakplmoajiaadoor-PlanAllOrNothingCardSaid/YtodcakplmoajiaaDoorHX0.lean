/-
  What PlanGoesOn did not need.
-/
import Derived.Test.YtodcakplmoajiaaDoorGPF
import Derived.Test.YtodcakplmoajiaaDoorGPH
import Derived.Test.YtodcakplmoajiaaDoorGSO
import Derived.Test.YtodcakplmoajiaaDoorGSX
namespace Go.Proofs.YtodcakplmoajiaaDoor
open Go Go.RowKit
open Wb

theorem lab_zero {s : ByteArray} (h : lab s = 0) : (Text.Tx.nmA s).1 = 0 := by
  unfold lab at h
  split at h
  · assumption
  · simp at h
/-- an ended saga is whole or undone -/
theorem ended_whole (S : Sg) (h : chkS S = true) (he : S.x.ended = true) : (S.x.ph = 3 ∧ (S.outs.length : Int) = S.x.cnt ∧ S.und = []) ∨ (S.x.ph = 4 ∧ S.outs.length = S.und.length) := by
  obtain ⟨hB, hG⟩ := (chkS_iff S).1 h
  unfold SN.ended at he
  rcases hG with ⟨g, _⟩ | ⟨g, c1, c2, c3, c4, c5, c6, _⟩ | ⟨g, _⟩ | ⟨g, g2, c1, c2, c3, c4, c5, c6, _⟩
  · simp [g] at he
  · exact .inl ⟨g, by omega, c4⟩
  · simp [g] at he
  · exact .inr ⟨g, by omega⟩
theorem i64_bounds {n : Int} (h : (Lit.int .i64 n).wf = true) : -9223372036854775808 ≤ n ∧ n ≤ 9223372036854775807 := by
  have e : IntKind.i64.min = -9223372036854775808 := by decide
  simp [Lit.wf] at h
  omega
theorem begin_good (r : Rec) (hok : ok r.l) (hf : r.x.fit) (h : (beginP r).1 = 0) : chkS (beginP r).2 = true ∧ (beginP r).2.outs = [] ∧ (beginP r).2.und = [] ∧ (beginP r).2.nm.size ≤ 20000 := by
  unfold beginP at h ⊢
  by_cases h1 : (upP 3 r).1 = 0
  · rw [if_neg (by simpa using h1)] at h ⊢
    by_cases h2 : (upP 3 r).2.x.k = 1
    · rw [if_neg (by simpa using h2)] at h ⊢
      obtain ⟨hv, _, _, hs⟩ := up3 r hok h1
      obtain ⟨v1, v2, v3, vk⟩ := hv
      have hs2 : (upP 3 r).2.x.s ≤ 9223372036854775807 := by
        rw [hs]
        exact (hf 2 (by omega) (by omega)).2
      have hsm : (upP 3 r).2.nm.size ≤ 20000 := by
        obtain ⟨q1, _, _, _, q3⟩ := up_zero h1
        rw [q3]
        exact (carL_small _ r (small_of r hf q1)).1
      refine ⟨?_, rfl, rfl, hsm⟩
      rw [chkS_iff]
      rcases vk with k | k | k | k | k
      · refine ⟨⟨lab_zero k.2.2.2.2.2.2.2.2.2.1, ⟨v1, hs2⟩, ⟨k.2.2.2.2.2.1, k.2.2.2.2.2.2.1⟩, ⟨k.2.2.2.2.2.2.2.1, k.2.2.2.2.2.2.2.2.1⟩, ⟨v2, v3⟩, ⟨v2, v3⟩, ?_⟩, .inl ?_⟩
        · have := k.2.2.2.2.2.2.2.2.2.2
          simp [shortP, this]
        · have h9 := k.2.2.2.2.2.1
          simp [Gd1]
          omega
      all_goals omega
    · rw [if_pos h2] at h; simp at h
  · rw [if_pos h1] at h; exact absurd h h1
set_option maxRecDepth 100000 in
theorem plastw_any (p : Pln) (v : Value) (S : Sg) (h : SH) (w : World) (h1 : 0 ≤ S.x.nx) (h2 : S.x.nx ≤ 32) : Calls Tryd.prog 32 #[plv p v, sv S h] w fun e w' => e = .returned (.int .i64 (lastW p S.x)) ∧ Below w.heap.size w w' := by
  have HBH0 : ∀ w', Calls Tryd.prog 45 #[plv p v, .int .i64 S.x.nx] w' fun e w'' => e = .returned (.bool (p.behind S.x.nx)) ∧ Below w'.heap.size w' w'' := fun w' => pbehind_any p v S.x.nx w' (by omega) (by omega)
  have HR : Hid (lastW p S.x = if S.x.ph = 2 then 0 else if p.behind S.x.nx then 0 else 1) := rfl
  generalize lastW p S.x = R at *
  generalize p.behind S.x.nx = bb at *
  obtain ⟨C, hC, hM, hG⟩ := plv_letter p v
  obtain ⟨D, hD, hL, hE⟩ := sv_letter S h
  rw [hC, hD]
  try rw [hC] at HBH0
  try rw [hD] at HBH0
  have HBH : Hid _ := HBH0
  have HM : Hid _ := hM
  have HG : Hid (C = plvl p v) := hG
  have HL : Hid _ := hL
  have HE : Hid (D = scl S h) := hE
  clear hC hM hG hD hL hE HBH0
  have HXW : Hid (LB ((w.alloc (.cells C.toArray 24)).alloc (.cells D.toArray 28)) w.heap.size 24 C ∧ LB ((w.alloc (.cells C.toArray 24)).alloc (.cells D.toArray 28)) (w.heap.size + 1) 28 D ∧ Below w.heap.size w ((w.alloc (.cells C.toArray 24)).alloc (.cells D.toArray 28))) := lb_new2 w C D 24 28
  have c7 := HXW.out.2.1.cell 7 (.int .i64 S.x.ph) (by rw [HE.out]; rfl)
  have c8 := HXW.out.2.1.cell 8 (.int .i64 S.x.nx) (by rw [HE.out]; rfl)
  generalize S.x.ph = ph at *
  generalize S.x.nx = nx at *
  by_cases hp : ph = 2
  · subst hp
    go_enter Tryd.func32, Tryd.ntmps32
    go_wp2_with fail
    go_ret
    exact ⟨by rw [HR.out]; rfl, HXW.out.2.2⟩
  · have e2 : (ph == 2) = false := by rw [beq_eq_false_iff_ne]; exact hp
    have HR2 : Hid (R = if bb then 0 else 1) := by show _ = _; rw [HR.out, if_neg hp]
    clear hp HR
    go_enter Tryd.func32, Tryd.ntmps32
    go_wp2_with (first | (refine wpList_load_mid rfl 24 _ rfl w.heap.size 0 rfl C _ HXW.out.1.range Tryd.underlying24 rfl HM.out ?_) | (refine wpList_load_mid rfl 28 _ rfl (w.heap.size + 1) 0 rfl D _ HXW.out.2.1.range Tryd.underlying28 rfl HL.out ?_) | (refine wpList_load_midG rfl 24 _ rfl w.heap.size 0 rfl C _ HXW.out.1.range Tryd.underlying24 rfl HM.out ?_) | (refine wpList_load_midG rfl 28 _ rfl (w.heap.size + 1) 0 rfl D _ HXW.out.2.1.range Tryd.underlying28 rfl HL.out ?_) | fail)
    refine (HBH.out _).mono ?_
    rintro e w1 ⟨rfl, b1⟩
    have H1 : Hid (Below w.heap.size w w1) := andThen HXW.out.2.2 b1
    clear b1 HXW HBH c7 c8
    cases bb
    · go_wp2_with fail
      go_ret
      exact ⟨by rw [HR2.out]; rfl, H1.out⟩
    · go_wp2_with fail
      go_ret
      exact ⟨by rw [HR2.out]; rfl, H1.out⟩
end Go.Proofs.YtodcakplmoajiaaDoor
