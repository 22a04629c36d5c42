/-
  IndexReads: holds.
-/
import Derived.Test.YtneiokjpbfgioaaIxt
namespace Go.Proofs.Ytneiokjpbfgioaa
open Go Go.RowKit Go.ChangeShapes
open Wb

set_option maxRecDepth 100000 in
set_option maxHeartbeats 4000000 in
theorem ixholds_yes (g b base n : Nat) (kvs : Ix.Gm) (v : Value) (w : World) (h : MI w g b base n kvs) (hp : Pr w v (prs kvs)) (hn : n < 1000000000) (hk : kvs.length ≤ 10000000) (ht : Ix.total kvs ≤ 10000000) (hne : ∀ p ∈ kvs, p.2 ≠ []) (hb : ∀ p ∈ kvs, 0 ≤ p.1 ∧ p.1 ≤ 9223372036854775807) :
    Calls Try.prog 25 #[.pointer (some ⟨g, 0, none⟩), v] w fun e w' => e = .returned (.bool true) ∧ Below w.heap.size w w' := by
  have HLN : Hid (Calls Try.prog 10 #[.pointer (some ⟨g, 0, none⟩)] w fun e w' => e = .returned (.int .i64 (Ix.total kvs : Int)) ∧ Below w.heap.size w w') := ixlen_any g b base n kvs w h (by omega)
  have HRK : Hid (∀ W, Below w.heap.size w W → Calls Try.prog 36 #[v] W fun e w' => ∃ v', e = .returned v' ∧ Ri w' v' (kvs.map (·.1)) ∧ Below W.heap.size W w') := fun W hW => by
    have h9 := rixkeys_ok v (prs kvs) W (hp.kept hW) (by rw [Ix.prs_len]; exact ht) (Ix.prs_sorted kvs h.ris) fun x hx => by
      obtain ⟨p, hp, e⟩ := Ix.prs_mem hx
      rw [e]
      exact hb p hp
    rw [Ix.dks_prs kvs none h.ris hne (by simp)] at h9
    exact h9
  have HKY : Hid (∀ W, Below w.heap.size w W → Calls Try.prog 19 #[.pointer (some ⟨g, 0, none⟩)] W fun e w' => ∃ v, e = .returned v ∧ Ri w' v (kvs.map (·.1)) ∧ Below W.heap.size W w') := fun W hW => ixkeys_any g b base n kvs W (h.kept hW) hk
  have HGE : Hid (∀ (W : World) (k : Nat) (hlt : k < kvs.length), Below w.heap.size w W → Calls Try.prog 20 #[.pointer (some ⟨g, 0, none⟩), .int .i64 kvs[k].1] W fun e w' => ∃ v', e = .returned v' ∧ (Ri w' v' (Ix.get kvs kvs[k].1) ∧ Below W.heap.size W w')) := fun W k hlt hW => ixget_any g b base n kvs _ W (h.kept hW) (WalkArith.wf_i64 (by have := hb kvs[k] (List.getElem_mem _); omega)) hn
  have HRG : Hid (∀ (W : World) (k : Nat) (hlt : k < kvs.length), Below w.heap.size w W → Calls Try.prog 37 #[v, .int .i64 kvs[k].1] W fun e w' => ∃ v', e = .returned v' ∧ (Ri w' v' (Ix.get kvs kvs[k].1) ∧ Below W.heap.size W w')) := fun W k hlt hW => by
    have h9 := rixget_any v (prs kvs) kvs[k].1 W (hp.kept hW) (by rw [Ix.prs_len]; exact ht)
    rw [Ix.vals_prs kvs _ h.ris] at h9
    exact h9
  obtain ⟨av, cv, rfl, -, -, -⟩ := hp
  have hpl := Ix.prs_len kvs
  rw [hpl] at HRK HRG ⊢
  have hd0 : ((Ix.total kvs : Int) != (Ix.total kvs : Int)) = false := by simp
  clear h hne hb hpl
  go_enter Try.func25, Try.ntmps25
  go_wp2_with fail
  refine HLN.out.mono ?_
  rintro e w1 ⟨rfl, b1⟩
  have HB1 : Hid (Below w.heap.size w w1) := b1
  clear b1 HLN
  go_wp2_with fail
  refine (HRK.out _ HB1.out).mono ?_
  rintro e w2 ⟨v2, rfl, r2, b2⟩
  have HB2 : Hid (Below w.heap.size w w2 ∧ Ri w2 v2 (kvs.map (·.1))) := ⟨andThen HB1.out b2, r2⟩
  clear r2 b2 HB1 HRK
  go_wp2_with fail
  refine (HKY.out _ HB2.out.1).mono ?_
  rintro e w3 ⟨v3, rfl, r3, b3⟩
  have HB3 : Hid (Below w.heap.size w w3 ∧ Ri w3 v2 (kvs.map (·.1)) ∧ Ri w3 v3 (kvs.map (·.1))) := ⟨andThen HB2.out.1 b3, HB2.out.2.kept b3, r3⟩
  clear r3 b3 HB2 HKY
  go_wp2_with fail
  refine (ixsamei_any _ _ _ _ _ HB3.out.2.2 HB3.out.2.1).mono ?_
  rintro e w4 ⟨rfl, b4⟩
  rw [decide_eq_true rfl]
  have HB4 : Hid (Below w.heap.size w w4) := andThen HB3.out.1 b4
  have hr4 : Ri w4 v2 (kvs.map (·.1)) := HB3.out.2.1.kept b4
  obtain ⟨a2, c2, rfl, hm2, hc2⟩ := hr4
  rw [List.length_map] at hm2 ⊢
  unfold maxLen at hm2
  have HC2 : Hid (kvs.map (·.1) ≠ [] → ∃ b off, a2 = some ⟨b, off, none⟩ ∧ ∀ j (h : j < (kvs.map (·.1)).length), w4.cell? ⟨b, off + j, none⟩ = some (.int .i64 (kvs.map (·.1))[j])) := hc2
  clear hc2 b4 HB3
  go_wp2_with fail
  go_loopw [6] (fun i wr => ∃ k : Nat, k ≤ kvs.length ∧ i = .int .i64 (k : Int) ∧ Below w4.heap.size w4 wr) (fun i _ => kvs.length - (intOf i).toNat)
  case atStart => exact ⟨0, Nat.zero_le _, rfl, Below.refl _ _⟩
  case round =>
    obtain ⟨k, hk9, rfl, hbel⟩ := hrel
    by_cases hlt : k < kvs.length
    · obtain ⟨bk, off, rfl, hcell⟩ := HC2.out (fun e => by
        have := congrArg List.length e
        rw [List.length_map] at this
        simp at this
        rw [this] at hlt
        simp at hlt)
      have hck := hcell k (by rw [List.length_map]; exact hlt)
      rw [List.getElem_map] at hck
      have HKC : Hid (∀ W, Below w4.heap.size w4 W → W.cell? ⟨bk, off + k, none⟩ = some (.int .i64 kvs[k].1)) := fun W hW => (hW.cell (p := ⟨bk, off + k, none⟩) (World.block_lt_of_cell? _ _ hck)).trans hck
      have HG2 : Hid (∀ W, Below w4.heap.size w4 W → Calls Try.prog 20 #[.pointer (some ⟨g, 0, none⟩), .int .i64 kvs[k].1] W fun e w' => ∃ v', e = .returned v' ∧ (Ri w' v' (Ix.get kvs kvs[k].1) ∧ Below W.heap.size W w')) := fun W hW => HGE.out W k hlt (andThen HB4.out hW)
      have HR2 : Hid (∀ W, Below w4.heap.size w4 W → Calls Try.prog 37 #[.slice av (Ix.total kvs) cv, .int .i64 kvs[k].1] W fun e w' => ∃ v', e = .returned v' ∧ (Ri w' v' (Ix.get kvs kvs[k].1) ∧ Below W.heap.size W w')) := fun W hW => HRG.out W k hlt (andThen HB4.out hW)
      clear hcell hck HGE HRG
      generalize kvs[k].1 = key at *
      have B0 : Below w4.heap.size w4 wr.drew := Below.drew hbel
      go_upto_region 9 with fail
      refine wp_region_held_drew (S := fun W : World => W.cell? ⟨bk, off + k, none⟩ = some (.int .i64 key)) (by kernel_rfl) (HKC.out _ B0) (fun hH => ?_)
      obtain ⟨W0, hW0⟩ : ∃ x, x = wr.drew := ⟨_, rfl⟩
      rw [← hW0] at B0 hH ⊢
      clear hW0 hbel
      refine zqk 0 rfl hH ?_
      simp only [Act.put, List.setIfInBounds_toArray, List.set_cons_zero, List.set_cons_succ, List.getElem_toArray, List.getElem_cons_zero]
      refine zqk 1 rfl hH ?_
      simp only [Act.put, List.setIfInBounds_toArray, List.set_cons_zero, List.set_cons_succ, List.getElem_toArray, List.getElem_cons_zero, List.getElem_cons_succ]
      refine zqk 2 rfl hH ?_
      simp only [Act.put, List.setIfInBounds_toArray, List.set_cons_zero, List.set_cons_succ, List.getElem_toArray, List.getElem_cons_zero, List.getElem_cons_succ]
      refine zqk 3 rfl hH ?_
      simp only [Act.put, List.setIfInBounds_toArray, List.set_cons_zero, List.set_cons_succ, List.getElem_toArray, List.getElem_cons_zero, List.getElem_cons_succ]
      refine zqk 4 rfl hH ?_
      simp only [Act.put, List.setIfInBounds_toArray, List.set_cons_zero, List.set_cons_succ, List.getElem_toArray, List.getElem_cons_zero, List.getElem_cons_succ]
      refine zqk 6 rfl hH ?_
      simp only [Act.put, List.setIfInBounds_toArray, List.set_cons_zero, List.set_cons_succ, List.getElem_toArray, List.getElem_cons_zero, List.getElem_cons_succ]
      refine zqk 7 rfl hH ?_
      simp only [Act.put, List.setIfInBounds_toArray, List.set_cons_zero, List.set_cons_succ, List.getElem_toArray, List.getElem_cons_zero, List.getElem_cons_succ]
      refine zqk 8 rfl hH ?_
      simp only [Act.put, List.setIfInBounds_toArray, List.set_cons_zero, List.set_cons_succ, List.getElem_toArray, List.getElem_cons_zero, List.getElem_cons_succ]
      refine zqk 9 rfl hH ?_
      simp only [Act.put, List.setIfInBounds_toArray, List.set_cons_zero, List.set_cons_succ, List.getElem_toArray, List.getElem_cons_zero, List.getElem_cons_succ]
      refine zqk 10 rfl hH ?_
      simp only [Act.put, List.setIfInBounds_toArray, List.set_cons_zero, List.set_cons_succ, List.getElem_toArray, List.getElem_cons_zero, List.getElem_cons_succ]
      refine zqr 5 rfl (fun K hK => ?_)
      refine st_ixget rfl 29 33 rfl rfl rfl (HG2.out _ B0) (fun v1 W1 r1 => ?_)
      have B1 : Below w4.heap.size w4 W1 := andThen B0 r1.2
      refine hK.out _ _ (HKC.out _ B1) (fun hH => ?_)
      clear hK K
      simp only [Act.put, List.setIfInBounds_toArray, List.set_cons_zero, List.set_cons_succ, List.getElem_toArray, List.getElem_cons_zero, List.getElem_cons_succ]
      refine zqr 11 rfl (fun K hK => ?_)
      refine st_rixget rfl 35 39 rfl rfl rfl (HR2.out _ B1) (fun v2 W2 r2 => ?_)
      have B2 : Below w4.heap.size w4 W2 := andThen B1 r2.2
      refine hK.out _ _ (HKC.out _ B2) (fun hH => ?_)
      clear hK K
      simp only [Act.put, List.setIfInBounds_toArray, List.set_cons_zero, List.set_cons_succ, List.getElem_toArray, List.getElem_cons_zero, List.getElem_cons_succ]
      refine zqr 12 rfl (fun K hK => ?_)
      refine st_same rfl 34 40 rfl rfl rfl (r1.1.kept r2.2) (r2.1) (fun W3 b3 => ?_)
      have B3 : Below w4.heap.size w4 W3 := andThen B2 b3
      refine hK.out _ _ (HKC.out _ B3) (fun hH => ?_)
      clear hK K
      simp only [Act.put, List.setIfInBounds_toArray, List.set_cons_zero, List.set_cons_succ, List.getElem_toArray, List.getElem_cons_zero, List.getElem_cons_succ]
      refine zqk 13 rfl hH ?_
      simp only [Act.put, List.setIfInBounds_toArray, List.set_cons_zero, List.set_cons_succ, List.getElem_toArray, List.getElem_cons_zero, List.getElem_cons_succ]
      refine wpAnyH_done (by kernel_rfl) ?_ _
      have HB3 : Hid (Below w4.heap.size w4 W3) := B3
      clear hH
      go_wp2_with fail
      go_roundw
      case rel => exact ⟨k + 1, by omega, by go_num, HB3.out⟩
      case measure => simp [intOf]; omega
    · have HB9 : Hid (Below w.heap.size w wr) := andThen HB4.out hbel
      go_wp2_with fail
      go_ret
      exact ⟨rfl, HB9.out⟩
end Go.Proofs.Ytneiokjpbfgioaa
