/-
  Package disk: what a crash leaves of a file.
-/
import Derived.Test.YtjepeeopjjnglaaDkd
import Derived.Laws.OwnMore
namespace Go.Proofs.Ytjepeeopjjnglaa
open Go Go.RowKit Go.ChangeShapes
open Wb

namespace Dk
/-- how many of the bytes that are not synced stay, how many are zero -/
def kp (x : Fl) (keep : Int) : Nat := (wth keep ((x.data.length - x.syn : Nat) : Int)).toNat
def zr (x : Fl) (keep zero : Int) : Nat := (wth zero ((x.data.length - x.syn - kp x keep : Nat) : Int)).toNat
/-- the bytes of a file that a crash leaves -/
def lv (x : Fl) (c : Int × Int) : List Nat := x.data.take (x.syn + kp x c.1) ++ List.replicate (zr x c.1 c.2) 0
theorem wth_nat (n : Int) (m : Nat) : wth n (m : Int) = ((wth n (m : Int)).toNat : Int) ∧ (wth n (m : Int)).toNat ≤ m := by
  unfold wth
  omega
end Dk
theorem made_bv (t : Nat) : (madeCells #[Value.int .u8 0] t).toList = bv (List.replicate t 0) := by
  rw [toList_madeCells_one]
  simp [bv]
theorem own_of_lb {B g : Nat} {w : World} {l : List Nat} (L : LB w g 5 (bv l)) (hB : B ≤ g) (hg : Wb.ok l) (hl : l.length ≤ maxLen) : Own B w (.slice (some ⟨g, 0, none⟩) l.length l.length) l := ⟨⟨by rw [bv_length, Nat.mul_one], .inr ⟨g, l.length, _, rfl, hB, L, Nat.le_refl _, hl, by simp [bv_length], by simp []; exact List.take_of_length_le (by rw [bv_length]; exact Nat.le_refl _)⟩⟩, hg⟩
set_option maxRecDepth 100000 in
set_option maxHeartbeats 8000000 in
theorem dkfleave_any (B f : Nat) (dv : Value) (x : Dk.Fl) (keep zero : Int) (w : World) (hf : LB w f 84 [dv, .int .i64 (x.syn : Int)]) (ho : Own B w dv x.data) (hs : x.syn ≤ x.data.length) (hl : x.data.length ≤ 1000000000) :
    Calls Try.prog 49 #[.pointer (some ⟨f, 0, none⟩), .agg #[.int .i64 keep, .int .i64 zero]] w fun e w' => ∃ v, e = .returned v ∧ Own w.heap.size w' v (Dk.lv x (keep, zero)) ∧ Below w.heap.size w w' := by
  obtain ⟨i0, hi, hz0, hz1, hz2⟩ := info_parts3 info5
  have hsz : (Try.prog.info? 5).map (·.size) = some 1 := by rw [hi]; simp [hz1]
  obtain ⟨a1, c1, hdv, hc1, hc2⟩ := Mg.row_shape ho.row
  subst hdv
  have H0 : Hid (∀ W, Below w.heap.size w W → LB W f 84 [.slice a1 x.data.length c1, .int .i64 (x.syn : Int)] ∧ Own B W (.slice a1 x.data.length c1) x.data) := fun W hW => ⟨hf.kept hW, ho.kept hW⟩
  have HOK : Hid (Wb.ok x.data) := ho.good
  obtain ⟨u, hu⟩ : ∃ u, u = x.data.length - x.syn := ⟨_, rfl⟩
  obtain ⟨k, hk⟩ : ∃ k, k = Dk.kp x keep := ⟨_, rfl⟩
  obtain ⟨z, hz⟩ : ∃ z, z = Dk.zr x keep zero := ⟨_, rfl⟩
  have hkw : Dk.wth keep (u : Int) = (k : Int) ∧ k ≤ u := by
    rw [hk, hu]
    exact Dk.wth_nat keep _
  obtain ⟨u2, hu2⟩ : ∃ u2, u2 = u - k := ⟨_, rfl⟩
  have hzw : Dk.wth zero (u2 : Int) = (z : Int) ∧ z ≤ u2 := by
    rw [hz, hu2, hu, hk]
    exact Dk.wth_nat zero _
  obtain ⟨m, hm⟩ : ∃ m, m = x.syn + k := ⟨_, rfl⟩
  obtain ⟨t, ht⟩ : ∃ t, t = m + z := ⟨_, rfl⟩
  have e1 : IntKind.i64.wrap ((x.data.length : Int) - (x.syn : Int)) = (u : Int) := (IntWalk.i64_in _ (by omega)).trans (by omega)
  have e2 : IntKind.i64.wrap ((u : Int) - (k : Int)) = (u2 : Int) := (IntWalk.i64_in _ (by omega)).trans (by omega)
  have e3 : IntKind.i64.wrap ((x.syn : Int) + (k : Int)) = (m : Int) := (IntWalk.i64_in _ (by omega)).trans (by omega)
  have e4 : IntKind.i64.wrap ((m : Int) + (z : Int)) = (t : Int) := (IntWalk.i64_in _ (by omega)).trans (by omega)
  have HLV : Hid (Dk.lv x (keep, zero) = x.data.take m ++ List.replicate z 0 ∧ m ≤ x.data.length ∧ t = m + z ∧ t ≤ 2000000000) := ⟨by unfold Dk.lv; simp only; rw [← hk, ← hz, ← hm], by omega, ht, by omega⟩
  have cW1 : ∀ W, Calls Try.prog 62 #[.int .i64 keep, .int .i64 (u : Int)] W fun e w' => e = .returned (.int .i64 (k : Int)) ∧ w' = W := fun W => by
    have h9 := dkwithin_any keep (u : Int) W
    rw [hkw.1] at h9
    exact h9
  have cW2 : ∀ W, Calls Try.prog 62 #[.int .i64 zero, .int .i64 (u2 : Int)] W fun e w' => e = .returned (.int .i64 (z : Int)) ∧ w' = W := fun W => by
    have h9 := dkwithin_any zero (u2 : Int) W
    rw [hzw.1] at h9
    exact h9
  have hmc : ((m : Int) ≤ (c1 : Int)) = True := by simp; omega
  have ht2 : t ≤ 2000000000 := by omega
  unfold maxLen at hc2
  clear hu hk hz hkw hzw hu2 hm ht hf ho hs
  have x0 := (H0.out w (Below.refl _ _)).1.cell 0 _ rfl
  have b1 := up0 w (.cells #[.int .i64 keep, .int .i64 zero] 88)
  have L1 := lb_new w [.int .i64 keep, .int .i64 zero] 88
  have F1 := (H0.out _ b1).1
  have y0 := F1.cell 0 _ rfl
  have y1 := F1.cell 1 _ rfl
  have z0 := L1.cell 0 _ rfl
  have z1 := L1.cell 1 _ rfl
  go_enter Try.func49, Try.ntmps49
  go_upto_region 1 with fail
  obtain ⟨q0, hq0⟩ : ∃ q, q = w.heap.size := ⟨_, rfl⟩
  obtain ⟨W1, hW1⟩ : ∃ W, W = w.alloc (.cells #[.int .i64 keep, .int .i64 zero] 88) := ⟨_, rfl⟩
  rw [← hW1] at y0 y1 z0 z1 b1 L1 ⊢
  rw [← hq0] at z0 z1 L1 ⊢
  have HB1 : Hid (Below w.heap.size w W1 ∧ LB W1 q0 88 [.int .i64 keep, .int .i64 zero]) := ⟨b1, L1⟩
  clear hW1 hq0 b1 L1 F1 x0
  go_wp2_with fail
  go_quiet (fail)
  have HB2 : Hid (Below w.heap.size w (W1.drewN nq) ∧ LB (W1.drewN nq) q0 88 [.int .i64 keep, .int .i64 zero]) := ⟨bel_drewN HB1.out.1 _, HB1.out.2.kept ⟨rfl, rfl, rfl, Nat.le_refl _, fun _ _ => rfl⟩⟩
  generalize W1.drewN nq = W2 at HB2 ⊢
  clear y0 y1 z0 z1 HB1
  have z0 := HB2.out.2.cell 0 _ rfl
  have z1 := HB2.out.2.cell 1 _ rfl
  have v1 := (H0.out W2 HB2.out.1).1.cell 1 _ rfl
  go_wp2_with fail
  refine (cW1 _).mono ?_
  rintro e w' ⟨rfl, rfl⟩
  go_wp2_with fail
  refine (cW2 _).mono ?_
  rintro e w' ⟨rfl, rfl⟩
  go_wp2_with (at_make; refine wpList_make_full _ rfl _ _ 30 rfl w'.heap.size 5 i0 (.int .u8 0) 1 Try.underlying30 hi hz0 hz1 _ _ _ _ t rfl rfl rfl rfl (by rw [hz2]; omega) (by unfold maxLen; omega) (Nat.le_refl _) ?_)
  intro w3 hown hgr
  rw [made_bv] at hown
  have b3 : Below w'.heap.size w' w3 := (Below.refl _ w').grown hgr (Nat.le_refl _) (fun k hk => by cases hk)
  obtain ⟨gq, hgq⟩ : ∃ gq, gq = w'.heap.size := ⟨_, rfl⟩
  rw [← hgq] at hown ⊢
  have HL3 : Hid (LB w3 gq 5 (bv (List.replicate t 0)) ∧ Below w.heap.size w w3 ∧ w.heap.size ≤ gq) := by
    refine ⟨?_, andThen HB2.out.1 b3, by rw [hgq]; exact HB2.out.1.size⟩
    rcases hown.2 with ⟨h1, _⟩ | ⟨g, c2, cur, hv, _, hg, h1, _, hcs, htk⟩
    · cases h1
    · simp only [Value.slice.injEq, Option.some.injEq, Addr.mk.injEq, and_true, true_and] at hv
      obtain ⟨rfl, rfl⟩ := hv
      show w3.heap[gq]? = _
      rw [hg]
      have e9 : cur.toList = bv (List.replicate t 0) := by
        rw [← htk, List.take_of_length_le]
        rw [Array.length_toList]
        omega
      rw [← e9]
  clear hown hgr b3 z0 z1 v1 hgq
  go_upto_region 5 with fail
  have M3 := HL3.out.1.kept (drew_bel w3)
  have b3z := andThen HL3.out.2.1 (drew_bel w3)
  obtain ⟨Wz, hWz⟩ : ∃ W, W = w3.drew := ⟨_, rfl⟩
  rw [← hWz] at M3 b3z
  have HS3 : Hid (∀ W, Below w.heap.size w W → W.cell? ⟨f, 0, none⟩ = some (.slice a1 x.data.length c1) ∧ W.cell? ⟨f, 1, none⟩ = some (.int .i64 (x.syn : Int))) := fun W hW => ⟨(H0.out W hW).1.cell 0 _ rfl, (H0.out W hW).1.cell 1 _ rfl⟩
  have hS0 := HS3.out Wz b3z
  have HZ : Hid (LB Wz gq 5 (bv (List.replicate t 0)) ∧ Below w.heap.size w Wz) := ⟨M3, b3z⟩
  clear M3 b3z
  refine wp_region_held_drew (S := fun W : World => W.cell? ⟨f, 0, none⟩ = some (.slice a1 x.data.length c1) ∧ W.cell? ⟨f, 1, none⟩ = some (.int .i64 (x.syn : Int))) (by kernel_rfl) (by rw [← hWz]; exact hS0) (fun _ => ?_)
  rw [← hWz]
  clear hWz
  refine zqk 0 rfl hS0 ?_
  simp only [Act.put, zq1, zq2, zq3, zq4, zq5]
  refine zqk 1 rfl hS0 ?_
  simp only [Act.put, zq1, zq2, zq3, zq4, zq5, zq6]
  refine zqk 2 rfl hS0 ?_
  simp only [Act.put, zq1, zq2, zq3, zq4, zq5, zq6]
  refine zqk 3 rfl hS0 ?_
  simp only [Act.put, zq1, zq2, zq3, zq4, zq5, zq6]
  refine zqk 4 rfl hS0 ?_
  simp only [Act.put, zq1, zq2, zq3, zq4, zq5, zq6]
  refine zqk 5 rfl hS0 ?_
  simp only [Act.put, zq1, zq2, zq3, zq4, zq5, zq6]
  refine zqk 6 rfl hS0 ?_
  simp only [Act.put, zq1, zq2, zq3, zq4, zq5, zq6]
  refine zqk 7 rfl hS0 ?_
  simp only [Act.put, zq1, zq2, zq3, zq4, zq5, zq6]
  refine zqk 8 rfl hS0 ?_
  simp only [Act.put, zq1, zq2, zq3, zq4, zq5, zq6]
  refine zqk 9 rfl hS0 ?_
  simp only [Act.put, zq1, zq2, zq3, zq4, zq5, zq6]
  refine zqk 10 rfl hS0 ?_
  simp only [Act.put, zq1, zq2, zq3, zq4, zq5, zq6]
  refine zqk 11 rfl hS0 ?_
  simp only [Act.put, zq1, zq2, zq3, zq4, zq5, zq6]
  refine zqr 12 rfl (fun K hK => ?_)
  have hbs := bs_take (H0.out Wz HZ.out.2).2.bs m HLV.out.2.1
  have hcs : (bv (x.data.take m)).length = m := by
    rw [bv_length, List.length_take]
    have := HLV.out.2.1
    omega
  refine step_copy_splice rfl (.tmp 38) (.tmp 49) 30 30 rfl 5 Try.underlying30 hsz (some ⟨gq, 0, none⟩) a1 t t m c1 rfl rfl gq 0 (bv (List.replicate t 0)) 5 HZ.out.1 (bv (x.data.take m)) (by rw [hcs]; exact (Nat.min_eq_left (by have := HLV.out.2.2.1; omega)).symm) (fun hpos => ⟨rfl, by
    obtain ⟨a9, c9, e9, -, -, -, hc9⟩ := hbs.shape
    obtain ⟨b9, o9, e10, hcell⟩ := hc9 (List.ne_nil_of_length_pos (by rw [bv_length] at hpos; exact hpos))
    simp only [Value.slice.injEq] at e9
    refine ⟨⟨b9, o9, none⟩, e9.1.trans e10, fun j v hj => ?_⟩
    have hjl : j < (x.data.take m).length := by have := (List.getElem?_eq_some_iff.1 hj).1; rwa [bv_length] at this
    rw [bv_get _ j hjl] at hj
    rw [Addr.add_lit, hcell j hjl]
    exact hj⟩) (by rw [hcs, bv_length, List.length_replicate]; have := HLV.out.2.2.1; omega) (bv_one _) w.heap.size w HZ.out.2 HL3.out.2.2 ?_
  intro w4 hw4 b4
  have HF : Hid (Own w.heap.size w4 (.slice (some ⟨gq, 0, none⟩) t t) (Dk.lv x (keep, zero)) ∧ Below w.heap.size w w4) := by
    obtain ⟨l1, l2, l3, l4⟩ := HLV.out
    have e5 : splice (bv (List.replicate t 0)) 0 (bv (x.data.take m)) = bv (Dk.lv x (keep, zero)) := by
      unfold splice
      rw [List.take_zero, List.nil_append, hcs, Nat.zero_add, l1, bv_append]
      congr 1
      unfold bv
      rw [List.map_replicate, List.drop_replicate, List.map_replicate, show t - m = z by omega]
    have hlen : (Dk.lv x (keep, zero)).length = t := by
      rw [l1, List.length_append, List.length_take, List.length_replicate]
      omega
    have L4 : LB w4 gq 5 (bv (Dk.lv x (keep, zero))) := by
      have h9 := hw4.out
      rw [e5] at h9
      exact h9
    have o4 := own_of_lb L4 HL3.out.2.2 (by
      rw [l1]
      exact ok_append (ok_take HOK.out m) fun y hy => by
        have := List.eq_of_mem_replicate hy
        omega) (by rw [hlen]; unfold maxLen; omega)
    rw [hlen] at o4
    exact ⟨o4, b4⟩
  have hS4 := HS3.out w4 b4
  refine hK.out _ _ hS4 fun _ => ?_
  simp only [Act.put, zq1, zq2, zq3, zq4, zq5, zq6]
  clear hK K hbs hcs hw4 b4
  refine wpAnyH_done (by kernel_rfl) ?_ _
  go_wp2_with fail
  go_returns
  exact ⟨_, rfl, HF.out.1, HF.out.2⟩
end Go.Proofs.Ytjepeeopjjnglaa
