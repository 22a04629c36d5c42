import Derived.Laws.OwnMore
import Derived.Test.YtppabcihbpbfpaaGreatDoorQK7
/-
  Package disk: what a crash leaves of a file.
-/
namespace Go.Proofs.YtppabcihbpbfpaaGreatDoor
open Go Go.RowKit Go.ChangeShapes
open Wb

namespace Dk
/-- how many of the bytes that are not synced stay, how many are zero -/
def kp (x : Fl) (keep : Int) : Nat := (wth keep ((x.data.length - x.syn : Nat) : Int)).toNat
def zr (x : Fl) (keep zero : Int) : Nat := (wth zero ((x.data.length - x.syn - kp x keep : Nat) : Int)).toNat
/-- the bytes of a file that a crash leaves -/
def lv (x : Fl) (c : Int × Int) : List Nat := x.data.take (x.syn + kp x c.1) ++ List.replicate (zr x c.1 c.2) 0
theorem wth_nat (n : Int) (m : Nat) : wth n (m : Int) = ((wth n (m : Int)).toNat : Int) ∧ (wth n (m : Int)).toNat ≤ m := by
  unfold wth
  omega
end Dk
theorem made_bv (t : Nat) : (madeCells #[Value.int .u8 0] t).toList = bv (List.replicate t 0) := by
  rw [toList_madeCells_one]
  simp [bv]
theorem own_of_lb {B g : Nat} {w : World} {l : List Nat} (L : LB w g 5 (bv l)) (hB : B ≤ g) (hg : Wb.ok l) (hl : l.length ≤ maxLen) : Own B w (.slice (some ⟨g, 0, none⟩) l.length l.length) l := ⟨⟨by rw [bv_length, Nat.mul_one], .inr ⟨g, l.length, _, rfl, hB, L, Nat.le_refl _, hl, by simp [bv_length], by simp []; exact List.take_of_length_le (by rw [bv_length]; exact Nat.le_refl _)⟩⟩, hg⟩
set_option maxRecDepth 100000 in
set_option maxHeartbeats 8000000 in
theorem dkfleave_any (B f : Nat) (dv : Value) (x : Dk.Fl) (keep zero : Int) (w : World) (hf : LB w f 75 [dv, .int .i64 (x.syn : Int)]) (ho : Own B w dv x.data) (hs : x.syn ≤ x.data.length) (hl : x.data.length ≤ 1000000000) :
    Calls Tryz.prog 32 #[.pointer (some ⟨f, 0, none⟩), .agg #[.int .i64 keep, .int .i64 zero]] w fun e w' => ∃ v, e = .returned v ∧ Own w.heap.size w' v (Dk.lv x (keep, zero)) ∧ Below w.heap.size w w' := by
  obtain ⟨i0, hi, hz0, hz1, hz2⟩ := info_parts3 info5
  have hsz : (Tryz.prog.info? 5).map (·.size) = some 1 := by rw [hi]; simp [hz1]
  obtain ⟨a1, c1, hdv, hc1, hc2⟩ := Mg.row_shape ho.row
  subst hdv
  have H0 : Hid (∀ W, Below w.heap.size w W → LB W f 75 [.slice a1 x.data.length c1, .int .i64 (x.syn : Int)] ∧ Own B W (.slice a1 x.data.length c1) x.data) := fun W hW => ⟨hf.kept hW, ho.kept hW⟩
  have HOK : Hid (Wb.ok x.data) := ho.good
  obtain ⟨u, hu⟩ : ∃ u, u = x.data.length - x.syn := ⟨_, rfl⟩
  obtain ⟨k, hk⟩ : ∃ k, k = Dk.kp x keep := ⟨_, rfl⟩
  obtain ⟨z, hz⟩ : ∃ z, z = Dk.zr x keep zero := ⟨_, rfl⟩
  have hkw : Dk.wth keep (u : Int) = (k : Int) ∧ k ≤ u := by
    rw [hk, hu]
    exact Dk.wth_nat keep _
  obtain ⟨u2, hu2⟩ : ∃ u2, u2 = u - k := ⟨_, rfl⟩
  have hzw : Dk.wth zero (u2 : Int) = (z : Int) ∧ z ≤ u2 := by
    rw [hz, hu2, hu, hk]
    exact Dk.wth_nat zero _
  obtain ⟨m, hm⟩ : ∃ m, m = x.syn + k := ⟨_, rfl⟩
  obtain ⟨t, ht⟩ : ∃ t, t = m + z := ⟨_, rfl⟩
  have e1 : IntKind.i64.wrap ((x.data.length : Int) - (x.syn : Int)) = (u : Int) := (IntWalk.i64_in _ (by omega)).trans (by omega)
  have e2 : IntKind.i64.wrap ((u : Int) - (k : Int)) = (u2 : Int) := (IntWalk.i64_in _ (by omega)).trans (by omega)
  have e3 : IntKind.i64.wrap ((x.syn : Int) + (k : Int)) = (m : Int) := (IntWalk.i64_in _ (by omega)).trans (by omega)
  have e4 : IntKind.i64.wrap ((m : Int) + (z : Int)) = (t : Int) := (IntWalk.i64_in _ (by omega)).trans (by omega)
  have HLV : Hid (Dk.lv x (keep, zero) = x.data.take m ++ List.replicate z 0 ∧ m ≤ x.data.length ∧ t = m + z ∧ t ≤ 2000000000) := ⟨by unfold Dk.lv; simp only; rw [← hk, ← hz, ← hm], by omega, ht, by omega⟩
  have cW1 : ∀ W, Calls Tryz.prog 46 #[.int .i64 keep, .int .i64 (u : Int)] W fun e w' => e = .returned (.int .i64 (k : Int)) ∧ w' = W := fun W => by
    have h9 := dkwithin_any keep (u : Int) W
    rw [hkw.1] at h9
    exact h9
  have cW2 : ∀ W, Calls Tryz.prog 46 #[.int .i64 zero, .int .i64 (u2 : Int)] W fun e w' => e = .returned (.int .i64 (z : Int)) ∧ w' = W := fun W => by
    have h9 := dkwithin_any zero (u2 : Int) W
    rw [hzw.1] at h9
    exact h9
  have hmc : ((m : Int) ≤ (c1 : Int)) = True := by simp; omega
  have ht2 : t ≤ 2000000000 := by omega
  unfold maxLen at hc2
  clear hu hk hz hkw hzw hu2 hm ht hf ho hs
  have x0 := (H0.out w (Below.refl _ _)).1.cell 0 _ rfl
  have b1 := up0 w (.cells #[.int .i64 keep, .int .i64 zero] 71)
  have L1 := lb_new w [.int .i64 keep, .int .i64 zero] 71
  have F1 := (H0.out _ b1).1
  have y0 := F1.cell 0 _ rfl
  have y1 := F1.cell 1 _ rfl
  have z0 := L1.cell 0 _ rfl
  have z1 := L1.cell 1 _ rfl
  go_enter Tryz.func32, Tryz.ntmps32
  go_upto_region 1 with fail
  obtain ⟨q0, hq0⟩ : ∃ q, q = w.heap.size := ⟨_, rfl⟩
  obtain ⟨W1, hW1⟩ : ∃ W, W = w.alloc (.cells #[.int .i64 keep, .int .i64 zero] 71) := ⟨_, rfl⟩
  rw [← hW1] at y0 y1 z0 z1 b1 L1 ⊢
  rw [← hq0] at z0 z1 L1 ⊢
  have HB1 : Hid (Below w.heap.size w W1 ∧ LB W1 q0 71 [.int .i64 keep, .int .i64 zero]) := ⟨b1, L1⟩
  clear hW1 hq0 b1 L1 F1 x0
  go_wp2_with fail
  go_quiet (fail)
  have HB2 : Hid (Below w.heap.size w (W1.drewN nq) ∧ LB (W1.drewN nq) q0 71 [.int .i64 keep, .int .i64 zero]) := ⟨bel_drewN HB1.out.1 _, HB1.out.2.kept ⟨rfl, rfl, rfl, Nat.le_refl _, fun _ _ => rfl⟩⟩
  generalize W1.drewN nq = W2 at HB2 ⊢
  clear y0 y1 z0 z1 HB1
  have z0 := HB2.out.2.cell 0 _ rfl
  have z1 := HB2.out.2.cell 1 _ rfl
  have v1 := (H0.out W2 HB2.out.1).1.cell 1 _ rfl
  go_wp2_with fail
  refine (cW1 _).mono ?_
  rintro e w' ⟨rfl, rfl⟩
  go_wp2_with fail
  refine (cW2 _).mono ?_
  rintro e w' ⟨rfl, rfl⟩
  go_wp2_with (at_make; refine wpList_make_full _ rfl _ _ 32 rfl w'.heap.size 5 i0 (.int .u8 0) 1 Tryz.underlying32 hi hz0 hz1 _ _ _ _ t rfl rfl rfl rfl (by rw [hz2]; omega) (by unfold maxLen; omega) (Nat.le_refl _) ?_)
  intro w3 hown hgr
  rw [made_bv] at hown
  have b3 : Below w'.heap.size w' w3 := (Below.refl _ w').grown hgr (Nat.le_refl _) (fun k hk => by cases hk)
  obtain ⟨gq, hgq⟩ : ∃ gq, gq = w'.heap.size := ⟨_, rfl⟩
  rw [← hgq] at hown ⊢
  have HL3 : Hid (LB w3 gq 5 (bv (List.replicate t 0)) ∧ Below w.heap.size w w3 ∧ w.heap.size ≤ gq) := by
    refine ⟨?_, andThen HB2.out.1 b3, by rw [hgq]; exact HB2.out.1.size⟩
    rcases hown.2 with ⟨h1, _⟩ | ⟨g, c2, cur, hv, _, hg, h1, _, hcs, htk⟩
    · cases h1
    · simp only [Value.slice.injEq, Option.some.injEq, Addr.mk.injEq, and_true, true_and] at hv
      obtain ⟨rfl, rfl⟩ := hv
      show w3.heap[gq]? = _
      rw [hg]
      have e9 : cur.toList = bv (List.replicate t 0) := by
        rw [← htk, List.take_of_length_le]
        rw [Array.length_toList]
        omega
      rw [← e9]
  clear hown hgr b3 z0 z1 v1 hgq
  go_upto_region 5 with fail
  have M3 := HL3.out.1.kept (drew_bel w3)
  have b3z := andThen HL3.out.2.1 (drew_bel w3)
  obtain ⟨Wz, hWz⟩ : ∃ W, W = w3.drew := ⟨_, rfl⟩
  rw [← hWz] at M3 b3z
  have HS3 : Hid (∀ W, Below w.heap.size w W → W.cell? ⟨f, 0, none⟩ = some (.slice a1 x.data.length c1) ∧ W.cell? ⟨f, 1, none⟩ = some (.int .i64 (x.syn : Int))) := fun W hW => ⟨(H0.out W hW).1.cell 0 _ rfl, (H0.out W hW).1.cell 1 _ rfl⟩
  have hS0 := HS3.out Wz b3z
  have HZ : Hid (LB Wz gq 5 (bv (List.replicate t 0)) ∧ Below w.heap.size w Wz) := ⟨M3, b3z⟩
  clear M3 b3z
  refine wp_region_held_drew (S := fun W : World => W.cell? ⟨f, 0, none⟩ = some (.slice a1 x.data.length c1) ∧ W.cell? ⟨f, 1, none⟩ = some (.int .i64 (x.syn : Int))) (by kernel_rfl) (by rw [← hWz]; exact hS0) (fun _ => ?_)
  rw [← hWz]
  clear hWz
  refine zqk 0 rfl hS0 ?_
  simp only [Act.put, zq1, zq2, zq3, zq4, zq5]
  refine zqk 1 rfl hS0 ?_
  simp only [Act.put, zq1, zq2, zq3, zq4, zq5, zq6]
  refine zqk 2 rfl hS0 ?_
  simp only [Act.put, zq1, zq2, zq3, zq4, zq5, zq6]
  refine zqk 3 rfl hS0 ?_
  simp only [Act.put, zq1, zq2, zq3, zq4, zq5, zq6]
  refine zqk 4 rfl hS0 ?_
  simp only [Act.put, zq1, zq2, zq3, zq4, zq5, zq6]
  refine zqk 5 rfl hS0 ?_
  simp only [Act.put, zq1, zq2, zq3, zq4, zq5, zq6]
  refine zqk 6 rfl hS0 ?_
  simp only [Act.put, zq1, zq2, zq3, zq4, zq5, zq6]
  refine zqk 7 rfl hS0 ?_
  simp only [Act.put, zq1, zq2, zq3, zq4, zq5, zq6]
  refine zqk 8 rfl hS0 ?_
  simp only [Act.put, zq1, zq2, zq3, zq4, zq5, zq6]
  refine zqk 9 rfl hS0 ?_
  simp only [Act.put, zq1, zq2, zq3, zq4, zq5, zq6]
  refine zqk 10 rfl hS0 ?_
  simp only [Act.put, zq1, zq2, zq3, zq4, zq5, zq6]
  refine zqk 11 rfl hS0 ?_
  simp only [Act.put, zq1, zq2, zq3, zq4, zq5, zq6]
  refine zqr 12 rfl (fun K hK => ?_)
  have hbs := bs_take (H0.out Wz HZ.out.2).2.bs m HLV.out.2.1
  have hcs : (bv (x.data.take m)).length = m := by
    rw [bv_length, List.length_take]
    have := HLV.out.2.1
    omega
  refine step_copy_splice rfl (.tmp 38) (.tmp 49) 32 32 rfl 5 Tryz.underlying32 hsz (some ⟨gq, 0, none⟩) a1 t t m c1 rfl rfl gq 0 (bv (List.replicate t 0)) 5 HZ.out.1 (bv (x.data.take m)) (by rw [hcs]; exact (Nat.min_eq_left (by have := HLV.out.2.2.1; omega)).symm) (fun hpos => ⟨rfl, by
    obtain ⟨a9, c9, e9, -, -, -, hc9⟩ := hbs.shape
    obtain ⟨b9, o9, e10, hcell⟩ := hc9 (List.ne_nil_of_length_pos (by rw [bv_length] at hpos; exact hpos))
    simp only [Value.slice.injEq] at e9
    refine ⟨⟨b9, o9, none⟩, e9.1.trans e10, fun j v hj => ?_⟩
    have hjl : j < (x.data.take m).length := by have := (List.getElem?_eq_some_iff.1 hj).1; rwa [bv_length] at this
    rw [bv_get _ j hjl] at hj
    rw [Addr.add_lit, hcell j hjl]
    exact hj⟩) (by rw [hcs, bv_length, List.length_replicate]; have := HLV.out.2.2.1; omega) (bv_one _) w.heap.size w HZ.out.2 HL3.out.2.2 ?_
  intro w4 hw4 b4
  have HF : Hid (Own w.heap.size w4 (.slice (some ⟨gq, 0, none⟩) t t) (Dk.lv x (keep, zero)) ∧ Below w.heap.size w w4) := by
    obtain ⟨l1, l2, l3, l4⟩ := HLV.out
    have e5 : splice (bv (List.replicate t 0)) 0 (bv (x.data.take m)) = bv (Dk.lv x (keep, zero)) := by
      unfold splice
      rw [List.take_zero, List.nil_append, hcs, Nat.zero_add, l1, bv_append]
      congr 1
      unfold bv
      rw [List.map_replicate, List.drop_replicate, List.map_replicate, show t - m = z by omega]
    have hlen : (Dk.lv x (keep, zero)).length = t := by
      rw [l1, List.length_append, List.length_take, List.length_replicate]
      omega
    have L4 : LB w4 gq 5 (bv (Dk.lv x (keep, zero))) := by
      have h9 := hw4.out
      rw [e5] at h9
      exact h9
    have o4 := own_of_lb L4 HL3.out.2.2 (by
      rw [l1]
      exact ok_append (ok_take HOK.out m) fun y hy => by
        have := List.eq_of_mem_replicate hy
        omega) (by rw [hlen]; unfold maxLen; omega)
    rw [hlen] at o4
    exact ⟨o4, b4⟩
  have hS4 := HS3.out w4 b4
  refine hK.out _ _ hS4 fun _ => ?_
  simp only [Act.put, zq1, zq2, zq3, zq4, zq5, zq6]
  clear hK K hbs hcs hw4 b4
  refine wpAnyH_done (by kernel_rfl) ?_ _
  go_wp2_with fail
  go_returns
  exact ⟨_, rfl, HF.out.1, HF.out.2⟩
end Go.Proofs.YtppabcihbpbfpaaGreatDoor

/-
  Package disk: the names that a crash leaves.
-/
namespace Go.Proofs.YtppabcihbpbfpaaGreatDoor
open Go Go.RowKit Go.ChangeShapes Go.Maps Go.Sort Go.Shelf
open Wb
attribute [local go_sem] run_mkmap

namespace Dk
theorem bb_asym {a b : List UInt8} (h : bytesBefore a b = true) : bytesBefore b a = false := by
  cases h2 : bytesBefore b a with
  | false => rfl
  | true =>
    have h3 := bb_trans _ _ _ h h2
    rw [bb_irrefl] at h3
    cases h3
theorem ins_last (x : List UInt8 × Nat) : ∀ l : Nm, (∀ p ∈ l, bytesBefore p.1 x.1 = true) → ins x l = l ++ [x]
  | [], _ => rfl
  | y :: r, h => by
    rw [ins, if_neg (by rw [bb_asym (h y (List.mem_cons_self ..))]; simp), ins_last x r fun p hp => h p (List.mem_cons_of_mem _ hp)]
    rfl
theorem put_last (l : Nm) (s : List UInt8) (f : Nat) (h : ∀ p ∈ l, bytesBefore p.1 s = true) : put l s f = l ++ [(s, f)] := by
  have e : del l s = l := by
    unfold del
    rw [List.filter_eq_self]
    intro p hp
    have h9 := h p hp
    have : (p.1 == s) = false := by
      simp only [beq_eq_false_iff_ne, ne_eq]
      intro e
      rw [e, bb_irrefl] at h9
      cases h9
    rw [this]
    rfl
  unfold put
  rw [e]
  exact ins_last (s, f) l h
theorem merge_pre : ∀ (r pre : Nm), rising (pre ++ r) → (r.map en).foldl (fun D p => D.put p.1 p.2) (dm pre) = dm (pre ++ r)
  | [], pre, _ => by simp
  | p :: r, pre, h => by
    rw [List.map_cons, List.foldl_cons]
    have h0 : ∀ y ∈ pre, bytesBefore y.1 p.1 = true := fun y hy => (List.pairwise_append.1 h).2.2 y hy p (List.mem_cons_self ..)
    have e : (dm pre).put (en p).1 (en p).2 = dm (pre ++ [p]) := by
      have h9 := dm_put pre p.1 p.2
      rw [put_last pre p.1 p.2 h0] at h9
      exact h9
    rw [e, merge_pre r (pre ++ [p]) (by rw [List.append_assoc]; exact h), List.append_assoc]
    rfl
theorem merge_dm (l : Nm) (h : rising l) : Lib.mergeD (.map []) (dm l) = dm l := by
  have h9 := merge_pre l [] h
  exact h9
/-- the names that a crash leaves -/
def lvK (S : DS) (keep : Int) : Nat := (wth keep (S.ch.length : Int)).toNat
def lvF (cs : List Ch) (l : Nm) : Nm := cs.foldl (fun l c => c.app l) l
def lvN (S : DS) (keep : Int) : Nm := lvF (S.ch.take (lvK S keep)) S.la
theorem app_len (c : Ch) (l : Nm) : (c.app l).length ≤ l.length + 1 := by
  unfold Ch.app
  split
  · have := len_del l c.frm
    omega
  · have h1 := len_put (del l c.frm) c.tow (c.f.getD 0)
    have h2 := len_del l c.frm
    omega
theorem lvF_len (cs : List Ch) : ∀ l : Nm, (lvF cs l).length ≤ l.length + cs.length := by
  induction cs with
  | nil => exact fun l => Nat.le_refl _
  | cons c r ih =>
    intro l
    have h1 := ih (c.app l)
    have h2 := app_len c l
    show (lvF r (c.app l)).length ≤ _
    rw [List.length_cons]
    omega
theorem lvF_snoc (cs : List Ch) (c : Ch) (l : Nm) : lvF (cs ++ [c]) l = c.app (lvF cs l) := by
  unfold lvF
  rw [List.foldl_append]
  rfl
end Dk
theorem sz_of {l : List UInt8} (h : l.length ≤ 1000) : (⟨l.toArray⟩ : ByteArray).size ≤ maxLen := by
  show l.toArray.size ≤ _
  rw [List.size_toArray]
  unfold maxLen
  omega
theorem flatC_at : ∀ (cs : List Dk.Ch) (j : Nat) (h : j < cs.length), (cs.flatMap enC)[j * 3]? = some (enS cs[j].frm) ∧ (cs.flatMap enC)[j * 3 + 1]? = some (enS cs[j].tow) ∧ (cs.flatMap enC)[j * 3 + 2]? = some (fpo cs[j].f)
  | [], j, h => by simp at h
  | x :: r, 0, _ => by simp [enC]
  | x :: r, j + 1, h => by
    have hj : j < r.length := by simpa using h
    obtain ⟨h1, h2, h3⟩ := flatC_at r j hj
    have hl : (enC x).length = 3 := rfl
    rw [List.flatMap_cons, show (j + 1) * 3 = (enC x).length + j * 3 by rw [hl]; omega, show (enC x).length + j * 3 + 1 = (enC x).length + (j * 3 + 1) by omega, show (enC x).length + j * 3 + 2 = (enC x).length + (j * 3 + 2) by omega, List.getElem?_append_right (by omega), List.getElem?_append_right (by omega), List.getElem?_append_right (by omega), Nat.add_sub_cancel_left, Nat.add_sub_cancel_left, Nat.add_sub_cancel_left]
    simp only [List.getElem_cons_succ]
    exact ⟨h1, h2, h3⟩
theorem st_withinW {ops : Array Oper} {o : Oper} {a : Act} {W : World} {K : Act → World → Prop} {Q : Exit → Act → World → Prop} {E : Prop} (hgd : o.guard = none) (p q : Nat) {ts : Array TypeId} (ho : o.op = .call { callee := .value (.func 46), args := #[.tmp p, .tmp q], argTypes := ts }) {u1 u2 : Value} (hp : a.tmps[p]?.getD undef = u1) (hq : a.tmps[q]?.getD undef = u2) {v : Value} (hC : Calls Tryz.prog 46 #[u1, u2] W fun e W' => e = .returned v ∧ W' = W) (h : K (a.put o.dst v) W) : if Region.wanted o (yielded ops a.tmps) = true then Oper.wp Tryz.prog o a W K Q else E := by
  rw [if_pos (by simp [Region.wanted, hgd])]
  obtain ⟨dst, op', ty, pos, after, guard⟩ := o
  simp only at ho hgd
  subst ho hgd
  have HC : Hid (Calls Tryz.prog 46 #[u1, u2] W fun e W' => e = .returned v ∧ W' = W) := hC
  clear hC
  go_simp
  refine HC.out.mono ?_
  rintro e W' ⟨rfl, rfl⟩
  exact h
theorem dkcopy_any (b : Nat) (m : Option Nat) (l : Dk.Nm) (w : World) (h1 : w.ownsMap Tryz.prog 9 fpR b 0 (.map [])) (h : MpA w m l) (hne : m ≠ some b) (hl : l.length ≤ 1000000000) :
    Calls Tryz.prog 45 #[.map (some b), .map m] w fun e w' => e = .returned (.tuple #[]) ∧ MpA w' (some b) l ∧ w.grownBy w' (some b) := by
  rcases h.2 with ⟨rfl, rfl⟩ | ⟨bs, rfl, hs⟩
  · refine (AnyX.maps_Copy_opt laysCopy lawS fpR b 0 none (.map []) .nil w h1 (.inl ⟨rfl, rfl⟩) (by simp) (by simp [Maps.size])).mono ?_
    rintro e w' ⟨rfl, h2, h3⟩
    exact ⟨rfl, MpA.own (l := []) List.Pairwise.nil h2, h3⟩
  · refine (AnyX.maps_Copy_opt laysCopy lawS fpR b 0 (some bs) (.map []) (Dk.dm l) w h1 (.inr ⟨bs, _, rfl, hs⟩) hne (by rw [Dk.dm_size]; unfold maxLen; omega)).mono ?_
    rintro e w' ⟨rfl, h2, h3⟩
    rw [Dk.merge_dm l h.1] at h2
    exact ⟨rfl, MpA.own h.1 h2, h3⟩
set_option maxRecDepth 100000 in
set_option maxHeartbeats 8000000 in
theorem dkleave_any (B g : Nat) (S : Dk.DS) (M : Mm) (keep : Int) (w : World) (h : DM B w g S M) (hch : ∀ c ∈ S.ch, c.frm.length ≤ 1000 ∧ c.tow.length ≤ 1000 ∧ (c.tow ≠ [] → ∃ f, c.f = some f)) (hn : S.la.length ≤ 1000000000 ∧ S.ch.length ≤ 1000000000) :
    Calls Tryz.prog 30 #[.pointer (some ⟨g, 0, none⟩), .int .i64 keep] w fun e w' => ∃ b, e = .returned (.map (some b)) ∧ MpA w' (some b) (Dk.lvN S keep) ∧ w.heap.size ≤ b ∧ Below w.heap.size w w' := by
  have H0 : Hid (∀ W, Below w.heap.size w W → DM B W g S M) := fun W hW => h.kept hW
  have HCH : Hid ((∀ c ∈ S.ch, c.frm.length ≤ 1000 ∧ c.tow.length ≤ 1000 ∧ (c.tow ≠ [] → ∃ f, c.f = some f)) ∧ S.la.length ≤ 1000000000 ∧ S.ch.length ≤ 1000000000) := ⟨hch, hn⟩
  obtain ⟨va, vp, hvc, hv1, hv2⟩ := Mg.row_shape h.ch
  have HVC : Hid (M.vc = .slice va S.ch.length vp) := hvc
  obtain ⟨kn, hkn⟩ : ∃ kn, kn = Dk.lvK S keep := ⟨_, rfl⟩
  have hkw : Dk.wth keep (S.ch.length : Int) = (kn : Int) ∧ kn ≤ S.ch.length := by
    rw [hkn]
    exact Dk.wth_nat keep _
  have HKN : Hid (kn = Dk.lvK S keep ∧ kn ≤ S.ch.length) := ⟨hkn, hkw.2⟩
  have HCW : Hid (∀ W, Calls Tryz.prog 46 #[.int .i64 keep, .int .i64 (S.ch.length : Int)] W fun e w' => e = .returned (.int .i64 (kn : Int)) ∧ w' = W) := fun W => by
    have h9 := dkwithin_any keep (S.ch.length : Int) W
    rw [hkw.1] at h9
    exact h9
  have hkc : ((kn : Int) ≤ (vp : Int)) = True := by simp; omega
  have hkl : kn ≤ 1000000000 := by omega
  unfold maxLen at hv2
  clear h hch hvc hkn hkw hn
  have b1 := up0 w (.map #[] 0)
  have x3 := (H0.out _ b1).box.cell 3 _ rfl
  have HCP : Hid (∀ W, W = w.alloc (.map #[] 0) → Calls Tryz.prog 45 #[.map (some w.heap.size), .map M.ml] W fun e w' => e = .returned (.tuple #[]) ∧ MpA w' (some w.heap.size) S.la ∧ W.grownBy w' (some w.heap.size)) := fun W e => by
    subst e
    exact dkcopy_any _ _ _ _ (World.ownsMap_made w _ _ _) (H0.out _ b1).la (fun e => by have := (H0.out w (Below.refl _ _)).la.lt _ e; omega) HCH.out.2.1
  clear b1
  go_enter Tryz.func30, Tryz.ntmps30
  go_wp2_with fail
  obtain ⟨W1, hW1⟩ : ∃ W, W = w.alloc (.map #[] 0) := ⟨_, rfl⟩
  have HB1 : Hid (Below w.heap.size w W1) := by rw [hW1]; exact up0 _ _
  rw [← hW1]
  refine (HCP.out W1 hW1).mono ?_
  rintro e W2 ⟨rfl, m2, g2⟩
  obtain ⟨mb, hmb⟩ : ∃ mb, mb = w.heap.size := ⟨_, rfl⟩
  rw [← hmb] at m2 g2 ⊢
  have H2 : Hid (MpA W2 (some mb) S.la ∧ Below w.heap.size w W2 ∧ w.heap.size ≤ mb) := ⟨m2, HB1.out.grown g2 HB1.out.size fun k e => by have := Option.some.inj e; omega, by omega⟩
  clear m2 g2 hW1 HCP x3 hmb HB1
  go_upto_region 3 with fail
  have b2z := andThen H2.out.2.1 (drew_bel W2)
  have m2z := H2.out.1.kept (drew_bel W2)
  obtain ⟨Wz, hWz⟩ : ∃ W, W = W2.drew := ⟨_, rfl⟩
  rw [← hWz] at b2z m2z
  have HS : Hid (∀ W, Below w.heap.size w W → W.cell? ⟨g, 4, none⟩ = some (.slice va S.ch.length vp)) := fun W hW => by
    have h9 := (H0.out W hW).box.cell 4 _ rfl
    rw [← HVC.out]
    exact h9
  have hS0 := HS.out Wz b2z
  have HZ : Hid (MpA Wz (some mb) S.la ∧ Below w.heap.size w Wz) := ⟨m2z, b2z⟩
  clear b2z m2z
  refine wp_region_held_drew (S := fun W : World => W.cell? ⟨g, 4, none⟩ = some (.slice va S.ch.length vp)) (by kernel_rfl) (by rw [← hWz]; exact hS0) (fun _ => ?_)
  rw [← hWz]
  clear hWz
  refine zqk 0 rfl hS0 ?_
  simp only [Act.put, zq1, zq2, zq3, zq4, zq5]
  refine zqk 1 rfl hS0 ?_
  simp only [Act.put, zq1, zq2, zq3, zq4, zq5, zq6]
  refine zqk 2 rfl hS0 ?_
  simp only [Act.put, zq1, zq2, zq3, zq4, zq5, zq6]
  refine zqk 3 rfl hS0 ?_
  simp only [Act.put, zq1, zq2, zq3, zq4, zq5, zq6]
  refine zqk 4 rfl hS0 ?_
  simp only [Act.put, zq1, zq2, zq3, zq4, zq5, zq6]
  refine zqk 5 rfl hS0 ?_
  simp only [Act.put, zq1, zq2, zq3, zq4, zq5, zq6]
  refine zqk 6 rfl hS0 ?_
  simp only [Act.put, zq1, zq2, zq3, zq4, zq5, zq6]
  refine zqk 7 rfl hS0 ?_
  simp only [Act.put, zq1, zq2, zq3, zq4, zq5, zq6]
  refine zqk 8 rfl hS0 ?_
  simp only [Act.put, zq1, zq2, zq3, zq4, zq5, zq6]
  refine zqk 9 rfl hS0 ?_
  simp only [Act.put, zq1, zq2, zq3, zq4, zq5, zq6]
  refine zqk 13 rfl hS0 ?_
  simp only [Act.put, zq1, zq2, zq3, zq4, zq5, zq6]
  refine zqr 10 rfl (fun K hK => ?_)
  refine st_withinW rfl 19 24 rfl rfl rfl (HCW.out Wz) ?_
  refine hK.out _ _ hS0 fun _ => ?_
  simp only [Act.put, zq1, zq2, zq3, zq4, zq5, zq6]
  clear hK K
  refine zqk 11 rfl hS0 ?_
  simp only [Act.put, zq1, zq2, zq3, zq4, zq5, zq6]
  refine zqk 12 rfl hS0 ?_
  simp only [Act.put, zq1, zq2, zq3, zq4, zq5, zq6]
  refine wpAnyH_done (by kernel_rfl) ?_ _
  clear hS0
  go_wp2_with fail
  go_loopw [28] (fun i wr => ∃ j : Nat, j ≤ kn ∧ i = .int .i64 (j : Int) ∧ MpA wr (some mb) (Dk.lvF (S.ch.take j) S.la) ∧ Below w.heap.size w wr) (fun i _ => kn - (intOf i).toNat)
  case atStart => exact ⟨0, Nat.zero_le _, rfl, HZ.out.1, HZ.out.2⟩
  case round =>
    clear HZ
    obtain ⟨j, hj, rfl, hmp, hbe⟩ := hrel
    have HM : Hid (MpA wr (some mb) (Dk.lvF (S.ch.take j) S.la) ∧ Below w.heap.size w wr) := ⟨hmp, hbe⟩
    clear hmp hbe
    by_cases hlt : j < kn
    · have hjc : j < S.ch.length := by have := HKN.out.2; omega
      obtain ⟨c, hc⟩ : ∃ c, c = S.ch[j] := ⟨_, rfl⟩
      have dW := H0.out wr HM.out.2
      have hrow := dW.ch
      rw [HVC.out] at hrow
      obtain ⟨gv, hgv⟩ : ∃ gv, va = some ⟨gv, 0, none⟩ := by
        rcases hrow.2 with ⟨e, e0⟩ | ⟨gn, c7, cur7, e, -⟩
        · omega
        · simp only [Value.slice.injEq] at e
          exact ⟨gn, e.1⟩
      subst hgv
      obtain ⟨f0, f1, f2⟩ := flatC_at S.ch j hjc
      have y0 := World.ownsRow.cellAt hrow (j * 3) (by omega)
      have y1 := World.ownsRow.cellAt hrow (j * 3 + 1) (by omega)
      have y2 := World.ownsRow.cellAt hrow (j * 3 + 2) (by omega)
      rw [f0, ← hc] at y0
      rw [f1, ← hc] at y1
      rw [f2, ← hc] at y2
      have HC : Hid (c ∈ S.ch ∧ S.ch.take (j + 1) = S.ch.take j ++ [c]) := ⟨by rw [hc]; exact List.getElem_mem hjc, by rw [hc]; exact List.take_succ_eq_append_getElem hjc⟩
      clear hc f0 f1 f2 hrow dW
      obtain ⟨cf, ct, co⟩ := c
      simp only [enS] at y0 y1 y2
      cases co with
      | none =>
        simp only [fpo] at y2
        have HDO : Hid (∀ W, W = wr.alloc (.cells #[.string ⟨cf.toArray⟩, .string ⟨ct.toArray⟩, .pointer none] 86) → Calls Tryz.prog 47 #[.agg #[.string ⟨cf.toArray⟩, .string ⟨ct.toArray⟩, .pointer none], .map (some mb)] W fun e w' => e = .returned (.tuple #[]) ∧ MpA w' (some mb) (Dk.lvF (S.ch.take (j + 1)) S.la) ∧ Below w.heap.size w w') := fun W e => by
          have bw : Below wr.heap.size wr W := by rw [e]; exact up0 _ _
          have k9 := HCH.out.1 _ HC.out.1
          have ll := Dk.lvF_len (S.ch.take j) S.la
          rw [List.length_take] at ll
          have hd := dkdo_any ⟨cf.toArray⟩ ⟨ct.toArray⟩ none (some mb) _ W (HM.out.1.kept bw) (sz_of k9.1) (sz_of k9.2.1) (fun e9 => ⟨⟨mb, rfl⟩, k9.2.2 (by simpa using e9), by have := HCH.out.2; unfold maxLen; omega⟩)
          refine hd.mono ?_
          rintro e w' ⟨rfl, m9, f9⟩
          refine ⟨rfl, ?_, ?_⟩
          · rw [HC.out.2, Dk.lvF_snoc]
            have e1 : (⟨cf.toArray⟩ : ByteArray).data.toList = cf := by simp
            have e2 : (⟨ct.toArray⟩ : ByteArray).data.toList = ct := by simp
            rw [e1, e2] at m9
            exact m9
          · exact (andThen HM.out.2 bw).trans (f9.below w.heap.size (Nat.le_trans HM.out.2.size bw.size) fun k e => by have h1 := Option.some.inj e; have h2 := H2.out.2.2; omega)
        go_wp2_with fail
        refine (HDO.out _ rfl).mono ?_
        rintro e w5 ⟨rfl, m5, b5⟩
        have H5 : Hid (MpA w5 (some mb) (Dk.lvF (S.ch.take (j + 1)) S.la) ∧ Below w.heap.size w w5) := ⟨m5, b5⟩
        clear m5 b5 HDO y0 y1 y2
        go_wp2_with fail
        go_roundw
        case rel => exact ⟨j + 1, by omega, by go_num, H5.out.1, H5.out.2⟩
        case measure => simp [intOf]; omega
      | some f =>
        simp only [fpo, fp] at y2
        have HDO : Hid (∀ W, W = wr.alloc (.cells #[.string ⟨cf.toArray⟩, .string ⟨ct.toArray⟩, .pointer (some ⟨f, 0, none⟩)] 86) → Calls Tryz.prog 47 #[.agg #[.string ⟨cf.toArray⟩, .string ⟨ct.toArray⟩, .pointer (some ⟨f, 0, none⟩)], .map (some mb)] W fun e w' => e = .returned (.tuple #[]) ∧ MpA w' (some mb) (Dk.lvF (S.ch.take (j + 1)) S.la) ∧ Below w.heap.size w w') := fun W e => by
          have bw : Below wr.heap.size wr W := by rw [e]; exact up0 _ _
          have k9 := HCH.out.1 _ HC.out.1
          have ll := Dk.lvF_len (S.ch.take j) S.la
          rw [List.length_take] at ll
          have hd := dkdo_any ⟨cf.toArray⟩ ⟨ct.toArray⟩ (some f) (some mb) _ W (HM.out.1.kept bw) (sz_of k9.1) (sz_of k9.2.1) (fun e9 => ⟨⟨mb, rfl⟩, k9.2.2 (by simpa using e9), by have := HCH.out.2; unfold maxLen; omega⟩)
          refine hd.mono ?_
          rintro e w' ⟨rfl, m9, f9⟩
          refine ⟨rfl, ?_, ?_⟩
          · rw [HC.out.2, Dk.lvF_snoc]
            have e1 : (⟨cf.toArray⟩ : ByteArray).data.toList = cf := by simp
            have e2 : (⟨ct.toArray⟩ : ByteArray).data.toList = ct := by simp
            rw [e1, e2] at m9
            exact m9
          · exact (andThen HM.out.2 bw).trans (f9.below w.heap.size (Nat.le_trans HM.out.2.size bw.size) fun k e => by have h1 := Option.some.inj e; have h2 := H2.out.2.2; omega)
        go_wp2_with fail
        refine (HDO.out _ rfl).mono ?_
        rintro e w5 ⟨rfl, m5, b5⟩
        have H5 : Hid (MpA w5 (some mb) (Dk.lvF (S.ch.take (j + 1)) S.la) ∧ Below w.heap.size w w5) := ⟨m5, b5⟩
        clear m5 b5 HDO y0 y1 y2
        go_wp2_with fail
        go_roundw
        case rel => exact ⟨j + 1, by omega, by go_num, H5.out.1, H5.out.2⟩
        case measure => simp [intOf]; omega
    · have HE : Hid (Dk.lvF (S.ch.take j) S.la = Dk.lvN S keep) := by
        have e : j = kn := by omega
        rw [e, HKN.out.1]
        exact rfl
      go_wp2_with fail
      go_returns
      rw [← HE.out]
      exact ⟨_, rfl, HM.out.1, H2.out.2.2, HM.out.2⟩
end Go.Proofs.YtppabcihbpbfpaaGreatDoor

/-
  Package disk: Crash.
-/
namespace Go.Proofs.YtppabcihbpbfpaaGreatDoor
open Go Go.RowKit Go.ChangeShapes
open Wb

/-- a list of cuts -/
def CtS (w : World) (v : Value) (cs : List (Int × Int)) : Prop := ∃ a c, v = .slice a cs.length c ∧ cs.length ≤ c ∧ c ≤ maxLen ∧ (cs ≠ [] → ∃ b off, a = some ⟨b, off, none⟩ ∧ ∀ j (h : j < cs.length), w.cell? ⟨b, off + j * 2, none⟩ = some (.int .i64 cs[j].1) ∧ w.cell? ⟨b, off + j * 2 + 1, none⟩ = some (.int .i64 cs[j].2))
theorem CtS.kept {w w' : World} {v : Value} {cs : List (Int × Int)} (h : CtS w v cs) (hb : Below w.heap.size w w') : CtS w' v cs := by
  obtain ⟨a, c, e, h1, h2, h3⟩ := h
  refine ⟨a, c, e, h1, h2, fun hne => ?_⟩
  obtain ⟨b, off, e2, hc⟩ := h3 hne
  refine ⟨b, off, e2, fun j hj => ?_⟩
  obtain ⟨c0, c1⟩ := hc j hj
  exact ⟨(hb.cell (p := ⟨b, _, none⟩) (World.block_lt_of_cell? _ _ c0)).trans c0, (hb.cell (p := ⟨b, _, none⟩) (World.block_lt_of_cell? _ _ c1)).trans c1⟩
namespace Dk
/-- what a crash leaves of these files -/
def crL (l : Nm) (fo : Nat → Fl) (cs : List (Int × Int)) : List (List UInt8 × List Nat) := l.mapIdx fun k p => (p.1, lv (fo p.2) (cs.getD k (0, 0)))
def crash (S : DS) (keep : Int) (cs : List (Int × Int)) : List (List UInt8 × List Nat) := crL (lvN S keep) S.fo cs
end Dk
set_option maxRecDepth 100000 in
set_option maxHeartbeats 8000000 in
theorem dkcrash_any (B g : Nat) (S : Dk.DS) (M : Mm) (keep : Int) (cv : Value) (cs : List (Int × Int)) (w : World) (h : DM B w g S M) (hcs : CtS w cv cs) (hch : ∀ c ∈ S.ch, c.frm.length ≤ 1000 ∧ c.tow.length ≤ 1000 ∧ (c.tow ≠ [] → ∃ f, c.f = some f)) (hn : S.la.length + S.ch.length ≤ 1000000000) (hlv : ∀ p ∈ Dk.lvN S keep, p.2 ∈ S.ids ∧ p.1.length ≤ 1000) (hln : ∀ f ∈ S.ids, (S.fo f).syn ≤ (S.fo f).data.length ∧ (S.fo f).data.length ≤ 1000000000) :
    Calls Tryz.prog 11 #[.pointer (some ⟨g, 0, none⟩), .int .i64 keep, cv] w fun e w' => ∃ v, e = .returned v ∧ Fls (w.heap.size ≤ ·) w' v (Dk.crash S keep cs) ∧ Below w.heap.size w w' := by
  have H0 : Hid (∀ W, Below w.heap.size w W → DM B W g S M) := fun W hW => h.kept hW
  have HLE : Hid (Calls Tryz.prog 30 #[.pointer (some ⟨g, 0, none⟩), .int .i64 keep] w fun e w' => ∃ b, e = .returned (.map (some b)) ∧ MpA w' (some b) (Dk.lvN S keep) ∧ w.heap.size ≤ b ∧ Below w.heap.size w w') := dkleave_any B g S M keep w h hch ⟨by omega, by omega⟩
  have hLl : (Dk.lvN S keep).length ≤ 1000000000 := by
    have h9 := Dk.lvF_len (S.ch.take (Dk.lvK S keep)) S.la
    rw [List.length_take] at h9
    show (Dk.lvF _ _).length ≤ _
    omega
  have HLV : Hid ((∀ p ∈ Dk.lvN S keep, p.2 ∈ S.ids ∧ p.1.length ≤ 1000) ∧ ∀ f ∈ S.ids, (S.fo f).syn ≤ (S.fo f).data.length ∧ (S.fo f).data.length ≤ 1000000000) := ⟨hlv, hln⟩
  have HCS : Hid (CtS w cv cs) := hcs
  obtain ⟨ca, cc, hce, hc1, hc2, -⟩ := hcs
  subst hce
  unfold Dk.crash
  generalize Dk.lvN S keep = L at HLE hLl HLV ⊢
  unfold maxLen at hc2
  clear h hch hn hlv hln
  go_enter Tryz.func11, Tryz.ntmps11
  go_wp2_with fail
  refine HLE.out.mono ?_
  rintro e W0 ⟨mb, rfl, m0, hmb, b0⟩
  have HRS : Hid (Calls Tryz.prog 31 #[.map (some mb)] W0 fun e w' => ∃ v, e = .returned v ∧ w'.ownsRow W0.heap.size 9 1 v L.length (L.map fun p => enS p.1) ∧ Below W0.heap.size W0 w') := dkrising_any (some mb) L W0 m0 hLl
  have HM0 : Hid (MpA W0 (some mb) L ∧ Below w.heap.size w W0) := ⟨m0, b0⟩
  clear m0 hmb b0 HLE
  go_wp2_with fail
  refine HRS.out.mono ?_
  rintro e W1 ⟨nv, rfl, r1, b1⟩
  obtain ⟨na, nc, hnv, hn1, hn2⟩ := Mg.row_shape r1
  subst hnv
  have H1 : Hid (W1.ownsRow W0.heap.size 9 1 (.slice na L.length nc) L.length (L.map fun p => enS p.1) ∧ Below w.heap.size w W1 ∧ MpA W1 (some mb) L) := ⟨r1, andThen HM0.out.2 b1, HM0.out.1.kept b1⟩
  unfold maxLen at hn2
  clear r1 b1 HRS
  go_wp2_with fail
  go_loopw [8, 18] (fun o i wr => ∃ (k : Nat) (xs : List (List UInt8 × Value × List Nat)), k ≤ L.length ∧ i = .int .i64 (k : Int) ∧ FO W1.heap.size wr o xs ∧ (xs.map fun x => (x.1, x.2.2)) = (Dk.crL L S.fo cs).take k ∧ MpA wr (some mb) L ∧ Below W1.heap.size W1 wr) (fun _ i _ => L.length - (intOf i).toNat)
  case atStart => exact ⟨0, [], Nat.zero_le _, rfl, FO.nil _ _, rfl, H1.out.2.2, Below.refl _ _⟩
  case round =>
    obtain ⟨k, xs, hk, rfl, hfo, hxs, hmp, hb⟩ := hrel
    have HF : Hid (FO W1.heap.size wr u8 xs ∧ (xs.map fun x => (x.1, x.2.2)) = (Dk.crL L S.fo cs).take k ∧ MpA wr (some mb) L ∧ Below W1.heap.size W1 wr) := ⟨hfo, hxs, hmp, hb⟩
    have HBW : Hid (Below w.heap.size w wr) := andThen H1.out.2.1 hb
    clear hfo hxs hb hmp
    by_cases hlt : k < L.length
    · obtain ⟨p, hp⟩ : ∃ p, p = L[k] := ⟨_, rfl⟩
      have HPM : Hid (p ∈ L ∧ (Dk.crL L S.fo cs).take (k + 1) = (Dk.crL L S.fo cs).take k ++ [(p.1, Dk.lv (S.fo p.2) (cs.getD k (0, 0)))] ∧ L[k]? = some p) := by
        refine ⟨by rw [hp]; exact List.getElem_mem hlt, ?_, by rw [hp]; exact List.getElem?_eq_getElem hlt⟩
        unfold Dk.crL
        rw [List.take_succ_eq_append_getElem (by rw [List.length_mapIdx]; exact hlt), List.getElem_mapIdx, hp]
      clear hp
      obtain ⟨nm, f⟩ := p
      have HFI : Hid (f ∈ S.ids ∧ nm.length ≤ 1000 ∧ (S.fo f).syn ≤ (S.fo f).data.length ∧ (S.fo f).data.length ≤ 1000000000) := ⟨(HLV.out.1 _ HPM.out.1).1, (HLV.out.1 _ HPM.out.1).2, HLV.out.2 f (HLV.out.1 _ HPM.out.1).1⟩
      obtain ⟨gn, hgn⟩ : ∃ gn, na = some ⟨gn, 0, none⟩ := by
        rcases H1.out.1.2 with ⟨e, e0⟩ | ⟨gn, c7, cur7, e, -⟩
        · omega
        · simp only [Value.slice.injEq] at e
          exact ⟨gn, e.1⟩
      subst hgn
      have y0 : wr.cell? ⟨gn, k, none⟩ = some (.string ⟨nm.toArray⟩) := by
        have e := World.ownsRow.cellAt (Mg.row_kept H1.out.1 HF.out.2.2.2) k (by omega)
        rw [e, List.getElem?_map, HPM.out.2.2]
        rfl
      have egt : Dk.get L (⟨nm.toArray⟩ : ByteArray).data.toList = some f := by
        have e : (⟨nm.toArray⟩ : ByteArray).data.toList = nm := by simp
        rw [e]
        exact Dk.mem_get HF.out.2.2.1.1 HPM.out.1
      by_cases hkc : k < cs.length
      · obtain ⟨cb, co, hca, hcell⟩ := (HCS.out.kept (andThen HBW.out (up0 wr (.cells #[.int .i64 0, .int .i64 0] 71))))
        obtain ⟨-, -, hcell⟩ := hcell
        obtain ⟨gb, go, e9, hcc⟩ := hcell (List.ne_nil_of_length_pos (by omega))
        simp only [Value.slice.injEq] at hca
        obtain ⟨rfl, -, -⟩ := hca
        subst e9
        obtain ⟨r0, r1⟩ := hcc k hkc
        obtain ⟨cp, hcp⟩ : ∃ cp, cp = cs[k] := ⟨_, rfl⟩
        rw [← hcp] at r0 r1
        obtain ⟨ck, cz⟩ := cp
        have HCT : Hid (cs.getD k (0, 0) = (ck, cz)) := by
          show cs.getD k (0, 0) = _
          rw [hcp]
          simp [List.getD, List.getElem?_eq_getElem hkc]
        simp only at r0 r1
        clear hcp hcc hcell
        have bq := up0 wr (.cells #[.int .i64 ck, .int .i64 cz] 71)
        obtain ⟨Wq, hWq⟩ : ∃ W, W = wr.alloc (.cells #[.int .i64 ck, .int .i64 cz] 71) := ⟨_, rfl⟩
        have Lq := lb_new wr [.int .i64 ck, .int .i64 cz] 71
        have hLq : LB Wq wr.heap.size 71 [.int .i64 ck, .int .i64 cz] := by rw [hWq]; exact Lq
        rw [← hWq] at bq
        have HBQ : Hid (Below w.heap.size w Wq) := andThen HBW.out bq
        have yl := (HF.out.2.2.1.kept bq).look ⟨nm.toArray⟩ (sz_of HFI.out.2.1)
        rw [egt] at yl
        unfold fpo fp at yl
        have q0 := hLq.cell 0 _ rfl
        have q1 := hLq.cell 1 _ rfl
        have dW := H0.out Wq HBQ.out
        have HCL : Hid (Calls Tryz.prog 32 #[.pointer (some ⟨f, 0, none⟩), .agg #[.int .i64 ck, .int .i64 cz]] Wq fun e w' => ∃ v, e = .returned v ∧ Own Wq.heap.size w' v (Dk.lv (S.fo f) (ck, cz)) ∧ Below Wq.heap.size Wq w') := dkfleave_any B f (M.dv f) (S.fo f) _ _ Wq (dW.fb f HFI.out.1) (dW.fd f HFI.out.1) HFI.out.2.2.1 HFI.out.2.2.2
        have HBX : Hid (Below wr.heap.size wr Wq) := bq
        clear dW Lq hLq bq egt
        go_upto_region 9 with fail
        rw [← hWq]
        clear hWq
        go_wp2_with fail
        refine HCL.out.mono ?_
        rintro e W2 ⟨v2, rfl, o2, b2⟩
        obtain ⟨a2, k2, c2, hv2⟩ : ∃ (x : Option Addr) (y z : Nat), v2 = .slice x y z := by
          obtain ⟨x, z, e, -⟩ := Mg.row_shape o2.row
          exact ⟨x, _, z, e⟩
        subst hv2
        have b3 := up0 W2 (.cells #[.string ⟨nm.toArray⟩, .slice a2 k2 c2] 34)
        have L3 : LB (W2.alloc (.cells #[.string ⟨nm.toArray⟩, .slice a2 k2 c2] 34)) W2.heap.size 34 (enF (nm, .slice a2 k2 c2, Dk.lv (S.fo f) (ck, cz))) := lb_new W2 [.string ⟨nm.toArray⟩, .slice a2 k2 c2] 34
        have f3 := ((HF.out.1.kept HBX.out).kept b2).kept b3
        have xl : xs.length ≤ 1000000000 := by
          have h9 := congrArg List.length HF.out.2.1
          rw [List.length_map, List.length_take] at h9
          omega
        have bs3 : Below wr.heap.size wr (W2.alloc (.cells #[.string ⟨nm.toArray⟩, .slice a2 k2 c2] 34)) := andThen (andThen HBX.out b2) b3
        obtain ⟨o4, W4, hr4, f4, b4⟩ := f3.app 25 (nm, .slice a2 k2 c2, Dk.lv (S.fo f) (ck, cz)) ((o2.mono (Nat.le_trans HF.out.2.2.2.size HBX.out.size)).kept b3) W2.heap.size 1 L3 xl (Nat.le_trans HF.out.2.2.2.size bs3.size)
        have H4 : Hid (FO W1.heap.size W4 o4 (xs ++ [(nm, .slice a2 k2 c2, Dk.lv (S.fo f) (ck, cz))]) ∧ (xs ++ [(nm, Value.slice a2 k2 c2, Dk.lv (S.fo f) (ck, cz))]).map (fun x => (x.1, x.2.2)) = (Dk.crL L S.fo cs).take (k + 1) ∧ MpA W4 (some mb) L ∧ Below W1.heap.size W1 W4) := by
          have b14 : Below W1.heap.size W1 W4 := (andThen HF.out.2.2.2 bs3).trans b4
          refine ⟨f4, ?_, H1.out.2.2.kept b14, b14⟩
          rw [List.map_append, HF.out.2.1, HPM.out.2.1, HCT.out]
          rfl
        clear L3 f3 xl f4 b4 b3 o2 b2 HCL yl y0 q0 q1 bs3
        go_wp2_with (at_builtin; refine wpList_appRun rfl (.tmp 31) (.tmp 39) 25 rfl rfl rfl hr4 ?_)
        clear hr4
        go_wp2_with fail
        go_roundw
        case rel => exact ⟨k + 1, _, by omega, by go_num, H4.out.1, H4.out.2.1, H4.out.2.2.1, H4.out.2.2.2⟩
        case measure => simp [intOf]; omega
      · have HCT : Hid (cs.getD k (0, 0) = (0, 0)) := by
          show cs.getD k (0, 0) = _
          simp [List.getD, List.getElem?_eq_none (show cs.length ≤ k by omega)]
        have bq := up0 wr (.cells #[.int .i64 0, .int .i64 0] 71)
        obtain ⟨Wq, hWq⟩ : ∃ W, W = wr.alloc (.cells #[.int .i64 0, .int .i64 0] 71) := ⟨_, rfl⟩
        have Lq := lb_new wr [.int .i64 0, .int .i64 0] 71
        have hLq : LB Wq wr.heap.size 71 [.int .i64 0, .int .i64 0] := by rw [hWq]; exact Lq
        rw [← hWq] at bq
        have HBQ : Hid (Below w.heap.size w Wq) := andThen HBW.out bq
        have yl := (HF.out.2.2.1.kept bq).look ⟨nm.toArray⟩ (sz_of HFI.out.2.1)
        rw [egt] at yl
        unfold fpo fp at yl
        have q0 := hLq.cell 0 _ rfl
        have q1 := hLq.cell 1 _ rfl
        have dW := H0.out Wq HBQ.out
        have HCL : Hid (Calls Tryz.prog 32 #[.pointer (some ⟨f, 0, none⟩), .agg #[.int .i64 0, .int .i64 0]] Wq fun e w' => ∃ v, e = .returned v ∧ Own Wq.heap.size w' v (Dk.lv (S.fo f) (0, 0)) ∧ Below Wq.heap.size Wq w') := dkfleave_any B f (M.dv f) (S.fo f) _ _ Wq (dW.fb f HFI.out.1) (dW.fd f HFI.out.1) HFI.out.2.2.1 HFI.out.2.2.2
        have HBX : Hid (Below wr.heap.size wr Wq) := bq
        clear dW Lq hLq bq egt
        go_upto_region 9 with fail
        rw [← hWq]
        clear hWq
        go_wp2_with fail
        refine HCL.out.mono ?_
        rintro e W2 ⟨v2, rfl, o2, b2⟩
        obtain ⟨a2, k2, c2, hv2⟩ : ∃ (x : Option Addr) (y z : Nat), v2 = .slice x y z := by
          obtain ⟨x, z, e, -⟩ := Mg.row_shape o2.row
          exact ⟨x, _, z, e⟩
        subst hv2
        have b3 := up0 W2 (.cells #[.string ⟨nm.toArray⟩, .slice a2 k2 c2] 34)
        have L3 : LB (W2.alloc (.cells #[.string ⟨nm.toArray⟩, .slice a2 k2 c2] 34)) W2.heap.size 34 (enF (nm, .slice a2 k2 c2, Dk.lv (S.fo f) (0, 0))) := lb_new W2 [.string ⟨nm.toArray⟩, .slice a2 k2 c2] 34
        have f3 := ((HF.out.1.kept HBX.out).kept b2).kept b3
        have xl : xs.length ≤ 1000000000 := by
          have h9 := congrArg List.length HF.out.2.1
          rw [List.length_map, List.length_take] at h9
          omega
        have bs3 : Below wr.heap.size wr (W2.alloc (.cells #[.string ⟨nm.toArray⟩, .slice a2 k2 c2] 34)) := andThen (andThen HBX.out b2) b3
        obtain ⟨o4, W4, hr4, f4, b4⟩ := f3.app 25 (nm, .slice a2 k2 c2, Dk.lv (S.fo f) (0, 0)) ((o2.mono (Nat.le_trans HF.out.2.2.2.size HBX.out.size)).kept b3) W2.heap.size 1 L3 xl (Nat.le_trans HF.out.2.2.2.size bs3.size)
        have H4 : Hid (FO W1.heap.size W4 o4 (xs ++ [(nm, .slice a2 k2 c2, Dk.lv (S.fo f) (0, 0))]) ∧ (xs ++ [(nm, Value.slice a2 k2 c2, Dk.lv (S.fo f) (0, 0))]).map (fun x => (x.1, x.2.2)) = (Dk.crL L S.fo cs).take (k + 1) ∧ MpA W4 (some mb) L ∧ Below W1.heap.size W1 W4) := by
          have b14 : Below W1.heap.size W1 W4 := (andThen HF.out.2.2.2 bs3).trans b4
          refine ⟨f4, ?_, H1.out.2.2.kept b14, b14⟩
          rw [List.map_append, HF.out.2.1, HPM.out.2.1, HCT.out]
          rfl
        clear L3 f3 xl f4 b4 b3 o2 b2 HCL yl y0 q0 q1 bs3
        go_wp2_with (at_builtin; refine wpList_appRun rfl (.tmp 31) (.tmp 39) 25 rfl rfl rfl hr4 ?_)
        clear hr4
        go_wp2_with fail
        go_roundw
        case rel => exact ⟨k + 1, _, by omega, by go_num, H4.out.1, H4.out.2.1, H4.out.2.2.1, H4.out.2.2.2⟩
        case measure => simp [intOf]; omega
    · have HE : Hid ((xs.map fun x => (x.1, x.2.2)) = Dk.crL L S.fo cs) := by
        have h9 := HF.out.2.1
        rw [List.take_of_length_le (by unfold Dk.crL; rw [List.length_mapIdx]; omega)] at h9
        exact h9
      go_wp2_with fail
      go_returns
      refine ⟨_, rfl, ?_, HBW.out⟩
      rw [← HE.out]
      exact HF.out.1.fls.mono fun q hq => Nat.le_trans H1.out.2.1.size hq
end Go.Proofs.YtppabcihbpbfpaaGreatDoor
