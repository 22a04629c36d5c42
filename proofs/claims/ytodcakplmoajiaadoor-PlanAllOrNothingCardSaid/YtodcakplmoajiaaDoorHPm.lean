/-
  PlanAllOrNothing: tallied.
-/
import Derived.Test.YtodcakplmoajiaaDoorHX0
namespace Go.Proofs.YtodcakplmoajiaaDoor
open Go Go.RowKit
open Wb

/-- a tally's cells: how often each step was begun, done, undone; what was done, undone -/
def tll (N : List Int) (x y : Value) : List Value := N.map (fun n => Value.int .i64 n) ++ [x, y]
def ztl : List Value := tll (List.replicate 96 0) (.slice none 0 0) (.slice none 0 0)
theorem infoTal : (Tryd.prog.info? 48).map (·.size) = some 98 := by kernel_rfl
set_option maxRecDepth 100000 in
theorem wpList_alloc_T {Z : List Value} (hZ : Z = ztl) {ops : Array Oper} {rest : List Oper} {op : Oper} {a : Act} {w : World} {Q : Exit → Act → World → Prop} (hgd : op.guard = none) (ho : op.op = .alloc 48)
    (h : wpList Tryd.prog ops Q rest (a.put op.dst (.pointer (some ⟨w.heap.size, 0, none⟩))) (w.alloc (.cells Z.toArray 48))) : wpList Tryd.prog ops Q (op :: rest) a w := by
  subst hZ
  refine wpList_plain hgd fun K hK => ?_
  obtain ⟨dst, op', ty, pos, after, guard⟩ := op
  simp only at ho hgd
  subst ho hgd
  have hK2 := hK _ _ h
  clear hK h
  simp only [ztl, tll, List.replicate, List.map_cons, List.map_nil, List.cons_append, List.nil_append] at hK2
  go_simp
  exact hK2
theorem tll_one {N : List Int} {x y : Value} (hx : x.oneCell' = true) (hy : y.oneCell' = true) : ∀ v ∈ tll N x y, v.oneCell' = true := by
  intro v hv
  unfold tll at hv
  simp only [List.mem_append, List.mem_map, List.mem_cons, List.not_mem_nil, or_false] at hv
  rcases hv with ⟨n, _, rfl⟩ | rfl | rfl
  · rfl
  · exact hx
  · exact hy
theorem tll_len {N : List Int} {x y : Value} (h : N.length = 96) : (tll N x y).length = 98 := by simp [tll, h]
theorem tll_at {N : List Int} {x y : Value} {j : Nat} {n : Int} (h : N[j]? = some n) : (tll N x y)[j]? = some (.int .i64 n) := by
  unfold tll
  have hj : j < N.length := by
    rcases Nat.lt_or_ge j N.length with h1 | h1
    · exact h1
    · rw [List.getElem?_eq_none h1] at h; cases h
  rw [List.getElem?_append_left (by simpa using hj)]
  simp [h]
theorem tll_set {N : List Int} {x y : Value} {j : Nat} {n : Int} (h : j < N.length) : (tll N x y).set j (.int .i64 n) = tll (N.set j n) x y := by
  unfold tll
  rw [List.set_append_left _ _ (by simpa using h), List.map_set]
theorem tll_did {N : List Int} {x y : Value} (h : N.length = 96) : (tll N x y)[96]? = some x ∧ (tll N x y)[97]? = some y := by
  unfold tll
  constructor
  · rw [List.getElem?_append_right (by simp [h])]; simp [h]
  · rw [List.getElem?_append_right (by simp [h])]; simp [h]
theorem tll_setx {N : List Int} {x y z : Value} (h : N.length = 96) : (tll N x y).set 96 z = tll N z y ∧ (tll N x y).set 97 z = tll N x z := by
  unfold tll
  constructor
  · rw [List.set_append_right _ _ (by simp [h])]; simp [h]
  · rw [List.set_append_right _ _ (by simp [h])]; simp [h]
set_option maxRecDepth 100000 in
set_option maxHeartbeats 4000000 in
theorem ptal_o (N : List Int) (x y : Value) (X : Nums) (nm : ByteArray) (d : Value) (w : World) (hN : N.length = 96) (hx : x.oneCell' = true) (hy : y.oneCell' = true) (hs : 0 ≤ X.p ∧ X.p ≤ 31) (hk : X.k ≠ 2 ∧ X.k ≠ 3 ∧ X.k ≠ 6) : Calls Tryd.prog 12 #[.agg (tll N x y).toArray, rv X nm d] w fun e w' => e = .returned (.agg (tll N x y).toArray) ∧ Below w.heap.size w w' := by
  obtain ⟨T, hT⟩ : ∃ T, T = tll N x y := ⟨_, rfl⟩
  have HT : Hid (T.length = 98 ∧ (Tryd.prog.info? 48).map (·.size) = some T.length ∧ (∀ v ∈ T, v.oneCell' = true)) := by
    rw [hT]; exact ⟨tll_len hN, by rw [tll_len hN]; exact infoTal, tll_one hx hy⟩
  rw [← hT]
  clear hT hN hx hy
  obtain ⟨E, hD, hL, hE⟩ := rv_letter X nm d
  rw [hD]
  have HE : Hid (E = rcE X nm d) := hE
  clear hD hL hE
  obtain ⟨ZT, hZT⟩ : ∃ ZT, ZT = ztl := ⟨_, rfl⟩
  have HZT : Hid (ZT = ztl) := hZT
  have HZL : Hid (ZT.length = 98) := by show _ = _; rw [hZT]; rfl
  clear hZT
  have e0 : decide (X.p < 0) = false := by simp; omega
  have e1 : decide (X.p > 31) = false := by simp; omega
  have e2 : (X.k == 2) = false := by rw [beq_eq_false_iff_ne]; exact hk.1
  have e3 : (X.k == 3) = false := by rw [beq_eq_false_iff_ne]; exact hk.2.1
  have e6 : (X.k == 6) = false := by rw [beq_eq_false_iff_ne]; exact hk.2.2
  clear hs hk
  go_enter Tryd.func12, Tryd.ntmps12
  go_upto_region 1 with (first | (refine wpList_alloc_T HZT.out rfl rfl ?_) | fail)
  rw [heap_one, heap_one]
  obtain ⟨W, eW⟩ : ∃ W, W = ((w.alloc (.cells T.toArray 48)).alloc (.cells E.toArray 50)).alloc (.cells ZT.toArray 48) := ⟨_, rfl⟩
  rw [← eW]
  have H0 : Hid (LB W w.heap.size 48 T ∧ LB W (w.heap.size + 1) 50 E ∧ LB W (w.heap.size + 1 + 1) 48 ZT ∧ Below w.heap.size w W) := by
    rw [eW]
    exact lb_new3 w T E ZT 48 50 48
  clear eW
  generalize hg3 : w.heap.size + 1 + 1 = g3 at *
  have HG : Hid (w.heap.size ≤ g3 ∧ w.heap.size ≠ g3) := by constructor <;> omega
  clear hg3
  have r3 := H0.out.2.1.cell 3 (.int .i64 X.p) (by rw [HE.out]; rfl)
  have r1 := H0.out.2.1.cell 1 (.int .i64 X.k) (by rw [HE.out]; rfl)
  have HT5 : Hid (W.there g3 0 T.toArray.size) := there_of H0.out.2.2.1 (by simp [HT.out.1, HZL.out])
  have H5 : Hid (∀ Y, Y = W.setCells g3 0 T → LB Y g3 48 T ∧ Below w.heap.size w Y) := fun Y hY => by
    rw [hY]
    exact ⟨H0.out.2.2.1.sets T (by rw [HT.out.1, HZL.out]), below_cells HG.out.1 _ 0 _ H0.out.2.2.2⟩
  go_wp2_with (first | (refine wpList_load_mid rfl 48 _ rfl w.heap.size 0 rfl T _ H0.out.1.range Tryd.underlying48 rfl HT.out.2.1 ?_) | (refine wpList_store_mid rfl 48 (.tmp 4) (.tmp 60) rfl g3 0 T.toArray rfl rfl HT5.out (by simpa using HT.out.2.1) (all_oneCell_toArray HT.out.2.2) ?_; (rw [List.toList_toArray])) | fail)
  refine bodyPost_ret (results_cell_mid rfl _ (W.setCells g3 0 T) g3 T _ rfl (H5.out _ rfl).1.range Tryd.underlying48 rfl HT.out.2.1) rfl ?_
  exact ⟨rfl, (H5.out _ rfl).2⟩
set_option maxRecDepth 100000 in
set_option maxHeartbeats 4000000 in
theorem ptal_2 (N : List Int) (x y : Value) (n : Int) (X : Nums) (nm : ByteArray) (d : Value) (w : World) (hN : N.length = 96) (hx : x.oneCell' = true) (hy : y.oneCell' = true) (hs : 0 ≤ X.p ∧ X.p ≤ 31) (hk : X.k = 2) (hn : N[X.p.toNat]? = some n) (hn0 : 0 ≤ n ∧ n < 4611686018427387904) : Calls Tryd.prog 12 #[.agg (tll N x y).toArray, rv X nm d] w fun e w' => e = .returned (.agg (tll (N.set X.p.toNat (n + 1)) x y).toArray) ∧ Below w.heap.size w w' := by
  obtain ⟨st, hst⟩ : ∃ st : Nat, X.p = (st : Int) := ⟨X.p.toNat, by omega⟩
  have hs2 : st < 32 := by omega
  rw [hst] at hn ⊢
  rw [Int.toNat_natCast] at hn ⊢
  obtain ⟨T, hT⟩ : ∃ T, T = tll N x y := ⟨_, rfl⟩
  obtain ⟨T2, hT2⟩ : ∃ T2, T2 = tll (N.set st (n + 1)) x y := ⟨_, rfl⟩
  have HT : Hid (T.length = 98 ∧ (Tryd.prog.info? 48).map (·.size) = some T.length ∧ (∀ v ∈ T, v.oneCell' = true) ∧ T[st]? = some (.int .i64 n)) := by
    rw [hT]; exact ⟨tll_len hN, by rw [tll_len hN]; exact infoTal, tll_one hx hy, tll_at hn⟩
  have hN2 : (N.set st (n + 1)).length = 96 := by simpa using hN
  have HT2 : Hid (T2.length = 98 ∧ (Tryd.prog.info? 48).map (·.size) = some T2.length ∧ (∀ v ∈ T2, v.oneCell' = true) ∧ T.set st (.int .i64 (n + 1)) = T2) := by
    rw [hT2, hT]; exact ⟨tll_len hN2, by rw [tll_len hN2]; exact infoTal, tll_one hx hy, tll_set (by omega)⟩
  rw [← hT, ← hT2]
  clear hT hT2 hN2 hN hx hy hn
  obtain ⟨E, hD, hL, hE⟩ := rv_letter X nm d
  rw [hD]
  have HE : Hid (E = rcE X nm d) := hE
  clear hD hL hE
  obtain ⟨ZT, hZT⟩ : ∃ ZT, ZT = ztl := ⟨_, rfl⟩
  have HZT : Hid (ZT = ztl) := hZT
  have HZL : Hid (ZT.length = 98) := by show _ = _; rw [hZT]; rfl
  clear hZT
  go_enter Tryd.func12, Tryd.ntmps12
  go_upto_region 1 with (first | (refine wpList_alloc_T HZT.out rfl rfl ?_) | fail)
  rw [heap_one, heap_one]
  obtain ⟨W, eW⟩ : ∃ W, W = ((w.alloc (.cells T.toArray 48)).alloc (.cells E.toArray 50)).alloc (.cells ZT.toArray 48) := ⟨_, rfl⟩
  rw [← eW]
  have H0 : Hid (LB W w.heap.size 48 T ∧ LB W (w.heap.size + 1) 50 E ∧ LB W (w.heap.size + 1 + 1) 48 ZT ∧ Below w.heap.size w W) := by
    rw [eW]
    exact lb_new3 w T E ZT 48 50 48
  clear eW
  generalize hg3 : w.heap.size + 1 + 1 = g3 at *
  have HG : Hid (w.heap.size ≤ g3 ∧ w.heap.size ≠ g3) := by constructor <;> omega
  clear hg3
  have r3 := H0.out.2.1.cell 3 (.int .i64 (st : Int)) (by rw [HE.out, ← hst]; rfl)
  have r1 := H0.out.2.1.cell 1 (.int .i64 2) (by rw [HE.out, ← hk]; rfl)
  have t0 := H0.out.1.cell st _ HT.out.2.2.2
  have e0 : decide ((st : Int) < 0) = false := by simp
  have e1 : decide ((st : Int) > 31) = false := by simp; omega
  clear hs hk hst
  have f0 := H0.out.1.free st
  obtain ⟨Y, eY⟩ : ∃ Y, Y = W.setCell ⟨w.heap.size, st, none⟩ (.int .i64 (n + 1)) := ⟨_, rfl⟩
  have H1 : Hid (LB Y w.heap.size 48 T2 ∧ LB Y g3 48 ZT ∧ Below w.heap.size w Y) := by
    rw [eY, ← HT2.out.2.2.2]
    exact ⟨H0.out.1.set st _, H0.out.2.2.1.other _ _ (Ne.symm HG.out.2), H0.out.2.2.2.setCell (Nat.le_refl _) _⟩
  have HT5 : Hid (Y.there g3 0 T2.toArray.size) := there_of H1.out.2.1 (by simp [HT2.out.1, HZL.out])
  have H5 : Hid (∀ U, U = Y.setCells g3 0 T2 → LB U g3 48 T2 ∧ Below w.heap.size w U) := fun U hU => by
    rw [hU]
    exact ⟨H1.out.2.1.sets T2 (by rw [HT2.out.1, HZL.out]), below_cells HG.out.1 _ 0 _ H1.out.2.2⟩
  go_wp2_with (first | (rw [← eY]; (clear r1 r3 t0 f0); (refine wpList_load_mid rfl 48 _ rfl w.heap.size 0 rfl T2 _ H1.out.1.range Tryd.underlying48 rfl HT2.out.2.1 ?_)) | (refine wpList_store_mid rfl 48 (.tmp 4) (.tmp 60) rfl g3 0 T2.toArray rfl rfl HT5.out (by simpa using HT2.out.2.1) (all_oneCell_toArray HT2.out.2.2.1) ?_; (rw [List.toList_toArray])) | fail)
  refine bodyPost_ret (results_cell_mid rfl _ (Y.setCells g3 0 T2) g3 T2 _ rfl (H5.out _ rfl).1.range Tryd.underlying48 rfl HT2.out.2.1) rfl ?_
  exact ⟨rfl, (H5.out _ rfl).2⟩
end Go.Proofs.YtodcakplmoajiaaDoor
