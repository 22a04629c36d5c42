/-
  PlanAllOrNothing: tallied of what is done, undone.
-/
import Derived.Test.YtodcakplmoajiaaDoorHPm
import Derived.Test.YtodcakplmoajiaaDoorHRB
namespace Go.Proofs.YtodcakplmoajiaaDoor
open Go Go.RowKit
open Wb

theorem roI_typed {w : World} {B : Nat} {v : Value} {l : List Int} (h : Fld.RoI B w v l) (b : Nat) (e : v.ownBlock = some b) : ∃ cs, w.heap[b]? = some (.cells cs 3 (0, 0)) ∧ B ≤ b := by
  rcases h.2 with ⟨e3, _⟩ | ⟨g', cap, cur, e3, hb, hg', _⟩
  · rw [e3] at e; simp [Value.ownBlock] at e
  · rw [e3] at e; simp [Value.ownBlock] at e; subst e; exact ⟨cur, hg', hb⟩
theorem roI_keptB {w w' : World} {B : Nat} {v : Value} {l : List Int} (h : Fld.RoI B w v l) (hb : ∀ g, v.ownBlock = some g → w'.heap[g]? = w.heap[g]?) : Fld.RoI B w' v l := ⟨h.1, by
  rcases h.2 with h1 | ⟨g, cap, cur, e, h1, hg, rest⟩
  · exact .inl h1
  · exact .inr ⟨g, cap, cur, e, h1, (hb g (by rw [e]; rfl)).trans hg, rest⟩⟩
theorem roI_oth {w w' : World} {B g : Nat} {t : TypeId} {C : List Value} {v : Value} {l : List Int} (h : Fld.RoI B w v l) (L : LB w g t C) (ht : t ≠ 3) (ho : Oth g w w') : Fld.RoI B w' v l := roI_keptB h fun b e => ho b (by
  rintro rfl
  obtain ⟨cs, h4, _⟩ := roI_typed h b e
  rw [L] at h4
  simp at h4
  exact ht h4.2) (World.ownsRow.lt h b e).2
theorem lb_grown {w w' : World} {B g : Nat} {t : TypeId} {C : List Value} {v : Value} {l : List Int} (h : LB w g t C) (hr : Fld.RoI B w v l) (ht : t ≠ 3) (hg : w.grownBy w' v.ownBlock) : LB w' g t C := (hg.block g h.lt (fun e => by
  obtain ⟨cs, h4, _⟩ := roI_typed hr g e.symm
  rw [h] at h4
  simp at h4
  exact ht h4.2)).trans h
theorem grown_of {w w1 w2 : World} {r : Option Nat} (h : Below w.heap.size w w1) (k : w1.grownBy w2 r) : w.grownBy w2 r := ⟨k.os.trans h.os, k.tape.trans h.tape, k.output.trans h.output, Nat.le_trans h.size k.size, fun i hi hr => (k.block i (Nat.lt_of_lt_of_le hi h.size) hr).trans (h.block i hi)⟩
theorem grown_on {w w1 w2 : World} {r : Option Nat} (h : w.grownBy w1 r) (k : Below w.heap.size w1 w2) : w.grownBy w2 r := ⟨k.os.trans h.os, k.tape.trans h.tape, k.output.trans h.output, Nat.le_trans h.size k.size, fun i hi hr => (k.block i hi).trans (h.block i hi hr)⟩
set_option maxRecDepth 100000 in
set_option maxHeartbeats 4000000 in
theorem ptal_3 (B : Nat) (N : List Int) (x y : Value) (L : List Int) (n : Int) (X : Nums) (nm : ByteArray) (d : Value) (w : World) (hN : N.length = 96) (hr : Fld.RoI B w x L) (hB : B ≤ w.heap.size) (hl : L.length ≤ 1000) (ho : y.oneCell' = true) (hs : 0 ≤ X.p ∧ X.p ≤ 31) (hk : X.k = 3) (hn : N[32 + X.p.toNat]? = some n) (hn0 : 0 ≤ n ∧ n < 4611686018427387904) : Calls Tryd.prog 12 #[.agg (tll N x y).toArray, rv X nm d] w fun e w' => ∃ x', e = .returned (.agg (tll (N.set (32 + X.p.toNat) (n + 1)) x' y).toArray) ∧ Fld.RoI B w' x' (L ++ [X.p]) ∧ w.grownBy w' x.ownBlock := by
  obtain ⟨st, hst⟩ : ∃ st : Nat, X.p = (st : Int) := ⟨X.p.toNat, by omega⟩
  have hs2 : st < 32 := by omega
  rw [hst] at hn ⊢
  rw [Int.toNat_natCast] at hn ⊢
  obtain ⟨ao, cap, ex⟩ := Fld.RoI.shape hr
  subst ex
  have hN2 : (N.set (32 + st) (n + 1)).length = 96 := by simpa using hN
  obtain ⟨T, hT⟩ : ∃ T, T = tll N (.slice ao L.length cap) y := ⟨_, rfl⟩
  obtain ⟨T2, hT2⟩ : ∃ T2, T2 = tll (N.set (32 + st) (n + 1)) (.slice ao L.length cap) y := ⟨_, rfl⟩
  have HT : Hid (T.length = 98 ∧ T[32 + st]? = some (.int .i64 n)) := by
    rw [hT]; exact ⟨tll_len hN, tll_at hn⟩
  have HT2 : Hid (T.set (32 + st) (.int .i64 (n + 1)) = T2 ∧ T2[96]? = some (.slice ao L.length cap)) := by
    rw [hT2, hT]; exact ⟨tll_set (by omega), (tll_did hN2).1⟩
  have HT3 : Hid (∀ x' : Value, ∃ T3, T3 = tll (N.set (32 + st) (n + 1)) x' y ∧ T3.length = 98 ∧ (Tryd.prog.info? 48).map (·.size) = some T3.length ∧ (x'.oneCell' = true → ∀ v ∈ T3, v.oneCell' = true) ∧ T2.set 96 x' = T3) := fun x' => by
    rw [hT2]
    exact ⟨_, rfl, tll_len hN2, by rw [tll_len hN2]; exact infoTal, fun h => tll_one h ho, (tll_setx hN2).1⟩
  rw [← hT]
  clear hT hT2 hN hn
  obtain ⟨E, hD, hL, hE⟩ := rv_letter X nm d
  rw [hD]
  have HE : Hid (E = rcE X nm d) := hE
  clear hD hL hE
  obtain ⟨ZT, hZT⟩ : ∃ ZT, ZT = ztl := ⟨_, rfl⟩
  have HZT : Hid (ZT = ztl) := hZT
  have HZL : Hid (ZT.length = 98) := by show _ = _; rw [hZT]; rfl
  clear hZT
  go_enter Tryd.func12, Tryd.ntmps12
  go_upto_region 1 with (first | (refine wpList_alloc_T HZT.out rfl rfl ?_) | fail)
  rw [heap_one, heap_one]
  obtain ⟨W, eW⟩ : ∃ W, W = ((w.alloc (.cells T.toArray 48)).alloc (.cells E.toArray 50)).alloc (.cells ZT.toArray 48) := ⟨_, rfl⟩
  rw [← eW]
  have H0 : Hid (LB W w.heap.size 48 T ∧ LB W (w.heap.size + 1) 50 E ∧ LB W (w.heap.size + 1 + 1) 48 ZT ∧ Below w.heap.size w W) := by
    rw [eW]
    exact lb_new3 w T E ZT 48 50 48
  clear eW
  generalize hg3 : w.heap.size + 1 + 1 = g3 at *
  have HG : Hid (w.heap.size ≤ g3 ∧ w.heap.size ≠ g3) := by constructor <;> omega
  clear hg3
  have r3 := H0.out.2.1.cell 3 (.int .i64 (st : Int)) (by rw [HE.out, ← hst]; rfl)
  have r1 := H0.out.2.1.cell 1 (.int .i64 3) (by rw [HE.out, ← hk]; rfl)
  have t0 := H0.out.1.cell (32 + st) _ HT.out.2
  have e0 : decide ((st : Int) < 0) = false := by simp
  have e1 : decide ((st : Int) > 31) = false := by simp; omega
  have f0 := H0.out.1.free (32 + st)
  obtain ⟨Y, eY⟩ : ∃ Y, Y = W.setCell ⟨w.heap.size, 32 + st, none⟩ (.int .i64 (n + 1)) := ⟨_, rfl⟩
  have H1 : Hid (LB Y w.heap.size 48 T2 ∧ LB Y g3 48 ZT ∧ Below w.heap.size w Y ∧ LB Y (w.heap.size + 1) 50 E) := by
    rw [eY, ← HT2.out.1]
    exact ⟨H0.out.1.set (32 + st) _, H0.out.2.2.1.other _ _ (Ne.symm HG.out.2), H0.out.2.2.2.setCell (Nat.le_refl _) _, H0.out.2.1.other _ _ (by simp)⟩
  go_upto_region 8 with fail
  rw [← eY]
  have q3 := H1.out.2.2.2.cell 3 (.int .i64 (st : Int)) (by rw [HE.out, ← hst]; rfl)
  have q9 := H1.out.1.cell 96 _ HT2.out.2
  have hys := H1.out.2.2.1.size
  clear r1 r3 t0 f0 eY hs hk hst H0
  have HR5 : Hid (∀ o, Fld.RoI B (Y.alloc o) (.slice ao L.length cap) L) := fun o => hr.kept (up H1.out.2.2.1 o)
  have hin := Fld.info3
  go_wp2_with (at_builtin; refine Fld.wpList_app_int _ rfl (.tmp 37) (.tmp 40) 46 rfl B hin Tryd.underlying46 _ L rfl (HR5.out _) _ (st : Int) rfl (World.cell?_alloc_new Y _ _ 0) hl (by simp; omega) ?_)
  intro x' w2 hx hg
  have HX : Hid (LB w2 w.heap.size 48 T2 ∧ LB w2 g3 48 ZT ∧ Fld.RoI B w2 x' (L ++ [(st : Int)]) ∧ w.grownBy w2 (Value.ownBlock (.slice ao L.length cap))) :=
    ⟨lb_grown (H1.out.1.kept (up0 _ _)) (HR5.out _) (by decide) hg, lb_grown (H1.out.2.1.kept (up0 _ _)) (HR5.out _) (by decide) hg, hx, grown_of (up H1.out.2.2.1 _) hg⟩
  clear hg q3 q9 HR5 H1
  obtain ⟨a', c', ex⟩ := Fld.RoI.shape hx
  clear hx
  obtain ⟨m, hm⟩ : ∃ m, (L ++ [(st : Int)]).length = m := ⟨_, rfl⟩
  rw [hm] at ex
  clear hm
  subst ex
  obtain ⟨T3, hT3, l3, i3, o3, s3⟩ := HT3.out (.slice a' m c')
  have HT4 : Hid (T3.length = 98 ∧ (Tryd.prog.info? 48).map (·.size) = some T3.length ∧ (∀ v ∈ T3, v.oneCell' = true)) := ⟨l3, i3, o3 rfl⟩
  have c9 := HX.out.1.cell 96 _ HT2.out.2
  have f9 := HX.out.1.free 96
  obtain ⟨V, eV⟩ : ∃ V, V = w2.setCell ⟨w.heap.size, 96, none⟩ (.slice a' m c') := ⟨_, rfl⟩
  have H2 : Hid (LB V w.heap.size 48 T3 ∧ LB V g3 48 ZT ∧ Fld.RoI B V (.slice a' m c') (L ++ [(st : Int)]) ∧ w.grownBy V (Value.ownBlock (.slice ao L.length cap))) := by
    rw [eV, ← s3]
    exact ⟨HX.out.1.set 96 _, HX.out.2.1.other _ _ (Ne.symm HG.out.2), roI_oth HX.out.2.2.1 HX.out.1 (by decide) (fun b hb _ => set_other w2 _ _ b hb), grown_on HX.out.2.2.2 ((Below.refl w.heap.size w2).setCell (show w.heap.size ≤ (⟨w.heap.size, 96, none⟩ : Addr).block from Nat.le_refl _) _)⟩
  clear HX l3 i3 o3 s3 HT3
  have HT5 : Hid (V.there g3 0 T3.toArray.size) := there_of H2.out.2.1 (by simp [HT4.out.1, HZL.out])
  have H5 : Hid (∀ U, U = V.setCells g3 0 T3 → LB U g3 48 T3 ∧ Fld.RoI B U (.slice a' m c') (L ++ [(st : Int)]) ∧ w.grownBy U (Value.ownBlock (.slice ao L.length cap))) := fun U hU => by
    rw [hU]
    exact ⟨H2.out.2.1.sets T3 (by rw [HT4.out.1, HZL.out]), roI_oth H2.out.2.2.1 H2.out.2.1 (by decide) (Oth.sets _ _ _ _), grown_on H2.out.2.2.2 (below_cells HG.out.1 _ 0 _ (Below.refl _ _))⟩
  go_wp2_with (first | (rw [← eV]; (clear c9 f9); (refine wpList_load_mid rfl 48 _ rfl w.heap.size 0 rfl T3 _ H2.out.1.range Tryd.underlying48 rfl HT4.out.2.1 ?_)) | (refine wpList_store_mid rfl 48 (.tmp 4) (.tmp 60) rfl g3 0 T3.toArray rfl rfl HT5.out (by simpa using HT4.out.2.1) (all_oneCell_toArray HT4.out.2.2) ?_; (rw [List.toList_toArray])) | fail)
  refine bodyPost_ret (results_cell_mid rfl _ (V.setCells g3 0 T3) g3 T3 _ rfl (H5.out _ rfl).1.range Tryd.underlying48 rfl HT4.out.2.1) rfl ?_
  exact ⟨_, by rw [hT3], (H5.out _ rfl).2⟩

set_option maxRecDepth 100000 in
set_option maxHeartbeats 4000000 in
theorem ptal_6 (B : Nat) (N : List Int) (x y : Value) (L : List Int) (n : Int) (X : Nums) (nm : ByteArray) (d : Value) (w : World) (hN : N.length = 96) (hr : Fld.RoI B w y L) (hB : B ≤ w.heap.size) (hl : L.length ≤ 1000) (ho : x.oneCell' = true) (hs : 0 ≤ X.p ∧ X.p ≤ 31) (hk : X.k = 6) (hn : N[64 + X.p.toNat]? = some n) (hn0 : 0 ≤ n ∧ n < 4611686018427387904) : Calls Tryd.prog 12 #[.agg (tll N x y).toArray, rv X nm d] w fun e w' => ∃ x', e = .returned (.agg (tll (N.set (64 + X.p.toNat) (n + 1)) x x').toArray) ∧ Fld.RoI B w' x' (L ++ [X.p]) ∧ w.grownBy w' y.ownBlock := by
  obtain ⟨st, hst⟩ : ∃ st : Nat, X.p = (st : Int) := ⟨X.p.toNat, by omega⟩
  have hs2 : st < 32 := by omega
  rw [hst] at hn ⊢
  rw [Int.toNat_natCast] at hn ⊢
  obtain ⟨ao, cap, ex⟩ := Fld.RoI.shape hr
  subst ex
  have hN2 : (N.set (64 + st) (n + 1)).length = 96 := by simpa using hN
  obtain ⟨T, hT⟩ : ∃ T, T = tll N x (.slice ao L.length cap) := ⟨_, rfl⟩
  obtain ⟨T2, hT2⟩ : ∃ T2, T2 = tll (N.set (64 + st) (n + 1)) x (.slice ao L.length cap) := ⟨_, rfl⟩
  have HT : Hid (T.length = 98 ∧ T[64 + st]? = some (.int .i64 n)) := by
    rw [hT]; exact ⟨tll_len hN, tll_at hn⟩
  have HT2 : Hid (T.set (64 + st) (.int .i64 (n + 1)) = T2 ∧ T2[97]? = some (.slice ao L.length cap)) := by
    rw [hT2, hT]; exact ⟨tll_set (by omega), (tll_did hN2).2⟩
  have HT3 : Hid (∀ x' : Value, ∃ T3, T3 = tll (N.set (64 + st) (n + 1)) x x' ∧ T3.length = 98 ∧ (Tryd.prog.info? 48).map (·.size) = some T3.length ∧ (x'.oneCell' = true → ∀ v ∈ T3, v.oneCell' = true) ∧ T2.set 97 x' = T3) := fun x' => by
    rw [hT2]
    exact ⟨_, rfl, tll_len hN2, by rw [tll_len hN2]; exact infoTal, fun h => tll_one ho h, (tll_setx hN2).2⟩
  rw [← hT]
  clear hT hT2 hN hn
  obtain ⟨E, hD, hL, hE⟩ := rv_letter X nm d
  rw [hD]
  have HE : Hid (E = rcE X nm d) := hE
  clear hD hL hE
  obtain ⟨ZT, hZT⟩ : ∃ ZT, ZT = ztl := ⟨_, rfl⟩
  have HZT : Hid (ZT = ztl) := hZT
  have HZL : Hid (ZT.length = 98) := by show _ = _; rw [hZT]; rfl
  clear hZT
  go_enter Tryd.func12, Tryd.ntmps12
  go_upto_region 1 with (first | (refine wpList_alloc_T HZT.out rfl rfl ?_) | fail)
  rw [heap_one, heap_one]
  obtain ⟨W, eW⟩ : ∃ W, W = ((w.alloc (.cells T.toArray 48)).alloc (.cells E.toArray 50)).alloc (.cells ZT.toArray 48) := ⟨_, rfl⟩
  rw [← eW]
  have H0 : Hid (LB W w.heap.size 48 T ∧ LB W (w.heap.size + 1) 50 E ∧ LB W (w.heap.size + 1 + 1) 48 ZT ∧ Below w.heap.size w W) := by
    rw [eW]
    exact lb_new3 w T E ZT 48 50 48
  clear eW
  generalize hg3 : w.heap.size + 1 + 1 = g3 at *
  have HG : Hid (w.heap.size ≤ g3 ∧ w.heap.size ≠ g3) := by constructor <;> omega
  clear hg3
  have r3 := H0.out.2.1.cell 3 (.int .i64 (st : Int)) (by rw [HE.out, ← hst]; rfl)
  have r1 := H0.out.2.1.cell 1 (.int .i64 6) (by rw [HE.out, ← hk]; rfl)
  have t0 := H0.out.1.cell (64 + st) _ HT.out.2
  have e0 : decide ((st : Int) < 0) = false := by simp
  have e1 : decide ((st : Int) > 31) = false := by simp; omega
  have f0 := H0.out.1.free (64 + st)
  obtain ⟨Y, eY⟩ : ∃ Y, Y = W.setCell ⟨w.heap.size, 64 + st, none⟩ (.int .i64 (n + 1)) := ⟨_, rfl⟩
  have H1 : Hid (LB Y w.heap.size 48 T2 ∧ LB Y g3 48 ZT ∧ Below w.heap.size w Y ∧ LB Y (w.heap.size + 1) 50 E) := by
    rw [eY, ← HT2.out.1]
    exact ⟨H0.out.1.set (64 + st) _, H0.out.2.2.1.other _ _ (Ne.symm HG.out.2), H0.out.2.2.2.setCell (Nat.le_refl _) _, H0.out.2.1.other _ _ (by simp)⟩
  go_upto_region 11 with fail
  rw [← eY]
  have q3 := H1.out.2.2.2.cell 3 (.int .i64 (st : Int)) (by rw [HE.out, ← hst]; rfl)
  have q9 := H1.out.1.cell 97 _ HT2.out.2
  have hys := H1.out.2.2.1.size
  clear r1 r3 t0 f0 eY hs hk hst H0
  have HR5 : Hid (∀ o, Fld.RoI B (Y.alloc o) (.slice ao L.length cap) L) := fun o => hr.kept (up H1.out.2.2.1 o)
  have hin := Fld.info3
  go_wp2_with (at_builtin; refine Fld.wpList_app_int _ rfl (.tmp 54) (.tmp 57) 46 rfl B hin Tryd.underlying46 _ L rfl (HR5.out _) _ (st : Int) rfl (World.cell?_alloc_new Y _ _ 0) hl (by simp; omega) ?_)
  intro x' w2 hx hg
  have HX : Hid (LB w2 w.heap.size 48 T2 ∧ LB w2 g3 48 ZT ∧ Fld.RoI B w2 x' (L ++ [(st : Int)]) ∧ w.grownBy w2 (Value.ownBlock (.slice ao L.length cap))) :=
    ⟨lb_grown (H1.out.1.kept (up0 _ _)) (HR5.out _) (by decide) hg, lb_grown (H1.out.2.1.kept (up0 _ _)) (HR5.out _) (by decide) hg, hx, grown_of (up H1.out.2.2.1 _) hg⟩
  clear hg q3 q9 HR5 H1
  obtain ⟨a', c', ex⟩ := Fld.RoI.shape hx
  clear hx
  obtain ⟨m, hm⟩ : ∃ m, (L ++ [(st : Int)]).length = m := ⟨_, rfl⟩
  rw [hm] at ex
  clear hm
  subst ex
  obtain ⟨T3, hT3, l3, i3, o3, s3⟩ := HT3.out (.slice a' m c')
  have HT4 : Hid (T3.length = 98 ∧ (Tryd.prog.info? 48).map (·.size) = some T3.length ∧ (∀ v ∈ T3, v.oneCell' = true)) := ⟨l3, i3, o3 rfl⟩
  have c9 := HX.out.1.cell 97 _ HT2.out.2
  have f9 := HX.out.1.free 97
  obtain ⟨V, eV⟩ : ∃ V, V = w2.setCell ⟨w.heap.size, 97, none⟩ (.slice a' m c') := ⟨_, rfl⟩
  have H2 : Hid (LB V w.heap.size 48 T3 ∧ LB V g3 48 ZT ∧ Fld.RoI B V (.slice a' m c') (L ++ [(st : Int)]) ∧ w.grownBy V (Value.ownBlock (.slice ao L.length cap))) := by
    rw [eV, ← s3]
    exact ⟨HX.out.1.set 97 _, HX.out.2.1.other _ _ (Ne.symm HG.out.2), roI_oth HX.out.2.2.1 HX.out.1 (by decide) (fun b hb _ => set_other w2 _ _ b hb), grown_on HX.out.2.2.2 ((Below.refl w.heap.size w2).setCell (show w.heap.size ≤ (⟨w.heap.size, 97, none⟩ : Addr).block from Nat.le_refl _) _)⟩
  clear HX l3 i3 o3 s3 HT3
  have HT5 : Hid (V.there g3 0 T3.toArray.size) := there_of H2.out.2.1 (by simp [HT4.out.1, HZL.out])
  have H5 : Hid (∀ U, U = V.setCells g3 0 T3 → LB U g3 48 T3 ∧ Fld.RoI B U (.slice a' m c') (L ++ [(st : Int)]) ∧ w.grownBy U (Value.ownBlock (.slice ao L.length cap))) := fun U hU => by
    rw [hU]
    exact ⟨H2.out.2.1.sets T3 (by rw [HT4.out.1, HZL.out]), roI_oth H2.out.2.2.1 H2.out.2.1 (by decide) (Oth.sets _ _ _ _), grown_on H2.out.2.2.2 (below_cells HG.out.1 _ 0 _ (Below.refl _ _))⟩
  go_wp2_with (first | (rw [← eV]; (clear c9 f9); (refine wpList_load_mid rfl 48 _ rfl w.heap.size 0 rfl T3 _ H2.out.1.range Tryd.underlying48 rfl HT4.out.2.1 ?_)) | (refine wpList_store_mid rfl 48 (.tmp 4) (.tmp 60) rfl g3 0 T3.toArray rfl rfl HT5.out (by simpa using HT4.out.2.1) (all_oneCell_toArray HT4.out.2.2) ?_; (rw [List.toList_toArray])) | fail)
  refine bodyPost_ret (results_cell_mid rfl _ (V.setCells g3 0 T3) g3 T3 _ rfl (H5.out _ rfl).1.range Tryd.underlying48 rfl HT4.out.2.1) rfl ?_
  exact ⟨_, by rw [hT3], (H5.out _ rfl).2⟩
end Go.Proofs.YtodcakplmoajiaaDoor
