import Derived.Test.YtdnackjakfiffaaGreatDoorQS8
import Derived.Test.YtdnackjakfiffaaGreatDoorQS5
/-
  Package saga: deed, Apply.
-/
namespace Go.Proofs.YtdnackjakfiffaaGreatDoor
open Go Go.RowKit
open Wb

set_option maxRecDepth 100000 in
theorem deed_2 (w : World) : Calls Tryz.prog 90 #[.int .i64 2] w fun e w' => e = .returned (.func (.func 107) #[] #[]) ∧ w = w' := by
  have hx : (Instr.index 148 (.agg #[.nilFunc, .nilFunc, .func (.func 107) #[] #[], .func (.func 108) #[] #[], .func (.func 109) #[] #[], .func (.func 107) #[] #[], .func (.func 110) #[] #[], .func (.func 111) #[] #[]]) (.int .i64 2)).run Tryz.prog w = .ok (.func (.func 107) #[] #[]) w := rfl
  go_enter Tryz.func90, Tryz.ntmps90
  go_wp2
  go_ret
  exact ⟨rfl, rfl⟩
set_option maxRecDepth 100000 in
theorem deed_3 (w : World) : Calls Tryz.prog 90 #[.int .i64 3] w fun e w' => e = .returned (.func (.func 108) #[] #[]) ∧ w = w' := by
  have hx : (Instr.index 148 (.agg #[.nilFunc, .nilFunc, .func (.func 107) #[] #[], .func (.func 108) #[] #[], .func (.func 109) #[] #[], .func (.func 107) #[] #[], .func (.func 110) #[] #[], .func (.func 111) #[] #[]]) (.int .i64 3)).run Tryz.prog w = .ok (.func (.func 108) #[] #[]) w := rfl
  go_enter Tryz.func90, Tryz.ntmps90
  go_wp2
  go_ret
  exact ⟨rfl, rfl⟩
set_option maxRecDepth 100000 in
theorem deed_4 (w : World) : Calls Tryz.prog 90 #[.int .i64 4] w fun e w' => e = .returned (.func (.func 109) #[] #[]) ∧ w = w' := by
  have hx : (Instr.index 148 (.agg #[.nilFunc, .nilFunc, .func (.func 107) #[] #[], .func (.func 108) #[] #[], .func (.func 109) #[] #[], .func (.func 107) #[] #[], .func (.func 110) #[] #[], .func (.func 111) #[] #[]]) (.int .i64 4)).run Tryz.prog w = .ok (.func (.func 109) #[] #[]) w := rfl
  go_enter Tryz.func90, Tryz.ntmps90
  go_wp2
  go_ret
  exact ⟨rfl, rfl⟩
set_option maxRecDepth 100000 in
theorem deed_5 (w : World) : Calls Tryz.prog 90 #[.int .i64 5] w fun e w' => e = .returned (.func (.func 107) #[] #[]) ∧ w = w' := by
  have hx : (Instr.index 148 (.agg #[.nilFunc, .nilFunc, .func (.func 107) #[] #[], .func (.func 108) #[] #[], .func (.func 109) #[] #[], .func (.func 107) #[] #[], .func (.func 110) #[] #[], .func (.func 111) #[] #[]]) (.int .i64 5)).run Tryz.prog w = .ok (.func (.func 107) #[] #[]) w := rfl
  go_enter Tryz.func90, Tryz.ntmps90
  go_wp2
  go_ret
  exact ⟨rfl, rfl⟩
set_option maxRecDepth 100000 in
theorem deed_6 (w : World) : Calls Tryz.prog 90 #[.int .i64 6] w fun e w' => e = .returned (.func (.func 110) #[] #[]) ∧ w = w' := by
  have hx : (Instr.index 148 (.agg #[.nilFunc, .nilFunc, .func (.func 107) #[] #[], .func (.func 108) #[] #[], .func (.func 109) #[] #[], .func (.func 107) #[] #[], .func (.func 110) #[] #[], .func (.func 111) #[] #[]]) (.int .i64 6)).run Tryz.prog w = .ok (.func (.func 110) #[] #[]) w := rfl
  go_enter Tryz.func90, Tryz.ntmps90
  go_wp2
  go_ret
  exact ⟨rfl, rfl⟩
set_option maxRecDepth 100000 in
theorem deed_7 (w : World) : Calls Tryz.prog 90 #[.int .i64 7] w fun e w' => e = .returned (.func (.func 111) #[] #[]) ∧ w = w' := by
  have hx : (Instr.index 148 (.agg #[.nilFunc, .nilFunc, .func (.func 107) #[] #[], .func (.func 108) #[] #[], .func (.func 109) #[] #[], .func (.func 107) #[] #[], .func (.func 110) #[] #[], .func (.func 111) #[] #[]]) (.int .i64 7)).run Tryz.prog w = .ok (.func (.func 111) #[] #[]) w := rfl
  go_enter Tryz.func90, Tryz.ntmps90
  go_wp2
  go_ret
  exact ⟨rfl, rfl⟩
def zrl : List Value := [.int .i64 0, .int .i64 0, .int .i64 0, .int .i64 0, .int .i64 0, .int .i64 0, .int .i64 0, .int .i64 0, .int .i64 0, .int .i64 0, .string ⟨#[]⟩, .slice none 0 0]
/-- wpList_build_Z, by a letter -/
theorem wpList_build_Z {Z : List Value} (hZ : Z = zcl) {ops : Array Oper} {rest : List Oper} {op : Oper} {a : Act} {w : World} {Q : Exit → Act → World → Prop} (hgd : op.guard = none) (ho : op.op = .build 43 #[])
    (h : wpList Tryz.prog ops Q rest (a.put op.dst (.agg Z.toArray)) (w)) : wpList Tryz.prog ops Q (op :: rest) a w := by
  subst hZ
  refine wpList_plain hgd fun K hK => ?_
  obtain ⟨dst, op', ty, pos, after, guard⟩ := op
  simp only at ho hgd
  subst ho hgd
  have hK2 := hK _ _ h
  clear hK h
  unfold zcl at hK2
  go_simp
  exact hK2
/-- wpList_alloc_Z, by a letter -/
theorem wpList_alloc_Z {Z : List Value} (hZ : Z = zcl) {ops : Array Oper} {rest : List Oper} {op : Oper} {a : Act} {w : World} {Q : Exit → Act → World → Prop} (hgd : op.guard = none) (ho : op.op = .alloc 43)
    (h : wpList Tryz.prog ops Q rest (a.put op.dst (.pointer (some ⟨w.heap.size, 0, none⟩))) (w.alloc (.cells Z.toArray 43))) : wpList Tryz.prog ops Q (op :: rest) a w := by
  subst hZ
  refine wpList_plain hgd fun K hK => ?_
  obtain ⟨dst, op', ty, pos, after, guard⟩ := op
  simp only at ho hgd
  subst ho hgd
  have hK2 := hK _ _ h
  clear hK h
  unfold zcl at hK2
  go_simp
  exact hK2
/-- wpList_alloc_C, by a letter -/
theorem wpList_alloc_C {Z : List Value} (hZ : Z = zcl) {ops : Array Oper} {rest : List Oper} {op : Oper} {a : Act} {w : World} {Q : Exit → Act → World → Prop} (hgd : op.guard = none) (ho : op.op = .alloc 126)
    (h : wpList Tryz.prog ops Q rest (a.put op.dst (.pointer (some ⟨w.heap.size, 0, none⟩))) (w.alloc (.cells Z.toArray 126))) : wpList Tryz.prog ops Q (op :: rest) a w := by
  subst hZ
  refine wpList_plain hgd fun K hK => ?_
  obtain ⟨dst, op', ty, pos, after, guard⟩ := op
  simp only at ho hgd
  subst ho hgd
  have hK2 := hK _ _ h
  clear hK h
  unfold zcl at hK2
  go_simp
  exact hK2
/-- wpList_alloc_R, by a letter -/
theorem wpList_alloc_R {Z : List Value} (hZ : Z = zrl) {ops : Array Oper} {rest : List Oper} {op : Oper} {a : Act} {w : World} {Q : Exit → Act → World → Prop} (hgd : op.guard = none) (ho : op.op = .alloc 32)
    (h : wpList Tryz.prog ops Q rest (a.put op.dst (.pointer (some ⟨w.heap.size, 0, none⟩))) (w.alloc (.cells Z.toArray 32))) : wpList Tryz.prog ops Q (op :: rest) a w := by
  subst hZ
  refine wpList_plain hgd fun K hK => ?_
  obtain ⟨dst, op', ty, pos, after, guard⟩ := op
  simp only at ho hgd
  subst ho hgd
  have hK2 := hK _ _ h
  clear hK h
  unfold zrl at hK2
  go_simp
  exact hK2
/-- three new blocks -/
theorem lb_new3 (w : World) (D E Z : List Value) (t t2 t3 : TypeId) : LB (((w.alloc (.cells D.toArray t)).alloc (.cells E.toArray t2)).alloc (.cells Z.toArray t3)) w.heap.size t D ∧ LB (((w.alloc (.cells D.toArray t)).alloc (.cells E.toArray t2)).alloc (.cells Z.toArray t3)) (w.heap.size + 1) t2 E ∧ LB (((w.alloc (.cells D.toArray t)).alloc (.cells E.toArray t2)).alloc (.cells Z.toArray t3)) (w.heap.size + 1 + 1) t3 Z ∧ Below w.heap.size w (((w.alloc (.cells D.toArray t)).alloc (.cells E.toArray t2)).alloc (.cells Z.toArray t3)) := by
  obtain ⟨a, b, c⟩ := lb_new2 w D E t t2
  refine ⟨a.kept (up0 _ _), b.kept (up0 _ _), ?_, up c _⟩
  have h := lb_new ((w.alloc (.cells D.toArray t)).alloc (.cells E.toArray t2)) Z t3
  rwa [heap_one, heap_one] at h
theorem there_of {w : World} {g : Nat} {t : TypeId} {Z : List Value} {n : Nat} (h : LB w g t Z) (e : n = Z.length) : w.there g 0 n := by rw [e]; exact h.there
/-- a saga and an error are answered -/
theorem infoCourse : (Tryz.prog.info? 126).map (·.size) = some 16 := by kernel_rfl
theorem size_set (w : World) (p : Addr) (v : Value) : (w.setCell p v).heap.size = w.heap.size := by simp [World.setCell]
theorem size_cells (w : World) (g : Nat) : ∀ (vs : List Value) (o : Nat), (w.setCells g o vs).heap.size = w.heap.size := by
  intro vs
  induction vs generalizing w with
  | nil => intro o; rfl
  | cons v r ih => intro o; show ((w.setCell ⟨g, o, none⟩ v).setCells g (o + 1) r).heap.size = _; rw [ih, size_set]
theorem sgOwn_kept {B : Nat} {w w' : World} {S : Sg} {h : SH} (k : SgOwn B w S h) (hb : Below w.heap.size w w') : SgOwn B w' S h := ⟨k.inp.kept hb, k.outs.kept hb, k.und.kept hb, k.fail.kept hb, k.apart⟩
theorem sgOwn_weak {B B2 : Nat} {w : World} {S : Sg} {h : SH} (k : SgOwn B2 w S h) (hB : B ≤ B2) : SgOwn B w S h := ⟨own_weak k.inp hB, k.outs.weak hB, k.und.weak hB, own_weak k.fail hB, k.apart⟩
/-- a new block is made and written -/
theorem sgOwn_fresh {B B2 : Nat} {w : World} {S : Sg} {h : SH} (k : SgOwn B2 w S h) (hB : B ≤ B2) (Z C : List Value) (t : TypeId) : SgOwn B ((w.alloc (.cells Z.toArray t)).setCells w.heap.size 0 C) S h := by
  have hb : ∀ b, b < w.heap.size → ((w.alloc (.cells Z.toArray t)).setCells w.heap.size 0 C).heap[b]? = w.heap[b]? := fun b hb => by rw [cells_other _ _ _ _ _ (Nat.ne_of_lt hb), heap_old _ _ _ hb]
  have k2 := sgOwn_weak k hB
  exact ⟨own_keptB k2.inp (fun b e => hb b (own_block k2.inp b e).2), k2.outs.keptB (fun b _ h2 => hb b h2), k2.und.keptB (fun b _ h2 => hb b h2), own_keptB k2.fail (fun b e => hb b (own_block k2.fail b e).2), k2.apart⟩
/-- a cell of the course is written -/
theorem sgOwn_set {B g : Nat} {w : World} {S : Sg} {h : SH} {C : List Value} (k : SgOwn B w S h) (L : LB w g 126 C) (j : Nat) (v : Value) : SgOwn B (w.setCell ⟨g, j, none⟩ v) S h := by
  have hp : ∀ {u : Value} {ls : List (List Nat)}, OwnP B w u ls → OwnP B (w.setCell ⟨g, j, none⟩ v) u ls := fun {u ls} hq => by
    have hng := ownp_ne_g hq L
    obtain ⟨vs, r1, r2, r3⟩ := hq
    exact ⟨vs, row_kept2 r1 (fun b e => set_other _ _ _ _ (fun e2 => hng (by rw [e]; exact congrArg some e2))), r2, fun i a b => own_keptB (r3 i a b) (fun c e => set_other _ _ _ _ (own_ne_g (r3 i a b) L c e))⟩
  exact ⟨own_keptB k.inp (fun b e => set_other _ _ _ _ (own_ne_g k.inp L b e)), hp k.outs, hp k.und, own_keptB k.fail (fun b e => set_other _ _ _ _ (own_ne_g k.fail L b e)), k.apart⟩
def ApPost (w : World) (a : Int × Sg) (e : Ending) (w' : World) : Prop := ∃ h', e = .returned (.tuple #[sv a.2 h', .int .i64 a.1]) ∧ SgO w.heap.size w' a.2 h' ∧ Below w.heap.size w w'
theorem SgO.weak {B B2 : Nat} {w : World} {S : Sg} {h : SH} (k : SgO B2 w S h) (hB : B ≤ B2) : SgO B w S h := ⟨own_weak k.inp hB, k.outs.weak hB, k.und.weak hB, own_weak k.fail hB⟩
theorem SgO.kept {B : Nat} {w w' : World} {S : Sg} {h : SH} (k : SgO B w S h) (hb : Below w.heap.size w w') : SgO B w' S h := ⟨k.inp.kept hb, k.outs.kept hb, k.und.kept hb, k.fail.kept hb⟩
theorem ownP_nil (B : Nat) (w : World) : OwnP B w (.slice none 0 0) [] := ⟨[], Row.nil _ _, rfl, fun _ h => absurd h (Nat.not_lt_zero _)⟩
theorem sgO_zero (B : Nat) (w : World) : SgO B w zSg ⟨none, 0, none, 0, none, 0, none, 0⟩ := ⟨Own.nil _ _, ownP_nil _ _, ownP_nil _ _, Own.nil _ _⟩
theorem light_of (S : Sg) (h : chkS S = true) : Light S := by
  obtain ⟨⟨_, _, b3, _, _, _, _, b8, b9, b10, b11⟩, hG⟩ := (chkS_iff S).1 h
  have hn : S.outs.length ≤ 32 ∧ S.und.length ≤ 32 := by
    rcases hG with ⟨_, _, _, _, c4, c5, c6, c7, _⟩ | ⟨_, _, _, _, c4, c5, c6, _⟩ | ⟨_, c1, c2, c3, c4, c5, c6, _⟩ | ⟨_, c0, c1, c2, c3, c4, c5, c6, _⟩
    · rw [c4]; simp; omega
    · rw [c4]; simp; omega
    · omega
    · omega
  refine ⟨by omega, by omega, by omega, by omega, fun l hl => ?_, fun l hl => ?_⟩
  · have := List.all_eq_true.1 b10 l hl; simp at this; omega
  · have := List.all_eq_true.1 b11 l hl; simp at this; omega
theorem bnd_of (S : Sg) (h : chkS S = true) : (0 ≤ S.x.nx ∧ S.x.nx ≤ 32) ∧ (0 ≤ S.x.tr ∧ S.x.tr ≤ 1000) := by
  obtain ⟨⟨_, _, b3, _, _, _, b7, _⟩, hG⟩ := (chkS_iff S).1 h
  refine ⟨?_, b7⟩
  rcases hG with ⟨_, _, _, _, c4, c5, c6, c7, _⟩ | ⟨_, _, _, _, c4, c5, c6, _⟩ | ⟨_, c1, c2, c3, c4, c5, c6, _⟩ | ⟨_, c0, c1, c2, c3, c4, c5, c6, _⟩ <;> omega
set_option maxRecDepth 100000 in
set_option maxHeartbeats 4000000 in
theorem apply_c (S : Sg) (h : SH) (r : Rec) (d : Value) (w : World) (k : SgAt w S h) (hT : STabs w) (hnm : S.nm.size ≤ 140737488355000) (hc : chkS S = false) : Calls Tryz.prog 73 #[sv S h, rv r.x r.nm d] w fun e w' => ApPost w (100, zSg) e w' := by
  have HCK0 : ∀ w', Below w.heap.size w w' → Calls Tryz.prog 15 #[sv S h] w' fun e w'' => e = .returned (.int .i64 100) ∧ Below w'.heap.size w' w'' := fun w' hb' => by have e := scheck_any S h w' (k.kept hb') (hT.kept hb').e.tabs.lets hnm; rw [hc] at e; exact e
  obtain ⟨Z, hZ⟩ : ∃ Z, Z = zcl := ⟨_, rfl⟩
  have HZ : Hid (Z = zcl) := hZ
  have HZL : Hid (Z.length = 16) := by show _ = _; rw [hZ]; rfl
  have HZI : Hid ((Tryz.prog.info? 43).map (·.size) = some Z.length) := by show _ = _; rw [hZ]; exact infoSaga
  have HZ1 : Hid (∀ v ∈ Z, v.oneCell' = true) := by show ∀ v ∈ Z, _; rw [hZ]; exact scl_one zSg ⟨none, 0, none, 0, none, 0, none, 0⟩
  clear hZ
  obtain ⟨D, hD, hL, hE⟩ := sv_letter S h
  obtain ⟨E, hD2, hL2, hE2⟩ := rv_letter r.x r.nm d
  rw [hD, hD2]
  rw [hD] at HCK0
  have HCK : Hid _ := HCK0
  have HL : Hid _ := hL
  have HE : Hid (D = scl S h) := hE
  have HL2 : Hid _ := hL2
  have HX : Hid (∀ t t2 t3, LB (((w.alloc (.cells D.toArray t)).alloc (.cells E.toArray t2)).alloc (.cells Z.toArray t3)) w.heap.size t D ∧ LB (((w.alloc (.cells D.toArray t)).alloc (.cells E.toArray t2)).alloc (.cells Z.toArray t3)) (w.heap.size + 1) t2 E ∧ LB (((w.alloc (.cells D.toArray t)).alloc (.cells E.toArray t2)).alloc (.cells Z.toArray t3)) (w.heap.size + 1 + 1) t3 Z ∧ Below w.heap.size w (((w.alloc (.cells D.toArray t)).alloc (.cells E.toArray t2)).alloc (.cells Z.toArray t3))) := fun t t2 t3 => lb_new3 w D E Z t t2 t3
  clear hD hL hE hD2 hL2 hE2 HCK0
  go_enter Tryz.func73, Tryz.ntmps73
  go_wp2_with (first | (refine wpList_alloc_Z HZ.out rfl rfl ?_) | (refine wpList_load_mid rfl 43 _ rfl w.heap.size 0 rfl D _ (HX.out _ _ _).1.range Tryz.underlying43 rfl HL.out ?_))
  refine (HCK.out _ (HX.out _ _ _).2.2.2).mono ?_
  rintro e w1 ⟨rfl, b1⟩
  have H1 : Hid (LB w1 w.heap.size 43 D ∧ LB w1 (w.heap.size + 1) 32 E ∧ LB w1 (w.heap.size + 1 + 1) 43 Z ∧ Below w.heap.size w w1) := ⟨(HX.out _ _ _).1.kept b1, (HX.out _ _ _).2.1.kept b1, (HX.out _ _ _).2.2.1.kept b1, andThen (HX.out _ _ _).2.2.2 b1⟩
  clear b1 HX HCK
  clear k hT hnm hc HL HL2 HE
  have HT4 : Hid (w1.there (w.heap.size + 1 + 1) 0 Z.toArray.size) := there_of H1.out.2.2.1 (by simp)
  go_wp2_with (first | (refine wpList_build_Z HZ.out rfl rfl ?_) | (refine wpList_store_mid rfl 43 (.tmp 4) (.tmp 15) rfl (w.heap.size + 1 + 1) 0 Z.toArray rfl rfl HT4.out (by simpa using HZI.out) (all_oneCell_toArray HZ1.out) ?_))
  have HR5 : Hid ((w1.setCells (w.heap.size + 1 + 1) 0 Z).rangeAt (w.heap.size + 1 + 1) 0 Z) := (H1.out.2.2.1.sets Z rfl).range
  have HBF : Hid (Below w.heap.size w (w1.setCells (w.heap.size + 1 + 1) 0 Z)) := below_cells (by omega) _ 0 _ H1.out.2.2.2
  refine bodyPost_ret (results_cell_slot (p := 4) (s := 5) (ty := 43) rfl _ (w1.setCells (w.heap.size + 1 + 1) 0 Z) (w.heap.size + 1 + 1) Z _ rfl HR5.out Tryz.underlying43 rfl HZI.out) rfl ?_
  exact ⟨⟨none, 0, none, 0, none, 0, none, 0⟩, by rw [HZ.out]; rfl, sgO_zero _ _, HBF.out⟩
theorem rcE_one (x : Nums) (nm : ByteArray) (d : Value) (hd : d.oneCell' = true) : ∀ v ∈ rcE x nm d, v.oneCell' = true := by
  intro v hv
  simp only [rcE, List.mem_cons, List.not_mem_nil, or_false] at hv
  rcases hv with rfl | rfl | rfl | rfl | rfl | rfl | rfl | rfl | rfl | rfl | rfl | rfl
  all_goals first | rfl | exact hd
set_option maxRecDepth 100000 in
set_option maxHeartbeats 4000000 in
theorem apply_u (S : Sg) (h : SH) (r : Rec) (d : Value) (w : World) (k : SgAt w S h) (hb : Bs w d r.l) (hT : STabs w) (hnm : S.nm.size ≤ 140737488355000) (hnm2 : r.nm.size ≤ 140737488355000) (hf : r.x.fit) (hc : chkS S = true) (h0 : (upP 3 r).1 ≠ 0) : Calls Tryz.prog 73 #[sv S h, rv r.x r.nm d] w fun e w' => ApPost w ((upP 3 r).1, zSg) e w' := by
  have HCK0 : ∀ w', Below w.heap.size w w' → Calls Tryz.prog 15 #[sv S h] w' fun e w'' => e = .returned (.int .i64 0) ∧ Below w'.heap.size w' w'' := fun w' hb' => by have e := scheck_any S h w' (k.kept hb') (hT.kept hb').e.tabs.lets hnm; rw [hc] at e; exact e
  have HUP0 : ∀ w', Below w.heap.size w w' → Calls Tryz.prog 11 #[rv r.x r.nm d, .int .i64 3] w' fun e w'' => OwnT w' w'' (upP 3 r) e := fun w' hb' => up_O 3 r d w' (hb.kept hb') (hT.kept hb').e hnm2 hf
  obtain ⟨Z, hZ⟩ : ∃ Z, Z = zcl := ⟨_, rfl⟩
  have HZ : Hid (Z = zcl) := hZ
  have HZL : Hid (Z.length = 16) := by show _ = _; rw [hZ]; rfl
  have HZI : Hid ((Tryz.prog.info? 43).map (·.size) = some Z.length) := by show _ = _; rw [hZ]; exact infoSaga
  have HZ1 : Hid (∀ v ∈ Z, v.oneCell' = true) := by show ∀ v ∈ Z, _; rw [hZ]; exact scl_one zSg ⟨none, 0, none, 0, none, 0, none, 0⟩
  clear hZ
  obtain ⟨D, hD, hL, hE⟩ := sv_letter S h
  obtain ⟨E, hD2, hL2, hE2⟩ := rv_letter r.x r.nm d
  rw [hD, hD2]
  rw [hD] at HCK0
  rw [hD2] at HUP0
  have HUP : Hid _ := HUP0
  have HCK : Hid _ := HCK0
  have HL : Hid _ := hL
  have HE : Hid (D = scl S h) := hE
  have HL2 : Hid _ := hL2
  have HX : Hid (∀ t t2 t3, LB (((w.alloc (.cells D.toArray t)).alloc (.cells E.toArray t2)).alloc (.cells Z.toArray t3)) w.heap.size t D ∧ LB (((w.alloc (.cells D.toArray t)).alloc (.cells E.toArray t2)).alloc (.cells Z.toArray t3)) (w.heap.size + 1) t2 E ∧ LB (((w.alloc (.cells D.toArray t)).alloc (.cells E.toArray t2)).alloc (.cells Z.toArray t3)) (w.heap.size + 1 + 1) t3 Z ∧ Below w.heap.size w (((w.alloc (.cells D.toArray t)).alloc (.cells E.toArray t2)).alloc (.cells Z.toArray t3))) := fun t t2 t3 => lb_new3 w D E Z t t2 t3
  clear hD hL hE hD2 hL2 hE2 HCK0 HUP0
  go_enter Tryz.func73, Tryz.ntmps73
  go_wp2_with (first | (refine wpList_alloc_Z HZ.out rfl rfl ?_) | (refine wpList_load_mid rfl 43 _ rfl w.heap.size 0 rfl D _ (HX.out _ _ _).1.range Tryz.underlying43 rfl HL.out ?_))
  refine (HCK.out _ (HX.out _ _ _).2.2.2).mono ?_
  rintro e w1 ⟨rfl, b1⟩
  have H1 : Hid (LB w1 w.heap.size 43 D ∧ LB w1 (w.heap.size + 1) 32 E ∧ LB w1 (w.heap.size + 1 + 1) 43 Z ∧ Below w.heap.size w w1) := ⟨(HX.out _ _ _).1.kept b1, (HX.out _ _ _).2.1.kept b1, (HX.out _ _ _).2.2.1.kept b1, andThen (HX.out _ _ _).2.2.2 b1⟩
  clear b1 HX HCK
  clear k hT hnm hnm2 hf hb hc HL HE
  go_wp2_with (refine wpList_load_mid rfl 32 _ rfl (w.heap.size + 1) 0 rfl E _ H1.out.2.1.range Tryz.underlying32 rfl HL2.out ?_)
  refine (HUP.out _ H1.out.2.2.2).mono ?_
  rintro e w2 ⟨ad, cd, rfl, ho2, b2⟩
  have H2 : Hid (LB w2 w.heap.size 43 D ∧ LB w2 (w.heap.size + 1 + 1) 43 Z ∧ Own (w.heap.size + 3) w2 (.slice ad (upP 3 r).2.l.length cd) (upP 3 r).2.l ∧ Below w.heap.size w w2) := ⟨H1.out.1.kept b2, H1.out.2.2.1.kept b2, own_weak ho2 H1.out.2.2.1.lt, andThen H1.out.2.2.2 b2⟩
  clear b2 ho2 H1 HUP HL2
  obtain ⟨u, hu⟩ : ∃ u, (upP 3 r).2 = u := ⟨_, rfl⟩
  have HU : Hid ((upP 3 r).2 = u) := hu
  rw [hu] at H2 ⊢
  clear hu
  obtain ⟨z, hz⟩ : ∃ z, (upP 3 r).1 = z := ⟨_, rfl⟩
  have hz2 : (z != 0) = true := by rw [← hz, bne_iff_ne]; exact h0
  have HZE : Hid ((upP 3 r).1 = z) := hz
  rw [hz]
  clear hz h0
  obtain ⟨G, hG, hGL, hGE⟩ := rv_letter u.x u.nm (.slice ad u.l.length cd)
  rw [hG]
  have HGL : Hid _ := hGL
  have HGE : Hid (G = rcE u.x u.nm (.slice ad u.l.length cd)) := hGE
  have HG1 : Hid (∀ v ∈ G, v.oneCell' = true) := by show ∀ v ∈ G, _; rw [hGE]; exact rcE_one _ _ _ rfl
  clear hG hGL hGE
  obtain ⟨ZR, hZR⟩ : ∃ ZR, ZR = zrl := ⟨_, rfl⟩
  have HZR : Hid (ZR = zrl) := hZR
  have HZRL : Hid (G.length = ZR.length) := by show _ = _; rw [hZR, HGE.out]; rfl
  clear hZR
  have HTZ : Hid (∀ t, (w2.alloc (.cells ZR.toArray t)).there w2.heap.size 0 G.toArray.size) := fun t => there_of (lb_new w2 ZR t) (by simpa using HZRL.out)
  have H3 : Hid (∃ W3, W3 = (w2.alloc (.cells ZR.toArray 32)).setCells w2.heap.size 0 G ∧ LB W3 w.heap.size 43 D ∧ LB W3 (w.heap.size + 1 + 1) 43 Z ∧ Own (w.heap.size + 3) W3 (.slice ad u.l.length cd) u.l ∧ LB W3 w2.heap.size 32 G ∧ w.heap.size + 1 + 1 < w2.heap.size ∧ Below w.heap.size w W3) := ⟨_, rfl, (H2.out.1.kept (up0 _ _)).others _ _ _ (Nat.ne_of_lt H2.out.1.lt), (H2.out.2.1.kept (up0 _ _)).others _ _ _ (Nat.ne_of_lt H2.out.2.1.lt), own_keptB (H2.out.2.2.1.alloc _) (fun b e => cells_other _ _ _ _ _ (Nat.ne_of_lt (own_block H2.out.2.2.1 b e).2)), (lb_new w2 ZR _).sets G HZRL.out, H2.out.2.1.lt, below_cells (Nat.le_of_lt H2.out.1.lt) _ 0 _ (up H2.out.2.2.2 _)⟩
  go_wp2_with (first | (refine wpList_alloc_R HZR.out rfl rfl ?_) | (refine wpList_store_mid rfl 32 (.tmp 7) (.tmp 20) rfl w2.heap.size 0 G.toArray rfl rfl (HTZ.out _) (by simpa using HGL.out) (all_oneCell_toArray HG1.out) ?_; (obtain ⟨W3, hW3, hq⟩ := H3.out); (have H4 : Hid _ := hq); (rw [List.toList_toArray, ← hW3]); (clear hW3 hq H3 HTZ)) | (refine wpList_build_Z HZ.out rfl rfl ?_) | (refine wpList_store_mid rfl 43 (.tmp 4) (.tmp 24) rfl (w.heap.size + 1 + 1) 0 Z.toArray rfl rfl (there_of H4.out.2.1 (by simp)) (by simpa using HZI.out) (all_oneCell_toArray HZ1.out) ?_) | fail)
  have HR5 : Hid ((W3.setCells (w.heap.size + 1 + 1) 0 Z).rangeAt (w.heap.size + 1 + 1) 0 Z) := (H4.out.2.1.sets Z rfl).range
  have HBF : Hid (Below w.heap.size w (W3.setCells (w.heap.size + 1 + 1) 0 Z)) := below_cells (by omega) _ 0 _ H4.out.2.2.2.2.2
  refine bodyPost_ret (results_cell_slot (p := 4) (s := 5) (ty := 43) rfl _ (W3.setCells (w.heap.size + 1 + 1) 0 Z) (w.heap.size + 1 + 1) Z _ rfl HR5.out Tryz.underlying43 rfl HZI.out) rfl ?_
  exact ⟨⟨none, 0, none, 0, none, 0, none, 0⟩, by rw [HZ.out, HZE.out]; rfl, sgO_zero _ _, HBF.out⟩
set_option maxRecDepth 100000 in
set_option maxHeartbeats 4000000 in
theorem apply_r (S : Sg) (h : SH) (r : Rec) (d : Value) (w : World) (k : SgAt w S h) (hb : Bs w d r.l) (hT : STabs w) (hnm : S.nm.size ≤ 140737488355000) (hnm2 : r.nm.size ≤ 140737488355000) (hf : r.x.fit) (hc : chkS S = true) (h0 : (upP 3 r).1 = 0) (h1 : refP S.x (upP 3 r).2.x ≠ 0) : Calls Tryz.prog 73 #[sv S h, rv r.x r.nm d] w fun e w' => ApPost w (refP S.x (upP 3 r).2.x, zSg) e w' := by
  have HCK0 : ∀ w', Below w.heap.size w w' → Calls Tryz.prog 15 #[sv S h] w' fun e w'' => e = .returned (.int .i64 0) ∧ Below w'.heap.size w' w'' := fun w' hb' => by have e := scheck_any S h w' (k.kept hb') (hT.kept hb').e.tabs.lets hnm; rw [hc] at e; exact e
  have HUP0 : ∀ w', Below w.heap.size w w' → Calls Tryz.prog 11 #[rv r.x r.nm d, .int .i64 3] w' fun e w'' => OwnT w' w'' (upP 3 r) e := fun w' hb' => up_O 3 r d w' (hb.kept hb') (hT.kept hb').e hnm2 hf
  have HKT : Hid (∀ w', Below w.heap.size w w' → KindsT w') := fun w' hb' => (hT.kept hb').k
  have HBN : Hid ((0 ≤ S.x.nx ∧ S.x.nx ≤ 32) ∧ (0 ≤ S.x.tr ∧ S.x.tr ≤ 1000)) := bnd_of S hc
  have HV3 : Hid (V3 (upP 3 r).2) := (up3 r hb.good h0).1
  obtain ⟨Z, hZ⟩ : ∃ Z, Z = zcl := ⟨_, rfl⟩
  have HZ : Hid (Z = zcl) := hZ
  have HZL : Hid (Z.length = 16) := by show _ = _; rw [hZ]; rfl
  have HZI : Hid ((Tryz.prog.info? 43).map (·.size) = some Z.length) := by show _ = _; rw [hZ]; exact infoSaga
  have HZ1 : Hid (∀ v ∈ Z, v.oneCell' = true) := by show ∀ v ∈ Z, _; rw [hZ]; exact scl_one zSg ⟨none, 0, none, 0, none, 0, none, 0⟩
  clear hZ
  obtain ⟨D, hD, hL, hE⟩ := sv_letter S h
  obtain ⟨E, hD2, hL2, hE2⟩ := rv_letter r.x r.nm d
  rw [hD, hD2]
  rw [hD] at HCK0
  rw [hD2] at HUP0
  have HUP : Hid _ := HUP0
  have HCK : Hid _ := HCK0
  have HL : Hid _ := hL
  have HE : Hid (D = scl S h) := hE
  have HL2 : Hid _ := hL2
  have HX : Hid (∀ t t2 t3, LB (((w.alloc (.cells D.toArray t)).alloc (.cells E.toArray t2)).alloc (.cells Z.toArray t3)) w.heap.size t D ∧ LB (((w.alloc (.cells D.toArray t)).alloc (.cells E.toArray t2)).alloc (.cells Z.toArray t3)) (w.heap.size + 1) t2 E ∧ LB (((w.alloc (.cells D.toArray t)).alloc (.cells E.toArray t2)).alloc (.cells Z.toArray t3)) (w.heap.size + 1 + 1) t3 Z ∧ Below w.heap.size w (((w.alloc (.cells D.toArray t)).alloc (.cells E.toArray t2)).alloc (.cells Z.toArray t3))) := fun t t2 t3 => lb_new3 w D E Z t t2 t3
  clear hD hL hE hD2 hL2 hE2 HCK0 HUP0
  go_enter Tryz.func73, Tryz.ntmps73
  go_wp2_with (first | (refine wpList_alloc_Z HZ.out rfl rfl ?_) | (refine wpList_load_mid rfl 43 _ rfl w.heap.size 0 rfl D _ (HX.out _ _ _).1.range Tryz.underlying43 rfl HL.out ?_))
  refine (HCK.out _ (HX.out _ _ _).2.2.2).mono ?_
  rintro e w1 ⟨rfl, b1⟩
  have H1 : Hid (LB w1 w.heap.size 43 D ∧ LB w1 (w.heap.size + 1) 32 E ∧ LB w1 (w.heap.size + 1 + 1) 43 Z ∧ Below w.heap.size w w1) := ⟨(HX.out _ _ _).1.kept b1, (HX.out _ _ _).2.1.kept b1, (HX.out _ _ _).2.2.1.kept b1, andThen (HX.out _ _ _).2.2.2 b1⟩
  clear b1 HX HCK
  clear k hT hnm hnm2 hf hb
  obtain ⟨z, hz⟩ : ∃ z, refP S.x (upP 3 r).2.x = z := ⟨_, rfl⟩
  have hz2 : (z != 0) = true := by rw [← hz, bne_iff_ne]; exact h1
  have HZE : Hid (refP S.x (upP 3 r).2.x = z) := hz
  clear hz h1
  go_wp2_with (refine wpList_load_mid rfl 32 _ rfl (w.heap.size + 1) 0 rfl E _ H1.out.2.1.range Tryz.underlying32 rfl HL2.out ?_)
  refine (HUP.out _ H1.out.2.2.2).mono ?_
  rintro e w2 ⟨ad, cd, rfl, ho2, b2⟩
  have H2 : Hid (LB w2 w.heap.size 43 D ∧ LB w2 (w.heap.size + 1 + 1) 43 Z ∧ Own (w.heap.size + 3) w2 (.slice ad (upP 3 r).2.l.length cd) (upP 3 r).2.l ∧ Below w.heap.size w w2) := ⟨H1.out.1.kept b2, H1.out.2.2.1.kept b2, own_weak ho2 H1.out.2.2.1.lt, andThen H1.out.2.2.2 b2⟩
  clear b2 ho2 H1 HUP HL2
  obtain ⟨u, hu⟩ : ∃ u, (upP 3 r).2 = u := ⟨_, rfl⟩
  have HU : Hid ((upP 3 r).2 = u) := hu
  rw [hu] at H2 ⊢
  clear hu
  rw [h0]
  obtain ⟨G, hG, hGL, hGE⟩ := rv_letter u.x u.nm (.slice ad u.l.length cd)
  rw [hG]
  have HGL : Hid _ := hGL
  have HGE : Hid (G = rcE u.x u.nm (.slice ad u.l.length cd)) := hGE
  have HG1 : Hid (∀ v ∈ G, v.oneCell' = true) := by show ∀ v ∈ G, _; rw [hGE]; exact rcE_one _ _ _ rfl
  clear hG hGL hGE
  obtain ⟨ZR, hZR⟩ : ∃ ZR, ZR = zrl := ⟨_, rfl⟩
  have HZR : Hid (ZR = zrl) := hZR
  have HZRL : Hid (G.length = ZR.length) := by show _ = _; rw [hZR, HGE.out]; rfl
  clear hZR
  have HTZ : Hid (∀ t, (w2.alloc (.cells ZR.toArray t)).there w2.heap.size 0 G.toArray.size) := fun t => there_of (lb_new w2 ZR t) (by simpa using HZRL.out)
  have H3 : Hid (∃ W3, W3 = (w2.alloc (.cells ZR.toArray 32)).setCells w2.heap.size 0 G ∧ LB W3 w.heap.size 43 D ∧ LB W3 (w.heap.size + 1 + 1) 43 Z ∧ Own (w.heap.size + 3) W3 (.slice ad u.l.length cd) u.l ∧ LB W3 w2.heap.size 32 G ∧ w.heap.size + 1 + 1 < w2.heap.size ∧ Below w.heap.size w W3) := ⟨_, rfl, (H2.out.1.kept (up0 _ _)).others _ _ _ (Nat.ne_of_lt H2.out.1.lt), (H2.out.2.1.kept (up0 _ _)).others _ _ _ (Nat.ne_of_lt H2.out.2.1.lt), own_keptB (H2.out.2.2.1.alloc _) (fun b e => cells_other _ _ _ _ _ (Nat.ne_of_lt (own_block H2.out.2.2.1 b e).2)), (lb_new w2 ZR _).sets G HZRL.out, H2.out.2.1.lt, below_cells (Nat.le_of_lt H2.out.1.lt) _ 0 _ (up H2.out.2.2.2 _)⟩
  have HRF : Hid (∀ w', Below w.heap.size w w' → Calls Tryz.prog 89 #[.agg D.toArray, .agg G.toArray] w' fun e w'' => e = .returned (.int .i64 z) ∧ Below w'.heap.size w' w'') := fun w' hb' => by
    have e := refusal_any S h u.x u.nm (.slice ad u.l.length cd) w' (HKT.out w' hb') HBN.out.1 HBN.out.2 (by have e9 := HV3.out; rw [HU.out] at e9; obtain ⟨_, _, _, e8⟩ := e9; omega)
    rw [show sv S h = .agg D.toArray by rw [HE.out]; rfl, show rv u.x u.nm (.slice ad u.l.length cd) = .agg G.toArray by rw [HGE.out]; rfl, show refP S.x u.x = z by rw [← HU.out]; exact HZE.out] at e
    exact e
  go_wp2_with (first | (refine wpList_alloc_R HZR.out rfl rfl ?_) | (refine wpList_store_mid rfl 32 (.tmp 7) (.tmp 20) rfl w2.heap.size 0 G.toArray rfl rfl (HTZ.out _) (by simpa using HGL.out) (all_oneCell_toArray HG1.out) ?_; (obtain ⟨W3, hW3, hq⟩ := H3.out); (have H4 : Hid _ := hq); (rw [List.toList_toArray, ← hW3]); (clear hW3 hq H3 HTZ)) | (refine wpList_load_mid rfl 43 _ rfl w.heap.size 0 rfl D _ H4.out.1.range Tryz.underlying43 rfl HL.out ?_) | (refine wpList_load_mid rfl 32 _ rfl w2.heap.size 0 rfl G _ H4.out.2.2.2.1.range Tryz.underlying32 rfl HGL.out ?_) | fail)
  refine (HRF.out _ H4.out.2.2.2.2.2).mono ?_
  rintro e w4 ⟨rfl, b4⟩
  have H5 : Hid (LB w4 w.heap.size 43 D ∧ LB w4 (w.heap.size + 1 + 1) 43 Z ∧ Own (w.heap.size + 3) w4 (.slice ad u.l.length cd) u.l ∧ LB w4 w2.heap.size 32 G ∧ w.heap.size + 1 + 1 < w2.heap.size ∧ Below w.heap.size w w4) := ⟨H4.out.1.kept b4, H4.out.2.1.kept b4, H4.out.2.2.1.kept b4, H4.out.2.2.2.1.kept b4, H4.out.2.2.2.2.1, andThen H4.out.2.2.2.2.2 b4⟩
  clear b4 HRF H4 HKT HBN
  have HT4 : Hid (w4.there (w.heap.size + 1 + 1) 0 Z.toArray.size) := there_of H5.out.2.1 (by simp)
  clear hc h0 HV3 HE HL HGL HGE HG1
  go_wp2_with (first | (refine wpList_build_Z HZ.out rfl rfl ?_) | (refine wpList_store_mid rfl 43 (.tmp 4) (.tmp 31) rfl (w.heap.size + 1 + 1) 0 Z.toArray rfl rfl HT4.out (by simpa using HZI.out) (all_oneCell_toArray HZ1.out) ?_))
  have HR5 : Hid ((w4.setCells (w.heap.size + 1 + 1) 0 Z).rangeAt (w.heap.size + 1 + 1) 0 Z) := (H5.out.2.1.sets Z rfl).range
  have HBF : Hid (Below w.heap.size w (w4.setCells (w.heap.size + 1 + 1) 0 Z)) := below_cells (by omega) _ 0 _ H5.out.2.2.2.2.2
  refine bodyPost_ret (results_cell_slot (p := 4) (s := 5) (ty := 43) rfl _ (w4.setCells (w.heap.size + 1 + 1) 0 Z) (w.heap.size + 1 + 1) Z _ rfl HR5.out Tryz.underlying43 rfl HZI.out) rfl ?_
  exact ⟨⟨none, 0, none, 0, none, 0, none, 0⟩, by rw [HZ.out, HZE.out]; rfl, sgO_zero _ _, HBF.out⟩
end Go.Proofs.YtdnackjakfiffaaGreatDoor
