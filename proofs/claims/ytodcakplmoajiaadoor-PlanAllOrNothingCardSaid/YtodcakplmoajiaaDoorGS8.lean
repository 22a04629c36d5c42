import Derived.Test.YtodcakplmoajiaaDoorGS6
import Derived.Test.YtodcakplmoajiaaDoorGSL
import Derived.Test.YtodcakplmoajiaaDoorGS5
set_option maxRecDepth 100000
set_option maxHeartbeats 4000000
namespace Go.Proofs.YtodcakplmoajiaaDoor
open Go Go.RowKit
open Wb

structure STabs (w : World) : Prop where
 e : ETabs w
 k : KindsT w
theorem STabs.kept {w w' : World} (h : STabs w) (hb : Below w.heap.size w w') : STabs w' := ⟨h.e.kept hb, h.k.kept hb⟩
def fK (k : Int) : Nat := if k = 2 ∨ k = 5 then 55 else if k = 3 then 56 else if k = 4 then 57 else if k = 6 then 58 else 59
structure SgO (B : Nat) (w : World) (S : Sg) (h : SH) : Prop where
 inp : Own B w (.slice h.ai S.inp.length h.ci) S.inp
 outs : OwnP B w (.slice h.ao S.outs.length h.co) S.outs
 und : OwnP B w (.slice h.au S.und.length h.cu) S.und
 fail : Own B w (.slice h.af S.fail.length h.cf) S.fail
theorem SgO.at {B : Nat} {w : World} {S : Sg} {h : SH} (k : SgO B w S h) : SgAt w S h := ⟨k.inp.bs, k.outs.ps, k.und.ps, k.fail.bs⟩
theorem SgO.sets {B : Nat} {w : World} {S : Sg} {h : SH} (k : SgO B w S h) (g o : Nat) (vs : List Value) (hg : g < B) : SgO B (w.setCells g o vs) S h := ⟨Own.cells k.inp g o vs hg, k.outs.setsB g o vs hg, k.und.setsB g o vs hg, Own.cells k.fail g o vs hg⟩
def DoPost (B g : Nat) (w : World) (S' : Sg) (e : Ending) (w' : World) : Prop := ∃ h', e = .returned (.tuple #[]) ∧ LB w' g 83 (scl S' h') ∧ SgO B w' S' h' ∧ Below B w w' ∧ ∀ b t cs, b < g → t ≠ 25 → LB w b t cs → LB w' b t cs
theorem own_ne_g {B g : Nat} {w : World} {d : Value} {l : List Nat} {C : List Value} (h : Own B w d l) (L : LB w g 83 C) (b : Nat) (e : d.ownBlock = some b) : b ≠ g := by
 rintro rfl
 rcases h.row.2 with ⟨e3, _⟩ | ⟨g', cap, cur, e3, _, hg', _⟩
 ·rw [e3] at e; simp [Value.ownBlock] at e
 ·rw [e3] at e; simp [Value.ownBlock] at e; subst e; rw [L] at hg'; simp at hg'
theorem own_ne_row {B : Nat} {w : World} {d : Value} {l : List Nat} {v : Value} {ls : List (List Nat)} (h : Own B w d l) (r : OwnP B w v ls) (b : Nat) (e : d.ownBlock = some b) : v.ownBlock ≠ some b := by
 intro e2
 obtain ⟨vs, r1, _⟩ := r
 obtain ⟨cs, z, h4⟩ := row_typed r1 b e2
 rcases h.row.2 with ⟨e3, _⟩ | ⟨g', cap, cur, e3, _, hg', _⟩
 ·rw [e3] at e; simp [Value.ownBlock] at e
 ·rw [e3] at e; simp [Value.ownBlock] at e; subst e; rw [hg'] at h4; simp at h4
theorem own_g {B g : Nat} {w w' : World} {d : Value} {l : List Nat} {C : List Value} (h : Own B w d l) (L : LB w g 83 C) (hs : w.heap.size ≤ g + 1) (hb : Below g w w') : Own B w' d l := own_keptB h fun b e => hb.block b (by have := own_ne_g h L b e; have := (own_block h b e).2; omega)
theorem ownp_ne_g {B g : Nat} {w : World} {v : Value} {ls : List (List Nat)} {C : List Value} (h : OwnP B w v ls) (L : LB w g 83 C) : v.ownBlock ≠ some g := fun e => by
 obtain ⟨vs, r1, _⟩ := h
 obtain ⟨cs, z, h4⟩ := row_typed r1 g e
 rw [L] at h4
 simp at h4
theorem ownp_g {B g : Nat} {w w' : World} {v : Value} {ls : List (List Nat)} {C : List Value} (h : OwnP B w v ls) (L : LB w g 83 C) (hs : w.heap.size ≤ g + 1) (hb : Below g w w') : OwnP B w' v ls := by
 have hng := ownp_ne_g h L
 obtain ⟨vs, r1, r2, r3⟩ := h
 refine ⟨vs, row_kept2 r1 fun b e => hb.block b ?_, r2, fun j a b => own_g (r3 j a b) L hs hb⟩
 have := (row_block r1 b e).2
 have h9 : b ≠ g := fun e2 => hng (by rw [e, e2])
 omega
theorem do_plain {P : Program} {f : FuncId} {args : Array Value} {B g : Nat} {w : World} {S0 S' : Sg} {h h' : SH} (L : LB w g 83 (scl S0 h)) (hs : w.heap.size ≤ g + 1) (hB : B ≤ g) (hi : Own B w (.slice h'.ai S'.inp.length h'.ci) S'.inp) (ho : OwnP B w (.slice h'.ao S'.outs.length h'.co) S'.outs) (hu : OwnP B w (.slice h'.au S'.und.length h'.cu) S'.und) (hf : Own B w (.slice h'.af S'.fail.length h'.cf) S'.fail)
  (c : Calls P f args w fun e w' => e = .returned (.tuple #[]) ∧ LB w' g 83 (scl S' h') ∧ Below g w w') : Calls P f args w fun e w' => DoPost B g w S' e w' :=
 c.mono fun _ _ ⟨he, hl, hb⟩ => ⟨h', he, hl, ⟨own_g hi L hs hb, ownp_g ho L hs hb, ownp_g hu L hs hb, own_g hf L hs hb⟩, hb.mono hB, fun b _ _ hbg _ h1 => (hb.block b hbg).trans h1⟩
theorem do_any (S : Sg) (h : SH) (u : Rec) (ad : Option Addr) (cd : Nat) (B g : Nat) (w : World) (L : LB w g 83 (scl { S with x := { S.x with la := u.x.a } } h)) (hs : w.heap.size ≤ g + 1) (hB : B ≤ g) (k : SgOwn B w S h) (hd : Own B w (.slice ad u.l.length cd) u.l) (hc : chkS S = true) (hv : V3 u) (hk1 : u.x.k ≠ 1) :
  Calls Tryd.prog (fK u.x.k) #[.pointer (some ⟨g, 0, none⟩), rv u.x u.nm (.slice ad u.l.length cd)] w fun e w' => DoPost B g w (deedS S u) e w' := by
 obtain ⟨hGB, hG⟩ := (chkS_iff S).1 hc
 have hn : 0 ≤ S.x.nx ∧ S.x.nx ≤ 32 ∧ S.outs.length ≤ 32 ∧ S.und.length ≤ 32 := by
  obtain ⟨_, _, h3, _⟩ := hGB
  rcases hG with ⟨_, _, _, _, c4, c5, c6, c7, _⟩ | ⟨_, _, _, _, c4, c5, c6, _⟩ | ⟨_, c1, c2, c3, c4, c5, c6, _⟩ | ⟨_, c0, c1, c2, c3, c4, c5, c6, _⟩
  ·rw [c4]; simp; omega
  ·rw [c4]; simp; omega
  ·omega
  ·omega
 obtain ⟨v1, v2, v3, vk⟩ := hv
 have hk : (u.x.k = 2 ∨ u.x.k = 5) ∨ u.x.k = 3 ∨ u.x.k = 4 ∨ u.x.k = 6 ∨ u.x.k = 7 := by omega
 rcases hk with k2 | k3 | k4 | k6 | k7
 ·have ef : fK u.x.k = 55 := by unfold fK; rw [if_pos k2]
  have ed : deedS S u = { S with x := { S.x with la := u.x.a, fl := true, tr := u.x.t } } := by unfold deedS; rw [if_pos k2]
  rw [ef, ed]
  exact do_plain L hs hB k.inp k.outs k.und k.fail (start_any _ h u.x u.nm _ g w L)
 ·have ef : fK u.x.k = 56 := by unfold fK; rw [if_neg (by omega), if_pos k3]
  have ed : deedS S u = { S with x := { S.x with la := u.x.a, fl := false, tr := 0, nx := S.x.nx + 1 }, outs := S.outs ++ [u.l] } := by unfold deedS; rw [if_neg (by omega), if_pos k3]
  rw [ef, ed]
  have hrt : ∀ b, (Value.slice h.ao S.outs.length h.co).ownBlock = some b → ∃ cs z, w.heap[b]? = some (.cells cs 25 z) := fun b e => by obtain ⟨vs, r1, _⟩ := k.outs; exact row_typed r1 b e
  refine (done_any { S with x := { S.x with la := u.x.a } } h u.x u.nm ad u.l cd B g w L hB k.outs hd ⟨hn.1, hn.2.1⟩ (show S.outs.length ≤ 100 by omega)).mono fun e w' ⟨a', c', he, hl, hop, hbut⟩ => ?_
  refine ⟨{ h with ao := a', co := c' }, he, hl, ⟨own_other k.inp hbut fun b e => ⟨?_, own_ne_row k.inp k.outs b e⟩, ?_, ownp_other k.und hbut hs (ownp_ne_g k.und L) ?_ hrt ⟨_, L⟩, own_other k.fail hbut fun b e => ⟨?_, own_ne_row k.fail k.outs b e⟩⟩, hbut.below, fun b t cs hbg ht h1 => (hbut.rest b hbg (fun e2 => ?_)).trans h1⟩
  ·have := own_ne_g k.inp L b e; have := (own_block k.inp b e).2; omega
  ·have e9 : (S.outs ++ [u.l]).length = S.outs.length + 1 := by simp
   have := hop
   rw [← e9] at this
   exact this
  ·by_cases e9 : (Value.slice h.au S.und.length h.cu).ownBlock = none
   ·exact .inr e9
   ·obtain ⟨b9, hb9⟩ := Option.ne_none_iff_exists'.1 e9
    exact .inl (fun e8 => k.apart b9 (by rw [← hb9]; exact e8) hb9)
  ·have := own_ne_g k.fail L b e; have := (own_block k.fail b e).2; omega
  ·obtain ⟨cs2, z, h4⟩ := hrt b e2
   rw [h1] at h4
   simp at h4
   exact ht h4.2.1
 ·have ef : fK u.x.k = 57 := by unfold fK; rw [if_neg (by omega), if_neg (by omega), if_pos k4]
  rw [ef]
  by_cases hl0 : u.x.l = 0
  ·have ed : deedS S u = { S with x := { S.x with la := u.x.a, fl := false } } := by unfold deedS; rw [if_neg (by omega), if_neg (by omega), if_pos k4, if_pos hl0]
   rw [ed]
   exact do_plain L hs hB k.inp k.outs k.und k.fail (fail0_any _ h u.x u.nm _ g w L (by simp [hl0]))
  ·have ed : deedS S u = { S with x := { S.x with la := u.x.a, fl := false, tr := 0, ph := 2, fs := u.x.p, fc := u.x.c }, fail := u.l } := by unfold deedS; rw [if_neg (by omega), if_neg (by omega), if_pos k4, if_neg hl0]
   rw [ed]
   exact do_plain (h' := { h with af := ad, cf := cd }) L hs hB k.inp k.outs k.und hd (fail1_any _ h u.x u.nm ad u.l cd g w L (by simpa using hl0))
 ·have ef : fK u.x.k = 58 := by unfold fK; rw [if_neg (by omega), if_neg (by omega), if_neg (by omega), if_pos k6]
  have ed : deedS S u = { S with x := { S.x with la := u.x.a, fl := false, tr := 0, nx := S.x.nx - 1 }, und := S.und ++ [u.l] } := by unfold deedS; rw [if_neg (by omega), if_neg (by omega), if_neg (by omega), if_pos k6]
  rw [ef, ed]
  have hrt : ∀ b, (Value.slice h.au S.und.length h.cu).ownBlock = some b → ∃ cs z, w.heap[b]? = some (.cells cs 25 z) := fun b e => by obtain ⟨vs, r1, _⟩ := k.und; exact row_typed r1 b e
  refine (undone_any { S with x := { S.x with la := u.x.a } } h u.x u.nm ad u.l cd B g w L hB k.und hd ⟨hn.1, hn.2.1⟩ (show S.und.length ≤ 100 by omega)).mono fun e w' ⟨a', c', he, hl, hop, hbut⟩ => ?_
  refine ⟨{ h with au := a', cu := c' }, he, hl, ⟨own_other k.inp hbut fun b e => ⟨?_, own_ne_row k.inp k.und b e⟩, ownp_other k.outs hbut hs (ownp_ne_g k.outs L) ?_ hrt ⟨_, L⟩, ?_, own_other k.fail hbut fun b e => ⟨?_, own_ne_row k.fail k.und b e⟩⟩, hbut.below, fun b t cs hbg ht h1 => (hbut.rest b hbg (fun e2 => ?_)).trans h1⟩
  ·have := own_ne_g k.inp L b e; have := (own_block k.inp b e).2; omega
  ·by_cases e9 : (Value.slice h.ao S.outs.length h.co).ownBlock = none
   ·exact .inr e9
   ·obtain ⟨b9, hb9⟩ := Option.ne_none_iff_exists'.1 e9
    exact .inl (fun e8 => k.apart b9 hb9 (by rw [← hb9]; exact e8))
  ·have e9 : (S.und ++ [u.l]).length = S.und.length + 1 := by simp
   have := hop
   rw [← e9] at this
   exact this
  ·have := own_ne_g k.fail L b e; have := (own_block k.fail b e).2; omega
  ·obtain ⟨cs2, z, h4⟩ := hrt b e2
   rw [h1] at h4
   simp at h4
   exact ht h4.2.1
 ·have ef : fK u.x.k = 59 := by unfold fK; rw [if_neg (by omega), if_neg (by omega), if_neg (by omega), if_neg (by omega)]
  have ed : deedS S u = { S with x := { S.x with la := u.x.a, ph := if S.x.ph = 1 then 3 else 4 } } := by unfold deedS; rw [if_neg (by omega), if_neg (by omega), if_neg (by omega), if_neg (by omega)]
  rw [ef, ed]
  by_cases hp : S.x.ph = 1
  ·rw [if_pos hp]
   exact do_plain L hs hB k.inp k.outs k.und k.fail (end1_any _ h u.x u.nm _ g w L (by simpa using hp))
  ·rw [if_neg hp]
   exact do_plain L hs hB k.inp k.outs k.und k.fail (end2_any _ h u.x u.nm _ g w L (by simpa using hp))
theorem deed_2 (w : World) : Calls Tryd.prog 36 #[.int .i64 2] w fun e w' => e = .returned (.func (.func 55) #[] #[]) ∧ w = w' := by
 have hx : (Instr.index 101 (.agg #[.nilFunc, .nilFunc, .func (.func 55) #[] #[], .func (.func 56) #[] #[], .func (.func 57) #[] #[], .func (.func 55) #[] #[], .func (.func 58) #[] #[], .func (.func 59) #[] #[]]) (.int .i64 2)).run Tryd.prog w = .ok (.func (.func 55) #[] #[]) w := rfl
 go_enter Tryd.func36, Tryd.ntmps36
 go_wp2
 go_ret
 exact ⟨rfl, rfl⟩
theorem deed_3 (w : World) : Calls Tryd.prog 36 #[.int .i64 3] w fun e w' => e = .returned (.func (.func 56) #[] #[]) ∧ w = w' := by
 have hx : (Instr.index 101 (.agg #[.nilFunc, .nilFunc, .func (.func 55) #[] #[], .func (.func 56) #[] #[], .func (.func 57) #[] #[], .func (.func 55) #[] #[], .func (.func 58) #[] #[], .func (.func 59) #[] #[]]) (.int .i64 3)).run Tryd.prog w = .ok (.func (.func 56) #[] #[]) w := rfl
 go_enter Tryd.func36, Tryd.ntmps36
 go_wp2
 go_ret
 exact ⟨rfl, rfl⟩
theorem deed_4 (w : World) : Calls Tryd.prog 36 #[.int .i64 4] w fun e w' => e = .returned (.func (.func 57) #[] #[]) ∧ w = w' := by
 have hx : (Instr.index 101 (.agg #[.nilFunc, .nilFunc, .func (.func 55) #[] #[], .func (.func 56) #[] #[], .func (.func 57) #[] #[], .func (.func 55) #[] #[], .func (.func 58) #[] #[], .func (.func 59) #[] #[]]) (.int .i64 4)).run Tryd.prog w = .ok (.func (.func 57) #[] #[]) w := rfl
 go_enter Tryd.func36, Tryd.ntmps36
 go_wp2
 go_ret
 exact ⟨rfl, rfl⟩
theorem deed_5 (w : World) : Calls Tryd.prog 36 #[.int .i64 5] w fun e w' => e = .returned (.func (.func 55) #[] #[]) ∧ w = w' := by
 have hx : (Instr.index 101 (.agg #[.nilFunc, .nilFunc, .func (.func 55) #[] #[], .func (.func 56) #[] #[], .func (.func 57) #[] #[], .func (.func 55) #[] #[], .func (.func 58) #[] #[], .func (.func 59) #[] #[]]) (.int .i64 5)).run Tryd.prog w = .ok (.func (.func 55) #[] #[]) w := rfl
 go_enter Tryd.func36, Tryd.ntmps36
 go_wp2
 go_ret
 exact ⟨rfl, rfl⟩
theorem deed_6 (w : World) : Calls Tryd.prog 36 #[.int .i64 6] w fun e w' => e = .returned (.func (.func 58) #[] #[]) ∧ w = w' := by
 have hx : (Instr.index 101 (.agg #[.nilFunc, .nilFunc, .func (.func 55) #[] #[], .func (.func 56) #[] #[], .func (.func 57) #[] #[], .func (.func 55) #[] #[], .func (.func 58) #[] #[], .func (.func 59) #[] #[]]) (.int .i64 6)).run Tryd.prog w = .ok (.func (.func 58) #[] #[]) w := rfl
 go_enter Tryd.func36, Tryd.ntmps36
 go_wp2
 go_ret
 exact ⟨rfl, rfl⟩
theorem deed_7 (w : World) : Calls Tryd.prog 36 #[.int .i64 7] w fun e w' => e = .returned (.func (.func 59) #[] #[]) ∧ w = w' := by
 have hx : (Instr.index 101 (.agg #[.nilFunc, .nilFunc, .func (.func 55) #[] #[], .func (.func 56) #[] #[], .func (.func 57) #[] #[], .func (.func 55) #[] #[], .func (.func 58) #[] #[], .func (.func 59) #[] #[]]) (.int .i64 7)).run Tryd.prog w = .ok (.func (.func 59) #[] #[]) w := rfl
 go_enter Tryd.func36, Tryd.ntmps36
 go_wp2
 go_ret
 exact ⟨rfl, rfl⟩
def zrl : List Value := [.int .i64 0, .int .i64 0, .int .i64 0, .int .i64 0, .int .i64 0, .int .i64 0, .int .i64 0, .int .i64 0, .int .i64 0, .int .i64 0, .string ⟨#[]⟩, .slice none 0 0]
theorem wpList_build_Z {Z : List Value} (hZ : Z = zcl) {ops : Array Oper} {rest : List Oper} {op : Oper} {a : Act} {w : World} {Q : Exit → Act → World → Prop} (hgd : op.guard = none) (ho : op.op = .build 28 #[])
  (h : wpList Tryd.prog ops Q rest (a.put op.dst (.agg Z.toArray)) (w)) : wpList Tryd.prog ops Q (op :: rest) a w := by
 subst hZ
 refine wpList_plain hgd fun K hK => ?_
 obtain ⟨dst, op', ty, pos, after, guard⟩ := op
 simp only at ho hgd
 subst ho hgd
 have hK2 := hK _ _ h
 clear hK h
 unfold zcl at hK2
 go_simp
 exact hK2
theorem wpList_alloc_Z {Z : List Value} (hZ : Z = zcl) {ops : Array Oper} {rest : List Oper} {op : Oper} {a : Act} {w : World} {Q : Exit → Act → World → Prop} (hgd : op.guard = none) (ho : op.op = .alloc 28)
  (h : wpList Tryd.prog ops Q rest (a.put op.dst (.pointer (some ⟨w.heap.size, 0, none⟩))) (w.alloc (.cells Z.toArray 28))) : wpList Tryd.prog ops Q (op :: rest) a w := by
 subst hZ
 refine wpList_plain hgd fun K hK => ?_
 obtain ⟨dst, op', ty, pos, after, guard⟩ := op
 simp only at ho hgd
 subst ho hgd
 have hK2 := hK _ _ h
 clear hK h
 unfold zcl at hK2
 go_simp
 exact hK2
theorem wpList_alloc_C {Z : List Value} (hZ : Z = zcl) {ops : Array Oper} {rest : List Oper} {op : Oper} {a : Act} {w : World} {Q : Exit → Act → World → Prop} (hgd : op.guard = none) (ho : op.op = .alloc 83)
  (h : wpList Tryd.prog ops Q rest (a.put op.dst (.pointer (some ⟨w.heap.size, 0, none⟩))) (w.alloc (.cells Z.toArray 83))) : wpList Tryd.prog ops Q (op :: rest) a w := by
 subst hZ
 refine wpList_plain hgd fun K hK => ?_
 obtain ⟨dst, op', ty, pos, after, guard⟩ := op
 simp only at ho hgd
 subst ho hgd
 have hK2 := hK _ _ h
 clear hK h
 unfold zcl at hK2
 go_simp
 exact hK2
theorem wpList_alloc_R {Z : List Value} (hZ : Z = zrl) {ops : Array Oper} {rest : List Oper} {op : Oper} {a : Act} {w : World} {Q : Exit → Act → World → Prop} (hgd : op.guard = none) (ho : op.op = .alloc 50)
  (h : wpList Tryd.prog ops Q rest (a.put op.dst (.pointer (some ⟨w.heap.size, 0, none⟩))) (w.alloc (.cells Z.toArray 50))) : wpList Tryd.prog ops Q (op :: rest) a w := by
 subst hZ
 refine wpList_plain hgd fun K hK => ?_
 obtain ⟨dst, op', ty, pos, after, guard⟩ := op
 simp only at ho hgd
 subst ho hgd
 have hK2 := hK _ _ h
 clear hK h
 unfold zrl at hK2
 go_simp
 exact hK2
theorem lb_new3 (w : World) (D E Z : List Value) (t t2 t3 : TypeId) : LB (((w.alloc (.cells D.toArray t)).alloc (.cells E.toArray t2)).alloc (.cells Z.toArray t3)) w.heap.size t D ∧ LB (((w.alloc (.cells D.toArray t)).alloc (.cells E.toArray t2)).alloc (.cells Z.toArray t3)) (w.heap.size + 1) t2 E ∧ LB (((w.alloc (.cells D.toArray t)).alloc (.cells E.toArray t2)).alloc (.cells Z.toArray t3)) (w.heap.size + 1 + 1) t3 Z ∧ Below w.heap.size w (((w.alloc (.cells D.toArray t)).alloc (.cells E.toArray t2)).alloc (.cells Z.toArray t3)) := by
 obtain ⟨a, b, c⟩ := lb_new2 w D E t t2
 refine ⟨a.kept (up0 _ _), b.kept (up0 _ _), ?_, up c _⟩
 have h := lb_new ((w.alloc (.cells D.toArray t)).alloc (.cells E.toArray t2)) Z t3
 rwa [heap_one, heap_one] at h
theorem there_of {w : World} {g : Nat} {t : TypeId} {Z : List Value} {n : Nat} (h : LB w g t Z) (e : n = Z.length) : w.there g 0 n := by rw [e]; exact h.there
theorem infoCourse : (Tryd.prog.info? 83).map (·.size) = some 16 := by kernel_rfl
theorem size_set (w : World) (p : Addr) (v : Value) : (w.setCell p v).heap.size = w.heap.size := by simp [World.setCell]
theorem size_cells (w : World) (g : Nat) : ∀ (vs : List Value) (o : Nat), (w.setCells g o vs).heap.size = w.heap.size := by
 intro vs
 induction vs generalizing w with
 | nil => intro o; rfl
 | cons v r ih => intro o; show ((w.setCell ⟨g, o, none⟩ v).setCells g (o + 1) r).heap.size = _; rw [ih, size_set]
theorem sgOwn_kept {B : Nat} {w w' : World} {S : Sg} {h : SH} (k : SgOwn B w S h) (hb : Below w.heap.size w w') : SgOwn B w' S h := ⟨k.inp.kept hb, k.outs.kept hb, k.und.kept hb, k.fail.kept hb, k.apart⟩
theorem sgOwn_weak {B B2 : Nat} {w : World} {S : Sg} {h : SH} (k : SgOwn B2 w S h) (hB : B ≤ B2) : SgOwn B w S h := ⟨own_weak k.inp hB, k.outs.weak hB, k.und.weak hB, own_weak k.fail hB, k.apart⟩
theorem sgOwn_fresh {B B2 : Nat} {w : World} {S : Sg} {h : SH} (k : SgOwn B2 w S h) (hB : B ≤ B2) (Z C : List Value) (t : TypeId) : SgOwn B ((w.alloc (.cells Z.toArray t)).setCells w.heap.size 0 C) S h := by
 have hb : ∀ b, b < w.heap.size → ((w.alloc (.cells Z.toArray t)).setCells w.heap.size 0 C).heap[b]? = w.heap[b]? := fun b hb => by rw [cells_other _ _ _ _ _ (Nat.ne_of_lt hb), heap_old _ _ _ hb]
 have k2 := sgOwn_weak k hB
 exact ⟨own_keptB k2.inp (fun b e => hb b (own_block k2.inp b e).2), k2.outs.keptB (fun b _ h2 => hb b h2), k2.und.keptB (fun b _ h2 => hb b h2), own_keptB k2.fail (fun b e => hb b (own_block k2.fail b e).2), k2.apart⟩
theorem sgOwn_set {B g : Nat} {w : World} {S : Sg} {h : SH} {C : List Value} (k : SgOwn B w S h) (L : LB w g 83 C) (j : Nat) (v : Value) : SgOwn B (w.setCell ⟨g, j, none⟩ v) S h := by
 have hp : ∀ {u : Value} {ls : List (List Nat)}, OwnP B w u ls → OwnP B (w.setCell ⟨g, j, none⟩ v) u ls := fun {u ls} hq => by
  have hng := ownp_ne_g hq L
  obtain ⟨vs, r1, r2, r3⟩ := hq
  exact ⟨vs, row_kept2 r1 (fun b e => set_other _ _ _ _ (fun e2 => hng (by rw [e]; exact congrArg some e2))), r2, fun i a b => own_keptB (r3 i a b) (fun c e => set_other _ _ _ _ (own_ne_g (r3 i a b) L c e))⟩
 exact ⟨own_keptB k.inp (fun b e => set_other _ _ _ _ (own_ne_g k.inp L b e)), hp k.outs, hp k.und, own_keptB k.fail (fun b e => set_other _ _ _ _ (own_ne_g k.fail L b e)), k.apart⟩
def ApPost (w : World) (a : Int × Sg) (e : Ending) (w' : World) : Prop := ∃ h', e = .returned (.tuple #[sv a.2 h', .int .i64 a.1]) ∧ SgO w.heap.size w' a.2 h' ∧ Below w.heap.size w w'
theorem SgO.weak {B B2 : Nat} {w : World} {S : Sg} {h : SH} (k : SgO B2 w S h) (hB : B ≤ B2) : SgO B w S h := ⟨own_weak k.inp hB, k.outs.weak hB, k.und.weak hB, own_weak k.fail hB⟩
theorem SgO.kept {B : Nat} {w w' : World} {S : Sg} {h : SH} (k : SgO B w S h) (hb : Below w.heap.size w w') : SgO B w' S h := ⟨k.inp.kept hb, k.outs.kept hb, k.und.kept hb, k.fail.kept hb⟩
theorem ownP_nil (B : Nat) (w : World) : OwnP B w (.slice none 0 0) [] := ⟨[], Row.nil _ _, rfl, fun _ h => absurd h (Nat.not_lt_zero _)⟩
theorem sgO_zero (B : Nat) (w : World) : SgO B w zSg ⟨none, 0, none, 0, none, 0, none, 0⟩ := ⟨Own.nil _ _, ownP_nil _ _, ownP_nil _ _, Own.nil _ _⟩
theorem light_of (S : Sg) (h : chkS S = true) : Light S := by
 obtain ⟨⟨_, _, b3, _, _, _, _, b8, b9, b10, b11⟩, hG⟩ := (chkS_iff S).1 h
 have hn : S.outs.length ≤ 32 ∧ S.und.length ≤ 32 := by
  rcases hG with ⟨_, _, _, _, c4, c5, c6, c7, _⟩ | ⟨_, _, _, _, c4, c5, c6, _⟩ | ⟨_, c1, c2, c3, c4, c5, c6, _⟩ | ⟨_, c0, c1, c2, c3, c4, c5, c6, _⟩
  ·rw [c4]; simp; omega
  ·rw [c4]; simp; omega
  ·omega
  ·omega
 refine ⟨by omega, by omega, by omega, by omega, fun l hl => ?_, fun l hl => ?_⟩
 ·have := List.all_eq_true.1 b10 l hl; simp at this; omega
 ·have := List.all_eq_true.1 b11 l hl; simp at this; omega
theorem bnd_of (S : Sg) (h : chkS S = true) : (0 ≤ S.x.nx ∧ S.x.nx ≤ 32) ∧ (0 ≤ S.x.tr ∧ S.x.tr ≤ 1000) := by
 obtain ⟨⟨_, _, b3, _, _, _, b7, _⟩, hG⟩ := (chkS_iff S).1 h
 refine ⟨?_, b7⟩
 rcases hG with ⟨_, _, _, _, c4, c5, c6, c7, _⟩ | ⟨_, _, _, _, c4, c5, c6, _⟩ | ⟨_, c1, c2, c3, c4, c5, c6, _⟩ | ⟨_, c0, c1, c2, c3, c4, c5, c6, _⟩ <;> omega
theorem apply_c (S : Sg) (h : SH) (r : Rec) (d : Value) (w : World) (k : SgAt w S h) (hT : STabs w) (hnm : S.nm.size ≤ 140737488355000) (hc : chkS S = false) : Calls Tryd.prog 23 #[sv S h, rv r.x r.nm d] w fun e w' => ApPost w (100, zSg) e w' := by
 have HCK0 : ∀ w', Below w.heap.size w w' → Calls Tryd.prog 26 #[sv S h] w' fun e w'' => e = .returned (.int .i64 100) ∧ Below w'.heap.size w' w'' := fun w' hb' => by have e := scheck_any S h w' (k.kept hb') (hT.kept hb').e.tabs.lets hnm; rw [hc] at e; exact e
 obtain ⟨Z, hZ⟩ : ∃ Z, Z = zcl := ⟨_, rfl⟩
 have HZ : Hid (Z = zcl) := hZ
 have HZL : Hid (Z.length = 16) := by show _ = _; rw [hZ]; rfl
 have HZI : Hid ((Tryd.prog.info? 28).map (·.size) = some Z.length) := by show _ = _; rw [hZ]; exact infoSaga
 have HZ1 : Hid (∀ v ∈ Z, v.oneCell' = true) := by show ∀ v ∈ Z, _; rw [hZ]; exact scl_one zSg ⟨none, 0, none, 0, none, 0, none, 0⟩
 clear hZ
 obtain ⟨D, hD, hL, hE⟩ := sv_letter S h
 obtain ⟨E, hD2, hL2, hE2⟩ := rv_letter r.x r.nm d
 rw [hD, hD2]
 rw [hD] at HCK0
 have HCK : Hid _ := HCK0
 have HL : Hid _ := hL
 have HE : Hid (D = scl S h) := hE
 have HL2 : Hid _ := hL2
 have HX : Hid (∀ t t2 t3, LB (((w.alloc (.cells D.toArray t)).alloc (.cells E.toArray t2)).alloc (.cells Z.toArray t3)) w.heap.size t D ∧ LB (((w.alloc (.cells D.toArray t)).alloc (.cells E.toArray t2)).alloc (.cells Z.toArray t3)) (w.heap.size + 1) t2 E ∧ LB (((w.alloc (.cells D.toArray t)).alloc (.cells E.toArray t2)).alloc (.cells Z.toArray t3)) (w.heap.size + 1 + 1) t3 Z ∧ Below w.heap.size w (((w.alloc (.cells D.toArray t)).alloc (.cells E.toArray t2)).alloc (.cells Z.toArray t3))) := fun t t2 t3 => lb_new3 w D E Z t t2 t3
 clear hD hL hE hD2 hL2 hE2 HCK0
 go_enter Tryd.func23, Tryd.ntmps23
 go_wp2_with (first | (refine wpList_alloc_Z HZ.out rfl rfl ?_) | (refine wpList_load_mid rfl 28 _ rfl w.heap.size 0 rfl D _ (HX.out _ _ _).1.range Tryd.underlying28 rfl HL.out ?_))
 refine (HCK.out _ (HX.out _ _ _).2.2.2).mono ?_
 rintro e w1 ⟨rfl, b1⟩
 have H1 : Hid (LB w1 w.heap.size 28 D ∧ LB w1 (w.heap.size + 1) 50 E ∧ LB w1 (w.heap.size + 1 + 1) 28 Z ∧ Below w.heap.size w w1) := ⟨(HX.out _ _ _).1.kept b1, (HX.out _ _ _).2.1.kept b1, (HX.out _ _ _).2.2.1.kept b1, andThen (HX.out _ _ _).2.2.2 b1⟩
 clear b1 HX HCK
 clear k hT hnm hc HL HL2 HE
 have HT4 : Hid (w1.there (w.heap.size + 1 + 1) 0 Z.toArray.size) := there_of H1.out.2.2.1 (by simp)
 go_wp2_with (first | (refine wpList_build_Z HZ.out rfl rfl ?_) | (refine wpList_store_mid rfl 28 (.tmp 4) (.tmp 15) rfl (w.heap.size + 1 + 1) 0 Z.toArray rfl rfl HT4.out (by simpa using HZI.out) (all_oneCell_toArray HZ1.out) ?_))
 have HR5 : Hid ((w1.setCells (w.heap.size + 1 + 1) 0 Z).rangeAt (w.heap.size + 1 + 1) 0 Z) := (H1.out.2.2.1.sets Z rfl).range
 have HBF : Hid (Below w.heap.size w (w1.setCells (w.heap.size + 1 + 1) 0 Z)) := below_cells (by omega) _ 0 _ H1.out.2.2.2
 refine bodyPost_ret (results_cell_slot (p := 4) (s := 5) (ty := 28) rfl _ (w1.setCells (w.heap.size + 1 + 1) 0 Z) (w.heap.size + 1 + 1) Z _ rfl HR5.out Tryd.underlying28 rfl HZI.out) rfl ?_
 exact ⟨⟨none, 0, none, 0, none, 0, none, 0⟩, by rw [HZ.out]; rfl, sgO_zero _ _, HBF.out⟩
theorem rcE_one (x : Nums) (nm : ByteArray) (d : Value) (hd : d.oneCell' = true) : ∀ v ∈ rcE x nm d, v.oneCell' = true := by
 intro v hv
 simp only [rcE, List.mem_cons, List.not_mem_nil, or_false] at hv
 rcases hv with rfl | rfl | rfl | rfl | rfl | rfl | rfl | rfl | rfl | rfl | rfl | rfl
 all_goals first | rfl | exact hd
theorem apply_u (S : Sg) (h : SH) (r : Rec) (d : Value) (w : World) (k : SgAt w S h) (hb : Bs w d r.l) (hT : STabs w) (hnm : S.nm.size ≤ 140737488355000) (hnm2 : r.nm.size ≤ 140737488355000) (hf : r.x.fit) (hc : chkS S = true) (h0 : (upP 3 r).1 ≠ 0) : Calls Tryd.prog 23 #[sv S h, rv r.x r.nm d] w fun e w' => ApPost w ((upP 3 r).1, zSg) e w' := by
 have HCK0 : ∀ w', Below w.heap.size w w' → Calls Tryd.prog 26 #[sv S h] w' fun e w'' => e = .returned (.int .i64 0) ∧ Below w'.heap.size w' w'' := fun w' hb' => by have e := scheck_any S h w' (k.kept hb') (hT.kept hb').e.tabs.lets hnm; rw [hc] at e; exact e
 have HUP0 : ∀ w', Below w.heap.size w w' → Calls Tryd.prog 33 #[rv r.x r.nm d, .int .i64 3] w' fun e w'' => OwnT w' w'' (upP 3 r) e := fun w' hb' => up_O 3 r d w' (hb.kept hb') (hT.kept hb').e hnm2 hf
 obtain ⟨Z, hZ⟩ : ∃ Z, Z = zcl := ⟨_, rfl⟩
 have HZ : Hid (Z = zcl) := hZ
 have HZL : Hid (Z.length = 16) := by show _ = _; rw [hZ]; rfl
 have HZI : Hid ((Tryd.prog.info? 28).map (·.size) = some Z.length) := by show _ = _; rw [hZ]; exact infoSaga
 have HZ1 : Hid (∀ v ∈ Z, v.oneCell' = true) := by show ∀ v ∈ Z, _; rw [hZ]; exact scl_one zSg ⟨none, 0, none, 0, none, 0, none, 0⟩
 clear hZ
 obtain ⟨D, hD, hL, hE⟩ := sv_letter S h
 obtain ⟨E, hD2, hL2, hE2⟩ := rv_letter r.x r.nm d
 rw [hD, hD2]
 rw [hD] at HCK0
 rw [hD2] at HUP0
 have HUP : Hid _ := HUP0
 have HCK : Hid _ := HCK0
 have HL : Hid _ := hL
 have HE : Hid (D = scl S h) := hE
 have HL2 : Hid _ := hL2
 have HX : Hid (∀ t t2 t3, LB (((w.alloc (.cells D.toArray t)).alloc (.cells E.toArray t2)).alloc (.cells Z.toArray t3)) w.heap.size t D ∧ LB (((w.alloc (.cells D.toArray t)).alloc (.cells E.toArray t2)).alloc (.cells Z.toArray t3)) (w.heap.size + 1) t2 E ∧ LB (((w.alloc (.cells D.toArray t)).alloc (.cells E.toArray t2)).alloc (.cells Z.toArray t3)) (w.heap.size + 1 + 1) t3 Z ∧ Below w.heap.size w (((w.alloc (.cells D.toArray t)).alloc (.cells E.toArray t2)).alloc (.cells Z.toArray t3))) := fun t t2 t3 => lb_new3 w D E Z t t2 t3
 clear hD hL hE hD2 hL2 hE2 HCK0 HUP0
 go_enter Tryd.func23, Tryd.ntmps23
 go_wp2_with (first | (refine wpList_alloc_Z HZ.out rfl rfl ?_) | (refine wpList_load_mid rfl 28 _ rfl w.heap.size 0 rfl D _ (HX.out _ _ _).1.range Tryd.underlying28 rfl HL.out ?_))
 refine (HCK.out _ (HX.out _ _ _).2.2.2).mono ?_
 rintro e w1 ⟨rfl, b1⟩
 have H1 : Hid (LB w1 w.heap.size 28 D ∧ LB w1 (w.heap.size + 1) 50 E ∧ LB w1 (w.heap.size + 1 + 1) 28 Z ∧ Below w.heap.size w w1) := ⟨(HX.out _ _ _).1.kept b1, (HX.out _ _ _).2.1.kept b1, (HX.out _ _ _).2.2.1.kept b1, andThen (HX.out _ _ _).2.2.2 b1⟩
 clear b1 HX HCK
 clear k hT hnm hnm2 hf hb hc HL HE
 go_wp2_with (refine wpList_load_mid rfl 50 _ rfl (w.heap.size + 1) 0 rfl E _ H1.out.2.1.range Tryd.underlying50 rfl HL2.out ?_)
 refine (HUP.out _ H1.out.2.2.2).mono ?_
 rintro e w2 ⟨ad, cd, rfl, ho2, b2⟩
 have H2 : Hid (LB w2 w.heap.size 28 D ∧ LB w2 (w.heap.size + 1 + 1) 28 Z ∧ Own (w.heap.size + 3) w2 (.slice ad (upP 3 r).2.l.length cd) (upP 3 r).2.l ∧ Below w.heap.size w w2) := ⟨H1.out.1.kept b2, H1.out.2.2.1.kept b2, own_weak ho2 H1.out.2.2.1.lt, andThen H1.out.2.2.2 b2⟩
 clear b2 ho2 H1 HUP HL2
 obtain ⟨u, hu⟩ : ∃ u, (upP 3 r).2 = u := ⟨_, rfl⟩
 have HU : Hid ((upP 3 r).2 = u) := hu
 rw [hu] at H2 ⊢
 clear hu
 obtain ⟨z, hz⟩ : ∃ z, (upP 3 r).1 = z := ⟨_, rfl⟩
 have hz2 : (z != 0) = true := by rw [← hz, bne_iff_ne]; exact h0
 have HZE : Hid ((upP 3 r).1 = z) := hz
 rw [hz]
 clear hz h0
 obtain ⟨G, hG, hGL, hGE⟩ := rv_letter u.x u.nm (.slice ad u.l.length cd)
 rw [hG]
 have HGL : Hid _ := hGL
 have HGE : Hid (G = rcE u.x u.nm (.slice ad u.l.length cd)) := hGE
 have HG1 : Hid (∀ v ∈ G, v.oneCell' = true) := by show ∀ v ∈ G, _; rw [hGE]; exact rcE_one _ _ _ rfl
 clear hG hGL hGE
 obtain ⟨ZR, hZR⟩ : ∃ ZR, ZR = zrl := ⟨_, rfl⟩
 have HZR : Hid (ZR = zrl) := hZR
 have HZRL : Hid (G.length = ZR.length) := by show _ = _; rw [hZR, HGE.out]; rfl
 clear hZR
 have HTZ : Hid (∀ t, (w2.alloc (.cells ZR.toArray t)).there w2.heap.size 0 G.toArray.size) := fun t => there_of (lb_new w2 ZR t) (by simpa using HZRL.out)
 have H3 : Hid (∃ W3, W3 = (w2.alloc (.cells ZR.toArray 50)).setCells w2.heap.size 0 G ∧ LB W3 w.heap.size 28 D ∧ LB W3 (w.heap.size + 1 + 1) 28 Z ∧ Own (w.heap.size + 3) W3 (.slice ad u.l.length cd) u.l ∧ LB W3 w2.heap.size 50 G ∧ w.heap.size + 1 + 1 < w2.heap.size ∧ Below w.heap.size w W3) := ⟨_, rfl, (H2.out.1.kept (up0 _ _)).others _ _ _ (Nat.ne_of_lt H2.out.1.lt), (H2.out.2.1.kept (up0 _ _)).others _ _ _ (Nat.ne_of_lt H2.out.2.1.lt), own_keptB (H2.out.2.2.1.alloc _) (fun b e => cells_other _ _ _ _ _ (Nat.ne_of_lt (own_block H2.out.2.2.1 b e).2)), (lb_new w2 ZR _).sets G HZRL.out, H2.out.2.1.lt, below_cells (Nat.le_of_lt H2.out.1.lt) _ 0 _ (up H2.out.2.2.2 _)⟩
 go_wp2_with (first | (refine wpList_alloc_R HZR.out rfl rfl ?_) | (refine wpList_store_mid rfl 50 (.tmp 7) (.tmp 20) rfl w2.heap.size 0 G.toArray rfl rfl (HTZ.out _) (by simpa using HGL.out) (all_oneCell_toArray HG1.out) ?_; (obtain ⟨W3, hW3, hq⟩ := H3.out); (have H4 : Hid _ := hq); (rw [List.toList_toArray, ← hW3]); (clear hW3 hq H3 HTZ)) | (refine wpList_build_Z HZ.out rfl rfl ?_) | (refine wpList_store_mid rfl 28 (.tmp 4) (.tmp 24) rfl (w.heap.size + 1 + 1) 0 Z.toArray rfl rfl (there_of H4.out.2.1 (by simp)) (by simpa using HZI.out) (all_oneCell_toArray HZ1.out) ?_) | fail)
 have HR5 : Hid ((W3.setCells (w.heap.size + 1 + 1) 0 Z).rangeAt (w.heap.size + 1 + 1) 0 Z) := (H4.out.2.1.sets Z rfl).range
 have HBF : Hid (Below w.heap.size w (W3.setCells (w.heap.size + 1 + 1) 0 Z)) := below_cells (by omega) _ 0 _ H4.out.2.2.2.2.2
 refine bodyPost_ret (results_cell_slot (p := 4) (s := 5) (ty := 28) rfl _ (W3.setCells (w.heap.size + 1 + 1) 0 Z) (w.heap.size + 1 + 1) Z _ rfl HR5.out Tryd.underlying28 rfl HZI.out) rfl ?_
 exact ⟨⟨none, 0, none, 0, none, 0, none, 0⟩, by rw [HZ.out, HZE.out]; rfl, sgO_zero _ _, HBF.out⟩
theorem apply_r (S : Sg) (h : SH) (r : Rec) (d : Value) (w : World) (k : SgAt w S h) (hb : Bs w d r.l) (hT : STabs w) (hnm : S.nm.size ≤ 140737488355000) (hnm2 : r.nm.size ≤ 140737488355000) (hf : r.x.fit) (hc : chkS S = true) (h0 : (upP 3 r).1 = 0) (h1 : refP S.x (upP 3 r).2.x ≠ 0) : Calls Tryd.prog 23 #[sv S h, rv r.x r.nm d] w fun e w' => ApPost w (refP S.x (upP 3 r).2.x, zSg) e w' := by
 have HCK0 : ∀ w', Below w.heap.size w w' → Calls Tryd.prog 26 #[sv S h] w' fun e w'' => e = .returned (.int .i64 0) ∧ Below w'.heap.size w' w'' := fun w' hb' => by have e := scheck_any S h w' (k.kept hb') (hT.kept hb').e.tabs.lets hnm; rw [hc] at e; exact e
 have HUP0 : ∀ w', Below w.heap.size w w' → Calls Tryd.prog 33 #[rv r.x r.nm d, .int .i64 3] w' fun e w'' => OwnT w' w'' (upP 3 r) e := fun w' hb' => up_O 3 r d w' (hb.kept hb') (hT.kept hb').e hnm2 hf
 have HKT : Hid (∀ w', Below w.heap.size w w' → KindsT w') := fun w' hb' => (hT.kept hb').k
 have HBN : Hid ((0 ≤ S.x.nx ∧ S.x.nx ≤ 32) ∧ (0 ≤ S.x.tr ∧ S.x.tr ≤ 1000)) := bnd_of S hc
 have HV3 : Hid (V3 (upP 3 r).2) := (up3 r hb.good h0).1
 obtain ⟨Z, hZ⟩ : ∃ Z, Z = zcl := ⟨_, rfl⟩
 have HZ : Hid (Z = zcl) := hZ
 have HZL : Hid (Z.length = 16) := by show _ = _; rw [hZ]; rfl
 have HZI : Hid ((Tryd.prog.info? 28).map (·.size) = some Z.length) := by show _ = _; rw [hZ]; exact infoSaga
 have HZ1 : Hid (∀ v ∈ Z, v.oneCell' = true) := by show ∀ v ∈ Z, _; rw [hZ]; exact scl_one zSg ⟨none, 0, none, 0, none, 0, none, 0⟩
 clear hZ
 obtain ⟨D, hD, hL, hE⟩ := sv_letter S h
 obtain ⟨E, hD2, hL2, hE2⟩ := rv_letter r.x r.nm d
 rw [hD, hD2]
 rw [hD] at HCK0
 rw [hD2] at HUP0
 have HUP : Hid _ := HUP0
 have HCK : Hid _ := HCK0
 have HL : Hid _ := hL
 have HE : Hid (D = scl S h) := hE
 have HL2 : Hid _ := hL2
 have HX : Hid (∀ t t2 t3, LB (((w.alloc (.cells D.toArray t)).alloc (.cells E.toArray t2)).alloc (.cells Z.toArray t3)) w.heap.size t D ∧ LB (((w.alloc (.cells D.toArray t)).alloc (.cells E.toArray t2)).alloc (.cells Z.toArray t3)) (w.heap.size + 1) t2 E ∧ LB (((w.alloc (.cells D.toArray t)).alloc (.cells E.toArray t2)).alloc (.cells Z.toArray t3)) (w.heap.size + 1 + 1) t3 Z ∧ Below w.heap.size w (((w.alloc (.cells D.toArray t)).alloc (.cells E.toArray t2)).alloc (.cells Z.toArray t3))) := fun t t2 t3 => lb_new3 w D E Z t t2 t3
 clear hD hL hE hD2 hL2 hE2 HCK0 HUP0
 go_enter Tryd.func23, Tryd.ntmps23
 go_wp2_with (first | (refine wpList_alloc_Z HZ.out rfl rfl ?_) | (refine wpList_load_mid rfl 28 _ rfl w.heap.size 0 rfl D _ (HX.out _ _ _).1.range Tryd.underlying28 rfl HL.out ?_))
 refine (HCK.out _ (HX.out _ _ _).2.2.2).mono ?_
 rintro e w1 ⟨rfl, b1⟩
 have H1 : Hid (LB w1 w.heap.size 28 D ∧ LB w1 (w.heap.size + 1) 50 E ∧ LB w1 (w.heap.size + 1 + 1) 28 Z ∧ Below w.heap.size w w1) := ⟨(HX.out _ _ _).1.kept b1, (HX.out _ _ _).2.1.kept b1, (HX.out _ _ _).2.2.1.kept b1, andThen (HX.out _ _ _).2.2.2 b1⟩
 clear b1 HX HCK
 clear k hT hnm hnm2 hf hb
 obtain ⟨z, hz⟩ : ∃ z, refP S.x (upP 3 r).2.x = z := ⟨_, rfl⟩
 have hz2 : (z != 0) = true := by rw [← hz, bne_iff_ne]; exact h1
 have HZE : Hid (refP S.x (upP 3 r).2.x = z) := hz
 clear hz h1
 go_wp2_with (refine wpList_load_mid rfl 50 _ rfl (w.heap.size + 1) 0 rfl E _ H1.out.2.1.range Tryd.underlying50 rfl HL2.out ?_)
 refine (HUP.out _ H1.out.2.2.2).mono ?_
 rintro e w2 ⟨ad, cd, rfl, ho2, b2⟩
 have H2 : Hid (LB w2 w.heap.size 28 D ∧ LB w2 (w.heap.size + 1 + 1) 28 Z ∧ Own (w.heap.size + 3) w2 (.slice ad (upP 3 r).2.l.length cd) (upP 3 r).2.l ∧ Below w.heap.size w w2) := ⟨H1.out.1.kept b2, H1.out.2.2.1.kept b2, own_weak ho2 H1.out.2.2.1.lt, andThen H1.out.2.2.2 b2⟩
 clear b2 ho2 H1 HUP HL2
 obtain ⟨u, hu⟩ : ∃ u, (upP 3 r).2 = u := ⟨_, rfl⟩
 have HU : Hid ((upP 3 r).2 = u) := hu
 rw [hu] at H2 ⊢
 clear hu
 rw [h0]
 obtain ⟨G, hG, hGL, hGE⟩ := rv_letter u.x u.nm (.slice ad u.l.length cd)
 rw [hG]
 have HGL : Hid _ := hGL
 have HGE : Hid (G = rcE u.x u.nm (.slice ad u.l.length cd)) := hGE
 have HG1 : Hid (∀ v ∈ G, v.oneCell' = true) := by show ∀ v ∈ G, _; rw [hGE]; exact rcE_one _ _ _ rfl
 clear hG hGL hGE
 obtain ⟨ZR, hZR⟩ : ∃ ZR, ZR = zrl := ⟨_, rfl⟩
 have HZR : Hid (ZR = zrl) := hZR
 have HZRL : Hid (G.length = ZR.length) := by show _ = _; rw [hZR, HGE.out]; rfl
 clear hZR
 have HTZ : Hid (∀ t, (w2.alloc (.cells ZR.toArray t)).there w2.heap.size 0 G.toArray.size) := fun t => there_of (lb_new w2 ZR t) (by simpa using HZRL.out)
 have H3 : Hid (∃ W3, W3 = (w2.alloc (.cells ZR.toArray 50)).setCells w2.heap.size 0 G ∧ LB W3 w.heap.size 28 D ∧ LB W3 (w.heap.size + 1 + 1) 28 Z ∧ Own (w.heap.size + 3) W3 (.slice ad u.l.length cd) u.l ∧ LB W3 w2.heap.size 50 G ∧ w.heap.size + 1 + 1 < w2.heap.size ∧ Below w.heap.size w W3) := ⟨_, rfl, (H2.out.1.kept (up0 _ _)).others _ _ _ (Nat.ne_of_lt H2.out.1.lt), (H2.out.2.1.kept (up0 _ _)).others _ _ _ (Nat.ne_of_lt H2.out.2.1.lt), own_keptB (H2.out.2.2.1.alloc _) (fun b e => cells_other _ _ _ _ _ (Nat.ne_of_lt (own_block H2.out.2.2.1 b e).2)), (lb_new w2 ZR _).sets G HZRL.out, H2.out.2.1.lt, below_cells (Nat.le_of_lt H2.out.1.lt) _ 0 _ (up H2.out.2.2.2 _)⟩
 have HRF : Hid (∀ w', Below w.heap.size w w' → Calls Tryd.prog 34 #[.agg D.toArray, .agg G.toArray] w' fun e w'' => e = .returned (.int .i64 z) ∧ Below w'.heap.size w' w'') := fun w' hb' => by
  have e := refusal_any S h u.x u.nm (.slice ad u.l.length cd) w' (HKT.out w' hb') HBN.out.1 HBN.out.2 (by have e9 := HV3.out; rw [HU.out] at e9; obtain ⟨_, _, _, e8⟩ := e9; omega)
  rw [show sv S h = .agg D.toArray by rw [HE.out]; rfl, show rv u.x u.nm (.slice ad u.l.length cd) = .agg G.toArray by rw [HGE.out]; rfl, show refP S.x u.x = z by rw [← HU.out]; exact HZE.out] at e
  exact e
 go_wp2_with (first | (refine wpList_alloc_R HZR.out rfl rfl ?_) | (refine wpList_store_mid rfl 50 (.tmp 7) (.tmp 20) rfl w2.heap.size 0 G.toArray rfl rfl (HTZ.out _) (by simpa using HGL.out) (all_oneCell_toArray HG1.out) ?_; (obtain ⟨W3, hW3, hq⟩ := H3.out); (have H4 : Hid _ := hq); (rw [List.toList_toArray, ← hW3]); (clear hW3 hq H3 HTZ)) | (refine wpList_load_mid rfl 28 _ rfl w.heap.size 0 rfl D _ H4.out.1.range Tryd.underlying28 rfl HL.out ?_) | (refine wpList_load_mid rfl 50 _ rfl w2.heap.size 0 rfl G _ H4.out.2.2.2.1.range Tryd.underlying50 rfl HGL.out ?_) | fail)
 refine (HRF.out _ H4.out.2.2.2.2.2).mono ?_
 rintro e w4 ⟨rfl, b4⟩
 have H5 : Hid (LB w4 w.heap.size 28 D ∧ LB w4 (w.heap.size + 1 + 1) 28 Z ∧ Own (w.heap.size + 3) w4 (.slice ad u.l.length cd) u.l ∧ LB w4 w2.heap.size 50 G ∧ w.heap.size + 1 + 1 < w2.heap.size ∧ Below w.heap.size w w4) := ⟨H4.out.1.kept b4, H4.out.2.1.kept b4, H4.out.2.2.1.kept b4, H4.out.2.2.2.1.kept b4, H4.out.2.2.2.2.1, andThen H4.out.2.2.2.2.2 b4⟩
 clear b4 HRF H4 HKT HBN
 have HT4 : Hid (w4.there (w.heap.size + 1 + 1) 0 Z.toArray.size) := there_of H5.out.2.1 (by simp)
 clear hc h0 HV3 HE HL HGL HGE HG1
 go_wp2_with (first | (refine wpList_build_Z HZ.out rfl rfl ?_) | (refine wpList_store_mid rfl 28 (.tmp 4) (.tmp 31) rfl (w.heap.size + 1 + 1) 0 Z.toArray rfl rfl HT4.out (by simpa using HZI.out) (all_oneCell_toArray HZ1.out) ?_))
 have HR5 : Hid ((w4.setCells (w.heap.size + 1 + 1) 0 Z).rangeAt (w.heap.size + 1 + 1) 0 Z) := (H5.out.2.1.sets Z rfl).range
 have HBF : Hid (Below w.heap.size w (w4.setCells (w.heap.size + 1 + 1) 0 Z)) := below_cells (by omega) _ 0 _ H5.out.2.2.2.2.2
 refine bodyPost_ret (results_cell_slot (p := 4) (s := 5) (ty := 28) rfl _ (w4.setCells (w.heap.size + 1 + 1) 0 Z) (w.heap.size + 1 + 1) Z _ rfl HR5.out Tryd.underlying28 rfl HZI.out) rfl ?_
 exact ⟨⟨none, 0, none, 0, none, 0, none, 0⟩, by rw [HZ.out, HZE.out]; rfl, sgO_zero _ _, HBF.out⟩
end Go.Proofs.YtodcakplmoajiaaDoor
