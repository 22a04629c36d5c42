import Derived.Test.YtenhaogheilmoaaDoorQV3
import Derived.Test.YtenhaogheilmoaaDoorQV1
import Derived.Test.YtenhaogheilmoaaDoorQV2
/-
  Package archive: the reader's record.
-/
namespace Go.Proofs.YtenhaogheilmoaaDoor
open Go Go.RowKit
open Wb

def zrc : List Value := [.int .i64 0, .int .i64 0, .int .i64 0, .int .i64 0, .int .i64 0, .int .i64 0, .int .i64 0, .int .i64 0, .int .i64 0, .int .i64 0, .string ⟨#[]⟩, .slice none 0 0]
theorem step_alloc_R {Z : List Value} (hZ : Z = zrc) {ops : Array Oper} {o : Oper} {a : Act} {w : World} {K : Act → World → Prop} {Q : Exit → Act → World → Prop} {E : Prop} (hgd : o.guard = none) (ho : o.op = .alloc 44)
    (h : K (a.put o.dst (.pointer (some ⟨w.heap.size, 0, none⟩))) (w.alloc (.cells Z.toArray 44))) : if Region.wanted o (yielded ops a.tmps) = true then Oper.wp Tryd.prog o a w K Q else E := by
  subst hZ
  rw [if_pos (by simp [Region.wanted, hgd])]
  obtain ⟨dst, op', ty, pos, after, guard⟩ := o
  simp only at ho hgd
  subst ho hgd
  unfold zrc at h
  go_simp
  exact h
theorem step_storeR {P : Program} {ops : Array Oper} {o : Oper} {a : Act} {w : World} {K : Act → World → Prop} {Q : Exit → Act → World → Prop} {E : Prop} (hgd : o.guard = none) (ty : TypeId) (x y : Operand) (ho : o.op = .store ty x y)
    (b f : Nat) (cells : Array Value) (hx : a.eval x = .pointer (some ⟨b, f, none⟩)) (hy : a.eval y = .agg cells) (ht : w.there b f cells.size) (hi : (P.info? ty).map (·.size) = some cells.size) (h1 : cells.all (·.oneCell') = true)
    (h : K (a.put o.dst undef) (w.setCells b f cells.toList)) : if Region.wanted o (yielded ops a.tmps) = true then Oper.wp P o a w K Q else E := by
  rw [if_pos (by simp [Region.wanted, hgd])]
  exact wp_store_mid ty x y ho b f cells hx hy ht hi h1 h
def RcPost (B g : Nat) (bv : Value) (at_ : Int) (lf : Nat) (tp : Int) (vr : Value) (ps : List (Rec × Value)) (O : Option Rec) (w : World) (e : Ending) (w' : World) : Prop :=
  Below B w w' ∧ match O with
  | none => ∃ z : Int, z ≠ 0 ∧ e = .returned (.int .i64 z) ∧ ARd w' g bv at_ lf tp vr ∧ OutT B w' vr ps
  | some r => e = .returned (.int .i64 0) ∧ ∃ vr' d, ARd w' g bv at_ lf tp vr' ∧ OutT B w' vr' (ps ++ [(r, d)])
set_option maxRecDepth 100000 in
set_option maxHeartbeats 8000000 in
theorem arrecord_dec (B g : Nat) (bb off n cap : Nat) (c1 : Nat) (sv : Value) (x : Nums) (nm : ByteArray) (l : List Nat) (ez : Int) (bv : Value) (at_ : Int) (lf : Nat) (tp : Int) (vr : Value) (ps : List (Rec × Value)) (w : World) (h : ARd w g bv at_ lf tp vr) (ho : OutT B w vr ps) (hB : B ≤ g) (hn : ps.length ≤ 10000000)
    (h2 : 2 ≤ n) (hnc : n ≤ cap) (hcm : cap ≤ 9223372036854775807) (hc1 : c1 < 256) (hsv : (cap = 2 ∧ n = 2 ∧ sv = .slice (some ⟨bb, off, none⟩) 0 0) ∨ (2 < cap ∧ sv = .slice (some ⟨bb, off + 2, none⟩) (n - 2) (cap - 2)))
    (x0 : w.cell? ⟨bb, off, none⟩ = some (.int .u8 82)) (x1 : w.cell? ⟨bb, off + 1, none⟩ = some (.int .u8 (c1 : Int)))
    (HD : ∀ W, Below w.heap.size w W → Calls Tryd.prog 69 #[.int .i64 (c1 : Int), sv] W fun e w'' => ∃ ad cd, e = .returned (.tuple #[rv x nm (.slice ad l.length cd), .int .i64 ez]) ∧ Own W.heap.size w'' (.slice ad l.length cd) l ∧ Below W.heap.size W w'') :
    Calls Tryd.prog 52 #[.pointer (some ⟨g, 0, none⟩), .slice (some ⟨bb, off, none⟩) n cap] w fun e w' => RcPost B g bv at_ lf tp vr ps (if ez = 0 then some ⟨x, nm, l⟩ else none) w e w' := by
  have hlt : g < w.heap.size := LB.lt (show LB w g 60 _ from h)
  have hin := infoR12
  have HIR : Hid ((Tryd.prog.info? 44).map (·.size) = some 12) := infoRec
  obtain ⟨Z, hZ⟩ : ∃ Z, Z = zrc := ⟨_, rfl⟩
  have HZL : Hid (Z.length = 12) := by rw [hZ]; rfl
  have hZ' : Hid (Z = zrc) := hZ
  clear hZ
  have HX1 : Hid (∀ W, Below w.heap.size w W → W.cell? ⟨bb, off + 1, none⟩ = some (.int .u8 (c1 : Int))) := fun W hb => (hb.cell (p := ⟨bb, off + 1, none⟩) (World.block_lt_of_cell? _ _ x1)).trans x1
  have HD' : Hid _ := HD
  have H0 : Hid (ARd w g bv at_ lf tp vr ∧ OutT B w vr ps) := ⟨h, ho⟩
  have HSV : Hid _ := hsv
  have HRB : Hid (∀ g', vr.ownBlock = some g' → g' < w.heap.size) := fun g e => (World.ownsRow.lt ho.1 g e).2
  have d1 : ((n : Int) == 1) = false := by simp; omega
  have hwr : IntKind.i64.wrap (c1 : Int) = (c1 : Int) := IntWalk.i64_in _ (by omega)
  have d3 : ((2 : Int) ≤ (n : Int)) = True := by simp; omega
  have d2 : ((1 : Int) < (n : Int)) = True := by simp; omega
  obtain ⟨O, hO⟩ : ∃ O, (if ez = 0 then some (⟨x, nm, l⟩ : Rec) else none) = O := ⟨_, rfl⟩
  rw [hO]
  have HO9 : Hid _ := hO
  clear h ho HD hsv hO

  go_enter Tryd.func52, Tryd.ntmps52
  go_upto_region 5 with fail
  go_cut [5, 6] from 14 to 23 (fun s5 s6 wx => ∃ ga ad, ∃ cd : Nat, s5 = .pointer (some ⟨ga, 0, none⟩) ∧ s6 = .int .i64 ez ∧ LB wx ga 44 [.int .i64 x.v, .int .i64 x.k, .int .i64 x.s, .int .i64 x.p, .int .i64 x.t, .int .i64 x.a, .int .i64 x.l, .int .i64 x.c, .int .i64 x.n, .int .i64 x.i, .string nm, .slice ad l.length cd] ∧ Own w.heap.size wx (.slice ad l.length cd) l ∧ Below w.heap.size w wx ∧ w.heap.size ≤ ga)
  case first =>
    have hd0 := Below.drew (Below.refl w.heap.size w)
    refine wp_region_held_drew (S := fun w' : World => w'.cell? ⟨bb, off + 1, none⟩ = some (.int .u8 (c1 : Int))) (by kernel_rfl) (HX1.out _ hd0) (fun hH => ?_)
    generalize w.drew = W0 at *
    refine zqk 0 rfl hH ?_
    simp only [Act.put, List.setIfInBounds_toArray, List.set_cons_zero, List.set_cons_succ, List.getElem_toArray, List.getElem_cons_zero]
    refine zqk 1 rfl hH ?_
    simp only [Act.put, List.setIfInBounds_toArray, List.set_cons_zero, List.set_cons_succ, List.getElem_toArray, List.getElem_cons_zero, List.getElem_cons_succ]
    refine zqk 2 rfl hH ?_
    simp only [Act.put, List.setIfInBounds_toArray, List.set_cons_zero, List.set_cons_succ, List.getElem_toArray, List.getElem_cons_zero, List.getElem_cons_succ]
    refine zqk 3 rfl hH ?_
    simp only [Act.put, List.setIfInBounds_toArray, List.set_cons_zero, List.set_cons_succ, List.getElem_toArray, List.getElem_cons_zero, List.getElem_cons_succ]
    refine zqk 4 rfl hH ?_
    simp only [Act.put, List.setIfInBounds_toArray, List.set_cons_zero, List.set_cons_succ, List.getElem_toArray, List.getElem_cons_zero, List.getElem_cons_succ]
    refine zqk (v := sv) 5 rfl hH ?_ (hy := by
      intro w' hSw
      rcases HSV.out with ⟨e1, e2, e3⟩ | ⟨e1, e3⟩
      · subst e1 e2 e3
        go_simp
        all_goals rfl
      · subst e3
        have e4 : (cap = 2) = False := by simp; omega
        go_simp
        all_goals rfl)
    simp only [Act.put, List.setIfInBounds_toArray, List.set_cons_zero, List.set_cons_succ, List.getElem_toArray, List.getElem_cons_zero, List.getElem_cons_succ]
    refine wpAnyH_ready (rs := [6, 10]) (by kernel_rfl) (by simp) ?_
    refine AllReadyH.cons rfl (fun K hK => ?_) (AllReadyH.cons rfl (fun K hK => ?_) AllReadyH.nil)
    · go_simp
      refine (HD'.out _ hd0).mono ?_
      rintro e w1 ⟨ad, cd, rfl, o1, b1⟩
      unfold rv
      have B1 := andThen hd0 b1
      refine hK.out _ _ (HX1.out _ B1) (fun hH2 => ?_)
      clear hK K hH
      have hH := hH2
      clear hH2
      try simp only [Act.put, List.setIfInBounds_toArray, List.set_cons_zero, List.set_cons_succ, List.getElem_toArray, List.getElem_cons_zero, List.getElem_cons_succ]
      refine zqk 7 rfl hH ?_
      simp only [Act.put, List.setIfInBounds_toArray, List.set_cons_zero, List.set_cons_succ, List.getElem_toArray, List.getElem_cons_zero, List.getElem_cons_succ]
      refine zqk 8 rfl hH ?_
      simp only [Act.put, List.setIfInBounds_toArray, List.set_cons_zero, List.set_cons_succ, List.getElem_toArray, List.getElem_cons_zero, List.getElem_cons_succ]
      refine zqk 9 rfl hH ?_
      simp only [Act.put, List.setIfInBounds_toArray, List.set_cons_zero, List.set_cons_succ, List.getElem_toArray, List.getElem_cons_zero, List.getElem_cons_succ]
      refine zqr 10 rfl (fun K hK => ?_)
      refine step_alloc_R hZ'.out rfl rfl ?_
      have L1 := lb_new w1 Z 44
      have B2 := up B1 (.cells Z.toArray 44)
      have o2 : Own w.heap.size (w1.alloc (.cells Z.toArray 44)) (.slice ad l.length cd) l := (own_weak o1 hd0.size).alloc _
      have hsz : w.heap.size ≤ w1.heap.size := B1.size
      obtain ⟨ga, hga⟩ : ∃ ga, w1.heap.size = ga := ⟨_, rfl⟩
      have hgo : Hid (∀ g', (Value.slice ad l.length cd).ownBlock = some g' → g' < ga) := fun g' e => hga ▸ (own_block o1 g' e).2
      rw [hga] at L1 hsz ⊢
      generalize w1.alloc (.cells Z.toArray 44) = W2 at *
      refine hK.out _ _ (HX1.out _ B2) (fun hH2 => ?_)
      clear hK K hH b1 B1 o1
      have hH := hH2
      clear hH2
      simp only [Act.put, List.setIfInBounds_toArray, List.set_cons_zero, List.set_cons_succ, List.getElem_toArray, List.getElem_cons_zero, List.getElem_cons_succ]
      refine zqr 11 rfl (fun K hK => ?_)
      refine step_storeR rfl 44 _ _ rfl ga 0 #[.int .i64 x.v, .int .i64 x.k, .int .i64 x.s, .int .i64 x.p, .int .i64 x.t, .int .i64 x.a, .int .i64 x.l, .int .i64 x.c, .int .i64 x.n, .int .i64 x.i, .string nm, .slice ad l.length cd] rfl rfl (there_of L1 HZL.out.symm) HIR.out (all_oneCell_toArray (by intro u hu; simp only [List.mem_cons, List.not_mem_nil, or_false] at hu; rcases hu with rfl | rfl | rfl | rfl | rfl | rfl | rfl | rfl | rfl | rfl | rfl | rfl <;> rfl)) ?_
      have L3 := L1.sets [.int .i64 x.v, .int .i64 x.k, .int .i64 x.s, .int .i64 x.p, .int .i64 x.t, .int .i64 x.a, .int .i64 x.l, .int .i64 x.c, .int .i64 x.n, .int .i64 x.i, .string nm, .slice ad l.length cd] (by rw [HZL.out]; rfl)
      have B3 := below_cells (a := w) hsz [.int .i64 x.v, .int .i64 x.k, .int .i64 x.s, .int .i64 x.p, .int .i64 x.t, .int .i64 x.a, .int .i64 x.l, .int .i64 x.c, .int .i64 x.n, .int .i64 x.i, .string nm, .slice ad l.length cd] 0 W2 B2
      have o3 : Own w.heap.size (W2.setCells ga 0 [.int .i64 x.v, .int .i64 x.k, .int .i64 x.s, .int .i64 x.p, .int .i64 x.t, .int .i64 x.a, .int .i64 x.l, .int .i64 x.c, .int .i64 x.n, .int .i64 x.i, .string nm, .slice ad l.length cd]) (.slice ad l.length cd) l := own_keptB o2 fun g' e => cells_other ga [.int .i64 x.v, .int .i64 x.k, .int .i64 x.s, .int .i64 x.p, .int .i64 x.t, .int .i64 x.a, .int .i64 x.l, .int .i64 x.c, .int .i64 x.n, .int .i64 x.i, .string nm, .slice ad l.length cd] 0 W2 g' (Nat.ne_of_lt (hgo.out g' e))
      refine hK.out _ _ (HX1.out _ B3) (fun hH2 => ?_)
      clear hK K hH
      have hH := hH2
      clear hH2
      refine zqk 12 rfl hH ?_
      simp only [Act.put, List.setIfInBounds_toArray, List.set_cons_zero, List.set_cons_succ, List.getElem_toArray, List.getElem_cons_zero, List.getElem_cons_succ]
      refine wpAnyH_done (by kernel_rfl) ?_ _
      have HF : Hid _ := And.intro L3 (And.intro o3 (And.intro B3 hsz))
      clear L1 L3 B2 B3 o2 o3
      generalize W2.setCells ga 0 [.int .i64 x.v, .int .i64 x.k, .int .i64 x.s, .int .i64 x.p, .int .i64 x.t, .int .i64 x.a, .int .i64 x.l, .int .i64 x.c, .int .i64 x.n, .int .i64 x.i, .string nm, .slice ad l.length cd] = W3 at *
      go_wp2_with fail
      go_meet
      exact ⟨_, _, _, rfl, rfl, HF.out⟩
    · refine step_alloc_R hZ'.out rfl rfl ?_
      have L1 := lb_new W0 Z 44
      have B2 := up hd0 (.cells Z.toArray 44)
      have hsz : w.heap.size ≤ W0.heap.size := hd0.size
      obtain ⟨ga, hga⟩ : ∃ ga, W0.heap.size = ga := ⟨_, rfl⟩
      have hgW : ga < (W0.alloc (.cells Z.toArray 44)).heap.size := by rw [heap_one, hga]; omega
      rw [hga] at L1 hsz ⊢
      generalize W0.alloc (.cells Z.toArray 44) = W1 at *
      refine hK.out _ _ (HX1.out _ B2) (fun hH2 => ?_)
      clear hK K hH
      have hH := hH2
      clear hH2
      simp only [Act.put, List.setIfInBounds_toArray, List.set_cons_zero, List.set_cons_succ, List.getElem_toArray, List.getElem_cons_zero, List.getElem_cons_succ]
      refine zqr 6 rfl (fun K hK => ?_)
      go_simp
      refine (HD'.out _ B2).mono ?_
      rintro e w2 ⟨ad, cd, rfl, o1, b1⟩
      unfold rv
      have B1 := andThen B2 b1
      refine hK.out _ _ (HX1.out _ B1) (fun hH2 => ?_)
      clear hK K hH
      have hH := hH2
      clear hH2
      try simp only [Act.put, List.setIfInBounds_toArray, List.set_cons_zero, List.set_cons_succ, List.getElem_toArray, List.getElem_cons_zero, List.getElem_cons_succ]
      refine zqk 7 rfl hH ?_
      simp only [Act.put, List.setIfInBounds_toArray, List.set_cons_zero, List.set_cons_succ, List.getElem_toArray, List.getElem_cons_zero, List.getElem_cons_succ]
      refine zqk 8 rfl hH ?_
      simp only [Act.put, List.setIfInBounds_toArray, List.set_cons_zero, List.set_cons_succ, List.getElem_toArray, List.getElem_cons_zero, List.getElem_cons_succ]
      refine zqk 9 rfl hH ?_
      simp only [Act.put, List.setIfInBounds_toArray, List.set_cons_zero, List.set_cons_succ, List.getElem_toArray, List.getElem_cons_zero, List.getElem_cons_succ]
      refine zqr 11 rfl (fun K hK => ?_)
      have L2 := L1.kept b1
      refine step_storeR rfl 44 _ _ rfl ga 0 #[.int .i64 x.v, .int .i64 x.k, .int .i64 x.s, .int .i64 x.p, .int .i64 x.t, .int .i64 x.a, .int .i64 x.l, .int .i64 x.c, .int .i64 x.n, .int .i64 x.i, .string nm, .slice ad l.length cd] rfl rfl (there_of L2 HZL.out.symm) HIR.out (all_oneCell_toArray (by intro u hu; simp only [List.mem_cons, List.not_mem_nil, or_false] at hu; rcases hu with rfl | rfl | rfl | rfl | rfl | rfl | rfl | rfl | rfl | rfl | rfl | rfl <;> rfl)) ?_
      have L3 := L2.sets [.int .i64 x.v, .int .i64 x.k, .int .i64 x.s, .int .i64 x.p, .int .i64 x.t, .int .i64 x.a, .int .i64 x.l, .int .i64 x.c, .int .i64 x.n, .int .i64 x.i, .string nm, .slice ad l.length cd] (by rw [HZL.out]; rfl)
      have B3 := below_cells (a := w) hsz [.int .i64 x.v, .int .i64 x.k, .int .i64 x.s, .int .i64 x.p, .int .i64 x.t, .int .i64 x.a, .int .i64 x.l, .int .i64 x.c, .int .i64 x.n, .int .i64 x.i, .string nm, .slice ad l.length cd] 0 w2 B1
      have o3 : Own w.heap.size (w2.setCells ga 0 [.int .i64 x.v, .int .i64 x.k, .int .i64 x.s, .int .i64 x.p, .int .i64 x.t, .int .i64 x.a, .int .i64 x.l, .int .i64 x.c, .int .i64 x.n, .int .i64 x.i, .string nm, .slice ad l.length cd]) (.slice ad l.length cd) l := own_keptB (own_weak o1 B2.size) fun g' e => cells_other ga [.int .i64 x.v, .int .i64 x.k, .int .i64 x.s, .int .i64 x.p, .int .i64 x.t, .int .i64 x.a, .int .i64 x.l, .int .i64 x.c, .int .i64 x.n, .int .i64 x.i, .string nm, .slice ad l.length cd] 0 w2 g' (fun e2 => by have := (own_block o1 g' e).1; omega)
      refine hK.out _ _ (HX1.out _ B3) (fun hH2 => ?_)
      clear hK K hH
      have hH := hH2
      clear hH2
      refine zqk 12 rfl hH ?_
      simp only [Act.put, List.setIfInBounds_toArray, List.set_cons_zero, List.set_cons_succ, List.getElem_toArray, List.getElem_cons_zero, List.getElem_cons_succ]
      refine wpAnyH_done (by kernel_rfl) ?_ _
      have HF : Hid _ := And.intro L3 (And.intro o3 (And.intro B3 hsz))
      clear L1 L2 L3 B1 B2 B3 o1 o3 b1
      generalize w2.setCells ga 0 [.int .i64 x.v, .int .i64 x.k, .int .i64 x.s, .int .i64 x.p, .int .i64 x.t, .int .i64 x.a, .int .i64 x.l, .int .i64 x.c, .int .i64 x.n, .int .i64 x.i, .string nm, .slice ad l.length cd] = W3 at *
      go_wp2_with fail
      go_meet
      exact ⟨_, _, _, rfl, rfl, HF.out⟩
  case rest =>
    obtain ⟨ga, ad, cd, rfl, rfl, LE, OE, BE, hga⟩ := hcut
    by_cases hez : ez = 0
    · subst hez
      have hO9 : some (⟨x, nm, l⟩ : Rec) = O := HO9.out
      subst hO9
      clear HO9
      obtain ⟨C, hC⟩ : ∃ C, C = [bv, .int .i64 at_, .int .u64 (lf : Int), .int .i64 tp, vr] := ⟨_, rfl⟩
      have HC : Hid _ := hC
      have LG : LB wc g 60 C := by rw [hC]; exact (show LB w g 60 _ from H0.out.1).kept BE
      have HO : OutT B wc vr ps := H0.out.2.kept BE
      have hgg : g ≠ ga := by omega
      have hBw : B ≤ w.heap.size := by omega
      obtain ⟨av, nv, cv, rfl⟩ : ∃ a n c, vr = .slice a n c := by rcases HO.1.2 with ⟨e, _⟩ | ⟨_, _, _, e, _⟩ <;> exact ⟨_, _, _, e⟩
      have hlw : ga < wc.heap.size := LE.lt
      have H3 : Hid (LB wc g 60 C ∧ LB wc ga 44 [.int .i64 x.v, .int .i64 x.k, .int .i64 x.s, .int .i64 x.p, .int .i64 x.t, .int .i64 x.a, .int .i64 x.l, .int .i64 x.c, .int .i64 x.n, .int .i64 x.i, .string nm, .slice ad l.length cd] ∧ Below w.heap.size w wc ∧ OutT B wc (.slice av nv cv) ps ∧ Own B wc (.slice ad l.length cd) l ∧ ga < wc.heap.size) := ⟨LG, LE, BE, HO, own_weak OE hBw, hlw⟩
      have HFIN : Hid (∀ (W W' : World) (v' : Value), (LB W g 60 C ∧ LB W ga 44 [.int .i64 x.v, .int .i64 x.k, .int .i64 x.s, .int .i64 x.p, .int .i64 x.t, .int .i64 x.a, .int .i64 x.l, .int .i64 x.c, .int .i64 x.n, .int .i64 x.i, .string nm, .slice ad l.length cd] ∧ Below w.heap.size w W ∧ OutT B W (.slice av nv cv) ps ∧ Own B W (.slice ad l.length cd) l ∧ ga < W.heap.size) → OutT B W' v' (ps ++ [(⟨x, nm, l⟩, .slice ad l.length cd)]) → Below B W W' → W.grownBy W' (Value.slice av nv cv).ownBlock → RcPost B g bv at_ lf tp (.slice av nv cv) ps (some ⟨x, nm, l⟩) w (.returned (.int .i64 0)) (W'.setCell ⟨g, 4, none⟩ v')) := by
        intro W W' v' H hrow hb' hgr
        have hrg : (Value.slice av nv cv).ownBlock ≠ some g := fun e => by obtain ⟨cs, z, h9⟩ := rrow_typed H.2.2.2.1.1 g e; rw [H.1] at h9; simp at h9
        have hLt : LB W' g 60 C := (hgr.block g H.1.lt (Ne.symm hrg)).trans H.1
        have hx : ExT g W' (W'.setCell ⟨g, 4, none⟩ v') := fun b hb _ => set_other _ _ _ _ hb
        refine ⟨Below.setCell ((H.2.2.1.mono hBw).trans hb') hB _, rfl, v', _, ?_, hrow.but hLt (by decide) (by decide) hx⟩
        have e := hLt.set 4 v'
        rw [HC.out] at e
        exact e
      clear LG LE BE HO OE H0 hC hlw
      go_wp2_with fail
      refine wp_region_held_drew (S := fun w' : World => w'.rangeAt ga 0 [.int .i64 x.v, .int .i64 x.k, .int .i64 x.s, .int .i64 x.p, .int .i64 x.t, .int .i64 x.a, .int .i64 x.l, .int .i64 x.c, .int .i64 x.n, .int .i64 x.i, .string nm, .slice ad l.length cd]) (by kernel_rfl) (H3.out.2.1.kept (Below.drew (Below.refl _ _))).range (fun hH => ?_)
      have b9 : Below wc.heap.size wc wc.drew := Below.drew (Below.refl _ _)
      have H4 : Hid (LB wc.drew g 60 C ∧ LB wc.drew ga 44 [.int .i64 x.v, .int .i64 x.k, .int .i64 x.s, .int .i64 x.p, .int .i64 x.t, .int .i64 x.a, .int .i64 x.l, .int .i64 x.c, .int .i64 x.n, .int .i64 x.i, .string nm, .slice ad l.length cd] ∧ Below w.heap.size w wc.drew ∧ OutT B wc.drew (.slice av nv cv) ps ∧ Own B wc.drew (.slice ad l.length cd) l ∧ ga < wc.drew.heap.size) := ⟨H3.out.1.kept b9, H3.out.2.1.kept b9, andThen H3.out.2.2.1 b9, H3.out.2.2.2.1.kept b9, H3.out.2.2.2.2.1.kept b9, Nat.lt_of_lt_of_le H3.out.2.2.2.2.2 b9.size⟩
      clear H3 b9
      generalize wc.drew = W5 at *
      have HRW : Hid (∀ g', (Value.slice av nv cv).ownBlock = some g' → g' ≠ ga) := fun g' e => by have := HRB.out g' e; omega
      refine zqk 0 rfl hH ?_
      simp only [Act.put, List.setIfInBounds_toArray, List.set_cons_zero, List.set_cons_succ, List.getElem_toArray, List.getElem_cons_zero]
      refine zqk 1 rfl hH ?_
      simp only [Act.put, List.setIfInBounds_toArray, List.set_cons_zero, List.set_cons_succ, List.getElem_toArray, List.getElem_cons_zero, List.getElem_cons_succ]
      refine zqk 2 rfl hH ?_
      simp only [Act.put, List.setIfInBounds_toArray, List.set_cons_zero, List.set_cons_succ, List.getElem_toArray, List.getElem_cons_zero, List.getElem_cons_succ]
      refine zqk 3 rfl hH ?_
      simp only [Act.put, List.setIfInBounds_toArray, List.set_cons_zero, List.set_cons_succ, List.getElem_toArray, List.getElem_cons_zero, List.getElem_cons_succ]
      refine zqk 4 rfl hH ?_
      simp only [Act.put, List.setIfInBounds_toArray, List.set_cons_zero, List.set_cons_succ, List.getElem_toArray, List.getElem_cons_zero, List.getElem_cons_succ]
      refine wpAnyH_take (i := 6) rfl (by kernel_rfl) (by kernel_rfl) (by kernel_rfl) (fun _ _ _ h => h) (yieldsIf_load_mid (by rfl) _ _ rfl _ _ rfl [.int .i64 x.v, .int .i64 x.k, .int .i64 x.s, .int .i64 x.p, .int .i64 x.t, .int .i64 x.a, .int .i64 x.l, .int .i64 x.c, .int .i64 x.n, .int .i64 x.i, .string nm, .slice ad l.length cd] _ (fun w' hSw => hSw) Tryd.underlying44 rfl HIR.out) hH ?_
      simp only [Act.put, List.setIfInBounds_toArray, List.set_cons_zero, List.set_cons_succ, List.getElem_toArray, List.getElem_cons_zero, List.getElem_cons_succ]
      have c4 := H4.out.1.cell 4 (.slice av nv cv) (by rw [HC.out]; rfl)
      have HKP : Hid (∀ W : World, (LB W g 60 C ∧ LB W ga 44 [.int .i64 x.v, .int .i64 x.k, .int .i64 x.s, .int .i64 x.p, .int .i64 x.t, .int .i64 x.a, .int .i64 x.l, .int .i64 x.c, .int .i64 x.n, .int .i64 x.i, .string nm, .slice ad l.length cd] ∧ Below w.heap.size w W ∧ OutT B W (.slice av nv cv) ps ∧ Own B W (.slice ad l.length cd) l ∧ ga < W.heap.size) → ∀ o, (LB (W.alloc o) g 60 C ∧ LB (W.alloc o) ga 44 [.int .i64 x.v, .int .i64 x.k, .int .i64 x.s, .int .i64 x.p, .int .i64 x.t, .int .i64 x.a, .int .i64 x.l, .int .i64 x.c, .int .i64 x.n, .int .i64 x.i, .string nm, .slice ad l.length cd] ∧ Below w.heap.size w (W.alloc o) ∧ OutT B (W.alloc o) (.slice av nv cv) ps ∧ Own B (W.alloc o) (.slice ad l.length cd) l ∧ ga < (W.alloc o).heap.size)) := fun W H o => ⟨H.1.kept (up0 _ _), H.2.1.kept (up0 _ _), up H.2.2.1 _, H.2.2.2.1.kept (up0 _ _), H.2.2.2.2.1.kept (up0 _ _), Nat.lt_of_lt_of_le H.2.2.2.2.2 (up0 W o).size⟩
      refine wpAnyH_ready (rs := [5, 7]) (by kernel_rfl) (by simp) ?_
      refine AllReadyH.cons rfl (fun K hK => ?_) (AllReadyH.cons rfl (fun K hK => ?_) AllReadyH.nil)
      · go_simp
        refine hK.out _ _ H4.out.2.1.range (fun hH2 => ?_)
        clear hK K hH
        have hH := hH2
        clear hH2
        refine wpAnyH_ready (rs := [7]) (by kernel_rfl) (by simp) ?_
        refine AllReadyH.cons rfl (fun K hK => ?_) AllReadyH.nil
        go_simp
        have H6 : Hid _ := HKP.out W5 H4.out (.cells #[.int .i64 x.v, .int .i64 x.k, .int .i64 x.s, .int .i64 x.p, .int .i64 x.t, .int .i64 x.a, .int .i64 x.l, .int .i64 x.c, .int .i64 x.n, .int .i64 x.i, .string nm, .slice ad l.length cd] 44)
        refine hK.out _ _ H6.out.2.1.range (fun hH2 => ?_)
        clear hK K hH
        have hH := hH2
        clear hH2
        have HCE : Hid ((W5.alloc (.cells #[.int .i64 x.v, .int .i64 x.k, .int .i64 x.s, .int .i64 x.p, .int .i64 x.t, .int .i64 x.a, .int .i64 x.l, .int .i64 x.c, .int .i64 x.n, .int .i64 x.i, .string nm, .slice ad l.length cd] 44)).rangeAt W5.heap.size 0 (rcl (⟨x, nm, l⟩, .slice ad l.length cd))) := (lb_new W5 [.int .i64 x.v, .int .i64 x.k, .int .i64 x.s, .int .i64 x.p, .int .i64 x.t, .int .i64 x.a, .int .i64 x.l, .int .i64 x.c, .int .i64 x.n, .int .i64 x.i, .string nm, .slice ad l.length cd] 44).range
        refine wpAnyH_ready (rs := [8]) (by kernel_rfl) (by simp) ?_
        refine AllReadyH.cons rfl (fun K hK => ?_) AllReadyH.nil
        refine step_append_rec rfl (.tmp 32) (.tmp 34) 22 rfl B hin Tryd.underlying22 (.slice av nv cv) ps (⟨x, nm, l⟩, .slice ad l.length cd) rfl H6.out.2.2.2.1 W5.heap.size rfl HCE.out H6.out.2.2.2.2.1 (by omega) (by have := H6.out.2.2.2.2.2; omega) ?_
        intro v' w' hrow hb' hgr
        have HF : Hid _ := HFIN.out _ _ _ H6.out hrow hb' hgr
        have hrg : (Value.slice av nv cv).ownBlock ≠ some g := fun e => by obtain ⟨cs, z, h9⟩ := rrow_typed H6.out.2.2.2.1.1 g e; rw [H6.out.1] at h9; simp at h9
        have hLt : LB w' g 60 C := (hgr.block g H6.out.1.lt (Ne.symm hrg)).trans H6.out.1
        have hLx : LB w' ga 44 [.int .i64 x.v, .int .i64 x.k, .int .i64 x.s, .int .i64 x.p, .int .i64 x.t, .int .i64 x.a, .int .i64 x.l, .int .i64 x.c, .int .i64 x.n, .int .i64 x.i, .string nm, .slice ad l.length cd] := (hgr.block _ H6.out.2.1.lt (fun e => HRW.out _ e.symm rfl)).trans H6.out.2.1
        have HLX : Hid (LB (w'.setCell ⟨g, 4, none⟩ v') ga 44 [.int .i64 x.v, .int .i64 x.k, .int .i64 x.s, .int .i64 x.p, .int .i64 x.t, .int .i64 x.a, .int .i64 x.l, .int .i64 x.c, .int .i64 x.n, .int .i64 x.i, .string nm, .slice ad l.length cd]) := hLx.other _ _ (Ne.symm hgg)
        have cg := hLt.cell 4 (.slice av nv cv) (by rw [HC.out]; rfl)
        have fg := hLt.free 4
        obtain ⟨a9, n9, c9, e9⟩ : ∃ a n c, v' = .slice a n c := by rcases hrow.1.2 with ⟨e, _⟩ | ⟨_, _, _, e, _⟩ <;> exact ⟨_, _, _, e⟩
        subst e9
        refine hK.out _ _ hLx.range (fun hH2 => ?_)
        clear hK K hH
        have hH := hH2
        clear hH2
        clear hrow hb' hgr hrg hLt hLx H4 H6 c4 HKP HFIN
        simp only [Act.put, List.setIfInBounds_toArray, List.set_cons_zero, List.set_cons_succ, List.getElem_toArray, List.getElem_cons_zero, List.getElem_cons_succ]
        refine zqk 9 rfl hH ?_
        simp only [Act.put, List.setIfInBounds_toArray, List.set_cons_zero, List.set_cons_succ, List.getElem_toArray, List.getElem_cons_zero, List.getElem_cons_succ]
        refine zqk 10 rfl hH ?_
        simp only [Act.put, List.setIfInBounds_toArray, List.set_cons_zero, List.set_cons_succ, List.getElem_toArray, List.getElem_cons_zero, List.getElem_cons_succ]
        refine zqk 11 rfl hH ?_
        simp only [Act.put, List.setIfInBounds_toArray, List.set_cons_zero, List.set_cons_succ, List.getElem_toArray, List.getElem_cons_zero, List.getElem_cons_succ]
        refine wpAnyH_ready (rs := [12]) (by kernel_rfl) (by simp) ?_
        refine AllReadyH.cons rfl (fun K hK => ?_) AllReadyH.nil
        go_simp
        refine hK.out _ _ HLX.out.range (fun hH2 => ?_)
        clear hK K hH
        refine wpAnyH_done (by kernel_rfl) ?_ _
        go_wp2_with fail
        go_ret
        exact ⟨HF.out.1, rfl, HF.out.2.2⟩
      · go_simp
        have H6 : Hid _ := HKP.out W5 H4.out (.cells #[.int .i64 x.v, .int .i64 x.k, .int .i64 x.s, .int .i64 x.p, .int .i64 x.t, .int .i64 x.a, .int .i64 x.l, .int .i64 x.c, .int .i64 x.n, .int .i64 x.i, .string nm, .slice ad l.length cd] 44)
        refine hK.out _ _ H6.out.2.1.range (fun hH2 => ?_)
        clear hK K hH
        have hH := hH2
        clear hH2
        refine wpAnyH_ready (rs := [5]) (by kernel_rfl) (by simp) ?_
        refine AllReadyH.cons rfl (fun K hK => ?_) AllReadyH.nil
        have c4b := H6.out.1.cell 4 (.slice av nv cv) (by rw [HC.out]; rfl)
        go_simp
        refine hK.out _ _ H6.out.2.1.range (fun hH2 => ?_)
        clear hK K hH
        have hH := hH2
        clear hH2
        have HCE : Hid ((W5.alloc (.cells #[.int .i64 x.v, .int .i64 x.k, .int .i64 x.s, .int .i64 x.p, .int .i64 x.t, .int .i64 x.a, .int .i64 x.l, .int .i64 x.c, .int .i64 x.n, .int .i64 x.i, .string nm, .slice ad l.length cd] 44)).rangeAt W5.heap.size 0 (rcl (⟨x, nm, l⟩, .slice ad l.length cd))) := (lb_new W5 [.int .i64 x.v, .int .i64 x.k, .int .i64 x.s, .int .i64 x.p, .int .i64 x.t, .int .i64 x.a, .int .i64 x.l, .int .i64 x.c, .int .i64 x.n, .int .i64 x.i, .string nm, .slice ad l.length cd] 44).range
        refine wpAnyH_ready (rs := [8]) (by kernel_rfl) (by simp) ?_
        refine AllReadyH.cons rfl (fun K hK => ?_) AllReadyH.nil
        refine step_append_rec rfl (.tmp 32) (.tmp 34) 22 rfl B hin Tryd.underlying22 (.slice av nv cv) ps (⟨x, nm, l⟩, .slice ad l.length cd) rfl H6.out.2.2.2.1 W5.heap.size rfl HCE.out H6.out.2.2.2.2.1 (by omega) (by have := H6.out.2.2.2.2.2; omega) ?_
        intro v' w' hrow hb' hgr
        have HF : Hid _ := HFIN.out _ _ _ H6.out hrow hb' hgr
        have hrg : (Value.slice av nv cv).ownBlock ≠ some g := fun e => by obtain ⟨cs, z, h9⟩ := rrow_typed H6.out.2.2.2.1.1 g e; rw [H6.out.1] at h9; simp at h9
        have hLt : LB w' g 60 C := (hgr.block g H6.out.1.lt (Ne.symm hrg)).trans H6.out.1
        have hLx : LB w' ga 44 [.int .i64 x.v, .int .i64 x.k, .int .i64 x.s, .int .i64 x.p, .int .i64 x.t, .int .i64 x.a, .int .i64 x.l, .int .i64 x.c, .int .i64 x.n, .int .i64 x.i, .string nm, .slice ad l.length cd] := (hgr.block _ H6.out.2.1.lt (fun e => HRW.out _ e.symm rfl)).trans H6.out.2.1
        have HLX : Hid (LB (w'.setCell ⟨g, 4, none⟩ v') ga 44 [.int .i64 x.v, .int .i64 x.k, .int .i64 x.s, .int .i64 x.p, .int .i64 x.t, .int .i64 x.a, .int .i64 x.l, .int .i64 x.c, .int .i64 x.n, .int .i64 x.i, .string nm, .slice ad l.length cd]) := hLx.other _ _ (Ne.symm hgg)
        have cg := hLt.cell 4 (.slice av nv cv) (by rw [HC.out]; rfl)
        have fg := hLt.free 4
        obtain ⟨a9, n9, c9, e9⟩ : ∃ a n c, v' = .slice a n c := by rcases hrow.1.2 with ⟨e, _⟩ | ⟨_, _, _, e, _⟩ <;> exact ⟨_, _, _, e⟩
        subst e9
        refine hK.out _ _ hLx.range (fun hH2 => ?_)
        clear hK K hH
        have hH := hH2
        clear hH2
        clear hrow hb' hgr hrg hLt hLx H4 H6 c4 HKP HFIN
        simp only [Act.put, List.setIfInBounds_toArray, List.set_cons_zero, List.set_cons_succ, List.getElem_toArray, List.getElem_cons_zero, List.getElem_cons_succ]
        refine zqk 9 rfl hH ?_
        simp only [Act.put, List.setIfInBounds_toArray, List.set_cons_zero, List.set_cons_succ, List.getElem_toArray, List.getElem_cons_zero, List.getElem_cons_succ]
        refine zqk 10 rfl hH ?_
        simp only [Act.put, List.setIfInBounds_toArray, List.set_cons_zero, List.set_cons_succ, List.getElem_toArray, List.getElem_cons_zero, List.getElem_cons_succ]
        refine zqk 11 rfl hH ?_
        simp only [Act.put, List.setIfInBounds_toArray, List.set_cons_zero, List.set_cons_succ, List.getElem_toArray, List.getElem_cons_zero, List.getElem_cons_succ]
        refine wpAnyH_ready (rs := [12]) (by kernel_rfl) (by simp) ?_
        refine AllReadyH.cons rfl (fun K hK => ?_) AllReadyH.nil
        go_simp
        refine hK.out _ _ HLX.out.range (fun hH2 => ?_)
        clear hK K hH
        refine wpAnyH_done (by kernel_rfl) ?_ _
        go_wp2_with fail
        go_ret
        exact ⟨HF.out.1, rfl, HF.out.2.2⟩
    · have hzb : (ez != 0) = true := by simp [hez]
      have hO9 : none = O := by rw [← HO9.out, if_neg hez]
      subst hO9
      clear HO9
      have LG : ARd wc g bv at_ lf tp vr := (show LB w g 60 _ from H0.out.1).kept BE
      have HF : Hid (RcPost B g bv at_ lf tp vr ps none w (.returned (.int .i64 ez)) wc) := ⟨BE.mono (by omega), ez, hez, rfl, LG, H0.out.2.kept BE⟩
      clear LG LE OE H0
      go_wp2_with fail
      go_ret
      exact HF.out
end Go.Proofs.YtenhaogheilmoaaDoor
