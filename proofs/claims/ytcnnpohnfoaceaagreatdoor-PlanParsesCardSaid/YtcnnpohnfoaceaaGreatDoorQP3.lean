import Derived.Test.YtcnnpohnfoaceaaGreatDoorQP2
/-
  Package plan: the reader's step, the walk.
-/
namespace Go.Proofs.YtcnnpohnfoaceaaGreatDoor
open Go Go.RowKit
open Wb
open Text.Tx (Wd wdc wds wordP wdA)

/-- ahead of the two appends -/
structure Mid (b wb c : Nat) (w W : World) (r : List Wd) (en : Int) (nm : ByteArray) (pv : Int) (vs va : Value) (d : Wd) (x u : ByteArray) (t : Int) (ss : List Stp) (l : List Int) : Prop where
  rd : RdW b W r en nm pv vs va
  lc : LB W c 60 (stc x u t)
  lw : LB W wb 55 (wdc d)
  st : StR b W vs ss
  at_ : AtR b W va l
  bl : Below b w W
  o1 : b < wb
  o2 : wb < c
  hs : ∀ g, vs.ownBlock = some g → g < wb
  fr : ∀ g D, g ≠ b → LB w g 55 D → LB W g 55 D
/-- between them -/
structure Mid2 (b wb : Nat) (w W : World) (r : List Wd) (en : Int) (nm : ByteArray) (pv : Int) (vs va : Value) (d : Wd) (ss : List Stp) (l : List Int) : Prop where
  rd : RdW b W r en nm pv vs va
  lw : LB W wb 55 (wdc d)
  st : StR b W vs ss
  at_ : AtR b W va l
  bl : Below b w W
  o1 : b < wb
  fr : ∀ g D, g ≠ b → LB w g 55 D → LB W g 55 D
section
variable {b wb c : Nat} {w W W' : World} {r : List Wd} {en : Int} {nm : ByteArray} {pv : Int} {vs va v' : Value} {d : Wd} {x u : ByteArray} {t : Int} {ss : List Stp} {l : List Int}
theorem Mid.up (h : Mid b wb c w W r en nm pv vs va d x u t ss l) (hb : Below W.heap.size W W') : Mid b wb c w W' r en nm pv vs va d x u t ss l := by
  have q := rows_chg ⟨h.st, h.at_⟩ fun k _ hk => hb.block k hk
  exact ⟨h.rd.kept hb, h.lc.kept hb, h.lw.kept hb, q.1, q.2, h.bl.trans (hb.mono (Nat.le_of_lt h.rd.lt)), h.o1, h.o2, h.hs, fun g D hg l => (h.fr g D hg l).kept hb⟩
theorem Mid2.up (h : Mid2 b wb w W r en nm pv vs va d ss l) (hb : Below W.heap.size W W') : Mid2 b wb w W' r en nm pv vs va d ss l := by
  have q := rows_chg ⟨h.st, h.at_⟩ fun k _ hk => hb.block k hk
  exact ⟨h.rd.kept hb, h.lw.kept hb, q.1, q.2, h.bl.trans (hb.mono (Nat.le_of_lt h.rd.lt)), h.o1, fun g D hg l => (h.fr g D hg l).kept hb⟩
theorem Mid.push (h : Mid b wb c w W r en nm pv vs va d x u t ss l) (hr : W'.ownsRow (b + 1) 60 3 v' (ss.length + 1) (ss.flatMap stl ++ stc x u t)) (hg : W.grownBy W' vs.ownBlock) :
    W'.rangeAt c 0 (stc x u t) ∧ (W'.setCell ⟨b, 4, none⟩ v').rangeAt c 0 (stc x u t) ∧ W'.cell? ⟨b, 4, none⟩ = some vs ∧ W'.frozen? ⟨b, 4, none⟩ = false ∧ Mid2 b wb w (W'.setCell ⟨b, 4, none⟩ v') r en nm pv v' va d (ss ++ [⟨x, u, t⟩]) l := by
  have nb : ∀ g, g ≤ b → some g ≠ vs.ownBlock := fun g hgb e => by have := (World.ownsRow.lt h.st g e.symm).1; omega
  have nw : ∀ g, wb ≤ g → some g ≠ vs.ownBlock := fun g hgb e => by have := h.hs g e.symm; omega
  have hlt := h.rd.lt
  have e1 : RdW b W' r en nm pv vs va := h.rd.same fun g hgb => hg.block g (by omega) (nb g hgb)
  have e2 : LB W' c 60 (stc x u t) := (hg.block c h.lc.lt (nw c (Nat.le_of_lt h.o2))).trans h.lc
  have e3 : LB W' wb 55 (wdc d) := (hg.block wb h.lw.lt (nw wb (Nat.le_refl _))).trans h.lw
  have e4 : AtR b W' va l := ownsRow_same h.at_ fun g e => hg.block g (World.ownsRow.lt h.at_ g e).2 fun e9 => by
    obtain ⟨cs, q1⟩ := ownsRow_typed h.at_ g e
    obtain ⟨cs2, q2⟩ := ownsRow_typed h.st g e9.symm
    rw [q1] at q2
    simp at q2
  have hcb : c ≠ b := by have := h.o1; have := h.o2; omega
  have e5 := e1
  obtain ⟨vw, L, -⟩ := e5
  have q := rows_chg (w' := W'.setCell ⟨b, 4, none⟩ v') (vs := v') (ss := ss ++ [⟨x, u, t⟩]) ⟨by
    show W'.ownsRow _ _ _ _ _ _
    rw [List.length_append, List.flatMap_append]
    simpa [stl, stc] using hr, e4⟩ fun k hk _ => set_other _ _ _ _ (by show k ≠ b; omega)
  refine ⟨e2.range, (e2.other _ _ hcb).range, L.cell 4 _ rfl, L.free 4, e1.steps v', e3.other _ _ (by have := h.o1; show wb ≠ b; omega), q.1, q.2, ?_, h.o1, fun g D hgb l => ?_⟩
  rotate_left
  · have l2 := h.fr g D hgb l
    have l3 : LB W' g 55 D := (hg.block g l2.lt (fun e => by
      obtain ⟨cs, q1⟩ := ownsRow_typed h.st g e.symm
      unfold LB at l2
      rw [q1] at l2
      simp at l2)).trans l2
    exact l3.other _ _ hgb
  exact Below.setCell (p := ⟨b, 4, none⟩) (h.bl.trans ((Below.refl b W).grown hg (Nat.le_of_lt hlt) fun k hk => by have := (World.ownsRow.lt h.st k hk).1; omega)) (Nat.le_refl b) _
theorem Mid2.push (h : Mid2 b wb w W r en nm pv vs va d ss l) (hr : W'.ownsRow (b + 1) 3 1 v' (l.length + 1) ((l.map fun z => Value.int .i64 z) ++ [.int .i64 d.at_])) (hg : W.grownBy W' va.ownBlock) :
    W'.cell? ⟨wb, 1, none⟩ = some (.int .i64 d.at_) ∧ (W'.setCell ⟨b, 5, none⟩ v').cell? ⟨wb, 1, none⟩ = some (.int .i64 d.at_) ∧ W'.cell? ⟨b, 5, none⟩ = some va ∧ W'.frozen? ⟨b, 5, none⟩ = false ∧ RdM b (W'.setCell ⟨b, 5, none⟩ v') r en nm ⟨pv, ss, l ++ [d.at_]⟩ ∧ Below b w (W'.setCell ⟨b, 5, none⟩ v') ∧ ∀ g D, g ≠ b → LB w g 55 D → LB (W'.setCell ⟨b, 5, none⟩ v') g 55 D := by
  have nb : ∀ g, g ≤ b → some g ≠ va.ownBlock := fun g hgb e => by have := (World.ownsRow.lt h.at_ g e.symm).1; omega
  have hlt := h.rd.lt
  have e1 : RdW b W' r en nm pv vs va := h.rd.same fun g hgb => hg.block g (by omega) (nb g hgb)
  have e3 : LB W' wb 55 (wdc d) := (hg.block wb h.lw.lt (fun e => by
    obtain ⟨cs, q1⟩ := ownsRow_typed h.at_ wb e.symm
    have q2 := h.lw
    unfold LB at q2
    rw [q1] at q2
    simp at q2)).trans h.lw
  have e4 : StR b W' vs ss := ownsRow_same h.st fun g e => hg.block g (World.ownsRow.lt h.st g e).2 fun e9 => by
    obtain ⟨cs, q1⟩ := ownsRow_typed h.st g e
    obtain ⟨cs2, q2⟩ := ownsRow_typed h.at_ g e9.symm
    rw [q1] at q2
    simp at q2
  have e5 := e1
  obtain ⟨vw, L, -⟩ := e5
  have q := rows_chg (w' := W'.setCell ⟨b, 5, none⟩ v') (va := v') (l := l ++ [d.at_]) ⟨e4, by
    show W'.ownsRow _ _ _ _ _ _
    rw [List.length_append, List.map_append]
    simpa using hr⟩ fun k hk _ => set_other _ _ _ _ (by show k ≠ b; omega)
  refine ⟨e3.cell 1 _ rfl, (e3.other _ _ (by have := h.o1; show wb ≠ b; omega)).cell 1 _ rfl, L.cell 5 _ rfl, L.free 5, ⟨vs, v', e1.ats v', q.1, q.2⟩, ?_, fun g D hgb l => ?_⟩
  rotate_left
  · have l2 := h.fr g D hgb l
    have l3 : LB W' g 55 D := (hg.block g l2.lt (fun e => by
      obtain ⟨cs, q1⟩ := ownsRow_typed h.at_ g e.symm
      unfold LB at l2
      rw [q1] at l2
      simp at l2)).trans l2
    exact l3.other _ _ hgb
  exact Below.setCell (p := ⟨b, 5, none⟩) (h.bl.trans ((Below.refl b W).grown hg (Nat.le_of_lt hlt) fun k hk => by have := (World.ownsRow.lt h.at_ k hk).1; omega)) (Nat.le_refl b) _
end
/-- from the call of take to behind ending -/
theorem mid_of {b c : Nat} {w w1 W w4 w5 : World} {ws r1 r2 r3 : List Wd} {en : Int} {nm : ByteArray} {p pv : Int} {vs va : Value} {d : Wd} {x u u2 : ByteArray} {t t2 : Int} {ss : List Stp} {l : List Int} (h0 : RdW b w ws en nm p vs va) (hS : StR b w vs ss) (hA : AtR b w va l) (_r1 : RdW b w1 r1 en nm p vs va) (g1 : Chg b w w1) (hc : c = w1.heap.size + 1)
    (hW : LB W w1.heap.size 55 (wdc d)) (bW : Below w1.heap.size w1 W) (_L4 : LB w4 c 60 (stc x u2 t2)) (G4 : Ch2 b c W w4) (_R4 : RdW b w4 r2 en nm p vs va) (R5 : RdW b w5 r3 en nm pv vs va) (L5 : LB w5 c 60 (stc x u t)) (G5 : Ch2 b c w4 w5) : Mid b w1.heap.size c w w5 r3 en nm pv vs va d x u t ss l := by
  have hb := h0.lt
  have s1 := g1.1.size
  have G : Ch2 b c W w5 := G4.trans G5
  have hrow : ∀ k, b < k → k < w.heap.size → w5.heap[k]? = w.heap[k]? := fun k h1 h2 => ((G.2 k (by omega) (by omega) (by have := bW.size; omega)).trans (bW.block k (by omega))).trans (g1.2 k (by omega) h2)
  have q := rows_chg ⟨hS, hA⟩ hrow
  refine ⟨R5, L5, (G.2 _ (by omega) (by omega) hW.lt).trans hW, q.1, q.2, (g1.1.trans (bW.mono (by omega))).trans G.1, by omega, by omega, fun g e => ?_, fun g D hg l => ?_⟩
  · have := (World.ownsRow.lt hS g e).2
    omega
  · have := l.lt
    exact (((G.2 g hg (by omega) (by have := bW.size; omega)).trans (bW.block g (by omega))).trans (g1.2 g hg this)).trans l

set_option maxRecDepth 100000 in
set_option maxHeartbeats 8000000 in
theorem step_ok (b : Nat) (ws : List Wd) (en : Int) (nm : ByteArray) (R : RdP) (w : World) (h : RdM b w ws en nm R) (R' : RdP) (r : List Wd) (hk : stepP R ws = .ok (R', r)) (hn : R.ss.length ≤ 100000) (hn2 : R.ats.length ≤ 100000) :
    Calls Tryz.prog 35 #[.pointer (some ⟨b, 0, none⟩)] w fun e w' => e = .returned (.bool true) ∧ RdM b w' r en nm R' ∧ Below b w w' ∧ ∀ g D, g ≠ b → LB w g 55 D → LB w' g 55 D := by
  obtain ⟨vs, va, hR, hS, hA⟩ := h
  unfold stepP at hk
  cases h1 : takeP 1 ws with
  | none => rw [h1] at hk; cases hk
  | some p =>
  obtain ⟨d, r1⟩ := p
  rw [h1] at hk
  simp only at hk
  obtain ⟨t0, ht0⟩ : ∃ t0 : Int, t0 = if R.piv = 0 then 1 else 0 := ⟨_, rfl⟩
  rw [← ht0] at hk
  cases h2 : triesP t0 r1 with
  | error e => rw [h2] at hk; cases hk
  | ok p =>
  obtain ⟨t, r2⟩ := p
  rw [h2] at hk
  simp only at hk
  cases h3 : endP R.piv R.ss.length r2 with
  | error e => rw [h3] at hk; cases hk
  | ok p =>
  obtain ⟨u, pv, r3⟩ := p
  rw [h3] at hk
  injection hk with hk
  injection hk with e1 e2
  subst e1
  subst e2
  obtain ⟨rfl, hd⟩ := takeP_len h1
  obtain ⟨av, cv, ev⟩ := ownsRow_shape hS
  obtain ⟨aa, ca, ea⟩ := ownsRow_shape hA
  have HT : Hid (Calls Tryz.prog 33 #[.pointer (some ⟨b, 0, none⟩), .int .i64 1] w fun e w'' => e = .returned (.tuple #[.agg #[.int .i64 d.k, .int .i64 d.at_, .string d.t, .int .i64 d.n], .bool true]) ∧ RdW b w'' r1 en nm R.piv vs va ∧ Chg b w w'') := takeY b 1 d r1 en nm _ vs va w hR hd
  have HTR : Hid (∀ c w', RdW b w' r1 en nm R.piv vs va → LB w' c 60 (stc d.t ⟨#[]⟩ t0) → b < c → Calls Tryz.prog 60 #[.pointer (some ⟨b, 0, none⟩), .pointer (some ⟨c, 0, none⟩)] w' fun e w'' => StpPost b c en nm R.piv vs va w' d.t ⟨#[]⟩ t r2 e w'') := fun c w' k L hc => tries_ok b c r1 en nm _ vs va d.t ⟨#[]⟩ t0 w' k L hc t r2 h2
  have HEN : Hid (∀ c w', RdW b w' r2 en nm R.piv vs va → LB w' c 60 (stc d.t ⟨#[]⟩ t) → b < c → Calls Tryz.prog 61 #[.pointer (some ⟨b, 0, none⟩), .pointer (some ⟨c, 0, none⟩)] w' fun e w'' => StpPost b c en nm pv vs va w' d.t u t r3 e w'') := fun c w' k L hc => end_ok b c r2 en nm _ vs va d.t ⟨#[]⟩ t w' k L hc R.ss.length av cv ev (by omega) u pv r3 h3 rfl
  have HM : Hid (∀ (w1 W w4 w5 : World) (c : Nat), RdW b w1 r1 en nm R.piv vs va → Chg b w w1 → c = w1.heap.size + 1 → LB W w1.heap.size 55 (wdc d) → Below w1.heap.size w1 W → LB w4 c 60 (stc d.t ⟨#[]⟩ t) → Ch2 b c W w4 → RdW b w4 r2 en nm R.piv vs va → RdW b w5 r3 en nm pv vs va → LB w5 c 60 (stc d.t u t) → Ch2 b c w4 w5 → Mid b w1.heap.size c w w5 r3 en nm pv vs va d d.t u t R.ss R.ats) := fun w1 W w4 w5 c a1 a2 a3 a4 a5 a6 a7 a8 a9 b1 b2 => mid_of hR hS hA a1 a2 a3 a4 a5 a6 a7 a8 a9 b1 b2
  have HPV : Hid (∀ W, RdW b W r1 en nm R.piv vs va → W.cell? ⟨b, 3, none⟩ = some (.int .i64 R.piv)) := fun W k => by
    obtain ⟨vw, l, -⟩ := k
    exact l.cell 3 _ rfl
  have HSL : Hid (vs = .slice av R.ss.length cv ∧ va = .slice aa R.ats.length ca) := ⟨ev, ea⟩
  have HI1 : Hid ((Tryz.prog.info? 60).map (fun i => (i.zero, i.size, i.bytes)) = some (some (.agg #[.string ⟨#[]⟩, .string ⟨#[]⟩, .int .i64 0]), 3, 40)) := infoStp3
  have HI2 : Hid ((Tryz.prog.info? 3).map (fun i => (i.zero, i.size, i.bytes)) = some (some (.int .i64 0), 1, 8)) := infoInt3
  have HIS : Hid ((Tryz.prog.info? 60).map (·.size) = some (stc d.t u t).length) := infoStep
  have HBB : Hid (b < w.heap.size) := hR.lt
  clear hR hS hA h1 h2 h3 hd ev ea
  by_cases hp : R.piv = 0
  · have hp2 : (R.piv != 0) = false := by rw [hp]; rfl
    rw [if_pos hp] at ht0
    subst ht0
    clear hp
    go_enter Tryz.func35, Tryz.ntmps35
    go_wp2_with fail
    refine HT.out.mono ?_
    rintro e w1 ⟨rfl, k1, g1⟩
    have H1 : Hid (RdW b w1 r1 en nm R.piv vs va ∧ Chg b w w1) := ⟨k1, g1⟩
    have p3 : ∀ o o2, ((w1.alloc o).alloc o2).cell? ⟨b, 3, none⟩ = some (.int .i64 R.piv) := fun o o2 => HPV.out _ ((k1.kept (up0 _ o)).kept (up0 _ o2))
    have hb1 : b ≠ w1.heap.size := Nat.ne_of_lt k1.lt
    have hb2 : b ≠ w1.heap.size + 1 := by have := k1.lt; omega
    clear k1 g1 HT HPV
    go_wp2_with fail
    obtain ⟨W, eW⟩ : ∃ W, W = (w1.alloc (.cells #[.int .i64 d.k, .int .i64 d.at_, .string d.t, .int .i64 d.n] 55)).alloc (.cells #[.string d.t, .string ⟨#[]⟩, .int .i64 1] 60) := ⟨_, rfl⟩
    rw [← eW]
    have H2 : Hid (RdW b W r1 en nm R.piv vs va ∧ LB W w1.heap.size 55 (wdc d) ∧ LB W (w1.heap.size + 1) 60 (stc d.t ⟨#[]⟩ 1) ∧ Below w1.heap.size w1 W) := by
      obtain ⟨q1, q2, q3⟩ := lb_new2 w1 (wdc d) (stc d.t ⟨#[]⟩ 1) 55 60
      rw [eW]
      exact ⟨H1.out.1.kept q3, q1, q2, q3⟩
    clear eW p3 hb1 hb2
    refine (HTR.out _ _ H2.out.1 H2.out.2.2.1 (by have := H1.out.1.lt; omega)).mono ?_
    rintro e w4 ⟨rfl, k4, l4, g4⟩
    have H4 : Hid (RdW b w4 r2 en nm R.piv vs va ∧ LB w4 (w1.heap.size + 1) 60 (stc d.t ⟨#[]⟩ t) ∧ Ch2 b (w1.heap.size + 1) W w4) := ⟨k4, l4, g4⟩
    clear k4 l4 g4 HTR
    go_wp2_with fail
    refine (HEN.out _ _ H4.out.1 H4.out.2.1 (by have := H1.out.1.lt; omega)).mono ?_
    rintro e w5 ⟨rfl, k5, l5, g5⟩
    have H5 : Hid (Mid b w1.heap.size (w1.heap.size + 1) w w5 r3 en nm pv vs va d d.t u t R.ss R.ats) := HM.out w1 W w4 w5 _ H1.out.1 H1.out.2 rfl H2.out.2.1 H2.out.2.2.2 H4.out.2.1 H4.out.2.2 H4.out.1 k5 l5 g5
    clear k5 l5 g5 HEN HM H1 H2 H4
    generalize w1.heap.size + 1 = c at *
    generalize w1.heap.size = wb at *
    obtain ⟨rfl, rfl⟩ := HSL.out
    clear HSL
    go_wp2_with fail
    refine wp_region_held_drew (S := fun w' : World => w'.rangeAt c 0 (stc d.t u t)) (by kernel_rfl) (H5.out.lc.kept (Below.drew (Below.refl _ _))).range (fun hH => ?_)
    have H6 : Hid (Mid b wb c w w5.drew r3 en nm pv (.slice av R.ss.length cv) (.slice aa R.ats.length ca) d d.t u t R.ss R.ats) := H5.out.up (Below.drew (Below.refl _ _))
    clear H5
    generalize w5.drew = W5 at *
    have c4 : W5.cell? ⟨b, 4, none⟩ = some (.slice av R.ss.length cv) := by
      obtain ⟨vw, l, -⟩ := H6.out.rd
      exact l.cell 4 _ rfl
    have H7 : Hid (∀ o, Mid b wb c w (W5.alloc o) r3 en nm pv (.slice av R.ss.length cv) (.slice aa R.ats.length ca) d d.t u t R.ss R.ats) := fun o => H6.out.up (up0 _ _)
    have d4 : ∀ o, (W5.alloc o).cell? ⟨b, 4, none⟩ = some (.slice av R.ss.length cv) := fun o => by
      obtain ⟨vw, l, -⟩ := (H7.out o).rd
      exact l.cell 4 _ rfl
    refine zqk 0 rfl hH ?_
    simp only [Act.put, List.setIfInBounds_toArray, List.set_cons_zero, List.set_cons_succ, List.getElem_toArray, List.getElem_cons_zero]
    refine zqk 1 rfl hH ?_
    simp only [Act.put, List.setIfInBounds_toArray, List.set_cons_zero, List.set_cons_succ, List.getElem_toArray, List.getElem_cons_zero, List.getElem_cons_succ]
    refine zqk 2 rfl hH ?_
    simp only [Act.put, List.setIfInBounds_toArray, List.set_cons_zero, List.set_cons_succ, List.getElem_toArray, List.getElem_cons_zero, List.getElem_cons_succ]
    refine zqk 3 rfl hH ?_
    simp only [Act.put, List.setIfInBounds_toArray, List.set_cons_zero, List.set_cons_succ, List.getElem_toArray, List.getElem_cons_zero, List.getElem_cons_succ]
    refine zqk 4 rfl hH ?_
    simp only [Act.put, List.setIfInBounds_toArray, List.set_cons_zero, List.set_cons_succ, List.getElem_toArray, List.getElem_cons_zero, List.getElem_cons_succ]
    refine zql 6 rfl (yieldsIf_load_mid (by rfl) _ _ rfl _ _ rfl (stc d.t u t) _ (fun w' hSw => hSw) Tryz.underlying60 rfl HIS.out) hH ?_
    simp only [Act.put, List.setIfInBounds_toArray, List.set_cons_zero, List.set_cons_succ, List.getElem_toArray, List.getElem_cons_zero, List.getElem_cons_succ]
    refine wpAnyH_ready (rs := [5, 7]) (by kernel_rfl) (by simp) ?_
    refine AllReadyH.cons rfl (fun K hK => ?p1) ?p2
    case' p1 =>
      go_simp
      refine hK.out _ _ H6.out.lc.range (fun _ => ?_)
      clear hK K
      refine wpAnyH_ready (rs := [7]) (by kernel_rfl) (by simp) ?_
      refine AllReadyH.cons rfl (fun K hK => ?_) AllReadyH.nil
      unfold stc
      go_simp
      refine hK.out _ _ (H7.out _).lc.range (fun _ => ?_)
      clear hK K
    case' p2 =>
      refine AllReadyH.cons rfl (fun K hK => ?_) AllReadyH.nil
      unfold stc
      go_simp
      refine hK.out _ _ (H7.out _).lc.range (fun _ => ?_)
      clear hK K
      refine wpAnyH_ready (rs := [5]) (by kernel_rfl) (by simp) ?_
      refine AllReadyH.cons rfl (fun K hK => ?_) AllReadyH.nil
      go_simp
      refine hK.out _ _ (H7.out _).lc.range (fun _ => ?_)
      clear hK K
    all_goals
      refine wpAnyH_ready (rs := [8]) (by kernel_rfl) (by simp) ?_
      refine AllReadyH.cons rfl (fun K hK => ?_) AllReadyH.nil
      refine step_app rfl (.tmp 36) (.tmp 38) 60 23 rfl (b + 1) _ 3 40 HI1.out rfl (by decide) (by decide) Tryz.underlying23 _ R.ss.length _ rfl (H7.out _).st W5.heap.size (stc d.t u t) rfl rfl (lb_new W5 (stc d.t u t) 60).range (fun x hx => by simp only [stc, List.mem_cons, List.not_mem_nil, or_false] at hx; rcases hx with rfl | rfl | rfl <;> rfl) (by omega) (H7.out _).rd.lt ?_
      intro v' w' hrow hgr
      obtain ⟨a9, c9, e9⟩ := ownsRow_shape hrow
      subst e9
      have HP := (H7.out _).push hrow hgr
      have HQ : Hid (∀ n, Mid2 b wb w ((w'.setCell ⟨b, 4, none⟩ (.slice a9 (R.ss.length + 1) c9)).drewN n) r3 en nm pv (.slice a9 (R.ss.length + 1) c9) (.slice aa R.ats.length ca) d (R.ss ++ [⟨d.t, u, t⟩]) R.ats) := fun n => HP.2.2.2.2.up (below_drewN (Below.refl _ _) n)
      have HS2 : Hid ((w'.setCell ⟨b, 4, none⟩ (.slice a9 (R.ss.length + 1) c9)).rangeAt c 0 (stc d.t u t)) := HP.2.1
      have y4 := HP.2.2.1
      have z4 := HP.2.2.2.1
      refine hK.out _ _ HP.1 (fun hH2 => ?_)
      clear hK K hrow hgr HP c4 d4 H6 H7 hH
      simp only [Act.put, List.setIfInBounds_toArray, List.set_cons_zero, List.set_cons_succ, List.getElem_toArray, List.getElem_cons_zero, List.getElem_cons_succ]
      refine zqk 9 rfl hH2 ?_
      simp only [Act.put, List.setIfInBounds_toArray, List.set_cons_zero, List.set_cons_succ, List.getElem_toArray, List.getElem_cons_zero, List.getElem_cons_succ]
      refine zqk 10 rfl hH2 ?_
      simp only [Act.put, List.setIfInBounds_toArray, List.set_cons_zero, List.set_cons_succ, List.getElem_toArray, List.getElem_cons_zero, List.getElem_cons_succ]
      refine zqk 11 rfl hH2 ?_
      simp only [Act.put, List.setIfInBounds_toArray, List.set_cons_zero, List.set_cons_succ, List.getElem_toArray, List.getElem_cons_zero, List.getElem_cons_succ]
      refine wpAnyH_ready (rs := [12]) (by kernel_rfl) (by simp) ?_
      refine AllReadyH.cons rfl (fun K hK => ?_) AllReadyH.nil
      go_simp
      refine hK.out _ _ HS2.out (fun _ => ?_)
      clear hK K hH2 HS2 y4 z4
      refine wpAnyH_done (by kernel_rfl) ?_ _
      have HQ0 : Hid _ := HQ.out 0
      clear HQ
      have e0 : ∀ X : World, X.drewN 0 = X := fun _ => rfl
      rw [e0] at HQ0
      clear e0
      generalize w'.setCell ⟨b, 4, none⟩ (.slice a9 (R.ss.length + 1) c9) = W7 at *
      go_wp2_with fail
      refine wp_region_held_drew (S := fun w' : World => w'.cell? ⟨wb, 1, none⟩ = some (.int .i64 d.at_)) (by kernel_rfl) ((HQ0.out.lw.kept (Below.drew (Below.refl _ _))).cell 1 _ rfl) (fun hH => ?_)
      have H8 : Hid _ := HQ0.out.up (Below.drew (Below.refl _ _))
      clear HQ0
      generalize W7.drew = W8 at *
      have c5 : W8.cell? ⟨b, 5, none⟩ = some (.slice aa R.ats.length ca) := by
        obtain ⟨vw, l, -⟩ := H8.out.rd
        exact l.cell 5 _ rfl
      have H9 : Hid (∀ o, Mid2 b wb w (W8.alloc o) r3 en nm pv (.slice a9 (R.ss.length + 1) c9) (.slice aa R.ats.length ca) d (R.ss ++ [⟨d.t, u, t⟩]) R.ats) := fun o => H8.out.up (up0 _ _)
      have d5 : ∀ o, (W8.alloc o).cell? ⟨b, 5, none⟩ = some (.slice aa R.ats.length ca) := fun o => by
        obtain ⟨vw, l, -⟩ := (H9.out o).rd
        exact l.cell 5 _ rfl
      refine zqk 0 rfl hH ?_
      simp only [Act.put, List.setIfInBounds_toArray, List.set_cons_zero, List.set_cons_succ, List.getElem_toArray, List.getElem_cons_zero]
      refine zqk 1 rfl hH ?_
      simp only [Act.put, List.setIfInBounds_toArray, List.set_cons_zero, List.set_cons_succ, List.getElem_toArray, List.getElem_cons_zero, List.getElem_cons_succ]
      refine zqk 2 rfl hH ?_
      simp only [Act.put, List.setIfInBounds_toArray, List.set_cons_zero, List.set_cons_succ, List.getElem_toArray, List.getElem_cons_zero, List.getElem_cons_succ]
      refine zqk 3 rfl hH ?_
      simp only [Act.put, List.setIfInBounds_toArray, List.set_cons_zero, List.set_cons_succ, List.getElem_toArray, List.getElem_cons_zero, List.getElem_cons_succ]
      refine zqk 5 rfl hH ?_
      simp only [Act.put, List.setIfInBounds_toArray, List.set_cons_zero, List.set_cons_succ, List.getElem_toArray, List.getElem_cons_zero, List.getElem_cons_succ]
      refine zqk 6 rfl hH ?_
      simp only [Act.put, List.setIfInBounds_toArray, List.set_cons_zero, List.set_cons_succ, List.getElem_toArray, List.getElem_cons_zero, List.getElem_cons_succ]
      refine wpAnyH_ready (rs := [4, 7]) (by kernel_rfl) (by simp) ?_
      refine AllReadyH.cons rfl (fun K hK => ?_) ?_
      · go_simp
        refine hK.out _ _ (H8.out.lw.cell 1 _ rfl) (fun _ => ?_)
        clear hK K
        refine wpAnyH_ready (rs := [7]) (by kernel_rfl) (by simp) ?_
        refine AllReadyH.cons rfl (fun K hK => ?_) AllReadyH.nil
        go_simp
        refine hK.out _ _ ((H9.out _).lw.cell 1 _ rfl) (fun _ => ?_)
        clear hK K
        refine wpAnyH_ready (rs := [8]) (by kernel_rfl) (by simp) ?_
        refine AllReadyH.cons rfl (fun K hK => ?_) AllReadyH.nil
        refine step_app rfl (.tmp 47) (.tmp 50) 3 41 rfl (b + 1) _ 1 8 HI2.out rfl (by decide) (by decide) Tryz.underlying41 _ R.ats.length _ rfl (H9.out _).at_ W8.heap.size [.int .i64 d.at_] rfl rfl (lb_new W8 [.int .i64 d.at_] 3).range (fun x hx => by rw [List.mem_singleton.1 hx]; rfl) (by omega) (H9.out _).rd.lt ?_
        intro v' w' hrow hgr
        obtain ⟨a8, c8, e8⟩ := ownsRow_shape hrow
        subst e8
        have HP := (H9.out _).push hrow hgr
        have HZ : Hid (RdM b (w'.setCell ⟨b, 5, none⟩ (.slice a8 (R.ats.length + 1) c8)) r3 en nm ⟨pv, R.ss ++ [⟨d.t, u, t⟩], R.ats ++ [d.at_]⟩ ∧ Below b w (w'.setCell ⟨b, 5, none⟩ (.slice a8 (R.ats.length + 1) c8)) ∧ ∀ g D, g ≠ b → LB w g 55 D → LB (w'.setCell ⟨b, 5, none⟩ (.slice a8 (R.ats.length + 1) c8)) g 55 D) := HP.2.2.2.2
        have y5 := HP.2.2.1
        have z5 := HP.2.2.2.1
        have HS3 : Hid _ := HP.2.1
        refine hK.out _ _ HP.1 (fun hH2 => ?_)
        clear hK K hrow hgr HP c5 d5 H8 H9 hH
        simp only [Act.put, List.setIfInBounds_toArray, List.set_cons_zero, List.set_cons_succ, List.getElem_toArray, List.getElem_cons_zero, List.getElem_cons_succ]
        refine zqk 9 rfl hH2 ?_
        simp only [Act.put, List.setIfInBounds_toArray, List.set_cons_zero, List.set_cons_succ, List.getElem_toArray, List.getElem_cons_zero, List.getElem_cons_succ]
        refine zqk 10 rfl hH2 ?_
        simp only [Act.put, List.setIfInBounds_toArray, List.set_cons_zero, List.set_cons_succ, List.getElem_toArray, List.getElem_cons_zero, List.getElem_cons_succ]
        refine wpAnyH_ready (rs := [11]) (by kernel_rfl) (by simp) ?_
        refine AllReadyH.cons rfl (fun K hK => ?_) AllReadyH.nil
        go_simp
        refine hK.out _ _ HS3.out (fun _ => ?_)
        clear hK K hH2 HS3 y5 z5
        refine wpAnyH_done (by kernel_rfl) ?_ _
        go_wp2_with fail
        go_ret
        exact ⟨rfl, HZ.out⟩
      · refine AllReadyH.cons rfl (fun K hK => ?_) AllReadyH.nil
        go_simp
        refine hK.out _ _ ((H9.out _).lw.cell 1 _ rfl) (fun _ => ?_)
        clear hK K
        refine wpAnyH_ready (rs := [4]) (by kernel_rfl) (by simp) ?_
        refine AllReadyH.cons rfl (fun K hK => ?_) AllReadyH.nil
        go_simp
        refine hK.out _ _ ((H9.out _).lw.cell 1 _ rfl) (fun _ => ?_)
        clear hK K
        refine wpAnyH_ready (rs := [8]) (by kernel_rfl) (by simp) ?_
        refine AllReadyH.cons rfl (fun K hK => ?_) AllReadyH.nil
        refine step_app rfl (.tmp 47) (.tmp 50) 3 41 rfl (b + 1) _ 1 8 HI2.out rfl (by decide) (by decide) Tryz.underlying41 _ R.ats.length _ rfl (H9.out _).at_ W8.heap.size [.int .i64 d.at_] rfl rfl (lb_new W8 [.int .i64 d.at_] 3).range (fun x hx => by rw [List.mem_singleton.1 hx]; rfl) (by omega) (H9.out _).rd.lt ?_
        intro v' w' hrow hgr
        obtain ⟨a8, c8, e8⟩ := ownsRow_shape hrow
        subst e8
        have HP := (H9.out _).push hrow hgr
        have HZ : Hid (RdM b (w'.setCell ⟨b, 5, none⟩ (.slice a8 (R.ats.length + 1) c8)) r3 en nm ⟨pv, R.ss ++ [⟨d.t, u, t⟩], R.ats ++ [d.at_]⟩ ∧ Below b w (w'.setCell ⟨b, 5, none⟩ (.slice a8 (R.ats.length + 1) c8)) ∧ ∀ g D, g ≠ b → LB w g 55 D → LB (w'.setCell ⟨b, 5, none⟩ (.slice a8 (R.ats.length + 1) c8)) g 55 D) := HP.2.2.2.2
        have y5 := HP.2.2.1
        have z5 := HP.2.2.2.1
        have HS3 : Hid _ := HP.2.1
        refine hK.out _ _ HP.1 (fun hH2 => ?_)
        clear hK K hrow hgr HP c5 d5 H8 H9 hH
        simp only [Act.put, List.setIfInBounds_toArray, List.set_cons_zero, List.set_cons_succ, List.getElem_toArray, List.getElem_cons_zero, List.getElem_cons_succ]
        refine zqk 9 rfl hH2 ?_
        simp only [Act.put, List.setIfInBounds_toArray, List.set_cons_zero, List.set_cons_succ, List.getElem_toArray, List.getElem_cons_zero, List.getElem_cons_succ]
        refine zqk 10 rfl hH2 ?_
        simp only [Act.put, List.setIfInBounds_toArray, List.set_cons_zero, List.set_cons_succ, List.getElem_toArray, List.getElem_cons_zero, List.getElem_cons_succ]
        refine wpAnyH_ready (rs := [11]) (by kernel_rfl) (by simp) ?_
        refine AllReadyH.cons rfl (fun K hK => ?_) AllReadyH.nil
        go_simp
        refine hK.out _ _ HS3.out (fun _ => ?_)
        clear hK K hH2 HS3 y5 z5
        refine wpAnyH_done (by kernel_rfl) ?_ _
        go_wp2_with fail
        go_ret
        exact ⟨rfl, HZ.out⟩
  · have hp2 : (R.piv != 0) = true := by simp [hp]
    rw [if_neg hp] at ht0
    subst ht0
    clear hp
    go_enter Tryz.func35, Tryz.ntmps35
    go_wp2_with fail
    refine HT.out.mono ?_
    rintro e w1 ⟨rfl, k1, g1⟩
    have H1 : Hid (RdW b w1 r1 en nm R.piv vs va ∧ Chg b w w1) := ⟨k1, g1⟩
    have p3 : ∀ o o2, ((w1.alloc o).alloc o2).cell? ⟨b, 3, none⟩ = some (.int .i64 R.piv) := fun o o2 => HPV.out _ ((k1.kept (up0 _ o)).kept (up0 _ o2))
    have hb1 : b ≠ w1.heap.size := Nat.ne_of_lt k1.lt
    have hb2 : b ≠ w1.heap.size + 1 := by have := k1.lt; omega
    clear k1 g1 HT HPV
    go_wp2_with fail
    obtain ⟨W, eW⟩ : ∃ W, W = (w1.alloc (.cells #[.int .i64 d.k, .int .i64 d.at_, .string d.t, .int .i64 d.n] 55)).alloc (.cells #[.string d.t, .string ⟨#[]⟩, .int .i64 0] 60) := ⟨_, rfl⟩
    rw [← eW]
    have H2 : Hid (RdW b W r1 en nm R.piv vs va ∧ LB W w1.heap.size 55 (wdc d) ∧ LB W (w1.heap.size + 1) 60 (stc d.t ⟨#[]⟩ 0) ∧ Below w1.heap.size w1 W) := by
      obtain ⟨q1, q2, q3⟩ := lb_new2 w1 (wdc d) (stc d.t ⟨#[]⟩ 0) 55 60
      rw [eW]
      exact ⟨H1.out.1.kept q3, q1, q2, q3⟩
    clear eW p3 hb1 hb2
    refine (HTR.out _ _ H2.out.1 H2.out.2.2.1 (by have := H1.out.1.lt; omega)).mono ?_
    rintro e w4 ⟨rfl, k4, l4, g4⟩
    have H4 : Hid (RdW b w4 r2 en nm R.piv vs va ∧ LB w4 (w1.heap.size + 1) 60 (stc d.t ⟨#[]⟩ t) ∧ Ch2 b (w1.heap.size + 1) W w4) := ⟨k4, l4, g4⟩
    clear k4 l4 g4 HTR
    go_wp2_with fail
    refine (HEN.out _ _ H4.out.1 H4.out.2.1 (by have := H1.out.1.lt; omega)).mono ?_
    rintro e w5 ⟨rfl, k5, l5, g5⟩
    have H5 : Hid (Mid b w1.heap.size (w1.heap.size + 1) w w5 r3 en nm pv vs va d d.t u t R.ss R.ats) := HM.out w1 W w4 w5 _ H1.out.1 H1.out.2 rfl H2.out.2.1 H2.out.2.2.2 H4.out.2.1 H4.out.2.2 H4.out.1 k5 l5 g5
    clear k5 l5 g5 HEN HM H1 H2 H4
    generalize w1.heap.size + 1 = c at *
    generalize w1.heap.size = wb at *
    obtain ⟨rfl, rfl⟩ := HSL.out
    clear HSL
    go_wp2_with fail
    refine wp_region_held_drew (S := fun w' : World => w'.rangeAt c 0 (stc d.t u t)) (by kernel_rfl) (H5.out.lc.kept (Below.drew (Below.refl _ _))).range (fun hH => ?_)
    have H6 : Hid (Mid b wb c w w5.drew r3 en nm pv (.slice av R.ss.length cv) (.slice aa R.ats.length ca) d d.t u t R.ss R.ats) := H5.out.up (Below.drew (Below.refl _ _))
    clear H5
    generalize w5.drew = W5 at *
    have c4 : W5.cell? ⟨b, 4, none⟩ = some (.slice av R.ss.length cv) := by
      obtain ⟨vw, l, -⟩ := H6.out.rd
      exact l.cell 4 _ rfl
    have H7 : Hid (∀ o, Mid b wb c w (W5.alloc o) r3 en nm pv (.slice av R.ss.length cv) (.slice aa R.ats.length ca) d d.t u t R.ss R.ats) := fun o => H6.out.up (up0 _ _)
    have d4 : ∀ o, (W5.alloc o).cell? ⟨b, 4, none⟩ = some (.slice av R.ss.length cv) := fun o => by
      obtain ⟨vw, l, -⟩ := (H7.out o).rd
      exact l.cell 4 _ rfl
    refine zqk 0 rfl hH ?_
    simp only [Act.put, List.setIfInBounds_toArray, List.set_cons_zero, List.set_cons_succ, List.getElem_toArray, List.getElem_cons_zero]
    refine zqk 1 rfl hH ?_
    simp only [Act.put, List.setIfInBounds_toArray, List.set_cons_zero, List.set_cons_succ, List.getElem_toArray, List.getElem_cons_zero, List.getElem_cons_succ]
    refine zqk 2 rfl hH ?_
    simp only [Act.put, List.setIfInBounds_toArray, List.set_cons_zero, List.set_cons_succ, List.getElem_toArray, List.getElem_cons_zero, List.getElem_cons_succ]
    refine zqk 3 rfl hH ?_
    simp only [Act.put, List.setIfInBounds_toArray, List.set_cons_zero, List.set_cons_succ, List.getElem_toArray, List.getElem_cons_zero, List.getElem_cons_succ]
    refine zqk 4 rfl hH ?_
    simp only [Act.put, List.setIfInBounds_toArray, List.set_cons_zero, List.set_cons_succ, List.getElem_toArray, List.getElem_cons_zero, List.getElem_cons_succ]
    refine zql 6 rfl (yieldsIf_load_mid (by rfl) _ _ rfl _ _ rfl (stc d.t u t) _ (fun w' hSw => hSw) Tryz.underlying60 rfl HIS.out) hH ?_
    simp only [Act.put, List.setIfInBounds_toArray, List.set_cons_zero, List.set_cons_succ, List.getElem_toArray, List.getElem_cons_zero, List.getElem_cons_succ]
    refine wpAnyH_ready (rs := [5, 7]) (by kernel_rfl) (by simp) ?_
    refine AllReadyH.cons rfl (fun K hK => ?p3) ?p4
    case' p3 =>
      go_simp
      refine hK.out _ _ H6.out.lc.range (fun _ => ?_)
      clear hK K
      refine wpAnyH_ready (rs := [7]) (by kernel_rfl) (by simp) ?_
      refine AllReadyH.cons rfl (fun K hK => ?_) AllReadyH.nil
      unfold stc
      go_simp
      refine hK.out _ _ (H7.out _).lc.range (fun _ => ?_)
      clear hK K
    case' p4 =>
      refine AllReadyH.cons rfl (fun K hK => ?_) AllReadyH.nil
      unfold stc
      go_simp
      refine hK.out _ _ (H7.out _).lc.range (fun _ => ?_)
      clear hK K
      refine wpAnyH_ready (rs := [5]) (by kernel_rfl) (by simp) ?_
      refine AllReadyH.cons rfl (fun K hK => ?_) AllReadyH.nil
      go_simp
      refine hK.out _ _ (H7.out _).lc.range (fun _ => ?_)
      clear hK K
    all_goals
      refine wpAnyH_ready (rs := [8]) (by kernel_rfl) (by simp) ?_
      refine AllReadyH.cons rfl (fun K hK => ?_) AllReadyH.nil
      refine step_app rfl (.tmp 36) (.tmp 38) 60 23 rfl (b + 1) _ 3 40 HI1.out rfl (by decide) (by decide) Tryz.underlying23 _ R.ss.length _ rfl (H7.out _).st W5.heap.size (stc d.t u t) rfl rfl (lb_new W5 (stc d.t u t) 60).range (fun x hx => by simp only [stc, List.mem_cons, List.not_mem_nil, or_false] at hx; rcases hx with rfl | rfl | rfl <;> rfl) (by omega) (H7.out _).rd.lt ?_
      intro v' w' hrow hgr
      obtain ⟨a9, c9, e9⟩ := ownsRow_shape hrow
      subst e9
      have HP := (H7.out _).push hrow hgr
      have HQ : Hid (∀ n, Mid2 b wb w ((w'.setCell ⟨b, 4, none⟩ (.slice a9 (R.ss.length + 1) c9)).drewN n) r3 en nm pv (.slice a9 (R.ss.length + 1) c9) (.slice aa R.ats.length ca) d (R.ss ++ [⟨d.t, u, t⟩]) R.ats) := fun n => HP.2.2.2.2.up (below_drewN (Below.refl _ _) n)
      have HS2 : Hid ((w'.setCell ⟨b, 4, none⟩ (.slice a9 (R.ss.length + 1) c9)).rangeAt c 0 (stc d.t u t)) := HP.2.1
      have y4 := HP.2.2.1
      have z4 := HP.2.2.2.1
      refine hK.out _ _ HP.1 (fun hH2 => ?_)
      clear hK K hrow hgr HP c4 d4 H6 H7 hH
      simp only [Act.put, List.setIfInBounds_toArray, List.set_cons_zero, List.set_cons_succ, List.getElem_toArray, List.getElem_cons_zero, List.getElem_cons_succ]
      refine zqk 9 rfl hH2 ?_
      simp only [Act.put, List.setIfInBounds_toArray, List.set_cons_zero, List.set_cons_succ, List.getElem_toArray, List.getElem_cons_zero, List.getElem_cons_succ]
      refine zqk 10 rfl hH2 ?_
      simp only [Act.put, List.setIfInBounds_toArray, List.set_cons_zero, List.set_cons_succ, List.getElem_toArray, List.getElem_cons_zero, List.getElem_cons_succ]
      refine zqk 11 rfl hH2 ?_
      simp only [Act.put, List.setIfInBounds_toArray, List.set_cons_zero, List.set_cons_succ, List.getElem_toArray, List.getElem_cons_zero, List.getElem_cons_succ]
      refine wpAnyH_ready (rs := [12]) (by kernel_rfl) (by simp) ?_
      refine AllReadyH.cons rfl (fun K hK => ?_) AllReadyH.nil
      go_simp
      refine hK.out _ _ HS2.out (fun _ => ?_)
      clear hK K hH2 HS2 y4 z4
      refine wpAnyH_done (by kernel_rfl) ?_ _
      have HQ0 : Hid _ := HQ.out 0
      clear HQ
      have e0 : ∀ X : World, X.drewN 0 = X := fun _ => rfl
      rw [e0] at HQ0
      clear e0
      generalize w'.setCell ⟨b, 4, none⟩ (.slice a9 (R.ss.length + 1) c9) = W7 at *
      go_wp2_with fail
      refine wp_region_held_drew (S := fun w' : World => w'.cell? ⟨wb, 1, none⟩ = some (.int .i64 d.at_)) (by kernel_rfl) ((HQ0.out.lw.kept (Below.drew (Below.refl _ _))).cell 1 _ rfl) (fun hH => ?_)
      have H8 : Hid _ := HQ0.out.up (Below.drew (Below.refl _ _))
      clear HQ0
      generalize W7.drew = W8 at *
      have c5 : W8.cell? ⟨b, 5, none⟩ = some (.slice aa R.ats.length ca) := by
        obtain ⟨vw, l, -⟩ := H8.out.rd
        exact l.cell 5 _ rfl
      have H9 : Hid (∀ o, Mid2 b wb w (W8.alloc o) r3 en nm pv (.slice a9 (R.ss.length + 1) c9) (.slice aa R.ats.length ca) d (R.ss ++ [⟨d.t, u, t⟩]) R.ats) := fun o => H8.out.up (up0 _ _)
      have d5 : ∀ o, (W8.alloc o).cell? ⟨b, 5, none⟩ = some (.slice aa R.ats.length ca) := fun o => by
        obtain ⟨vw, l, -⟩ := (H9.out o).rd
        exact l.cell 5 _ rfl
      refine zqk 0 rfl hH ?_
      simp only [Act.put, List.setIfInBounds_toArray, List.set_cons_zero, List.set_cons_succ, List.getElem_toArray, List.getElem_cons_zero]
      refine zqk 1 rfl hH ?_
      simp only [Act.put, List.setIfInBounds_toArray, List.set_cons_zero, List.set_cons_succ, List.getElem_toArray, List.getElem_cons_zero, List.getElem_cons_succ]
      refine zqk 2 rfl hH ?_
      simp only [Act.put, List.setIfInBounds_toArray, List.set_cons_zero, List.set_cons_succ, List.getElem_toArray, List.getElem_cons_zero, List.getElem_cons_succ]
      refine zqk 3 rfl hH ?_
      simp only [Act.put, List.setIfInBounds_toArray, List.set_cons_zero, List.set_cons_succ, List.getElem_toArray, List.getElem_cons_zero, List.getElem_cons_succ]
      refine zqk 5 rfl hH ?_
      simp only [Act.put, List.setIfInBounds_toArray, List.set_cons_zero, List.set_cons_succ, List.getElem_toArray, List.getElem_cons_zero, List.getElem_cons_succ]
      refine zqk 6 rfl hH ?_
      simp only [Act.put, List.setIfInBounds_toArray, List.set_cons_zero, List.set_cons_succ, List.getElem_toArray, List.getElem_cons_zero, List.getElem_cons_succ]
      refine wpAnyH_ready (rs := [4, 7]) (by kernel_rfl) (by simp) ?_
      refine AllReadyH.cons rfl (fun K hK => ?_) ?_
      · go_simp
        refine hK.out _ _ (H8.out.lw.cell 1 _ rfl) (fun _ => ?_)
        clear hK K
        refine wpAnyH_ready (rs := [7]) (by kernel_rfl) (by simp) ?_
        refine AllReadyH.cons rfl (fun K hK => ?_) AllReadyH.nil
        go_simp
        refine hK.out _ _ ((H9.out _).lw.cell 1 _ rfl) (fun _ => ?_)
        clear hK K
        refine wpAnyH_ready (rs := [8]) (by kernel_rfl) (by simp) ?_
        refine AllReadyH.cons rfl (fun K hK => ?_) AllReadyH.nil
        refine step_app rfl (.tmp 47) (.tmp 50) 3 41 rfl (b + 1) _ 1 8 HI2.out rfl (by decide) (by decide) Tryz.underlying41 _ R.ats.length _ rfl (H9.out _).at_ W8.heap.size [.int .i64 d.at_] rfl rfl (lb_new W8 [.int .i64 d.at_] 3).range (fun x hx => by rw [List.mem_singleton.1 hx]; rfl) (by omega) (H9.out _).rd.lt ?_
        intro v' w' hrow hgr
        obtain ⟨a8, c8, e8⟩ := ownsRow_shape hrow
        subst e8
        have HP := (H9.out _).push hrow hgr
        have HZ : Hid (RdM b (w'.setCell ⟨b, 5, none⟩ (.slice a8 (R.ats.length + 1) c8)) r3 en nm ⟨pv, R.ss ++ [⟨d.t, u, t⟩], R.ats ++ [d.at_]⟩ ∧ Below b w (w'.setCell ⟨b, 5, none⟩ (.slice a8 (R.ats.length + 1) c8)) ∧ ∀ g D, g ≠ b → LB w g 55 D → LB (w'.setCell ⟨b, 5, none⟩ (.slice a8 (R.ats.length + 1) c8)) g 55 D) := HP.2.2.2.2
        have y5 := HP.2.2.1
        have z5 := HP.2.2.2.1
        have HS3 : Hid _ := HP.2.1
        refine hK.out _ _ HP.1 (fun hH2 => ?_)
        clear hK K hrow hgr HP c5 d5 H8 H9 hH
        simp only [Act.put, List.setIfInBounds_toArray, List.set_cons_zero, List.set_cons_succ, List.getElem_toArray, List.getElem_cons_zero, List.getElem_cons_succ]
        refine zqk 9 rfl hH2 ?_
        simp only [Act.put, List.setIfInBounds_toArray, List.set_cons_zero, List.set_cons_succ, List.getElem_toArray, List.getElem_cons_zero, List.getElem_cons_succ]
        refine zqk 10 rfl hH2 ?_
        simp only [Act.put, List.setIfInBounds_toArray, List.set_cons_zero, List.set_cons_succ, List.getElem_toArray, List.getElem_cons_zero, List.getElem_cons_succ]
        refine wpAnyH_ready (rs := [11]) (by kernel_rfl) (by simp) ?_
        refine AllReadyH.cons rfl (fun K hK => ?_) AllReadyH.nil
        go_simp
        refine hK.out _ _ HS3.out (fun _ => ?_)
        clear hK K hH2 HS3 y5 z5
        refine wpAnyH_done (by kernel_rfl) ?_ _
        go_wp2_with fail
        go_ret
        exact ⟨rfl, HZ.out⟩
      · refine AllReadyH.cons rfl (fun K hK => ?_) AllReadyH.nil
        go_simp
        refine hK.out _ _ ((H9.out _).lw.cell 1 _ rfl) (fun _ => ?_)
        clear hK K
        refine wpAnyH_ready (rs := [4]) (by kernel_rfl) (by simp) ?_
        refine AllReadyH.cons rfl (fun K hK => ?_) AllReadyH.nil
        go_simp
        refine hK.out _ _ ((H9.out _).lw.cell 1 _ rfl) (fun _ => ?_)
        clear hK K
        refine wpAnyH_ready (rs := [8]) (by kernel_rfl) (by simp) ?_
        refine AllReadyH.cons rfl (fun K hK => ?_) AllReadyH.nil
        refine step_app rfl (.tmp 47) (.tmp 50) 3 41 rfl (b + 1) _ 1 8 HI2.out rfl (by decide) (by decide) Tryz.underlying41 _ R.ats.length _ rfl (H9.out _).at_ W8.heap.size [.int .i64 d.at_] rfl rfl (lb_new W8 [.int .i64 d.at_] 3).range (fun x hx => by rw [List.mem_singleton.1 hx]; rfl) (by omega) (H9.out _).rd.lt ?_
        intro v' w' hrow hgr
        obtain ⟨a8, c8, e8⟩ := ownsRow_shape hrow
        subst e8
        have HP := (H9.out _).push hrow hgr
        have HZ : Hid (RdM b (w'.setCell ⟨b, 5, none⟩ (.slice a8 (R.ats.length + 1) c8)) r3 en nm ⟨pv, R.ss ++ [⟨d.t, u, t⟩], R.ats ++ [d.at_]⟩ ∧ Below b w (w'.setCell ⟨b, 5, none⟩ (.slice a8 (R.ats.length + 1) c8)) ∧ ∀ g D, g ≠ b → LB w g 55 D → LB (w'.setCell ⟨b, 5, none⟩ (.slice a8 (R.ats.length + 1) c8)) g 55 D) := HP.2.2.2.2
        have y5 := HP.2.2.1
        have z5 := HP.2.2.2.1
        have HS3 : Hid _ := HP.2.1
        refine hK.out _ _ HP.1 (fun hH2 => ?_)
        clear hK K hrow hgr HP c5 d5 H8 H9 hH
        simp only [Act.put, List.setIfInBounds_toArray, List.set_cons_zero, List.set_cons_succ, List.getElem_toArray, List.getElem_cons_zero, List.getElem_cons_succ]
        refine zqk 9 rfl hH2 ?_
        simp only [Act.put, List.setIfInBounds_toArray, List.set_cons_zero, List.set_cons_succ, List.getElem_toArray, List.getElem_cons_zero, List.getElem_cons_succ]
        refine zqk 10 rfl hH2 ?_
        simp only [Act.put, List.setIfInBounds_toArray, List.set_cons_zero, List.set_cons_succ, List.getElem_toArray, List.getElem_cons_zero, List.getElem_cons_succ]
        refine wpAnyH_ready (rs := [11]) (by kernel_rfl) (by simp) ?_
        refine AllReadyH.cons rfl (fun K hK => ?_) AllReadyH.nil
        go_simp
        refine hK.out _ _ HS3.out (fun _ => ?_)
        clear hK K hH2 HS3 y5 z5
        refine wpAnyH_done (by kernel_rfl) ?_ _
        go_wp2_with fail
        go_ret
        exact ⟨rfl, HZ.out⟩
end Go.Proofs.YtcnnpohnfoaceaaGreatDoor

/-
  Package plan: the reader's step that fails.
-/
namespace Go.Proofs.YtcnnpohnfoaceaaGreatDoor
open Go Go.RowKit
open Wb
open Text.Tx (Wd wdc wds wordP wdA)

theorem err_of {b c : Nat} {en : Int} {w w1 W w4 : World} {r : List Wd} {e : Ending} {w' : World} (hb : b < w.heap.size) (g1 : Chg b w w1) (bW : Below w1.heap.size w1 W) (G4 : Ch2 b c W w4) (h : ErrPost b en w4 r e w') : ErrPost b en w r e w' := by
  obtain ⟨h1, h2, h3⟩ := h
  have := g1.1.size
  exact ⟨h1, h2, ((g1.1.trans (bW.mono (by omega))).trans G4.1).trans h3⟩
theorem err_of0 {b : Nat} {en : Int} {w w1 W : World} {r : List Wd} {e : Ending} {w' : World} (hb : b < w.heap.size) (g1 : Chg b w w1) (bW : Below w1.heap.size w1 W) (h : ErrPost b en W r e w') : ErrPost b en w r e w' := by
  obtain ⟨h1, h2, h3⟩ := h
  have := g1.1.size
  exact ⟨h1, h2, (g1.1.trans (bW.mono (by omega))).trans h3⟩
set_option maxRecDepth 100000 in
set_option maxHeartbeats 8000000 in
theorem step_err (b : Nat) (ws : List Wd) (en : Int) (nm : ByteArray) (R : RdP) (w : World) (h : RdM b w ws en nm R) (r : List Wd) (hk : stepP R ws = .error r) (_hn : R.ss.length ≤ 100000) :
    Calls Tryz.prog 35 #[.pointer (some ⟨b, 0, none⟩)] w fun e w' => ErrPost b en w r e w' := by
  obtain ⟨vs, va, hR, hS, hA⟩ := h
  have HBB : Hid (b < w.heap.size) := hR.lt
  unfold stepP at hk
  cases h1 : takeP 1 ws with
  | none =>
    rw [h1] at hk
    injection hk with hk
    subst hk
    have HT : Hid (Calls Tryz.prog 33 #[.pointer (some ⟨b, 0, none⟩), .int .i64 1] w fun e w'' => e = .returned (.tuple #[.agg #[.int .i64 0, .int .i64 0, .string ⟨#[]⟩, .int .i64 0], .bool false]) ∧ Below w.heap.size w w'') := take_no b 1 ws en nm _ vs va w hR h1
    have HE : Hid (∀ w1 o, Below w.heap.size w w1 → ErrPost b en w ws (.returned (.bool false)) (w1.alloc o)) := fun w1 o hb => ⟨rfl, ⟨_, _, _, _, (hR.kept hb).kept (up0 _ _)⟩, (up hb o).mono (Nat.le_of_lt hR.lt)⟩
    clear hR hS hA h1
    go_enter Tryz.func35, Tryz.ntmps35
    go_wp2_with fail
    refine HT.out.mono ?_
    rintro e w1 ⟨rfl, b1⟩
    have H1 : Hid (∀ o, ErrPost b en w ws (.returned (.bool false)) (w1.alloc o)) := fun o => HE.out w1 o b1
    clear b1 HT HE
    go_wp2_with fail
    go_ret
    exact H1.out _
  | some p =>
  obtain ⟨d, r1⟩ := p
  rw [h1] at hk
  simp only at hk
  obtain ⟨t0, ht0⟩ : ∃ t0 : Int, t0 = if R.piv = 0 then 1 else 0 := ⟨_, rfl⟩
  rw [← ht0] at hk
  obtain ⟨rfl, hd⟩ := takeP_len h1
  obtain ⟨av, cv, ev⟩ := ownsRow_shape hS
  have HT : Hid (Calls Tryz.prog 33 #[.pointer (some ⟨b, 0, none⟩), .int .i64 1] w fun e w'' => e = .returned (.tuple #[.agg #[.int .i64 d.k, .int .i64 d.at_, .string d.t, .int .i64 d.n], .bool true]) ∧ RdW b w'' r1 en nm R.piv vs va ∧ Chg b w w'') := takeY b 1 d r1 en nm _ vs va w hR hd
  have HPV : Hid (∀ W, RdW b W r1 en nm R.piv vs va → W.cell? ⟨b, 3, none⟩ = some (.int .i64 R.piv)) := fun W k => by
    obtain ⟨vw, l, -⟩ := k
    exact l.cell 3 _ rfl
  clear hR hS hA h1 hd
  cases h2 : triesP t0 r1 with
  | error e =>
    rw [h2] at hk
    injection hk with hk
    subst hk
    have HTR : Hid (∀ c w', RdW b w' r1 en nm R.piv vs va → LB w' c 60 (stc d.t ⟨#[]⟩ t0) → b < c → Calls Tryz.prog 60 #[.pointer (some ⟨b, 0, none⟩), .pointer (some ⟨c, 0, none⟩)] w' fun e9 w'' => ErrPost b en w' e e9 w'') := fun c w' k L hc => tries_err b c r1 en nm _ vs va d.t ⟨#[]⟩ t0 w' k L hc e h2
    clear h2 ev
    by_cases hp : R.piv = 0
    · have hp2 : (R.piv != 0) = false := by rw [hp]; rfl
      rw [if_pos hp] at ht0
      subst ht0
      clear hp
      go_enter Tryz.func35, Tryz.ntmps35
      go_wp2_with fail
      refine HT.out.mono ?_
      rintro e9 w1 ⟨rfl, k1, g1⟩
      have H1 : Hid (RdW b w1 r1 en nm R.piv vs va ∧ Chg b w w1) := ⟨k1, g1⟩
      have p3 : ∀ o o2, ((w1.alloc o).alloc o2).cell? ⟨b, 3, none⟩ = some (.int .i64 R.piv) := fun o o2 => HPV.out _ ((k1.kept (up0 _ o)).kept (up0 _ o2))
      have hb1 : b ≠ w1.heap.size := Nat.ne_of_lt k1.lt
      have hb2 : b ≠ w1.heap.size + 1 := by have := k1.lt; omega
      clear k1 g1 HT HPV
      go_wp2_with fail
      obtain ⟨W, eW⟩ : ∃ W, W = (w1.alloc (.cells #[.int .i64 d.k, .int .i64 d.at_, .string d.t, .int .i64 d.n] 55)).alloc (.cells #[.string d.t, .string ⟨#[]⟩, .int .i64 1] 60) := ⟨_, rfl⟩
      rw [← eW]
      have H2 : Hid (RdW b W r1 en nm R.piv vs va ∧ LB W (w1.heap.size + 1) 60 (stc d.t ⟨#[]⟩ 1) ∧ Below w1.heap.size w1 W) := by
        obtain ⟨q1, q2, q3⟩ := lb_new2 w1 (wdc d) (stc d.t ⟨#[]⟩ 1) 55 60
        rw [eW]
        exact ⟨H1.out.1.kept q3, q2, q3⟩
      clear eW p3 hb1 hb2
      refine (HTR.out _ _ H2.out.1 H2.out.2.1 (by have := H1.out.1.lt; omega)).mono ?_
      intro e9 w4 hE
      have HX : Hid (ErrPost b en w e e9 w4) := err_of0 HBB.out H1.out.2 H2.out.2.2 hE
      obtain ⟨rfl, -⟩ := hE
      clear HTR H1 H2
      go_wp2_with fail
      go_ret
      exact HX.out
    · have hp2 : (R.piv != 0) = true := by simp [hp]
      rw [if_neg hp] at ht0
      subst ht0
      clear hp
      go_enter Tryz.func35, Tryz.ntmps35
      go_wp2_with fail
      refine HT.out.mono ?_
      rintro e9 w1 ⟨rfl, k1, g1⟩
      have H1 : Hid (RdW b w1 r1 en nm R.piv vs va ∧ Chg b w w1) := ⟨k1, g1⟩
      have p3 : ∀ o o2, ((w1.alloc o).alloc o2).cell? ⟨b, 3, none⟩ = some (.int .i64 R.piv) := fun o o2 => HPV.out _ ((k1.kept (up0 _ o)).kept (up0 _ o2))
      have hb1 : b ≠ w1.heap.size := Nat.ne_of_lt k1.lt
      have hb2 : b ≠ w1.heap.size + 1 := by have := k1.lt; omega
      clear k1 g1 HT HPV
      go_wp2_with fail
      obtain ⟨W, eW⟩ : ∃ W, W = (w1.alloc (.cells #[.int .i64 d.k, .int .i64 d.at_, .string d.t, .int .i64 d.n] 55)).alloc (.cells #[.string d.t, .string ⟨#[]⟩, .int .i64 0] 60) := ⟨_, rfl⟩
      rw [← eW]
      have H2 : Hid (RdW b W r1 en nm R.piv vs va ∧ LB W (w1.heap.size + 1) 60 (stc d.t ⟨#[]⟩ 0) ∧ Below w1.heap.size w1 W) := by
        obtain ⟨q1, q2, q3⟩ := lb_new2 w1 (wdc d) (stc d.t ⟨#[]⟩ 0) 55 60
        rw [eW]
        exact ⟨H1.out.1.kept q3, q2, q3⟩
      clear eW p3 hb1 hb2
      refine (HTR.out _ _ H2.out.1 H2.out.2.1 (by have := H1.out.1.lt; omega)).mono ?_
      intro e9 w4 hE
      have HX : Hid (ErrPost b en w e e9 w4) := err_of0 HBB.out H1.out.2 H2.out.2.2 hE
      obtain ⟨rfl, -⟩ := hE
      clear HTR H1 H2
      go_wp2_with fail
      go_ret
      exact HX.out
  | ok p =>
    obtain ⟨t, r2⟩ := p
    rw [h2] at hk
    simp only at hk
    cases h3 : endP R.piv R.ss.length r2 with
    | ok p => rw [h3] at hk; cases hk
    | error e =>
    rw [h3] at hk
    injection hk with hk
    subst hk
    have HTR : Hid (∀ c w', RdW b w' r1 en nm R.piv vs va → LB w' c 60 (stc d.t ⟨#[]⟩ t0) → b < c → Calls Tryz.prog 60 #[.pointer (some ⟨b, 0, none⟩), .pointer (some ⟨c, 0, none⟩)] w' fun e w'' => StpPost b c en nm R.piv vs va w' d.t ⟨#[]⟩ t r2 e w'') := fun c w' k L hc => tries_ok b c r1 en nm _ vs va d.t ⟨#[]⟩ t0 w' k L hc t r2 h2
    have HEN : Hid (∀ c w', RdW b w' r2 en nm R.piv vs va → LB w' c 60 (stc d.t ⟨#[]⟩ t) → b < c → Calls Tryz.prog 61 #[.pointer (some ⟨b, 0, none⟩), .pointer (some ⟨c, 0, none⟩)] w' fun e9 w'' => ErrPost b en w' e e9 w'') := fun c w' k L hc => end_err b c r2 en nm _ vs va d.t ⟨#[]⟩ t w' k L hc R.ss.length e h3 rfl
    clear h2 h3 ev
    by_cases hp : R.piv = 0
    · have hp2 : (R.piv != 0) = false := by rw [hp]; rfl
      rw [if_pos hp] at ht0
      subst ht0
      clear hp
      go_enter Tryz.func35, Tryz.ntmps35
      go_wp2_with fail
      refine HT.out.mono ?_
      rintro e9 w1 ⟨rfl, k1, g1⟩
      have H1 : Hid (RdW b w1 r1 en nm R.piv vs va ∧ Chg b w w1) := ⟨k1, g1⟩
      have p3 : ∀ o o2, ((w1.alloc o).alloc o2).cell? ⟨b, 3, none⟩ = some (.int .i64 R.piv) := fun o o2 => HPV.out _ ((k1.kept (up0 _ o)).kept (up0 _ o2))
      have hb1 : b ≠ w1.heap.size := Nat.ne_of_lt k1.lt
      have hb2 : b ≠ w1.heap.size + 1 := by have := k1.lt; omega
      clear k1 g1 HT HPV
      go_wp2_with fail
      obtain ⟨W, eW⟩ : ∃ W, W = (w1.alloc (.cells #[.int .i64 d.k, .int .i64 d.at_, .string d.t, .int .i64 d.n] 55)).alloc (.cells #[.string d.t, .string ⟨#[]⟩, .int .i64 1] 60) := ⟨_, rfl⟩
      rw [← eW]
      have H2 : Hid (RdW b W r1 en nm R.piv vs va ∧ LB W (w1.heap.size + 1) 60 (stc d.t ⟨#[]⟩ 1) ∧ Below w1.heap.size w1 W) := by
        obtain ⟨q1, q2, q3⟩ := lb_new2 w1 (wdc d) (stc d.t ⟨#[]⟩ 1) 55 60
        rw [eW]
        exact ⟨H1.out.1.kept q3, q2, q3⟩
      clear eW p3 hb1 hb2
      refine (HTR.out _ _ H2.out.1 H2.out.2.1 (by have := H1.out.1.lt; omega)).mono ?_
      rintro e9 w4 ⟨rfl, k4, l4, g4⟩
      have H4 : Hid (RdW b w4 r2 en nm R.piv vs va ∧ LB w4 (w1.heap.size + 1) 60 (stc d.t ⟨#[]⟩ t) ∧ Ch2 b (w1.heap.size + 1) W w4) := ⟨k4, l4, g4⟩
      clear k4 l4 g4 HTR
      go_wp2_with fail
      refine (HEN.out _ _ H4.out.1 H4.out.2.1 (by have := H1.out.1.lt; omega)).mono ?_
      intro e9 w5 hE
      have HX : Hid (ErrPost b en w e e9 w5) := err_of HBB.out H1.out.2 H2.out.2.2 H4.out.2.2 hE
      obtain ⟨rfl, -⟩ := hE
      clear HEN H1 H2 H4
      go_wp2_with fail
      go_ret
      exact HX.out
    · have hp2 : (R.piv != 0) = true := by simp [hp]
      rw [if_neg hp] at ht0
      subst ht0
      clear hp
      go_enter Tryz.func35, Tryz.ntmps35
      go_wp2_with fail
      refine HT.out.mono ?_
      rintro e9 w1 ⟨rfl, k1, g1⟩
      have H1 : Hid (RdW b w1 r1 en nm R.piv vs va ∧ Chg b w w1) := ⟨k1, g1⟩
      have p3 : ∀ o o2, ((w1.alloc o).alloc o2).cell? ⟨b, 3, none⟩ = some (.int .i64 R.piv) := fun o o2 => HPV.out _ ((k1.kept (up0 _ o)).kept (up0 _ o2))
      have hb1 : b ≠ w1.heap.size := Nat.ne_of_lt k1.lt
      have hb2 : b ≠ w1.heap.size + 1 := by have := k1.lt; omega
      clear k1 g1 HT HPV
      go_wp2_with fail
      obtain ⟨W, eW⟩ : ∃ W, W = (w1.alloc (.cells #[.int .i64 d.k, .int .i64 d.at_, .string d.t, .int .i64 d.n] 55)).alloc (.cells #[.string d.t, .string ⟨#[]⟩, .int .i64 0] 60) := ⟨_, rfl⟩
      rw [← eW]
      have H2 : Hid (RdW b W r1 en nm R.piv vs va ∧ LB W (w1.heap.size + 1) 60 (stc d.t ⟨#[]⟩ 0) ∧ Below w1.heap.size w1 W) := by
        obtain ⟨q1, q2, q3⟩ := lb_new2 w1 (wdc d) (stc d.t ⟨#[]⟩ 0) 55 60
        rw [eW]
        exact ⟨H1.out.1.kept q3, q2, q3⟩
      clear eW p3 hb1 hb2
      refine (HTR.out _ _ H2.out.1 H2.out.2.1 (by have := H1.out.1.lt; omega)).mono ?_
      rintro e9 w4 ⟨rfl, k4, l4, g4⟩
      have H4 : Hid (RdW b w4 r2 en nm R.piv vs va ∧ LB w4 (w1.heap.size + 1) 60 (stc d.t ⟨#[]⟩ t) ∧ Ch2 b (w1.heap.size + 1) W w4) := ⟨k4, l4, g4⟩
      clear k4 l4 g4 HTR
      go_wp2_with fail
      refine (HEN.out _ _ H4.out.1 H4.out.2.1 (by have := H1.out.1.lt; omega)).mono ?_
      intro e9 w5 hE
      have HX : Hid (ErrPost b en w e e9 w5) := err_of HBB.out H1.out.2 H2.out.2.2 H4.out.2.2 hE
      obtain ⟨rfl, -⟩ := hE
      clear HEN H1 H2 H4
      go_wp2_with fail
      go_ret
      exact HX.out
end Go.Proofs.YtcnnpohnfoaceaaGreatDoor

/-
  Package plan: the reader's whole.
-/
namespace Go.Proofs.YtcnnpohnfoaceaaGreatDoor
open Go Go.RowKit
open Wb
open Text.Tx (Wd wdc wds wordP wdA)

/-- how many words are left -/
def wleft (b : Nat) (w : World) : Nat := match w.cell? ⟨b, 0, none⟩ with | some (.slice _ n _) => n | _ => 0
theorem RdM.left {b : Nat} {w : World} {ws : List Wd} {en : Int} {nm : ByteArray} {R : RdP} (h : RdM b w ws en nm R) : wleft b w = ws.length := by
  obtain ⟨vs, va, ⟨vw, L, ao, cap, rfl, -⟩, -⟩ := h
  unfold wleft
  rw [L.cell 0 _ rfl]
theorem RdM.len {b : Nat} {w : World} {ws : List Wd} {en : Int} {nm : ByteArray} {R : RdP} (h : RdM b w ws en nm R) : ∃ a, ∃ c : Nat, w.cell? ⟨b, 0, none⟩ = some (.slice a ws.length c) := by
  obtain ⟨vs, va, ⟨vw, L, ao, cap, rfl, -⟩, -⟩ := h
  exact ⟨ao, cap, L.cell 0 _ rfl⟩
theorem RdM.lt {b : Nat} {w : World} {ws : List Wd} {en : Int} {nm : ByteArray} {R : RdP} (h : RdM b w ws en nm R) : b < w.heap.size := by
  obtain ⟨vs, va, h1, -⟩ := h
  exact h1.lt
theorem RdM.kept {b : Nat} {w w' : World} {ws : List Wd} {en : Int} {nm : ByteArray} {R : RdP} (h : RdM b w ws en nm R) (hb : Below w.heap.size w w') : RdM b w' ws en nm R := by
  obtain ⟨vs, va, h1, h2, h3⟩ := h
  have q := rows_chg ⟨h2, h3⟩ fun k _ hk => hb.block k hk
  exact ⟨vs, va, h1.kept hb, q.1, q.2⟩
theorem RdM.name {b : Nat} {w : World} {ws : List Wd} {en : Int} {nm : ByteArray} {R : RdP} (h : RdM b w ws en nm R) (q : ByteArray) : RdM b (w.setCell ⟨b, 2, none⟩ (.string q)) ws en q R ∧ w.cell? ⟨b, 2, none⟩ = some (.string nm) ∧ w.frozen? ⟨b, 2, none⟩ = false := by
  obtain ⟨vs, va, h1, h2, h3⟩ := h
  have q2 := rows_chg (w' := w.setCell ⟨b, 2, none⟩ (.string q)) ⟨h2, h3⟩ fun k hk _ => set_other _ _ _ _ (by show k ≠ b; omega)
  refine ⟨⟨vs, va, h1.name q, q2.1, q2.2⟩, ?_⟩
  obtain ⟨vw, L, -⟩ := h1
  exact ⟨L.cell 2 _ rfl, L.free 2⟩
theorem RdM.sign_yes {b : Nat} {w : World} {ws : List Wd} {en : Int} {nm : ByteArray} {R : RdP} (h : RdM b w ws en nm R) (t : ByteArray) (r : List Wd) (hk : signP t ws = some r) :
    Calls Tryz.prog 34 #[.pointer (some ⟨b, 0, none⟩), .string t] w fun e w' => e = .returned (.bool true) ∧ RdM b w' r en nm R ∧ Chg b w w' := by
  obtain ⟨vs, va, h1, h2, h3⟩ := h
  refine (Go.Proofs.YtcnnpohnfoaceaaGreatDoor.sign_yes b t ws r en nm _ vs va w h1 hk).mono ?_
  rintro e w' ⟨rfl, k1, g1⟩
  have q := rows_chg ⟨h2, h3⟩ fun k hk hl => g1.2 k (by omega) hl
  exact ⟨rfl, ⟨vs, va, k1, q.1, q.2⟩, g1⟩
theorem RdM.sign_no {b : Nat} {w : World} {ws : List Wd} {en : Int} {nm : ByteArray} {R : RdP} (h : RdM b w ws en nm R) (t : ByteArray) (hk : signP t ws = none) :
    Calls Tryz.prog 34 #[.pointer (some ⟨b, 0, none⟩), .string t] w fun e w' => e = .returned (.bool false) ∧ ErrPost b en w ws (.returned (.bool false)) w' := by
  obtain ⟨vs, va, h1, h2, h3⟩ := h
  refine (Go.Proofs.YtcnnpohnfoaceaaGreatDoor.sign_no b t ws en nm _ vs va w h1 hk).mono ?_
  rintro e w' ⟨rfl, b1⟩
  exact ⟨rfl, rfl, ⟨_, _, _, _, h1.kept b1⟩, b1.mono (Nat.le_of_lt h1.lt)⟩
theorem RdM.take_yes {b : Nat} {w : World} {d : Wd} {r : List Wd} {en : Int} {nm : ByteArray} {R : RdP} (h : RdM b w (d :: r) en nm R) (k : Int) (hk : d.k = k) :
    Calls Tryz.prog 33 #[.pointer (some ⟨b, 0, none⟩), .int .i64 k] w fun e w' => e = .returned (.tuple #[.agg #[.int .i64 d.k, .int .i64 d.at_, .string d.t, .int .i64 d.n], .bool true]) ∧ RdM b w' r en nm R ∧ Chg b w w' := by
  obtain ⟨vs, va, h1, h2, h3⟩ := h
  refine (takeY b k d r en nm _ vs va w h1 hk).mono ?_
  rintro e w' ⟨rfl, k1, g1⟩
  have q := rows_chg ⟨h2, h3⟩ fun k hk hl => g1.2 k (by omega) hl
  exact ⟨rfl, ⟨vs, va, k1, q.1, q.2⟩, g1⟩
theorem RdM.take_no {b : Nat} {w : World} {ws : List Wd} {en : Int} {nm : ByteArray} {R : RdP} (h : RdM b w ws en nm R) (k : Int) (hk : takeP k ws = none) :
    Calls Tryz.prog 33 #[.pointer (some ⟨b, 0, none⟩), .int .i64 k] w fun e w' => e = .returned (.tuple #[.agg #[.int .i64 0, .int .i64 0, .string ⟨#[]⟩, .int .i64 0], .bool false]) ∧ ∀ o, ErrPost b en w ws (.returned (.bool false)) (w'.alloc o) := by
  obtain ⟨vs, va, h1, h2, h3⟩ := h
  refine (Go.Proofs.YtcnnpohnfoaceaaGreatDoor.take_no b k ws en nm _ vs va w h1 hk).mono ?_
  rintro e w' ⟨rfl, b1⟩
  exact ⟨rfl, fun o => ⟨rfl, ⟨_, _, _, _, (h1.kept b1).kept (up0 _ _)⟩, (up b1 o).mono (Nat.le_of_lt h1.lt)⟩⟩
/-- what whole answers -/
def WhPost (b : Nat) (en : Int) (w : World) (X : Except (List Wd) (ByteArray × RdP)) (e : Ending) (w' : World) : Prop :=
  match X with
  | .ok (nm, R) => e = .returned (.bool true) ∧ RdM b w' [] en nm R ∧ Below b w w'
  | .error r => ErrPost b en w r e w'
theorem err_on {b : Nat} {en : Int} {w w1 : World} {r : List Wd} {e : Ending} {w' : World} (h : Below b w w1) (k : ErrPost b en w1 r e w') : ErrPost b en w r e w' := ⟨k.1, k.2.1, h.trans k.2.2⟩
/-- the loop's answer with the name -/
def named1 (nm : ByteArray) : Except (List Wd) RdP → Except (List Wd) (ByteArray × RdP)
  | .error e => .error e
  | .ok R => .ok (nm, R)
theorem wholeP_eq {ws w1 w2 w3 : List Wd} {d : Wd} {R : RdP} (h1 : takeP 1 ws = some (d, w1)) (h2 : signP ⟨#[58]⟩ w1 = some w2) (h3 : stepP ⟨0, [], []⟩ w2 = .ok (R, w3)) : wholeP ws = named1 d.t (stepsP (w3.length + 1) R w3) := by
  unfold wholeP
  rw [h1]
  simp only
  rw [h2]
  simp only
  rw [h3]
  simp only
  unfold named1
  cases stepsP (w3.length + 1) R w3 <;> rfl
set_option maxRecDepth 100000 in
set_option maxHeartbeats 8000000 in
theorem whole_any (b : Nat) (ws : List Wd) (en : Int) (nm : ByteArray) (w : World) (h : RdM b w ws en nm ⟨0, [], []⟩) (hl : ws.length ≤ 70000) :
    Calls Tryz.prog 14 #[.pointer (some ⟨b, 0, none⟩)] w fun e w' => WhPost b en w (wholeP ws) e w' := by
  have HLT : Hid (b < w.heap.size) := h.lt
  cases h1 : takeP 1 ws with
  | none =>
    have hX : wholeP ws = .error ws := by unfold wholeP; rw [h1]
    rw [hX]
    have HT : Hid (Calls Tryz.prog 33 #[.pointer (some ⟨b, 0, none⟩), .int .i64 1] w fun e w' => e = .returned (.tuple #[.agg #[.int .i64 0, .int .i64 0, .string ⟨#[]⟩, .int .i64 0], .bool false]) ∧ ∀ o, ErrPost b en w ws (.returned (.bool false)) (w'.alloc o)) := h.take_no 1 h1
    clear h h1 hX
    go_enter Tryz.func14, Tryz.ntmps14
    go_wp2_with fail
    refine HT.out.mono ?_
    rintro e w1 ⟨rfl, k1⟩
    have H1 : Hid _ := k1
    clear k1 HT
    go_wp2_with fail
    go_ret
    exact H1.out _
  | some p =>
  obtain ⟨d, r1⟩ := p
  obtain ⟨rfl, hd⟩ := takeP_len h1
  have HT : Hid (Calls Tryz.prog 33 #[.pointer (some ⟨b, 0, none⟩), .int .i64 1] w fun e w' => e = .returned (.tuple #[.agg #[.int .i64 d.k, .int .i64 d.at_, .string d.t, .int .i64 d.n], .bool true]) ∧ RdM b w' r1 en nm ⟨0, [], []⟩ ∧ Chg b w w') := h.take_yes 1 hd
  have hl1 : r1.length ≤ 70000 := by simp only [List.length_cons] at hl; omega
  clear h hd hl
  cases h2 : signP ⟨#[58]⟩ r1 with
  | none =>
    have hX : wholeP (d :: r1) = .error r1 := by unfold wholeP; rw [h1]; simp only; rw [h2]
    rw [hX]
    have HS : Hid (∀ w', RdM b w' r1 en nm ⟨0, [], []⟩ → Calls Tryz.prog 34 #[.pointer (some ⟨b, 0, none⟩), .string ⟨#[58]⟩] w' fun e w'' => e = .returned (.bool false) ∧ ErrPost b en w' r1 (.returned (.bool false)) w'') := fun w' k => k.sign_no _ h2
    clear h1 h2 hX
    go_enter Tryz.func14, Tryz.ntmps14
    go_wp2_with fail
    refine HT.out.mono ?_
    rintro e w1 ⟨rfl, k1, g1⟩
    have H1 : Hid (∀ o, RdM b (w1.alloc o) r1 en nm ⟨0, [], []⟩ ∧ Below b w (w1.alloc o)) := fun o => ⟨k1.kept (up0 _ _), g1.1.trans ((up0 w1 o).mono (Nat.le_of_lt k1.lt))⟩
    clear k1 g1 HT
    go_wp2_with fail
    refine (HS.out _ (H1.out _).1).mono ?_
    rintro e w2 ⟨rfl, k2⟩
    have H2 : Hid (ErrPost b en w r1 (.returned (.bool false)) w2) := err_on (H1.out _).2 k2
    clear k2 H1 HS
    go_wp2_with fail
    go_ret
    exact H2.out
  | some r2 =>
  have HS : Hid (∀ w', RdM b w' r1 en nm ⟨0, [], []⟩ → Calls Tryz.prog 34 #[.pointer (some ⟨b, 0, none⟩), .string ⟨#[58]⟩] w' fun e w'' => e = .returned (.bool true) ∧ RdM b w'' r2 en nm ⟨0, [], []⟩ ∧ Chg b w' w'') := fun w' k => k.sign_yes _ _ h2
  have hl2 : r2.length ≤ 70000 := by obtain ⟨x, rfl, -⟩ := signP_len h2; simp only [List.length_cons] at hl1; omega
  clear hl1
  cases h3 : stepP ⟨0, [], []⟩ r2 with
  | error e =>
    have hX : wholeP (d :: r1) = .error e := by unfold wholeP; rw [h1]; simp only; rw [h2]; simp only; rw [h3]
    rw [hX]
    have HP : Hid (∀ w', RdM b w' r2 en nm ⟨0, [], []⟩ → Calls Tryz.prog 35 #[.pointer (some ⟨b, 0, none⟩)] w' fun e9 w'' => ErrPost b en w' e e9 w'') := fun w' k => step_err b r2 en nm _ w' k e h3 (Nat.zero_le _)
    clear h1 h2 h3 hX
    go_enter Tryz.func14, Tryz.ntmps14
    go_wp2_with fail
    refine HT.out.mono ?_
    rintro e w1 ⟨rfl, k1, g1⟩
    have H1 : Hid (∀ o, RdM b (w1.alloc o) r1 en nm ⟨0, [], []⟩ ∧ Below b w (w1.alloc o)) := fun o => ⟨k1.kept (up0 _ _), g1.1.trans ((up0 w1 o).mono (Nat.le_of_lt k1.lt))⟩
    clear k1 g1 HT
    go_wp2_with fail
    refine (HS.out _ (H1.out _).1).mono ?_
    rintro e w2 ⟨rfl, k2, g2⟩
    have H2 : Hid (RdM b w2 r2 en nm ⟨0, [], []⟩ ∧ Below b w w2) := ⟨k2, (H1.out _).2.trans g2.1⟩
    clear k2 g2 H1 HS
    go_wp2_with fail
    refine (HP.out _ H2.out.1).mono ?_
    intro e9 w3 k3
    have H3 : Hid (ErrPost b en w e e9 w3) := err_on H2.out.2 k3
    obtain ⟨rfl, -⟩ := k3
    clear H2 HP
    go_wp2_with fail
    go_ret
    exact H3.out
  | ok p =>
    obtain ⟨R, r3⟩ := p
    have hX := wholeP_eq h1 h2 h3
    obtain ⟨X, hX2⟩ : ∃ X, wholeP (d :: r1) = X := ⟨_, rfl⟩
    rw [hX2]
    rw [hX2] at hX
    have HX : Hid (X = named1 d.t (stepsP (r3.length + 1) R r3)) := hX
    have HP : Hid (∀ w', RdM b w' r2 en nm ⟨0, [], []⟩ → Calls Tryz.prog 35 #[.pointer (some ⟨b, 0, none⟩)] w' fun e9 w'' => e9 = .returned (.bool true) ∧ RdM b w'' r3 en nm R ∧ Below b w' w'' ∧ ∀ g D, g ≠ b → LB w' g 55 D → LB w'' g 55 D) := fun w' k => step_ok b r2 en nm _ w' k R r3 h3 (Nat.zero_le _) (Nat.zero_le _)
    have HRL : Hid (R.ss.length + r3.length ≤ 70001 ∧ R.ats.length + r3.length ≤ 70001) := by
      have e := stepP_len h3
      simp only [List.length_nil, Nat.zero_add] at e
      constructor <;> omega
    clear h1 h2 h3 hX hX2 hl2
    go_enter Tryz.func14, Tryz.ntmps14
    go_wp2_with fail
    refine HT.out.mono ?_
    rintro e w1 ⟨rfl, k1, g1⟩
    have H1 : Hid (∀ o, RdM b (w1.alloc o) r1 en nm ⟨0, [], []⟩ ∧ Below b w (w1.alloc o)) := fun o => ⟨k1.kept (up0 _ _), g1.1.trans ((up0 w1 o).mono (Nat.le_of_lt k1.lt))⟩
    have HW0 : Hid (∀ o, o = .cells #[.int .i64 d.k, .int .i64 d.at_, .string d.t, .int .i64 d.n] 55 → LB (w1.alloc o) w1.heap.size 55 (wdc d)) := fun o ho => by subst ho; exact lb_new w1 (wdc d) 55
    have hbw : b < w1.heap.size := k1.lt
    clear k1 g1 HT
    go_wp2_with fail
    refine (HS.out _ (H1.out _).1).mono ?_
    rintro e w2 ⟨rfl, k2, g2⟩
    have H2 : Hid (RdM b w2 r2 en nm ⟨0, [], []⟩ ∧ Below b w w2 ∧ LB w2 w1.heap.size 55 (wdc d)) := ⟨k2, (H1.out _).2.trans g2.1, g2.lb (by omega) (HW0.out _ rfl)⟩
    clear k2 g2 H1 HS HW0
    go_wp2_with fail
    refine (HP.out _ H2.out.1).mono ?_
    rintro e w3 ⟨rfl, k3, b3, f3⟩
    have H3 : Hid (RdM b w3 r3 en nm R ∧ Below b w w3 ∧ LB w3 w1.heap.size 55 (wdc d)) := ⟨k3, H2.out.2.1.trans b3, f3 _ _ (by omega) H2.out.2.2⟩
    have q2 := H3.out.2.2.cell 2 _ rfl
    obtain ⟨-, y2, z2⟩ := H3.out.1.name d.t
    have H4 : Hid (RdM b (w3.setCell ⟨b, 2, none⟩ (.string d.t)) r3 en d.t R ∧ Below b w (w3.setCell ⟨b, 2, none⟩ (.string d.t))) := ⟨(H3.out.1.name d.t).1, Below.setCell (p := ⟨b, 2, none⟩) H3.out.2.1 (Nat.le_refl b) _⟩
    clear k3 b3 f3 H2 H3 HP
    go_wp2_with fail
    generalize w3.setCell ⟨b, 2, none⟩ (.string d.t) = W at *
    clear q2 y2 z2
    go_loopw [] (fun wr => ∃ (ws : List Wd) (Q : RdP) (f : Nat), ws.length < f ∧ RdM b wr ws en d.t Q ∧ Below b w wr ∧ X = named1 d.t (stepsP f Q ws) ∧ Q.ss.length + ws.length ≤ 70001 ∧ Q.ats.length + ws.length ≤ 70001) (fun wr => wleft b wr)
    case atStart => exact ⟨r3, R, r3.length + 1, Nat.lt_succ_self _, H4.out.1, H4.out.2, HX.out, HRL.out.1, HRL.out.2⟩
    case round =>
      obtain ⟨ws, Q, f, hf, hM, hB, hE, hb1, hb2⟩ := hrel
      clear H4 HX HRL
      obtain ⟨a0, c0, e0⟩ := hM.len
      have HH : Hid (RdM b wr ws en d.t Q ∧ Below b w wr) := ⟨hM, hB⟩
      have HLE : Hid (wleft b wr = ws.length) := hM.left
      clear hM hB
      cases ws with
      | nil =>
        have HF : Hid (WhPost b en w X (.returned (.bool true)) wr) := by
          have e1 : X = .ok (d.t, Q) := by
            rw [hE]
            cases f with
            | zero => simp at hf
            | succ f => rw [stepsP]; rfl
          rw [e1]
          exact ⟨rfl, HH.out.1, HH.out.2⟩
        clear hE
        go_wp2_with fail
        go_ret
        exact HF.out
      | cons a q =>
        cases hs : signP ⟨#[44]⟩ (a :: q) with
        | none =>
          have HS : Hid (Calls Tryz.prog 34 #[.pointer (some ⟨b, 0, none⟩), .string ⟨#[44]⟩] wr fun e w'' => e = .returned (.bool false) ∧ ErrPost b en wr (a :: q) (.returned (.bool false)) w'') := HH.out.1.sign_no _ hs
          have HF : Hid (∀ w', ErrPost b en w (a :: q) (.returned (.bool false)) w' → WhPost b en w X (.returned (.bool false)) w') := fun w' k => by
            have e1 : X = .error (a :: q) := by
              rw [hE]
              cases f with
              | zero => simp at hf
              | succ f => rw [stepsP, hs]; rfl
            rw [e1]
            exact k
          clear hE hs
          go_wp2_with fail
          refine HS.out.mono ?_
          rintro e w5 ⟨rfl, k5⟩
          have H5 : Hid (WhPost b en w X (.returned (.bool false)) w5) := HF.out _ (err_on HH.out.2 k5)
          clear k5 HS HF
          go_wp2_with fail
          go_ret
          exact H5.out
        | some s1 =>
          have HS : Hid (Calls Tryz.prog 34 #[.pointer (some ⟨b, 0, none⟩), .string ⟨#[44]⟩] wr fun e w'' => e = .returned (.bool true) ∧ RdM b w'' s1 en d.t Q ∧ Chg b wr w'') := HH.out.1.sign_yes _ _ hs
          obtain ⟨f, rfl⟩ : ∃ f', f = f' + 1 := ⟨f - 1, by simp only [List.length_cons] at hf; omega⟩
          have hsl : s1.length = q.length := by
            obtain ⟨x, e9, -⟩ := signP_len hs
            injection e9 with _ e9
            rw [e9]
          cases hp : stepP Q s1 with
          | error e =>
            have HP : Hid (∀ w', RdM b w' s1 en d.t Q → Calls Tryz.prog 35 #[.pointer (some ⟨b, 0, none⟩)] w' fun e9 w'' => ErrPost b en w' e e9 w'') := fun w' k => step_err b s1 en d.t Q w' k e hp (by omega)
            have HF : Hid (∀ e9 w', ErrPost b en w e e9 w' → WhPost b en w X e9 w') := fun e9 w' k => by
              have e1 : X = .error e := by
                rw [hE, stepsP, hs]
                simp only
                rw [hp]
                rfl
              rw [e1]
              exact k
            clear hE hs hp
            go_wp2_with fail
            refine HS.out.mono ?_
            rintro e w5 ⟨rfl, k5, g5⟩
            have H5 : Hid (RdM b w5 s1 en d.t Q ∧ Below b w w5) := ⟨k5, HH.out.2.trans g5.1⟩
            clear k5 g5 HS HH
            go_wp2_with fail
            refine (HP.out _ H5.out.1).mono ?_
            intro e9 w6 k6
            have H6 : Hid (WhPost b en w X e9 w6) := HF.out _ _ (err_on H5.out.2 k6)
            obtain ⟨rfl, -⟩ := k6
            clear H5 HP HF
            go_wp2_with fail
            go_ret
            exact H6.out
          | ok p =>
            obtain ⟨Q2, s2⟩ := p
            have HP : Hid (∀ w', RdM b w' s1 en d.t Q → Calls Tryz.prog 35 #[.pointer (some ⟨b, 0, none⟩)] w' fun e9 w'' => e9 = .returned (.bool true) ∧ RdM b w'' s2 en d.t Q2 ∧ Below b w' w'' ∧ ∀ g D, g ≠ b → LB w' g 55 D → LB w'' g 55 D) := fun w' k => step_ok b s1 en d.t Q w' k Q2 s2 hp (by omega) (by omega)
            have HN : Hid (s2.length < f ∧ X = named1 d.t (stepsP f Q2 s2) ∧ Q2.ss.length + s2.length ≤ 70001 ∧ Q2.ats.length + s2.length ≤ 70001 ∧ s2.length < (a :: q).length) := by
              have e1 := stepP_len hp
              have e2 : X = named1 d.t (stepsP f Q2 s2) := by rw [hE, stepsP_step hs hp]
              simp only [List.length_cons] at hf hb1 hb2 ⊢
              exact ⟨by omega, e2, by omega, by omega, by omega⟩
            clear hE hs hp hf hb1 hb2
            go_wp2_with fail
            refine HS.out.mono ?_
            rintro e w5 ⟨rfl, k5, g5⟩
            have H5 : Hid (RdM b w5 s1 en d.t Q ∧ Below b w w5) := ⟨k5, HH.out.2.trans g5.1⟩
            clear k5 g5 HS HH
            go_wp2_with fail
            refine (HP.out _ H5.out.1).mono ?_
            rintro e9 w6 ⟨rfl, k6, b6, -⟩
            have H6 : Hid (RdM b w6 s2 en d.t Q2 ∧ Below b w w6) := ⟨k6, H5.out.2.trans b6⟩
            clear k6 b6 H5 HP
            go_wp2_with fail
            go_roundw
            case rel => exact ⟨s2, Q2, f, HN.out.1, H6.out.1, H6.out.2, HN.out.2.1, HN.out.2.2.1, HN.out.2.2.2.1⟩
            case measure => rw [H6.out.1.left, HLE.out]; exact HN.out.2.2.2.2
end Go.Proofs.YtcnnpohnfoaceaaGreatDoor
