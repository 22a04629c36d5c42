/-
  Package index: Encode: its boxes.
-/
import Derived.Test.YtceokpklcfmadaaIxa
namespace Go.Proofs.Ytceokpklcfmadaa
open Go Go.RowKit Go.ChangeShapes
open Wb

/-- the boxes that Encode's rounds write -/
def fxE (B2 B3 B4 B5 B6 : Nat) (k : Nat) : Prop := k = B2 ∨ k = B3 ∨ k = B4 ∨ k = B5 ∨ k = B6
/-- Encode's boxes: m, the two results, out, key, offset -/
structure ES0 (w : World) (g b base n : Nat) (kvs : Ix.Gm) (B1 B2 B3 B4 B5 B6 : Nat) (x : Value) (key off : Int) (x2 : Value) (e3 : Int) (W : World) : Prop where
  m : LB W B1 23 [.pointer (some ⟨g, 0, none⟩)]
  r1 : LB W B2 44 [x2]
  r2 : LB W B3 45 [.int .i64 e3]
  o : LB W B4 44 [x]
  k : LB W B5 3 [.int .i64 key]
  f : LB W B6 3 [.int .i64 off]
  mi : MI W g b base n kvs
  bel : Below w.heap.size w W
/-- how a round goes on -/
structure RL (w : World) (fx : Nat → Prop) (W W' : World) : Prop where
  kp : KpI fx 5 W W'
  ko : KeepsOthers W W'
  be : Below w.heap.size W W'
theorem RL.trans {w : World} {fx : Nat → Prop} {A B C : World} (h : RL w fx A B) (h2 : RL w fx B C) : RL w fx A C := ⟨h.kp.trans h2.kp, h.ko.trans h2.ko, h.be.trans h2.be⟩
theorem RL.refl (w : World) (fx : Nat → Prop) (A : World) : RL w fx A A := ⟨KpI.of (Below.refl _ _), KeepsOthers.refl _, Below.refl _ _⟩
theorem RL.of {w : World} {fx : Nat → Prop} {A B : World} (h : Below A.heap.size A B) (hs : w.heap.size ≤ A.heap.size) : RL w fx A B := ⟨KpI.of h, ⟨h.size, fun k _o hk _ => (h.block k (Array.getElem?_eq_some_iff.1 hk).1).trans hk⟩, h.mono hs⟩
/-- a row of bytes that was made since is written -/
theorem RL.row {w : World} {fx : Nat → Prop} {A B : World} {row : Option Nat} (h : A.grownBy B row) (hr : ∀ r, row = some r → (∃ cs z, A.heap[r]? = some (.cells cs 5 z)) ∧ w.heap.size ≤ r) (hs : w.heap.size ≤ A.heap.size) : RL w fx A B := by
  refine ⟨⟨h.os, h.tape, h.output, h.size, fun k cs t z e h1 _ => (h.block k (Array.getElem?_eq_some_iff.1 e).1 fun e2 => ?_).trans e⟩, ⟨h.size, fun k o hk ho => (h.block k (Array.getElem?_eq_some_iff.1 hk).1 fun e2 => ?_).trans hk⟩, (Below.refl _ _).grown h hs fun k e => (hr k e).2⟩
  · obtain ⟨cs2, z2, e3⟩ := (hr k e2.symm).1
    rw [e] at e3
    simp at e3
    exact h1 e3.2.1
  · obtain ⟨cs2, z2, e3⟩ := (hr k e2.symm).1
    rw [hk] at e3
    obtain rfl : o = .cells cs2 5 z2 := by simpa using e3
    cases ho
theorem RL.set {w : World} {fx : Nat → Prop} {A : World} (g o : Nat) (v : Value) (hf : fx g) (hw : w.heap.size ≤ g) : RL w fx A (A.setCell ⟨g, o, none⟩ v) :=
  ⟨⟨rfl, rfl, rfl, by simp [World.setCell], fun k cs t z e _ h2 => (set_other _ _ _ _ fun e2 => h2 (by rw [e2]; exact hf)).trans e⟩, KeepsOthers.setCell _ _ _, (Below.refl _ _).setCell (p := ⟨g, o, none⟩) hw _⟩
theorem lb_diff {W : World} {g g' : Nat} {t t' : TypeId} {D D' : List Value} (h : LB W g t D) (h' : LB W g' t' D') (hne : t ≠ t') : g ≠ g' := by
  rintro rfl
  unfold LB at h h'
  rw [h] at h'
  simp at h'
  exact hne h'.2
section
variable {w : World} {g b base n : Nat} {kvs : Ix.Gm} {B1 B2 B3 B4 B5 B6 : Nat} {x : Value} {key off : Int} {x2 : Value} {e3 : Int} {W W' : World}
theorem ES0.mrow (h : ES0 w g b base n kvs B1 B2 B3 B4 B5 B6 x key off x2 e3 W) (hb : b < w.heap.size) (hm : MI w g b base n kvs) {k : Nat} (hk : Mrow W b k) : k < w.heap.size := (hm.row (hk.same (h.bel.block b hb))).2
theorem ES0.kept (h : ES0 w g b base n kvs B1 B2 B3 B4 B5 B6 x key off x2 e3 W) (hb : Below W.heap.size W W') : ES0 w g b base n kvs B1 B2 B3 B4 B5 B6 x key off x2 e3 W' := ⟨h.m.kept hb, h.r1.kept hb, h.r2.kept hb, h.o.kept hb, h.k.kept hb, h.f.kept hb, h.mi.kept hb, andThen h.bel hb⟩
/-- a block that is none of the boxes, made since -/
theorem ES0.other (h : ES0 w g b base n kvs B1 B2 B3 B4 B5 B6 x key off x2 e3 W) (hm : MI w g b base n kvs) {row : Option Nat} (hg : W.grownBy W' row) (hr : ∀ r, row = some r → w.heap.size ≤ r ∧ r ≠ B1 ∧ r ≠ B2 ∧ r ≠ B3 ∧ r ≠ B4 ∧ r ≠ B5 ∧ r ≠ B6) : ES0 w g b base n kvs B1 B2 B3 B4 B5 B6 x key off x2 e3 W' := by
  have hb := hm.blt.2
  refine ⟨h.m.other' hg fun e => (hr _ e).2.1 rfl, h.r1.other' hg fun e => (hr _ e).2.2.1 rfl, h.r2.other' hg fun e => (hr _ e).2.2.2.1 rfl, h.o.other' hg fun e => (hr _ e).2.2.2.2.1 rfl, h.k.other' hg fun e => (hr _ e).2.2.2.2.2.1 rfl, h.f.other' hg fun e => (hr _ e).2.2.2.2.2.2 rfl, h.mi.frame hg (fun e => ?_) (fun e => ?_) fun k e hk => ?_, h.bel.grown hg h.bel.size fun k e => (hr k e).1⟩
  · have := (hr _ e).1
    omega
  · have := (hr _ e).1
    have := hm.box.lt
    omega
  · have := (hr _ e).1
    have := h.mrow hb hm hk
    omega
/-- a row of bytes is none of the boxes -/
theorem ES0.bytes (h : ES0 w g b base n kvs B1 B2 B3 B4 B5 B6 x key off x2 e3 W) {r : Nat} (hr : ∃ cs z, W.heap[r]? = some (.cells cs 5 z)) : r ≠ B1 ∧ r ≠ B2 ∧ r ≠ B3 ∧ r ≠ B4 ∧ r ≠ B5 ∧ r ≠ B6 := by
  obtain ⟨cs, z, e⟩ := hr
  have key : ∀ {q : Nat} {t : TypeId} {D : List Value}, LB W q t D → t ≠ 5 → r ≠ q := fun L ht e2 => by
    subst e2
    unfold LB at L
    rw [L] at e
    simp at e
    exact ht e.2.1
  exact ⟨key h.m (by decide), key h.r1 (by decide), key h.r2 (by decide), key h.o (by decide), key h.k (by decide), key h.f (by decide)⟩
theorem ES0.nonc (h : ES0 w g b base n kvs B1 B2 B3 B4 B5 B6 x key off x2 e3 W) {r : Nat} {o : Obj} (hr : W.heap[r]? = some o) (hc : o.isCells = false) : r ≠ B1 ∧ r ≠ B2 ∧ r ≠ B3 ∧ r ≠ B4 ∧ r ≠ B5 ∧ r ≠ B6 := by
  have key : ∀ {q : Nat} {t : TypeId} {D : List Value}, LB W q t D → r ≠ q := fun {q t D} L e2 => by
    subst e2
    unfold LB at L
    rw [L] at hr
    obtain rfl := Option.some.inj hr
    cases hc
  exact ⟨key h.m, key h.r1, key h.r2, key h.o, key h.k, key h.f⟩
theorem ES0.setMI (h : MI W g b base n kvs) {q : Nat} (hq : q ≠ b ∧ q ≠ g ∧ ¬ Mrow W b q) (v : Value) : MI (W.setCell ⟨q, 0, none⟩ v) g b base n kvs :=
  h.frame (row := some q) ⟨rfl, rfl, rfl, by simp [World.setCell], fun k _ hne => set_other _ _ _ _ fun e => hne (by rw [e])⟩ (fun e => hq.1 (Option.some.inj e)) (fun e => hq.2.1 (Option.some.inj e)) fun k e => by
    have := Option.some.inj e
    subst this
    exact hq.2.2
theorem ES0.away (h : ES0 w g b base n kvs B1 B2 B3 B4 B5 B6 x key off x2 e3 W) (hm : MI w g b base n kvs) {q : Nat} (hq : w.heap.size ≤ q) : q ≠ b ∧ q ≠ g ∧ ¬ Mrow W b q := by
  have hb := hm.blt.2
  have hg := hm.box.lt
  exact ⟨by omega, by omega, fun hk => by have := h.mrow hb hm hk; omega⟩
/-- the boxes are apart -/
structure Bxs (w : World) (B1 B2 B3 B4 B5 B6 : Nat) : Prop where
  le : w.heap.size ≤ B1 ∧ w.heap.size ≤ B2 ∧ w.heap.size ≤ B3 ∧ w.heap.size ≤ B4 ∧ w.heap.size ≤ B5 ∧ w.heap.size ≤ B6
  b24 : B2 ≠ B4
  b56 : B5 ≠ B6
theorem ES0.setO (h : ES0 w g b base n kvs B1 B2 B3 B4 B5 B6 x key off x2 e3 W) (hm : MI w g b base n kvs) (hB : Bxs w B1 B2 B3 B4 B5 B6) (v : Value) : ES0 w g b base n kvs B1 B2 B3 B4 B5 B6 v key off x2 e3 (W.setCell ⟨B4, 0, none⟩ v) :=
  ⟨h.m.other _ _ (lb_diff h.m h.o (by decide)), h.r1.other _ _ hB.b24, h.r2.other _ _ (lb_diff h.r2 h.o (by decide)), h.o.set 0 v, h.k.other _ _ (lb_diff h.k h.o (by decide)), h.f.other _ _ (lb_diff h.f h.o (by decide)), ES0.setMI h.mi (h.away hm hB.le.2.2.2.1) v, h.bel.setCell (p := ⟨B4, 0, none⟩) hB.le.2.2.2.1 _⟩
theorem ES0.setK (h : ES0 w g b base n kvs B1 B2 B3 B4 B5 B6 x key off x2 e3 W) (hm : MI w g b base n kvs) (hB : Bxs w B1 B2 B3 B4 B5 B6) (k' : Int) : ES0 w g b base n kvs B1 B2 B3 B4 B5 B6 x k' off x2 e3 (W.setCell ⟨B5, 0, none⟩ (.int .i64 k')) :=
  ⟨h.m.other _ _ (lb_diff h.m h.k (by decide)), h.r1.other _ _ (lb_diff h.r1 h.k (by decide)), h.r2.other _ _ (lb_diff h.r2 h.k (by decide)), h.o.other _ _ (lb_diff h.o h.k (by decide)), h.k.set 0 _, h.f.other _ _ hB.b56.symm, ES0.setMI h.mi (h.away hm hB.le.2.2.2.2.1) _, h.bel.setCell (p := ⟨B5, 0, none⟩) hB.le.2.2.2.2.1 _⟩
theorem ES0.setF (h : ES0 w g b base n kvs B1 B2 B3 B4 B5 B6 x key off x2 e3 W) (hm : MI w g b base n kvs) (hB : Bxs w B1 B2 B3 B4 B5 B6) (f' : Int) : ES0 w g b base n kvs B1 B2 B3 B4 B5 B6 x key f' x2 e3 (W.setCell ⟨B6, 0, none⟩ (.int .i64 f')) :=
  ⟨h.m.other _ _ (lb_diff h.m h.f (by decide)), h.r1.other _ _ (lb_diff h.r1 h.f (by decide)), h.r2.other _ _ (lb_diff h.r2 h.f (by decide)), h.o.other _ _ (lb_diff h.o h.f (by decide)), h.k.other _ _ hB.b56, h.f.set 0 _, ES0.setMI h.mi (h.away hm hB.le.2.2.2.2.2) _, h.bel.setCell (p := ⟨B6, 0, none⟩) hB.le.2.2.2.2.2 _⟩
theorem ES0.setR1 (h : ES0 w g b base n kvs B1 B2 B3 B4 B5 B6 x key off x2 e3 W) (hm : MI w g b base n kvs) (hB : Bxs w B1 B2 B3 B4 B5 B6) (v : Value) : ES0 w g b base n kvs B1 B2 B3 B4 B5 B6 x key off v e3 (W.setCell ⟨B2, 0, none⟩ v) :=
  ⟨h.m.other _ _ (lb_diff h.m h.r1 (by decide)), h.r1.set 0 v, h.r2.other _ _ (lb_diff h.r2 h.r1 (by decide)), h.o.other _ _ hB.b24.symm, h.k.other _ _ (lb_diff h.k h.r1 (by decide)), h.f.other _ _ (lb_diff h.f h.r1 (by decide)), ES0.setMI h.mi (h.away hm hB.le.2.1) v, h.bel.setCell (p := ⟨B2, 0, none⟩) hB.le.2.1 _⟩
theorem ES0.setR2 (h : ES0 w g b base n kvs B1 B2 B3 B4 B5 B6 x key off x2 e3 W) (hm : MI w g b base n kvs) (hB : Bxs w B1 B2 B3 B4 B5 B6) (e' : Int) : ES0 w g b base n kvs B1 B2 B3 B4 B5 B6 x key off x2 e' (W.setCell ⟨B3, 0, none⟩ (.int .i64 e')) :=
  ⟨h.m.other _ _ (lb_diff h.m h.r2 (by decide)), h.r1.other _ _ (lb_diff h.r1 h.r2 (by decide)), h.r2.set 0 _, h.o.other _ _ (lb_diff h.o h.r2 (by decide)), h.k.other _ _ (lb_diff h.k h.r2 (by decide)), h.f.other _ _ (lb_diff h.f h.r2 (by decide)), ES0.setMI h.mi (h.away hm hB.le.2.2.1) _, h.bel.setCell (p := ⟨B3, 0, none⟩) hB.le.2.2.1 _⟩
end
/-- what Encode holds between two rounds -/
def ES (w : World) (g b base n : Nat) (kvs : Ix.Gm) (B1 B2 B3 B4 B5 B6 : Nat) (o : List Nat) (key off : Int) (W : World) : Prop := ∃ ad, ∃ m c : Nat, ES0 w g b base n kvs B1 B2 B3 B4 B5 B6 (.slice ad m c) key off (.slice none 0 0) 0 W ∧ Wb.Own w.heap.size W (.slice ad m c) o
end Go.Proofs.Ytceokpklcfmadaa
