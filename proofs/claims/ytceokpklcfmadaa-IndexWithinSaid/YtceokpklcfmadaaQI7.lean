import Derived.OrdersIn
import Derived.Sort.CutIn
import Derived.Maps.OwnSet
import Derived.Test.YtceokpklcfmadaaQI6
/-
  Package index: Encode: what it holds between two rounds; a region in a round.
-/
namespace Go.Proofs.Ytceokpklcfmadaa
open Go Go.RowKit Go.ChangeShapes
open Wb

/-! a region in a round goes as anywhere -/
section
variable {P : Program} {ops : Array Oper} {Q : Exit → Act → World → Prop} {md : Region.Mode} {l n : Nat}
theorem opIn_of {o : Oper} {a : Act} {w : World} {K : Act → World → Prop} (hnd : ∀ c, o.op ≠ .defer c) (h : Oper.wp P o a w K Q) : Oper.wpIn (Fence.wide.inRound l) n P o a w K Q := by
  unfold Oper.wp at h
  refine ⟨fun _ _ => trivial, ?_⟩
  rw [show (Fence.wide.inRound l).round = some l from rfl, Oper.semAt_some l _ o hnd]
  generalize (execOp a.eval o).run P w = r at h ⊢
  cases r with
  | ok x w' =>
    cases x with
    | value v => exact h
    | skip => exact h
    | defer d => exact h
    | enter f args => exact ⟨(fun h => by cases h), callsIn_wide.2 h⟩
    | row row args => exact ⟨(fun h => by cases h), fun c cs _ => let ⟨v, w', r, s⟩ := h c cs; ⟨v, w', r, stepsIn_wide.2 s⟩⟩
    | _ => exact False.elim h
  | halt x w' =>
    cases x with
    | panic v => exact h
    | _ => exact False.elim h
def noDefer (ops : Array Oper) : Bool := ops.all fun o => match o.op with | .defer _ => false | _ => true
theorem anyIn_of (hlo : ¬ LetsOut Q) (hnd : ∀ (i : Nat) (o : Oper), ops[i]? = some o → ∀ c, o.op ≠ .defer c) : ∀ (fuel : Nat) (listed : Array Bool) (a : Act) (w : World), wpAny P md ops Q fuel listed a w → wpAnyIn (Fence.wide.inRound l) n P md ops Q fuel listed a w
  | 0, _, _, _, h => h
  | fuel + 1, listed, a, w, h => ⟨h.1, fun i hi => by
    have h1 := h.2 i hi
    unfold wpOp at h1
    unfold wpOpIn
    cases ho : ops[i]? with
    | none =>
      rw [ho] at h1
      exact anyIn_of hlo hnd fuel _ a w h1
    | some o =>
      rw [ho] at h1
      simp only at h1 ⊢
      split
      · rename_i hw
        rw [if_pos hw] at h1
        have h1 := h1.resolve_right fun h => hlo h.2
        exact opIn_of (hnd i o ho) (Oper.wp_mono (fun a' w' h' => anyIn_of hlo hnd fuel _ a' w' h') h1)
      · rename_i hw
        rw [if_neg hw] at h1
        exact ⟨fun _ _ => trivial, anyIn_of hlo hnd fuel _ _ _ h1⟩⟩
theorem regionIn_of {id : Nat} {a : Act} {w : World} {S : World → Prop} (hlo : ¬ LetsOut Q) (hm : P.follows .mixedOrders = true) (hnd : noDefer ops = true) (hS : S w.drew) (h : S w.drew → wpAnyH P .any ops Q S ops.size (Array.replicate ops.size false) a w.drew) : (Code.region id ops true).wpIn (Fence.wide.inRound l) n P Q a w :=
  wpIn_region_any hm (anyIn_of hlo (fun i o ho c e => by
    unfold noDefer at hnd
    rw [Array.all_eq_true_iff_forall_mem] at hnd
    have := hnd o (Array.mem_of_getElem? ho)
    rw [e] at this
    cases this) _ _ _ _ (wpAny_of_held _ _ _ _ (h hS)))
end
namespace Ix
/-- a number as Uint is handed it -/
def u64 (x : Int) : Nat := (IntKind.u64.wrap (IntKind.i64.wrap x)).toNat
/-- one pair more -/
def encS (kvs : Gm) (s : List Nat × Int × Int) (x : Int × Int) : Except Nat (List Nat × Int × Int) :=
  if x.1 < 1 then .error 50
  else if x.1 ≠ s.2.1 then
    (if x.2 < 0 then .error 52 else .ok (s.1 ++ Wn.uint (u64 (x.1 - s.2.1)) ++ Wn.uint (get kvs x.1).length ++ Wn.uint (u64 (x.2 - 0)), x.1, x.2))
  else if x.2 ≤ s.2.2 then .error 52 else .ok (s.1 ++ Wn.uint (u64 (x.2 - s.2.2)), s.2.1, x.2)
def encF (kvs : Gm) (pre : List (Int × Int)) : Except Nat (List Nat × Int × Int) := pre.foldlM (encS kvs) (Wn.uint kvs.length, 0, 0)
theorem encF_snoc (kvs : Gm) (pre : List (Int × Int)) (x : Int × Int) : encF kvs (pre ++ [x]) = (encF kvs pre).bind fun s => encS kvs s x := by
  unfold encF
  rw [List.foldlM_append]
  cases pre.foldlM (encS kvs) (Wn.uint kvs.length, 0, 0) with
  | error e => rfl
  | ok s =>
    show (do let s' ← encS kvs s x; List.foldlM (encS kvs) s' []) = encS kvs s x
    cases encS kvs s x <;> rfl
theorem u64_lt (x : Int) : u64 x < 18446744073709551616 := by
  unfold u64
  generalize IntKind.i64.wrap x = y
  simp only [IntKind.wrap, IntKind.bits, IntKind.signed]
  simp
  omega
end Ix
end Go.Proofs.Ytceokpklcfmadaa

/-
  Package index: Encode: its boxes.
-/
namespace Go.Proofs.Ytceokpklcfmadaa
open Go Go.RowKit Go.ChangeShapes
open Wb

/-- the boxes that Encode's rounds write -/
def fxE (B2 B3 B4 B5 B6 : Nat) (k : Nat) : Prop := k = B2 ∨ k = B3 ∨ k = B4 ∨ k = B5 ∨ k = B6
/-- Encode's boxes: m, the two results, out, key, offset -/
structure ES0 (w : World) (g b base n : Nat) (kvs : Ix.Gm) (B1 B2 B3 B4 B5 B6 : Nat) (x : Value) (key off : Int) (x2 : Value) (e3 : Int) (W : World) : Prop where
  m : LB W B1 23 [.pointer (some ⟨g, 0, none⟩)]
  r1 : LB W B2 44 [x2]
  r2 : LB W B3 45 [.int .i64 e3]
  o : LB W B4 44 [x]
  k : LB W B5 3 [.int .i64 key]
  f : LB W B6 3 [.int .i64 off]
  mi : MI W g b base n kvs
  bel : Below w.heap.size w W
/-- how a round goes on -/
structure RL (w : World) (fx : Nat → Prop) (W W' : World) : Prop where
  kp : KpI fx 5 W W'
  ko : KeepsOthers W W'
  be : Below w.heap.size W W'
theorem RL.trans {w : World} {fx : Nat → Prop} {A B C : World} (h : RL w fx A B) (h2 : RL w fx B C) : RL w fx A C := ⟨h.kp.trans h2.kp, h.ko.trans h2.ko, h.be.trans h2.be⟩
theorem RL.refl (w : World) (fx : Nat → Prop) (A : World) : RL w fx A A := ⟨KpI.of (Below.refl _ _), KeepsOthers.refl _, Below.refl _ _⟩
theorem RL.of {w : World} {fx : Nat → Prop} {A B : World} (h : Below A.heap.size A B) (hs : w.heap.size ≤ A.heap.size) : RL w fx A B := ⟨KpI.of h, ⟨h.size, fun k _o hk _ => (h.block k (Array.getElem?_eq_some_iff.1 hk).1).trans hk⟩, h.mono hs⟩
/-- a row of bytes that was made since is written -/
theorem RL.row {w : World} {fx : Nat → Prop} {A B : World} {row : Option Nat} (h : A.grownBy B row) (hr : ∀ r, row = some r → (∃ cs z, A.heap[r]? = some (.cells cs 5 z)) ∧ w.heap.size ≤ r) (hs : w.heap.size ≤ A.heap.size) : RL w fx A B := by
  refine ⟨⟨h.os, h.tape, h.output, h.size, fun k cs t z e h1 _ => (h.block k (Array.getElem?_eq_some_iff.1 e).1 fun e2 => ?_).trans e⟩, ⟨h.size, fun k o hk ho => (h.block k (Array.getElem?_eq_some_iff.1 hk).1 fun e2 => ?_).trans hk⟩, (Below.refl _ _).grown h hs fun k e => (hr k e).2⟩
  · obtain ⟨cs2, z2, e3⟩ := (hr k e2.symm).1
    rw [e] at e3
    simp at e3
    exact h1 e3.2.1
  · obtain ⟨cs2, z2, e3⟩ := (hr k e2.symm).1
    rw [hk] at e3
    obtain rfl : o = .cells cs2 5 z2 := by simpa using e3
    cases ho
theorem RL.set {w : World} {fx : Nat → Prop} {A : World} (g o : Nat) (v : Value) (hf : fx g) (hw : w.heap.size ≤ g) : RL w fx A (A.setCell ⟨g, o, none⟩ v) :=
  ⟨⟨rfl, rfl, rfl, by simp [World.setCell], fun k cs t z e _ h2 => (set_other _ _ _ _ fun e2 => h2 (by rw [e2]; exact hf)).trans e⟩, KeepsOthers.setCell _ _ _, (Below.refl _ _).setCell (p := ⟨g, o, none⟩) hw _⟩
theorem lb_diff {W : World} {g g' : Nat} {t t' : TypeId} {D D' : List Value} (h : LB W g t D) (h' : LB W g' t' D') (hne : t ≠ t') : g ≠ g' := by
  rintro rfl
  unfold LB at h h'
  rw [h] at h'
  simp at h'
  exact hne h'.2
section
variable {w : World} {g b base n : Nat} {kvs : Ix.Gm} {B1 B2 B3 B4 B5 B6 : Nat} {x : Value} {key off : Int} {x2 : Value} {e3 : Int} {W W' : World}
theorem ES0.mrow (h : ES0 w g b base n kvs B1 B2 B3 B4 B5 B6 x key off x2 e3 W) (hb : b < w.heap.size) (hm : MI w g b base n kvs) {k : Nat} (hk : Mrow W b k) : k < w.heap.size := (hm.row (hk.same (h.bel.block b hb))).2
theorem ES0.kept (h : ES0 w g b base n kvs B1 B2 B3 B4 B5 B6 x key off x2 e3 W) (hb : Below W.heap.size W W') : ES0 w g b base n kvs B1 B2 B3 B4 B5 B6 x key off x2 e3 W' := ⟨h.m.kept hb, h.r1.kept hb, h.r2.kept hb, h.o.kept hb, h.k.kept hb, h.f.kept hb, h.mi.kept hb, andThen h.bel hb⟩
/-- a block that is none of the boxes, made since -/
theorem ES0.other (h : ES0 w g b base n kvs B1 B2 B3 B4 B5 B6 x key off x2 e3 W) (hm : MI w g b base n kvs) {row : Option Nat} (hg : W.grownBy W' row) (hr : ∀ r, row = some r → w.heap.size ≤ r ∧ r ≠ B1 ∧ r ≠ B2 ∧ r ≠ B3 ∧ r ≠ B4 ∧ r ≠ B5 ∧ r ≠ B6) : ES0 w g b base n kvs B1 B2 B3 B4 B5 B6 x key off x2 e3 W' := by
  have hb := hm.blt.2
  refine ⟨h.m.other' hg fun e => (hr _ e).2.1 rfl, h.r1.other' hg fun e => (hr _ e).2.2.1 rfl, h.r2.other' hg fun e => (hr _ e).2.2.2.1 rfl, h.o.other' hg fun e => (hr _ e).2.2.2.2.1 rfl, h.k.other' hg fun e => (hr _ e).2.2.2.2.2.1 rfl, h.f.other' hg fun e => (hr _ e).2.2.2.2.2.2 rfl, h.mi.frame hg (fun e => ?_) (fun e => ?_) fun k e hk => ?_, h.bel.grown hg h.bel.size fun k e => (hr k e).1⟩
  · have := (hr _ e).1
    omega
  · have := (hr _ e).1
    have := hm.box.lt
    omega
  · have := (hr _ e).1
    have := h.mrow hb hm hk
    omega
/-- a row of bytes is none of the boxes -/
theorem ES0.bytes (h : ES0 w g b base n kvs B1 B2 B3 B4 B5 B6 x key off x2 e3 W) {r : Nat} (hr : ∃ cs z, W.heap[r]? = some (.cells cs 5 z)) : r ≠ B1 ∧ r ≠ B2 ∧ r ≠ B3 ∧ r ≠ B4 ∧ r ≠ B5 ∧ r ≠ B6 := by
  obtain ⟨cs, z, e⟩ := hr
  have key : ∀ {q : Nat} {t : TypeId} {D : List Value}, LB W q t D → t ≠ 5 → r ≠ q := fun L ht e2 => by
    subst e2
    unfold LB at L
    rw [L] at e
    simp at e
    exact ht e.2.1
  exact ⟨key h.m (by decide), key h.r1 (by decide), key h.r2 (by decide), key h.o (by decide), key h.k (by decide), key h.f (by decide)⟩
theorem ES0.nonc (h : ES0 w g b base n kvs B1 B2 B3 B4 B5 B6 x key off x2 e3 W) {r : Nat} {o : Obj} (hr : W.heap[r]? = some o) (hc : o.isCells = false) : r ≠ B1 ∧ r ≠ B2 ∧ r ≠ B3 ∧ r ≠ B4 ∧ r ≠ B5 ∧ r ≠ B6 := by
  have key : ∀ {q : Nat} {t : TypeId} {D : List Value}, LB W q t D → r ≠ q := fun {q t D} L e2 => by
    subst e2
    unfold LB at L
    rw [L] at hr
    obtain rfl := Option.some.inj hr
    cases hc
  exact ⟨key h.m, key h.r1, key h.r2, key h.o, key h.k, key h.f⟩
theorem ES0.setMI (h : MI W g b base n kvs) {q : Nat} (hq : q ≠ b ∧ q ≠ g ∧ ¬ Mrow W b q) (v : Value) : MI (W.setCell ⟨q, 0, none⟩ v) g b base n kvs :=
  h.frame (row := some q) ⟨rfl, rfl, rfl, by simp [World.setCell], fun k _ hne => set_other _ _ _ _ fun e => hne (by rw [e])⟩ (fun e => hq.1 (Option.some.inj e)) (fun e => hq.2.1 (Option.some.inj e)) fun k e => by
    have := Option.some.inj e
    subst this
    exact hq.2.2
theorem ES0.away (h : ES0 w g b base n kvs B1 B2 B3 B4 B5 B6 x key off x2 e3 W) (hm : MI w g b base n kvs) {q : Nat} (hq : w.heap.size ≤ q) : q ≠ b ∧ q ≠ g ∧ ¬ Mrow W b q := by
  have hb := hm.blt.2
  have hg := hm.box.lt
  exact ⟨by omega, by omega, fun hk => by have := h.mrow hb hm hk; omega⟩
/-- the boxes are apart -/
structure Bxs (w : World) (B1 B2 B3 B4 B5 B6 : Nat) : Prop where
  le : w.heap.size ≤ B1 ∧ w.heap.size ≤ B2 ∧ w.heap.size ≤ B3 ∧ w.heap.size ≤ B4 ∧ w.heap.size ≤ B5 ∧ w.heap.size ≤ B6
  b24 : B2 ≠ B4
  b56 : B5 ≠ B6
theorem ES0.setO (h : ES0 w g b base n kvs B1 B2 B3 B4 B5 B6 x key off x2 e3 W) (hm : MI w g b base n kvs) (hB : Bxs w B1 B2 B3 B4 B5 B6) (v : Value) : ES0 w g b base n kvs B1 B2 B3 B4 B5 B6 v key off x2 e3 (W.setCell ⟨B4, 0, none⟩ v) :=
  ⟨h.m.other _ _ (lb_diff h.m h.o (by decide)), h.r1.other _ _ hB.b24, h.r2.other _ _ (lb_diff h.r2 h.o (by decide)), h.o.set 0 v, h.k.other _ _ (lb_diff h.k h.o (by decide)), h.f.other _ _ (lb_diff h.f h.o (by decide)), ES0.setMI h.mi (h.away hm hB.le.2.2.2.1) v, h.bel.setCell (p := ⟨B4, 0, none⟩) hB.le.2.2.2.1 _⟩
theorem ES0.setK (h : ES0 w g b base n kvs B1 B2 B3 B4 B5 B6 x key off x2 e3 W) (hm : MI w g b base n kvs) (hB : Bxs w B1 B2 B3 B4 B5 B6) (k' : Int) : ES0 w g b base n kvs B1 B2 B3 B4 B5 B6 x k' off x2 e3 (W.setCell ⟨B5, 0, none⟩ (.int .i64 k')) :=
  ⟨h.m.other _ _ (lb_diff h.m h.k (by decide)), h.r1.other _ _ (lb_diff h.r1 h.k (by decide)), h.r2.other _ _ (lb_diff h.r2 h.k (by decide)), h.o.other _ _ (lb_diff h.o h.k (by decide)), h.k.set 0 _, h.f.other _ _ hB.b56.symm, ES0.setMI h.mi (h.away hm hB.le.2.2.2.2.1) _, h.bel.setCell (p := ⟨B5, 0, none⟩) hB.le.2.2.2.2.1 _⟩
theorem ES0.setF (h : ES0 w g b base n kvs B1 B2 B3 B4 B5 B6 x key off x2 e3 W) (hm : MI w g b base n kvs) (hB : Bxs w B1 B2 B3 B4 B5 B6) (f' : Int) : ES0 w g b base n kvs B1 B2 B3 B4 B5 B6 x key f' x2 e3 (W.setCell ⟨B6, 0, none⟩ (.int .i64 f')) :=
  ⟨h.m.other _ _ (lb_diff h.m h.f (by decide)), h.r1.other _ _ (lb_diff h.r1 h.f (by decide)), h.r2.other _ _ (lb_diff h.r2 h.f (by decide)), h.o.other _ _ (lb_diff h.o h.f (by decide)), h.k.other _ _ hB.b56, h.f.set 0 _, ES0.setMI h.mi (h.away hm hB.le.2.2.2.2.2) _, h.bel.setCell (p := ⟨B6, 0, none⟩) hB.le.2.2.2.2.2 _⟩
theorem ES0.setR1 (h : ES0 w g b base n kvs B1 B2 B3 B4 B5 B6 x key off x2 e3 W) (hm : MI w g b base n kvs) (hB : Bxs w B1 B2 B3 B4 B5 B6) (v : Value) : ES0 w g b base n kvs B1 B2 B3 B4 B5 B6 x key off v e3 (W.setCell ⟨B2, 0, none⟩ v) :=
  ⟨h.m.other _ _ (lb_diff h.m h.r1 (by decide)), h.r1.set 0 v, h.r2.other _ _ (lb_diff h.r2 h.r1 (by decide)), h.o.other _ _ hB.b24.symm, h.k.other _ _ (lb_diff h.k h.r1 (by decide)), h.f.other _ _ (lb_diff h.f h.r1 (by decide)), ES0.setMI h.mi (h.away hm hB.le.2.1) v, h.bel.setCell (p := ⟨B2, 0, none⟩) hB.le.2.1 _⟩
theorem ES0.setR2 (h : ES0 w g b base n kvs B1 B2 B3 B4 B5 B6 x key off x2 e3 W) (hm : MI w g b base n kvs) (hB : Bxs w B1 B2 B3 B4 B5 B6) (e' : Int) : ES0 w g b base n kvs B1 B2 B3 B4 B5 B6 x key off x2 e' (W.setCell ⟨B3, 0, none⟩ (.int .i64 e')) :=
  ⟨h.m.other _ _ (lb_diff h.m h.r2 (by decide)), h.r1.other _ _ (lb_diff h.r1 h.r2 (by decide)), h.r2.set 0 _, h.o.other _ _ (lb_diff h.o h.r2 (by decide)), h.k.other _ _ (lb_diff h.k h.r2 (by decide)), h.f.other _ _ (lb_diff h.f h.r2 (by decide)), ES0.setMI h.mi (h.away hm hB.le.2.2.1) _, h.bel.setCell (p := ⟨B3, 0, none⟩) hB.le.2.2.1 _⟩
end
/-- what Encode holds between two rounds -/
def ES (w : World) (g b base n : Nat) (kvs : Ix.Gm) (B1 B2 B3 B4 B5 B6 : Nat) (o : List Nat) (key off : Int) (W : World) : Prop := ∃ ad, ∃ m c : Nat, ES0 w g b base n kvs B1 B2 B3 B4 B5 B6 (.slice ad m c) key off (.slice none 0 0) 0 W ∧ Wb.Own w.heap.size W (.slice ad m c) o
end Go.Proofs.Ytceokpklcfmadaa

/-
  Package index: Encode: steps; All, Range.
-/
namespace Go.Proofs.Ytceokpklcfmadaa
open Go Go.RowKit Go.ChangeShapes
open Wb

section
variable {w : World} {g b base n : Nat} {kvs : Ix.Gm} {B1 B2 B3 B4 B5 B6 : Nat} {key off : Int} {x2 : Value} {e3 : Int} {W W' : World}
/-- bytes behind out -/
theorem ES0.app {ad : Option Addr} {m c : Nat} (h : ES0 w g b base n kvs B1 B2 B3 B4 B5 B6 (.slice ad m c) key off x2 e3 W) (hm : MI w g b base n kvs) {o : List Nat} (ho : Wb.Own w.heap.size W (.slice ad m c) o) {u : Value} {y : List Nat} {B : Nat} (hu : Wb.Own B W u y) (hy : y ≠ []) (hl : o.length + y.length ≤ 1000000000000) (fx : Nat → Prop) :
    ∃ ad' m' c' W2, (Builtin.append_ #[44, 44] 44 #[.slice ad m c, u]).run Try.prog W = .ok (.slice ad' m' c') W2 ∧ Wb.Own w.heap.size W2 (.slice ad' m' c') (o ++ y) ∧ ES0 w g b base n kvs B1 B2 B3 B4 B5 B6 (.slice ad m c) key off x2 e3 W2 ∧ RL w fx W W2 := by
  rcases hu.shape with ⟨-, e⟩ | ⟨gu, cu, rfl, -, -, -, -, hcell⟩
  · exact absurd e hy
  · obtain ⟨i0, hi, hz0, hz1, hz2⟩ := info_parts info5
    obtain ⟨v', W2, hr, h1, h2, -⟩ := run_append_own (P := Try.prog) W w.heap.size 44 44 5 i0 (.int .u8 0) 1 1 Try.underlying44 hi hz0 hz1 hz2 rfl (by decide) (.slice ad m c) o.length (bv o) ho.row ⟨gu, 0, none⟩ y.length cu (bv y) (by rw [bv_length, Nat.mul_one]) (fun j q hj => by
      have hjl : j < y.length := by have := (List.getElem?_eq_some_iff.1 hj).1; rwa [bv_length] at this
      rw [bv_get y j hjl] at hj
      rw [Addr.add_lit, Nat.zero_add, hcell j hjl]
      exact hj) (bv_one y) (by unfold maxLen; omega) (by omega) h.bel.size
    have hrow : ∀ r, (Value.slice ad m c).ownBlock = some r → (∃ cs z, W.heap[r]? = some (.cells cs 5 z)) ∧ w.heap.size ≤ r := fun r e => by
      rcases ho.row.2 with ⟨e2, -⟩ | ⟨g', cap, cur, e2, hb, hh, -⟩
      · rw [e2] at e
        cases e
      · rw [e2] at e
        obtain rfl := Option.some.inj e
        exact ⟨⟨cur, _, hh⟩, hb⟩
    obtain ⟨ad', m', c', rfl⟩ : ∃ ad' m' c', v' = .slice ad' m' c' := by
      rcases h1.2 with ⟨rfl, -⟩ | ⟨g', cap, cur, rfl, -⟩ <;> exact ⟨_, _, _, rfl⟩
    refine ⟨ad', m', c', W2, hr, ⟨?_, ok_append ho.good hu.good⟩, h.other hm h2 fun r e => ⟨(hrow r e).2, h.bytes (hrow r e).1⟩, RL.row h2 hrow h.bel.size⟩
    rw [List.length_append, bv_append]
    exact h1
end
/-- a load of one cell -/
theorem st_ld {ops : Array Oper} {o : Oper} {a : Act} {W : World} {K : Act → World → Prop} {Q : Exit → Act → World → Prop} {E : Prop} (hgd : o.guard = none) (p : Nat) (ho : o.op = .load 44 (.tmp p)) {B : Nat} {ad : Option Addr} {m c : Nat} (hp : a.tmps[p]?.getD undef = .pointer (some ⟨B, 0, none⟩)) (hc : W.cell? ⟨B, 0, none⟩ = some (.slice ad m c)) (h : K (a.put o.dst (.slice ad m c)) W) : if Region.wanted o (yielded ops a.tmps) = true then Oper.wp Try.prog o a W K Q else E := by
  rw [if_pos (by simp [Region.wanted, hgd])]
  obtain ⟨dst, op', ty, pos, after, guard⟩ := o
  simp only at ho hgd
  subst ho hgd
  go_simp
  exact h
theorem st_st {ops : Array Oper} {o : Oper} {a : Act} {W : World} {K : Act → World → Prop} {Q : Exit → Act → World → Prop} {E : Prop} (hgd : o.guard = none) (p q : Nat) (ho : o.op = .store 44 (.tmp p) (.tmp q)) {B : Nat} {x : Value} {ad : Option Addr} {m c : Nat} (hp : a.tmps[p]?.getD undef = .pointer (some ⟨B, 0, none⟩)) (hq : a.tmps[q]?.getD undef = .slice ad m c) (L : LB W B 44 [x]) (h : K (a.put o.dst undef) (W.setCell ⟨B, 0, none⟩ (.slice ad m c))) : if Region.wanted o (yielded ops a.tmps) = true then Oper.wp Try.prog o a W K Q else E := by
  rw [if_pos (by simp [Region.wanted, hgd])]
  obtain ⟨dst, op', ty, pos, after, guard⟩ := o
  simp only at ho hgd
  subst ho hgd
  have x0 := L.cell 0 _ rfl
  have f0 := L.free 0
  clear L
  go_simp
  exact h
set_option maxRecDepth 100000 in
theorem st_uint {ops : Array Oper} {o : Oper} {a : Act} {W : World} {K : Act → World → Prop} {Q : Exit → Act → World → Prop} {E : Prop} (hgd : o.guard = none) (p : Nat) (ho : o.op = .call { callee := .value (.func 52), args := #[.tmp p], argTypes := #[110] }) {y : Nat} (hp : a.tmps[p]?.getD undef = .int .u64 (y : Int)) (hy : y < 18446744073709551616) (h : ∀ W' ad, ∀ m c : Nat, Wb.Own W.heap.size W' (.slice ad m c) (Wn.uint y) → Below W.heap.size W W' → K (a.put o.dst (.slice ad m c)) W') : if Region.wanted o (yielded ops a.tmps) = true then Oper.wp Try.prog o a W K Q else E := by
  rw [if_pos (by simp [Region.wanted, hgd])]
  obtain ⟨dst, op', ty, pos, after, guard⟩ := o
  simp only at ho hgd
  subst ho hgd
  have HC : Hid (Calls Try.prog 52 #[.int .u64 (y : Int)] W fun e W' => ∃ v', e = .returned v' ∧ Wb.Own W.heap.size W' v' (Wn.uint y) ∧ Below W.heap.size W W') := uint_any y W hy
  go_simp
  refine HC.out.mono ?_
  rintro e W' ⟨v', rfl, o', b'⟩
  obtain ⟨ad, c, e2, -⟩ := o'.bs.shape
  subst e2
  exact h W' ad _ c o' b'
set_option maxRecDepth 100000 in
theorem ixrange_any (g : Nat) (lo hi : Int) (w : World) : Calls Try.prog 40 #[.pointer (some ⟨g, 0, none⟩), .int .i64 lo, .int .i64 hi] w fun e w' => e = .returned (.func (.func 57) #[] #[.pointer (some ⟨w.heap.size, 0, none⟩), .pointer (some ⟨w.heap.size + 1, 0, none⟩), .pointer (some ⟨w.heap.size + 2, 0, none⟩)]) ∧ LB w' w.heap.size 23 [.pointer (some ⟨g, 0, none⟩)] ∧ LB w' (w.heap.size + 1) 3 [.int .i64 lo] ∧ LB w' (w.heap.size + 2) 3 [.int .i64 hi] ∧ Below w.heap.size w w' := by
  have hmf : ∀ (fn : Fn) (first cap : Array Value) (w : World), (Instr.makeFunc fn first cap).run Try.prog w = .ok (.func fn first cap) w := fun _ _ _ _ => rfl
  have H : Hid (∀ W, W = ((w.alloc (.cells #[.pointer (some ⟨g, 0, none⟩)] 23)).alloc (.cells #[.int .i64 lo] 3)).alloc (.cells #[.int .i64 hi] 3) → LB W w.heap.size 23 [.pointer (some ⟨g, 0, none⟩)] ∧ LB W (w.heap.size + 1) 3 [.int .i64 lo] ∧ LB W (w.heap.size + 2) 3 [.int .i64 hi] ∧ Below w.heap.size w W) := fun W e => by
    subst e
    have h1 := lb_new w [.pointer (some ⟨g, 0, none⟩)] 23
    have h2 := lb_new (w.alloc (.cells #[.pointer (some ⟨g, 0, none⟩)] 23)) [.int .i64 lo] 3
    have h3 := lb_new ((w.alloc (.cells #[.pointer (some ⟨g, 0, none⟩)] 23)).alloc (.cells #[.int .i64 lo] 3)) [.int .i64 hi] 3
    rw [heap_one] at h2 h3
    rw [heap_one] at h3
    exact ⟨(h1.kept (up0 _ _)).kept (up0 _ _), h2.kept (up0 _ _), h3, up (up (up0 _ _) _) _⟩
  go_enter Try.func40, Try.ntmps40
  go_wp2_with fail
  go_ret
  exact ⟨rfl, H.out _ rfl⟩
set_option maxRecDepth 100000 in
theorem ixall_any (g : Nat) (w : World) : Calls Try.prog 27 #[.pointer (some ⟨g, 0, none⟩)] w fun e w' => e = .returned (.func (.func 57) #[] #[.pointer (some ⟨w.heap.size, 0, none⟩), .pointer (some ⟨w.heap.size + 1, 0, none⟩), .pointer (some ⟨w.heap.size + 2, 0, none⟩)]) ∧ LB w' w.heap.size 23 [.pointer (some ⟨g, 0, none⟩)] ∧ LB w' (w.heap.size + 1) 3 [.int .i64 (-9223372036854775808)] ∧ LB w' (w.heap.size + 2) 3 [.int .i64 9223372036854775807] ∧ Below w.heap.size w w' := by
  have HR := ixrange_any g (-9223372036854775808) 9223372036854775807 w
  have HR2 : Hid (Calls Try.prog 40 #[.pointer (some ⟨g, 0, none⟩), .int .i64 (-9223372036854775808), .int .i64 9223372036854775807] w fun e w' => e = .returned (.func (.func 57) #[] #[.pointer (some ⟨w.heap.size, 0, none⟩), .pointer (some ⟨w.heap.size + 1, 0, none⟩), .pointer (some ⟨w.heap.size + 2, 0, none⟩)]) ∧ LB w' w.heap.size 23 [.pointer (some ⟨g, 0, none⟩)] ∧ LB w' (w.heap.size + 1) 3 [.int .i64 (-9223372036854775808)] ∧ LB w' (w.heap.size + 2) 3 [.int .i64 9223372036854775807] ∧ Below w.heap.size w w') := HR
  clear HR
  go_enter Try.func27, Try.ntmps27
  go_wp2_with fail
  refine HR2.out.mono ?_
  rintro e w1 ⟨rfl, h1, h2, h3, h4⟩
  have H : Hid (LB w1 w.heap.size 23 [.pointer (some ⟨g, 0, none⟩)] ∧ LB w1 (w.heap.size + 1) 3 [.int .i64 (-9223372036854775808)] ∧ LB w1 (w.heap.size + 2) 3 [.int .i64 9223372036854775807] ∧ Below w.heap.size w w1) := ⟨h1, h2, h3, h4⟩
  clear h1 h2 h3 h4 HR2
  go_wp2_with fail
  go_ret
  exact ⟨rfl, H.out⟩
end Go.Proofs.Ytceokpklcfmadaa
