/-
  RewriteSplits: lists of records, apart, beside the marks.
-/
import Derived.Test.YtggenlnknnhjgaaRz7
namespace Go.Proofs.Ytggenlnknnhjgaa
open Go Go.RowKit Go.ChangeShapes
open Wb
open Cb
abbrev RL := Value × List (Rec × Value)
/-- no block in common -/
def Apa (x y : RL) : Prop := ∀ q, Rq x.1 x.2 q → ¬ Rq y.1 y.2 q
theorem Apa.symm {x y : RL} (h : Apa x y) : Apa y x := fun q h1 h2 => h q h2 h1
/-- lists that lie apart, and what stands below them -/
structure XS (B : Nat) (wL w : World) (xs : List RL) : Prop where
  rw : ∀ x ∈ xs, Rws B w x.1 x.2
  ap : xs.Pairwise Apa
  be : Below B wL w
  lo : B ≤ w.heap.size
/-- beside the marks -/
structure SX (B : Nat) (wL w : World) (C : Nat → Option Cl) (g : Nat) (V : List Value) (l f : List En) (lh fh : List (Value × Nat)) (xs : List RL) : Prop extends XS B wL w xs where
  bk : Bk B w C g V l f lh fh
  ou : ∀ x ∈ xs, Out w C g V (Rq x.1 x.2)
section
variable {B g : Nat} {wL w w' : World} {C C' : Nat → Option Cl} {V V' : List Value} {l f : List En} {lh fh lh' fh' : List (Value × Nat)} {xs ys zs : List RL} {v1 v2 : Value} {ps1 ps2 : List (Rec × Value)}
theorem XS.nil (w : World) : XS w.heap.size w w [] := ⟨(fun _x h => nomatch h), List.Pairwise.nil, Below.refl _ _, Nat.le_refl _⟩
theorem XS.kept (h : XS B wL w xs) (hb : Below w.heap.size w w') : XS B wL w' xs := ⟨fun x hx => (h.rw x hx).kept hb, h.ap, h.be.trans (hb.mono h.lo), Nat.le_trans h.lo hb.size⟩
theorem XS.two (h : XS B wL w xs) (ht : Two w.heap.size w' v1 v2 ps1 ps2) (hb : Below w.heap.size w w') : XS B wL w' ((v1, ps1) :: (v2, ps2) :: xs) := by
  have hk := h.kept hb
  have hold : ∀ x ∈ xs, ∀ q, Rq x.1 x.2 q → q < w.heap.size := fun x hx q hq => ((h.rw x hx).lt hq).2
  refine ⟨fun x hx => ?_, ?_, hk.be, hk.lo⟩
  · rcases List.mem_cons.1 hx with rfl | hx
    · exact ht.one.weak h.lo
    · rcases List.mem_cons.1 hx with rfl | hx
      · exact ht.two.weak h.lo
      · exact hk.rw x hx
  · refine List.pairwise_cons.2 ⟨fun y hy => ?_, List.pairwise_cons.2 ⟨fun y hy q h1 h2 => ?_, h.ap⟩⟩
    · rcases List.mem_cons.1 hy with rfl | hy
      · exact ht.ap
      · intro q h1 h2
        have := (ht.one.lt h1).1
        have := hold y hy q h2
        omega
    · have := (ht.two.lt h1).1
      have := hold y hy q h2
      omega
theorem SX.kept (h : SX B wL w C g V l f lh fh xs) (hb : Below w.heap.size w w') : SX B wL w' C g V l f lh fh xs := ⟨h.toXS.kept hb, h.bk.kept hb, fun x hx q hq => ⟨Nat.lt_of_lt_of_le (h.ou x hx q hq).1 hb.size, (h.ou x hx q hq).2⟩⟩
theorem SX.two (h : SX B wL w C g V l f lh fh xs) (ht : Two w.heap.size w' v1 v2 ps1 ps2) (hb : Below w.heap.size w w') : SX B wL w' C g V l f lh fh ((v1, ps1) :: (v2, ps2) :: xs) := by
  have hn : ∀ q, w.heap.size ≤ q ∧ q < w'.heap.size → q < w'.heap.size ∧ C q = none ∧ ¬ Bo g V q := fun q hq => ⟨hq.2, Classical.not_not.1 fun e => by have := h.bk.col.lt e; omega, fun e => by have := (h.bk.bm.lt e).2; omega⟩
  refine ⟨h.toXS.two ht hb, h.bk.kept hb, fun x hx => ?_⟩
  rcases List.mem_cons.1 hx with rfl | hx
  · exact fun q hq => hn q (ht.one.lt hq)
  · rcases List.mem_cons.1 hx with rfl | hx
    · exact fun q hq => hn q (ht.two.lt hq)
    · exact (h.kept hb).ou x hx
theorem SX.start (h : XS B wL w xs) : SX B wL (w.alloc (.cells #[.slice none 0 0, .slice none 0 0, .slice none 0 0, .slice none 0 0, .slice none 0 0, .slice none 0 0] 37)) (fun _ => none) w.heap.size [.slice none 0 0, .slice none 0 0, .slice none 0 0, .slice none 0 0, .slice none 0 0, .slice none 0 0] [] [] [] [] xs := by
  refine ⟨h.kept (up0 _ _), Bk.zero w B h.lo, fun x hx q hq => ⟨?_, rfl, fun e => ?_⟩⟩
  · have := ((h.rw x hx).lt hq).2
    rw [heap_one]
    omega
  · have h9 := ((h.rw x hx).lt hq).2
    rcases e with e | ⟨v, hv, e⟩
    · omega
    · have hv0 : v = .slice none 0 0 := by simpa using hv
      rw [hv0] at e
      cases e
/-- a call of the marks that touches none of the lists -/
theorem SX.st (h : SX B wL w C g V l f lh fh xs) {l' f' : List En} {P : Nat → Prop} (hs : St w w' C C' g V V' P) (hbk : Bk B w' C' g V' l' f' lh' fh') (hP : ∀ x ∈ xs, ∀ q, Rq x.1 x.2 q → ¬ P q) (hPB : ∀ q, P q → B ≤ q) : SX B wL w' C' g V' l' f' lh' fh' xs := by
  refine ⟨⟨fun x hx => (h.rw x hx).fr (hs.same (h.ou x hx) (hP x hx)).1, h.ap, h.be.trans (hs.below h.bk hPB h.lo), Nat.le_trans h.lo hs.fr.size⟩, hbk, fun x hx => (hs.same (h.ou x hx) (hP x hx)).2⟩
/-- one of the lists is marked -/
theorem SX.drop {x : RL} (h : SX B wL w C g V l f lh fh (ys ++ x :: zs)) {l' f' : List En} (hs : St w w' C C' g V V' (Rq x.1 x.2)) (hbk : Bk B w' C' g V' l' f' lh' fh') : SX B wL w' C' g V' l' f' lh' fh' (ys ++ zs) := by
  have hsub : ∀ y ∈ ys ++ zs, y ∈ ys ++ x :: zs := fun y hy => by
    rcases List.mem_append.1 hy with e | e
    · exact List.mem_append_left _ e
    · exact List.mem_append_right _ (List.mem_cons_of_mem _ e)
  have hxm : x ∈ ys ++ x :: zs := List.mem_append_right _ List.mem_cons_self
  have hap := List.pairwise_append.1 h.ap
  have h1 : SX B wL w C g V l f lh fh (ys ++ zs) := ⟨⟨fun y hy => h.rw y (hsub y hy), List.pairwise_append.2 ⟨hap.1, (List.pairwise_cons.1 hap.2.1).2, fun a ha b hb => hap.2.2 a ha b (List.mem_cons_of_mem _ hb)⟩, h.be, h.lo⟩, h.bk, fun y hy => h.ou y (hsub y hy)⟩
  refine h1.st hs hbk (fun y hy => ?_) fun q hq => ((h.rw x hxm).lt hq).1
  rcases List.mem_append.1 hy with e | e
  · exact hap.2.2 y e x List.mem_cons_self
  · exact ((List.pairwise_cons.1 hap.2.1).1 y e).symm
end
/-- what Split leaves -/
def SpPost (nl nd : List Rec) (w : World) (e : Ending) (w' : World) : Prop := ∃ a1 a2, ∃ c1 c2 : Nat, ∃ ps1 ps2, e = .returned (.tuple #[.slice a1 nl.length c1, .slice a2 nd.length c2]) ∧ Two w.heap.size w' (.slice a1 nl.length c1) (.slice a2 nd.length c2) ps1 ps2 ∧ ps1.map Prod.fst = nl ∧ ps2.map Prod.fst = nd ∧ Below w.heap.size w w'
theorem sp_post {nl nd : List Rec} {w w' : World} {e : Ending} (h : ∃ v1 v2 ps1 ps2, e = .returned (.tuple #[v1, v2]) ∧ Two w.heap.size w' v1 v2 ps1 ps2 ∧ ps1.map Prod.fst = nl ∧ ps2.map Prod.fst = nd ∧ Below w.heap.size w w') : SpPost nl nd w e w' := by
  obtain ⟨v1, v2, ps1, ps2, rfl, ht, h1, h2, hb⟩ := h
  obtain ⟨a1, c1, e1, -⟩ := ht.one.recs.shape
  obtain ⟨a2, c2, e2, -⟩ := ht.two.recs.shape
  have n1 : ps1.length = nl.length := by rw [← h1, List.length_map]
  have n2 : ps2.length = nd.length := by rw [← h2, List.length_map]
  rw [n1] at e1
  rw [n2] at e2
  subst e1 e2
  exact ⟨a1, a2, c1, c2, ps1, ps2, rfl, ht, h1, h2, hb⟩
def eR : Rec := ⟨⟨1, 7, 1, 0, 0, 0, 0, 0, 0, 0⟩, ⟨#[]⟩, []⟩
theorem eR_live : Rz.live [eR] [eR] = [] := by decide +kernel
theorem eR_dead : Rz.dead [eR] [eR] = [eR] := rfl
theorem eR_fit : eR.x.fit := fun t h1 h9 => by
  obtain rfl | rfl | rfl | rfl | rfl | rfl | rfl | rfl | rfl : t = 1 ∨ t = 2 ∨ t = 3 ∨ t = 4 ∨ t = 5 ∨ t = 6 ∨ t = 7 ∨ t = 8 ∨ t = 9 := by omega
  all_goals decide
end Go.Proofs.Ytggenlnknnhjgaa
