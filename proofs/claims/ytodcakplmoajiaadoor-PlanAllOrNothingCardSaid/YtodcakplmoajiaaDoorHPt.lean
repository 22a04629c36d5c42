/-
  PlanAllOrNothing: tallied of any record.
-/
import Derived.Test.YtodcakplmoajiaaDoorHPs
namespace Go.Proofs.YtodcakplmoajiaaDoor
open Go Go.RowKit
open Wb

/-- what was done, what was undone: rows apart -/
def Rw (B : Nat) (w : World) (x y : Value) (L1 L2 : List Int) : Prop := Fld.RoI B w x L1 ∧ (L2 = [] → y = .slice none 0 0) ∧ ∃ Bu, B ≤ Bu ∧ Bu ≤ w.heap.size ∧ Fld.RoI Bu w y L2 ∧ ∀ g, x.ownBlock = some g → g < Bu
/-- what a tally leaves as it was -/
structure Lv (B : Nat) (w w' : World) : Prop where
  bel : Below B w w'
  lb : ∀ (g : Nat) (t : TypeId) (C : List Value), t ≠ 3 → LB w g t C → LB w' g t C
  sg : ∀ (D : Nat) (T : Sg) (h : SH), SgO D w T h → SgO D w' T h
theorem Rw.kept {B : Nat} {w w' : World} {x y : Value} {L1 L2 : List Int} (h : Rw B w x y L1 L2) (hb : Below w.heap.size w w') : Rw B w' x y L1 L2 := by
  obtain ⟨a, b, Bu, c, d, e, f⟩ := h
  exact ⟨a.kept hb, b, Bu, c, Nat.le_trans d hb.size, e.kept hb, f⟩
theorem Rw.oth {B g : Nat} {w w' : World} {x y : Value} {L1 L2 : List Int} {t : TypeId} {C : List Value} (h : Rw B w x y L1 L2) (L : LB w g t C) (ht : t ≠ 3) (ho : Oth g w w') (hs : w.heap.size ≤ w'.heap.size) : Rw B w' x y L1 L2 := by
  obtain ⟨a, b, Bu, c, d, e, f⟩ := h
  exact ⟨roI_oth a L ht ho, b, Bu, c, Nat.le_trans d hs, roI_oth e L ht ho, f⟩
theorem lv_below {B : Nat} {w w' : World} (hB : B ≤ w.heap.size) (hb : Below w.heap.size w w') : Lv B w w' := ⟨hb.mono hB, fun _ _ _ _ h => h.kept hb, fun _ _ _ h => h.kept hb⟩
theorem lv_grown {B B2 : Nat} {w w' : World} {v : Value} {l : List Int} (hB : B ≤ w.heap.size) (hr : Fld.RoI B2 w v l) (hBB : B ≤ B2) (hg : w.grownBy w' v.ownBlock) : Lv B w w' := by
  refine ⟨(Below.refl B w).grown hg hB (fun k hk => Nat.le_trans hBB (World.ownsRow.lt hr k hk).1), fun g t C ht h => lb_grown h hr ht hg, fun D T h q => ?_⟩
  cases hv : v.ownBlock with
  | none =>
    rw [hv] at hg
    exact q.kept ⟨hg.os, hg.tape, hg.output, hg.size, fun k hk => hg.block k hk (by simp)⟩
  | some g =>
    rw [hv] at hg
    obtain ⟨cs, h4, _⟩ := roI_typed hr g hv
    have L : LB w g 3 cs.toList := by unfold LB; rw [h4]
    exact q.oth L (by decide) (by decide) (fun b hb hlt => hg.block b hlt (by simpa using hb))
theorem roI_more {B B2 : Nat} {w w' : World} {v x : Value} {l l2 : List Int} (h : Fld.RoI B w x l) (hr : Fld.RoI B2 w v l2) (hg : w.grownBy w' v.ownBlock) (hne : ∀ g, x.ownBlock = some g → g < B2) : Fld.RoI B w' x l := roI_keptB h fun g e => hg.block g (World.ownsRow.lt h g e).2 fun e2 => by
  have := (World.ownsRow.lt hr g e2.symm).1
  have := hne g e
  omega
theorem ptal_any (B : Nat) (N : List Int) (x y : Value) (L1 L2 : List Int) (X : Nums) (nm : ByteArray) (d : Value) (w : World) (hN : N.length = 96) (hr : Rw B w x y L1 L2) (hB : B ≤ w.heap.size) (hl1 : L1.length ≤ 1000) (hl2 : L2.length ≤ 1000) (hs : 0 ≤ X.p ∧ X.p ≤ 31) (h3 : X.k = 3 → L2 = []) (hn0 : ∀ (j : Nat) (n : Int), N[j]? = some n → 0 ≤ n ∧ n < 4611686018427387904) : Calls Tryd.prog 12 #[.agg (tll N x y).toArray, rv X nm d] w fun e w' => ∃ x' y', e = .returned (.agg (tll (talN N X) x' y').toArray) ∧ Rw B w' x' y' (talD L1 X) (talU L2 X) ∧ Lv B w w' := by
  obtain ⟨ax, cx, ex⟩ := Fld.RoI.shape hr.1
  obtain ⟨Bu, u1, u2, u3, u4⟩ := hr.2.2
  obtain ⟨ay, cy, ey⟩ := Fld.RoI.shape u3
  have ox : x.oneCell' = true := by rw [ex]; rfl
  have oy : y.oneCell' = true := by rw [ey]; rfl
  have hpt : X.p.toNat < 32 := by omega
  by_cases e2 : X.k = 2
  · have ai := atN_some (N := N) (j := X.p.toNat) (by omega)
    refine (ptal_2 N x y _ X nm d w hN ox oy hs e2 ai (hn0 _ _ ai)).mono fun e w' q => ⟨x, y, ?_, ?_, lv_below hB q.2⟩
    · rw [q.1]; unfold talN; rw [if_pos e2]
    · unfold talD talU
      rw [if_neg (by omega), if_neg (by omega)]
      exact hr.kept q.2
  by_cases e3 : X.k = 3
  · have ai := atN_some (N := N) (j := 32 + X.p.toNat) (by omega)
    refine (ptal_3 B N x y L1 _ X nm d w hN hr.1 hB hl1 oy hs e3 ai (hn0 _ _ ai)).mono fun e w' q => ?_
    obtain ⟨x', q1, q2, q3⟩ := q
    have hL := h3 e3
    refine ⟨x', y, ?_, ⟨?_, ?_, w'.heap.size, ?_, Nat.le_refl _, ?_, fun g hg => (World.ownsRow.lt q2 g hg).2⟩, lv_grown hB hr.1 (Nat.le_refl _) q3⟩
    · rw [q1]; unfold talN; rw [if_neg e2, if_pos e3]
    · unfold talD; rw [if_pos e3]; exact q2
    · intro _; exact hr.2.1 hL
    · exact Nat.le_trans hB q3.size
    · unfold talU
      rw [if_neg (by omega), hL, hr.2.1 hL]
      exact Fld.roI_nil _ _
  by_cases e6 : X.k = 6
  · have ai := atN_some (N := N) (j := 64 + X.p.toNat) (by omega)
    refine (ptal_6 Bu N x y L2 _ X nm d w hN u3 u2 hl2 ox hs e6 ai (hn0 _ _ ai)).mono fun e w' q => ?_
    obtain ⟨y', q1, q2, q3⟩ := q
    refine ⟨x, y', ?_, ⟨?_, ?_, Bu, u1, Nat.le_trans u2 q3.size, ?_, u4⟩, lv_grown hB u3 u1 q3⟩
    · rw [q1]; unfold talN; rw [if_neg e2, if_neg e3, if_pos e6]
    · unfold talD; rw [if_neg e3]; exact roI_more hr.1 u3 q3 u4
    · unfold talU; rw [if_pos e6]; intro h; simp at h
    · unfold talU; rw [if_pos e6]; exact q2
  · refine (ptal_o N x y X nm d w hN ox oy hs ⟨e2, e3, e6⟩).mono fun e w' q => ⟨x, y, ?_, ?_, lv_below hB q.2⟩
    · rw [q.1]; unfold talN; rw [if_neg e2, if_neg e3, if_neg e6]
    · unfold talD talU
      rw [if_neg e3, if_neg e6]
      exact hr.kept q.2
end Go.Proofs.YtodcakplmoajiaaDoor
