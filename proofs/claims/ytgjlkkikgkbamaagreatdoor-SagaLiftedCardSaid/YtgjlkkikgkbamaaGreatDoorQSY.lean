import Derived.BigQuiet
import Derived.Test.YtgjlkkikgkbamaaGreatDoorQSX
import Derived.Test.YtgjlkkikgkbamaaGreatDoorQSI
import Derived.Test.YtgjlkkikgkbamaaGreatDoorQE2
/-
  SagaWhole: follow.
-/
namespace Go.Proofs.YtgjlkkikgkbamaaGreatDoor
open Go Go.RowKit
open Wb

/-- what was seen: its cells -/
def trl (cnt piv dn un : Int) : List Value := [.int .i64 cnt, .int .i64 piv, .int .i64 dn, .int .i64 un]
/-- every block but this one stays -/
def Oth (g : Nat) (w w' : World) : Prop := ∀ b, b ≠ g → b < w.heap.size → w'.heap[b]? = w.heap[b]?
end Go.Proofs.YtgjlkkikgkbamaaGreatDoor

/-
  SagaWhole: what Begin and Apply answer; memory that stays.
-/
namespace Go.Proofs.YtgjlkkikgkbamaaGreatDoor
open Go Go.RowKit
open Wb

theorem begin_good (r : Rec) (hok : ok r.l) (hf : r.x.fit) (h : (beginP r).1 = 0) : chkS (beginP r).2 = true ∧ (beginP r).2.outs = [] ∧ (beginP r).2.und = [] ∧ (beginP r).2.nm.size ≤ 20000 := by
  unfold beginP at h ⊢
  by_cases h1 : (upP 3 r).1 = 0
  · rw [if_neg (by simpa using h1)] at h ⊢
    by_cases h2 : (upP 3 r).2.x.k = 1
    · rw [if_neg (by simpa using h2)] at h ⊢
      obtain ⟨hv, _, _, hs⟩ := up3 r hok h1
      obtain ⟨v1, v2, v3, vk⟩ := hv
      have hs2 : (upP 3 r).2.x.s ≤ 9223372036854775807 := by
        rw [hs]
        exact (hf 2 (by omega) (by omega)).2
      have hsm : (upP 3 r).2.nm.size ≤ 20000 := by
        obtain ⟨q1, _, _, _, q3⟩ := up_zero h1
        rw [q3]
        exact (carL_small _ r (small_of r hf q1)).1
      refine ⟨?_, rfl, rfl, hsm⟩
      rw [chkS_iff]
      rcases vk with k | k | k | k | k
      · refine ⟨⟨lab_zero k.2.2.2.2.2.2.2.2.2.1, ⟨v1, hs2⟩, ⟨k.2.2.2.2.2.1, k.2.2.2.2.2.2.1⟩, ⟨k.2.2.2.2.2.2.2.1, k.2.2.2.2.2.2.2.2.1⟩, ⟨v2, v3⟩, ⟨v2, v3⟩, ?_⟩, .inl ?_⟩
        · have := k.2.2.2.2.2.2.2.2.2.2
          simp [shortP, this]
        · have h9 := k.2.2.2.2.2.1
          simp [Gd1]
          omega
      all_goals omega
    · rw [if_pos h2] at h; simp at h
  · rw [if_pos h1] at h; exact absurd h h1
theorem Oth.sets (w : World) (g o : Nat) (vs : List Value) : Oth g w (w.setCells g o vs) := fun b hb _ => cells_other g vs o w b hb
theorem LB.oth {w w' : World} {a g : Nat} {t : TypeId} {C : List Value} (h : LB w a t C) (ho : Oth g w w') (hne : a ≠ g) : LB w' a t C := (ho a hne h.lt).trans h
theorem own_oth {w w' : World} {B g : Nat} {t : TypeId} {C : List Value} {d : Value} {l : List Nat} (h : Own B w d l) (L : LB w g t C) (ht : t ≠ 5) (ho : Oth g w w') : Own B w' d l := own_keptB h fun b e => ho b (by
  rintro rfl
  rcases h.row.2 with ⟨e3, _⟩ | ⟨g', cap, cur, e3, _, hg', _⟩
  · rw [e3] at e; simp [Value.ownBlock] at e
  · rw [e3] at e; simp [Value.ownBlock] at e; subst e; rw [L] at hg'; simp at hg'; exact ht hg'.2) (own_block h b e).2
theorem ownp_oth {w w' : World} {B g : Nat} {t : TypeId} {C : List Value} {v : Value} {ls : List (List Nat)} (h : OwnP B w v ls) (L : LB w g t C) (ht : t ≠ 5) (ht2 : t ≠ 22) (ho : Oth g w w') : OwnP B w' v ls := by
  obtain ⟨vs, r1, r2, r3⟩ := h
  refine ⟨vs, row_kept2 r1 fun b e => ho b ?_ (row_block r1 b e).2, r2, fun j a b => own_oth (r3 j a b) L ht ho⟩
  rintro rfl
  obtain ⟨cs, z, h4⟩ := row_typed r1 b e
  rw [L] at h4
  simp at h4
  exact ht2 h4.2.1
theorem SgO.oth {w w' : World} {B g : Nat} {t : TypeId} {C : List Value} {S : Sg} {h : SH} (k : SgO B w S h) (L : LB w g t C) (ht : t ≠ 5) (ht2 : t ≠ 22) (ho : Oth g w w') : SgO B w' S h := ⟨own_oth k.inp L ht ho, ownp_oth k.outs L ht ht2 ho, ownp_oth k.und L ht ht2 ho, own_oth k.fail L ht ho⟩
def recA : Rec := ⟨⟨3, 2, 7, 0, 1, 6, 0, 0, 0, 0⟩, ⟨#[]⟩, []⟩
def recB : Rec := ⟨⟨3, 3, 7, 0, 0, 6, 0, 0, 0, 0⟩, ⟨#[]⟩, []⟩
def sgA : Sg := deedS sg1 recA
def sgB : Sg := deedS sgA recB
end Go.Proofs.YtgjlkkikgkbamaaGreatDoor
