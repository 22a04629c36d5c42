import Derived.BigQuiet
import Derived.Deep.CutRange
import Derived.Test.YtdhpfplmgeljaaaGreatDoorQSX
import Derived.Test.YtdhpfplmgeljaaaGreatDoorQE2
namespace Go.Proofs.YtdhpfplmgeljaaaGreatDoor
open Go Go.RowKit
open Wb

def trl (cnt piv dn un : Int) : List Value := [.int .i64 cnt, .int .i64 piv, .int .i64 dn, .int .i64 un]
def Oth (g : Nat) (w w' : World) : Prop := ∀ b, b ≠ g → b < w.heap.size → w'.heap[b]? = w.heap[b]?
theorem begin_good (r : Rec) (hok : ok r.l) (hf : r.x.fit) (h : (beginP r).1 = 0) : chkS (beginP r).2 = true ∧ (beginP r).2.outs = [] ∧ (beginP r).2.und = [] ∧ (beginP r).2.nm.size ≤ 20000 := by
  unfold beginP at h ⊢
  by_cases h1 : (upP 3 r).1 = 0
  · rw [if_neg (by simpa using h1)] at h ⊢
    by_cases h2 : (upP 3 r).2.x.k = 1
    · rw [if_neg (by simpa using h2)] at h ⊢
      obtain ⟨hv, _, _, hs⟩ := up3 r hok h1
      obtain ⟨v1, v2, v3, vk⟩ := hv
      have hs2 : (upP 3 r).2.x.s ≤ 9223372036854775807 := by
        rw [hs]
        exact (hf 2 (by omega) (by omega)).2
      have hsm : (upP 3 r).2.nm.size ≤ 20000 := by
        obtain ⟨q1, _, _, _, q3⟩ := up_zero h1
        rw [q3]
        exact (carL_small _ r (small_of r hf q1)).1
      refine ⟨?_, rfl, rfl, hsm⟩
      rw [chkS_iff]
      rcases vk with k | k | k | k | k
      · refine ⟨⟨lab_zero k.2.2.2.2.2.2.2.2.2.1, ⟨v1, hs2⟩, ⟨k.2.2.2.2.2.1, k.2.2.2.2.2.2.1⟩, ⟨k.2.2.2.2.2.2.2.1, k.2.2.2.2.2.2.2.2.1⟩, ⟨v2, v3⟩, ⟨v2, v3⟩, ?_⟩, .inl ?_⟩
        · have := k.2.2.2.2.2.2.2.2.2.2
          simp [shortP, this]
        · have h9 := k.2.2.2.2.2.1
          simp [Gd1]
          omega
      all_goals omega
    · rw [if_pos h2] at h; simp at h
  · rw [if_pos h1] at h; exact absurd h h1
theorem apply_good (S : Sg) (r : Rec) (hok : ok r.l) (hk : r.x.k ≠ 1) (h : (applyP S r).1 = 0) : ∃ u : Rec, V3 u ∧ refP S.x u.x = 0 ∧ (applyP S r).2 = deedS S u ∧ u.x.k = r.x.k ∧ u.x.p = r.x.p := by
  unfold applyP at h ⊢
  cases hc : chkS S with
  | false => rw [hc, if_pos rfl] at h; simp at h
  | true =>
    rw [hc, if_neg (by simp)] at h
    rw [if_neg (by simp)]
    by_cases h1 : (upP 3 r).1 = 0
    · rw [if_neg (by simpa using h1)] at h ⊢
      by_cases h2 : refP S.x (upP 3 r).2.x = 0
      · rw [if_neg (by simpa using h2)]
        obtain ⟨hv, _, hk2, _⟩ := up3 r hok h1
        refine ⟨(upP 3 r).2, hv, h2, rfl, hk2, ?_⟩
        obtain ⟨q1, _, _, q2, q3⟩ := up_zero h1
        rw [q3]
        have q4 := (chk_exp r.x r.nm r.l).1 q1
        obtain hv | hv | hv : r.x.v = 1 ∨ r.x.v = 2 ∨ r.x.v = 3 := by omega
        · rw [car13 r hv]
          simp [cTwo, cOne, hk]
          split
          · rfl
          · split <;> rfl
        · rw [car23 r hv]; rfl
        · rw [car33 r hv]
      · rw [if_pos h2] at h; exact absurd h h2
    · rw [if_pos h1] at h; exact absurd h h1
theorem Oth.sets (w : World) (g o : Nat) (vs : List Value) : Oth g w (w.setCells g o vs) := fun b hb _ => cells_other g vs o w b hb
theorem LB.oth {w w' : World} {a g : Nat} {t : TypeId} {C : List Value} (h : LB w a t C) (ho : Oth g w w') (hne : a ≠ g) : LB w' a t C := (ho a hne h.lt).trans h
theorem own_oth {w w' : World} {B g : Nat} {t : TypeId} {C : List Value} {d : Value} {l : List Nat} (h : Own B w d l) (L : LB w g t C) (ht : t ≠ 5) (ho : Oth g w w') : Own B w' d l := own_keptB h fun b e => ho b (by
  rintro rfl
  rcases h.row.2 with ⟨e3, _⟩ | ⟨g', cap, cur, e3, _, hg', _⟩
  · rw [e3] at e; simp [Value.ownBlock] at e
  · rw [e3] at e; simp [Value.ownBlock] at e; subst e; rw [L] at hg'; simp at hg'; exact ht hg'.2) (own_block h b e).2
theorem ownp_oth {w w' : World} {B g : Nat} {t : TypeId} {C : List Value} {v : Value} {ls : List (List Nat)} (h : OwnP B w v ls) (L : LB w g t C) (ht : t ≠ 5) (ht2 : t ≠ 24) (ho : Oth g w w') : OwnP B w' v ls := by
  obtain ⟨vs, r1, r2, r3⟩ := h
  refine ⟨vs, row_kept2 r1 fun b e => ho b ?_ (row_block r1 b e).2, r2, fun j a b => own_oth (r3 j a b) L ht ho⟩
  rintro rfl
  obtain ⟨cs, z, h4⟩ := row_typed r1 b e
  rw [L] at h4
  simp at h4
  exact ht2 h4.2.1
theorem SgO.oth {w w' : World} {B g : Nat} {t : TypeId} {C : List Value} {S : Sg} {h : SH} (k : SgO B w S h) (L : LB w g t C) (ht : t ≠ 5) (ht2 : t ≠ 24) (ho : Oth g w w') : SgO B w' S h := ⟨own_oth k.inp L ht ho, ownp_oth k.outs L ht ht2 ho, ownp_oth k.und L ht ht2 ho, own_oth k.fail L ht ho⟩
def recA : Rec := ⟨⟨3, 2, 7, 0, 1, 6, 0, 0, 0, 0⟩, ⟨#[]⟩, []⟩
def recB : Rec := ⟨⟨3, 3, 7, 0, 0, 6, 0, 0, 0, 0⟩, ⟨#[]⟩, []⟩
def sgA : Sg := deedS sg1 recA
def sgB : Sg := deedS sgA recB
theorem step_store {P : Program} {ops : Array Oper} {o : Oper} {a : Act} {w : World} {K : Act → World → Prop} {Q : Exit → Act → World → Prop} {E : Prop} (hgd : o.guard = none) (ty : TypeId) (x y : Operand) (ho : o.op = .store ty x y)
    (b f : Nat) (cells : Array Value) (hx : a.eval x = .pointer (some ⟨b, f, none⟩)) (hy : a.eval y = .agg cells) (ht : w.there b f cells.size) (hi : (P.info? ty).map (·.size) = some cells.size) (h1 : cells.all (·.oneCell') = true)
    (h : K (a.put o.dst undef) (w.setCells b f cells.toList)) : if Region.wanted o (yielded ops a.tmps) = true then Oper.wp P o a w K Q else E := by
  rw [if_pos (by simp [Region.wanted, hgd])]
  exact wp_store_mid ty x y ho b f cells hx hy ht hi h1 h
end Go.Proofs.YtdhpfplmgeljaaaGreatDoor
