import Derived.BigQuiet
import Derived.Deep.CutRange
import Derived.Test.YtabdfafffjgfiaaGreatDoorASM
import Derived.Test.YtabdfafffjgfiaaGreatDoorAE2
namespace Go.Proofs.YtabdfafffjgfiaaGreatDoor
open Go Go.RowKit
open Wb

theorem one_box (w : World) (t : TypeId) (Z D : List Value) (hl : D.length = Z.length) : LB ((w.alloc (.cells Z.toArray t)).setCells w.heap.size 0 D) w.heap.size t D ∧ Below w.heap.size w ((w.alloc (.cells Z.toArray t)).setCells w.heap.size 0 D) := ⟨(lb_new w Z t).sets D hl, below_cells (Nat.le_refl _) _ 0 _ (up0 _ _)⟩
theorem two_boxes (w : World) (t t2 : TypeId) (Z1 Z2 G D : List Value) (h1 : G.length = Z1.length) (h2 : D.length = Z2.length) : LB ((((w.alloc (.cells Z1.toArray t)).alloc (.cells Z2.toArray t2)).setCells w.heap.size 0 G).setCells (w.heap.size + 1) 0 D) w.heap.size t G ∧ LB ((((w.alloc (.cells Z1.toArray t)).alloc (.cells Z2.toArray t2)).setCells w.heap.size 0 G).setCells (w.heap.size + 1) 0 D) (w.heap.size + 1) t2 D ∧ Below w.heap.size w ((((w.alloc (.cells Z1.toArray t)).alloc (.cells Z2.toArray t2)).setCells w.heap.size 0 G).setCells (w.heap.size + 1) 0 D) := by
 obtain ⟨a, b, c⟩ := lb_new2 w Z1 Z2 t t2
 exact ⟨(a.sets G h1).others _ _ _ (by omega), (b.others _ _ _ (by omega)).sets D h2, below_cells (by omega) _ 0 _ (below_cells (Nat.le_refl _) _ 0 _ c)⟩
theorem sg1_good : chkS sg1 = true ∧ allowedP sg1 = [2] := by
 have hn : (Text.Tx.nmA buy).1 = 0 := by decide +kernel
 have hc : chkS sg1 = true := by
  rw [chkS_iff]
  refine ⟨⟨hn, ?_⟩, .inl ?_⟩
  ·simp [sg1, shortP]
  ·simp [Gd1, sg1]
 refine ⟨hc, ?_⟩
 rw [allowed_eq sg1 hc rfl]
 rfl
theorem up_v3 (r : Rec) (hv : V3 r) (h3 : r.x.v = 3) : upP 3 r = (0, r) := by
 have hc : chkR r = 0 := (v3_iff r h3).2 hv
 have hl : lckE 3 r = 0 := by unfold lckE; rw [if_neg (by simpa using hc), if_pos (by omega)]
 unfold upP
 rw [if_neg (by simpa using hl), if_neg (by omega), car33 r h3]
theorem fit_v3 (r : Rec) (hv : V3 r) (hs : r.x.s ≤ 9223372036854775807) : r.x.fit := by
 obtain ⟨v1, v2, v3, vk⟩ := hv
 intro t h1 h9
 unfold Nums.tag
 obtain rfl | rfl | rfl | rfl | rfl | rfl | rfl | rfl | rfl : t = 1 ∨ t = 2 ∨ t = 3 ∨ t = 4 ∨ t = 5 ∨ t = 6 ∨ t = 7 ∨ t = 8 ∨ t = 9 := by omega
 all_goals
  simp
  omega
theorem first_v3 : V3 rec1 := by
 have hn : lab buy = 0 := by decide +kernel
 simp [V3, rec1, hn]
theorem first_begin : beginP rec1 = (0, sg1) := by
 unfold beginP
 rw [up_v3 rec1 first_v3 rfl]
 simp [rec1, sg1]
theorem first_fit : rec1.x.fit := fit_v3 _ first_v3 (by decide)
def KS (S : Sg) (h : SH) (G : Nat) (wr : World) (S' : Sg) (h' : SH) : Prop := (S' = S ∧ h' = h) ∨ ∃ n, G < n ∧ SgO n wr S' h'
theorem KS.at {w wr : World} {S S' : Sg} {h h' : SH} {G : Nat} (q : KS S h G wr S' h') (k : SgAt w S h) (b : Below w.heap.size w wr) : SgAt wr S' h' := by
 rcases q with ⟨rfl, rfl⟩ | ⟨n, _, o⟩
 ·exact k.kept b
 ·exact o.at
theorem KS.kept {wr wr' : World} {S S' : Sg} {h h' : SH} {G : Nat} (q : KS S h G wr S' h') (b : Below wr.heap.size wr wr') : KS S h G wr' S' h' := by
 rcases q with q | ⟨n, hn, o⟩
 ·exact .inl q
 ·exact .inr ⟨n, hn, o.kept b⟩
theorem KS.sets {wr : World} {S S' : Sg} {h h' : SH} {G : Nat} (q : KS S h G wr S' h') (g o : Nat) (vs : List Value) (hg : g ≤ G) : KS S h G (wr.setCells g o vs) S' h' := by
 rcases q with q | ⟨n, hn, q⟩
 ·exact .inl q
 ·exact .inr ⟨n, hn, q.sets g o vs (by omega)⟩
def trl (cnt piv dn un : Int) : List Value := [.int .i64 cnt, .int .i64 piv, .int .i64 dn, .int .i64 un]
def Oth (g : Nat) (w w' : World) : Prop := ∀ b, b ≠ g → b < w.heap.size → w'.heap[b]? = w.heap[b]?
theorem begin_good (r : Rec) (hok : ok r.l) (hf : r.x.fit) (h : (beginP r).1 = 0) : chkS (beginP r).2 = true ∧ (beginP r).2.outs = [] ∧ (beginP r).2.und = [] ∧ (beginP r).2.nm.size ≤ 20000 := by
 unfold beginP at h ⊢
 by_cases h1 : (upP 3 r).1 = 0
 ·rw [if_neg (by simpa using h1)] at h ⊢
  by_cases h2 : (upP 3 r).2.x.k = 1
  ·rw [if_neg (by simpa using h2)] at h ⊢
   obtain ⟨hv, _, _, hs⟩ := up3 r hok h1
   obtain ⟨v1, v2, v3, vk⟩ := hv
   have hs2 : (upP 3 r).2.x.s ≤ 9223372036854775807 := by
    rw [hs]
    exact (hf 2 (by omega) (by omega)).2
   have hsm : (upP 3 r).2.nm.size ≤ 20000 := by
    obtain ⟨q1, _, _, _, q3⟩ := up_zero h1
    rw [q3]
    exact (carL_small _ r (small_of r hf q1)).1
   refine ⟨?_, rfl, rfl, hsm⟩
   rw [chkS_iff]
   rcases vk with k | k | k | k | k
   ·refine ⟨⟨lab_zero k.2.2.2.2.2.2.2.2.2.1, ⟨v1, hs2⟩, ⟨k.2.2.2.2.2.1, k.2.2.2.2.2.2.1⟩, ⟨k.2.2.2.2.2.2.2.1, k.2.2.2.2.2.2.2.2.1⟩, ⟨v2, v3⟩, ⟨v2, v3⟩, ?_⟩, .inl ?_⟩
    ·have := k.2.2.2.2.2.2.2.2.2.2
     simp [shortP, this]
    ·have h9 := k.2.2.2.2.2.1
     simp [Gd1]
     omega
   all_goals omega
  ·rw [if_pos h2] at h; simp at h
 ·rw [if_pos h1] at h; exact absurd h h1
theorem Oth.sets (w : World) (g o : Nat) (vs : List Value) : Oth g w (w.setCells g o vs) := fun b hb _ => cells_other g vs o w b hb
theorem LB.oth {w w' : World} {a g : Nat} {t : TypeId} {C : List Value} (h : LB w a t C) (ho : Oth g w w') (hne : a ≠ g) : LB w' a t C := (ho a hne h.lt).trans h
theorem own_oth {w w' : World} {B g : Nat} {t : TypeId} {C : List Value} {d : Value} {l : List Nat} (h : Own B w d l) (L : LB w g t C) (ht : t ≠ 5) (ho : Oth g w w') : Own B w' d l := own_keptB h fun b e => ho b (by
 rintro rfl
 rcases h.row.2 with ⟨e3, _⟩ | ⟨g', cap, cur, e3, _, hg', _⟩
 ·rw [e3] at e; simp [Value.ownBlock] at e
 ·rw [e3] at e; simp [Value.ownBlock] at e; subst e; rw [L] at hg'; simp at hg'; exact ht hg'.2) (own_block h b e).2
theorem ownp_oth {w w' : World} {B g : Nat} {t : TypeId} {C : List Value} {v : Value} {ls : List (List Nat)} (h : OwnP B w v ls) (L : LB w g t C) (ht : t ≠ 5) (ht2 : t ≠ 22) (ho : Oth g w w') : OwnP B w' v ls := by
 obtain ⟨vs, r1, r2, r3⟩ := h
 refine ⟨vs, row_kept2 r1 fun b e => ho b ?_ (row_block r1 b e).2, r2, fun j a b => own_oth (r3 j a b) L ht ho⟩
 rintro rfl
 obtain ⟨cs, z, h4⟩ := row_typed r1 b e
 rw [L] at h4
 simp at h4
 exact ht2 h4.2.1
theorem SgO.oth {w w' : World} {B g : Nat} {t : TypeId} {C : List Value} {S : Sg} {h : SH} (k : SgO B w S h) (L : LB w g t C) (ht : t ≠ 5) (ht2 : t ≠ 22) (ho : Oth g w w') : SgO B w' S h := ⟨own_oth k.inp L ht ho, ownp_oth k.outs L ht ht2 ho, ownp_oth k.und L ht ht2 ho, own_oth k.fail L ht ho⟩
def recA : Rec := ⟨⟨3, 2, 7, 0, 1, 6, 0, 0, 0, 0⟩, ⟨#[]⟩, []⟩
def recB : Rec := ⟨⟨3, 3, 7, 0, 0, 6, 0, 0, 0, 0⟩, ⟨#[]⟩, []⟩
def sgA : Sg := deedS sg1 recA
def sgB : Sg := deedS sgA recB
end Go.Proofs.YtabdfafffjgfiaaGreatDoor
