import Derived.Test.YtdhpfplmgeljaaaGreatDoorQSH
import Derived.Test.YtdhpfplmgeljaaaGreatDoorQSM
namespace Go.Proofs.YtdhpfplmgeljaaaGreatDoor
open Go Go.RowKit
open Wb

theorem one_box (w : World) (t : TypeId) (Z D : List Value) (hl : D.length = Z.length) : LB ((w.alloc (.cells Z.toArray t)).setCells w.heap.size 0 D) w.heap.size t D ∧ Below w.heap.size w ((w.alloc (.cells Z.toArray t)).setCells w.heap.size 0 D) := ⟨(lb_new w Z t).sets D hl, below_cells (Nat.le_refl _) _ 0 _ (up0 _ _)⟩
theorem two_boxes (w : World) (t t2 : TypeId) (Z1 Z2 G D : List Value) (h1 : G.length = Z1.length) (h2 : D.length = Z2.length) : LB ((((w.alloc (.cells Z1.toArray t)).alloc (.cells Z2.toArray t2)).setCells w.heap.size 0 G).setCells (w.heap.size + 1) 0 D) w.heap.size t G ∧ LB ((((w.alloc (.cells Z1.toArray t)).alloc (.cells Z2.toArray t2)).setCells w.heap.size 0 G).setCells (w.heap.size + 1) 0 D) (w.heap.size + 1) t2 D ∧ Below w.heap.size w ((((w.alloc (.cells Z1.toArray t)).alloc (.cells Z2.toArray t2)).setCells w.heap.size 0 G).setCells (w.heap.size + 1) 0 D) := by
  obtain ⟨a, b, c⟩ := lb_new2 w Z1 Z2 t t2
  exact ⟨(a.sets G h1).others _ _ _ (by omega), (b.others _ _ _ (by omega)).sets D h2, below_cells (by omega) _ 0 _ (below_cells (Nat.le_refl _) _ 0 _ c)⟩
theorem sg1_good : chkS sg1 = true ∧ allowedP sg1 = [2] := by
  have hn : (Text.Tx.nmA buy).1 = 0 := by decide +kernel
  have hc : chkS sg1 = true := by
    rw [chkS_iff]
    refine ⟨⟨hn, ?_⟩, .inl ?_⟩
    · simp [sg1, shortP]
    · simp [Gd1, sg1]
  refine ⟨hc, ?_⟩
  rw [allowed_eq sg1 hc rfl]
  rfl
theorem up_v3 (r : Rec) (hv : V3 r) (h3 : r.x.v = 3) : upP 3 r = (0, r) := by
  have hc : chkR r = 0 := (v3_iff r h3).2 hv
  have hl : lckE 3 r = 0 := by unfold lckE; rw [if_neg (by simpa using hc), if_pos (by omega)]
  unfold upP
  rw [if_neg (by simpa using hl), if_neg (by omega), car33 r h3]
theorem fit_v3 (r : Rec) (hv : V3 r) (hs : r.x.s ≤ 9223372036854775807) : r.x.fit := by
  obtain ⟨v1, v2, v3, vk⟩ := hv
  intro t h1 h9
  unfold Nums.tag
  obtain rfl | rfl | rfl | rfl | rfl | rfl | rfl | rfl | rfl : t = 1 ∨ t = 2 ∨ t = 3 ∨ t = 4 ∨ t = 5 ∨ t = 6 ∨ t = 7 ∨ t = 8 ∨ t = 9 := by omega
  all_goals
    simp
    omega
theorem first_v3 : V3 rec1 := by
  have hn : lab buy = 0 := by decide +kernel
  simp [V3, rec1, hn]
theorem first_begin : beginP rec1 = (0, sg1) := by
  unfold beginP
  rw [up_v3 rec1 first_v3 rfl]
  simp [rec1, sg1]
theorem first_fit : rec1.x.fit := fit_v3 _ first_v3 (by decide)
def KS (S : Sg) (h : SH) (G : Nat) (wr : World) (S' : Sg) (h' : SH) : Prop := (S' = S ∧ h' = h) ∨ ∃ n, G < n ∧ SgO n wr S' h'
theorem KS.at {w wr : World} {S S' : Sg} {h h' : SH} {G : Nat} (q : KS S h G wr S' h') (k : SgAt w S h) (b : Below w.heap.size w wr) : SgAt wr S' h' := by
  rcases q with ⟨rfl, rfl⟩ | ⟨n, _, o⟩
  · exact k.kept b
  · exact o.at
theorem KS.kept {wr wr' : World} {S S' : Sg} {h h' : SH} {G : Nat} (q : KS S h G wr S' h') (b : Below wr.heap.size wr wr') : KS S h G wr' S' h' := by
  rcases q with q | ⟨n, hn, o⟩
  · exact .inl q
  · exact .inr ⟨n, hn, o.kept b⟩
theorem KS.sets {wr : World} {S S' : Sg} {h h' : SH} {G : Nat} (q : KS S h G wr S' h') (g o : Nat) (vs : List Value) (hg : g ≤ G) : KS S h G (wr.setCells g o vs) S' h' := by
  rcases q with q | ⟨n, hn, q⟩
  · exact .inl q
  · exact .inr ⟨n, hn, q.sets g o vs (by omega)⟩
end Go.Proofs.YtdhpfplmgeljaaaGreatDoor
