import Derived.Test.YtgjlkkikgkbamaaGreatDoorQSM
/-
  SagaEnds ..: the record that succeeds, kind by kind, and where Allowed holds it.
-/
namespace Go.Proofs.YtgjlkkikgkbamaaGreatDoor
open Go Go.RowKit
open Wb

end Go.Proofs.YtgjlkkikgkbamaaGreatDoor

/-
  SagaEnds ..: happy.
-/
namespace Go.Proofs.YtgjlkkikgkbamaaGreatDoor
open Go Go.RowKit
open Wb

end Go.Proofs.YtgjlkkikgkbamaaGreatDoor

/-
  SagaEnds ..: happy, kind by kind.
-/
namespace Go.Proofs.YtgjlkkikgkbamaaGreatDoor
open Go Go.RowKit
open Wb

end Go.Proofs.YtgjlkkikgkbamaaGreatDoor

/-
  SagaEnds ..: happy, kind by kind.
-/
namespace Go.Proofs.YtgjlkkikgkbamaaGreatDoor
open Go Go.RowKit
open Wb

end Go.Proofs.YtgjlkkikgkbamaaGreatDoor

/-
  SagaEnds ..: happy, kind by kind.
-/
namespace Go.Proofs.YtgjlkkikgkbamaaGreatDoor
open Go Go.RowKit
open Wb

end Go.Proofs.YtgjlkkikgkbamaaGreatDoor

/-
  SagaEnds ..: happy, kind by kind.
-/
namespace Go.Proofs.YtgjlkkikgkbamaaGreatDoor
open Go Go.RowKit
open Wb

end Go.Proofs.YtgjlkkikgkbamaaGreatDoor

/-
  SagaEnds ..: happy, kind by kind.
-/
namespace Go.Proofs.YtgjlkkikgkbamaaGreatDoor
open Go Go.RowKit
open Wb

end Go.Proofs.YtgjlkkikgkbamaaGreatDoor

/-
  SagaEnds ..: happy, kind by kind.
-/
namespace Go.Proofs.YtgjlkkikgkbamaaGreatDoor
open Go Go.RowKit
open Wb

end Go.Proofs.YtgjlkkikgkbamaaGreatDoor

/-
  SagaEnds ..: happy whole; what Begin and Apply answer of these records.
-/
namespace Go.Proofs.YtgjlkkikgkbamaaGreatDoor
open Go Go.RowKit
open Wb

/-- a valid record of version 3 is lifted to itself -/
theorem up_v3 (r : Rec) (hv : V3 r) (h3 : r.x.v = 3) : upP 3 r = (0, r) := by
  have hc : chkR r = 0 := (v3_iff r h3).2 hv
  have hl : lckE 3 r = 0 := by unfold lckE; rw [if_neg (by simpa using hc), if_pos (by omega)]
  unfold upP
  rw [if_neg (by simpa using hl), if_neg (by omega), car33 r h3]
theorem fit_v3 (r : Rec) (hv : V3 r) (hs : r.x.s ≤ 9223372036854775807) : r.x.fit := by
  obtain ⟨v1, v2, v3, vk⟩ := hv
  intro t h1 h9
  unfold Nums.tag
  obtain rfl | rfl | rfl | rfl | rfl | rfl | rfl | rfl | rfl : t = 1 ∨ t = 2 ∨ t = 3 ∨ t = 4 ∨ t = 5 ∨ t = 6 ∨ t = 7 ∨ t = 8 ∨ t = 9 := by omega
  all_goals
    simp
    omega
theorem first_v3 : V3 rec1 := by
  have hn : lab buy = 0 := by decide +kernel
  simp [V3, rec1, hn]
theorem first_begin : beginP rec1 = (0, sg1) := by
  unfold beginP
  rw [up_v3 rec1 first_v3 rfl]
  simp [rec1, sg1]
theorem first_fit : rec1.x.fit := fit_v3 _ first_v3 (by decide)
/-- the saga in the loop: the argument, or one in memory of its own -/
def KS (S : Sg) (h : SH) (G : Nat) (wr : World) (S' : Sg) (h' : SH) : Prop := (S' = S ∧ h' = h) ∨ ∃ n, G < n ∧ SgO n wr S' h'
theorem KS.at {w wr : World} {S S' : Sg} {h h' : SH} {G : Nat} (q : KS S h G wr S' h') (k : SgAt w S h) (b : Below w.heap.size w wr) : SgAt wr S' h' := by
  rcases q with ⟨rfl, rfl⟩ | ⟨n, _, o⟩
  · exact k.kept b
  · exact o.at
theorem KS.kept {wr wr' : World} {S S' : Sg} {h h' : SH} {G : Nat} (q : KS S h G wr S' h') (b : Below wr.heap.size wr wr') : KS S h G wr' S' h' := by
  rcases q with q | ⟨n, hn, o⟩
  · exact .inl q
  · exact .inr ⟨n, hn, o.kept b⟩
theorem KS.sets {wr : World} {S S' : Sg} {h h' : SH} {G : Nat} (q : KS S h G wr S' h') (g o : Nat) (vs : List Value) (hg : g ≤ G) : KS S h G (wr.setCells g o vs) S' h' := by
  rcases q with q | ⟨n, hn, q⟩
  · exact .inl q
  · exact .inr ⟨n, hn, q.sets g o vs (by omega)⟩
end Go.Proofs.YtgjlkkikgkbamaaGreatDoor
