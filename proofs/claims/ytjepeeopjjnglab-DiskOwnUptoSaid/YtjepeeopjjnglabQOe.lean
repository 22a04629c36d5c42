import Derived.Test.YtjepeeopjjnglabQOd
/-
  DiskLeaves: the walk.
-/
namespace Go.Proofs.Ytjepeeopjjnglab
open Go Go.RowKit Go.ChangeShapes
open Wb

namespace Dk
theorem rising_lvF : ∀ (cs : List Ch) (l : Nm), rising l → rising (lvF cs l)
  | [], _, h => h
  | c :: r, l, h => by
    show rising (lvF r (c.app l))
    refine rising_lvF r _ ?_
    unfold Ch.app
    split
    · exact rising_del h _
    · exact rising_put (rising_del h _) _ _
theorem mapIdx_sum {α β : Type} (len : β → Nat) (m : α → Nat) : ∀ (l : List α) (g : Nat → α → β), (∀ k, ∀ p ∈ l, len (g k p) ≤ m p) → ((l.mapIdx g).map len).sum ≤ (l.map m).sum
  | [], _, _ => by simp
  | x :: r, g, h => by
    rw [List.mapIdx_cons, List.map_cons, List.map_cons, List.sum_cons, List.sum_cons]
    have h1 := h 0 x (List.mem_cons_self ..)
    have h2 := mapIdx_sum len m r (fun i => g (i + 1)) fun k p hp => h (k + 1) p (List.mem_cons_of_mem _ hp)
    omega
section
variable {S : DS} {N : Nat}
theorem mapIdx_pw {α β : Type} {R : α → α → Prop} {Q : β → β → Prop} : ∀ (l : List α) (g : Nat → α → β), (∀ j k p q, R p q → Q (g j p) (g k q)) → l.Pairwise R → (l.mapIdx g).Pairwise Q
  | [], _, _, _ => by simp
  | x :: r, g, h, hp => by
    have h2 := List.pairwise_cons.1 hp
    rw [List.mapIdx_cons]
    refine List.pairwise_cons.2 ⟨fun y hy => ?_, mapIdx_pw r _ (fun j k p q => h (j + 1) (k + 1) p q) h2.2⟩
    obtain ⟨i, hi, rfl⟩ := List.getElem_of_mem hy
    rw [List.getElem_mapIdx]
    exact h 0 _ _ _ (h2.1 _ (List.getElem_mem _))
/-- what a crash leaves may be loaded -/
theorem crash_gd (hW : WF S N) (hla : rising S.la) (keep : Int) (cs : List (Int × Int)) : Gd (crash S keep cs) := by
  refine ⟨fun x hx => ?_, ?_⟩
  · obtain ⟨i, hi, rfl⟩ := List.getElem_of_mem hx
    unfold crash crL at hi ⊢
    rw [List.getElem_mapIdx]
    exact (hW.left keep _ (List.getElem_mem _)).2
  · exact mapIdx_pw (lvN S keep) _ (fun _ _ _ _ h => h) (rising_lvF _ _ hla)
theorem crash_len (hW : WF S N) (hG : WG S) (keep : Int) (cs : List (Int × Int)) : (flen (crash S keep cs) : Int) ≤ S.quota := by
  obtain ⟨L, l1, l2, l3, l4⟩ := hG.live
  have hp := l4 (lvK S keep)
  have h1 : flen (crash S keep cs) ≤ fsum S.fo ((lvN S keep).map (·.2)) := by
    unfold flen crash crL fsum
    rw [List.map_map]
    exact mapIdx_sum _ _ (lvN S keep) _ fun k p hp => lv_len _ _ (hW.fl _ (hW.left keep p hp).1).1
  have h2 : fsum S.fo ((lvN S keep).map (·.2)) ≤ fsum S.fo L := fsum_sub _ _ _ hp.1 fun f hf => by
    obtain ⟨p, hp2, rfl⟩ := List.mem_map.1 hf
    exact hp.2 p hp2
  have h3 := hW.tk
  omega
theorem crash_rows (keep : Int) (cs : List (Int × Int)) : (crash S keep cs).length = (lvN S keep).length := by
  unfold crash crL
  rw [List.length_mapIdx]
theorem lvN_len (hW : WF S N) (keep : Int) : (lvN S keep).length ≤ N + N := by
  have h9 := lvF_len (S.ch.take (lvK S keep)) S.la
  have := hW.n2
  have := hW.n3
  rw [List.length_take] at h9
  show (lvF _ _).length ≤ _
  omega
theorem files_ri (hnm : rising S.nm) : (files S).Pairwise fun x y => bytesBefore x.1 y.1 = true := by
  unfold files
  exact List.pairwise_map.2 hnm
/-- a crash that leaves all -/
theorem crash_all (hW : WF S N) (hG : WG S) (hN : N ≤ 400000000) : crash S 1099511627776 (List.replicate (files S).length (4194304, 0)) = files S := by
  have hk : lvN S 1099511627776 = S.nm := by
    have h1 : lvK S 1099511627776 = S.ch.length := by
      have := hW.n3
      unfold lvK wth
      omega
    unfold lvN
    rw [h1, List.take_of_length_le (Nat.le_refl _), hG.nmE]
  have hfl : (files S).length = S.nm.length := by unfold files; rw [List.length_map]
  unfold crash crL
  rw [hk]
  refine List.ext_getElem (by rw [List.length_mapIdx, hfl]) fun i h1 h2 => ?_
  have hi : i < (files S).length := h2
  have hi2 : i < S.nm.length := by omega
  have hat : (files S)[i]'hi = ((S.nm[i]'hi2).1, (S.fo (S.nm[i]'hi2).2).data) := by simp [files]
  have e : (List.replicate (files S).length ((4194304, 0) : Int × Int)).getD i (0, 0) = (4194304, 0) := by
    rw [List.getD_eq_getElem?_getD, List.getElem?_replicate, if_pos hi]
    rfl
  have hf := hW.fl _ (hW.ids _ (List.getElem_mem hi2))
  rw [List.getElem_mapIdx, hat, e, lv_all _ _ _ hf.1 (by have := hf.2; omega)]
end
end Dk
end Go.Proofs.Ytjepeeopjjnglab

/-
  DiskLeaves: the walk.
-/
namespace Go.Proofs.Ytjepeeopjjnglab
open Go Go.RowKit Go.ChangeShapes
open Wb

namespace Dk
theorem do_quota (S : DS) (o : Rop) (f : Nat) : (doS S o f).quota = S.quota := by
  unfold doS crt app syn tru ren rem sd mk
  repeat' split
  all_goals first | rfl | exact (cnt_same S).1
theorem arm_quota (S : DS) (n : Int) : (arm S n).quota = S.quota := by
  unfold arm
  split <;> rfl
theorem wg4 (q : Int) (f : Nat) (hq : 16 ≤ q ∧ q ≤ 4194304) : WG (rdy q f) := by
  rw [← (z5 q f).2, ← (z4 q f).2, ← (z2 q f hq.1).2, ← (z1 q f).2]
  exact ((((WG.new q).crt Z f (by simp [new])).app Z [7]).syn Z).sd
end Dk
end Go.Proofs.Ytjepeeopjjnglab
