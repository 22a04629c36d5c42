/-
  DiskArmed, pure: what a disk that is down answers; the ids of two disks.
-/
import Derived.Test.YtjepeeopjjnglaaDkx
namespace Go.Proofs.Ytjepeeopjjnglaa
open Go Go.RowKit Go.ChangeShapes
namespace Dk
section
variable {φ : Nat → Nat} {S T : DS} {N : Nat}
theorem down_ask (h : T.down = true) (ls : List (List UInt8)) : askE T ls = 60 := by
  unfold askE
  rw [if_pos h]
theorem down_find (h : T.down = true) (s : List UInt8) : (findE T s).1 = 60 := by
  unfold findE
  rw [down_ask h, if_neg (by omega)]
theorem down_free (h : T.down = true) : free T = 0 := by
  unfold free
  rw [if_pos h]
theorem down_list (h : T.down = true) : lst T = [] := by
  unfold lst
  rw [if_pos h]
theorem down_sd (h : T.down = true) : sdE T = 60 ∧ sd T = T := by
  unfold sdE sd
  rw [down_ask h]
  exact ⟨by rw [if_neg (by omega)], by rw [if_neg (by omega)]⟩
theorem down_arm (h : T.down = true) (n : Int) : arm T n = T := by
  unfold arm
  rw [if_pos h]
theorem cnt_stop (ha : T.armed = true) (hl : T.left = 0) : (cnt T).1 = 60 ∧ (cnt T).2.down = true := by
  unfold cnt
  rw [if_neg (by rw [ha]; simp), if_pos hl]
  exact ⟨rfl, rfl⟩
theorem cnt_go (h : T.armed = true → T.left ≠ 0) : (cnt T).1 = 0 := by
  unfold cnt
  split
  · rfl
  · rename_i ha
    rw [if_neg (h (by simpa using ha))]
/-- which files there are behind an operation -/
theorem do_ids (hc : (cnt S).1 = 0) (o : Rop) (f : Nat) : (doS S o f).ids = if o.k = 1 ∧ askE S [o.a.data.toList] = 0 ∧ (get S.nm o.a.data.toList).isSome = false then S.ids ++ [f] else S.ids := by
  have e := (cnt_same S).2.2.2.2.2.1
  unfold doS
  split
  · rename_i hk
    unfold crt
    by_cases h1 : askE S [o.a.data.toList] = 0 ∧ (get S.nm o.a.data.toList).isSome = false
    · rw [if_pos h1, if_pos hc, if_pos ⟨hk, h1⟩]
      show (cnt S).2.ids ++ [f] = _
      rw [e]
    · rw [if_neg h1, if_neg fun x => h1 x.2]
  · rename_i hk
    have hn : ¬ (o.k = 1 ∧ askE S [o.a.data.toList] = 0 ∧ (get S.nm o.a.data.toList).isSome = false) := fun x => hk x.1
    generalize hR : (if o.k = 1 ∧ askE S [o.a.data.toList] = 0 ∧ (get S.nm o.a.data.toList).isSome = false then S.ids ++ [f] else S.ids) = R
    rw [if_neg hn] at hR
    subst hR
    unfold app syn tru ren rem sd
    repeat' split
    all_goals first | rfl | exact e
theorem Iso.range (h : Iso φ S T) (hd : T.down = S.down) (ha : S.armed = false) (hc : (Dk.cnt T).1 = 0) (hr : ∀ k ∈ S.ids, φ k ∈ T.ids) (o : Rop) (f : Nat) : ∀ k ∈ (doS S o f).ids, φ k ∈ (doS T o (φ f)).ids := by
  have h1 : askE T [o.a.data.toList] = askE S [o.a.data.toList] := by unfold askE; rw [hd]
  have h2 : (get T.nm o.a.data.toList).isSome = (get S.nm o.a.data.toList).isSome := by rw [h.nm, get_mp, Option.isSome_map]
  rw [do_ids (by rw [cnt_un ha]) o f, do_ids hc o (φ f), h1, h2]
  split
  · intro k hk
    rcases List.mem_append.1 hk with e | e
    · exact List.mem_append_left _ (hr k e)
    · rw [List.mem_singleton.1 e]
      simp
  · exact hr
end
end Dk
end Go.Proofs.Ytjepeeopjjnglaa
