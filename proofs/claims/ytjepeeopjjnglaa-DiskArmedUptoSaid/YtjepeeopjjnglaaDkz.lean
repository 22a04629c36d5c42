/-
  DiskArmed, pure: one operation on both disks.
-/
import Derived.Test.YtjepeeopjjnglaaDky
import Derived.Test.YtjepeeopjjnglaaDkv
namespace Go.Proofs.Ytjepeeopjjnglaa
open Go Go.RowKit Go.ChangeShapes
namespace Dk
section
variable {φ : Nat → Nat} {S T : DS} {N : Nat}
/-- an operation that is done counts, and leaves all else of the arming as it was -/
theorem do_flags (o : Rop) (f : Nat) (he : doE T o = 0) : (doS T o f).down = (cnt T).2.down ∧ (doS T o f).armed = (cnt T).2.armed ∧ (doS T o f).left = (cnt T).2.left := by
  unfold doE at he
  unfold doS
  split
  · rename_i hk
    rw [if_pos hk] at he
    unfold crtE at he
    unfold crt
    split at he
    · rename_i h1
      split at he
      · cases he
      · rename_i h2
        rw [if_pos ⟨h1, by simpa using h2⟩, if_pos he]
        exact ⟨rfl, rfl, rfl⟩
    · rename_i h1
      exact absurd he h1
  rename_i hk1
  rw [if_neg hk1] at he
  split
  · rename_i hk
    rw [if_pos hk] at he
    unfold appE at he
    unfold app
    split at he
    · rename_i h1
      split at he
      · cases he
      · rename_i h2
        rw [if_pos ⟨h1, h2⟩, if_pos he]
        exact ⟨rfl, rfl, rfl⟩
    · rename_i h1
      exact absurd he h1
  rename_i hk2
  rw [if_neg hk2] at he
  split
  · rename_i hk
    rw [if_pos hk] at he
    unfold synE at he
    unfold syn
    split at he
    · rename_i h1
      rw [if_pos h1, if_pos he]
      exact ⟨rfl, rfl, rfl⟩
    · rename_i h1
      exact absurd he h1
  rename_i hk3
  rw [if_neg hk3] at he
  split
  · rename_i hk
    rw [if_pos hk] at he
    unfold truE at he
    unfold tru
    split at he
    · rename_i h1
      split at he
      · cases he
      · rename_i h2
        rw [if_pos ⟨h1, by simpa using h2⟩, if_pos he]
        exact ⟨rfl, rfl, rfl⟩
    · rename_i h1
      exact absurd he h1
  rename_i hk4
  rw [if_neg hk4] at he
  split
  · rename_i hk
    rw [if_pos hk] at he
    unfold renE synE at he
    unfold ren
    split at he
    · rename_i h1
      split at he
      · rename_i h2
        rw [if_pos ⟨h1, h2⟩, if_pos he]
        exact ⟨rfl, rfl, rfl⟩
      · rename_i h2
        exact absurd he h2
    · rename_i h1
      exact absurd he h1
  rename_i hk5
  rw [if_neg hk5] at he
  split
  · rename_i hk
    rw [if_pos hk] at he
    unfold synE at he
    unfold rem
    split at he
    · rename_i h1
      rw [if_pos h1, if_pos he]
      exact ⟨rfl, rfl, rfl⟩
    · rename_i h1
      exact absurd he h1
  · rename_i hk6
    rw [if_neg hk6] at he
    unfold sdE at he
    unfold sd
    split at he
    · rename_i h1
      rw [if_pos h1, if_pos he]
      exact ⟨rfl, rfl, rfl⟩
    · rename_i h1
      exact absurd he h1
theorem do_down (ha : S.armed = false) (o : Rop) (f : Nat) : (doS S o f).down = S.down := by
  by_cases he : doE S o = 0
  · rw [(do_flags o f he).1, cnt_un ha]
  · rw [do_ref ha o f he]
/-- the same operation on both, where the armed one is not stopped -/
theorem Iso.step (h : Iso φ S T) (hd : T.down = S.down) (ha : S.armed = false) (hW : WF S N) (hr : ∀ k ∈ S.ids, φ k ∈ T.ids) (o : Rop) (f f' : Nat) (hf : f ∉ S.ids) (hf' : f' ∉ T.ids) (hgo : Dk.doE S o ≠ 0 ∨ (Dk.cnt T).1 = 0) : Dk.doE T o = Dk.doE S o ∧ (∃ φ' : Nat → Nat, Iso φ' (doS S o f) (doS T o f') ∧ ∀ k ∈ (doS S o f).ids, φ' k ∈ (doS T o f').ids) ∧ (doS T o f').down = T.down ∧ (doS T o f').armed = T.armed ∧ (doS T o f').left = if Dk.doE S o = 0 ∧ T.armed = true then T.left - 1 else T.left := by
  have e0 := h.doE hd ha hW o
  by_cases he : Dk.doE S o = 0
  · have hc : (Dk.cnt T).1 = 0 := by
      rcases hgo with h1 | h1
      · exact absurd he h1
      · exact h1
    rw [if_pos he, hc] at e0
    obtain ⟨a1, a2, a3⟩ := do_flags o f' e0
    obtain ⟨c1, c2, c3⟩ := cnt_left hc
    obtain ⟨φ2, ef, hφ⟩ : ∃ φ2 : Nat → Nat, φ2 f = f' ∧ ∀ k ∈ S.ids, φ2 k = φ k := ⟨fun k => if k = f then f' else φ k, if_pos rfl, fun k hk => if_neg fun e => hf (by rw [← e]; exact hk)⟩
    have h2 := h.congr hW hφ
    have hr2 : ∀ k ∈ S.ids, φ2 k ∈ T.ids := fun k hk => by
      rw [hφ k hk]
      exact hr k hk
    have h3 := h2.do hd ha hc hW o f (fun k hk e => hf' (by rw [ef] at e; rw [← e]; exact hr2 k hk)) hf
    have h4 := h2.range hd ha hc hr2 o f
    rw [ef] at h3 h4
    refine ⟨e0.trans he.symm, ⟨_, h3, h4⟩, a1.trans c1, a2.trans c2, ?_⟩
    rw [a3, c3]
    by_cases hT : T.armed = true
    · rw [if_pos hT, if_pos ⟨he, hT⟩]
    · rw [if_neg hT, if_neg fun e => hT e.2]
  · rw [if_neg he] at e0
    have h1 := do_ref ha o f he
    have h2 := (h.stop hd ha hW o f').1 he
    rw [h1, h2]
    exact ⟨e0, ⟨φ, h, hr⟩, rfl, rfl, by rw [if_neg fun e => he e.1]⟩
/-- the operation at which the armed one is stopped -/
theorem Iso.ends (h : Iso φ S T) (hd : T.down = S.down) (ha : S.armed = false) (hW : WF S N) (o : Rop) (f' : Nat) (he : Dk.doE S o = 0) (hT : T.armed = true) (hl : T.left = 0) : Dk.doE T o = 60 ∧ (doS T o f').down = true ∧ Iso φ S (doS T o f') := by
  obtain ⟨c1, c2⟩ := cnt_stop hT hl
  have e0 := h.doE hd ha hW o
  rw [if_pos he, c1] at e0
  have h2 := (h.stop hd ha hW o f').2 he (by rw [c1]; omega)
  rw [h2]
  exact ⟨e0, c2, h.cnt⟩
theorem iso0 (q : Int) (f f2 : Nat) (n : Int) : Iso (fun _ => f2) (rdy q f) (arm (rdy q f2) n) := by
  refine ⟨rfl, rfl, rfl, rfl, rfl, fun k hk => ?_, fun k hk g hg _ => ?_, fun c hc => by cases hc⟩
  · have e : k = f := List.mem_singleton.1 hk
    show fo0 f2 ⟨[7], 1⟩ f2 = fo0 f ⟨[7], 1⟩ k
    unfold fo0
    rw [e, upd_same, upd_same]
  · rw [List.mem_singleton.1 hk, List.mem_singleton.1 hg]
end
end Dk
end Go.Proofs.Ytjepeeopjjnglaa
