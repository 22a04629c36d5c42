/-
  PLAIN MATHEMATICS OF FRAMES: a frame is read again; a torn one is not.
-/
import Derived.Test.YtfccimacloagiaaDoorWalk7
namespace Go.Proofs.YtfccimacloagiaaDoor
open Wb

theorem le4_sum (s : Nat) (h : s < 4294967296) (r : List Nat) : sum4 (le4 s ++ r) = s := by
  simp [sum4, le4]
  omega
theorem uint_okW (v : Nat) : ok (Wn.uint v) := Wn.uint_ok v v (Nat.le_refl _)
theorem fr_ok {body : List Nat} (h : ok body) : ok (fr body) := by
  unfold fr
  exact ok_append (ok_append (ok_append (uint_okW _) h) (le4_ok _)) (ok_one (by decide))
theorem fr_length (body : List Nat) : (fr body).length = (Wn.uint body.length).length + body.length + 5 := by
  unfold fr
  simp [le4]
  omega
/-- a frame at a place is read -/
theorem rf_fr (ahead body behind : List Nat) (hb : ok body) (h0 : 0 < body.length) (h1 : body.length ≤ 1048576) :
    rf (ahead ++ fr body ++ behind) (ahead.length : Int) = (body, ((ahead.length + (fr body).length : Nat) : Int), 0) := by
  have hd : (ahead ++ fr body ++ behind).drop ahead.length = Wn.uint body.length ++ (body ++ le4 (Wm.crc (Wn.uint body.length ++ body)) ++ [165] ++ behind) := by
    simp [fr]
  have hr := Wn.rd_uint0 body.length (body ++ le4 (Wm.crc (Wn.uint body.length ++ body)) ++ [165] ++ behind) (by omega)
  have hlen : (ahead ++ fr body ++ behind).length = ahead.length + (fr body).length + behind.length := by simp; omega
  have hfl := fr_length body
  have hu := Wn.ru_in (ahead ++ fr body ++ behind) ahead.length (by omega) body.length (Wn.uint body.length).length 0 (by rw [hd]; exact hr)
  rw [rf_at _ _ _ _ (by simpa using hu)]
  generalize hU : Wn.uint body.length = U at *
  have hgood : ok (U ++ body) := by rw [← hU]; exact ok_append (uint_okW _) hb
  generalize hS : Wm.crc (U ++ body) = s at *
  have hs : s < 4294967296 := by rw [← hS]; exact Wm.crc_lt _ hgood
  have e0 : ahead ++ fr body ++ behind = ahead ++ (U ++ (body ++ (le4 s ++ ([165] ++ behind)))) := by simp [fr, hU, hS]
  have ht : (ahead ++ fr body ++ behind).take (ahead.length + U.length + body.length) = ahead ++ (U ++ body) := by
    rw [e0, show ahead.length + U.length + body.length = (ahead ++ (U ++ body)).length by simp; omega, show ahead ++ (U ++ (body ++ (le4 s ++ ([165] ++ behind)))) = (ahead ++ (U ++ body)) ++ (le4 s ++ ([165] ++ behind)) by simp, List.take_left]
  have hdr : (ahead ++ fr body ++ behind).drop (ahead.length + U.length + body.length) = le4 s ++ ([165] ++ behind) := by
    rw [e0, show ahead.length + U.length + body.length = (ahead ++ (U ++ body)).length by simp; omega, show ahead ++ (U ++ (body ++ (le4 s ++ ([165] ++ behind)))) = (ahead ++ (U ++ body)) ++ (le4 s ++ ([165] ++ behind)) by simp, List.drop_left]
  have h165 : (ahead ++ fr body ++ behind).getD (ahead.length + U.length + body.length + 4) 0 = 165 := by
    have : (ahead ++ fr body ++ behind)[ahead.length + U.length + body.length + 4]? = ((ahead ++ fr body ++ behind).drop (ahead.length + U.length + body.length))[4]? := by rw [List.getElem?_drop]
    rw [List.getD_eq_getElem?_getD, this, hdr]
    simp [le4]
  unfold rfAt
  rw [if_neg (by omega), if_neg (by omega), if_neg (by omega), h165, if_neg (by simp), hdr, le4_sum s hs, ht, List.drop_left, hS, if_neg (by simp)]
  have hbody : (ahead ++ (U ++ body)).drop (ahead.length + U.length) = body := by
    rw [show ahead ++ (U ++ body) = (ahead ++ U) ++ body by simp, show ahead.length + U.length = (ahead ++ U).length by simp, List.drop_left]
  rw [hbody]
  simp
  omega

theorem rfAt_bad (l : List Nat) (p q n : Nat) (h : (rfAt l p q n).2.2 ≠ 0) : (rfAt l p q n).1 = [] ∧ (rfAt l p q n).2.1 = 0 := by
  unfold rfAt at h ⊢
  by_cases h1 : n = 0
  · rw [if_pos h1]; exact ⟨rfl, rfl⟩
  rw [if_neg h1] at h ⊢
  by_cases h2 : 1048576 < n
  · rw [if_pos h2]; exact ⟨rfl, rfl⟩
  rw [if_neg h2] at h ⊢
  by_cases h3 : l.length < q + n + 5
  · rw [if_pos h3]; exact ⟨rfl, rfl⟩
  rw [if_neg h3] at h ⊢
  by_cases h4 : l.getD (q + n + 4) 0 ≠ 165
  · rw [if_pos h4]; exact ⟨rfl, rfl⟩
  rw [if_neg h4] at h ⊢
  by_cases h5 : sum4 (l.drop (q + n)) ≠ Wm.crc ((l.take (q + n)).drop p)
  · rw [if_pos h5]; exact ⟨rfl, rfl⟩
  rw [if_neg h5] at h
  exact absurd rfl h
theorem rfAt_le (l : List Nat) (p q n : Nat) : (rfAt l p q n).2.2 ≤ 16 := by
  unfold rfAt
  by_cases h1 : n = 0
  · rw [if_pos h1]; decide
  rw [if_neg h1]
  by_cases h2 : 1048576 < n
  · rw [if_pos h2]; decide
  rw [if_neg h2]
  by_cases h3 : l.length < q + n + 5
  · rw [if_pos h3]; decide
  rw [if_neg h3]
  by_cases h4 : l.getD (q + n + 4) 0 ≠ 165
  · rw [if_pos h4]; decide
  rw [if_neg h4]
  by_cases h5 : sum4 (l.drop (q + n)) ≠ Wm.crc ((l.take (q + n)).drop p)
  · rw [if_pos h5]; exact Nat.le_refl _
  rw [if_neg h5]
  exact Nat.zero_le _
theorem rf_bad (l : List Nat) (p : Int) (h : (rf l p).2.2 ≠ 0) : rf l p = ([], 0, (rf l p).2.2) := by
  rcases Wn.ru_cases l p with ⟨e, he, _, hr⟩ | ⟨q, v, n, rfl, _, _, _, hr⟩
  · rw [rf_err l p e he hr]
  · rw [rf_at l q v n hr] at h ⊢
    obtain ⟨h1, h2⟩ := rfAt_bad _ _ _ _ h
    exact Prod.ext h1 (Prod.ext h2 rfl)
theorem rf_le (l : List Nat) (p : Int) : (rf l p).2.2 ≤ 16 := by
  rcases Wn.ru_cases l p with ⟨e, he, he2, hr⟩ | ⟨q, v, n, rfl, _, _, _, hr⟩
  · rw [rf_err l p e he hr]
    show e ≤ 16
    omega
  · rw [rf_at l q v n hr]
    exact rfAt_le _ _ _ _

/-- a torn number -/
theorem rd_torn : ∀ (f v k z i acc : Nat), v ≤ f → k < (Wn.uint v).length → (0 < i ∨ 0 < k ∨ z = 0) → ∃ e, e ≠ 0 ∧ Wn.rd ((Wn.uint v).take k ++ List.replicate z 0) i acc = (0, 0, e) := by
  intro f
  induction f with
  | zero =>
    intro v k z i acc hv hk hor
    obtain rfl : v = 0 := by omega
    rw [Wn.uint_small 0 (by decide)] at hk ⊢
    obtain rfl : k = 0 := by simpa using hk
    rw [List.take_zero, List.nil_append]
    cases z with
    | zero => exact ⟨10, by decide, rfl⟩
    | succ z =>
      rw [List.replicate_succ]
      exact ⟨11, by decide, Wn.rd_min _ _ _ _ rfl (by omega)⟩
  | succ f ih =>
    intro v k z i acc hv hk hor
    cases k with
    | zero =>
      rw [List.take_zero, List.nil_append]
      cases z with
      | zero => exact ⟨10, by decide, rfl⟩
      | succ z =>
        rw [List.replicate_succ]
        exact ⟨11, by decide, Wn.rd_min _ _ _ _ rfl (by omega)⟩
    | succ k =>
      by_cases hs : v < 128
      · rw [Wn.uint_small v hs] at hk
        simp at hk
      · rw [Wn.uint_big v (by omega)] at hk ⊢
        rw [List.take_succ_cons, List.cons_append]
        by_cases h9 : i = 9 ∧ 1 < 128 + v % 128
        · exact ⟨12, by decide, Wn.rd_wide _ _ _ _ h9⟩
        · rw [Wn.rd_more _ _ _ _ h9 (by omega)]
          exact ih (v / 128) k z (i + 1) _ (by omega) (by simpa using hk) (.inl (by omega))

theorem rf_torn (body : List Nat) (k z : Nat) (h0 : 0 < body.length) (h1 : body.length ≤ 1048576) (hk : k < (fr body).length) : (rf ((fr body).take k ++ List.replicate z 0) 0).2.2 ≠ 0 := by
  have hfl := fr_length body
  have efr : fr body = Wn.uint body.length ++ (body ++ (le4 (Wm.crc (Wn.uint body.length ++ body)) ++ [165])) := by simp [fr]
  by_cases hku : k < (Wn.uint body.length).length
  · have et : (fr body).take k = (Wn.uint body.length).take k := by rw [efr, List.take_append_of_le_length (by omega)]
    rw [et]
    by_cases hor : 0 < k ∨ z = 0
    · obtain ⟨e, he, hr⟩ := rd_torn body.length body.length k z 0 0 (Nat.le_refl _) hku (.inr hor)
      have hu := Wn.ru_in ((Wn.uint body.length).take k ++ List.replicate z 0) 0 (Nat.zero_le _) 0 0 e (by rw [List.drop_zero]; exact hr)
      rw [if_neg he] at hu
      rw [show (0 : Int) = ((0 : Nat) : Int) from rfl, rf_err _ _ e he hu]
      exact he
    · obtain rfl : k = 0 := by omega
      obtain ⟨z', rfl⟩ : ∃ z', z = z' + 1 := ⟨z - 1, by omega⟩
      rw [List.take_zero, List.nil_append]
      have hr : Wn.rd (List.replicate (z' + 1) 0) 0 0 = (0, 1, 0) := by
        rw [List.replicate_succ, Wn.rd_last _ _ _ _ (by omega) (by decide) (by omega)]
      have hu := Wn.ru_in (List.replicate (z' + 1) 0) 0 (Nat.zero_le _) 0 1 0 (by rw [List.drop_zero]; exact hr)
      rw [show (0 : Int) = ((0 : Nat) : Int) from rfl, rf_at _ 0 0 1 (by simpa using hu)]
      unfold rfAt
      rw [if_pos rfl]
      decide
  · obtain ⟨j, rfl⟩ : ∃ j, k = (Wn.uint body.length).length + j := ⟨k - (Wn.uint body.length).length, by omega⟩
    have et : (fr body).take ((Wn.uint body.length).length + j) = Wn.uint body.length ++ (body ++ (le4 (Wm.crc (Wn.uint body.length ++ body)) ++ [165])).take j := by
      rw [efr, List.take_append, List.take_of_length_le (by omega), Nat.add_sub_cancel_left]
    have hr := Wn.rd_uint0 body.length ((body ++ (le4 (Wm.crc (Wn.uint body.length ++ body)) ++ [165])).take j ++ List.replicate z 0) (by omega)
    rw [← List.append_assoc, ← et] at hr
    have hu := Wn.ru_in ((fr body).take ((Wn.uint body.length).length + j) ++ List.replicate z 0) 0 (Nat.zero_le _) _ _ 0 (by rw [List.drop_zero]; exact hr)
    rw [show (0 : Int) = ((0 : Nat) : Int) from rfl, rf_at _ 0 _ _ (by simpa using hu)]
    rw [Nat.zero_add]
    unfold rfAt
    rw [if_neg (by omega), if_neg (by omega)]
    by_cases h3 : ((fr body).take ((Wn.uint body.length).length + j) ++ List.replicate z 0).length < (Wn.uint body.length).length + body.length + 5
    · rw [if_pos h3]; decide
    · rw [if_neg h3]
      have hz : ((fr body).take ((Wn.uint body.length).length + j) ++ List.replicate z 0).getD ((Wn.uint body.length).length + body.length + 4) 0 = 0 := by
        rw [List.getD_eq_getElem?_getD, List.getElem?_append_right (by simp; omega), List.getElem?_replicate]
        split <;> rfl
      rw [hz, if_pos (by decide)]
      decide
end Go.Proofs.YtfccimacloagiaaDoor
