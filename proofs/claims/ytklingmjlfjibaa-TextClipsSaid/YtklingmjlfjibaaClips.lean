/-
  TextClips: the law's walk.
-/
import Derived.Test.YtklingmjlfjibaaTxB
namespace Go.Proofs.Ytklingmjlfjibaa
open Go Go.RowKit
open Tx

theorem clip_ab : clip ⟨#[97, 98]⟩ 1 = ⟨#[97]⟩ := by decide +kernel
theorem clip_size (s : ByteArray) (n : Int) : (clip s n).size = offs s n.toNat 0 := size_cut s 0 _ (offs_le s _ 0 (Nat.zero_le _)).2
theorem part_part (s : ByteArray) (a b : Nat) (h : a ≤ b) : (s.extract 0 b).extract 0 a = s.extract 0 a := by
  rw [ByteArray.extract_extract]
  congr 1 <;> omega

/-- all that the law asks of clips -/
theorem clips_facts (s : ByteArray) (i j : Int) (h : i ≤ j) :
    (clip s i).size ≤ (clip s j).size ∧ (clip s j).size ≤ s.size ∧ s.extract 0 (clip s j).size = clip s j ∧ (clip s j).extract 0 (clip s i).size = clip s i ∧
    clip (clip s j) i = clip s i ∧ clip s (s.size : Int) = s ∧ (vld s 0 = -1 → vld (clip s i) 0 = -1 ∧ vld (s.extract (clip s i).size s.size) 0 = -1) := by
  have h1 := offs_le s j.toNat 0 (Nat.zero_le _)
  have h2 := offs_le s i.toNat 0 (Nat.zero_le _)
  have h3 := offs_mono s i.toNat j.toNat 0 (by omega) (Nat.zero_le _)
  rw [clip_size, clip_size]
  refine ⟨h3, h1.2, rfl, part_part s _ _ h3, ?_, ?_, fun hv => ⟨vld_take s _ 0 (Nat.zero_le _) hv, ?_⟩⟩
  · unfold clip
    rw [offs_part s _ _ 0 (by omega) (Nat.zero_le _)]
    exact part_part s _ _ h3
  · unfold clip
    rw [offs_far s _ 0 (Nat.zero_le _) (by omega), ByteArray.extract_zero_size]
  · exact vld_drop s _ h2.2 s.size 0 (by omega) (vld_offs s _ 0 hv)

set_option maxRecDepth 100000 in
set_option maxHeartbeats 1000000 in
theorem clips_any (s : ByteArray) (n m : Int) (w : World) (hn : n < 9223372036854775808) (hm : m < 9223372036854775808) :
    Calls Try.prog 3 #[.string s, .int .i64 n, .int .i64 m] w fun e w' => e = .returned (.bool true) ∧ Below w.heap.size w w' := by
  go_enter Try.func3, Try.ntmps3
  go_wp2_with fail
  refine (cut_any s _).mono ?_
  rintro e w1 ⟨rfl, rfl⟩
  have hS := cutT_le s
  generalize cutT s = S at *
  go_wp2_with fail
  refine (clip_any _ 1 _ (by decide)).mono ?_
  rw [clip_ab]
  rintro e w1 ⟨rfl, b1⟩
  go_wp2_with fail
  refine (clip_any _ n _ hn).mono ?_
  rintro e w2 ⟨rfl, b2⟩
  have b2' := andThen b1 b2
  clear b1 b2
  go_wp2_with fail
  refine (clip_any _ m _ hm).mono ?_
  rintro e w3 ⟨rfl, b3⟩
  have b3' := andThen b2' b3
  clear b2' b3
  by_cases h : m < n
  · obtain ⟨f1, f2, f3, f4, f5, f6, f7⟩ := clips_facts S m n (by omega)
    have hmin : min n m = m := by omega
    generalize clip S m = a at *
    generalize clip S n = b at *
    have F5 : Hid (clip b m = a) := f5
    have F6 : Hid (clip S (S.size : Int) = S) := f6
    have F7 : Hid (vld S 0 = -1 → vld a 0 = -1 ∧ vld (S.extract a.size S.size) 0 = -1) := f7
    clear f5 f6 f7
    go_wp2_with fail
    refine (clip_any _ m _ hm).mono ?_
    rw [F5.out]
    rintro e w4 ⟨rfl, b4⟩
    have b4' := andThen b3' b4
    clear b3' b4
    go_wp2_with fail
    refine (clip_any _ _ _ (by omega)).mono ?_
    rw [F6.out]
    rintro e w5 ⟨rfl, b5⟩
    have b5' := andThen b4' b5
    clear b4' b5
    go_wp2_with fail
    refine (valid_any _ _).mono ?_
    rintro e w6 ⟨rfl, b6⟩
    have b6' := andThen b5' b6
    clear b5' b6
    by_cases hv : vld S 0 = -1
    · obtain ⟨v1, v2⟩ := F7.out hv
      have V1 : Hid (vld a 0 = -1) := v1
      have V2 : Hid (vld (S.extract a.size S.size) 0 = -1) := v2
      have f8 : a.size ≤ S.size := by omega
      clear v1 v2
      go_wp2_with fail
      refine (valid_any _ _).mono ?_
      rw [V1.out]
      rintro e w7 ⟨rfl, b7⟩
      have b7' := andThen b6' b7
      clear b6' b7
      go_wp2_with fail
      refine (valid_any _ _).mono ?_
      rw [V2.out]
      rintro e w8 ⟨rfl, b8⟩
      have b8' := andThen b7' b8
      clear b7' b8
      go_wp2
      go_ret
      exact ⟨rfl, b8'⟩
    · go_wp2
      go_ret
      exact ⟨rfl, b6'⟩
  · obtain ⟨f1, f2, f3, f4, f5, f6, f7⟩ := clips_facts S n m (by omega)
    have hmin : min n m = n := by omega
    generalize clip S n = a at *
    generalize clip S m = b at *
    have F5 : Hid (clip b n = a) := f5
    have F6 : Hid (clip S (S.size : Int) = S) := f6
    have F7 : Hid (vld S 0 = -1 → vld a 0 = -1 ∧ vld (S.extract a.size S.size) 0 = -1) := f7
    clear f5 f6 f7
    go_wp2_with fail
    refine (clip_any _ n _ hn).mono ?_
    rw [F5.out]
    rintro e w4 ⟨rfl, b4⟩
    have b4' := andThen b3' b4
    clear b3' b4
    go_wp2_with fail
    refine (clip_any _ _ _ (by omega)).mono ?_
    rw [F6.out]
    rintro e w5 ⟨rfl, b5⟩
    have b5' := andThen b4' b5
    clear b4' b5
    go_wp2_with fail
    refine (valid_any _ _).mono ?_
    rintro e w6 ⟨rfl, b6⟩
    have b6' := andThen b5' b6
    clear b5' b6
    by_cases hv : vld S 0 = -1
    · obtain ⟨v1, v2⟩ := F7.out hv
      have V1 : Hid (vld a 0 = -1) := v1
      have V2 : Hid (vld (S.extract a.size S.size) 0 = -1) := v2
      have f8 : a.size ≤ S.size := by omega
      clear v1 v2
      go_wp2_with fail
      refine (valid_any _ _).mono ?_
      rw [V1.out]
      rintro e w7 ⟨rfl, b7⟩
      have b7' := andThen b6' b7
      clear b6' b7
      go_wp2_with fail
      refine (valid_any _ _).mono ?_
      rw [V2.out]
      rintro e w8 ⟨rfl, b8⟩
      have b8' := andThen b7' b8
      clear b7' b8
      go_wp2
      go_ret
      exact ⟨rfl, b8'⟩
    · go_wp2
      go_ret
      exact ⟨rfl, b6'⟩
end Go.Proofs.Ytklingmjlfjibaa
