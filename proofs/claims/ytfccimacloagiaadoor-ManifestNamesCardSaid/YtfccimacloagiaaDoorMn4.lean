/-
  ManifestNames: the law.
-/
import Derived.Test.YtfccimacloagiaaDoorMn3
namespace Go.Proofs.YtfccimacloagiaaDoor
open Go Go.RowKit

theorem lname (n : Int) : (⟨(nmL n).toArray⟩ : ByteArray).size ≤ 281474976710656 := by
  show (nmL n).toArray.size ≤ _
  rw [List.size_toArray]
  rcases nm_cases n with ⟨u, h1, h2, rfl⟩ | h
  · rw [nm_in u h1 h2]
    have := decDigits_short 13 u (by omega)
    simp only [List.length_cons]
    omega
  · rw [h]; simp
theorem nm7 : nmL 7 = [115, 55] := by decide +kernel
set_option maxRecDepth 100000 in
set_option maxHeartbeats 1000000 in
theorem manifestNames_any (num : Int) (s : ByteArray) (hs : s.size ≤ 281474976710656) (w : World) (hT : NTab w) :
    Calls Tryd.prog 6 #[.int .i64 num, .string s] w fun e w' => e = .returned (.bool true) ∧ Below w.heap.size w w' := by
  obtain ⟨a, b, hab⟩ : ∃ a b, mNum s.data.toList = (a, b) := ⟨_, _, rfl⟩
  have HT : Hid (∀ w', Below w.heap.size w w' → NTab w') := fun w' hb => hT.kept hb
  have H1 : Hid (Calls Tryd.prog 22 #[.string s] w fun e w' => e = .returned (.tuple #[.int .i64 a, .bool b]) ∧ Below w.heap.size w w') := by
    have h := num_any s hs w hT
    rw [hab] at h
    exact h
  have H2 : Hid (∀ w', Calls Tryd.prog 23 #[.string s] w' fun e w'' => e = .returned (.tuple #[.int .i64 a, .bool b]) ∧ Below w'.heap.size w' w'') := fun w' => by
    have h := r8num_any s hs w'
    rw [← nums_same, hab] at h
    exact h
  have H3 : Hid (∀ w', Below w.heap.size w w' → Calls Tryd.prog 24 #[.int .i64 7] w' fun e w'' => e = .returned (.string ⟨#[115, 55]⟩) ∧ Below w'.heap.size w' w'') := fun w' hb => by
    have h := name_any 7 w' (hT.kept hb)
    rw [nm7] at h
    exact h
  obtain ⟨t, ht⟩ : ∃ t : ByteArray, t = ⟨(nmL num).toArray⟩ := ⟨_, rfl⟩
  have H4 : Hid (∀ w', Below w.heap.size w w' → Calls Tryd.prog 24 #[.int .i64 num] w' fun e w'' => e = .returned (.string t) ∧ Below w'.heap.size w' w'') := fun w' hb => by
    rw [ht]
    exact name_any num w' (hT.kept hb)
  have H6 : Hid (∀ w', Calls Tryd.prog 25 #[.int .i64 num] w' fun e w'' => e = .returned (.string t) ∧ Below w'.heap.size w' w'') := fun w' => by
    rw [ht]
    exact r8name_any num w'
  by_cases h : 1 ≤ num ∧ num ≤ 1099511627776
  · have H5 : Hid (∀ w', Below w.heap.size w w' → Calls Tryd.prog 22 #[.string t] w' fun e w'' => e = .returned (.tuple #[.int .i64 num, .bool true]) ∧ Below w'.heap.size w' w'') := fun w' hb => by
      have h9 := num_any t (by rw [ht]; exact lname num) w' (hT.kept hb)
      rw [ht, show (⟨(nmL num).toArray⟩ : ByteArray).data.toList = nmL num from rfl, num_back, if_pos h] at h9
      rw [ht]
      exact h9
    clear hT hab ht h hs
    go_enter Tryd.func6, Tryd.ntmps6
    go_wp2_with fail
    refine H1.out.mono ?_
    rintro e w1 ⟨rfl, b1⟩
    go_wp2_with fail
    refine (H2.out _).mono ?_
    rintro e w2 ⟨rfl, b2⟩
    have B2 := andThenM b1 b2
    clear b1 b2
    go_wp2_with fail
    refine (H3.out _ B2).mono ?_
    rintro e w3 ⟨rfl, b3⟩
    have B3 := andThenM B2 b3
    clear b3 B2
    go_wp2_with fail
    refine (H4.out _ B3).mono ?_
    rintro e w4 ⟨rfl, b4⟩
    have B4 := andThenM B3 b4
    clear b4 B3
    go_wp2_with fail
    refine (H5.out _ B4).mono ?_
    rintro e w5 ⟨rfl, b5⟩
    have B5 := andThenM B4 b5
    clear b5 B4
    go_wp2_with fail
    refine (H6.out _).mono ?_
    rintro e w6 ⟨rfl, b6⟩
    have B6 := andThenM B5 b6
    clear b6 B5
    go_wp2
    go_ret
    exact ⟨rfl, B6⟩
  · have et : t = ⟨#[]⟩ := by rw [ht, nm_out num h]
    have H5 : Hid (∀ w', Below w.heap.size w w' → Calls Tryd.prog 22 #[.string ⟨#[]⟩] w' fun e w'' => e = .returned (.tuple #[.int .i64 0, .bool false]) ∧ Below w'.heap.size w' w'') := fun w' hb => by
      have h9 := num_any ⟨#[]⟩ (by decide) w' (hT.kept hb)
      have h8 := num_back num
      rw [nm_out num h, if_neg h] at h8
      rw [show (⟨#[]⟩ : ByteArray).data.toList = [] from rfl, h8] at h9
      exact h9
    subst et
    clear hT hab ht h hs
    go_enter Tryd.func6, Tryd.ntmps6
    go_wp2_with fail
    refine H1.out.mono ?_
    rintro e w1 ⟨rfl, b1⟩
    go_wp2_with fail
    refine (H2.out _).mono ?_
    rintro e w2 ⟨rfl, b2⟩
    have B2 := andThenM b1 b2
    clear b1 b2
    go_wp2_with fail
    refine (H3.out _ B2).mono ?_
    rintro e w3 ⟨rfl, b3⟩
    have B3 := andThenM B2 b3
    clear b3 B2
    go_wp2_with fail
    refine (H4.out _ B3).mono ?_
    rintro e w4 ⟨rfl, b4⟩
    have B4 := andThenM B3 b4
    clear b4 B3
    go_wp2_with fail
    refine (H5.out _ B4).mono ?_
    rintro e w5 ⟨rfl, b5⟩
    have B5 := andThenM B4 b5
    clear b5 B4
    go_wp2_with fail
    refine (H6.out _).mono ?_
    rintro e w6 ⟨rfl, b6⟩
    have B6 := andThenM B5 b6
    clear b6 B5
    go_wp2
    go_ret
    exact ⟨rfl, B6⟩
end Go.Proofs.YtfccimacloagiaaDoor
