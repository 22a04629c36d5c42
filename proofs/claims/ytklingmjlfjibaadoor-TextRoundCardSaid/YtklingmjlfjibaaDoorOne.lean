/-
  TextOne: the law's walk.
-/
import Derived.Test.YtklingmjlfjibaaDoorUnq
namespace Go.Proofs.YtklingmjlfjibaaDoor
open Go Go.RowKit Go.Lib
open Tx

theorem unq_yes (s : ByteArray) (a : Int) (h : (unq s a).2.2 = 0) : ∃ k e : Nat, a = (k : Int) ∧ (unq s a).2.1 = (e : Int) ∧ k < e ∧ e ≤ s.size ∧ quo (unq s a).1 = s.extract k e ∧ (unq s a).1.size ≤ 4 * s.size := by
  revert h
  unfold unq
  split
  · intro h; cases h
  · rename_i n1
    obtain ⟨k, rfl⟩ := Int.eq_ofNat_of_zero_le (by omega : 0 ≤ a)
    split
    · intro h; cases h
    · rename_i n2
      rw [Int.toNat_natCast] at *
      have hk : k < s.size := by omega
      have hfit := con_fits (s.extract (k + 1) s.size) _ 0 [] 0 (Nat.le_refl _) (by simp) (Nat.zero_le _)
      rw [size_cut s (k + 1) s.size (Nat.le_refl _)] at hfit
      generalize con (s.extract (k + 1) s.size) 0 [] 0 = X at *
      obtain ⟨x1, x2, x3⟩ := X
      dsimp only at *
      split
      · rename_i h3
        intro h
        have h' : (x3 : Int) = 0 := h
        omega
      · rename_i h3
        split
        · intro h; cases h
        · rename_i h4
          intro _
          refine ⟨k, k + 1 + x2, rfl, rfl, by omega, ?_, ?_, ?_⟩
          · have := hfit.2.1
            omega
          · exact Classical.not_not.1 h4
          · have := hfit.1
            show x1.size ≤ _
            omega
theorem unq_no (s : ByteArray) (a : Int) (h : (unq s a).2.2 ≠ 0) : (unq s a).1 = ⟨#[]⟩ ∧ (unq s a).2.1 = 0 := by
  revert h
  unfold unq
  split
  · intro _; exact ⟨rfl, rfl⟩
  · split
    · intro _; exact ⟨rfl, rfl⟩
    · split
      · intro _; exact ⟨rfl, rfl⟩
      · split
        · intro _; exact ⟨rfl, rfl⟩
        · intro h; exact (h rfl).elim
theorem con_a : con ⟨#[97, 34]⟩ 0 [] 0 = (⟨#[97]⟩, 2, 0) := by
  rw [← con_on ⟨#[97, 34]⟩ 0 [] 0 (by decide) (by decide) (by decide +kernel) (by decide +kernel) (by decide +kernel)]
  rw [show 0 + (Utf8.decode ⟨#[97, 34]⟩ 0).2 = 1 by decide +kernel, show [] ++ (Utf8.encode ((Utf8.decode ⟨#[97, 34]⟩ 0).1 : Int)).data.toList = [97] by decide +kernel]
  rw [con_q ⟨#[97, 34]⟩ 1 [97] 0 (by decide) (by decide) (by decide +kernel)]
theorem quo_a : quo ⟨#[97]⟩ = ⟨#[34, 97, 34]⟩ := by
  unfold quo
  rw [qs_in ⟨#[97]⟩ 0 (by decide), qs_out ⟨#[97]⟩ _ (by decide +kernel)]
  rw [show (pcW ⟨#[97]⟩ 0).data.toList = [97] by decide +kernel]
  rfl
theorem unq_a : unq ⟨#[34, 97, 34]⟩ 0 = (⟨#[97]⟩, 3, 0) := by
  unfold unq
  rw [if_neg (by decide), if_neg (by decide +kernel)]
  rw [show (⟨#[34, 97, 34]⟩ : ByteArray).extract ((0 : Int).toNat + 1) (⟨#[34, 97, 34]⟩ : ByteArray).size = ⟨#[97, 34]⟩ by decide +kernel, con_a]
  rw [if_neg (by decide), quo_a, if_neg (by decide +kernel)]
  rfl
set_option maxRecDepth 100000 in
set_option maxHeartbeats 4000000 in
theorem one_any (s : ByteArray) (at_ : Int) (w : World) (hT : TabP 2 .i32 hids w) (hD : w.cell? ⟨6, 15, none⟩ = some (.int .u8 4)) :
    Calls Tryd.prog 6 #[.string s, .int .i64 at_] w fun e w' => e = .returned (.bool true) ∧ Below w.heap.size w w' := by
  have HT : Hid (∀ w', Below w.heap.size w w' → TabP 2 .i32 hids w') := fun w' hb => hT.kept hb
  have HD : Hid (∀ w', Below w.heap.size w w' → w'.cell? ⟨6, 15, none⟩ = some (.int .u8 4)) := fun w' hb => (hb.cell (p := ⟨6, 15, none⟩) (World.block_lt_of_cell? _ _ hD)).trans hD
  clear hT hD
  have hc := cutT_le s
  have HCUT : Hid (∀ w', Calls Tryd.prog 9 #[.string s] w' fun e w'' => e = .returned (.string (cutT s)) ∧ w'' = w') := fun w' => cut_any s w'
  generalize cutT s = S at *
  have HU : Hid (∀ w', Below w.heap.size w w' → Calls Tryd.prog 17 #[.string S, .int .i64 at_] w' fun e w'' => e = .returned (.tuple #[.string (unq S at_).1, .int .i64 (unq S at_).2.1, .int .i64 (unq S at_).2.2]) ∧ Below w'.heap.size w' w'') := fun w' hb => unq_any S at_ w' (by omega) (HT.out _ hb) (HD.out _ hb)
  have HUA : Hid (∀ w', Below w.heap.size w w' → Calls Tryd.prog 17 #[.string ⟨#[34, 97, 34]⟩, .int .i64 0] w' fun e w'' => e = .returned (.tuple #[.string ⟨#[97]⟩, .int .i64 3, .int .i64 0]) ∧ Below w'.heap.size w' w'') := fun w' hb => by
    have h := unq_any ⟨#[34, 97, 34]⟩ 0 w' (by decide) (HT.out _ hb) (HD.out _ hb)
    rw [unq_a] at h
    exact h
  by_cases h0 : (unq S at_).2.2 = 0
  · obtain ⟨k, e, rfl, e2, h1, h2, h3, h4⟩ := unq_yes S at_ h0
    have HQ : Hid (∀ w', Below w.heap.size w w' → Calls Tryd.prog 16 #[.string (unq S k).1] w' fun x w'' => x = .returned (.string (S.extract k e)) ∧ Below w'.heap.size w' w'') := fun w' hb => by
      have h := quote_any (unq S k).1 w' (by omega) (HT.out _ hb) (HD.out _ hb)
      rw [h3] at h
      exact h
    rw [h0, e2] at HU
    clear h0 e2 h3 h4
    generalize (unq S k).1 = u1 at *
    go_enter Tryd.func6, Tryd.ntmps6
    go_wp2_with fail
    refine (HCUT.out _).mono ?_
    rintro x w1 ⟨rfl, rfl⟩
    go_wp2_with fail
    refine (HUA.out _ (Below.refl _ _)).mono ?_
    rintro x w2 ⟨rfl, b2⟩
    go_wp2_with fail
    refine (HU.out _ b2).mono ?_
    rintro x w3 ⟨rfl, b3⟩
    have B3 := andThen b2 b3
    clear b2 b3 HUA HU HCUT
    go_wp2_with fail
    go_region_held (fun _ => True) (exact trivial) (first
      | (go_at_call 16; refine (HQ.out _ (by repeat (first | exact B3 | refine Below.drew ?_))).mono ?_; rintro e w4 ⟨rfl, b4⟩))
    all_goals
      have B4 := andThen (Below.drew B3) b4
      clear b4
      go_wp2
      go_ret
      exact ⟨rfl, B4⟩
  · obtain ⟨e1, e2⟩ := unq_no S at_ h0
    rw [e1, e2] at HU
    generalize (unq S at_).2.2 = u3 at *
    have t3 : (u3 != (0 : Int)) = true := by rw [bne_iff_ne]; exact h0
    clear h0 e1 e2
    go_enter Tryd.func6, Tryd.ntmps6
    go_wp2_with fail
    refine (HCUT.out _).mono ?_
    rintro x w1 ⟨rfl, rfl⟩
    go_wp2_with fail
    refine (HUA.out _ (Below.refl _ _)).mono ?_
    rintro x w2 ⟨rfl, b2⟩
    go_wp2_with fail
    refine (HU.out _ b2).mono ?_
    rintro x w3 ⟨rfl, b3⟩
    have B3 := andThen b2 b3
    clear b2 b3 HUA HU HCUT
    go_wp2
    go_ret
    exact ⟨rfl, B3⟩
theorem textOneW_any (s : ByteArray) (at_ : Int) (w : World) (_h32 : True) (hD : w.cell? ⟨6, 15, none⟩ = some (.int .u8 4)) (_hp : True) (hT : TabP 2 .i32 hids w) (_h0 : s.size ≤ maxLen) (_h1 : (Lit.int .i64 at_).wf = true) :
    Calls Tryd.prog 6 #[.string s, .int .i64 at_] w fun e w' => e = .returned (.bool true) ∧ Below w.heap.size w w' := one_any s at_ w hT hD
end Go.Proofs.YtklingmjlfjibaaDoor
