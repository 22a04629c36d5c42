/-
  TextRound: the law's walk.
-/
import Derived.Test.YtklingmjlfjibaaDoorRnd3
namespace Go.Proofs.YtklingmjlfjibaaDoor
open Go Go.RowKit Go.Lib
open Tx

namespace Tx
theorem has_mid (a x b : ByteArray) : Has (a ++ x ++ b) a.size x.data.toList := fun j hj => by
  rw [list_size] at hj
  have h1 : a.size + j < (a ++ x ++ b).size := by rw [ByteArray.size_append, ByteArray.size_append]; omega
  refine ⟨h1, ?_⟩
  rw [at_get _ _ h1]
  congr 1
  rw [ByteArray.getElem_append_left (by rw [ByteArray.size_append]; omega), ByteArray.getElem_append_right (by omega)]
  simp only [Nat.add_sub_cancel_left]
  rfl
theorem quo_list (t : ByteArray) : (quo t).data.toList = 34 :: (qs t 0 ++ [34]) := rfl
theorem quo_size (t : ByteArray) : (quo t).size = (qs t 0).length + 2 := by
  rw [← list_size, quo_list]
  simp
theorem qs_len (t : ByteArray) : ∀ (k p : Nat), t.size - p ≤ k → (qs t p).length ≤ 12 * k
  | 0, p, hk => by rw [qs_out t p (by omega)]; simp
  | k + 1, p, hk => by
    by_cases h : p < t.size
    · have hd := decode_fits t p h
      have h1 := qs_len t k (p + (Utf8.decode t p).2) (by omega)
      have h2 := pcW_le t p
      rw [qs_in t p h, List.length_append, list_size]
      omega
    · rw [qs_out t p h]; simp
theorem unq_quo (a t b : ByteArray) : unq (a ++ quo t ++ b) (a.size : Int) = (t, ((a.size + (quo t).size : Nat) : Int), 0) := by
  have hm := has_mid a (quo t) b
  have hsz : (a ++ quo t ++ b).size = a.size + (quo t).size + b.size := by rw [ByteArray.size_append, ByteArray.size_append]
  have hqs := quo_size t
  have hx := has_extract hm (by rw [list_size]; omega)
  rw [list_size] at hx
  rw [quo_list] at hm
  generalize a ++ quo t ++ b = s at *
  have h0 := hm.at0
  have hr := Has.cut (a.size + 1) (Nat.le_refl _) hm.tail
  rw [Nat.sub_self] at hr
  have hc := rnd t (s.extract (a.size + 1) s.size) t.size 0 0 0 (by omega) (Nat.zero_le _) hr (Nat.le_refl _)
  rw [List.take_zero, Nat.zero_add] at hc
  unfold unq
  rw [Int.toNat_natCast, hc, if_neg (by omega), if_neg (by rw [h0.2]; intro hh; rcases hh with hh | hh; omega; exact hh rfl), if_neg (by simp), show a.size + 1 + ((qs t 0).length + 1) = a.size + (quo t).size by omega, hx, if_neg (by intro hh; exact hh rfl)]
end Tx
set_option maxRecDepth 100000 in
set_option maxHeartbeats 4000000 in
theorem round_any (a s b : ByteArray) (w : World) (hT : TabP 2 .i32 hids w) (hD : w.cell? ⟨6, 15, none⟩ = some (.int .u8 4)) :
    Calls Tryd.prog 5 #[.string a, .string s, .string b] w fun e w' => e = .returned (.bool true) ∧ Below w.heap.size w w' := by
  have HT : Hid (∀ w', Below w.heap.size w w' → TabP 2 .i32 hids w') := fun w' hb => hT.kept hb
  have HD : Hid (∀ w', Below w.heap.size w w' → w'.cell? ⟨6, 15, none⟩ = some (.int .u8 4)) := fun w' hb => (hb.cell (p := ⟨6, 15, none⟩) (World.block_lt_of_cell? _ _ hD)).trans hD
  clear hT hD
  have hca := cutT_le a
  have hcs := cutT_le s
  have hcb := cutT_le b
  have HCA : Hid (∀ w', Calls Tryd.prog 9 #[.string a] w' fun e w'' => e = .returned (.string (cutT a)) ∧ w'' = w') := fun w' => cut_any a w'
  have HCS : Hid (∀ w', Calls Tryd.prog 9 #[.string s] w' fun e w'' => e = .returned (.string (cutT s)) ∧ w'' = w') := fun w' => cut_any s w'
  have HCB : Hid (∀ w', Calls Tryd.prog 9 #[.string b] w' fun e w'' => e = .returned (.string (cutT b)) ∧ w'' = w') := fun w' => cut_any b w'
  generalize cutT a = A at *
  generalize cutT s = S at *
  generalize cutT b = B at *
  have hq : (quo S).size ≤ 1572866 := by have := qs_len S S.size 0 (by omega); rw [quo_size]; omega
  have HQA : Hid (∀ w', Below w.heap.size w w' → Calls Tryd.prog 16 #[.string ⟨#[97]⟩] w' fun e w'' => e = .returned (.string ⟨#[34, 97, 34]⟩) ∧ Below w'.heap.size w' w'') := fun w' hb => by
    have h := quote_any ⟨#[97]⟩ w' (by decide) (HT.out _ hb) (HD.out _ hb)
    rw [quo_a] at h
    exact h
  have HQ : Hid (∀ w', Below w.heap.size w w' → Calls Tryd.prog 16 #[.string S] w' fun e w'' => e = .returned (.string (quo S)) ∧ Below w'.heap.size w' w'') := fun w' hb => quote_any S w' (by omega) (HT.out _ hb) (HD.out _ hb)
  have HU : Hid (∀ w', Below w.heap.size w w' → Calls Tryd.prog 17 #[.string (A ++ quo S ++ B), .int .i64 (A.size : Int)] w' fun e w'' => e = .returned (.tuple #[.string S, .int .i64 ((A.size : Int) + ((quo S).size : Int)), .int .i64 0]) ∧ Below w'.heap.size w' w'') := fun w' hb => by
    have h := unq_any (A ++ quo S ++ B) A.size w' (by rw [ByteArray.size_append, ByteArray.size_append]; omega) (HT.out _ hb) (HD.out _ hb)
    rw [unq_quo, Int.natCast_add] at h
    exact h
  generalize quo S = Q at *
  go_enter Tryd.func5, Tryd.ntmps5
  go_wp2_with fail
  refine (HCA.out _).mono ?_
  rintro x w1 ⟨rfl, rfl⟩
  go_wp2_with fail
  refine (HCS.out _).mono ?_
  rintro x w1 ⟨rfl, rfl⟩
  go_wp2_with fail
  refine (HCB.out _).mono ?_
  rintro x w1 ⟨rfl, rfl⟩
  go_wp2_with fail
  refine (HQA.out _ (Below.refl _ _)).mono ?_
  rintro x w2 ⟨rfl, b2⟩
  go_wp2_with fail
  refine (HQ.out _ b2).mono ?_
  rintro x w3 ⟨rfl, b3⟩
  have B3 := andThen b2 b3
  clear b2 b3 HQA HQ HCA HCS HCB
  go_wp2_with fail
  refine (HU.out _ B3).mono ?_
  rintro x w4 ⟨rfl, b4⟩
  have B4 := andThen B3 b4
  clear b4 HU
  go_wp2
  go_ret
  exact ⟨rfl, B4⟩
theorem textRoundW_any (a s b : ByteArray) (w : World) (_h32 : True) (hD : w.cell? ⟨6, 15, none⟩ = some (.int .u8 4)) (_hp : True) (hT : TabP 2 .i32 hids w) (_h0 : a.size ≤ maxLen) (_h1 : s.size ≤ maxLen) (_h2 : b.size ≤ maxLen) :
    Calls Tryd.prog 5 #[.string a, .string s, .string b] w fun e w' => e = .returned (.bool true) ∧ Below w.heap.size w w' := round_any a s b w hT hD
end Go.Proofs.YtklingmjlfjibaaDoor
