/-
  The library: strings.IndexRune over the sixteen digits, at every rune.
-/
import Derived.Test.YtbabckchfabbkaaDoorIrn2
namespace Go.Proofs.YtbabckchfabbkaaDoor
open Go Go.RowKit Go.Lib
open Tx
theorem valid_two (r : Nat) (hv : Utf8.valid (r : Int) = true) : r ≤ 1114111 ∧ (r < 55296 ∨ 57343 < r) := by
  simp [Utf8.valid] at hv
  omega
theorem tail_byte (r : Nat) : (UInt8.ofNat (128 + r % 64)).toNat = 128 + r % 64 := UInt8.toNat_ofNat_of_lt' (show 128 + r % 64 < 256 by omega)
theorem size_list (E : ByteArray) : E.size = E.data.toList.length := by simp
theorem irune_b2 (r : Nat) (w : World) (hv : Utf8.valid (r : Int) = true) (h1 : 128 ≤ r) (h3 : r ≤ 2047) :
    Calls Tryd.prog 80 #[.string hxs, .int .i32 (r : Int)] w fun e w' => e = .returned (.int .i64 (-1)) ∧ Below w.heap.size w w' := by
  have hl := enc2 r h1 h3
  have hs : (Utf8.encode (r : Int)).size = 2 := by rw [size_list, hl]; rfl
  have hb := (last_byte _ _ hl 2 rfl 1 _ rfl (by omega)).2.trans (tail_byte r)
  have b0 : (128 : Int) ≤ r := by omega
  have b1 : (r : Int) ≤ 1114111 := by omega
  have b2 : (r : Int) ≠ 65533 := by omega
  exact irune_far2 hxs _ (r : Int) w b0 b1 b2 hv rfl hs (128 + r % 64) hb (by omega) (by omega) hxs_size (hxs_at 1 _ (by omega)) (part_idx 2 (by omega) _ (by omega) (by omega))
theorem irune_b3 (r : Nat) (w : World) (hv : Utf8.valid (r : Int) = true) (h1 : 2048 ≤ r) (h3 : r ≤ 65535) (b1 : (r : Int) ≤ 1114111) (b2 : (r : Int) ≠ 65533) :
    Calls Tryd.prog 80 #[.string hxs, .int .i32 (r : Int)] w fun e w' => e = .returned (.int .i64 (-1)) ∧ Below w.heap.size w w' := by
  have hl := enc3 r h1 h3 hv
  have hs : (Utf8.encode (r : Int)).size = 3 := by rw [size_list, hl]; rfl
  have hb := (last_byte _ _ hl 3 rfl 2 _ rfl (by omega)).2.trans (tail_byte r)
  have b0 : (128 : Int) ≤ r := by omega
  exact irune_far3 hxs _ (r : Int) w b0 b1 b2 hv rfl hs (128 + r % 64) hb (by omega) (by omega) hxs_size (hxs_at 2 _ (by omega)) (part_idx 3 (by omega) _ (by omega) (by omega))
theorem irune_b4 (r : Nat) (w : World) (hv : Utf8.valid (r : Int) = true) (h1 : 65536 ≤ r) (b1 : (r : Int) ≤ 1114111) (b2 : (r : Int) ≠ 65533) :
    Calls Tryd.prog 80 #[.string hxs, .int .i32 (r : Int)] w fun e w' => e = .returned (.int .i64 (-1)) ∧ Below w.heap.size w w' := by
  have hl := enc4 r h1 hv
  have hs : (Utf8.encode (r : Int)).size = 4 := by rw [size_list, hl]; rfl
  have hb := (last_byte _ _ hl 4 rfl 3 _ rfl (by omega)).2.trans (tail_byte r)
  have b0 : (128 : Int) ≤ r := by omega
  exact irune_far4 hxs _ (r : Int) w b0 b1 b2 hv rfl hs (128 + r % 64) hb (by omega) (by omega) hxs_size (hxs_at 3 _ (by omega)) (part_idx 4 (by omega) _ (by omega) (by omega))
theorem irune_any (r : Nat) (w : World) (hv : Utf8.valid (r : Int) = true) :
    Calls Tryd.prog 80 #[.string hxs, .int .i32 (r : Int)] w fun e w' => e = .returned (.int .i64 (hvi r)) ∧ Below w.heap.size w w' := by
  by_cases h1 : r < 128
  · refine (irune_low r w h1).mono ?_
    rintro e w' ⟨rfl, rfl⟩
    exact ⟨rfl, Below.refl _ _⟩
  rw [hvi_far r (by omega)]
  have hv2 := valid_two r hv
  have b1 : (r : Int) ≤ 1114111 := by omega
  by_cases b2 : (r : Int) = 65533
  · rw [b2]
    exact irune_bad w
  by_cases h3 : r ≤ 2047
  · exact irune_b2 r w hv (by omega) h3
  by_cases h4 : r ≤ 65535
  · exact irune_b3 r w hv (by omega) h4 b1 b2
  · exact irune_b4 r w hv (by omega) b1 b2
end Go.Proofs.YtbabckchfabbkaaDoor
