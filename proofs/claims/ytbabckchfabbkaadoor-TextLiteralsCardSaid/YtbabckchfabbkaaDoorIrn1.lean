/-
  The library: strings.IndexRune over the sixteen digits.
-/
import Derived.Test.YtbabckchfabbkaaDoorLib2
namespace Go.Proofs.YtbabckchfabbkaaDoor
open Go Go.RowKit Go.Lib
open Tx

/-- a rune's value as a hexadecimal digit, or -1 -/
def Tx.hvi (r : Nat) : Int := ((hv r).map (fun n => (n : Int))).getD (-1)
theorem hvi_far (r : Nat) (h : 128 ≤ r) : hvi r = -1 := by
  unfold hvi hv
  rw [if_neg (by omega), if_neg (by omega)]
  rfl
theorem hxs_dec : ∀ p, p < 16 → (Utf8.decode hxs p).2 = 1 ∧ (Utf8.decode hxs p).1 < 128 := by decide +kernel
theorem hxs_size : hxs.size = 16 := by decide +kernel
set_option maxRecDepth 100000 in
theorem irune_low (r : Nat) (w : World) (h : r < 128) :
    Calls Tryd.prog 80 #[.string hxs, .int .i32 (r : Int)] w fun e w' => e = .returned (.int .i64 (hvi r)) ∧ w' = w := by
  have HC : Hid (∀ w', Calls Tryd.prog 78 #[.string hxs, .int .u8 (r : Int)] w' fun e w1 => e = .returned (.int .i64 (hvi r)) ∧ w1 = w') := fun w' => by
    show Calls _ _ _ _ _
    have h1 := indexByte_any hxs r w'
    rw [idx_hxs r (by omega)] at h1
    exact h1
  generalize hvi r = k at *
  generalize hxs = S at *
  go_enter Tryd.func80, Tryd.ntmps80
  go_wp2_with fail
  refine (HC.out _).mono ?_
  rintro e w1 ⟨rfl, rfl⟩
  go_wp2
  go_ret
  exact ⟨rfl, rfl⟩
set_option maxRecDepth 100000 in
theorem irune_bad (w : World) :
    Calls Tryd.prog 80 #[.string hxs, .int .i32 65533] w fun e w' => e = .returned (.int .i64 (-1)) ∧ Below w.heap.size w w' := by
  have HS := hxs_size
  have HD : Hid (∀ p, p < 16 → (Utf8.decode hxs p).2 = 1 ∧ (Utf8.decode hxs p).1 < 128) := hxs_dec
  generalize hxs = s at *
  have HI : Hid ((w.iter s 0).heap[w.heap.size]? = some (.stringIter s 0)) := World.iter_heap w s 0
  have HB : Hid (Below w.heap.size w (w.iter s 0)) := up_iter w s 0
  go_enter Tryd.func80, Tryd.ntmps80
  go_wp2
  go_loopw [] (fun wr => ∃ (p : Nat), p ≤ s.size ∧ wr.heap[w.heap.size]? = some (.stringIter s p) ∧ Below w.heap.size w wr) (fun wr => s.size - wr.iterPos w.heap.size)
  case atStart => exact ⟨0, Nat.zero_le _, HI.out, HB.out⟩
  case round =>
    obtain ⟨p, hp, hit, hbel⟩ := hrel
    have HPOS : Hid (wr.iterPos w.heap.size = p) := iter_pos hit
    clear HI HB
    by_cases hlt : p < s.size
    · have hd := HD.out p (by omega)
      have hnx : ∀ ty, (Instr.next (.pointer (some ⟨w.heap.size, 0, none⟩)) true ty).run Tryd.prog wr = _ := fun ty => run_next_at wr w.heap.size s p ty hit hlt
      have HI2 : Hid ((setIter wr w.heap.size s (p + (Utf8.decode s p).2)).heap[w.heap.size]? = some (.stringIter s (p + (Utf8.decode s p).2))) := iter_at wr w.heap.size s _ _ hit
      have hB2 : Below w.heap.size w (setIter wr w.heap.size s (p + (Utf8.decode s p).2)) := below_iter hbel _ (Nat.le_refl _) s _
      clear hbel hit
      rw [hd.1] at HI2 hB2
      have hd1 := hd.1
      have hd2 := hd.2
      simp only [hd1] at hnx
      clear hd hd1
      generalize setIter wr w.heap.size s (p + 1) = w2 at *
      obtain ⟨x, hx⟩ : ∃ x : Nat, (Utf8.decode s p).1 = x := ⟨_, rfl⟩
      rw [hx] at hnx hd2
      clear hx
      go_wp2
      go_roundw
      case rel => exact ⟨p + 1, by omega, HI2.out, hB2⟩
      case measure => rw [iter_pos HI2.out, HPOS.out]; omega
    · have hnx : ∀ ty, (Instr.next (.pointer (some ⟨w.heap.size, 0, none⟩)) true ty).run Tryd.prog wr = _ := fun ty => run_next_over wr w.heap.size s p ty hit hlt
      clear hit
      go_wp2
      go_ret
      exact ⟨rfl, hbel⟩
theorem no_high (s : ByteArray) (c : UInt8) (h : 128 ≤ c.toNat) (hs : ∀ i, (hi : i < s.size) → (s[i]'hi).toNat < 128) : firstIdx s c = -1 := by
  unfold firstIdx
  rw [show (List.range s.size).find? (fun i => s[i]! == c) = none from ?_]
  rw [List.find?_eq_none]
  intro i hi
  have hlt : i < s.size := List.mem_range.1 hi
  have := hs i hlt
  rw [getElem!_pos s i hlt]
  intro he
  have e : s[i]'hlt = c := by simpa using he
  rw [e] at this
  omega
theorem hxs_part : ∀ k, k < 5 → ∀ i, i < (hxs.extract k 16).size → ((hxs.extract k 16).get! i).toNat < 128 := by decide +kernel
theorem idx_part (k : Nat) (hk : k < 5) (c : Nat) (h : 128 ≤ c) (h2 : c < 256) : firstIdx (hxs.extract k 16) c.toUInt8 = -1 := by
  refine no_high _ _ (by rw [show c.toUInt8.toNat = c from by simp; omega]; exact h) fun i hi => ?_
  have h3 : at' (hxs.extract k 16) i < 128 := hxs_part k hk i hi
  rwa [at_get _ i hi] at h3
end Go.Proofs.YtbabckchfabbkaaDoor
