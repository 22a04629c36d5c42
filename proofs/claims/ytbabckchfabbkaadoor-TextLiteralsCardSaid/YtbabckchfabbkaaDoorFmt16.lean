/-
  strconv.FormatInt at the base 16, of a number that is not negative.
-/
import Derived.Test.YtbabckchfabbkaaDoorLit1
import Derived.Laws.Rows
namespace Go.Proofs.YtbabckchfabbkaaDoor
open Go Go.RowKit
open Tx

namespace Tx
def hexL (u : Nat) : List UInt8 := if _h : u < 16 then [hexD u] else hexL (u / 16) ++ [hexD (u % 16)]
termination_by u
decreasing_by omega
theorem hexL_lo (u : Nat) (h : u < 16) : hexL u = [hexD u] := by rw [hexL, dif_pos h]
theorem hexL_hi (u : Nat) (h : ¬ u < 16) : hexL u = hexL (u / 16) ++ [hexD (u % 16)] := by rw [hexL, dif_neg h]
end Tx
theorem dig36 (n : Nat) (h : n < 16) (h2 : n < (⟨#[48, 49, 50, 51, 52, 53, 54, 55, 56, 57, 97, 98, 99, 100, 101, 102, 103, 104, 105, 106, 107, 108, 109, 110, 111, 112, 113, 114, 115, 116, 117, 118, 119, 120, 121, 122]⟩ : ByteArray).size) : ((⟨#[48, 49, 50, 51, 52, 53, 54, 55, 56, 57, 97, 98, 99, 100, 101, 102, 103, 104, 105, 106, 107, 108, 109, 110, 111, 112, 113, 114, 115, 116, 117, 118, 119, 120, 121, 122]⟩ : ByteArray)[n]'h2) = hexD n := by
  have key : ∀ n, n < 16 → ∀ h2 : n < 36, ((⟨#[48, 49, 50, 51, 52, 53, 54, 55, 56, 57, 97, 98, 99, 100, 101, 102, 103, 104, 105, 106, 107, 108, 109, 110, 111, 112, 113, 114, 115, 116, 117, 118, 119, 120, 121, 122]⟩ : ByteArray)[n]'h2) = hexD n := by decide +kernel
  exact key n h h2
theorem isPow16 (w : World) : Calls Tryd.prog 94 #[.int .i64 16] w fun e w' => e = .returned (.bool true) ∧ w' = w := by
  have e1 : bits .and .i64 16 15 = 0 := by decide
  go_enter Tryd.func94, Tryd.ntmps94
  go_wp2
  go_ret
  exact ⟨rfl, rfl⟩
theorem tz64 (w : World) (h : w.cell? ⟨9, 15, none⟩ = some (.int .u8 4)) : Calls Tryd.prog 103 #[.int .u64 16] w fun e w' => e = .returned (.int .i64 4) ∧ w' = w := by
  have e0 : IntKind.u64.wrap (-16) = 18446744073709551600 := by decide
  have e1 : bits .and .u64 16 18446744073709551600 = 16 := by decide
  go_enter Tryd.func103, Tryd.ntmps103
  go_wp2
  go_ret
  exact ⟨rfl, rfl⟩
theorem tz (w : World) (h : w.cell? ⟨9, 15, none⟩ = some (.int .u8 4)) : Calls Tryd.prog 95 #[.int .u64 16] w fun e w' => e = .returned (.int .i64 4) ∧ w' = w := by
  have H : Hid (Calls Tryd.prog 103 #[.int .u64 16] w fun e w' => e = .returned (.int .i64 4) ∧ w' = w) := tz64 w h
  clear h
  go_enter Tryd.func95, Tryd.ntmps95
  go_wp2_with fail
  refine H.out.mono ?_
  rintro e w1 ⟨rfl, rfl⟩
  go_wp2
  go_ret
  exact ⟨rfl, rfl⟩

/-- the digits so far, from place i of the row on -/
structure Digs (w : World) (g i : Nat) (D : List UInt8) : Prop where
  row : ∃ cur : Array Value, w.heap[g]? = some (.cells cur 124 (0, 0)) ∧ cur.size = 65 ∧ ∀ j (h : j < D.length), cur[i + j]? = some (.int .u8 (D[j].toNat : Int))
theorem Digs.cell {w : World} {g i : Nat} {D : List UInt8} (h : Digs w g i D) (k : Nat) (hk : k < 65) : ∃ v, w.cell? ⟨g, k, none⟩ = some v := by
  obtain ⟨cur, h1, h2, _⟩ := h.row
  exact ⟨cur[k], by unfold World.cell?; rw [h1]; simp [h2, hk]⟩
theorem Digs.frozen {w : World} {g i : Nat} {D : List UInt8} (h : Digs w g i D) (k : Nat) : w.frozen? ⟨g, k, none⟩ = false := by
  obtain ⟨cur, h1, _⟩ := h.row
  unfold World.frozen?
  rw [h1]
  simp
theorem Digs.push {w : World} {g i : Nat} {D : List UInt8} (h : Digs w g (i + 1) D) (hi : i < 65) (x : UInt8) : Digs (w.setCell ⟨g, i, none⟩ (.int .u8 (x.toNat : Int))) g i (x :: D) := by
  obtain ⟨cur, h1, h2, h3⟩ := h.row
  refine ⟨_, Go.heap_setCell_same w g i _ _ _ h1, by simp [h2], fun j hj => ?_⟩
  cases j with
  | zero =>
    rw [Nat.add_zero, Array.getElem?_setIfInBounds_self_of_lt (by omega)]
    rfl
  | succ j =>
    rw [Array.getElem?_setIfInBounds_ne (by omega), show i + (j + 1) = i + 1 + j by omega]
    exact h3 j (by simpa using hj)
theorem Digs.str {w : World} {g i : Nat} {D : List UInt8} (h : Digs w g i D) (hl : i + D.length = 65) : (convert 66 9 (.slice (some ⟨g, i, none⟩) (65 - i) (65 - i))).run Tryd.prog w = .ok (.string ⟨D.toArray⟩) w := by
  have e : 65 - i = D.length := by omega
  obtain ⟨cur, h1, h2, h3⟩ := h.row
  rw [e]
  refine run_convert_bytes_back w 66 9 5 ⟨g, i, none⟩ D.length D Tryd.underlying66 Tryd.underlying5 Tryd.underlying9 (fun j hj => ?_)
  rw [Addr.add_lit]
  unfold World.cell?
  rw [h1]
  exact h3 j hj

set_option maxRecDepth 100000 in
set_option maxHeartbeats 2000000 in
theorem fbits_any (r : Nat) (w : World) (hr : r < 2147483648) (h : w.cell? ⟨9, 15, none⟩ = some (.int .u8 4)) :
    Calls Tryd.prog 84 #[.slice none 0 0, .int .u64 (r : Int), .int .i64 16, .bool false, .bool false] w fun e w' => e = .returned (.tuple #[.slice none 0 0, .string ⟨(hexL r).toArray⟩]) ∧ Below w.heap.size w w' := by
  have HC : Hid (∀ w', Below w.heap.size w w' → w'.cell? ⟨9, 15, none⟩ = some (.int .u8 4)) := fun w' hb => (hb.cell (p := ⟨9, 15, none⟩) (World.block_lt_of_cell? _ _ h)).trans h
  clear h
  obtain ⟨H, hH⟩ : ∃ H, hexL r = H := ⟨_, rfl⟩
  have HH : Hid (hexL r = H) := hH
  rw [hH]
  clear hH
  have hz65 : Tryd.zeroCells124.size = 65 := by kernel_rfl
  have HD0 : Hid (Digs (w.alloc (.cells Tryd.zeroCells124 124)) w.heap.size 65 []) := ⟨Tryd.zeroCells124, by show (w.heap.push _)[w.heap.size]? = _; simp, hz65, fun j h => absurd h (by simp)⟩
  have HB0 : Hid (Below w.heap.size w (w.alloc (.cells Tryd.zeroCells124 124))) := up0 w _
  clear hz65
  go_enter Tryd.func84, Tryd.ntmps84
  go_wp2_with fail
  generalize (w.alloc (.cells Tryd.zeroCells124 124)) = wa at *
  refine (isPow16 _).mono ?_
  rintro e w1 ⟨rfl, rfl⟩
  go_wp2_with fail
  refine (tz _ (HC.out _ HB0.out)).mono ?_
  rintro e w1 ⟨rfl, rfl⟩
  go_wp2
  go_loopw [1, 13] (fun x y wr => ∃ (U i : Nat) (D : List UInt8), x = .int .u64 (U : Int) ∧ y = .int .i64 (i : Int) ∧ hexL U ++ D = H ∧ i + D.length = 65 ∧ U * 16 ^ D.length ≤ r ∧ (D.length = 0 ∨ 0 < U) ∧ Digs wr w.heap.size i D ∧ Below w.heap.size w wr) (fun x _ _ => (intOf x).toNat)
  case atStart => exact ⟨r, 65, [], rfl, rfl, by rw [List.append_nil]; exact HH.out, rfl, by simp, .inl rfl, HD0.out, HB0.out⟩
  case round =>
    obtain ⟨U, i, D, rfl, rfl, hU, hi, hle, hpos, hdig, hbel⟩ := hrel
    have HU : Hid (hexL U ++ D = H) := hU
    have hUr : U ≤ r := Nat.le_trans (Nat.le_mul_of_pos_right _ (Nat.pow_pos (by decide))) hle
    have hD8 : D.length ≤ 8 := by
      rcases hpos with h0 | h0
      · omega
      · have h1 : 16 ^ D.length ≤ r := Nat.le_trans (Nat.le_mul_of_pos_left _ h0) hle
        apply Nat.le_of_not_lt
        intro h9
        have h2 : 16 ^ 8 ≤ 16 ^ D.length := Nat.pow_le_pow_right (by decide) (by omega)
        have h3 : (16 : Nat) ^ 8 = 4294967296 := by decide
        omega
    clear hU HH HD0 HB0
    obtain ⟨j, rfl⟩ : ∃ j, i = j + 1 := ⟨i - 1, by omega⟩
    obtain ⟨v0, c0⟩ := hdig.cell j (by omega)
    have f0 := hdig.frozen j
    have hji : (j : Int) ≤ 65 := by omega
    have hj65 : ¬ 65 = j := by omega
    have hj66 : (j : Int) < 65 := by omega
    by_cases hlt : U < 16
    · have hx := dig36 U hlt
      have hi1 : (U : Int) < 36 := by omega
      have HR : Hid (Digs (wr.setCell ⟨w.heap.size, j, none⟩ (.int .u8 ((hexD U).toNat : Int))) w.heap.size j (hexD U :: D)) := hdig.push (by omega) (hexD U)
      have hcv := HR.out.str (by simp; omega)
      have HE : Hid (hexD U :: D = H) := by show _ = _; rw [← HU.out, hexL_lo U hlt]; rfl
      have HBW : Hid (Below w.heap.size w (wr.setCell ⟨w.heap.size, j, none⟩ (.int .u8 ((hexD U).toNat : Int)))) := hbel.setCell (Nat.le_refl _) _
      rw [HE.out] at hcv
      clear hdig hbel HU HR hle hpos
      go_wp2
      go_ret2
      exact ⟨rfl, HBW.out⟩
    · obtain ⟨b, hb⟩ : ∃ b, U % 16 = b := ⟨_, rfl⟩
      obtain ⟨q, hq⟩ : ∃ q, U / 16 = q := ⟨_, rfl⟩
      have hb16 : b < 16 := by omega
      have hx := dig36 b hb16
      have hi1 : (b : Int) < 36 := by omega
      have e1 : bits .and .u64 (U : Int) 15 = (b : Int) := by
        have h0 := u64_and_nat U 15 (by omega) (by decide)
        have e : U &&& 15 = U % 16 := Nat.and_two_pow_sub_one_eq_mod U 4
        rw [e, hb] at h0
        exact h0
      have e2 : (U : Int) % 16 = (b : Int) := by omega
      have e3 : (U : Int) / 16 = (q : Int) := by omega
      have HR : Hid (Digs (wr.setCell ⟨w.heap.size, j, none⟩ (.int .u8 ((hexD b).toNat : Int))) w.heap.size j (hexD b :: D)) := hdig.push (by omega) (hexD b)
      have HE : Hid (hexL q ++ (hexD b :: D) = H) := by
        show _ = _
        rw [← HU.out, hexL_hi U hlt, hb, hq, List.append_assoc]
        rfl
      have HBW : Hid (Below w.heap.size w (wr.setCell ⟨w.heap.size, j, none⟩ (.int .u8 ((hexD b).toNat : Int)))) := hbel.setCell (Nat.le_refl _) _
      have HL2 : Hid (q * 16 ^ (hexD b :: D).length ≤ r) := by
        show q * 16 ^ (D.length + 1) ≤ r
        rw [Nat.pow_succ, Nat.mul_comm (16 ^ D.length) 16, ← Nat.mul_assoc]
        exact Nat.le_trans (Nat.mul_le_mul_right _ (by omega)) hle
      have hq0 : 0 < q := by omega
      have hql : q < U := by omega
      clear hdig hbel HU hle hpos hb hq
      go_wp2
      go_roundw
      case rel => exact ⟨q, j, hexD b :: D, by go_num, by go_num, HE.out, by simp; omega, HL2.out, .inr hq0, HR.out, HBW.out⟩
      case measure => simp [intOf]; omega
theorem fmt16_any (r : Nat) (w : World) (hr : r < 2147483648) (h : w.cell? ⟨9, 15, none⟩ = some (.int .u8 4)) :
    Calls Tryd.prog 58 #[.int .i64 (r : Int), .int .i64 16] w fun e w' => e = .returned (.string ⟨(hexL r).toArray⟩) ∧ Below w.heap.size w w' := by
  have h2 : Calls Tryd.prog 73 #[.int .i64 (r : Int), .int .i64 16] w fun e w' => e = .returned (.string ⟨(hexL r).toArray⟩) ∧ Below w.heap.size w w' := by
    have H : Hid (Calls Tryd.prog 84 #[.slice none 0 0, .int .u64 (r : Int), .int .i64 16, .bool false, .bool false] w fun e w' => e = .returned (.tuple #[.slice none 0 0, .string ⟨(hexL r).toArray⟩]) ∧ Below w.heap.size w w') := fbits_any r w hr h
    have d1 : decide ((r : Int) < 0) = false := by simp
    generalize (hexL r).toArray = R at *
    go_enter Tryd.func73, Tryd.ntmps73
    go_wp2_with fail
    refine H.out.mono ?_
    rintro e w1 ⟨rfl, b1⟩
    go_wp2
    go_ret
    exact ⟨rfl, b1⟩
  have H2 : Hid (Calls Tryd.prog 73 #[.int .i64 (r : Int), .int .i64 16] w fun e w' => e = .returned (.string ⟨(hexL r).toArray⟩) ∧ Below w.heap.size w w') := h2
  clear h2
  generalize (hexL r).toArray = R at *
  go_enter Tryd.func58, Tryd.ntmps58
  go_wp2_with fail
  refine H2.out.mono ?_
  rintro e w1 ⟨rfl, b1⟩
  go_wp2
  go_ret
  exact ⟨rfl, b1⟩
end Go.Proofs.YtbabckchfabbkaaDoor
