import Derived.Laws.IdiomStrings
import Derived.Laws.Concat
import Derived.Deep.QuietTactic
import Derived.BigQuiet
import Derived.WalkSmall
import Derived.Laws.Rows
import Derived.Laws.Runes
import Derived.Lib.AppendStr
import Derived.OwnWalk
import Derived.Test.YtcnnpohnfoaceaaGreatDoorQT1
/-
  Package text: control, hidden, hexByte.
-/
namespace Go.Proofs.YtcnnpohnfoaceaaGreatDoor.Text
open Go Go.RowKit
open Tx

namespace Tx
def ctl (r : Int) : Bool := decide (r < 32) || decide (r = 127)
/-- a lower hexadecimal digit -/
def hexD (n : Nat) : UInt8 := if n < 10 then UInt8.ofNat (48 + n) else UInt8.ofNat (87 + n)
/-- a byte's escape -/
def hexB (c : Nat) : ByteArray := ⟨#[92, 120, hexD (c / 16), hexD (c % 16)]⟩
end Tx
theorem control_any (r : Int) (w : World) :
    Calls Tryz.prog 118 #[.int .i32 r] w fun e w' => e = .returned (.bool (ctl r)) ∧ w' = w := by
  by_cases h1 : r < 32
  · have H1 : Hid (ctl r = true) := by show _ = _; unfold ctl; rw [decide_eq_true h1, Bool.true_or]
    rw [H1.out]
    go_enter Tryz.func118, Tryz.ntmps118
    go_wp2
    go_ret
    exact ⟨rfl, rfl⟩
  · by_cases h2 : r = 127
    · have H1 : Hid (ctl r = true) := by show _ = _; unfold ctl; rw [decide_eq_true h2, Bool.or_true]
      rw [H1.out]
      subst h2
      go_enter Tryz.func118, Tryz.ntmps118
      go_wp2
      go_ret
      exact ⟨rfl, rfl⟩
    · have H1 : Hid (ctl r = false) := by show _ = _; unfold ctl; rw [decide_eq_false h1, decide_eq_false h2]; rfl
      rw [H1.out]
      have e1 : (r == 127) = false := by simp [h2]
      go_enter Tryz.func118, Tryz.ntmps118
      go_wp2
      go_ret
      exact ⟨rfl, rfl⟩
theorem infoHids : (Tryz.prog.info? 172).map (·.size) = some 16 := by kernel_rfl
set_option maxRecDepth 100000 in
theorem hidden_any (r : Int) (w : World) (hT : TabP 7 .i32 hids w) :
    Calls Tryz.prog 119 #[.int .i32 r] w fun e w' => e = .returned (.bool (among hids r)) ∧ Below w.heap.size w w' := by
  have HIX : Hid (∀ w' (i : Nat) (hi : i < hids.length), (Instr.index 172 (.agg ((flat hids).map fun z => Value.int .i32 z).toArray) (.int .i64 (i : Int))).run Tryz.prog w' = .ok (.agg #[.int .i32 hids[i].1, .int .i32 hids[i].2]) w') :=
    fun w' i hi => run_index_pair w' 172 118 8 _ .i32 hids i hi rfl Tryz.underlying172 Tryz.underlying118 rfl infoSpan
  have HR := hT.range
  generalize hC : ((flat hids).map fun z => Value.int .i32 z) = C at *
  have HL : Hid (hids.length = 8) := rfl
  have HN : Hid ((Tryz.prog.info? 172).map (·.size) = some C.length) := by show _ = _; rw [← hC]; exact infoHids
  clear hC hT
  go_enter Tryz.func119, Tryz.ntmps119
  go_wp2_with (refine wpList_load_mid rfl 172 _ rfl 7 0 rfl C _ HR Tryz.underlying172 rfl HN.out ?_)
  clear HR HN
  have H0 : Hid (among (hids.take 0) r = false) := rfl
  go_loopw [6] (fun i wr => ∃ k : Nat, k ≤ 8 ∧ i = .int .i64 (k : Int) ∧ among (hids.take k) r = false ∧ Below w.heap.size w wr) (fun i _ => 8 - (intOf i).toNat)
  case atStart => exact ⟨0, by omega, rfl, H0.out, Below.refl _ _⟩
  case round =>
    obtain ⟨k, hk, rfl, ha, hbel⟩ := hrel
    have HA : Hid (among (hids.take k) r = false) := ha
    clear ha
    by_cases hlt : k < 8
    · have hkl : k < hids.length := by rw [HL.out]; exact hlt
      have hix := fun w' => HIX.out w' k hkl
      have HS : Hid (among (hids.take (k + 1)) r = (among (hids.take k) r || (decide (hids[k].1 ≤ r) && decide (r ≤ hids[k].2)))) := among_take hids r k hkl
      have HY : Hid (hids[k].1 ≤ r → r ≤ hids[k].2 → among hids r = true) := among_yes hids r k hkl
      generalize hids[k].1 = lo at *
      generalize hids[k].2 = hi at *
      clear HIX hkl
      go_wp2_with fail
      refine (has_any lo hi r _).mono ?_
      rintro e w1 ⟨rfl, b1⟩
      have hb1 := andThen (up hbel _) b1
      clear b1 hbel hix
      by_cases hh : lo ≤ r ∧ r ≤ hi
      · have HT : Hid ((decide (lo ≤ r) && decide (r ≤ hi)) = true) := by show _ = _; simp [hh]
        have HY2 : Hid (among hids r = true) := HY.out hh.1 hh.2
        rw [HT.out]
        clear HY HS
        go_wp2
        go_ret
        rw [HY2.out]
        exact ⟨rfl, hb1⟩
      · have HT : Hid ((decide (lo ≤ r) && decide (r ≤ hi)) = false) := by show _ = _; simp; omega
        have HS2 : Hid (among (hids.take (k + 1)) r = false) := by show _ = _; rw [HS.out, HA.out, HT.out]; rfl
        rw [HT.out]
        clear HY HS
        go_wp2
        go_roundw
        case rel => exact ⟨k + 1, by omega, by go_num, HS2.out, hb1⟩
        case measure => simp [intOf]; omega
    · obtain rfl : k = 8 := by omega
      have HF : Hid (among hids r = false) := HA.out
      go_wp2
      go_ret
      rw [HF.out]
      exact ⟨rfl, hbel⟩
theorem hexD_idx (n : Nat) (h : n < 16) : ((⟨#[48, 49, 50, 51, 52, 53, 54, 55, 56, 57, 97, 98, 99, 100, 101, 102]⟩ : ByteArray)[n]'h) = hexD n := by
  have key : ∀ n, (h : n < 16) → ((⟨#[48, 49, 50, 51, 52, 53, 54, 55, 56, 57, 97, 98, 99, 100, 101, 102]⟩ : ByteArray)[n]'h) = hexD n := by decide +kernel
  exact key n h
/-- two bytes of a new row as a string -/
theorem two_str (w : World) (g : Nat) (x y : UInt8) (hc0 : w.cell? ⟨g, 0, none⟩ = some (.int .u8 (x.toNat : Int))) (hc1 : w.cell? ⟨g, 1, none⟩ = some (.int .u8 (y.toNat : Int))) :
    (convert 92 9 (.slice (some ⟨g, 0, none⟩) 2 2)).run Tryz.prog w = .ok (.string ⟨#[x, y]⟩) w := by
  refine run_convert_bytes_back w 92 9 5 ⟨g, 0, none⟩ 2 [x, y] Tryz.underlying92 Tryz.underlying5 Tryz.underlying9 (fun j hj => ?_)
  match j, hj with
  | 0, _ => rw [Addr.add_lit]; exact hc0
  | 1, _ => rw [Addr.add_lit]; exact hc1
theorem two_app (x y : UInt8) : (⟨#[92, 120]⟩ : ByteArray) ++ ⟨#[x, y]⟩ = ⟨#[92, 120, x, y]⟩ := by
  apply ByteArray.ext
  simp
theorem hexb_any (c : Nat) (w : World) (hc : c < 256) :
    Calls Tryz.prog 121 #[.int .u8 (c : Int)] w fun e w' => e = .returned (.string (hexB c)) ∧ Below w.heap.size w w' := by
  obtain ⟨a, ha⟩ : ∃ a, c / 16 = a := ⟨_, rfl⟩
  obtain ⟨b, hb⟩ : ∃ b, c % 16 = b := ⟨_, rfl⟩
  have HB : Hid (hexB c = ⟨#[92, 120, hexD a, hexD b]⟩) := by show _ = _; unfold hexB; rw [ha, hb]
  have q1 : (c : Int) / 16 = (a : Int) := by omega
  have q2 : (c : Int) % 16 = (b : Int) := by omega
  have e1 : bits .and .u8 (c : Int) 15 = (b : Int) := by
    have h0 := u8_and_nat c 15 hc (by decide)
    have e : c &&& 15 = c % 16 := Nat.and_two_pow_sub_one_eq_mod c 4
    rw [e, hb] at h0
    exact h0
  have hc1 : a < 16 := by omega
  have hc2 : b < 16 := by omega
  have hi1 : (a : Int) < 16 := by omega
  have hi2 : (b : Int) < 16 := by omega
  have hx1 := hexD_idx a hc1
  have hx2 := hexD_idx b hc2
  have hcw := two_str (w.alloc (.cells #[.int .u8 ((hexD a).toNat : Int), .int .u8 ((hexD b).toNat : Int)] 5)).drew w.heap.size (hexD a) (hexD b) (World.cell?_alloc_new w _ _ 0) (World.cell?_alloc_new w _ _ 1)
  clear ha hb
  go_enter Tryz.func121, Tryz.ntmps121
  go_wp2
  go_region
  all_goals
    go_wp2
    go_ret
    refine ⟨?_, (up0 w _).drew⟩
    rw [HB.out]
    exact congrArg (fun x => Ending.returned (.string x)) (two_app _ _)
end Go.Proofs.YtcnnpohnfoaceaaGreatDoor.Text

/-
  strconv.FormatInt at the base 16, of a number that is not negative.
-/
namespace Go.Proofs.YtcnnpohnfoaceaaGreatDoor.Text
open Go Go.RowKit
open Tx

namespace Tx
def hexL (u : Nat) : List UInt8 := if _h : u < 16 then [hexD u] else hexL (u / 16) ++ [hexD (u % 16)]
termination_by u
decreasing_by omega
theorem hexL_lo (u : Nat) (h : u < 16) : hexL u = [hexD u] := by rw [hexL, dif_pos h]
theorem hexL_hi (u : Nat) (h : ¬ u < 16) : hexL u = hexL (u / 16) ++ [hexD (u % 16)] := by rw [hexL, dif_neg h]
end Tx
theorem dig36 (n : Nat) (h : n < 16) (h2 : n < (⟨#[48, 49, 50, 51, 52, 53, 54, 55, 56, 57, 97, 98, 99, 100, 101, 102, 103, 104, 105, 106, 107, 108, 109, 110, 111, 112, 113, 114, 115, 116, 117, 118, 119, 120, 121, 122]⟩ : ByteArray).size) : ((⟨#[48, 49, 50, 51, 52, 53, 54, 55, 56, 57, 97, 98, 99, 100, 101, 102, 103, 104, 105, 106, 107, 108, 109, 110, 111, 112, 113, 114, 115, 116, 117, 118, 119, 120, 121, 122]⟩ : ByteArray)[n]'h2) = hexD n := by
  have key : ∀ n, n < 16 → ∀ h2 : n < 36, ((⟨#[48, 49, 50, 51, 52, 53, 54, 55, 56, 57, 97, 98, 99, 100, 101, 102, 103, 104, 105, 106, 107, 108, 109, 110, 111, 112, 113, 114, 115, 116, 117, 118, 119, 120, 121, 122]⟩ : ByteArray)[n]'h2) = hexD n := by decide +kernel
  exact key n h h2
theorem isPow16 (w : World) : Calls Tryz.prog 128 #[.int .i64 16] w fun e w' => e = .returned (.bool true) ∧ w' = w := by
  have e1 : bits .and .i64 16 15 = 0 := by decide
  go_enter Tryz.func128, Tryz.ntmps128
  go_wp2
  go_ret
  exact ⟨rfl, rfl⟩
theorem tz64 (w : World) (h : w.cell? ⟨9, 15, none⟩ = some (.int .u8 4)) : Calls Tryz.prog 139 #[.int .u64 16] w fun e w' => e = .returned (.int .i64 4) ∧ w' = w := by
  have e0 : IntKind.u64.wrap (-16) = 18446744073709551600 := by decide
  have e1 : bits .and .u64 16 18446744073709551600 = 16 := by decide
  go_enter Tryz.func139, Tryz.ntmps139
  go_wp2
  go_ret
  exact ⟨rfl, rfl⟩
theorem tz (w : World) (h : w.cell? ⟨9, 15, none⟩ = some (.int .u8 4)) : Calls Tryz.prog 129 #[.int .u64 16] w fun e w' => e = .returned (.int .i64 4) ∧ w' = w := by
  have H : Hid (Calls Tryz.prog 139 #[.int .u64 16] w fun e w' => e = .returned (.int .i64 4) ∧ w' = w) := tz64 w h
  clear h
  go_enter Tryz.func129, Tryz.ntmps129
  go_wp2_with fail
  refine H.out.mono ?_
  rintro e w1 ⟨rfl, rfl⟩
  go_wp2
  go_ret
  exact ⟨rfl, rfl⟩

/-- the digits so far, from place i of the row on -/
structure Digs (w : World) (g i : Nat) (D : List UInt8) : Prop where
  row : ∃ cur : Array Value, w.heap[g]? = some (.cells cur 165 (0, 0)) ∧ cur.size = 65 ∧ ∀ j (h : j < D.length), cur[i + j]? = some (.int .u8 (D[j].toNat : Int))
theorem Digs.cell {w : World} {g i : Nat} {D : List UInt8} (h : Digs w g i D) (k : Nat) (hk : k < 65) : ∃ v, w.cell? ⟨g, k, none⟩ = some v := by
  obtain ⟨cur, h1, h2, _⟩ := h.row
  exact ⟨cur[k], by unfold World.cell?; rw [h1]; simp [h2, hk]⟩
theorem Digs.frozen {w : World} {g i : Nat} {D : List UInt8} (h : Digs w g i D) (k : Nat) : w.frozen? ⟨g, k, none⟩ = false := by
  obtain ⟨cur, h1, _⟩ := h.row
  unfold World.frozen?
  rw [h1]
  simp
theorem Digs.push {w : World} {g i : Nat} {D : List UInt8} (h : Digs w g (i + 1) D) (hi : i < 65) (x : UInt8) : Digs (w.setCell ⟨g, i, none⟩ (.int .u8 (x.toNat : Int))) g i (x :: D) := by
  obtain ⟨cur, h1, h2, h3⟩ := h.row
  refine ⟨_, Go.heap_setCell_same w g i _ _ _ h1, by simp [h2], fun j hj => ?_⟩
  cases j with
  | zero =>
    rw [Nat.add_zero, Array.getElem?_setIfInBounds_self_of_lt (by omega)]
    rfl
  | succ j =>
    rw [Array.getElem?_setIfInBounds_ne (by omega), show i + (j + 1) = i + 1 + j by omega]
    exact h3 j (by simpa using hj)
theorem Digs.str {w : World} {g i : Nat} {D : List UInt8} (h : Digs w g i D) (hl : i + D.length = 65) : (convert 92 9 (.slice (some ⟨g, i, none⟩) (65 - i) (65 - i))).run Tryz.prog w = .ok (.string ⟨D.toArray⟩) w := by
  have e : 65 - i = D.length := by omega
  obtain ⟨cur, h1, h2, h3⟩ := h.row
  rw [e]
  refine run_convert_bytes_back w 92 9 5 ⟨g, i, none⟩ D.length D Tryz.underlying92 Tryz.underlying5 Tryz.underlying9 (fun j hj => ?_)
  rw [Addr.add_lit]
  unfold World.cell?
  rw [h1]
  exact h3 j hj

set_option maxRecDepth 100000 in
set_option maxHeartbeats 2000000 in
theorem fbits_any (r : Nat) (w : World) (hr : r < 2147483648) (h : w.cell? ⟨9, 15, none⟩ = some (.int .u8 4)) :
    Calls Tryz.prog 107 #[.slice none 0 0, .int .u64 (r : Int), .int .i64 16, .bool false, .bool false] w fun e w' => e = .returned (.tuple #[.slice none 0 0, .string ⟨(hexL r).toArray⟩]) ∧ Below w.heap.size w w' := by
  have HC : Hid (∀ w', Below w.heap.size w w' → w'.cell? ⟨9, 15, none⟩ = some (.int .u8 4)) := fun w' hb => (hb.cell (p := ⟨9, 15, none⟩) (World.block_lt_of_cell? _ _ h)).trans h
  clear h
  obtain ⟨H, hH⟩ : ∃ H, hexL r = H := ⟨_, rfl⟩
  have HH : Hid (hexL r = H) := hH
  rw [hH]
  clear hH
  have hz65 : Tryz.zeroCells165.size = 65 := by kernel_rfl
  have HD0 : Hid (Digs (w.alloc (.cells Tryz.zeroCells165 165)) w.heap.size 65 []) := ⟨Tryz.zeroCells165, by show (w.heap.push _)[w.heap.size]? = _; simp, hz65, fun j h => absurd h (by simp)⟩
  have HB0 : Hid (Below w.heap.size w (w.alloc (.cells Tryz.zeroCells165 165))) := up0 w _
  clear hz65
  go_enter Tryz.func107, Tryz.ntmps107
  go_wp2_with fail
  generalize (w.alloc (.cells Tryz.zeroCells165 165)) = wa at *
  refine (isPow16 _).mono ?_
  rintro e w1 ⟨rfl, rfl⟩
  go_wp2_with fail
  refine (tz _ (HC.out _ HB0.out)).mono ?_
  rintro e w1 ⟨rfl, rfl⟩
  go_wp2
  go_loopw [1, 13] (fun x y wr => ∃ (U i : Nat) (D : List UInt8), x = .int .u64 (U : Int) ∧ y = .int .i64 (i : Int) ∧ hexL U ++ D = H ∧ i + D.length = 65 ∧ U * 16 ^ D.length ≤ r ∧ (D.length = 0 ∨ 0 < U) ∧ Digs wr w.heap.size i D ∧ Below w.heap.size w wr) (fun x _ _ => (intOf x).toNat)
  case atStart => exact ⟨r, 65, [], rfl, rfl, by rw [List.append_nil]; exact HH.out, rfl, by simp, .inl rfl, HD0.out, HB0.out⟩
  case round =>
    obtain ⟨U, i, D, rfl, rfl, hU, hi, hle, hpos, hdig, hbel⟩ := hrel
    have HU : Hid (hexL U ++ D = H) := hU
    have hUr : U ≤ r := Nat.le_trans (Nat.le_mul_of_pos_right _ (Nat.pow_pos (by decide))) hle
    have hD8 : D.length ≤ 8 := by
      rcases hpos with h0 | h0
      · omega
      · have h1 : 16 ^ D.length ≤ r := Nat.le_trans (Nat.le_mul_of_pos_left _ h0) hle
        apply Nat.le_of_not_lt
        intro h9
        have h2 : 16 ^ 8 ≤ 16 ^ D.length := Nat.pow_le_pow_right (by decide) (by omega)
        have h3 : (16 : Nat) ^ 8 = 4294967296 := by decide
        omega
    clear hU HH HD0 HB0
    obtain ⟨j, rfl⟩ : ∃ j, i = j + 1 := ⟨i - 1, by omega⟩
    obtain ⟨v0, c0⟩ := hdig.cell j (by omega)
    have f0 := hdig.frozen j
    have hji : (j : Int) ≤ 65 := by omega
    have hj65 : ¬ 65 = j := by omega
    have hj66 : (j : Int) < 65 := by omega
    by_cases hlt : U < 16
    · have hx := dig36 U hlt
      have hi1 : (U : Int) < 36 := by omega
      have HR : Hid (Digs (wr.setCell ⟨w.heap.size, j, none⟩ (.int .u8 ((hexD U).toNat : Int))) w.heap.size j (hexD U :: D)) := hdig.push (by omega) (hexD U)
      have hcv := HR.out.str (by simp; omega)
      have HE : Hid (hexD U :: D = H) := by show _ = _; rw [← HU.out, hexL_lo U hlt]; rfl
      have HBW : Hid (Below w.heap.size w (wr.setCell ⟨w.heap.size, j, none⟩ (.int .u8 ((hexD U).toNat : Int)))) := hbel.setCell (Nat.le_refl _) _
      rw [HE.out] at hcv
      clear hdig hbel HU HR hle hpos
      go_wp2
      go_ret2
      exact ⟨rfl, HBW.out⟩
    · obtain ⟨b, hb⟩ : ∃ b, U % 16 = b := ⟨_, rfl⟩
      obtain ⟨q, hq⟩ : ∃ q, U / 16 = q := ⟨_, rfl⟩
      have hb16 : b < 16 := by omega
      have hx := dig36 b hb16
      have hi1 : (b : Int) < 36 := by omega
      have e1 : bits .and .u64 (U : Int) 15 = (b : Int) := by
        have h0 := u64_and_nat U 15 (by omega) (by decide)
        have e : U &&& 15 = U % 16 := Nat.and_two_pow_sub_one_eq_mod U 4
        rw [e, hb] at h0
        exact h0
      have e2 : (U : Int) % 16 = (b : Int) := by omega
      have e3 : (U : Int) / 16 = (q : Int) := by omega
      have HR : Hid (Digs (wr.setCell ⟨w.heap.size, j, none⟩ (.int .u8 ((hexD b).toNat : Int))) w.heap.size j (hexD b :: D)) := hdig.push (by omega) (hexD b)
      have HE : Hid (hexL q ++ (hexD b :: D) = H) := by
        show _ = _
        rw [← HU.out, hexL_hi U hlt, hb, hq, List.append_assoc]
        rfl
      have HBW : Hid (Below w.heap.size w (wr.setCell ⟨w.heap.size, j, none⟩ (.int .u8 ((hexD b).toNat : Int)))) := hbel.setCell (Nat.le_refl _) _
      have HL2 : Hid (q * 16 ^ (hexD b :: D).length ≤ r) := by
        show q * 16 ^ (D.length + 1) ≤ r
        rw [Nat.pow_succ, Nat.mul_comm (16 ^ D.length) 16, ← Nat.mul_assoc]
        exact Nat.le_trans (Nat.mul_le_mul_right _ (by omega)) hle
      have hq0 : 0 < q := by omega
      have hql : q < U := by omega
      clear hdig hbel HU hle hpos hb hq
      go_wp2
      go_roundw
      case rel => exact ⟨q, j, hexD b :: D, by go_num, by go_num, HE.out, by simp; omega, HL2.out, .inr hq0, HR.out, HBW.out⟩
      case measure => simp [intOf]; omega
theorem fmt16_any (r : Nat) (w : World) (hr : r < 2147483648) (h : w.cell? ⟨9, 15, none⟩ = some (.int .u8 4)) :
    Calls Tryz.prog 137 #[.int .i64 (r : Int), .int .i64 16] w fun e w' => e = .returned (.string ⟨(hexL r).toArray⟩) ∧ Below w.heap.size w w' := by
  have h2 : Calls Tryz.prog 91 #[.int .i64 (r : Int), .int .i64 16] w fun e w' => e = .returned (.string ⟨(hexL r).toArray⟩) ∧ Below w.heap.size w w' := by
    have H : Hid (Calls Tryz.prog 107 #[.slice none 0 0, .int .u64 (r : Int), .int .i64 16, .bool false, .bool false] w fun e w' => e = .returned (.tuple #[.slice none 0 0, .string ⟨(hexL r).toArray⟩]) ∧ Below w.heap.size w w') := fbits_any r w hr h
    have d1 : decide ((r : Int) < 0) = false := by simp
    generalize (hexL r).toArray = R at *
    go_enter Tryz.func91, Tryz.ntmps91
    go_wp2_with fail
    refine H.out.mono ?_
    rintro e w1 ⟨rfl, b1⟩
    go_wp2
    go_ret
    exact ⟨rfl, b1⟩
  have H2 : Hid (Calls Tryz.prog 91 #[.int .i64 (r : Int), .int .i64 16] w fun e w' => e = .returned (.string ⟨(hexL r).toArray⟩) ∧ Below w.heap.size w w') := h2
  clear h2
  generalize (hexL r).toArray = R at *
  go_enter Tryz.func137, Tryz.ntmps137
  go_wp2_with fail
  refine H2.out.mono ?_
  rintro e w1 ⟨rfl, b1⟩
  go_wp2
  go_ret
  exact ⟨rfl, b1⟩
end Go.Proofs.YtcnnpohnfoaceaaGreatDoor.Text

/-
  Package text: how a rune stands in a literal.
-/
namespace Go.Proofs.YtcnnpohnfoaceaaGreatDoor.Text
open Go Go.RowKit
open Tx

namespace Tx
/-- how a rune stands in a literal -/
def wrt (r : Nat) : ByteArray :=
  if r = 34 ∨ r = 92 then ⟨#[92]⟩ ++ Utf8.encode (r : Int)
  else if r = 10 then ⟨#[92, 110]⟩
  else if r = 9 then ⟨#[92, 116]⟩
  else if r = 13 then ⟨#[92, 114]⟩
  else if ctl (r : Int) then hexB r
  else if among hids (r : Int) then ⟨#[92, 117, 123]⟩ ++ ⟨(hexL r).toArray⟩ ++ ⟨#[125]⟩
  else Utf8.encode (r : Int)
end Tx

theorem hexL_len : ∀ (k u : Nat), u < 16 ^ (k + 1) → (hexL u).length ≤ k + 1
  | 0, u, h => by rw [hexL_lo u (by simpa using h)]; simp
  | k + 1, u, h => by
    by_cases hu : u < 16
    · rw [hexL_lo u hu]; simp
    · rw [hexL_hi u hu, List.length_append]
      have h1 : u / 16 < 16 ^ (k + 1) := by
        rw [Nat.div_lt_iff_lt_mul (by decide), ← Nat.pow_succ]
        exact h
      have := hexL_len k (u / 16) h1
      simp
      omega
set_option maxRecDepth 100000 in
set_option maxHeartbeats 2000000 in
theorem written_any (r : Nat) (w : World) (hr : r < 2147483648) (hT : TabP 7 .i32 hids w) (hD : w.cell? ⟨9, 15, none⟩ = some (.int .u8 4)) :
    Calls Tryz.prog 122 #[.int .i32 (r : Int)] w fun e w' => e = .returned (.string (wrt r)) ∧ Below w.heap.size w w' := by
  have HT : Hid (TabP 7 .i32 hids w) := hT
  have HD : Hid (∀ w', Below w.heap.size w w' → w'.cell? ⟨9, 15, none⟩ = some (.int .u8 4)) := fun w' hb => (hb.cell (p := ⟨9, 15, none⟩) (World.block_lt_of_cell? _ _ hD)).trans hD
  clear hT hD
  have HW : Hid (wrt r = _) := rfl
  by_cases h1 : r = 34
  · subst h1
    have HE : Hid (wrt 34 = ⟨#[92]⟩ ++ Utf8.encode 34) := rfl
    clear HW
    generalize wrt 34 = W at *
    go_enter Tryz.func122, Tryz.ntmps122
    go_wp2
    go_ret
    rw [HE.out]
    exact ⟨rfl, Below.refl _ _⟩
  by_cases h2 : r = 92
  · subst h2
    have HE : Hid (wrt 92 = ⟨#[92]⟩ ++ Utf8.encode 92) := rfl
    clear HW
    generalize wrt 92 = W at *
    go_enter Tryz.func122, Tryz.ntmps122
    go_wp2
    go_ret
    rw [HE.out]
    exact ⟨rfl, Below.refl _ _⟩
  have n1 : ¬ (r = 34 ∨ r = 92) := by omega
  by_cases h3 : r = 10
  · subst h3
    have HE : Hid (wrt 10 = ⟨#[92, 110]⟩) := rfl
    clear HW
    generalize wrt 10 = W at *
    go_enter Tryz.func122, Tryz.ntmps122
    go_wp2
    go_ret
    rw [HE.out]
    exact ⟨rfl, Below.refl _ _⟩
  by_cases h4 : r = 9
  · subst h4
    have HE : Hid (wrt 9 = ⟨#[92, 116]⟩) := rfl
    clear HW
    generalize wrt 9 = W at *
    go_enter Tryz.func122, Tryz.ntmps122
    go_wp2
    go_ret
    rw [HE.out]
    exact ⟨rfl, Below.refl _ _⟩
  by_cases h5 : r = 13
  · subst h5
    have HE : Hid (wrt 13 = ⟨#[92, 114]⟩) := rfl
    clear HW
    generalize wrt 13 = W at *
    go_enter Tryz.func122, Tryz.ntmps122
    go_wp2
    go_ret
    rw [HE.out]
    exact ⟨rfl, Below.refl _ _⟩
  have e1 : ((r : Int) == 34) = false := by simp; omega
  have e2 : ((r : Int) == 92) = false := by simp; omega
  have e3 : ((r : Int) == 10) = false := by simp; omega
  have e4 : ((r : Int) == 9) = false := by simp; omega
  have e5 : ((r : Int) == 13) = false := by simp; omega
  clear HW
  cases hc : ctl (r : Int) with
  | true =>
    have HE : Hid (wrt r = hexB r) := by show _ = _; unfold wrt; rw [if_neg n1, if_neg h3, if_neg h4, if_neg h5, if_pos hc]
    have HC : Hid (ctl (r : Int) = true) := hc
    have hr8 : r < 256 := by
      unfold ctl at hc
      simp at hc
      omega
    generalize wrt r = W at *
    clear hc h1 h2 h3 h4 h5 n1
    go_enter Tryz.func122, Tryz.ntmps122
    go_wp2_with fail
    refine (control_any _ _).mono ?_
    rw [HC.out]
    rintro e w1 ⟨rfl, rfl⟩
    go_wp2_with fail
    refine (hexb_any r _ hr8).mono ?_
    rintro e w1 ⟨rfl, b1⟩
    go_wp2
    go_ret
    rw [HE.out]
    exact ⟨rfl, b1⟩
  | false =>
    have HC : Hid (ctl (r : Int) = false) := hc
    cases hh : among hids (r : Int) with
    | true =>
      have HE : Hid (wrt r = ⟨#[92, 117, 123]⟩ ++ ⟨(hexL r).toArray⟩ ++ ⟨#[125]⟩) := by show _ = _; unfold wrt; rw [if_neg n1, if_neg h3, if_neg h4, if_neg h5, if_neg (by simp [hc]), if_pos hh]
      have HH : Hid (among hids (r : Int) = true) := hh
      generalize wrt r = W at *
      clear hc hh h1 h2 h3 h4 h5 n1
      go_enter Tryz.func122, Tryz.ntmps122
      go_wp2_with fail
      refine (control_any _ _).mono ?_
      rw [HC.out]
      rintro e w1 ⟨rfl, rfl⟩
      go_wp2_with fail
      refine (hidden_any _ _ HT.out).mono ?_
      rw [HH.out]
      rintro e w1 ⟨rfl, b1⟩
      go_wp2_with fail
      refine (fmt16_any r _ hr (HD.out _ b1)).mono ?_
      rintro e w2 ⟨rfl, b2⟩
      have B2 := andThen b1 b2
      clear b1 b2
      have hX : (hexL r).toArray.size ≤ 8 := by
        have := hexL_len 7 r (by omega)
        simpa using this
      generalize (hexL r).toArray = X at *
      have hX2 : (⟨X⟩ : ByteArray).size ≤ 8 := hX
      go_wp2
      go_ret
      rw [HE.out]
      exact ⟨rfl, B2⟩
    | false =>
      have HE : Hid (wrt r = Utf8.encode (r : Int)) := by show _ = _; unfold wrt; rw [if_neg n1, if_neg h3, if_neg h4, if_neg h5, if_neg (by simp [hc]), if_neg (by simp [hh])]
      have HH : Hid (among hids (r : Int) = false) := hh
      generalize wrt r = W at *
      clear hc hh h1 h2 h3 h4 h5 n1
      go_enter Tryz.func122, Tryz.ntmps122
      go_wp2_with fail
      refine (control_any _ _).mono ?_
      rw [HC.out]
      rintro e w1 ⟨rfl, rfl⟩
      go_wp2_with fail
      refine (hidden_any _ _ HT.out).mono ?_
      rw [HH.out]
      rintro e w1 ⟨rfl, b1⟩
      go_wp2
      go_ret
      rw [HE.out]
      exact ⟨rfl, b1⟩
end Go.Proofs.YtcnnpohnfoaceaaGreatDoor.Text

/-
  Package text: Quote.
-/
namespace Go.Proofs.YtcnnpohnfoaceaaGreatDoor.Text
open Go Go.RowKit Go.Lib
open Tx

namespace Tx
/-- how the piece at p stands in a literal -/
def pcW (s : ByteArray) (p : Nat) : ByteArray := if stray s p then hexB (at' s p) else wrt (Utf8.decode s p).1
/-- how all from p on stands in a literal -/
def qs (s : ByteArray) (p : Nat) : List UInt8 := if _h : p < s.size then (pcW s p).data.toList ++ qs s (p + (Utf8.decode s p).2) else []
termination_by s.size - p
decreasing_by
  have := decode_fits s p (by assumption)
  omega
theorem qs_in (s : ByteArray) (p : Nat) (h : p < s.size) : qs s p = (pcW s p).data.toList ++ qs s (p + (Utf8.decode s p).2) := by rw [qs, dif_pos h]
theorem qs_out (s : ByteArray) (p : Nat) (h : ¬ p < s.size) : qs s p = [] := by rw [qs, dif_neg h]
/-- the literal -/
def quo (s : ByteArray) : ByteArray := ⟨(34 :: (qs s 0 ++ [34])).toArray⟩
def bc (l : List UInt8) : List Value := l.map fun b => Value.int .u8 (b.toNat : Int)
theorem bc_len (l : List UInt8) : (bc l).length = l.length := by simp [bc]
theorem encode_le (r : Int) : (Utf8.encode r).size ≤ 4 := by
  have key : ∀ c : Nat, (if c < 0x80 then (⟨#[UInt8.ofNat c]⟩ : ByteArray) else if c < 0x800 then ⟨#[UInt8.ofNat (0xC0 + c / 64), UInt8.ofNat (0x80 + c % 64)]⟩ else if c < 0x10000 then ⟨#[UInt8.ofNat (0xE0 + c / 4096), UInt8.ofNat (0x80 + c / 64 % 64), UInt8.ofNat (0x80 + c % 64)]⟩ else ⟨#[UInt8.ofNat (0xF0 + c / 262144), UInt8.ofNat (0x80 + c / 4096 % 64), UInt8.ofNat (0x80 + c / 64 % 64), UInt8.ofNat (0x80 + c % 64)]⟩).size ≤ 4 := by
    intro c
    split
    · show (1 : Nat) ≤ 4; omega
    · split
      · show (2 : Nat) ≤ 4; omega
      · split
        · show (3 : Nat) ≤ 4; omega
        · show (4 : Nat) ≤ 4; omega
  exact key _
theorem wrt_le (r : Nat) (hr : r < 2147483648) : (wrt r).size ≤ 12 := by
  have he := encode_le (r : Int)
  have hx : (hexL r).length ≤ 8 := hexL_len 7 r (by omega)
  unfold wrt
  repeat' split
  · rw [ByteArray.size_append]
    have : (⟨#[92]⟩ : ByteArray).size = 1 := rfl
    omega
  · show (2 : Nat) ≤ 12; omega
  · show (2 : Nat) ≤ 12; omega
  · show (2 : Nat) ≤ 12; omega
  · show (4 : Nat) ≤ 12; omega
  · rw [ByteArray.size_append, ByteArray.size_append]
    have h1 : (⟨#[92, 117, 123]⟩ : ByteArray).size = 3 := rfl
    have h2 : (⟨#[125]⟩ : ByteArray).size = 1 := rfl
    have h3 : (⟨(hexL r).toArray⟩ : ByteArray).size = (hexL r).length := by
      show (hexL r).toArray.size = _
      simp
    omega
  · omega
theorem pcW_le (s : ByteArray) (p : Nat) : (pcW s p).size ≤ 12 := by
  unfold pcW
  split
  · show (4 : Nat) ≤ 12; omega
  · exact wrt_le _ (by have := decode_le s p; omega)
end Tx
theorem info5q : ∃ i, Tryz.prog.info? 5 = some i ∧ i.zero = some (.int .u8 0) ∧ i.size = 1 ∧ i.bytes = 1 := by
  have h : (Tryz.prog.info? 5).map (fun i => (i.zero, i.size, i.bytes)) = some (some (.int .u8 0), 1, 1) := by kernel_rfl
  exact info_parts3 h

/-- bytes in a row of the call's own -/
def Ro (B : Nat) (w : World) (v : Value) (l : List UInt8) : Prop := w.ownsRow B 5 1 v l.length (bc l)
theorem Ro.kept {B : Nat} {w w' : World} {v : Value} {l : List UInt8} (h : Ro B w v l) (hb : Below w.heap.size w w') : Ro B w' v l := by
  refine ⟨h.1, ?_⟩
  rcases h.2 with h1 | ⟨g, cap, cur, rfl, h1, hg, rest⟩
  · exact .inl h1
  · exact .inr ⟨g, cap, cur, rfl, h1, (hb.block g (Array.getElem?_eq_some_iff.1 hg).1).trans hg, rest⟩
theorem Ro.iter {B : Nat} {w : World} {v : Value} {l : List UInt8} {k : Nat} {s t : ByteArray} {p q : Nat} (h : Ro B w v l) (hk : w.heap[k]? = some (.stringIter t q)) : Ro B (setIter w k s p) v l := by
  refine ⟨h.1, ?_⟩
  rcases h.2 with h1 | ⟨g, cap, cur, rfl, h1, hg, rest⟩
  · exact .inl h1
  · refine .inr ⟨g, cap, cur, rfl, h1, ?_, rest⟩
    have hne : k ≠ g := by
      intro e
      rw [e, hg] at hk
      cases hk
    show (w.heap.setIfInBounds k _)[g]? = _
    rw [Array.getElem?_setIfInBounds_ne hne]
    exact hg
/-- the iterator stays while the row is written -/
theorem iter_grown {B : Nat} {w w' : World} {v : Value} {l : List UInt8} {k : Nat} {t : ByteArray} {q : Nat} (h : Ro B w v l) (hk : w.heap[k]? = some (.stringIter t q)) (hg : w.grownBy w' v.ownBlock) : w'.heap[k]? = some (.stringIter t q) := by
  rw [hg.block k (Array.getElem?_eq_some_iff.1 hk).1 ?_]
  · exact hk
  · intro e
    rcases h.2 with ⟨rfl, _⟩ | ⟨g, cap, cur, rfl, _, hgg, _⟩
    · simp [Value.ownBlock] at e
    · simp [Value.ownBlock] at e
      subst e
      rw [hgg] at hk
      cases hk
theorem Ro.below {w0 w w' : World} {v : Value} {l : List UInt8} (h : Ro w0.heap.size w v l) (hb : Below w0.heap.size w0 w) (hg : w.grownBy w' v.ownBlock) : Below w0.heap.size w0 w' :=
  hb.grown hg hb.size (fun k hk => (World.ownsRow.lt h k hk).1)
/-- append(v, str...) -/
theorem wpList_app_str {P : Program} (w : World) {ops : Array Oper} {rest : List Oper} {o : Oper} {a : Act} {Q : Exit → Act → World → Prop} (hgd : o.guard = none) (sl x : Operand) (t u : TypeId)
    (ho : o.op = .call { callee := .builtin .append, args := #[sl, x], argTypes := #[t, u] })
    (B : Nat) (hinfo : ∃ i, P.info? 5 = some i ∧ i.zero = some (.int .u8 0) ∧ i.size = 1 ∧ i.bytes = 1) (ht : P.underlying t = some (.slice 5)) (hu : P.underlying u = some .string)
    (v : Value) (l : List UInt8) (hv : a.eval sl = v) (h : Ro B w v l) (s : ByteArray) (hx : a.eval x = .string s) (hl : l.length ≤ 100000000) (hs : s.size ≤ 12) (hB : B ≤ w.heap.size)
    (hK : ∀ v' w', Ro B w' v' (l ++ s.data.toList) → w.grownBy w' v.ownBlock → wpList P ops Q rest (a.put o.dst v') w') : wpList P ops Q (o :: rest) a w := by
  obtain ⟨i, hi, hz, h1, h2⟩ := hinfo
  refine wpList_append_own_string w hgd sl x t u ho B 5 i ht hu hi hz h1 h2 v l.length (bc l) hv h s hx (by unfold maxLen; omega) (by omega) hB fun v' w' h3 h4 _ => hK v' w' ?_ h4
  show w'.ownsRow B 5 1 v' (l ++ s.data.toList).length (bc (l ++ s.data.toList))
  have e : (l ++ s.data.toList).length = l.length + s.size := by rw [List.length_append, Array.length_toList]; rfl
  rw [e]
  have e2 : bc (l ++ s.data.toList) = bc l ++ strCells s := by simp [bc, strCells]
  rw [e2]
  exact h3
/-- append(v, c) of one byte -/
theorem wpList_app_one {P : Program} (w : World) {ops : Array Oper} {rest : List Oper} {o : Oper} {a : Act} {Q : Exit → Act → World → Prop} (hgd : o.guard = none) (s x : Operand) (t : TypeId)
    (ho : o.op = .call { callee := .builtin .append, args := #[s, x], argTypes := #[t, t] })
    (B : Nat) (hinfo : ∃ i, P.info? 5 = some i ∧ i.zero = some (.int .u8 0) ∧ i.size = 1 ∧ i.bytes = 1) (ht : P.underlying t = some (.slice 5))
    (v : Value) (l : List UInt8) (hv : a.eval s = v) (h : Ro B w v l) (g : Nat) (c : UInt8) (hx : a.eval x = .slice (some ⟨g, 0, none⟩) 1 1) (hc : w.cell? ⟨g, 0, none⟩ = some (.int .u8 (c.toNat : Int))) (hl : l.length ≤ 100000000) (hB : B ≤ w.heap.size)
    (hK : ∀ v' w', Ro B w' v' (l ++ [c]) → w.grownBy w' v.ownBlock → wpList P ops Q rest (a.put o.dst v') w') : wpList P ops Q (o :: rest) a w := by
  obtain ⟨i, hi, hz, h1, h2⟩ := hinfo
  refine wpList_append_own w hgd s x t ho B 5 i (.int .u8 0) 1 1 ht hi hz h1 h2 rfl (by decide) v l.length (bc l) hv h ⟨g, 0, none⟩ 1 1 [.int .u8 (c.toNat : Int)] hx rfl ?_ (by intro u hu; simp at hu; subst hu; rfl) (by unfold maxLen; omega) (by omega) hB fun v' w' h3 h4 _ => hK v' w' ?_ h4
  · intro j u hj
    match j, hj with
    | 0, hj =>
      simp at hj
      subst hj
      rw [Addr.add_lit]
      exact hc
  · show w'.ownsRow B 5 1 v' (l ++ [c]).length (bc (l ++ [c]))
    have e2 : bc (l ++ [c]) = bc l ++ [.int .u8 (c.toNat : Int)] := by simp [bc]
    rw [List.length_append, e2]
    exact h3
/-- string(v) -/
theorem Ro.str {B : Nat} {w : World} {v : Value} {l : List UInt8} (h : Ro B w v l) (hl : 0 < l.length) : (convert 92 9 v).run Tryz.prog w = .ok (.string ⟨l.toArray⟩) w := by
  have h0 := h
  rcases h.2 with ⟨_, h1⟩ | ⟨g, cap, cur, rfl, hb, hg, h1, h2, h3, h4⟩
  · omega
  · refine run_convert_bytes_back w 92 9 5 ⟨g, 0, none⟩ cap l Tryz.underlying92 Tryz.underlying5 Tryz.underlying9 (fun j hj => ?_)
    rw [Addr.add_lit, Nat.zero_add, World.ownsRow.cellAt h0 j (by omega)]
    simp [bc, hj]
theorem Ro.shape {B : Nat} {w : World} {v : Value} {l : List UInt8} (h : Ro B w v l) : ∃ ao cap, v = .slice ao l.length cap := by
  rcases h.2 with ⟨rfl, h1⟩ | ⟨g, cap, cur, rfl, _⟩
  · exact ⟨none, 0, by rw [h1]⟩
  · exact ⟨_, cap, rfl⟩

set_option maxRecDepth 100000 in
set_option maxHeartbeats 2000000 in
theorem quote_any (s : ByteArray) (w : World) (hs : s.size ≤ 8000000) (hT : TabP 7 .i32 hids w) (hD : w.cell? ⟨9, 15, none⟩ = some (.int .u8 4)) :
    Calls Tryz.prog 99 #[.string s] w fun e w' => e = .returned (.string (quo s)) ∧ Below w.heap.size w w' := by
  have hin := info5q
  obtain ⟨i0, hi0, hz0, hz1, hz2⟩ := info5q
  have HT : Hid (∀ w', Below w.heap.size w w' → TabP 7 .i32 hids w') := fun w' hb => hT.kept hb
  have HD : Hid (∀ w', Below w.heap.size w w' → w'.cell? ⟨9, 15, none⟩ = some (.int .u8 4)) := fun w' hb => (hb.cell (p := ⟨9, 15, none⟩) (World.block_lt_of_cell? _ _ hD)).trans hD
  obtain ⟨T, hTT⟩ : ∃ T, 34 :: qs s 0 = T := ⟨_, rfl⟩
  have HQ : Hid (quo s = ⟨(T ++ [34]).toArray⟩) := by show _ = _; unfold quo; rw [← hTT]; rfl
  have HQ0 : Hid ([34] ++ qs s 0 = T) := by show _ = _; rw [← hTT]; rfl
  clear hT hD hTT
  generalize quo s = Z at *
  go_enter Tryz.func99, Tryz.ntmps99
  go_wp2_with (at_make; refine wpList_make_own _ rfl _ _ 92 rfl w.heap.size 5 i0 (.int .u8 0) 1 Tryz.underlying92 hi0 hz0 hz1 _ _ _ (s.size + 2) rfl rfl (by omega) (by rw [hz2]; omega) (by unfold maxLen; omega) (Nat.le_refl _) ?_)
  intro w1 hown hgr
  have B1 : Below w.heap.size w w1 := (Below.refl _ w).grown hgr (Nat.le_refl _) (fun k hk => by cases hk)
  have R1 : Hid (∀ o, Ro w.heap.size (w1.alloc o) (.slice (some ⟨w.heap.size, 0, none⟩) 0 (s.size + 2)) []) := fun o => (show Ro w.heap.size w1 (.slice (some ⟨w.heap.size, 0, none⟩) 0 (s.size + 2)) [] from hown).kept (up0 _ _)
  have hs1 := B1.size
  have HB1 : Hid (∀ o, Below w.heap.size w (w1.alloc o)) := fun o => up B1 o
  clear hown hgr B1
  go_wp2_with (at_builtin; refine wpList_app_one _ rfl (.tmp 10) (.tmp 11) 92 rfl w.heap.size hin Tryz.underlying92 _ [] rfl (R1.out _) _ 34 rfl (World.cell?_alloc_new w1 _ _ 0) (by simp) (by simp; omega) ?_)
  intro v2 w2 hr2 hg2
  have B2 : Below w.heap.size w w2 := (R1.out _).below (HB1.out _) hg2
  have HR2 : Hid (Ro w.heap.size w2 v2 [34]) := hr2
  have HB2 : Hid (Below w.heap.size w w2) := B2
  obtain ⟨ao2, cap2, e2⟩ := hr2.shape
  obtain rfl : v2 = .slice ao2 1 cap2 := e2
  have HI : Hid ((w2.iter s 0).heap[w2.heap.size]? = some (.stringIter s 0)) := World.iter_heap w2 s 0
  have HRI : Hid (Ro w.heap.size (w2.iter s 0) (.slice ao2 1 cap2) [34]) := HR2.out.kept (up_iter w2 s 0)
  have HBI : Hid (Below w.heap.size w (w2.iter s 0)) := andThen HB2.out (up_iter w2 s 0)
  have hsz2 : w.heap.size ≤ w2.heap.size := B2.size
  clear hr2 hg2 B2 R1 HB1
  go_wp2
  go_loopw [3] (fun o wr => ∃ (p : Nat) (L : List UInt8), Ro w.heap.size wr o L ∧ L ++ qs s p = T ∧ L.length ≤ 1 + 12 * p ∧ p ≤ s.size ∧ wr.heap[w2.heap.size]? = some (.stringIter s p) ∧ Below w.heap.size w wr) (fun _ wr => s.size - wr.iterPos w2.heap.size)
  case atStart => exact ⟨0, [34], HRI.out, HQ0.out, by simp, Nat.zero_le _, HI.out, HBI.out⟩
  case round =>
    obtain ⟨p, L, hro, hL, hlen, hp, hit, hbel⟩ := hrel
    have HL : Hid (L ++ qs s p = T) := hL
    have HPOS : Hid (wr.iterPos w2.heap.size = p) := iter_pos hit
    clear hL HI HRI HBI HQ0 HR2 HB2
    by_cases hlt : p < s.size
    · have hd := decode_fits s p hlt
      have hnx : ∀ ty, (Instr.next (.pointer (some ⟨w2.heap.size, 0, none⟩)) true ty).run Tryz.prog wr = _ := fun ty => run_next_at wr w2.heap.size s p ty hit hlt
      have hI2 : (setIter wr w2.heap.size s (p + (Utf8.decode s p).2)).heap[w2.heap.size]? = some (.stringIter s (p + (Utf8.decode s p).2)) := iter_at wr w2.heap.size s _ _ hit
      have hB2 : Below w.heap.size w (setIter wr w2.heap.size s (p + (Utf8.decode s p).2)) := below_iter hbel _ hsz2 s _
      have hR2 : Ro w.heap.size (setIter wr w2.heap.size s (p + (Utf8.decode s p).2)) u3 L := hro.iter hit
      obtain ⟨ao3, cap3, rfl⟩ := hro.shape
      clear hbel hit hro
      generalize setIter wr w2.heap.size s (p + (Utf8.decode s p).2) = w3 at *
      have HST : Hid (∀ w', Calls Tryz.prog 54 #[.string s, .int .i64 (p : Int), .int .i32 ((Utf8.decode s p).1 : Int)] w' fun e w'' => e = .returned (.bool (stray s p)) ∧ w'' = w') := fun w' => stray_any s p w' hlt
      have HP12 : Hid ((pcW s p).size ≤ 12) := pcW_le s p
      have HNX : Hid ((L ++ (pcW s p).data.toList) ++ qs s (p + (Utf8.decode s p).2) = T) := by show _ = _; rw [← HL.out, qs_in s p hlt, List.append_assoc]
      have hr31 := decode_le s p
      have g0 := at_get s p hlt
      have ha0 := at_lt s p
      cases hst : stray s p with
      | true =>
        have HE : Hid (pcW s p = hexB (at' s p)) := by show _ = _; unfold pcW; rw [if_pos hst]
        rw [hst] at HST
        generalize hx0 : s[p]'hlt = x0 at *
        rw [g0] at HE ha0
        clear g0 hst
        obtain ⟨r, hr⟩ : ∃ r : Nat, (Utf8.decode s p).1 = r := ⟨_, rfl⟩
        rw [hr] at hnx HST
        clear hr hr31
        go_wp2_with fail
        refine (HST.out _).mono ?_
        rintro e w4 ⟨rfl, rfl⟩
        go_wp2_with fail
        refine (hexb_any x0.toNat _ ha0).mono ?_
        rw [← HE.out]
        rintro e w5 ⟨rfl, b5⟩
        have B5 := andThen hB2 b5
        have HR5 : Hid (Ro w.heap.size w5 (.slice ao3 L.length cap3) L) := hR2.kept b5
        have hI5 := (b5.block w2.heap.size (Array.getElem?_eq_some_iff.1 hI2).1).trans hI2
        have hs5 := B5.size
        clear b5 hB2 hR2 hI2 HE
        generalize pcW s p = W at *
        go_wp2_with (at_builtin; refine wpList_app_str _ rfl (.tmp 23) (.tmp 27) 92 9 rfl w.heap.size hin Tryz.underlying92 Tryz.underlying9 _ L rfl HR5.out W rfl (by omega) HP12.out hs5 ?_)
        intro v6 w6 hr6 hg6
        have HRL : Hid (Ro w.heap.size w6 v6 (L ++ W.data.toList) ∧ w6.heap[w2.heap.size]? = some (.stringIter s (p + (Utf8.decode s p).2)) ∧ Below w.heap.size w w6) := ⟨hr6, iter_grown HR5.out hI5 hg6, HR5.out.below B5 hg6⟩
        have HPS : Hid (w6.iterPos w2.heap.size = p + (Utf8.decode s p).2) := iter_pos HRL.out.2.1
        have HWL : Hid ((L ++ W.data.toList).length ≤ 1 + 12 * (p + (Utf8.decode s p).2)) := by
          have h1 := HP12.out
          have h2 : W.data.toList.length = W.size := by rw [Array.length_toList]; rfl
          show (L ++ W.data.toList).length ≤ _
          rw [List.length_append, h2]
          omega
        clear hr6 hg6 HR5 hI5 B5
        go_wp2
        go_roundw
        case rel => exact ⟨p + (Utf8.decode s p).2, L ++ W.data.toList, HRL.out.1, HNX.out, HWL.out, hd.2.1, HRL.out.2.1, HRL.out.2.2⟩
        case measure => rw [HPS.out, HPOS.out]; omega
      | false =>
        have HE : Hid (pcW s p = wrt (Utf8.decode s p).1) := by show _ = _; unfold pcW; rw [if_neg (by simp [hst])]
        rw [hst] at HST
        clear g0 hst ha0
        obtain ⟨r, hr⟩ : ∃ r : Nat, (Utf8.decode s p).1 = r := ⟨_, rfl⟩
        rw [hr] at hnx HST HE hr31
        clear hr
        go_wp2_with fail
        refine (HST.out _).mono ?_
        rintro e w4 ⟨rfl, rfl⟩
        go_wp2_with fail
        refine (written_any r _ (by omega) (HT.out _ hB2) (HD.out _ hB2)).mono ?_
        rw [← HE.out]
        rintro e w5 ⟨rfl, b5⟩
        have B5 := andThen hB2 b5
        have HR5 : Hid (Ro w.heap.size w5 (.slice ao3 L.length cap3) L) := hR2.kept b5
        have hI5 := (b5.block w2.heap.size (Array.getElem?_eq_some_iff.1 hI2).1).trans hI2
        have hs5 := B5.size
        clear b5 hB2 hR2 hI2 HE
        generalize pcW s p = W at *
        go_wp2_with (at_builtin; refine wpList_app_str _ rfl (.tmp 29) (.tmp 31) 92 9 rfl w.heap.size hin Tryz.underlying92 Tryz.underlying9 _ L rfl HR5.out W rfl (by omega) HP12.out hs5 ?_)
        intro v6 w6 hr6 hg6
        have HRL : Hid (Ro w.heap.size w6 v6 (L ++ W.data.toList) ∧ w6.heap[w2.heap.size]? = some (.stringIter s (p + (Utf8.decode s p).2)) ∧ Below w.heap.size w w6) := ⟨hr6, iter_grown HR5.out hI5 hg6, HR5.out.below B5 hg6⟩
        have HPS : Hid (w6.iterPos w2.heap.size = p + (Utf8.decode s p).2) := iter_pos HRL.out.2.1
        have HWL : Hid ((L ++ W.data.toList).length ≤ 1 + 12 * (p + (Utf8.decode s p).2)) := by
          have h1 := HP12.out
          have h2 : W.data.toList.length = W.size := by rw [Array.length_toList]; rfl
          show (L ++ W.data.toList).length ≤ _
          rw [List.length_append, h2]
          omega
        clear hr6 hg6 HR5 hI5 B5
        go_wp2
        go_roundw
        case rel => exact ⟨p + (Utf8.decode s p).2, L ++ W.data.toList, HRL.out.1, HNX.out, HWL.out, hd.2.1, HRL.out.2.1, HRL.out.2.2⟩
        case measure => rw [HPS.out, HPOS.out]; omega
    · have hnx : ∀ ty, (Instr.next (.pointer (some ⟨w2.heap.size, 0, none⟩)) true ty).run Tryz.prog wr = _ := fun ty => run_next_over wr w2.heap.size s p ty hit hlt
      have HF : Hid (L = T) := by
        show _ = _
        have := HL.out
        rw [qs_out s p hlt, List.append_nil] at this
        exact this
      obtain ⟨ao3, cap3, rfl⟩ := hro.shape
      have HR5 : Hid (∀ o, Ro w.heap.size (wr.alloc o) (.slice ao3 L.length cap3) L) := fun o => hro.kept (up0 _ _)
      have HB5 : Hid (∀ o, Below w.heap.size w (wr.alloc o)) := fun o => up hbel o
      have hs5 := hbel.size
      clear hro hbel hit HL
      go_wp2_with (at_builtin; refine wpList_app_one _ rfl (.tmp 33) (.tmp 34) 92 rfl w.heap.size hin Tryz.underlying92 _ L rfl (HR5.out _) _ 34 rfl (World.cell?_alloc_new wr _ _ 0) (by omega) (by simp; omega) ?_)
      intro v6 w6 hr6 hg6
      have HB6 : Hid (Below w.heap.size w w6) := (HR5.out _).below (HB5.out _) hg6
      have hcv := hr6.str (by simp)
      obtain ⟨ao6, cap6, e6⟩ := hr6.shape
      rw [List.length_append] at e6
      obtain rfl : v6 = .slice ao6 (L.length + 1) cap6 := e6
      have HFF : Hid (Z = ⟨(L ++ [34]).toArray⟩) := by show _ = _; rw [HQ.out, HF.out]
      rw [← HFF.out] at hcv
      clear hr6 hg6 HR5 HB5
      go_wp2
      go_ret
      exact ⟨rfl, HB6.out⟩
end Go.Proofs.YtcnnpohnfoaceaaGreatDoor.Text
