/-
  Package text: control, hidden, hexByte.
-/
import Derived.Test.YtbabckchfabbkaaDoorLet
import Derived.Laws.IdiomStrings
import Derived.Laws.Concat
import Derived.Deep.QuietTactic
import Derived.BigQuiet
import Derived.WalkSmall
namespace Go.Proofs.YtbabckchfabbkaaDoor
open Go Go.RowKit
open Tx

namespace Tx
def ctl (r : Int) : Bool := decide (r < 32) || decide (r = 127)
/-- a lower hexadecimal digit -/
def hexD (n : Nat) : UInt8 := if n < 10 then UInt8.ofNat (48 + n) else UInt8.ofNat (87 + n)
/-- a byte's escape -/
def hexB (c : Nat) : ByteArray := ⟨#[92, 120, hexD (c / 16), hexD (c % 16)]⟩
end Tx
theorem control_any (r : Int) (w : World) :
    Calls Tryd.prog 51 #[.int .i32 r] w fun e w' => e = .returned (.bool (ctl r)) ∧ w' = w := by
  by_cases h1 : r < 32
  · have H1 : Hid (ctl r = true) := by show _ = _; unfold ctl; rw [decide_eq_true h1, Bool.true_or]
    rw [H1.out]
    go_enter Tryd.func51, Tryd.ntmps51
    go_wp2
    go_ret
    exact ⟨rfl, rfl⟩
  · by_cases h2 : r = 127
    · have H1 : Hid (ctl r = true) := by show _ = _; unfold ctl; rw [decide_eq_true h2, Bool.or_true]
      rw [H1.out]
      subst h2
      go_enter Tryd.func51, Tryd.ntmps51
      go_wp2
      go_ret
      exact ⟨rfl, rfl⟩
    · have H1 : Hid (ctl r = false) := by show _ = _; unfold ctl; rw [decide_eq_false h1, decide_eq_false h2]; rfl
      rw [H1.out]
      have e1 : (r == 127) = false := by simp [h2]
      go_enter Tryd.func51, Tryd.ntmps51
      go_wp2
      go_ret
      exact ⟨rfl, rfl⟩
theorem infoHids : (Tryd.prog.info? 102).map (·.size) = some 16 := by kernel_rfl
set_option maxRecDepth 100000 in
theorem hidden_any (r : Int) (w : World) (hT : TabP 3 .i32 hids w) :
    Calls Tryd.prog 52 #[.int .i32 r] w fun e w' => e = .returned (.bool (among hids r)) ∧ Below w.heap.size w w' := by
  have HIX : Hid (∀ w' (i : Nat) (hi : i < hids.length), (Instr.index 102 (.agg ((flat hids).map fun z => Value.int .i32 z).toArray) (.int .i64 (i : Int))).run Tryd.prog w' = .ok (.agg #[.int .i32 hids[i].1, .int .i32 hids[i].2]) w') :=
    fun w' i hi => run_index_pair w' 102 99 8 _ .i32 hids i hi rfl Tryd.underlying102 Tryd.underlying99 rfl infoSpan
  have HR := hT.range
  generalize hC : ((flat hids).map fun z => Value.int .i32 z) = C at *
  have HL : Hid (hids.length = 8) := rfl
  have HN : Hid ((Tryd.prog.info? 102).map (·.size) = some C.length) := by show _ = _; rw [← hC]; exact infoHids
  clear hC hT
  go_enter Tryd.func52, Tryd.ntmps52
  go_wp2_with (refine wpList_load_mid rfl 102 _ rfl 3 0 rfl C _ HR Tryd.underlying102 rfl HN.out ?_)
  clear HR HN
  have H0 : Hid (among (hids.take 0) r = false) := rfl
  go_loopw [6] (fun i wr => ∃ k : Nat, k ≤ 8 ∧ i = .int .i64 (k : Int) ∧ among (hids.take k) r = false ∧ Below w.heap.size w wr) (fun i _ => 8 - (intOf i).toNat)
  case atStart => exact ⟨0, by omega, rfl, H0.out, Below.refl _ _⟩
  case round =>
    obtain ⟨k, hk, rfl, ha, hbel⟩ := hrel
    have HA : Hid (among (hids.take k) r = false) := ha
    clear ha
    by_cases hlt : k < 8
    · have hkl : k < hids.length := by rw [HL.out]; exact hlt
      have hix := fun w' => HIX.out w' k hkl
      have HS : Hid (among (hids.take (k + 1)) r = (among (hids.take k) r || (decide (hids[k].1 ≤ r) && decide (r ≤ hids[k].2)))) := among_take hids r k hkl
      have HY : Hid (hids[k].1 ≤ r → r ≤ hids[k].2 → among hids r = true) := among_yes hids r k hkl
      generalize hids[k].1 = lo at *
      generalize hids[k].2 = hi at *
      clear HIX hkl
      go_wp2_with fail
      refine (has_any lo hi r _).mono ?_
      rintro e w1 ⟨rfl, b1⟩
      have hb1 := andThen (up hbel _) b1
      clear b1 hbel hix
      by_cases hh : lo ≤ r ∧ r ≤ hi
      · have HT : Hid ((decide (lo ≤ r) && decide (r ≤ hi)) = true) := by show _ = _; simp [hh]
        have HY2 : Hid (among hids r = true) := HY.out hh.1 hh.2
        rw [HT.out]
        clear HY HS
        go_wp2
        go_ret
        rw [HY2.out]
        exact ⟨rfl, hb1⟩
      · have HT : Hid ((decide (lo ≤ r) && decide (r ≤ hi)) = false) := by show _ = _; simp; omega
        have HS2 : Hid (among (hids.take (k + 1)) r = false) := by show _ = _; rw [HS.out, HA.out, HT.out]; rfl
        rw [HT.out]
        clear HY HS
        go_wp2
        go_roundw
        case rel => exact ⟨k + 1, by omega, by go_num, HS2.out, hb1⟩
        case measure => simp [intOf]; omega
    · obtain rfl : k = 8 := by omega
      have HF : Hid (among hids r = false) := HA.out
      go_wp2
      go_ret
      rw [HF.out]
      exact ⟨rfl, hbel⟩
theorem hexD_idx (n : Nat) (h : n < 16) : ((⟨#[48, 49, 50, 51, 52, 53, 54, 55, 56, 57, 97, 98, 99, 100, 101, 102]⟩ : ByteArray)[n]'h) = hexD n := by
  have key : ∀ n, (h : n < 16) → ((⟨#[48, 49, 50, 51, 52, 53, 54, 55, 56, 57, 97, 98, 99, 100, 101, 102]⟩ : ByteArray)[n]'h) = hexD n := by decide +kernel
  exact key n h
/-- two bytes of a new row as a string -/
theorem two_str (w : World) (g : Nat) (x y : UInt8) (hc0 : w.cell? ⟨g, 0, none⟩ = some (.int .u8 (x.toNat : Int))) (hc1 : w.cell? ⟨g, 1, none⟩ = some (.int .u8 (y.toNat : Int))) :
    (convert 66 9 (.slice (some ⟨g, 0, none⟩) 2 2)).run Tryd.prog w = .ok (.string ⟨#[x, y]⟩) w := by
  refine run_convert_bytes_back w 66 9 5 ⟨g, 0, none⟩ 2 [x, y] Tryd.underlying66 Tryd.underlying5 Tryd.underlying9 (fun j hj => ?_)
  match j, hj with
  | 0, _ => rw [Addr.add_lit]; exact hc0
  | 1, _ => rw [Addr.add_lit]; exact hc1
theorem two_app (x y : UInt8) : (⟨#[92, 120]⟩ : ByteArray) ++ ⟨#[x, y]⟩ = ⟨#[92, 120, x, y]⟩ := by
  apply ByteArray.ext
  simp
theorem hexb_any (c : Nat) (w : World) (hc : c < 256) :
    Calls Tryd.prog 33 #[.int .u8 (c : Int)] w fun e w' => e = .returned (.string (hexB c)) ∧ Below w.heap.size w w' := by
  obtain ⟨a, ha⟩ : ∃ a, c / 16 = a := ⟨_, rfl⟩
  obtain ⟨b, hb⟩ : ∃ b, c % 16 = b := ⟨_, rfl⟩
  have HB : Hid (hexB c = ⟨#[92, 120, hexD a, hexD b]⟩) := by show _ = _; unfold hexB; rw [ha, hb]
  have q1 : (c : Int) / 16 = (a : Int) := by omega
  have q2 : (c : Int) % 16 = (b : Int) := by omega
  have e1 : bits .and .u8 (c : Int) 15 = (b : Int) := by
    have h0 := u8_and_nat c 15 hc (by decide)
    have e : c &&& 15 = c % 16 := Nat.and_two_pow_sub_one_eq_mod c 4
    rw [e, hb] at h0
    exact h0
  have hc1 : a < 16 := by omega
  have hc2 : b < 16 := by omega
  have hi1 : (a : Int) < 16 := by omega
  have hi2 : (b : Int) < 16 := by omega
  have hx1 := hexD_idx a hc1
  have hx2 := hexD_idx b hc2
  have hcw := two_str (w.alloc (.cells #[.int .u8 ((hexD a).toNat : Int), .int .u8 ((hexD b).toNat : Int)] 5)).drew w.heap.size (hexD a) (hexD b) (World.cell?_alloc_new w _ _ 0) (World.cell?_alloc_new w _ _ 1)
  clear ha hb
  go_enter Tryd.func33, Tryd.ntmps33
  go_wp2
  go_region
  all_goals
    go_wp2
    go_ret
    refine ⟨?_, (up0 w _).drew⟩
    rw [HB.out]
    exact congrArg (fun x => Ending.returned (.string x)) (two_app _ _)
end Go.Proofs.YtbabckchfabbkaaDoor
