/-
  wire.Sum: the register over all bytes of all parts.
-/
import Derived.Test.YtfccimacloagiaaDoorChecked
import Derived.Test.YtfccimacloagiaaDoorBase
import Derived.Test.YtfccimacloagiaaDoorCrc
import Derived.WalkSpells
import Derived.WalkLawsBesides
namespace Go.Proofs.YtfccimacloagiaaDoor
open Go Go.RowKit
open Wb

/-- the table is there -/
def Tab (w : World) : Prop := ∀ i, i < 16 → w.cell? ⟨0, i, none⟩ = some (.int .u32 (Wm.tab.getD i 0 : Nat))

theorem Tab.kept {w w' : World} (h : Tab w) (hb : Below w.heap.size w w') : Tab w' := fun i hi =>
  (hb.cell (p := ⟨0, i, none⟩) (World.block_lt_of_cell? _ _ (h i hi))).trans (h i hi)

/-- the walk's numbers -/
theorem num_x (S c : Nat) (hS : S < 4294967296) (hc : c < 256) : bits .xor .u32 (S : Int) (c : Int) = ((S ^^^ c : Nat) : Int) := u32_xor_nat S c hS (by omega)
theorem num_a (X : Nat) (hX : X < 4294967296) : bits .and .u32 (X : Int) 15 = ((X % 16 : Nat) : Int) := by
  have h := u32_and_nat X 15 hX (by decide)
  have e : X &&& 15 = X % 16 := Nat.and_two_pow_sub_one_eq_mod X 4
  rw [e] at h
  exact h
theorem num_s (X t Y : Nat) (hX : X < 4294967296) (ht : t = Wm.tab.getD (X % 16) 0) (hY : Y = Wm.step4 X) : bits .xor .u32 ((X : Int) / 16) (t : Int) = (Y : Int) := by
  rw [show ((X : Int) / 16) = ((X / 16 : Nat) : Int) by omega, hY, Wm.step4_tab, ← ht]
  have hl : ∀ m, m < 16 → Wm.tab.getD m 0 < 4294967296 := by decide
  exact u32_xor_nat (X / 16) t (by omega) (by rw [ht]; exact hl _ (Nat.mod_lt _ (by decide)))
theorem num_n (R : Nat) (hR : R < 4294967296) : bits .xor .u32 IntKind.u32.max (R : Int) = ((4294967295 ^^^ R : Nat) : Int) := u32_xor_nat 4294967295 R (by decide) hR

set_option maxHeartbeats 1000000 in
theorem sum_any (pv : Value) (ls : List (List Nat)) (w : World) (hT : Tab w) (hp : Ps w pv ls) :
    Calls Tryd.prog 47 #[pv] w fun e w' => e = .returned (.int .u32 (Wm.crc ls.flatten : Nat)) ∧ w' = w := by
  obtain ⟨ao, cap, rfl, hmx, hc⟩ := hp.shape
  unfold maxLen at hmx
  clear hp
  have HT : Hid (Tab w) := hT
  clear hT
  go_enter Tryd.func47, Tryd.ntmps47
  go_wp2
  go_loop [3, 10] (fun r i => ∃ k : Nat, k ≤ ls.length ∧ i = .int .i64 k ∧ ∃ R : Nat, R < 4294967296 ∧ R = Wm.reg 4294967295 (ls.take k).flatten ∧ r = .int .u32 (R : Int)) (fun _ i => ls.length - (intOf i).toNat)
  case atStart => exact ⟨0, Nat.zero_le _, rfl, 4294967295, by decide, rfl, rfl⟩
  case round =>
    obtain ⟨k, hk, rfl, R, hR, hRe, rfl⟩ := hrel
    have HR : Hid (R = Wm.reg 4294967295 (ls.take k).flatten) := hRe
    clear hRe
    by_cases hlt : k < ls.length
    · obtain ⟨b, off, rfl, hcell⟩ := hc (List.ne_nil_of_length_pos (by omega))
      obtain ⟨vk, hck, hbk⟩ := hcell k hlt
      have HN : Hid (∀ S, S = Wm.reg R ls[k] → S = Wm.reg 4294967295 (ls.take (k + 1)).flatten) := by
        intro S hS
        rw [hS, HR.out, List.take_succ_eq_append_getElem hlt, List.flatten_append, Wm.reg_append]
        simp
      have hgood := hbk.good
      have hlen := hbk.len_le
      unfold maxLen at hlen
      have hsh := hbk.cases
      clear hc hcell hbk
      rcases hsh with ⟨hnil, ao', cap', rfl, _, _⟩ | ⟨hpos, b', off', cap', rfl, hl', hm', hcell'⟩
      · have HZ : Hid (R = Wm.reg 4294967295 (ls.take (k + 1)).flatten) := HN.out R (by rw [hnil]; rfl)
        clear hnil hgood HN hlen
        go_wp2
        go_loop [3, 16] (fun r i => r = .int .u32 (R : Int) ∧ i = .int .i64 0) (fun _ _ => 0)
        case atStart => exact ⟨rfl, rfl⟩
        case round =>
          obtain ⟨rfl, rfl⟩ := hrel
          go_wp2
          go_round
          case rel => exact ⟨k + 1, by omega, by go_num, R, hR, HZ.out, rfl⟩
          case measure => simp [intOf]; omega
      · generalize ls[k] = p at *
        go_wp2
        go_loop [3, 16] (fun r i => ∃ j : Nat, j ≤ p.length ∧ i = .int .i64 j ∧ ∃ S : Nat, S < 4294967296 ∧ S = Wm.reg R (p.take j) ∧ r = .int .u32 (S : Int)) (fun _ i => p.length - (intOf i).toNat)
        case atStart => exact ⟨0, Nat.zero_le _, rfl, R, hR, rfl, rfl⟩
        case round =>
          obtain ⟨j, hj, rfl, S, hS, hSe, rfl⟩ := hrel
          have HS : Hid (S = Wm.reg R (p.take j)) := hSe
          clear hSe
          by_cases hjl : j < p.length
          · have hcj := hcell' j hjl
            have hc256 := ok_get hgood j hjl
            have HC : Hid (∀ Z, Z = Wm.feed S p[j] → Z = Wm.reg R (p.take (j + 1))) := by
              intro Z hZ
              rw [hZ, HS.out, List.take_succ_eq_append_getElem hjl, Wm.reg_snoc]
            clear hcell' hgood
            generalize p[j] = c at *
            have hX := Wm.xor_lt S c hS (by omega)
            have n1 := num_x S c hS hc256
            obtain ⟨X, eX⟩ : ∃ X, X = S ^^^ c := ⟨_, rfl⟩
            rw [← eX] at hX n1
            have n2 := num_a X hX
            obtain ⟨t, et⟩ : ∃ t, t = Wm.tab.getD (X % 16) 0 := ⟨_, rfl⟩
            obtain ⟨Y, eY⟩ : ∃ Y, Y = Wm.step4 X := ⟨_, rfl⟩
            have n3 := num_s X t Y hX et eY
            have hY : Y < 4294967296 := by rw [eY]; exact Wm.step4_lt X hX
            have t1 := HT.out (X % 16) (Nat.mod_lt _ (by decide))
            rw [← et] at t1
            have n4 := num_a Y hY
            obtain ⟨t', et'⟩ : ∃ t', t' = Wm.tab.getD (Y % 16) 0 := ⟨_, rfl⟩
            obtain ⟨Z, eZ⟩ : ∃ Z, Z = Wm.step4 Y := ⟨_, rfl⟩
            have n5 := num_s Y t' Z hY et' eZ
            have hZ : Z < 4294967296 := by rw [eZ]; exact Wm.step4_lt Y hY
            have t2 := HT.out (Y % 16) (Nat.mod_lt _ (by decide))
            rw [← et'] at t2
            have HF := HC.out Z (by rw [eZ, eY, eX]; rfl)
            have HF' : Hid (Z = Wm.reg R (p.take (j + 1))) := HF
            clear HF HC eX et eY et' eZ HS
            have m1 : ((X % 16 : Nat) : Int).toNat = X % 16 := by omega
            have m2 : ((Y % 16 : Nat) : Int).toNat = Y % 16 := by omega
            have l1 : X % 16 < 16 := Nat.mod_lt _ (by decide)
            have l2 : Y % 16 < 16 := Nat.mod_lt _ (by decide)
            generalize X % 16 = x at *
            generalize Y % 16 = y at *
            go_wp2
            go_round
            case rel => exact ⟨j + 1, by omega, by go_num, Z, hZ, HF'.out, rfl⟩
            case measure => simp [intOf]; omega
          · have HZ : Hid (S = Wm.reg 4294967295 (ls.take (k + 1)).flatten) := HN.out S (by rw [HS.out, List.take_of_length_le (by omega)])
            go_wp2
            go_round
            case rel => exact ⟨k + 1, by omega, by go_num, S, hS, HZ.out, rfl⟩
            case measure => simp [intOf]; omega
    · have HE : Hid (4294967295 ^^^ R = Wm.crc ls.flatten) := by
        show 4294967295 ^^^ R = _
        rw [HR.out, List.take_of_length_le (by omega)]
        rfl
      have n6 := num_n R hR
      go_wp2
      go_ret
      exact ⟨by rw [HE.out]; rfl, rfl⟩
end Go.Proofs.YtfccimacloagiaaDoor
