import Derived.Test.YtcnnpohnfoaceaaGreatDoorQP5
import Derived.Test.YtcnnpohnfoaceaaGreatDoorQPT
/-
  annalsref15: differ.
-/
namespace Go.Proofs.YtcnnpohnfoaceaaGreatDoor
open Go Go.RowKit
open Wb
open Text.Tx (Wd wdc wds wordP wdA)

set_option maxRecDepth 100000 in
set_option maxHeartbeats 8000000 in
theorem rdiffer_any (a b : ByteArray) (w : World) (ha : a.size ≤ 100000) (_hb : b.size ≤ 100000) :
    Calls Tryz.prog 25 #[.string a, .string b] w fun e w' => e = .returned (.int .i64 (partF a.data.toList b.data.toList : Int)) ∧ Below w.heap.size w w' := by
  obtain ⟨A, hA⟩ : ∃ A, partF a.data.toList b.data.toList = A := ⟨_, rfl⟩
  have HA : Hid (partF (a.data.toList.drop 0) (b.data.toList.drop 0) + 0 = A) := hA
  rw [hA]
  clear hA
  go_enter Tryz.func25, Tryz.ntmps25
  go_wp2
  go_loopw [5] (fun i wr => ∃ k : Nat, k ≤ min a.size b.size ∧ i = .int .i64 (k : Int) ∧ partF (a.data.toList.drop k) (b.data.toList.drop k) + k = A ∧ Below w.heap.size w wr) (fun i _ => min a.size b.size - (intOf i).toNat)
  case atStart => exact ⟨0, Nat.zero_le _, rfl, HA.out, Below.refl _ _⟩
  case round =>
    obtain ⟨k, hk, rfl, he, hbl⟩ := hrel
    have HW : Hid (partF (a.data.toList.drop k) (b.data.toList.drop k) + k = A ∧ Below w.heap.size w wr) := ⟨he, hbl⟩
    have HK : Hid (k ≤ min a.size b.size) := hk
    clear he hbl HA hk
    by_cases hka : k < a.size
    · have da : decide (k < a.size) = true := decide_eq_true hka
      by_cases hkb : k < b.size
      · have h1 : k < a.data.toList.length := by rw [Array.length_toList]; exact hka
        have h2 : k < b.data.toList.length := by rw [Array.length_toList]; exact hkb
        have db : decide (k < b.size) = true := decide_eq_true hkb
        have HP : Hid (partF (a.data.toList.drop k) (b.data.toList.drop k) = if a.data.toList[k] = b.data.toList[k] then partF (a.data.toList.drop (k + 1)) (b.data.toList.drop (k + 1)) + 1 else 0) := partF_drop _ _ k h1 h2
        have HG : Hid (a.data.toList[k] = a[k] ∧ b.data.toList[k] = b[k]) := ⟨by rw [Array.getElem_toList]; rfl, by rw [Array.getElem_toList]; rfl⟩
        by_cases hq : a[k] = b[k]
        · have hq2 : ((a[k].toNat : Int) == (b[k].toNat : Int)) = true := by rw [hq]; simp
          have HN : Hid (partF (a.data.toList.drop (k + 1)) (b.data.toList.drop (k + 1)) + (k + 1) = A) := by
            have e := HP.out
            rw [HG.out.1, HG.out.2, if_pos hq] at e
            have := HW.out.1
            show _ = _
            omega
          clear hq HP HG
          go_wp2
          go_quiet (fail)
          go_wp2
          go_roundw
          case rel => exact ⟨k + 1, by omega, by simp, HN.out, below_drewN HW.out.2 _⟩
          case measure => simp [intOf]; omega
        · have hq2 : ((a[k].toNat : Int) == (b[k].toNat : Int)) = false := by
            simp only [beq_eq_false_iff_ne, ne_eq, Int.natCast_inj]
            exact fun e => hq (UInt8.toNat_inj.1 e)
          have HN : Hid ((k : Int) = (A : Int)) := by
            have e := HP.out
            rw [HG.out.1, HG.out.2, if_neg hq] at e
            have := HW.out.1
            show _ = _
            omega
          clear hq HP HG
          go_wp2
          go_quiet (fail)
          go_wp2
          go_ret
          exact ⟨congrArg (fun z => Ending.returned (.int .i64 z)) HN.out, below_drewN HW.out.2 _⟩
      · have db : decide (k < b.size) = false := decide_eq_false hkb
        have HN : Hid ((k : Int) = (A : Int)) := by
          have e := HW.out.1
          have h4 := partF_le (a.data.toList.drop k) (b.data.toList.drop k)
          rw [List.length_drop, List.length_drop, Array.length_toList, Array.length_toList] at h4
          have h5 : a.data.size = a.size := rfl
          have h6 : b.data.size = b.size := rfl
          have := HK.out
          show _ = _
          omega
        go_wp2
        go_quiet (fail)
        go_wp2
        go_ret
        exact ⟨congrArg (fun z => Ending.returned (.int .i64 z)) HN.out, below_drewN HW.out.2 _⟩
    · have da : decide (k < a.size) = false := decide_eq_false hka
      have HN : Hid ((k : Int) = (A : Int)) := by
        have e := HW.out.1
        have h4 := partF_le (a.data.toList.drop k) (b.data.toList.drop k)
        rw [List.length_drop, List.length_drop, Array.length_toList, Array.length_toList] at h4
        have h5 : a.data.size = a.size := rfl
        have h6 : b.data.size = b.size := rfl
        have := HK.out
        show _ = _
        omega
      go_wp2
      go_quiet (fail)
      go_wp2
      go_ret
      exact ⟨congrArg (fun z => Ending.returned (.int .i64 z)) HN.out, below_drewN HW.out.2 _⟩
end Go.Proofs.YtcnnpohnfoaceaaGreatDoor
