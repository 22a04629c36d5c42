/-
  Scripts whose byte strings are of a bounded length.
-/
import Derived.Test.YtdoclmkldfemhaaDoorUpTo2
namespace Go.Proofs.YtdoclmkldfemhaaDoor
open Go Go.RowKit
open Wb

def ScriptU (w : World) (v : Value) (n : Nat) : Prop := ∃ ao cap, v = .slice ao n cap ∧ n ≤ maxLen ∧ ∀ k, k < n → ∃ b off kd u i a m bv pv l ls, ao = some ⟨b, off, none⟩ ∧ OpAt w b (off + k * 7) kd u i a m bv pv l ls ∧ l.length ≤ 1048576
theorem ScriptU.kept {w w' : World} {v : Value} {n : Nat} (h : ScriptU w v n) (hb : Below w.heap.size w w') : ScriptU w' v n := by
  obtain ⟨ao, cap, e, hn, hc⟩ := h
  refine ⟨ao, cap, e, hn, fun k hk => ?_⟩
  obtain ⟨b, off, kd, u, i, a, m, bv, pv, l, ls, e2, hop, hl⟩ := hc k hk
  exact ⟨b, off, kd, u, i, a, m, bv, pv, l, ls, e2, hop.kept hb, hl⟩

set_option maxHeartbeats 2000000 in
theorem upToU_any (lo hi : Int) (v : Value) (n : Nat) (w : World) (hT : Tab w) (h : ScriptU w v n)
    (hpl : ∀ (kd : Int), lo ≤ kd → kd ≤ hi → ∀ (b off : Nat) (u i a m : Int) (bv pv : Value) (l : List Nat) (ls : List (List Nat)) (W : World), Tab W → OpAt W b off kd u i a m bv pv l ls → l.length ≤ 1048576 →
      Calls Tryd.prog 46 #[.agg #[.int .i64 kd, .int .u64 u, .int .i64 i, .int .i64 a, .int .i64 m, bv, pv]] W fun e w' => e = .returned (.bool true) ∧ Below W.heap.size W w') :
    Calls Tryd.prog 28 #[v, .int .i64 lo, .int .i64 hi] w fun e w' => e = .returned (.bool true) ∧ Below w.heap.size w w' := by
  obtain ⟨ao, cap, rfl, hn, hc⟩ := h
  unfold maxLen at hn
  have HC : Hid (∀ k, k < n → ∃ b off kd u i a m bv pv l ls, ao = some ⟨b, off, none⟩ ∧ OpAt w b (off + k * 7) kd u i a m bv pv l ls ∧ l.length ≤ 1048576) := hc
  have HT : Hid (Tab w) := hT
  have HPL : Hid (∀ (kd : Int), lo ≤ kd → kd ≤ hi → ∀ (b off : Nat) (u i a m : Int) (bv pv : Value) (l : List Nat) (ls : List (List Nat)) (W : World), Tab W → OpAt W b off kd u i a m bv pv l ls → l.length ≤ 1048576 →
      Calls Tryd.prog 46 #[.agg #[.int .i64 kd, .int .u64 u, .int .i64 i, .int .i64 a, .int .i64 m, bv, pv]] W fun e w' => e = .returned (.bool true) ∧ Below W.heap.size W w') := hpl
  clear hc hT hpl
  go_enter Tryd.func28, Tryd.ntmps28
  go_wp2
  go_loopw [7] (fun i wr => ∃ k : Nat, k ≤ n ∧ i = .int .i64 (k : Int) ∧ Below w.heap.size w wr) (fun i _ => n - (intOf i).toNat)
  case atStart => exact ⟨0, Nat.zero_le _, rfl, Below.refl _ _⟩
  case round =>
    obtain ⟨k, hk, rfl, hbel⟩ := hrel
    by_cases hlt : k < n
    · obtain ⟨b, off, kd, u, i, a, m, bv, pv, l, ls, rfl, hop, hll⟩ := HC.out k hlt
      have hop' := hop.kept hbel
      have HO : Hid (OpAt wr b (off + k * 7) kd u i a m bv pv l ls) := hop'
      obtain ⟨c0, c1, c2, c3, c4, c5, c6, _, _, _, _, _, _, _, _⟩ := hop'
      clear hop HC
      by_cases hkd : lo ≤ kd ∧ kd ≤ hi
      · obtain ⟨k1, k2⟩ := hkd
        go_wp2_with fail
        clear c0 c1 c2 c3 c4 c5 c6
        have hTr : Tab wr := HT.out.kept hbel
        refine (HPL.out kd k1 k2 _ _ _ _ _ _ _ _ l ls _ hTr HO.out hll).mono ?_
        rintro e w2 ⟨rfl, b2⟩
        have hb2 := andThen hbel b2
        clear b2 hbel hTr HO
        go_wp2
        go_roundw
        case rel => exact ⟨k + 1, by omega, by go_num, hb2⟩
        case measure => simp [intOf]; omega
      · by_cases k1 : lo ≤ kd
        · have k2 : ¬ kd ≤ hi := fun h => hkd ⟨k1, h⟩
          go_wp2
          all_goals first | (exfalso; omega) | exact ⟨⟨k + 1, by omega, by go_num, hbel⟩, by simp [intOf]; omega⟩
        go_wp2
        all_goals first | (exfalso; omega) | exact ⟨⟨k + 1, by omega, by go_num, hbel⟩, by simp [intOf]; omega⟩
    · go_wp2
      go_ret
      exact ⟨rfl, hbel⟩
end Go.Proofs.YtdoclmkldfemhaaDoor
