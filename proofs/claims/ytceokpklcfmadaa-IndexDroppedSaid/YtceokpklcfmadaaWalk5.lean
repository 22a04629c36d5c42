/-
  wire: ReadUint at any place; Frame.
-/
import Derived.Test.YtceokpklcfmadaaWalk4
import Derived.Test.YtceokpklcfmadaaSum
namespace Go.Proofs.Ytceokpklcfmadaa
open Go Go.RowKit
open Wb

set_option maxHeartbeats 400000 in
theorem readUint_end (v : Value) (l : List Nat) (w : World) (h : Bs w v l) (hlen : l.length ≤ 140737488355328) :
    Calls Try.prog 66 #[v, .int .i64 (l.length : Int)] w fun e w' => e = .returned (tup3 0 0 10) ∧ w = w' := by
  have hob := h
  obtain ⟨ao, cap, rfl, hl, hm, hn, hc⟩ := h.shape
  unfold maxLen at hm
  have HV : Hid (tup3 0 0 10 = .tuple #[.int .u64 0, .int .i64 0, .int .i64 10]) := rfl
  generalize tup3 0 0 10 = V at *
  go_enter Try.func66, Try.ntmps66
  go_wp2_with fail
  refine (outside_no _ l _ _ hob (by omega) (by omega)).mono ?_
  rintro e w1 ⟨rfl, rfl⟩
  clear hob h hc
  cases ao with
  | none =>
    obtain rfl := hn rfl
    have h0 : l.length = 0 := by omega
    rw [h0]
    clear hn
    go_wp2
    go_loop [7, 17] (fun x i => x = .int .u64 0 ∧ i = .int .i64 0) (fun _ _ => 0)
    case atStart => exact ⟨rfl, rfl⟩
    case round =>
      obtain ⟨rfl, rfl⟩ := hrel
      go_wp2
      go_ret3
      exact ⟨by rw [HV.out]; rfl, rfl⟩
  | some ad =>
    obtain ⟨b, off, sp⟩ := ad
    by_cases hcp : cap = l.length
    all_goals
      go_wp2
      go_loop [7, 17] (fun x i => x = .int .u64 0 ∧ i = .int .i64 0) (fun _ _ => 0)
      case atStart => exact ⟨rfl, rfl⟩
      case round =>
        obtain ⟨rfl, rfl⟩ := hrel
        go_wp2
        go_ret3
        exact ⟨by rw [HV.out]; rfl, rfl⟩

set_option maxHeartbeats 400000 in
theorem readUint_out (v : Value) (l : List Nat) (p : Int) (w : World) (h : Bs w v l) (ho : p < 0 ∨ (l.length : Int) < p) :
    Calls Try.prog 66 #[v, .int .i64 p] w fun e w' => e = .returned (tup3 0 0 1) ∧ w = w' := by
  have HV : Hid (tup3 0 0 1 = .tuple #[.int .u64 0, .int .i64 0, .int .i64 1]) := rfl
  generalize tup3 0 0 1 = V at *
  go_enter Try.func66, Try.ntmps66
  go_wp2_with fail
  refine (outside_yes _ l _ _ h ho).mono ?_
  rintro e w1 ⟨rfl, rfl⟩
  clear h ho
  go_wp2
  go_ret3
  exact ⟨by rw [HV.out]; rfl, rfl⟩

theorem readUint_any (v : Value) (l : List Nat) (p : Int) (w : World) (h : Bs w v l) (hlen : l.length ≤ 140737488355328) :
    Calls Try.prog 66 #[v, .int .i64 p] w fun e w' => e = .returned (tup3 (Wn.ru l p).1 (Wn.ru l p).2.1 (Wn.ru l p).2.2) ∧ w = w' := by
  by_cases ho : p < 0 ∨ (l.length : Int) < p
  · rw [Wn.ru_out l p ho]
    exact readUint_out v l p w h ho
  · obtain ⟨q, rfl⟩ := Int.eq_ofNat_of_zero_le (show 0 ≤ p by omega)
    by_cases he : q = l.length
    · subst he
      rw [Wn.ru_in l l.length (Nat.le_refl _) 0 0 10 (by rw [List.drop_eq_nil_of_le (Nat.le_refl _)]; rfl)]
      exact readUint_end v l w h hlen
    · obtain ⟨x, n, e, hr⟩ : ∃ x n e, Wn.rd (l.drop q) 0 0 = (x, n, e) := ⟨_, _, _, rfl⟩
      rw [Wn.ru_in l q (by omega) x n e hr]
      exact readUint_in v l q w h (by omega) hlen (x, n, e) hr

def fr (body : List Nat) : List Nat := Wn.uint body.length ++ body ++ le4 (Wm.crc (Wn.uint body.length ++ body)) ++ [165]

end Go.Proofs.Ytceokpklcfmadaa
