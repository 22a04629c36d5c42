/-
  wire: ReadUint at any place; Frame.
-/
import Derived.Test.YtfccimacloagiaaDoorWalk4
import Derived.Test.YtfccimacloagiaaDoorSum
namespace Go.Proofs.YtfccimacloagiaaDoor
open Go Go.RowKit
open Wb

set_option maxHeartbeats 400000 in
theorem readUint_end (v : Value) (l : List Nat) (w : World) (h : Bs w v l) (hlen : l.length ≤ 140737488355328) :
    Calls Tryd.prog 48 #[v, .int .i64 (l.length : Int)] w fun e w' => e = .returned (tup3 0 0 10) ∧ w = w' := by
  have hob := h
  obtain ⟨ao, cap, rfl, hl, hm, hn, hc⟩ := h.shape
  unfold maxLen at hm
  have HV : Hid (tup3 0 0 10 = .tuple #[.int .u64 0, .int .i64 0, .int .i64 10]) := rfl
  generalize tup3 0 0 10 = V at *
  go_enter Tryd.func48, Tryd.ntmps48
  go_wp2_with fail
  refine (outside_no _ l _ _ hob (by omega) (by omega)).mono ?_
  rintro e w1 ⟨rfl, rfl⟩
  clear hob h hc
  cases ao with
  | none =>
    obtain rfl := hn rfl
    have h0 : l.length = 0 := by omega
    rw [h0]
    clear hn
    go_wp2
    go_loop [7, 17] (fun x i => x = .int .u64 0 ∧ i = .int .i64 0) (fun _ _ => 0)
    case atStart => exact ⟨rfl, rfl⟩
    case round =>
      obtain ⟨rfl, rfl⟩ := hrel
      go_wp2
      go_ret3
      exact ⟨by rw [HV.out]; rfl, rfl⟩
  | some ad =>
    obtain ⟨b, off, sp⟩ := ad
    by_cases hcp : cap = l.length
    all_goals
      go_wp2
      go_loop [7, 17] (fun x i => x = .int .u64 0 ∧ i = .int .i64 0) (fun _ _ => 0)
      case atStart => exact ⟨rfl, rfl⟩
      case round =>
        obtain ⟨rfl, rfl⟩ := hrel
        go_wp2
        go_ret3
        exact ⟨by rw [HV.out]; rfl, rfl⟩

set_option maxHeartbeats 400000 in
theorem readUint_out (v : Value) (l : List Nat) (p : Int) (w : World) (h : Bs w v l) (ho : p < 0 ∨ (l.length : Int) < p) :
    Calls Tryd.prog 48 #[v, .int .i64 p] w fun e w' => e = .returned (tup3 0 0 1) ∧ w = w' := by
  have HV : Hid (tup3 0 0 1 = .tuple #[.int .u64 0, .int .i64 0, .int .i64 1]) := rfl
  generalize tup3 0 0 1 = V at *
  go_enter Tryd.func48, Tryd.ntmps48
  go_wp2_with fail
  refine (outside_yes _ l _ _ h ho).mono ?_
  rintro e w1 ⟨rfl, rfl⟩
  clear h ho
  go_wp2
  go_ret3
  exact ⟨by rw [HV.out]; rfl, rfl⟩

theorem readUint_any (v : Value) (l : List Nat) (p : Int) (w : World) (h : Bs w v l) (hlen : l.length ≤ 140737488355328) :
    Calls Tryd.prog 48 #[v, .int .i64 p] w fun e w' => e = .returned (tup3 (Wn.ru l p).1 (Wn.ru l p).2.1 (Wn.ru l p).2.2) ∧ w = w' := by
  by_cases ho : p < 0 ∨ (l.length : Int) < p
  · rw [Wn.ru_out l p ho]
    exact readUint_out v l p w h ho
  · obtain ⟨q, rfl⟩ := Int.eq_ofNat_of_zero_le (show 0 ≤ p by omega)
    by_cases he : q = l.length
    · subst he
      rw [Wn.ru_in l l.length (Nat.le_refl _) 0 0 10 (by rw [List.drop_eq_nil_of_le (Nat.le_refl _)]; rfl)]
      exact readUint_end v l w h hlen
    · obtain ⟨x, n, e, hr⟩ : ∃ x n e, Wn.rd (l.drop q) 0 0 = (x, n, e) := ⟨_, _, _, rfl⟩
      rw [Wn.ru_in l q (by omega) x n e hr]
      exact readUint_in v l q w h (by omega) hlen (x, n, e) hr

theorem bs_over (pv : Value) (ls : List (List Nat)) (w : World) (hp : Ps w pv ls) (h : 1048576 < ls.flatten.length) :
    Calls Tryd.prog 45 #[pv] w fun e w' => e = .returned (.tuple #[.int .i64 0, .int .i64 13]) ∧ w = w' := by
  have := bodySize_any pv ls w hp
  rw [if_neg (by omega), if_pos h] at this
  exact this
theorem bs_empty (pv : Value) (ls : List (List Nat)) (w : World) (hp : Ps w pv ls) (h : ls.flatten.length = 0) :
    Calls Tryd.prog 45 #[pv] w fun e w' => e = .returned (.tuple #[.int .i64 0, .int .i64 14]) ∧ w = w' := by
  have := bodySize_any pv ls w hp
  rw [if_pos (by omega), if_neg (by omega), if_pos h, h] at this
  exact this
theorem bs_ok (pv : Value) (ls : List (List Nat)) (w : World) (hp : Ps w pv ls) (h : ls.flatten.length ≤ 1048576) (h0 : 0 < ls.flatten.length) :
    Calls Tryd.prog 45 #[pv] w fun e w' => e = .returned (.tuple #[.int .i64 (ls.flatten.length : Int), .int .i64 0]) ∧ w = w' := by
  have := bodySize_any pv ls w hp
  rw [if_pos h, if_neg (by omega), if_neg (by omega)] at this
  exact this

def fr (body : List Nat) : List Nat := Wn.uint body.length ++ body ++ le4 (Wm.crc (Wn.uint body.length ++ body)) ++ [165]

set_option maxHeartbeats 400000 in
theorem frame_bad (pv : Value) (ls : List (List Nat)) (w : World) (hp : Ps w pv ls) (er : Int) (h : (1048576 < ls.flatten.length ∧ er = 13) ∨ (ls.flatten.length = 0 ∧ er = 14)) :
    Calls Tryd.prog 29 #[pv] w fun e w' => e = .returned (.tuple #[.slice none 0 0, .int .i64 er]) ∧ w = w' := by
  rcases h with ⟨h, rfl⟩ | ⟨h, rfl⟩
  · go_enter Tryd.func29, Tryd.ntmps29
    go_wp2_with fail
    refine (bs_over _ ls _ hp h).mono ?_
    rintro e w1 ⟨rfl, rfl⟩
    clear hp h
    go_wp2
    go_ret2
    exact ⟨rfl, rfl⟩
  · go_enter Tryd.func29, Tryd.ntmps29
    go_wp2_with fail
    refine (bs_empty _ ls _ hp h).mono ?_
    rintro e w1 ⟨rfl, rfl⟩
    clear hp h
    go_wp2
    go_ret2
    exact ⟨rfl, rfl⟩
end Go.Proofs.YtfccimacloagiaaDoor
