/-
  The small functions of package wire: outside, sumBytes, readSum, own; the law package's num, same.
-/
import Derived.Test.YtfccimacloagiaaDoorInfo
import Derived.Test.YtfccimacloagiaaDoorNum
import Derived.Deep.QuietTactic
import Derived.BigQuiet
import Derived.Laws.CopyOwn
namespace Go.Proofs.YtfccimacloagiaaDoor
open Go Go.RowKit
open Wb

theorem outside_yes (v : Value) (l : List Nat) (at' : Int) (w : World) (h : Bs w v l) (ho : at' < 0 ∨ (l.length : Int) < at') :
    Calls Tryd.prog 61 #[v, .int .i64 at'] w fun e w' => e = .returned (.bool true) ∧ w = w' := by
  obtain ⟨ao, cap, rfl, hl, hm, hn, hc⟩ := h.shape
  clear hc hn h
  by_cases h1 : at' < 0
  · go_enter Tryd.func61, Tryd.ntmps61
    go_wp2
    go_ret
    exact ⟨rfl, rfl⟩
  · have h2 : (l.length : Int) < at' := by omega
    go_enter Tryd.func61, Tryd.ntmps61
    go_wp2
    go_ret
    exact ⟨rfl, rfl⟩
theorem outside_no (v : Value) (l : List Nat) (at' : Int) (w : World) (h : Bs w v l) (h0 : 0 ≤ at') (h1 : at' ≤ (l.length : Int)) :
    Calls Tryd.prog 61 #[v, .int .i64 at'] w fun e w' => e = .returned (.bool false) ∧ w = w' := by
  obtain ⟨ao, cap, rfl, hl, hm, hn, hc⟩ := h.shape
  clear hc hn h
  have d1 : decide (at' < 0) = false := decide_eq_false (by omega)
  have d2 : decide ((l.length : Int) < at') = false := decide_eq_false (by omega)
  go_enter Tryd.func61, Tryd.ntmps61
  go_wp2
  go_ret
  exact ⟨rfl, rfl⟩

def le4 (s : Nat) : List Nat := [s % 256, s / 256 % 256, s / 65536 % 256, s / 16777216 % 256]
theorem le4_ok (s : Nat) : ok (le4 s) := by
  intro x hx
  simp [le4] at hx
  omega
theorem sumBytes_any (s : Nat) (w : World) (hs : s < 4294967296) :
    Calls Tryd.prog 46 #[.int .u32 (s : Int)] w fun e w' => ∃ v', e = .returned v' ∧ Own w.heap.size w' v' (le4 s) ∧ Below w.heap.size w w' := by
  have HO : Hid (∀ (x0 x1 x2 x3 : Int), x0 = ((s % 256 : Nat) : Int) → x1 = ((s / 256 % 256 : Nat) : Int) → x2 = ((s / 65536 % 256 : Nat) : Int) → x3 = ((s / 16777216 % 256 : Nat) : Int) →
      Own w.heap.size (w.alloc (.cells #[.int .u8 x0, .int .u8 x1, .int .u8 x2, .int .u8 x3] 5)) (.slice (some ⟨w.heap.size, 0, none⟩) 4 4) (le4 s)) := by
    rintro x0 x1 x2 x3 rfl rfl rfl rfl
    exact Own.lit w (le4 s) (le4_ok s) (Nat.le_refl _) (by simp [le4, maxLen]) _ rfl
  go_enter Tryd.func46, Tryd.ntmps46
  go_wp2
  go_ret
  exact ⟨_, rfl, HO.out _ _ _ _ (by omega) (by omega) (by omega) (by omega), up0 _ _⟩

end Go.Proofs.YtfccimacloagiaaDoor
