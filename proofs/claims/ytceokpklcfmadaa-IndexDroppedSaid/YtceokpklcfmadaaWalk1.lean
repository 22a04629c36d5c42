/-
  The small functions of package wire: outside, sumBytes, readSum, own; the law package's num, same.
-/
import Derived.Test.YtceokpklcfmadaaInfo
import Derived.Test.YtceokpklcfmadaaNum
import Derived.Deep.QuietTactic
import Derived.BigQuiet
import Derived.Laws.CopyOwn
namespace Go.Proofs.Ytceokpklcfmadaa
open Go Go.RowKit
open Wb

theorem outside_yes (v : Value) (l : List Nat) (at' : Int) (w : World) (h : Bs w v l) (ho : at' < 0 ∨ (l.length : Int) < at') :
    Calls Try.prog 75 #[v, .int .i64 at'] w fun e w' => e = .returned (.bool true) ∧ w = w' := by
  obtain ⟨ao, cap, rfl, hl, hm, hn, hc⟩ := h.shape
  clear hc hn h
  by_cases h1 : at' < 0
  · go_enter Try.func75, Try.ntmps75
    go_wp2
    go_ret
    exact ⟨rfl, rfl⟩
  · have h2 : (l.length : Int) < at' := by omega
    go_enter Try.func75, Try.ntmps75
    go_wp2
    go_ret
    exact ⟨rfl, rfl⟩
theorem outside_no (v : Value) (l : List Nat) (at' : Int) (w : World) (h : Bs w v l) (h0 : 0 ≤ at') (h1 : at' ≤ (l.length : Int)) :
    Calls Try.prog 75 #[v, .int .i64 at'] w fun e w' => e = .returned (.bool false) ∧ w = w' := by
  obtain ⟨ao, cap, rfl, hl, hm, hn, hc⟩ := h.shape
  clear hc hn h
  have d1 : decide (at' < 0) = false := decide_eq_false (by omega)
  have d2 : decide ((l.length : Int) < at') = false := decide_eq_false (by omega)
  go_enter Try.func75, Try.ntmps75
  go_wp2
  go_ret
  exact ⟨rfl, rfl⟩

def le4 (s : Nat) : List Nat := [s % 256, s / 256 % 256, s / 65536 % 256, s / 16777216 % 256]
theorem le4_ok (s : Nat) : ok (le4 s) := by
  intro x hx
  simp [le4] at hx
  omega
end Go.Proofs.Ytceokpklcfmadaa
