/-
  The small functions of package wire: outside, sumBytes, readSum, own; the law package's num, same.
-/
import Derived.Test.YtjepeeopjjnglaaInfo
import Derived.Test.YtjepeeopjjnglaaNum
import Derived.Deep.QuietTactic
import Derived.BigQuiet
import Derived.Laws.CopyOwn
namespace Go.Proofs.Ytjepeeopjjnglaa
open Go Go.RowKit
open Wb

def le4 (s : Nat) : List Nat := [s % 256, s / 256 % 256, s / 65536 % 256, s / 16777216 % 256]
theorem le4_ok (s : Nat) : ok (le4 s) := by
  intro x hx
  simp [le4] at hx
  omega
end Go.Proofs.Ytjepeeopjjnglaa
