/-
  Package text: Valid, Clip; the law package's cutText.
-/
import Derived.Test.YtioghecmnggehaaDoorTxA
namespace Go.Proofs.YtioghecmnggehaaDoor.Text
open Go Go.RowKit
open Tx

/-- cutText -/
def cutT (s : ByteArray) : ByteArray := if s.size ≤ 131072 then s else s.extract 0 131072
theorem cutT_le (s : ByteArray) : (cutT s).size ≤ 131072 := by
  unfold cutT
  split
  · assumption
  · rw [size_cut s 0 131072 (by omega)]
    omega
end Go.Proofs.YtioghecmnggehaaDoor.Text
