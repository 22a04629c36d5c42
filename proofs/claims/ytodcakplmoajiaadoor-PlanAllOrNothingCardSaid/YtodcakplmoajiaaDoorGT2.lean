import Derived.LoopN
import Derived.Handy
import Derived.Laws.AppendOwnNone
import Derived.Maps.AppendAt
import Derived.WalkSpells
import Derived.WalkLawsBesides
import Derived.Test.YtodcakplmoajiaaDoorGT1
namespace Go.Proofs.YtodcakplmoajiaaDoor.Text
open Go Go.RowKit
open Tx

end Go.Proofs.YtodcakplmoajiaaDoor.Text

namespace Go.Proofs.YtodcakplmoajiaaDoor.Text
open Go Go.RowKit
open Tx

namespace Tx
def pcF (f : Nat → Nat) (n : Nat) : Option (Nat × Nat) :=
 if f 0 < 128 then some (f 0, 1)
 else if f 0 < 192 then none
 else if f 0 < 224 then (if 2 ≤ n ∧ 128 ≤ f 1 ∧ f 1 ≤ 191 ∧ 128 ≤ (f 0 - 192) * 64 + (f 1 - 128) then some ((f 0 - 192) * 64 + (f 1 - 128), 2) else none)
 else if f 0 < 240 then (if 3 ≤ n ∧ 128 ≤ f 1 ∧ f 1 ≤ 191 ∧ 128 ≤ f 2 ∧ f 2 ≤ 191 ∧ 2048 ≤ (f 0 - 224) * 4096 + (f 1 - 128) * 64 + (f 2 - 128) ∧ ¬ (55296 ≤ (f 0 - 224) * 4096 + (f 1 - 128) * 64 + (f 2 - 128) ∧ (f 0 - 224) * 4096 + (f 1 - 128) * 64 + (f 2 - 128) ≤ 57343) then some ((f 0 - 224) * 4096 + (f 1 - 128) * 64 + (f 2 - 128), 3) else none)
 else if f 0 < 248 then (if 4 ≤ n ∧ 128 ≤ f 1 ∧ f 1 ≤ 191 ∧ 128 ≤ f 2 ∧ f 2 ≤ 191 ∧ 128 ≤ f 3 ∧ f 3 ≤ 191 ∧ 65536 ≤ (f 0 - 240) * 262144 + (f 1 - 128) * 4096 + (f 2 - 128) * 64 + (f 3 - 128) ∧ (f 0 - 240) * 262144 + (f 1 - 128) * 4096 + (f 2 - 128) * 64 + (f 3 - 128) ≤ 1114111 then some ((f 0 - 240) * 262144 + (f 1 - 128) * 4096 + (f 2 - 128) * 64 + (f 3 - 128), 4) else none)
 else none

def pcR (s : ByteArray) (i : Nat) : Int := if stray s i then -1 else ((Utf8.decode s i).1 : Int)
end Tx
end Go.Proofs.YtodcakplmoajiaaDoor.Text

namespace Go.Proofs.YtodcakplmoajiaaDoor.Text
open Go Go.RowKit
open Tx

end Go.Proofs.YtodcakplmoajiaaDoor.Text

namespace Go.Proofs.YtodcakplmoajiaaDoor.Text
open Go Go.RowKit
open Tx

namespace Tx
def pcs (s : ByteArray) (p : Nat) : List Nat := if _h : p < s.size then p :: pcs s (p + (Utf8.decode s p).2) else []
termination_by s.size - p
decreasing_by
 have := decode_fits s p (by assumption)
 omega
def cell3 (s : ByteArray) (q : Nat) : List Value := [.int .i64 (pcR s q), .int .i64 (q : Int), .int .i64 ((Utf8.decode s q).2 : Int)]
end Tx

end Go.Proofs.YtodcakplmoajiaaDoor.Text

namespace Go.Proofs.YtodcakplmoajiaaDoor.Text
open Go Go.RowKit
open Tx

namespace Tx
end Tx

end Go.Proofs.YtodcakplmoajiaaDoor.Text

namespace Go.Proofs.YtodcakplmoajiaaDoor.Text
open Go Go.RowKit
open Tx

end Go.Proofs.YtodcakplmoajiaaDoor.Text
