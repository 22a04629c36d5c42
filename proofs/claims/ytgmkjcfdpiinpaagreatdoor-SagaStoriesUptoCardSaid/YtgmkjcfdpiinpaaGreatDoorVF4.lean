import Derived.Deep.CutRange
import Derived.Test.YtgmkjcfdpiinpaaGreatDoorVE5
namespace Go.Proofs.YtgmkjcfdpiinpaaGreatDoor
open Go Go.RowKit
open Wb

def askR (x : SN) (k : Int) : Nums := ⟨3, k, x.id, if k = 7 then 0 else if x.ph = 2 then x.nx - 1 else x.nx, x.nextTry, 0, 0, 0, 0, 0⟩
def mayR (x : SN) (k : Int) : Bool := refP x (if k = 2 ∨ k = 5 then askR x k else { askR x k with t := 0 }) == 0
def upA (x : SN) (j : Nat) : List Int := (([2, 3, 4, 5, 6, 7] : List Int).take (j - 2)).filter (mayR x)
def downs (n : Int) (j : Nat) : List Int := (List.range j).map fun (i : Nat) => n - 1 - (i : Int)
def SN.mayUndo (x : SN) : Bool := if x.ph == 1 then !x.atEnd && !x.behind x.nx else x.ph == 2
def pendP (S : Sg) : List Int := if chkS S = false then [] else if S.x.mayUndo then downs S.x.nx S.x.nx.toNat else []
def ov (K : Int) (S : Sg) (h : SH) (x : Nums) (nm : ByteArray) (d : Value) : Value := .agg (.int .i64 K :: (scl S h ++ rcE x nm d)).toArray
theorem mid_range {w : World} {g : Nat} {K : Value} {D E : List Value} (h : w.rangeAt g 0 (K :: (D ++ E))) : w.rangeAt g 1 D := fun i v hv => by
 have hi : i < D.length := (List.getElem?_eq_some_iff.1 hv).1
 have e := h (i + 1) v (by rw [List.getElem?_cons_succ, List.getElem?_append_left hi]; exact hv)
 rw [Nat.zero_add, Nat.add_comm i 1] at e
 exact e
def ztl : List Value := zcl ++ [.slice none 0 0]
def StPost (S : Sg) (w : World) (e : Ending) (w' : World) : Prop := ∃ v ps, e = .returned (.tuple #[v, .int .i64 0]) ∧ OutT w.heap.size w' v ps ∧ ps.map Prod.fst = storyP S ∧ Below w.heap.size w w'

theorem end_range {w : World} {g : Nat} {K : Value} {D E : List Value} (h : w.rangeAt g 0 (K :: (D ++ E))) (hl : D.length = 16) : w.rangeAt g 17 E := fun i v hv => by
 have e := h (i + 17) v (by rw [List.getElem?_cons_succ, List.getElem?_append_right (by omega), hl, show i + 16 - 16 = i by omega]; exact hv)
 rw [Nat.zero_add, Nat.add_comm i 17] at e
 exact e
theorem own_o {B : Nat} {w : World} {S : Sg} {h : SH} (k : SgOwn B w S h) : SgO B w S h := ⟨k.inp, k.outs, k.und, k.fail⟩
def Mkd (z : Int) (S : Sg) (w : World) (e : Ending) (w' : World) : Prop := ∃ h', e = .returned (.tuple #[sv S h', .int .i64 z]) ∧ SgO 0 w' S h' ∧ Below w.heap.size w w'
end Go.Proofs.YtgmkjcfdpiinpaaGreatDoor
