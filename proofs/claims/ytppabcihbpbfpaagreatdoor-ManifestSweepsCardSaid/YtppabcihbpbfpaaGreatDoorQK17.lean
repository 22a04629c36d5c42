import Derived.Test.YtppabcihbpbfpaaGreatDoorQK16
/-
  The document's disk: begin.
-/
namespace Go.Proofs.YtppabcihbpbfpaaGreatDoor
open Go Go.RowKit Go.ChangeShapes
open Wb
open Rd
/-- an operation by its run, in a region that draws -/
theorem step_run {P : Program} {w W : World} {ops : Array Oper} {o : Oper} {a : Act} {K : Act → World → Prop} {Q : Exit → Act → World → Prop} {E : Prop} {v : Value} (hw : Region.wanted o (yielded ops a.tmps) = true) (hr : (execOp a.eval o).run P w = .ok (.value v) W) (h : K (a.put o.dst v) W) : if Region.wanted o (yielded ops a.tmps) = true then Oper.wp P o a w K Q else E := by
  rw [if_pos hw]
  unfold Oper.wp
  rw [hr]
  exact h
namespace Rd
/-- the names of the first files -/
def bnm (fs : List (List UInt8 × List Nat)) : Nat → Dk.Nm
  | 0 => []
  | k + 1 => Dk.put (bnm fs k) (fs.getD k ([], [])).1 k
def bth (fs : List (List UInt8 × List Nat)) : List Th := fs.map fun x => ⟨x.2, x.2.length, true⟩
/-- a disk that was just loaded -/
def rbgn (q : Int) (fs : List (List UInt8 × List Nat)) : RS := ⟨q, bth fs, bnm fs fs.length, bnm fs fs.length, [], -1, false⟩
theorem bnm_len (fs : List (List UInt8 × List Nat)) : ∀ k, (bnm fs k).length ≤ k
  | 0 => Nat.le_refl _
  | k + 1 => by
    have h1 := bnm_len fs k
    have h2 := Dk.len_put (bnm fs k) (fs.getD k ([], [])).1 k
    show (Dk.put _ _ _).length ≤ _
    omega
section
variable {B p2 p3 : Nat} {w w' : World} {xs : List (Value × Th)} {nm : Dk.Nm} {tv nv : Value}
end
end Rd
end Go.Proofs.YtppabcihbpbfpaaGreatDoor

/-
  The document's disk: Load.
-/
namespace Go.Proofs.YtppabcihbpbfpaaGreatDoor
open Go Go.RowKit Go.ChangeShapes
open Wb
open Rd
namespace Rd
/-- the first name that is refused -/
def scn (pre : List (List UInt8)) : List (List UInt8 × List Nat) → Int
  | [] => 0
  | x :: r => if Dk.isNm x.1 = false then 61 else if x.1 ∈ pre then 62 else scn (pre ++ [x.1]) r
def rldE (q : Int) (fs : List (List UInt8 × List Nat)) : Int := if q < 0 ∨ q > 4194304 then 1 else if scn [] fs ≠ 0 then scn [] fs else if (Dk.flen fs : Int) > q then 64 else 0
/-- a value of seven cells -/
def Sev (v : Value) : Prop := ∃ q a1 n1 c1 a2 n2 c2 a3 n3 c3 a4 n4 c4 l d, v = .agg #[.int .i64 q, .slice a1 n1 c1, .slice a2 n2 c2, .slice a3 n3 c3, .slice a4 n4 c4, .int .i64 l, .bool d]
theorem rbgn_parts (q : Int) (fs : List (List UInt8 × List Nat)) (xs : List (Value × Th)) (h : xs.map (·.2) = bth fs) : (rbgn q fs).th = xs.map (·.2) ∧ (rbgn q fs).nm = bnm fs fs.length ∧ (rbgn q fs).la = bnm fs fs.length ∧ (rbgn q fs).ch = [] ∧ (rbgn q fs).quota = q ∧ (rbgn q fs).left = -1 ∧ (rbgn q fs).down = false := ⟨h.symm, rfl, rfl, rfl, rfl, rfl, rfl⟩
theorem scn_at (fs : List (List UInt8 × List Nat)) (k : Nat) (h : k < fs.length) : scn ((fs.take k).map (·.1)) (fs.drop k) = if Dk.isNm fs[k].1 = false then 61 else if fs[k].1 ∈ (fs.take k).map (·.1) then 62 else scn ((fs.take (k + 1)).map (·.1)) (fs.drop (k + 1)) := by
  rw [List.drop_eq_getElem_cons h, List.take_succ_eq_append_getElem h, List.map_append]
  rfl
end Rd
end Go.Proofs.YtppabcihbpbfpaaGreatDoor

/-
  The laws' own functions: copied, copies, namesAlike.
-/
namespace Go.Proofs.YtppabcihbpbfpaaGreatDoor
open Go Go.RowKit Go.ChangeShapes
open Wb
open Rd
theorem map_enS (l : List (List UInt8)) : l.map enS = l.flatMap enN := by
  induction l with
  | nil => rfl
  | cons x l ih => rw [List.map_cons, List.flatMap_cons, ih]; rfl
end Go.Proofs.YtppabcihbpbfpaaGreatDoor
