/-
  The law package's helpers for a call's script: few, roomy.
-/
import Derived.Test.YtppgijgmhjfdfaaDoorRef1
namespace Go.Proofs.YtppgijgmhjfdfaaDoor
open Go Go.RowKit
open Wb

theorem rwhole_any (v : Value) (l : List Nat) (w : World) (h : Bs w v l) (hlen : l.length ≤ 140737488355328) :
    Calls Tryd.prog 21 #[v, .int .i64 0, .int .i64 (l.length : Int)] w fun e w' => ∃ v', e = .returned v' ∧ Own w.heap.size w' v' l ∧ Below w.heap.size w w' := by
  have h1 := rpart_any v l 0 l.length w h hlen (Nat.zero_le _) (Nat.le_refl _)
  rw [List.take_of_length_le (Nat.le_refl _), List.drop_zero] at h1
  exact h1

theorem fl_le (ls : List (List Nat)) (k : Nat) : (ls.take k).flatten.length ≤ ls.flatten.length := by
  have h1 := congrArg (fun x => (List.flatten x).length) (List.take_append_drop k ls)
  simp only [List.flatten_append, List.length_append] at h1
  omega

/-- few's answer -/
def FewSays (ls : List (List Nat)) (e : Ending) : Prop := ∃ b, e = .returned (.bool b) ∧ (b = true → ls.flatten.length + ls.length ≤ 4194304)

def pad (k : Nat) : List Nat := (List.range k).map fun i => 201 + i % 5
theorem pad_succ (k : Nat) : pad (k + 1) = pad k ++ [201 + k % 5] := by simp [pad, List.range_succ]
theorem pad_len (k : Nat) : (pad k).length = k := by simp [pad]
theorem pad_ok (k : Nat) : ok (pad k) := by
  intro x hx
  simp [pad] at hx
  obtain ⟨i, _, rfl⟩ := hx
  omega

end Go.Proofs.YtppgijgmhjfdfaaDoor
