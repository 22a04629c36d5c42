/-
  The bytes of an argument, and how long they are at the most.
-/
import Derived.Test.YtppgijgmhjfdfaaDoorOpen
import Derived.SizedLaws
namespace Go.Proofs.YtppgijgmhjfdfaaDoor
open Go.ChangeShapes Go.WideShapes Go.ChangeAt Go.RowKit
open Wb

theorem bytesTB : Tryd.prog.bytesOf 5 = 1 := by kernel_rfl

/-- .. and how long it is at the most -/
theorem open_bsz {H : Type} {enc : TypeId × Value → H} {W : World} {base : Nat} {v : Value} {d : DataW H} {p : List MemPlace} (hv : Value.okWide Tryd.prog W .any base 25 v)
    (h : DataW.Trod enc Tryd.prog W 0 (fun _ => true) true 25 v d p) (B : Nat) (hB : ∀ elems spare, d = .slice elems spare → elems.length + spare.length ≤ B) : ∃ l, Bs W v l ∧ l.length ≤ B := by
  obtain ⟨a0, len0, cap0, rfl⟩ := okWide_slice Tryd.underlying25 hv
  obtain ⟨fuel, hf⟩ := h
  rcases open_ints Tryd.underlying25 Tryd.underlying5 cellsTB hf with ⟨hcs, _⟩ | ⟨x, l, c, zs, hcs, _, hl, hm, hz, hx, hcell, hwz⟩
  · simp [Value.cells] at hcs
    obtain ⟨rfl, rfl, rfl⟩ := hcs
    exact ⟨[], Bs.nil W, Nat.zero_le _⟩
  · simp [Value.cells] at hcs
    obtain ⟨rfl, rfl, rfl⟩ := hcs
    simp only [Prod.mk.injEq] at hx
    have h1 := hB _ _ hx.1
    simp only [lits, List.length_map, List.length_take, List.length_drop] at h1
    refine ⟨_, bs_of_row hl hm (by simpa using hz) hcell hwz, ?_⟩
    simp at hz ⊢
    omega

end Go.Proofs.YtppgijgmhjfdfaaDoor
