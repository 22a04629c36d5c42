/-
  Records by their values; a range of cells stands where the block stands.
-/
import Derived.Test.YtggenlnknnhjgaaSb7
namespace Go.Proofs.Ytggenlnknnhjgaa.Lft
open Go Go.RowKit
open Wb
theorem rng_alloc {w : World} {g o : Nat} {cs : List Value} (h : w.rangeAt g o cs) {w' : World} (hb : Below w.heap.size w w') : w'.rangeAt g o cs := fun m v hv =>
  (hb.cell (p := ⟨g, o + m, none⟩) (World.block_lt_of_cell? _ _ (h m v hv))).trans (h m v hv)
theorem info_parts3 {P : Program} {t : TypeId} {z : Value} {a b : Nat} (h : (P.info? t).map (fun i => (i.zero, i.size, i.bytes)) = some (some z, a, b)) : ∃ i, P.info? t = some i ∧ i.zero = some z ∧ i.size = a ∧ i.bytes = b := by
  cases hq : P.info? t with
  | none => rw [hq] at h; simp at h
  | some i =>
    rw [hq] at h
    simp at h
    exact ⟨i, rfl, h.1, h.2.1, h.2.2⟩
end Go.Proofs.Ytggenlnknnhjgaa.Lft
namespace Go.Proofs.Ytggenlnknnhjgaa
open Go Go.RowKit
open Wb
structure Rec where
  x : Nums
  nm : ByteArray
  l : List Nat
def Off (g : Nat) (d : Value) (l : List Nat) : Prop := l ≠ [] → ∀ b off n cap, d = .slice (some ⟨b, off, none⟩) n cap → b ≠ g
theorem off_of {w : World} {d : Value} {l : List Nat} (h : Bs w d l) (g : Nat) (hg : w.heap.size ≤ g) : Off g d l := fun hne b off n cap e => by
  obtain ⟨ao', cap', e', _, _, _, hc⟩ := h.shape
  obtain ⟨b', off', e2, hcell⟩ := hc hne
  rw [e', e2] at e
  simp at e
  have := World.block_lt_of_cell? _ _ (hcell 0 (List.length_pos_iff.2 hne))
  simp at this
  omega
def Nums.fit (x : Nums) : Prop := ∀ t, 1 ≤ t → t ≤ 9 → -9223372036854775808 ≤ x.tag t ∧ x.tag t ≤ 9223372036854775807
end Go.Proofs.Ytggenlnknnhjgaa
