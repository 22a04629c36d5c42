/-
  LiftEmpty, LiftOwn: filled.
-/
import Derived.Test.YtppgijgmhjfdfaaDoorKp3
import Derived.Test.YtppgijgmhjfdfaaDoorWo0
import Derived.Deep.Cut
import Derived.Deep.RegionHeldLaw
namespace Go.Proofs.YtppgijgmhjfdfaaDoor
open Go Go.RowKit
open Wb

/-- byte rows in a list, apart -/
structure Lst (B : Nat) (w : World) (vl : Value) (ds : List Value) (c : Nat → List Nat) : Prop where
  row : w.ownsRow 0 25 1 vl ds.length ds
  each : ∀ (i : Nat) (d : Value), ds[i]? = some d → Own B w d (c i)
  apart : ∀ (i j : Nat) (d e : Value), ds[i]? = some d → ds[j]? = some e → i ≠ j → ∀ g, d.ownBlock = some g → e.ownBlock ≠ some g
  rowap : ∀ d ∈ ds, ∀ g, vl.ownBlock = some g → d.ownBlock ≠ some g
/-- only the rows' blocks, and new ones, are others -/
structure Frm (ds : List Value) (w w' : World) : Prop where
  size : w.heap.size ≤ w'.heap.size
  same : ∀ g, g < w.heap.size → (∀ d ∈ ds, d.ownBlock ≠ some g) → w'.heap[g]? = w.heap[g]?
theorem Frm.refl (ds : List Value) (w : World) : Frm ds w w := ⟨Nat.le_refl _, fun _ _ _ => rfl⟩
theorem owns_block {B : Nat} {w w' : World} {v : Value} {n s : Nat} {t : TypeId} {cs : List Value} (h : w.ownsRow B t s v n cs) (hg : ∀ g, v.ownBlock = some g → w'.heap[g]? = w.heap[g]?) : w'.ownsRow B t s v n cs := by
  refine ⟨h.1, ?_⟩
  rcases h.2 with h1 | ⟨g, cap, cur, rfl, h1, hg0, rest⟩
  · exact .inl h1
  · exact .inr ⟨g, cap, cur, rfl, h1, (hg g rfl).trans hg0, rest⟩
theorem Lst.kept {B : Nat} {w w' : World} {vl : Value} {ds : List Value} {c : Nat → List Nat} (h : Lst B w vl ds c) (hb : Below w.heap.size w w') : Lst B w' vl ds c := ⟨owns_kept h.row hb, fun i d hd => (h.each i d hd).kept hb, h.apart, h.rowap⟩
theorem Lst.put {B : Nat} {w : World} {vl : Value} {ds : List Value} {c : Nat → List Nat} (h : Lst B w vl ds c) (k g cap : Nat) (hk : ds[k]? = some (.slice (some ⟨g, 0, none⟩) (c k).length cap)) (j b : Nat) (hj : j < (c k).length) (hb : b < 256) :
    Lst B (w.setCell ⟨g, j, none⟩ (.int .u8 (b : Int))) vl ds (fun i => if i = k then (c k).set j b else c i) := by
  refine ⟨owns_block h.row fun g' hg' => set_other w _ _ g' fun e => h.rowap _ (List.mem_of_getElem? hk) g' hg' (by rw [e]; rfl), fun i d hd => ?_, h.apart, h.rowap⟩
  by_cases hi : i = k
  · subst hi
    obtain rfl : Value.slice (some ⟨g, 0, none⟩) (c i).length cap = d := Option.some.inj (hk.symm.trans hd)
    rw [if_pos rfl]
    exact Own.put (h.each i _ hk) j b hj hb rfl
  · rw [if_neg hi]
    exact own_kept2 (h.each i d hd) fun g' hg' => set_other w _ _ g' fun e => h.apart i k d _ hd hk hi g' hg' (by rw [e]; rfl)
theorem Lst.shape {B : Nat} {w : World} {vl : Value} {ds : List Value} {c : Nat → List Nat} (h : Lst B w vl ds c) : ∃ ao, ∃ cap : Nat, vl = .slice ao ds.length cap ∧ cap ≤ maxLen ∧ ∀ k, k < ds.length → ∃ g, ao = some ⟨g, 0, none⟩ ∧ w.cell? ⟨g, k, none⟩ = ds[k]? := by
  have h0 := h.row
  rcases h.row.2 with ⟨rfl, h1⟩ | ⟨g, cap, cur, rfl, hb, hg, h1, h2, h3, h4⟩
  · exact ⟨none, 0, by rw [h1], by simp [maxLen], fun k hk => by omega⟩
  · exact ⟨some ⟨g, 0, none⟩, cap, rfl, h2, fun k hk => ⟨g, rfl, World.ownsRow.cellAt h0 k (by omega)⟩⟩
theorem wrap250 (i : Nat) : IntKind.wrap .u8 (1 + ((i % 250 : Nat) : Int)) = ((1 + i % 250 : Nat) : Int) := by
  have h : i % 250 < 250 := Nat.mod_lt _ (by decide)
  generalize i % 250 = m at *
  unfold IntKind.wrap
  simp [IntKind.bits, IntKind.signed]
  omega
theorem rem250 (k : Nat) : Int.tmod (k : Int) 250 = ((k % 250 : Nat) : Int) := by
  rw [Int.tmod_eq_emod_of_nonneg (by omega)]
  omega
theorem w250 (m : Nat) (h : m < 250) : wrap64 (1 + (m : Int)) % 256 = ((1 + m : Nat) : Int) := by
  unfold wrap64
  rw [Int.emod_eq_of_lt (a := 1 + (m : Int) + 9223372036854775808) (by omega) (by omega)]
  omega
def mkA (i : Nat) : Nat := 1 + i % 250
def mkT (i : Nat) : Nat := 251 + i % 5
end Go.Proofs.YtppgijgmhjfdfaaDoor
