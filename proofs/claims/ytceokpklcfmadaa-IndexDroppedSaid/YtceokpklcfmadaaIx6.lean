/-
  Package index: entries in a row, sorted by their keys.
-/
import Derived.Test.YtceokpklcfmadaaIx5
import Derived.Test.YtceokpklcfmadaaSht
namespace Go.Proofs.Ytceokpklcfmadaa
open Go Go.RowKit Go.ChangeShapes Go.Shelf Go.Lib Go.Sort
open Wb

/-- an entry: its key, its list's slice -/
abbrev Ent := Int × (Option Addr × Nat × Nat)
def lsE (x : Ent) : Value := .slice x.2.1 x.2.2.1 x.2.2.2
def enE (x : Ent) : List Value := [.int .i64 x.1, lsE x]
theorem fmE_len (xs : List Ent) : (xs.flatMap enE).length = xs.length * 2 := by
  induction xs with
  | nil => rfl
  | cons x r ih => rw [List.flatMap_cons, List.length_append, ih, List.length_cons]; simp [enE]; omega
theorem fmE_get : ∀ (xs : List Ent) (t : Nat), (xs.flatMap enE)[t]? = (xs[t / 2]?).bind fun x => (enE x)[t % 2]?
  | [], t => by simp
  | x :: r, t => by
    rw [List.flatMap_cons]
    by_cases h : t < 2
    · rw [List.getElem?_append_left (by simpa [enE] using h), Nat.div_eq_of_lt h, Nat.mod_eq_of_lt h]
      rfl
    · rw [List.getElem?_append_right (by simp [enE]; omega), fmE_get r]
      have e1 : (enE x).length = 2 := rfl
      rw [e1, show t / 2 = (t - 2) / 2 + 1 by omega, show t % 2 = (t - 2) % 2 by omega]
      rfl
theorem flatE (d : Array Ent) : (flatK enE 2 d).toList = d.toList.flatMap enE := by
  refine List.ext_getElem? fun t => ?_
  rw [fmE_get]
  by_cases h : t < d.size * 2
  · rw [Array.getElem?_toList, Array.getElem?_eq_getElem (by rw [size_flatK]; exact h)]
    have e := get_flatK enE 2 d t h
    rw [getElem!_pos _ t (by rw [size_flatK]; exact h)] at e
    rw [e]
    have h2 : t / 2 < d.size := by omega
    rw [Array.getElem?_toList, Array.getElem?_eq_getElem h2, getElem!_pos d (t / 2) h2]
    have h3 : t % 2 < (enE d[t / 2]).length := by show t % 2 < 2; omega
    rw [Option.bind_some, List.getElem?_eq_getElem h3, getElem!_pos (enE d[t / 2]) (t % 2) h3]
  · rw [List.getElem?_eq_none (by rw [Array.length_toList, size_flatK]; omega), List.getElem?_eq_none (by rw [Array.length_toList]; omega)]
    rfl
section
variable {w : World} {B g cap : Nat} {xs : List Ent}
theorem holdsE (h : w.ownsRow B 122 2 (.slice (some ⟨g, 0, none⟩) xs.length cap) xs.length (xs.flatMap enE)) : HoldsK enE 2 w g 0 xs.toArray := by
  intro j hj
  rw [size_flatK] at hj
  have hj2 : j < xs.length * 2 := by simpa using hj
  refine ⟨?_, by rw [Nat.zero_add]; exact World.ownsRow.frozenAt h j⟩
  have e := World.ownsRow.cellAt h j (by omega)
  rw [Nat.zero_add, e]
  have e2 := flatE xs.toArray
  rw [List.toList_toArray] at e2
  rw [← e2, Array.getElem?_toList, Array.getElem?_eq_getElem (by rw [size_flatK]; exact hj), getElem!_pos _ j (by rw [size_flatK]; exact hj)]
  rfl
theorem grownE (n : Nat) (os : Array Obj) (d : Array Ent) : w.grownBy (sortWorldK enE 2 w g 0 n d os) (some g) := by
  refine ⟨rfl, rfl, rfl, by simp [sortWorldK, putRowK], fun k hk hne => ?_⟩
  unfold sortWorldK putRowK
  rw [heap_grow_old _ _ (by simpa using hk)]
  have : g ≠ k := fun e => hne (by rw [e])
  simp [putRow, mapBlock, Array.getElem?_modify, this]
theorem sortedE (h : w.ownsRow B 122 2 (.slice (some ⟨g, 0, none⟩) xs.length cap) xs.length (xs.flatMap enE)) (n : Nat) (os : Array Obj) (d : Array Ent) (hd : d.size = xs.length) : (sortWorldK enE 2 w g 0 n d os).ownsRow B 122 2 (.slice (some ⟨g, 0, none⟩) xs.length cap) xs.length (d.toList.flatMap enE) := by
  rcases h.2 with ⟨e, -⟩ | ⟨g', cap', cur, e, hb, hh, h1, h2, h3, h4⟩
  · cases e
  · simp only [Value.slice.injEq, Option.some.injEq, Addr.mk.injEq, and_true, true_and] at e
    obtain ⟨rfl, rfl⟩ := e
    refine ⟨by rw [fmE_len, Array.length_toList, hd], .inr ⟨g, cap, putCells id 0 (flatK enE 2 d) cur, rfl, hb, ?_, h1, h2, by simp [putCells, h3], ?_⟩⟩
    · have hg : g < w.heap.size := (Array.getElem?_eq_some_iff.1 hh).1
      unfold sortWorldK putRowK
      rw [heap_grow_old _ _ (by simpa using hg)]
      simp [putRow, mapBlock, Array.getElem?_modify, hh, onCells]
    · rw [← flatE]
      have hs : (flatK enE 2 d).size = xs.length * 2 := by rw [size_flatK, hd]
      have hcs : xs.length * 2 ≤ cur.size := by rw [h3]; exact Nat.mul_le_mul_right 2 h1
      refine List.ext_getElem? fun j => ?_
      by_cases hj : j < xs.length * 2
      · rw [List.getElem?_take_of_lt hj, Array.getElem?_toList, Array.getElem?_toList]
        simp [putCells, hs, hj, show j < cur.size by omega]
      · rw [List.getElem?_take_eq_none (by omega), List.getElem?_eq_none (by rw [Array.length_toList]; omega)]
end
theorem ltE (x y : Ent) : ltOf (fun x y : Ent => Lib.compareInt x.1 y.1) x y = decide (x.1 < y.1) := by
  unfold ltOf Lib.compareInt
  by_cases h1 : x.1 < y.1
  · simp [h1]
  · by_cases h2 : y.1 < x.1 <;> simp [h1, h2]
theorem swoE : SWO (ltOf fun x y : Ent => Lib.compareInt x.1 y.1) where
  irrefl x := by rw [ltE]; simp
  trans x y z h1 h2 := by rw [ltE] at *; simp at *; omega
  ntrans x y z h1 h2 := by rw [ltE] at *; simp at *; omega
set_option maxRecDepth 100000 in
set_option maxHeartbeats 1000000 in
theorem closeE (x y : Ent) (W : World) : Calls Try.prog 68 #[.agg (enE x).toArray, .agg (enE y).toArray] W fun e w' => e = .returned (.int .i64 (Lib.compareInt x.1 y.1)) ∧ ∃ q os', w' = grow (W.drewN q) os' := by
  have hcon := fun W' => AnyG.cmp_Compare_int laysCmp x.1 y.1 W'
  change ∀ W', Calls Try.prog 69 _ _ _ at hcon
  unfold enE lsE
  generalize Lib.compareInt x.1 y.1 = r at hcon ⊢
  go_enter Try.func68, Try.ntmps68
  go_wp2_with (go_at_call 69; refine (hcon _).mono ?_; rintro e w' ⟨rfl, rfl⟩)
  go_ret
  exact ⟨rfl, 0, _, by rw [alloc_eq_grow, alloc_eq_grow, grow_grow]; rfl⟩
theorem isAggE (w : World) : (isAgg 122).run Try.prog w = .ok true w := by kernel_rfl
theorem sizeOfE (w : World) : (Go.sizeOf 122).run Try.prog w = .ok 2 w := by kernel_rfl
theorem pair_sorted (d : Array Ent) (n : Nat) (hn : d.size = n) (h : SortedIn (ltOf fun x y : Ent => Lib.compareInt x.1 y.1) 0 n d) (hd : (d.toList.map (·.1)).Nodup) : d.toList.Pairwise (fun a b => a.1 < b.1) := by
  subst hn
  rw [List.pairwise_iff_getElem]
  intro i j hi hj hij
  rw [Array.length_toList] at hi hj
  have e := h i j (Nat.zero_le _) hij hj
  rw [ltE, getElem!_pos d i hi, getElem!_pos d j hj] at e
  have e2 : ¬ d[j].1 < d[i].1 := of_decide_eq_false e
  have e3 : d[i].1 ≠ d[j].1 := fun e4 => by
    have h5 := List.pairwise_iff_getElem.1 hd i j (by simpa using hi) (by simpa using hj) hij
    apply h5
    simpa using e4
  rw [Array.getElem_toList, Array.getElem_toList]
  omega
theorem ixsort_any (B g cap : Nat) (xs : List Ent) (w : World) (h : w.ownsRow B 122 2 (.slice (some ⟨g, 0, none⟩) xs.length cap) xs.length (xs.flatMap enE)) (hn : xs.length < 1000000000) (hd : (xs.map (·.1)).Nodup) :
    Calls Try.prog 67 #[.slice (some ⟨g, 0, none⟩) xs.length cap, .func (.func 68) #[] #[]] w fun e w' => e = .returned (.tuple #[]) ∧ ∃ ys : List Ent, ys.Perm xs ∧ ys.Pairwise (fun a b => a.1 < b.1) ∧ w'.ownsRow B 122 2 (.slice (some ⟨g, 0, none⟩) xs.length cap) xs.length (ys.flatMap enE) ∧ w.grownBy w' (some g) := by
  have eg : ∀ args w, (callFunc 68 args).run Try.prog w = .ok (.enter 68 args) w := enters_of Try.func68 (by kernel_rfl) rfl
  have hg : g < w.heap.size := by
    rcases h.2 with ⟨e, -⟩ | ⟨g', cap', cur, e, -, hh, -⟩
    · cases e
    · simp only [Value.slice.injEq, Option.some.injEq, Addr.mk.injEq, and_true, true_and] at e
      rw [e.1]
      exact (Array.getElem?_eq_some_iff.1 hh).1
  have hcon := AnyQ.slices_SortFunc laysSortF 2 isAggE sizeOfE enE (fun _ => rfl) (fun x v hv => by simp [enE, lsE] at hv; rcases hv with rfl | rfl <;> rfl) (fun x y => Lib.compareInt x.1 y.1) swoE 68 #[] g 0 cap xs.toArray w eg (fun _ _ _ _ x y => closeE x y _) (holdsE h) hg (by simp; omega)
  change Calls Try.prog 67 _ _ _ at hcon
  rw [List.size_toArray] at hcon
  refine hcon.mono fun e w' ⟨he, d', n, os, hp, hs, hw⟩ => ⟨he, d'.toList, ?_, ?_, ?_, ?_⟩
  · have h3 := hp.2.2
    have e1 : d'.size = xs.length := by rw [hp.1]; simp
    rw [Array.toList_extract, Array.toList_extract, List.extract_eq_take_drop, List.extract_eq_take_drop, List.drop_zero, List.drop_zero, Nat.sub_zero, List.take_of_length_le (by rw [Array.length_toList]; omega), List.take_of_length_le (by simp)] at h3
    exact h3
  · have e1 : d'.size = xs.length := by rw [hp.1]; simp
    refine pair_sorted d' xs.length e1 hs ?_
    have h3 := hp.2.2
    rw [Array.toList_extract, Array.toList_extract, List.extract_eq_take_drop, List.extract_eq_take_drop, List.drop_zero, List.drop_zero, Nat.sub_zero, List.take_of_length_le (by rw [Array.length_toList]; omega), List.take_of_length_le (by simp)] at h3
    exact (h3.map (·.1)).nodup_iff.2 hd
  · rw [hw]
    exact sortedE h n os d' (by rw [hp.1]; simp)
  · rw [hw]
    exact grownE n os d'
end Go.Proofs.Ytceokpklcfmadaa
