/-
  Package index: Keys.
-/
import Derived.Test.YtceokpklcfmadaaIxh
import Derived.Test.YtceokpklcfmadaaShu
import Derived.Shelf.AbstractIn
namespace Go.Proofs.Ytceokpklcfmadaa
open Go Go.RowKit Go.ChangeShapes Go.Maps Go.Sort Go.Shelf
open Wb

theorem ixsorts (m : Nat) : AnyZI.SortsIn Try.prog laysSorted_ren Fence.wide m :=
  ⟨fun blk off cap ss W hH hblk hsz => callsIn_wide.2 (AnyM.slices_Sort_int laysSort blk off cap ss W hH hblk hsz),
   fun p cap W => callsIn_wide.2 (AnyM.slices_Sort_int_none laysSort p cap W)⟩
theorem Ix.keys_dm (kvs : Ix.Gm) : intKeys (Ix.dm kvs) = kvs.map (·.1) := by
  unfold Ix.dm
  simp only [intKeys, List.map_map]
  rfl
theorem Ix.keys_sorted (kvs : Ix.Gm) (h : Ix.rising kvs) (ss : List Int) (hp : ss.Perm (intKeys (Ix.dm kvs))) : ss.mergeSort (fun x y => decide (x ≤ y)) = kvs.map (·.1) := by
  rw [Ix.keys_dm] at hp
  have tr : ∀ a b c : Int, leI a b = true → leI b c = true → leI a c = true := fun a b c h1 h2 => by simp only [leI, decide_eq_true_eq] at *; exact Int.le_trans h1 h2
  have tot : ∀ a b : Int, (leI a b || leI b a) = true := fun a b => by simp only [leI, Bool.or_eq_true, decide_eq_true_eq]; exact Int.le_total a b
  refine List.Perm.eq_of_pairwise (le := fun a b => leI a b = true) (fun a b _ _ h1 h2 => ?_) (List.pairwise_mergeSort tr tot ss) ?_ ((List.mergeSort_perm ss leI).trans hp)
  · simp only [leI, decide_eq_true_eq] at h1 h2
    exact Int.le_antisymm h1 h2
  · rw [List.pairwise_map]
    refine List.Pairwise.imp (fun {p q} hpq => ?_) h
    simp only [leI, decide_eq_true_eq]
    omega
set_option maxRecDepth 100000 in
set_option maxHeartbeats 2000000 in
theorem ixkeys_any (g b base n : Nat) (kvs : Ix.Gm) (w : World) (h : MI w g b base n kvs) (hk : kvs.length ≤ 10000000) :
    Calls Try.prog 18 #[.pointer (some ⟨g, 0, none⟩)] w fun e w' => ∃ v, e = .returned v ∧ Ri w' v (kvs.map (·.1)) ∧ Below w.heap.size w w' := by
  refine (callsIn_wide (n := 6)).1 ?_
  have hown : w.ownsMap Try.prog 3 (rowE w base b) b n (Ix.dm kvs) := h.ownsE
  have HR : Hid (Ix.rising kvs) := h.ris
  have x0 := h.box.cell 0 _ rfl
  have hsz := has_size kvs
  have hbl := hown.lt
  clear h
  have hseq : SeqGives Fence.wide 2 Try.prog 62 #[.pointer (some ⟨w.heap.size, 0, none⟩)] encZ (fun ss => ss.Perm (intKeys (Ix.dm kvs))) (Maps.size (Ix.dm kvs)) (w.alloc (.cells #[.map (some b)] 97)) :=
    AnyZI.keys_gives (ρ := laysKeys_ren) { laysKeys with } Fence.wide _ trivial rfl (by omega) w.heap.size b n (Ix.dm kvs) _ (by simp) (by simp) (by
      obtain ⟨es, clock, hb, Ft, hs, hD⟩ := hown
      exact ⟨es, clock, (Below.heap_alloc _ _ b hbl).trans hb, Ft, hs, hD⟩)
  have cK : ∀ mb W, CallsIn Fence.wide 5 Try.prog 49 #[.map mb] W fun e w' => e = .returned (.func (.func 62) #[] #[.pointer (some ⟨W.heap.size, 0, none⟩)]) ∧ w' = W.alloc (.cells #[.map mb] 97) := fun mb W => AnyZI.keys_in laysKeys Fence.wide 5 trivial rfl mb W
  have cS := AnyZI.sorted_in laysSorted Fence.wide 5 trivial trivial trivial trivial rfl (by omega) (ixsorts _) (enters_of Try.func61 (by kernel_rfl) rfl) 62 #[.pointer (some ⟨w.heap.size, 0, none⟩)] trivial (enters_of Try.func62 (by kernel_rfl) rfl) _ _ (by rw [hsz]; unfold maxLen; omega) (by rw [hsz]; omega) _ hseq
  change CallsIn _ _ Try.prog 48 _ _ _ at cS
  have hfK : Fence.wide.fn 49 := trivial
  have hfS : Fence.wide.fn 48 := trivial
  refine callsIn_of_wp Try.func18 rfl trivial ?_ rfl
  simp only [Try.ntmps18, List.size_toArray, List.length_cons, List.length_nil, Nat.reduceAdd, Nat.reduceSub, Array.replicate_succ, Array.replicate_zero, List.push_toArray, List.append_toArray, List.nil_append, List.cons_append]
  clear hseq hown
  gi_wp2_with (first
    | (gi_at_call 49; refine (cK _ _).mono ?_; rintro e w' ⟨rfl, rfl⟩)
    | (gi_at_call 48; refine cS.mono ?_; rintro e w' ⟨v, ss, rfl, hS, hrow, hnil, hb⟩))
  go_ret
  have e1 := Ix.keys_sorted kvs HR.out ss hS
  have e2 : ss.length = (kvs.map (·.1)).length := by
    rw [hS.length_eq, Ix.keys_dm]
  rw [e1, e2] at hrow
  exact ⟨v, rfl, Ri.of hrow, ((Below.refl _ w).alloc (Nat.le_refl _) _).trans (hb.mono (by simp))⟩
end Go.Proofs.Ytceokpklcfmadaa
