/-
  Package disk: rising, List, Read.
-/
import Derived.Test.YtjepeeopjjnglaaDk9
import Derived.Test.YtjepeeopjjnglaaSht
import Derived.Shelf.Sort.Plain
import Derived.Shelf.AbstractIn
namespace Go.Proofs.Ytjepeeopjjnglaa
open Go Go.RowKit Go.ChangeShapes Go.Maps Go.Sort Go.Shelf
open Wb

theorem dksorts (m : Nat) : AnyZ.SortsIn Try.prog laysSorted_ren Fence.wide m :=
  ⟨fun blk off cap ss W hH hblk hsz => callsIn_wide.2 (Any.slices_Sort_string laysSort blk off cap ss W hH hblk hsz),
   fun p cap W => callsIn_wide.2 (Any.slices_Sort_string_none laysSort p cap W)⟩
theorem Dk.bb_lt : ∀ a b : List UInt8, bytesBefore a b = true → a < b
  | [], [], h => by cases h
  | [], _ :: _, _ => List.nil_lt_cons _ _
  | _ :: _, [], h => by cases h
  | x :: r, y :: s, h => by
    rw [bytesBefore] at h
    simp only [Bool.or_eq_true, decide_eq_true_eq, Bool.and_eq_true, beq_iff_eq] at h
    rw [List.cons_lt_cons_iff]
    rcases h with h | ⟨rfl, h⟩
    · exact .inl h
    · exact .inr ⟨rfl, Dk.bb_lt r s h⟩
theorem Dk.keys_dm (l : Dk.Nm) : strKeys (Dk.dm l) = l.map (·.1) := by
  unfold Dk.dm
  simp only [strKeys, List.map_map]
  rfl
theorem Dk.keys_sorted (l : Dk.Nm) (h : Dk.rising l) (ss : List (List UInt8)) (hp : ss.Perm (strKeys (Dk.dm l))) : ss.mergeSort (fun x y => decide (x ≤ y)) = l.map (·.1) := by
  rw [Dk.keys_dm] at hp
  have tr : ∀ a b c : List UInt8, leB a b = true → leB b c = true → leB a c = true := fun a b c h1 h2 => by simp only [leB, decide_eq_true_eq] at *; exact List.le_trans h1 h2
  have tot : ∀ a b : List UInt8, (leB a b || leB b a) = true := fun a b => by simp only [leB, Bool.or_eq_true, decide_eq_true_eq]; exact List.le_total a b
  refine List.Perm.eq_of_pairwise (le := fun a b => leB a b = true) (fun a b _ _ h1 h2 => ?_) (List.pairwise_mergeSort tr tot ss) ?_ ((List.mergeSort_perm ss leB).trans hp)
  · simp only [leB, decide_eq_true_eq] at h1 h2
    exact List.le_antisymm h1 h2
  · rw [List.pairwise_map]
    refine List.Pairwise.imp (fun {p q} hpq => ?_) h
    simp only [leB, decide_eq_true_eq]
    exact List.le_of_lt (Dk.bb_lt _ _ hpq)
set_option maxRecDepth 100000 in
set_option maxHeartbeats 2000000 in
theorem dkrising_any (m : Option Nat) (l : Dk.Nm) (w : World) (h : MpA w m l) (hl : l.length ≤ 1000000000) :
    Calls Try.prog 46 #[.map m] w fun e w' => ∃ v, e = .returned v ∧ w'.ownsRow w.heap.size 9 1 v l.length (l.map fun p => enS p.1) ∧ Below w.heap.size w w' := by
  refine (callsIn_wide (n := 6)).1 ?_
  have HR : Hid (Dk.rising l) := h.1
  have hsq : ∃ N, N ≤ 1000000000 ∧ SeqGives Fence.wide 2 Try.prog 68 #[.pointer (some ⟨w.heap.size, 0, none⟩)] encStr (fun ss => ss.Perm (strKeys (Dk.dm l))) N (w.alloc (.cells #[.map m] 79)) := by
    rcases h.2 with ⟨rfl, rfl⟩ | ⟨b, rfl, hown⟩
    · refine ⟨0, by omega, ?_⟩
      have h9 := AnyZ.keys_gives_nil (ρ := laysKeys_ren) { laysKeys with } Fence.wide 2 trivial rfl w.heap.size (w.alloc (.cells #[.map none] 79)) (by simp) (by simp)
      have e : (fun ss : List (List UInt8) => ss = []) = (fun ss => ss.Perm (strKeys (Dk.dm []))) := by
        funext ss
        rw [Dk.keys_dm]
        simp
      rw [e] at h9
      exact h9
    · refine ⟨_, by rw [← Dk.dm_size] at hl; exact hl, ?_⟩
      have hbl := hown.lt
      exact AnyZ.keys_gives (ρ := laysKeys_ren) { laysKeys with } Fence.wide _ trivial rfl (by omega) w.heap.size b l.length (Dk.dm l) _ (by simp) (by simp) (by
        obtain ⟨es, clock, hb, Ft, hs, hD⟩ := hown
        exact ⟨es, clock, (Below.heap_alloc _ _ b hbl).trans hb, Ft, hs, hD⟩)
  obtain ⟨N, hN, hseq⟩ := hsq
  clear h
  have cK : ∀ mb W, CallsIn Fence.wide 5 Try.prog 60 #[.map mb] W fun e w' => e = .returned (.func (.func 68) #[] #[.pointer (some ⟨W.heap.size, 0, none⟩)]) ∧ w' = W.alloc (.cells #[.map mb] 79) := fun mb W => AnyZ.keys_in laysKeys Fence.wide 5 trivial rfl mb W
  have cS := AnyZ.sorted_in laysSorted Fence.wide 5 trivial trivial trivial trivial rfl (by omega) (dksorts _) (enters_of Try.func67 (by kernel_rfl) rfl) 68 #[.pointer (some ⟨w.heap.size, 0, none⟩)] trivial (enters_of Try.func68 (by kernel_rfl) rfl) _ _ (by unfold maxLen; omega) (by omega) _ hseq
  change CallsIn _ _ Try.prog 59 _ _ _ at cS
  have hfK : Fence.wide.fn 60 := trivial
  have hfS : Fence.wide.fn 59 := trivial
  refine callsIn_of_wp Try.func46 rfl trivial ?_ rfl
  simp only [Try.ntmps46, List.size_toArray, List.length_cons, List.length_nil, Nat.reduceAdd, Nat.reduceSub, Array.replicate_succ, Array.replicate_zero, List.push_toArray, List.append_toArray, List.nil_append, List.cons_append]
  clear hseq
  gi_wp2_with (first
    | (gi_at_call 60; refine (cK _ _).mono ?_; rintro e w' ⟨rfl, rfl⟩)
    | (gi_at_call 59; refine cS.mono ?_; rintro e w' ⟨v, ss, rfl, hS, hrow, hnil, hb⟩))
  go_ret
  have e1 := Dk.keys_sorted l HR.out ss hS
  have e2 : ss.length = l.length := by
    rw [hS.length_eq, Dk.keys_dm, List.length_map]
  rw [e1, e2, List.map_map] at hrow
  exact ⟨v, rfl, ownsRow_base_a hrow (by simp), ((Below.refl _ w).alloc (Nat.le_refl _) _).trans (hb.mono (by simp))⟩
namespace Dk
def lst (S : DS) : List (List UInt8) := if S.down = true then [] else S.nm.map (·.1)
def rdD (S : DS) (s : List UInt8) : List Nat := if (findE S s).1 = 0 then (S.fo (fil S s)).data else []
end Dk
set_option maxRecDepth 100000 in
set_option maxHeartbeats 4000000 in
theorem dklist_any (B g : Nat) (S : Dk.DS) (M : Mm) (w : World) (h : DM B w g S M) (hl : S.nm.length ≤ 1000000000) :
    Calls Try.prog 16 #[.pointer (some ⟨g, 0, none⟩)] w fun e w' => ∃ v, e = .returned v ∧ w'.ownsRow w.heap.size 9 1 v (Dk.lst S).length ((Dk.lst S).map enS) ∧ Below w.heap.size w w' := by
  have x7 := h.box.cell 7 _ rfl
  have x2 := h.box.cell 2 _ rfl
  have HR : Hid (Calls Try.prog 46 #[.map M.mn] w fun e w' => ∃ v, e = .returned v ∧ w'.ownsRow w.heap.size 9 1 v S.nm.length (S.nm.map fun p => enS p.1) ∧ Below w.heap.size w w') := dkrising_any M.mn S.nm w h.nm hl
  clear h
  cases hd : S.down with
  | true =>
    have HE : Hid (Dk.lst S = []) := by
      show Dk.lst S = []
      unfold Dk.lst
      rw [if_pos hd]
    rw [hd] at x7
    clear hd HR
    go_enter Try.func16, Try.ntmps16
    go_wp2_with fail
    go_returns
    rw [HE.out]
    exact ⟨_, rfl, World.ownsRow_nil _ _ _ _, Below.refl _ _⟩
  | false =>
    have HE : Hid (Dk.lst S = S.nm.map (·.1)) := by
      show Dk.lst S = _
      unfold Dk.lst
      rw [if_neg (by rw [hd]; simp)]
    rw [hd] at x7
    clear hd
    go_enter Try.func16, Try.ntmps16
    go_wp2_with fail
    refine HR.out.mono ?_
    rintro e w' ⟨v, rfl, r, b⟩
    have HF : Hid (w'.ownsRow w.heap.size 9 1 v S.nm.length (S.nm.map fun p => enS p.1) ∧ Below w.heap.size w w') := ⟨r, b⟩
    clear r b HR
    go_wp2_with fail
    go_returns
    rw [HE.out, List.length_map, List.map_map]
    exact ⟨_, rfl, HF.out.1, HF.out.2⟩
set_option maxRecDepth 100000 in
set_option maxHeartbeats 4000000 in
theorem dkread_any (B g : Nat) (S : Dk.DS) (M : Mm) (s : ByteArray) (w : World) (h : DM B w g S M) (hs : s.size ≤ maxLen) (hid : ∀ p ∈ S.nm, p.2 ∈ S.ids) (hln : ∀ f ∈ S.ids, (S.fo f).data.length ≤ 1000000000) :
    Calls Try.prog 15 #[.pointer (some ⟨g, 0, none⟩), .string s] w fun e w' => ∃ v, e = .returned (.tuple #[v, .int .i64 (Dk.findE S s.data.toList).1]) ∧ Own w.heap.size w' v (Dk.rdD S s.data.toList) ∧ Below w.heap.size w w' := by
  have H0 : Hid (∀ W, Below w.heap.size w W → DM B W g S M) := fun W hW => h.kept hW
  have cF := dkfind_any B g S M s w h hs
  rcases Dk.find_cases S s.data.toList with ⟨f, hE, hg⟩ | ⟨ae, hne, hE⟩
  · have HFI : Hid (f ∈ S.ids) := hid _ (Dk.get_mem hg)
    have HE : Hid (Dk.rdD S s.data.toList = (S.fo f).data ∧ (Dk.findE S s.data.toList).1 = 0) := by
      refine ⟨?_, by rw [hE]⟩
      unfold Dk.rdD Dk.fil
      rw [hE, if_pos rfl]
      rfl
    obtain ⟨a1, c1, hdv, hc1, hc2⟩ := Mg.row_shape (h.fd f HFI.out).row
    have HDV : Hid (M.dv f = .slice a1 (S.fo f).data.length c1) := hdv
    have HL : Hid ((S.fo f).data.length ≤ 1000000000) := hln f HFI.out
    rw [hE] at cF
    dsimp only [fpo, fp] at cF
    clear hE hg hid hs h hln hdv hc1 hc2
    go_enter Try.func15, Try.ntmps15
    go_wp2_with fail
    refine cF.mono ?_
    rintro e W1 ⟨rfl, b1⟩
    have HB1 : Hid (Below w.heap.size w W1) := b1
    have fb := (H0.out W1 b1).fb f HFI.out
    rw [HDV.out] at fb
    have x0 := fb.cell 0 _ rfl
    have ow := (H0.out W1 b1).fd f HFI.out
    rw [HDV.out] at ow
    have HCL : Hid (Calls Try.prog 47 #[.slice a1 (S.fo f).data.length c1] W1 fun e w' => ∃ v', e = .returned v' ∧ Own W1.heap.size w' v' (S.fo f).data ∧ Below W1.heap.size W1 w') := bclone_any _ _ W1 ow.bs (by have := HL.out; omega)
    clear b1 fb ow
    go_wp2_with fail
    refine HCL.out.mono ?_
    rintro e W2 ⟨v2, rfl, o2, b2⟩
    have HF : Hid (Own w.heap.size W2 v2 (S.fo f).data ∧ Below w.heap.size w W2) := ⟨o2.mono HB1.out.size, andThen HB1.out b2⟩
    clear o2 b2 HCL
    go_wp2_with fail
    go_returns
    rw [HE.out.1, HE.out.2]
    exact ⟨_, rfl, HF.out.1, HF.out.2⟩
  · have HE : Hid (Dk.rdD S s.data.toList = [] ∧ (Dk.findE S s.data.toList).1 = ae) := by
      refine ⟨?_, by rw [hE]⟩
      unfold Dk.rdD
      rw [hE, if_neg hne]
    rw [hE] at cF
    dsimp only [fpo] at cF
    have hd : (ae != 0) = true := by simp only [bne_iff_ne, ne_eq]; exact hne
    clear hE hne hid hs h hln
    go_enter Try.func15, Try.ntmps15
    go_wp2_with fail
    refine cF.mono ?_
    rintro e W1 ⟨rfl, b1⟩
    have HB1 : Hid (Below w.heap.size w W1) := b1
    clear b1
    go_wp2_with fail
    go_returns
    rw [HE.out.1, HE.out.2]
    exact ⟨_, rfl, Own.nil _ _, HB1.out⟩
end Go.Proofs.Ytjepeeopjjnglaa
