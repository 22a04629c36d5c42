import Derived.Shelf.AbstractIn
import Derived.Test.YtceokpklcfmadaaQIA
import Derived.Test.YtceokpklcfmadaaQH2
/-
  Package index: Keys.
-/
namespace Go.Proofs.Ytceokpklcfmadaa
open Go Go.RowKit Go.ChangeShapes Go.Maps Go.Sort Go.Shelf
open Wb

theorem ixsorts (m : Nat) : AnyZI.SortsIn Try.prog laysSorted_ren Fence.wide m :=
  ⟨fun blk off cap ss W hH hblk hsz => callsIn_wide.2 (AnyM.slices_Sort_int laysSort blk off cap ss W hH hblk hsz),
   fun p cap W => callsIn_wide.2 (AnyM.slices_Sort_int_none laysSort p cap W)⟩
theorem Ix.keys_dm (kvs : Ix.Gm) : intKeys (Ix.dm kvs) = kvs.map (·.1) := by
  unfold Ix.dm
  simp only [intKeys, List.map_map]
  rfl
theorem Ix.keys_sorted (kvs : Ix.Gm) (h : Ix.rising kvs) (ss : List Int) (hp : ss.Perm (intKeys (Ix.dm kvs))) : ss.mergeSort (fun x y => decide (x ≤ y)) = kvs.map (·.1) := by
  rw [Ix.keys_dm] at hp
  have tr : ∀ a b c : Int, leI a b = true → leI b c = true → leI a c = true := fun a b c h1 h2 => by simp only [leI, decide_eq_true_eq] at *; exact Int.le_trans h1 h2
  have tot : ∀ a b : Int, (leI a b || leI b a) = true := fun a b => by simp only [leI, Bool.or_eq_true, decide_eq_true_eq]; exact Int.le_total a b
  refine List.Perm.eq_of_pairwise (le := fun a b => leI a b = true) (fun a b _ _ h1 h2 => ?_) (List.pairwise_mergeSort tr tot ss) ?_ ((List.mergeSort_perm ss leI).trans hp)
  · simp only [leI, decide_eq_true_eq] at h1 h2
    exact Int.le_antisymm h1 h2
  · rw [List.pairwise_map]
    refine List.Pairwise.imp (fun {p q} hpq => ?_) h
    simp only [leI, decide_eq_true_eq]
    omega
set_option maxRecDepth 100000 in
set_option maxHeartbeats 2000000 in
theorem ixkeys_any (g b base n : Nat) (kvs : Ix.Gm) (w : World) (h : MI w g b base n kvs) (hk : kvs.length ≤ 10000000) :
    Calls Try.prog 18 #[.pointer (some ⟨g, 0, none⟩)] w fun e w' => ∃ v, e = .returned v ∧ Ri w' v (kvs.map (·.1)) ∧ Below w.heap.size w w' := by
  refine (callsIn_wide (n := 6)).1 ?_
  have hown : w.ownsMap Try.prog 3 (rowE w base b) b n (Ix.dm kvs) := h.ownsE
  have HR : Hid (Ix.rising kvs) := h.ris
  have x0 := h.box.cell 0 _ rfl
  have hsz := has_size kvs
  have hbl := hown.lt
  clear h
  have hseq : SeqGives Fence.wide 2 Try.prog 62 #[.pointer (some ⟨w.heap.size, 0, none⟩)] encZ (fun ss => ss.Perm (intKeys (Ix.dm kvs))) (Maps.size (Ix.dm kvs)) (w.alloc (.cells #[.map (some b)] 97)) :=
    AnyZI.keys_gives (ρ := laysKeys_ren) { laysKeys with } Fence.wide _ trivial rfl (by omega) w.heap.size b n (Ix.dm kvs) _ (by simp) (by simp) (by
      obtain ⟨es, clock, hb, Ft, hs, hD⟩ := hown
      exact ⟨es, clock, (Below.heap_alloc _ _ b hbl).trans hb, Ft, hs, hD⟩)
  have cK : ∀ mb W, CallsIn Fence.wide 5 Try.prog 49 #[.map mb] W fun e w' => e = .returned (.func (.func 62) #[] #[.pointer (some ⟨W.heap.size, 0, none⟩)]) ∧ w' = W.alloc (.cells #[.map mb] 97) := fun mb W => AnyZI.keys_in laysKeys Fence.wide 5 trivial rfl mb W
  have cS := AnyZI.sorted_in laysSorted Fence.wide 5 trivial trivial trivial trivial rfl (by omega) (ixsorts _) (enters_of Try.func61 (by kernel_rfl) rfl) 62 #[.pointer (some ⟨w.heap.size, 0, none⟩)] trivial (enters_of Try.func62 (by kernel_rfl) rfl) _ _ (by rw [hsz]; unfold maxLen; omega) (by rw [hsz]; omega) _ hseq
  change CallsIn _ _ Try.prog 48 _ _ _ at cS
  have hfK : Fence.wide.fn 49 := trivial
  have hfS : Fence.wide.fn 48 := trivial
  refine callsIn_of_wp Try.func18 rfl trivial ?_ rfl
  simp only [Try.ntmps18, List.size_toArray, List.length_cons, List.length_nil, Nat.reduceAdd, Nat.reduceSub, Array.replicate_succ, Array.replicate_zero, List.push_toArray, List.append_toArray, List.nil_append, List.cons_append]
  clear hseq hown
  gi_wp2_with (first
    | (gi_at_call 49; refine (cK _ _).mono ?_; rintro e w' ⟨rfl, rfl⟩)
    | (gi_at_call 48; refine cS.mono ?_; rintro e w' ⟨v, ss, rfl, hS, hrow, hnil, hb⟩))
  go_ret
  have e1 := Ix.keys_sorted kvs HR.out ss hS
  have e2 : ss.length = (kvs.map (·.1)).length := by
    rw [hS.length_eq, Ix.keys_dm]
  rw [e1, e2] at hrow
  exact ⟨v, rfl, Ri.of hrow, ((Below.refl _ w).alloc (Nat.le_refl _) _).trans (hb.mono (by simp))⟩
end Go.Proofs.Ytceokpklcfmadaa

/-
  annalsref5: pairs in a row; Get.
-/
namespace Go.Proofs.Ytceokpklcfmadaa
open Go Go.RowKit Go.ChangeShapes
open Wb

/-- pairs in a row -/
def Pr (w : World) (v : Value) (ps : List (Int × Int)) : Prop := ∃ a c, v = .slice a ps.length c ∧ ps.length ≤ c ∧ c ≤ maxLen ∧ (ps ≠ [] → ∃ b off, a = some ⟨b, off, none⟩ ∧ ∀ j (h : j < ps.length), w.cell? ⟨b, off + j * 2, none⟩ = some (.int .i64 ps[j].1) ∧ w.cell? ⟨b, off + j * 2 + 1, none⟩ = some (.int .i64 ps[j].2))
theorem Pr.kept {w w' : World} {v : Value} {ps : List (Int × Int)} (h : Pr w v ps) (hb : Below w.heap.size w w') : Pr w' v ps := by
  obtain ⟨a, c, rfl, hm, hm2, hc⟩ := h
  refine ⟨a, c, rfl, hm, hm2, fun hne => ?_⟩
  obtain ⟨b, off, rfl, hcell⟩ := hc hne
  exact ⟨b, off, rfl, fun j hj => ⟨(hb.cell (p := ⟨b, off + j * 2, none⟩) (World.block_lt_of_cell? _ _ (hcell j hj).1)).trans (hcell j hj).1, (hb.cell (p := ⟨b, off + j * 2 + 1, none⟩) (World.block_lt_of_cell? _ _ (hcell j hj).2)).trans (hcell j hj).2⟩⟩
/-- append of one number -/
theorem wpList_appI {P : Program} (w : World) {ops : Array Oper} {rest : List Oper} {o : Oper} {a : Act} {Q : Exit → Act → World → Prop} (hgd : o.guard = none) (s x : Operand) (t : TypeId)
    (ho : o.op = .call { callee := .builtin .append, args := #[s, x], argTypes := #[t, t] })
    (B : Nat) (hinfo : (P.info? 3).map (fun i => (i.zero, i.size, i.bytes)) = some (some (.int .i64 0), 1, 8)) (ht : P.underlying t = some (.slice 3))
    (v : Value) (zs : List Int) (hv : a.eval s = v) (h : w.ownsRow B 3 1 v zs.length (zs.map (Value.int .i64))) (g c : Nat) (z : Int) (hx : a.eval x = .slice (some ⟨g, 0, none⟩) 1 c)
    (hc : w.cell? ⟨g, 0, none⟩ = some (.int .i64 z)) (hmax : zs.length ≤ 100000000) (hB : B ≤ w.heap.size)
    (hK : ∀ v' w', w'.ownsRow B 3 1 v' (zs ++ [z]).length ((zs ++ [z]).map (Value.int .i64)) → w.grownBy w' v.ownBlock → wpList P ops Q rest (a.put o.dst v') w') : wpList P ops Q (o :: rest) a w := by
  obtain ⟨i0, hi, hq⟩ := Option.map_eq_some_iff.1 hinfo
  simp only [Prod.mk.injEq] at hq
  obtain ⟨v', w', hrun, h2, h3, _⟩ := run_append_own (P := P) w B t o.type 3 i0 _ 1 8 ht hi hq.1 hq.2.1 hq.2.2 rfl (by decide) v zs.length _ h ⟨g, 0, none⟩ 1 c [.int .i64 z] rfl (fun j u hj => by
    cases j with
    | zero =>
      rw [Addr.add_lit]
      have e : u = .int .i64 z := by simpa using hj.symm
      rw [e]
      exact hc
    | succ j => simp at hj) (fun u hu => by rw [List.mem_singleton.1 hu]; rfl) (by unfold maxLen; omega) (by omega) hB
  refine wpList_plain hgd fun _ hK' => ?_
  unfold Oper.wp
  simp [execOp, ho, resolve, invoke, builtin, hv, hx, hrun, Result.andThen]
  refine hK' _ _ (hK v' w' ?_ h3)
  rw [List.length_append, List.map_append]
  exact h2
namespace Ix
/-- the values of a key -/
def vals (ps : List (Int × Int)) (k : Int) : List Int := (ps.filter fun p => p.1 == k).map (·.2)
theorem vals_take (ps : List (Int × Int)) (k : Int) (j : Nat) (hj : j < ps.length) : vals (ps.take (j + 1)) k = vals (ps.take j) k ++ (if ps[j].1 = k then [ps[j].2] else []) := by
  unfold vals
  rw [List.take_succ_eq_append_getElem hj, List.filter_append, List.map_append]
  congr 1
  by_cases h : ps[j].1 = k <;> simp [h]
theorem vals_len (ps : List (Int × Int)) (k : Int) : (vals ps k).length ≤ ps.length := by
  unfold vals
  rw [List.length_map]
  exact List.length_filter_le _ _
end Ix
/-- what Get has gathered -/
structure GtS (w : World) (ps : List (Int × Int)) (k : Int) (j : Nat) (o : Value) (wr : World) : Prop where
  row : wr.ownsRow w.heap.size 3 1 o (Ix.vals (ps.take j) k).length ((Ix.vals (ps.take j) k).map (Value.int .i64))
  bel : Below w.heap.size w wr
set_option maxRecDepth 100000 in
set_option maxHeartbeats 4000000 in
theorem rixget_any (v : Value) (ps : List (Int × Int)) (k : Int) (w : World) (h : Pr w v ps) (hl : ps.length ≤ 10000000) :
    Calls Try.prog 28 #[v, .int .i64 k] w fun e w' => ∃ v', e = .returned v' ∧ Ri w' v' (Ix.vals ps k) ∧ Below w.heap.size w w' := by
  have hin := infoI
  obtain ⟨a, c, rfl, hm1, hm2, hc⟩ := h
  unfold maxLen at hm2
  have HC : Hid (ps ≠ [] → ∃ b off, a = some ⟨b, off, none⟩ ∧ ∀ j (h : j < ps.length), w.cell? ⟨b, off + j * 2, none⟩ = some (.int .i64 ps[j].1) ∧ w.cell? ⟨b, off + j * 2 + 1, none⟩ = some (.int .i64 ps[j].2)) := hc
  clear hc
  go_enter Try.func28, Try.ntmps28
  go_wp2_with fail
  go_loopw [5, 6] (fun o i wr => ∃ j : Nat, j ≤ ps.length ∧ i = .int .i64 (j : Int) ∧ GtS w ps k j o wr) (fun _ i _ => ps.length - (intOf i).toNat)
  case atStart => exact ⟨0, Nat.zero_le _, rfl, ⟨World.ownsRow_nil _ _ _ _, Below.refl _ _⟩⟩
  case round =>
    obtain ⟨j, hj, rfl, hg⟩ := hrel
    have HG : Hid (GtS w ps k j u5 wr) := hg
    clear hg
    by_cases hlt : j < ps.length
    · obtain ⟨b, off, rfl, hcell⟩ := HC.out (List.ne_nil_of_length_pos (by omega))
      have q1 := (HG.out.bel.cell (p := ⟨b, off + j * 2, none⟩) (World.block_lt_of_cell? _ _ (hcell j hlt).1)).trans (hcell j hlt).1
      have q2 := (HG.out.bel.cell (p := ⟨b, off + j * 2 + 1, none⟩) (World.block_lt_of_cell? _ _ (hcell j hlt).2)).trans (hcell j hlt).2
      have HV := Ix.vals_take ps k j hlt
      clear hcell
      by_cases he : ps[j].1 = k
      · rw [if_pos he] at HV
        have HV9 : Hid (Ix.vals (ps.take (j + 1)) k = Ix.vals (ps.take j) k ++ [ps[j].2]) := HV
        rw [he] at q1
        generalize ps[j].2 = z at *
        have HL : Hid ((Ix.vals (ps.take j) k).length ≤ 100000000) := by
          have := Ix.vals_len (ps.take j) k
          rw [List.length_take] at this
          show _ ≤ _
          omega
        have HR : Hid (∀ W, W = wr.alloc (.cells #[.int .i64 z] 3) → W.ownsRow w.heap.size 3 1 u5 (Ix.vals (ps.take j) k).length ((Ix.vals (ps.take j) k).map (Value.int .i64)) ∧ W.cell? ⟨wr.heap.size, 0, none⟩ = some (.int .i64 z) ∧ w.heap.size ≤ W.heap.size ∧ Below w.heap.size w W) := fun W e => by
          subst e
          exact ⟨HG.out.row.alloc _, (lb_new wr [.int .i64 z] 3).cell 0 _ rfl, Nat.le_trans HG.out.bel.size (up0 _ _).size, up HG.out.bel _⟩
        clear HV he
        go_wp2_with (at_builtin; refine wpList_appI _ rfl (.tmp 20) (.tmp 26) 35 rfl w.heap.size hin Try.underlying35 u5 (Ix.vals (ps.take j) k) rfl (HR.out _ rfl).1 wr.heap.size 1 z rfl (HR.out _ rfl).2.1 HL.out (HR.out _ rfl).2.2.1 ?_)
        intro v3 w3 hr3 hg3
        have H3 : Hid (GtS w ps k (j + 1) v3 w3) := by
          refine ⟨by rw [HV9.out, List.length_append, List.map_append]; exact hr3, (HR.out _ rfl).2.2.2.grown hg3 (HR.out _ rfl).2.2.1 fun q e => (World.ownsRow.lt HG.out.row q e).1⟩
        clear hr3 hg3 HR
        go_wp2_with fail
        go_roundw
        case rel => exact ⟨j + 1, by omega, by go_num, H3.out⟩
        case measure => simp [intOf]; omega
      · rw [if_neg he, List.append_nil] at HV
        have H3 : Hid (GtS w ps k (j + 1) u5 wr) := by
          refine ⟨?_, HG.out.bel⟩
          rw [HV]
          exact HG.out.row
        have hd : (ps[j].1 == k) = false := by simpa using he
        generalize ps[j].1 = x at *
        clear HV he q2
        go_wp2_with fail
        go_roundw
        case rel => exact ⟨j + 1, by omega, by go_num, H3.out⟩
        case measure => simp [intOf]; omega
    · have H3 : Hid (Ri wr u5 (Ix.vals ps k)) := by
        have h9 := Ri.of HG.out.row
        rw [List.take_of_length_le (by omega)] at h9
        exact h9
      go_wp2_with fail
      go_ret
      exact ⟨_, rfl, H3.out, HG.out.bel⟩
end Go.Proofs.Ytceokpklcfmadaa

/-
  annalsref5: Sorted, All of a list that is sorted.
-/
namespace Go.Proofs.Ytceokpklcfmadaa
open Go Go.RowKit Go.ChangeShapes
open Wb

def enP (p : Int × Int) : List Value := [.int .i64 p.1, .int .i64 p.2]
theorem flat_len (ps : List (Int × Int)) : (ps.flatMap enP).length = ps.length * 2 := by
  induction ps with
  | nil => rfl
  | cons p r ih =>
    rw [List.flatMap_cons, List.length_append, ih]
    simp [enP]
    omega
theorem flat_at : ∀ (ps : List (Int × Int)) (j : Nat) (h : j < ps.length), (ps.flatMap enP)[j * 2]? = some (.int .i64 ps[j].1) ∧ (ps.flatMap enP)[j * 2 + 1]? = some (.int .i64 ps[j].2)
  | p :: r, 0, _ => by simp [enP]
  | p :: r, j + 1, h => by
    have ih := flat_at r j (by simpa using h)
    rw [List.flatMap_cons]
    have e1 : (j + 1) * 2 = j * 2 + 2 := by omega
    have e2 : (enP p).length = 2 := rfl
    rw [e1, List.getElem?_append_right (by rw [e2]; omega), List.getElem?_append_right (by rw [e2]; omega), e2]
    have e3 : j * 2 + 2 - 2 = j * 2 := by omega
    have e4 : j * 2 + 2 + 1 - 2 = j * 2 + 1 := by omega
    rw [e3, e4]
    simpa using ih
theorem Pr.of {w : World} {base : Nat} {e : TypeId} {v : Value} {ps : List (Int × Int)} (h : w.ownsRow base e 2 v ps.length (ps.flatMap enP)) : Pr w v ps := by
  rcases h.2 with ⟨rfl, h0⟩ | ⟨g, cap, cur, rfl, -, hh, h1, h2, h3, h4⟩
  · obtain rfl := List.length_eq_zero_iff.1 h0
    exact ⟨none, 0, rfl, by simp, by simp [maxLen], fun e => absurd rfl e⟩
  · refine ⟨some ⟨g, 0, none⟩, cap, rfl, h1, h2, fun _ => ⟨g, 0, rfl, fun j hj => ?_⟩⟩
    have h5 := flat_at ps j hj
    rw [← h4, List.getElem?_take_of_lt (by omega), List.getElem?_take_of_lt (by omega)] at h5
    rw [Nat.zero_add]
    unfold World.cell?
    simp [hh]
    simpa using h5
theorem set_same {w : World} {g o : Nat} {v : Value} (h : w.cell? ⟨g, o, none⟩ = some v) : w.setCell ⟨g, o, none⟩ v = w := by
  unfold World.cell? at h
  unfold World.setCell
  have e : (w.heap.modify g fun
      | .cells c elem frozen => .cells (if (none : Option Nat).isSome then c else c.setIfInBounds o v) elem frozen
      | o => o) = w.heap := by
    apply Array.ext_getElem?
    intro i
    rw [Array.getElem?_modify]
    split
    · rename_i hi
      subst hi
      cases hg : w.heap[g]? with
      | none => rfl
      | some ob =>
        rw [hg] at h
        cases ob with
        | cells c t fr =>
          simp at h ⊢
          apply Array.ext_getElem?
          intro j
          rw [Array.getElem?_setIfInBounds]
          split
          · rename_i hj
            subst hj
            split
            · exact h.symm
            · rename_i hlt
              rw [Array.getElem?_eq_none (by omega)] at h
              cases h
          · rfl
        | _ => rfl
    · rfl
  exact congrArg (fun x => { w with heap := x }) e
theorem infoP : (Try.prog.info? 54).map (fun i => (i.zero, i.size, i.bytes)) = some (some (.agg #[.int .i64 0, .int .i64 0]), 2, 16) := by kernel_rfl
/-- append of one pair -/
theorem wpList_appP {P : Program} (w : World) {ops : Array Oper} {rest : List Oper} {o : Oper} {a : Act} {Q : Exit → Act → World → Prop} (hgd : o.guard = none) (s x : Operand) (t : TypeId)
    (ho : o.op = .call { callee := .builtin .append, args := #[s, x], argTypes := #[t, t] })
    (B : Nat) (hinfo : (P.info? 54).map (fun i => (i.zero, i.size, i.bytes)) = some (some (.agg #[.int .i64 0, .int .i64 0]), 2, 16)) (ht : P.underlying t = some (.slice 54))
    (v : Value) (ps : List (Int × Int)) (hv : a.eval s = v) (h : w.ownsRow B 54 2 v ps.length (ps.flatMap enP)) (g c : Nat) (p : Int × Int) (hx : a.eval x = .slice (some ⟨g, 0, none⟩) 1 c)
    (hc : w.rangeAt g 0 (enP p)) (hmax : ps.length ≤ 100000000) (hB : B ≤ w.heap.size)
    (hK : ∀ v' w', w'.ownsRow B 54 2 v' (ps ++ [p]).length ((ps ++ [p]).flatMap enP) → w.grownBy w' v.ownBlock → wpList P ops Q rest (a.put o.dst v') w') : wpList P ops Q (o :: rest) a w := by
  obtain ⟨i0, hi, hq⟩ := Option.map_eq_some_iff.1 hinfo
  simp only [Prod.mk.injEq] at hq
  obtain ⟨v', w', hrun, h2, h3, _⟩ := run_append_own (P := P) w B t o.type 54 i0 _ 2 16 ht hi hq.1 hq.2.1 hq.2.2 rfl (by decide) v ps.length _ h ⟨g, 0, none⟩ 1 c (enP p) rfl (fun j u hj => by
    have := hc j u hj
    rw [Addr.add_lit]
    exact this) (fun u hu => by simp [enP] at hu; rcases hu with rfl | rfl <;> rfl) (by unfold maxLen; omega) (by omega) hB
  refine wpList_plain hgd fun _ hK' => ?_
  unfold Oper.wp
  simp [execOp, ho, resolve, invoke, builtin, hv, hx, hrun, Result.andThen]
  refine hK' _ _ (hK v' w' ?_ h3)
  rw [List.length_append, List.flatMap_append]
  simpa using h2
end Go.Proofs.Ytceokpklcfmadaa
