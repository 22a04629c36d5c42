import Derived.Test.YtceokpklcfmadaaQID
/-
  Package index, pure: pairs put in order, one by one.
-/
namespace Go.Proofs.Ytceokpklcfmadaa
open Go Go.RowKit Go.ChangeShapes

namespace Ix
/-- a pair goes behind the last that is not above it -/
def insP (p : Int × Int) (S : List (Int × Int)) : List (Int × Int) := S.filter (fun q => decide (q.1 ≤ p.1)) ++ p :: S.filter (fun q => decide (p.1 < q.1))
theorem filter_keep (S : List (Int × Int)) (f : Int × Int → Bool) (h : ∀ q ∈ S, f q = true) : S.filter f = S := List.filter_eq_self.2 h
theorem filter_drop (S : List (Int × Int)) (f : Int × Int → Bool) (h : ∀ q ∈ S, f q = false) : S.filter f = [] := List.filter_eq_nil_iff.2 fun q hq => by rw [h q hq]; simp
theorem insP_cut (p : Int × Int) (A B : List (Int × Int)) (h1 : ∀ q ∈ A, q.1 ≤ p.1) (h2 : ∀ q ∈ B, p.1 < q.1) : insP p (A ++ B) = A ++ p :: B := by
  unfold insP
  rw [List.filter_append, List.filter_append, filter_keep A _ fun q hq => by simpa using h1 q hq, filter_drop B _ fun q hq => by have := h2 q hq; simp; omega, filter_drop A _ fun q hq => by have := h1 q hq; simp; omega, filter_keep B _ fun q hq => by simpa using h2 q hq]
  simp
theorem insP_low (p : Int × Int) (A S : List (Int × Int)) (h1 : ∀ q ∈ A, q.1 ≤ p.1) : insP p (A ++ S) = A ++ insP p S := by
  unfold insP
  rw [List.filter_append, List.filter_append, filter_keep A _ fun q hq => by simpa using h1 q hq, filter_drop A _ fun q hq => by have := h1 q hq; simp; omega]
  simp
theorem insP_len (p : Int × Int) : ∀ (S : List (Int × Int)), (insP p S).length = S.length + 1
  | [] => by simp [insP]
  | q :: r => by
    have ih := insP_len p r
    unfold insP at ih ⊢
    rw [List.filter_cons, List.filter_cons]
    by_cases h : q.1 ≤ p.1
    · rw [if_pos (by simpa using h), if_neg (by simp; omega)]
      simp at ih ⊢
      omega
    · rw [if_neg (by simpa using h), if_pos (by simp; omega)]
      simp at ih ⊢
      omega
theorem prs_add : ∀ (kvs : Gm) (k v : Int), rising kvs → prs (add kvs k v) = insP (k, v) (prs kvs)
  | [], _, _, _ => rfl
  | (k', l) :: r, k, v, h => by
    have h0 := h
    unfold rising at h
    rw [List.pairwise_cons] at h
    have hr : ∀ q ∈ prs r, k' < q.1 := fun q hq => by
      obtain ⟨p, hp, e⟩ := prs_mem hq
      rw [e]
      exact h.1 p hp
    have hl : ∀ q ∈ (l.map fun x => (k', x)), q.1 = k' := fun q hq => by
      obtain ⟨x, -, rfl⟩ := List.mem_map.1 hq
      rfl
    rw [add]
    by_cases h1 : k < k'
    · rw [if_pos h1]
      have e := insP_cut (k, v) [] (prs ((k', l) :: r)) (fun q hq => by cases hq) fun q hq => by
        rw [prs_cons] at hq
        rcases List.mem_append.1 hq with hq | hq
        · rw [hl q hq]
          exact h1
        · have := hr q hq
          show k < q.1
          omega
      rw [List.nil_append] at e
      rw [e]
      rfl
    · rw [if_neg h1]
      by_cases h2 : k' = k
      · subst h2
        rw [if_pos rfl, prs_cons, prs_cons, insP_cut (k', v) (l.map fun x => (k', x)) (prs r) (fun q hq => by rw [hl q hq]; exact Int.le_refl _) hr, List.map_append]
        simp
      · rw [if_neg h2, prs_cons, prs_cons, prs_add r k v h.2, insP_low (k, v) (l.map fun x => (k', x)) (prs r) fun q hq => by rw [hl q hq]; show k' ≤ k; omega]
theorem within_cons (p : Int × List Int) (r : Gm) (lo hi : Int) : within (p :: r) lo hi = if lo ≤ p.1 ∧ p.1 ≤ hi then p :: within r lo hi else within r lo hi := by
  unfold within
  rw [List.filter_cons]
  by_cases h : lo ≤ p.1 ∧ p.1 ≤ hi
  · rw [if_pos (by simpa using h), if_pos h]
  · rw [if_neg (by simpa using h), if_neg h]
theorem within_mem' {kvs : Gm} {lo hi : Int} {p : Int × List Int} (h : p ∈ within kvs lo hi) : p ∈ kvs := by
  unfold within at h
  exact (List.mem_filter.1 h).1
/-- a key below all others -/
theorem add_first : ∀ (kvs : Gm) (k v : Int), (∀ p ∈ kvs, k < p.1) → add kvs k v = (k, [v]) :: kvs
  | [], _, _, _ => rfl
  | (k', l) :: r, k, v, h => by
    have h1 : k < k' := h _ List.mem_cons_self
    rw [add, if_pos h1]
theorem within_add : ∀ (kvs : Gm) (k v lo hi : Int), rising kvs → within (add kvs k v) lo hi = if lo ≤ k ∧ k ≤ hi then add (within kvs lo hi) k v else within kvs lo hi
  | [], k, v, lo, hi, _ => by
    rw [add, within_cons]
    rfl
  | (k', l) :: r, k, v, lo, hi, h => by
    unfold rising at h
    rw [List.pairwise_cons] at h
    have ih := within_add r k v lo hi h.2
    rw [add]
    by_cases h1 : k < k'
    · rw [if_pos h1, within_cons]
      by_cases hk : lo ≤ k ∧ k ≤ hi
      · rw [if_pos hk, if_pos hk, add_first]
        intro p hp
        rcases List.mem_cons.1 (within_mem' hp) with rfl | hp
        · exact h1
        · have := h.1 p hp
          show k < p.1
          simp only at this
          omega
      · rw [if_neg hk, if_neg hk]
    · rw [if_neg h1]
      by_cases h2 : k' = k
      · subst h2
        rw [if_pos rfl, within_cons, within_cons]
        by_cases hk : lo ≤ k' ∧ k' ≤ hi
        · rw [if_pos hk, if_pos hk, if_pos hk, add, if_neg h1, if_pos rfl]
        · rw [if_neg hk, if_neg hk, if_neg hk]
      · rw [if_neg h2, within_cons, within_cons, ih]
        by_cases hk : lo ≤ k ∧ k ≤ hi
        · rw [if_pos hk, if_pos hk]
          by_cases hk' : lo ≤ k' ∧ k' ≤ hi
          · rw [if_pos hk', if_pos hk', add, if_neg h1, if_neg h2]
          · rw [if_neg hk', if_neg hk']
        · rw [if_neg hk, if_neg hk]
/-- what Sorted makes of a list -/
def srt (ps : List (Int × Int)) (lo hi : Int) : List (Int × Int) := prs (within (gml ps) lo hi)
theorem srt_take (ps : List (Int × Int)) (lo hi : Int) (j : Nat) (hj : j < ps.length) : srt (ps.take (j + 1)) lo hi = if lo ≤ ps[j].1 ∧ ps[j].1 ≤ hi then insP ps[j] (srt (ps.take j) lo hi) else srt (ps.take j) lo hi := by
  unfold srt
  have hr := (gml_fine (ps.take j)).ris
  rw [gml_take ps j hj, within_add _ _ _ _ _ hr]
  split
  · rw [prs_add _ _ _ (within_rising hr lo hi)]
  · rfl
theorem srt_sorted (ps : List (Int × Int)) (lo hi : Int) : (srt ps lo hi).Pairwise (fun p q => p.1 ≤ q.1) := prs_sorted _ (within_rising (gml_fine ps).ris lo hi)
theorem srt_len (ps : List (Int × Int)) (lo hi : Int) : (srt ps lo hi).length ≤ ps.length := by
  have h := within_total (gml ps) lo hi
  rw [(gml_fine ps).tot] at h
  unfold srt
  rw [prs_len]
  exact h
/-- where a pair comes to lie -/
theorem ins_at (S : List (Int × Int)) (p : Int × Int) (k : Nat) (hs : S.Pairwise (fun p q => p.1 ≤ q.1)) (hk : k ≤ S.length) (h1 : k = 0 ∨ ∃ h : k - 1 < S.length, S[k - 1].1 ≤ p.1) (h2 : ∀ q ∈ S.drop k, p.1 < q.1) : insP p S = S.take k ++ p :: S.drop k := by
  have e := insP_cut p (S.take k) (S.drop k) (fun q hq => ?_) h2
  · rw [List.take_append_drop] at e
    exact e
  · obtain ⟨j, hj, rfl⟩ := List.getElem_of_mem hq
    rw [List.length_take] at hj
    rw [List.getElem_take]
    rcases h1 with h1 | ⟨h3, h1⟩
    · omega
    · by_cases hjk : j = k - 1
      · subst hjk
        exact h1
      · exact Int.le_trans (List.pairwise_iff_getElem.1 hs j (k - 1) (by omega) h3 (by omega)) h1
theorem all_gml (ps : List (Int × Int)) (hb : ∀ p ∈ ps, -9223372036854775808 ≤ p.1 ∧ p.1 ≤ 9223372036854775807) : srt ps (-9223372036854775808) 9223372036854775807 = prs (gml ps) := by
  unfold srt
  rw [within_all _ _ _ fun p hp => by
    obtain ⟨q, hq, e⟩ := (gml_fine ps).key p hp
    rw [← e]
    exact hb q hq]
theorem get_add : ∀ (kvs : Gm) (k v x : Int), rising kvs → get (add kvs k v) x = get kvs x ++ (if k = x then [v] else [])
  | [], k, v, x, _ => by
    rw [add, get_cons]
    by_cases h : k = x
    · rw [if_pos h, if_pos h, get_nil [] x fun p hp => by cases hp]
      rfl
    · rw [if_neg h, if_neg h]
      simp
  | (k', l) :: r, k, v, x, h => by
    have h0 := h
    unfold rising at h
    rw [List.pairwise_cons] at h
    rw [add]
    by_cases h1 : k < k'
    · rw [if_pos h1, get_cons]
      by_cases hx : k = x
      · subst hx
        rw [if_pos rfl, if_pos rfl, get_nil ((k', l) :: r) k fun p hp => by
          rcases List.mem_cons.1 hp with rfl | hp
          · show k' ≠ k
            omega
          · have : k' < p.1 := h.1 p hp
            omega]
        rfl
      · rw [if_neg hx, if_neg hx, List.append_nil]
    · rw [if_neg h1]
      by_cases h2 : k' = k
      · subst h2
        rw [if_pos rfl, get_cons, get_cons]
        by_cases hx : k' = x
        · rw [if_pos hx, if_pos hx, if_pos hx]
        · rw [if_neg hx, if_neg hx, if_neg hx, List.append_nil]
      · rw [if_neg h2, get_cons, get_cons]
        by_cases hx : k' = x
        · rw [if_pos hx, if_pos hx, if_neg (by omega), List.append_nil]
        · rw [if_neg hx, if_neg hx, get_add r k v x h.2]
/-- the values of a key -/
theorem vals_gml (ps : List (Int × Int)) (x : Int) : vals ps x = get (gml ps) x := by
  have key : ∀ j, j ≤ ps.length → vals (ps.take j) x = get (gml (ps.take j)) x := fun j => by
    induction j with
    | zero => intro _; rfl
    | succ j ih =>
      intro hj
      rw [vals_take ps x j (by omega), gml_take ps j (by omega), get_add _ _ _ _ (gml_fine _).ris, ih (by omega)]
  have := key ps.length (Nat.le_refl _)
  rwa [List.take_length] at this
end Ix
end Go.Proofs.Ytceokpklcfmadaa

/-
  annalsref5: Sorted of any list.
-/
namespace Go.Proofs.Ytceokpklcfmadaa
open Go Go.RowKit Go.ChangeShapes
open Wb

theorem flat_set (A B : List (Int × Int)) (y z : Int × Int) : (((A ++ y :: B).flatMap enP).set (A.length * 2) (.int .i64 z.1)).set (A.length * 2 + 1) (.int .i64 z.2) = (A ++ z :: B).flatMap enP := by
  have hl := flat_len A
  rw [List.flatMap_append, List.flatMap_append, List.flatMap_cons, List.flatMap_cons]
  rw [List.set_append_right _ _ (by omega), List.set_append_right _ _ (by omega), hl]
  simp [enP]
/-- while a pair is put into its place k: the row holds S with a hole at k -/
structure SiS (w : World) (S : List (Int × Int)) (p : Int × Int) (q P9 c k : Nat) (W : World) : Prop where
  row : ∃ y, W.ownsRow w.heap.size 54 2 (.slice (some ⟨q, 0, none⟩) (S.length + 1) c) (S.length + 1) ((S.take k ++ y :: S.drop k).flatMap enP)
  box : LB W P9 54 (enP p)
  bel : Below w.heap.size w W
  ne : q ≠ P9
section
variable {w : World} {S : List (Int × Int)} {p : Int × Int} {q P9 c k : Nat} {W : World}
theorem SiS.drewN (h : SiS w S p q P9 c k W) (t : Nat) : SiS w S p q P9 c k (W.drewN t) := ⟨h.row, h.box, bel_drewI h.bel t, h.ne⟩
theorem SiS.len (hk : k ≤ S.length) (y : Int × Int) : (S.take k ++ y :: S.drop k).length = S.length + 1 := by
  rw [List.length_append, List.length_cons, List.length_take, List.length_drop]
  omega
/-- what lies ahead of the hole -/
theorem SiS.ahead (h : SiS w S p q P9 c k W) (hk : k ≤ S.length) (j : Nat) (hj : j < k) : W.cell? ⟨q, j * 2, none⟩ = some (.int .i64 (S[j]'(by omega)).1) ∧ W.cell? ⟨q, j * 2 + 1, none⟩ = some (.int .i64 (S[j]'(by omega)).2) := by
  obtain ⟨y, hr⟩ := h.row
  have hl := SiS.len hk y
  have hr2 := hr
  rw [← hl] at hr2
  obtain ⟨a, c', e, -, -, hc⟩ := Pr.of hr2
  obtain ⟨b, off, e2, hcell⟩ := hc (fun e => by rw [e] at hl; simp at hl)
  simp only [Value.slice.injEq] at e
  obtain ⟨rfl, -, -⟩ := e
  simp only [Option.some.injEq, Addr.mk.injEq, and_true] at e2
  obtain ⟨rfl, rfl⟩ := e2
  have h3 := hcell j (by omega)
  have e4 : (S.take k ++ y :: S.drop k)[j]'(by omega) = S[j]'(by omega) := by
    rw [List.getElem_append_left (by rw [List.length_take]; omega), List.getElem_take]
  rw [e4, Nat.zero_add] at h3
  exact h3
/-- the hole is filled -/
theorem SiS.put (h : SiS w S p q P9 c k W) (hk : k ≤ S.length) (z : Int × Int) :
    (∃ u1 u2, W.cell? ⟨q, k * 2, none⟩ = some u1 ∧ W.cell? ⟨q, k * 2 + 1, none⟩ = some u2) ∧ (∀ j, W.frozen? ⟨q, j, none⟩ = false) ∧
    ((W.setCell ⟨q, k * 2, none⟩ (.int .i64 z.1)).setCell ⟨q, k * 2 + 1, none⟩ (.int .i64 z.2)).ownsRow w.heap.size 54 2 (.slice (some ⟨q, 0, none⟩) (S.length + 1) c) (S.length + 1) ((S.take k ++ z :: S.drop k).flatMap enP) ∧ LB ((W.setCell ⟨q, k * 2, none⟩ (.int .i64 z.1)).setCell ⟨q, k * 2 + 1, none⟩ (.int .i64 z.2)) P9 54 (enP p) ∧ Below w.heap.size w ((W.setCell ⟨q, k * 2, none⟩ (.int .i64 z.1)).setCell ⟨q, k * 2 + 1, none⟩ (.int .i64 z.2)) := by
  obtain ⟨y, hr⟩ := h.row
  have hl := SiS.len hk y
  have hk2 : (S.take k).length = k := by rw [List.length_take]; omega
  have h1 := (World.ownsRow.stored hr (k * 2) (.int .i64 z.1)).1
  have h2 := (World.ownsRow.stored h1 (k * 2 + 1) (.int .i64 z.2)).1
  have hq := (World.ownsRow.lt hr q rfl).1
  have e := flat_set (S.take k) (S.drop k) y z
  rw [hk2] at e
  rw [e] at h2
  have hc := World.ownsRow.cellAt hr (k * 2) (by omega)
  have hc2 := World.ownsRow.cellAt hr (k * 2 + 1) (by omega)
  have hf := flat_at (S.take k ++ y :: S.drop k) k (by omega)
  rw [hf.1] at hc
  rw [hf.2] at hc2
  exact ⟨⟨_, _, hc, hc2⟩, fun j => World.ownsRow.frozenAt hr j, h2, (h.box.other _ _ (fun e => h.ne e.symm)).other _ _ (fun e => h.ne e.symm), (h.bel.setCell (p := ⟨q, k * 2, none⟩) hq _).setCell (p := ⟨q, k * 2 + 1, none⟩) hq _⟩
theorem hole_back (S : List (Int × Int)) (k : Nat) (hk : k < S.length) : S.take (k + 1) ++ S[k] :: S.drop (k + 1) = S.take k ++ S[k] :: S.drop k := by
  rw [List.take_succ_eq_append_getElem hk, List.append_assoc]
  congr 1
  rw [List.drop_eq_getElem_cons hk]
  rfl
end
/-- append of one pair, and where it lies -/
theorem wpList_appPA (w : World) {ops : Array Oper} {rest : List Oper} {o : Oper} {a : Act} {Q : Exit → Act → World → Prop} (hgd : o.guard = none) (s x : Operand)
    (ho : o.op = .call { callee := .builtin .append, args := #[s, x], argTypes := #[55, 55] })
    (B : Nat) (v : Value) (ps : List (Int × Int)) (hv : a.eval s = v) (h : w.ownsRow B 54 2 v ps.length (ps.flatMap enP)) (g c : Nat) (p : Int × Int) (hx : a.eval x = .slice (some ⟨g, 0, none⟩) 1 c)
    (hc : w.rangeAt g 0 (enP p)) (hmax : ps.length ≤ 100000000) (hB : B ≤ w.heap.size)
    (hK : ∀ v' w', w'.ownsRow B 54 2 v' (ps.length + 1) ((ps ++ [p]).flatMap enP) → w.grownBy w' v.ownBlock → (v'.ownBlock = v.ownBlock ∨ v'.ownBlock = some w.heap.size) → wpList Try.prog ops Q rest (a.put o.dst v') w') : wpList Try.prog ops Q (o :: rest) a w := by
  obtain ⟨i0, hi, hq⟩ := Option.map_eq_some_iff.1 infoP
  simp only [Prod.mk.injEq] at hq
  obtain ⟨v', w', hrun, h2, h3, -, h5⟩ := run_append_own_at (P := Try.prog) w B 55 o.type 54 i0 _ 2 16 Try.underlying55 hi hq.1 hq.2.1 hq.2.2 rfl (by decide) v ps.length _ h ⟨g, 0, none⟩ 1 c (enP p) rfl (fun j u hj => by
    have := hc j u hj
    rw [Addr.add_lit]
    exact this) (fun u hu => by simp [enP] at hu; rcases hu with rfl | rfl <;> rfl) (by unfold maxLen; omega) (by omega) hB
  refine wpList_plain hgd fun _ hK' => ?_
  unfold Oper.wp
  simp [execOp, ho, resolve, invoke, builtin, hv, hx, hrun, Result.andThen]
  refine hK' _ _ (hK v' w' ?_ h3 h5)
  rw [List.flatMap_append]
  simpa using h2
/-- what Sorted has gathered -/
structure SrA (w : World) (ps : List (Int × Int)) (lo hi : Int) (j : Nat) (o : Value) (wr : World) : Prop where
  row : wr.ownsRow w.heap.size 54 2 o (Ix.srt (ps.take j) lo hi).length ((Ix.srt (ps.take j) lo hi).flatMap enP)
  bel : Below w.heap.size w wr
set_option maxRecDepth 100000 in
set_option maxHeartbeats 4000000 in
theorem rixsorted_any (v : Value) (ps : List (Int × Int)) (lo hi : Int) (w : World) (h : Pr w v ps) (hl : ps.length ≤ 10000000) :
    Calls Try.prog 56 #[v, .int .i64 lo, .int .i64 hi] w fun e w' => ∃ v', e = .returned v' ∧ w'.ownsRow w.heap.size 54 2 v' (Ix.srt ps lo hi).length ((Ix.srt ps lo hi).flatMap enP) ∧ Below w.heap.size w w' := by
  obtain ⟨a, c, rfl, hm1, hm2, hc⟩ := h
  unfold maxLen at hm2
  have HC : Hid (ps ≠ [] → ∃ b off, a = some ⟨b, off, none⟩ ∧ ∀ j (h : j < ps.length), w.cell? ⟨b, off + j * 2, none⟩ = some (.int .i64 ps[j].1) ∧ w.cell? ⟨b, off + j * 2 + 1, none⟩ = some (.int .i64 ps[j].2)) := hc
  clear hc
  go_enter Try.func56, Try.ntmps56
  go_wp2_with fail
  go_loopw [7, 8] (fun o i wr => ∃ j : Nat, j ≤ ps.length ∧ i = .int .i64 (j : Int) ∧ SrA w ps lo hi j o wr) (fun _ i _ => ps.length - (intOf i).toNat)
  case atStart => exact ⟨0, Nat.zero_le _, rfl, ⟨World.ownsRow_nil _ _ _ _, Below.refl _ _⟩⟩
  case round =>
    obtain ⟨j, hj, rfl, hg⟩ := hrel
    have HG : Hid (SrA w ps lo hi j u7 wr) := hg
    clear hg
    by_cases hlt : j < ps.length
    · obtain ⟨b, off, rfl, hcell⟩ := HC.out (List.ne_nil_of_length_pos (by omega))
      have q1 := (HG.out.bel.cell (p := ⟨b, off + j * 2, none⟩) (World.block_lt_of_cell? _ _ (hcell j hlt).1)).trans (hcell j hlt).1
      have q2 := (HG.out.bel.cell (p := ⟨b, off + j * 2 + 1, none⟩) (World.block_lt_of_cell? _ _ (hcell j hlt).2)).trans (hcell j hlt).2
      have HP : Hid (Ix.srt (ps.take (j + 1)) lo hi = if lo ≤ ps[j].1 ∧ ps[j].1 ≤ hi then Ix.insP ps[j] (Ix.srt (ps.take j) lo hi) else Ix.srt (ps.take j) lo hi) := Ix.srt_take ps lo hi j hlt
      clear hcell
      obtain ⟨p, hp⟩ : ∃ p, p = ps[j] := ⟨_, rfl⟩
      rw [← hp] at q1 q2 HP
      clear hp
      obtain ⟨x, y⟩ := p
      simp only at q1 q2 HP
      obtain ⟨S, hS⟩ : ∃ S, S = Ix.srt (ps.take j) lo hi := ⟨_, rfl⟩
      have HSL : Hid (S.length ≤ 10000000 ∧ S.Pairwise (fun p q => p.1 ≤ q.1)) := by
        have h9 := Ix.srt_len (ps.take j) lo hi
        rw [List.length_take] at h9
        rw [hS]
        exact ⟨by omega, Ix.srt_sorted _ _ _⟩
      have HG2 : Hid (wr.ownsRow w.heap.size 54 2 u7 S.length (S.flatMap enP) ∧ Below w.heap.size w wr) := by rw [hS]; exact ⟨HG.out.row, HG.out.bel⟩
      rw [← hS] at HP
      have HW1 : Hid (∀ W, W = (wr.alloc (.cells #[.int .i64 x, .int .i64 y] 54)) → W.ownsRow w.heap.size 54 2 u7 S.length (S.flatMap enP) ∧ Below w.heap.size w W ∧ LB W wr.heap.size 54 (enP (x, y))) := fun W e => by
        subst e
        exact ⟨HG2.out.1.alloc _, up HG2.out.2 _, lb_new wr (enP (x, y)) 54⟩
      by_cases hlo : x < lo
      · have hd1 : (x < lo) = True := by simp; exact hlo
        have HN : Hid (∀ W, W = (wr.alloc (.cells #[.int .i64 x, .int .i64 y] 54)) → SrA w ps lo hi (j + 1) u7 W) := fun W e => by
          have h9 := HW1.out W e
          refine ⟨?_, h9.2.1⟩
          rw [HP.out, if_neg (by omega)]
          exact h9.1
        clear hS HG HC HW1 HP HG2 HSL
        go_wp2_with fail
        go_roundw
        case rel => exact ⟨j + 1, by omega, by go_num, HN.out _ rfl⟩
        case measure => simp [intOf]; omega
      · have hd1 : (x < lo) = False := by simp; omega
        by_cases hhi : hi < x
        · have hd2 : (hi < x) = True := by simp; exact hhi
          have HN : Hid (∀ W, W = (wr.alloc (.cells #[.int .i64 x, .int .i64 y] 54)) → SrA w ps lo hi (j + 1) u7 W) := fun W e => by
            have h9 := HW1.out W e
            refine ⟨?_, h9.2.1⟩
            rw [HP.out, if_neg (by omega)]
            exact h9.1
          clear hS HG HC HW1 HP HG2 HSL
          go_wp2_with fail
          go_roundw
          case rel => exact ⟨j + 1, by omega, by go_num, HN.out _ rfl⟩
          case measure => simp [intOf]; omega
        · have hd2 : (hi < x) = False := by simp; omega
          rw [if_pos (by omega)] at HP
          have HR : Hid (∀ W, W = (wr.alloc (.cells #[.int .i64 x, .int .i64 y] 54)).alloc (.cells #[.int .i64 x, .int .i64 y] 54) → W.ownsRow w.heap.size 54 2 u7 S.length (S.flatMap enP) ∧ W.rangeAt (wr.heap.size + 1) 0 (enP (x, y)) ∧ w.heap.size ≤ W.heap.size ∧ Below w.heap.size w W ∧ LB W wr.heap.size 54 (enP (x, y)) ∧ wr.heap.size < W.heap.size) := fun W e => by
            subst e
            have hL := lb_new (wr.alloc (.cells #[.int .i64 x, .int .i64 y] 54)) (enP (x, y)) 54
            rw [heap_one] at hL
            have h9 := HW1.out _ rfl
            have hB := up h9.2.1 (.cells #[.int .i64 x, .int .i64 y] 54)
            refine ⟨h9.1.alloc _, hL.range, hB.size, hB, h9.2.2.kept (up0 _ _), by rw [heap_one, heap_one]; omega⟩
          clear hS HG HC HW1
          go_upto_region 7 with fail
          go_wp2_with (at_builtin; refine wpList_appPA _ rfl (.tmp 31) (.tmp 33) rfl w.heap.size u7 S rfl (HR.out _ rfl).1 (wr.heap.size + 1) 1 (x, y) rfl (HR.out _ rfl).2.1 (by have := HSL.out.1; omega) (HR.out _ rfl).2.2.1 ?_)
          intro v3 w3 hr3 hg3 hat3
          have hr4 : w3.ownsRow w.heap.size 54 2 v3 (S.length + 1) ((S.take S.length ++ (x, y) :: S.drop S.length).flatMap enP) := by
            rw [List.take_length, List.drop_length, List.flatMap_append]
            simpa using hr3
          have hB3 : Below w.heap.size w w3 := (HR.out _ rfl).2.2.2.1.grown hg3 (HR.out _ rfl).2.2.1 fun q e => (World.ownsRow.lt HG2.out.1 q e).1
          have hP3 : LB w3 wr.heap.size 54 (enP (x, y)) := (hg3.block _ (HR.out _ rfl).2.2.2.2.2 fun e => by
            have := (World.ownsRow.lt HG2.out.1 _ e.symm).2
            omega).trans (HR.out _ rfl).2.2.2.2.1
          obtain ⟨q4, c4, rfl, hq4, hc4a, hc4b⟩ : ∃ q4 c4, v3 = .slice (some ⟨q4, 0, none⟩) (S.length + 1) c4 ∧ q4 ≠ wr.heap.size ∧ S.length + 1 ≤ c4 ∧ c4 ≤ 9223372036854775807 := by
            rcases hr4.2 with ⟨e6, h6⟩ | ⟨g6, cap6, cur6, e6, -, hh6, h61, h62, -⟩
            · omega
            · refine ⟨g6, cap6, e6, fun e7 => ?_, h61, by unfold maxLen at h62; exact h62⟩
              rw [e6] at hat3
              rcases hat3 with e8 | e8
              · have := (World.ownsRow.lt HG2.out.1 g6 e8.symm).2
                omega
              · have e9 := Option.some.inj e8
                simp only [] at e9
                omega
          have HI0 : Hid (SiS w S (x, y) q4 wr.heap.size c4 S.length w3) := ⟨⟨_, hr4⟩, hP3, hB3, hq4⟩
          have HSN : Hid (S.length ≤ 10000000) := HSL.out.1
          have hsl : S.length ≤ 10000000 := HSL.out.1
          clear hr3 hg3 hr4 hB3 hP3 HR HG2 hq4 hat3
          go_wp2_with fail
          obtain ⟨P9, hP9⟩ : ∃ P9, P9 = wr.heap.size := ⟨_, rfl⟩
          rw [← hP9] at HI0 ⊢
          clear hP9
          go_loopw [10] (fun k w4 => ∃ k' : Nat, k' ≤ S.length ∧ k = .int .i64 (k' : Int) ∧ (∀ q ∈ S.drop k', x < q.1) ∧ SiS w S (x, y) q4 P9 c4 k' w4) (fun k _ => (intOf k).toNat)
          case atStart => exact ⟨S.length, Nat.le_refl _, rfl, fun q hq => (by rw [List.drop_length] at hq; cases hq), HI0.out⟩
          case round =>
            clear HI0
            obtain ⟨k, hk, rfl, hab, hsi⟩ := hrel
            by_cases h0 : 0 < k
            · obtain ⟨ca, cb⟩ := hsi.ahead hk (k - 1) (by omega)
              have HDR : Hid (S.drop (k - 1) = S[k - 1]'(by omega) :: S.drop k) := by
                have h9 := List.drop_eq_getElem_cons (l := S) (i := k - 1) (by omega)
                have e9 : k - 1 + 1 = k := by omega
                rw [e9] at h9
                exact h9
              have HBK : Hid (S.take k ++ (S[k - 1]'(by omega)) :: S.drop k = S.take (k - 1) ++ (S[k - 1]'(by omega)) :: S.drop (k - 1)) := by
                have h9 := hole_back S (k - 1) (by omega)
                have e9 : k - 1 + 1 = k := by omega
                simp only [e9] at h9
                exact h9
              have HLE : Hid (∀ z : Int × Int, z = S[k - 1]'(by omega) → z.1 ≤ x → k = 0 ∨ ∃ h : k - 1 < S.length, S[k - 1].1 ≤ x) := fun z e h => .inr ⟨by omega, by rw [← e]; exact h⟩
              obtain ⟨z, hz⟩ : ∃ z, z = S[k - 1]'(by omega) := ⟨_, rfl⟩
              rw [← hz] at ca cb HDR HBK
              have HLE2 : Hid (z.1 ≤ x → k = 0 ∨ ∃ h : k - 1 < S.length, S[k - 1].1 ≤ x) := HLE.out z hz
              clear hz HLE
              obtain ⟨z1, z2⟩ := z
              simp only at ca cb HLE2
              have hdk : ((0 : Int) < (k : Int)) = True := by simp; exact h0
              have hwk : IntKind.i64.wrap ((k : Int) - 1) = ((k - 1 : Nat) : Int) := by
                rw [IntWalk.i64_in _ (by omega)]
                omega
              have hk9 : k - 1 < S.length + 1 := by omega
              have hk8 : k < S.length + 1 := by omega
              by_cases hzx : x < z1
              · have hdz : (x < z1) = True := by simp; exact hzx
                have HNX : Hid (∀ t, SiS w S (x, y) q4 P9 c4 (k - 1) (((wr.drewN t).setCell ⟨q4, k * 2, none⟩ (.int .i64 z1)).setCell ⟨q4, k * 2 + 1, none⟩ (.int .i64 z2))) := fun t => by
                  have h9 := (hsi.drewN t).put hk (z1, z2)
                  exact ⟨⟨(z1, z2), by have h8 := h9.2.2.1; rw [HBK.out] at h8; exact h8⟩, h9.2.2.2.1, h9.2.2.2.2, hsi.ne⟩
                have HDD : Hid (∀ q ∈ S.drop (k - 1), x < q.1) := fun q hq => by
                  rw [HDR.out] at hq
                  rcases List.mem_cons.1 hq with rfl | hq
                  · exact hzx
                  · exact hab q hq
                obtain ⟨⟨w1, w2, cw1, cw2⟩, fz, -⟩ := hsi.put hk (x, y)
                have fz1 := fz (k * 2)
                have fz2 := fz (k * 2 + 1)
                have p0 := hsi.box.cell 0 _ rfl
                clear hsi hab fz HBK HDR HLE2
                go_wp2_with fail
                go_quiet (fail)
                go_wp2_with fail
                go_roundw
                case rel => exact ⟨k - 1, by omega, by go_num, HDD.out, HNX.out _⟩
                case measure => simp [intOf]; omega
              · have hdz : (x < z1) = False := by simp; omega
                have HFI : k = 0 ∨ ∃ h : k - 1 < S.length, S[k - 1].1 ≤ x := HLE2.out (by omega)
                have HFX : Hid (∀ t, SrA w ps lo hi (j + 1) (.slice (some ⟨q4, 0, none⟩) (S.length + 1) c4) (((wr.drewN t).setCell ⟨q4, k * 2, none⟩ (.int .i64 x)).setCell ⟨q4, k * 2 + 1, none⟩ (.int .i64 y))) := fun t => by
                  have h9 := (hsi.drewN t).put hk (x, y)
                  refine ⟨?_, h9.2.2.2.2⟩
                  rw [HP.out, Ix.insP_len, Ix.ins_at S (x, y) k HSL.out.2 hk HFI hab]
                  exact h9.2.2.1
                obtain ⟨⟨w1, w2, cw1, cw2⟩, fz, -⟩ := hsi.put hk (x, y)
                have fz1 := fz (k * 2)
                have fz2 := fz (k * 2 + 1)
                have p0 := hsi.box.cell 0 _ rfl
                have p1 := hsi.box.cell 1 _ rfl
                clear hsi hab fz HBK HDR HLE2 HFI
                go_wp2_with fail
                go_quiet (fail)
                go_wp2_with fail
                go_roundw
                case rel => exact ⟨j + 1, by omega, by go_num, HFX.out _⟩
                case measure => simp [intOf]; omega
            · obtain rfl : k = 0 := by omega
              have HFI : 0 = 0 ∨ ∃ h : 0 - 1 < S.length, S[0 - 1].1 ≤ x := .inl rfl
              have hk8 : 0 < S.length + 1 := by omega
              have HFX : Hid (∀ t, SrA w ps lo hi (j + 1) (.slice (some ⟨q4, 0, none⟩) (S.length + 1) c4) (((wr.drewN t).setCell ⟨q4, 0 * 2, none⟩ (.int .i64 x)).setCell ⟨q4, 0 * 2 + 1, none⟩ (.int .i64 y))) := fun t => by
                have h9 := (hsi.drewN t).put hk (x, y)
                refine ⟨?_, h9.2.2.2.2⟩
                rw [HP.out, Ix.insP_len, Ix.ins_at S (x, y) 0 HSL.out.2 hk HFI hab]
                exact h9.2.2.1
              obtain ⟨⟨w1, w2, cw1, cw2⟩, fz, -⟩ := hsi.put hk (x, y)
              have fz1 := fz (0 * 2)
              have fz2 := fz (0 * 2 + 1)
              have p0 := hsi.box.cell 0 _ rfl
              have p1 := hsi.box.cell 1 _ rfl
              clear hsi hab fz HFI h0
              go_wp2_with fail
              go_quiet (fail)
              go_wp2_with fail
              go_roundw
              case rel => exact ⟨j + 1, by omega, by go_num, HFX.out _⟩
              case measure => simp [intOf]; omega
    · have H3 : Hid (wr.ownsRow w.heap.size 54 2 u7 (Ix.srt ps lo hi).length ((Ix.srt ps lo hi).flatMap enP)) := by
        have h9 := HG.out.row
        rw [List.take_of_length_le (by omega)] at h9
        exact h9
      go_wp2_with fail
      go_ret
      exact ⟨_, rfl, H3.out, HG.out.bel⟩
end Go.Proofs.Ytceokpklcfmadaa
