import Derived.Deep.RegionHeldLaw
import Derived.Test.YtceokpklcfmadaaQS1
import Derived.Test.YtceokpklcfmadaaQI4
/-
  A region that draws: a load may be taken first where its cell is written by one operation alone, which waits for it.
-/
namespace Go.Proofs.Ytceokpklcfmadaa
open Go Go.RowKit

section
variable {P : Program} {md : Region.Mode} {ops : Array Oper} {Q : Exit → Act → World → Prop} {S : World → Prop}
/-- whatever order is picked: S holds behind every operation ahead of number c; from c on nothing is asked -/
def wpAnyL (P : Program) (md : Region.Mode) (ops : Array Oper) (Q : Exit → Act → World → Prop) (S : World → Prop) (c : Nat) : Nat → Array Bool → Act → World → Prop
  | 0, listed, a, w => Region.ready md ops listed = [] ∧ Q .normal a w
  | fuel + 1, listed, a, w =>
    (Region.ready md ops listed = [] → Q .normal a w) ∧
    ∀ i ∈ Region.ready md ops listed, wpOp P ops Q i (fun a' w' => (i ≠ c → S w' ∧ wpAnyL P md ops Q S c fuel (listed.setIfInBounds i true) a' w') ∧ (i = c → wpAnyH P md ops Q (fun _ => True) fuel (listed.setIfInBounds i true) a' w')) a w
theorem held_of_L {c : Nat} : ∀ (fuel : Nat) (listed : Array Bool) (a : Act) (w : World), wpAnyL P md ops Q S c fuel listed a w → wpAnyH P md ops Q (fun _ => True) fuel listed a w
  | 0, _, _, _, h => h
  | fuel + 1, _, _, _, h => ⟨h.1, fun i hi => wpOp_mono (fun a' w' h' => ⟨trivial, by
      by_cases hc : i = c
      · exact h'.2 hc
      · exact held_of_L fuel _ a' w' (h'.1 hc).2⟩) (h.2 i hi)⟩
theorem wpAnyL_first {i c : Nat} {oi : Oper} {v : Value} (hi : ops[i]? = some oi) (hsel : ∀ (j : Nat) (o : Oper) cs b, ops[j]? = some o → o.op ≠ .select cs b)
    (hQ : ∀ c a w, Q (.panic c) (a.put oi.dst v) w → Q (.panic c) a w) (hc : ∀ oc, ops[c]? = some oc → ∃ e ∈ oc.after, Region.binds md e = true ∧ e.on = i) :
    ∀ (fuel : Nat) (listed : Array Bool) (a : Act) (w : World),
      (∀ j oj, ops[j]? = some oj → j ≠ i → listed.getD j true = false → (∀ e ∈ oj.after, Region.binds md e = true → e.on ≠ i) → oi.apart ops oj = true) →
      i ∈ Region.ready md ops listed → YieldsIf P ops S oi v a → S w →
      wpAnyL P md ops Q S c fuel (listed.setIfInBounds i true) (a.put oi.dst v) w → wpAnyH P md ops Q (fun _ => True) (fuel + 1) listed a w := by
  intro fuel
  induction fuel with
  | zero =>
    intro listed a w _ hr hy hS H
    refine ⟨fun h => (by rw [h] at hr; cases hr), fun j hj => ?_⟩
    by_cases hji : j = i
    · subst hji; exact hy.wpOp hi hS ⟨trivial, H⟩
    · have := ready_mono hj hji
      rw [H.1] at this
      cases this
  | succ fuel ih =>
    intro listed a w hfree hr hy hS H
    refine ⟨fun h => (by rw [h] at hr; cases hr), fun j hj => ?_⟩
    by_cases hji : j = i
    · subst hji; exact hy.wpOp hi hS ⟨trivial, held_of_L _ _ _ _ H⟩
    · have h1 := H.2 j (ready_mono hj hji)
      obtain ⟨hjun, oj, hoj, hall⟩ := mem_ready.1 hj
      have hnot : ∀ e ∈ oj.after, Region.binds md e = true → e.on ≠ i := fun e he hb heq => by
        have h1 := hall e he hb
        have h0 := (mem_ready.1 hr).1
        rw [heq] at h1
        rcases Nat.lt_or_ge i listed.size with h' | h'
        · simp [h'] at h0 h1; rw [h0] at h1; cases h1
        · simp [Array.getElem?_eq_none h'] at h1
      have hjc : j ≠ c := fun e => by
        subst e
        obtain ⟨e, he, hb, hon⟩ := hc oj hoj
        exact hnot e he hb hon
      have h2 := wpOp_putIf hoj (hfree j oj hoj hji hjun hnot) (fun cs b => hsel i oi cs b hi) (fun cs b => hsel j oj cs b hoj) hQ hy (wpOp_mono (fun a' w' h' => h'.1 hjc) h1)
      have hfree' : ∀ k ok, ops[k]? = some ok → k ≠ i → (listed.setIfInBounds j true).getD k true = false →
          (∀ e ∈ ok.after, Region.binds md e = true → e.on ≠ i) → oi.apart ops ok = true := fun k ok hk hki hun hno => by
        refine hfree k ok hk hki ?_ hno
        by_cases hjk : j = k
        · subst hjk; exact hjun
        · rw [getD_set_ne true hjk] at hun; exact hun
      refine wpOp_mono (fun a' w' h3 => ⟨trivial, ih (listed.setIfInBounds j true) a' w' hfree' (ready_mono hr (Ne.symm hji)) h3.1 h3.2.1 ?_⟩) h2
      rw [Array.setIfInBounds_comm _ _ hji]
      exact h3.2.2
def waitsFor (md : Region.Mode) (ops : Array Oper) (c i : Nat) : Bool := match ops[c]? with
  | some oc => oc.after.any fun e => Region.binds md e && e.on == i
  | none => false
theorem waitsFor_spec {c i : Nat} (h : waitsFor md ops c i = true) : ∀ oc, ops[c]? = some oc → ∃ e ∈ oc.after, Region.binds md e = true ∧ e.on = i := fun oc ho => by
  unfold waitsFor at h
  rw [ho] at h
  simp only [Array.any_eq_true', Bool.and_eq_true, beq_iff_eq] at h
  exact h
variable {fuel : Nat} {listed : Array Bool} {a : Act} {w : World} {oi : Oper} {v : Value} {c : Nat}
/-- take the load number i first; its cell is written behind number c alone -/
theorem zqm (i c : Nat) (hi : ops[i]? = some oi) (hy : YieldsIf P ops S oi v a) (hS : S w) (h : wpAnyL P md ops Q S c fuel (listed.setIfInBounds i true) (a.put oi.dst v) w) (hc : waitsFor md ops c i = true := by kernel_rfl) (hs : Region.noSelect ops = true := by kernel_rfl) (hf : Region.free md ops listed i = true := by kernel_rfl) (hr : (Region.ready md ops listed).contains i = true := by kernel_rfl)
    (hQ : ∀ c a w, Q (.panic c) (a.put oi.dst v) w → Q (.panic c) a w := by exact fun _ _ _ h => h) : wpAnyH P md ops Q (fun _ => True) (fuel + 1) listed a w := wpAnyL_first hi (Region.noSelect_spec hs) hQ (waitsFor_spec hc) fuel listed a w (Region.free_spec hi hf) (by simpa using hr) hy hS h
def AllReadyL (P : Program) (md : Region.Mode) (ops : Array Oper) (Q : Exit → Act → World → Prop) (S : World → Prop) (c fuel : Nat) (listed : Array Bool) (a : Act) (w : World) (rs : List Nat) : Prop :=
  ∀ i ∈ rs, wpOp P ops Q i (fun a' w' => S w' ∧ wpAnyL P md ops Q S c fuel (listed.setIfInBounds i true) a' w') a w
theorem AllReadyL.nil : AllReadyL P md ops Q S c fuel listed a w [] := fun _ h => by cases h
theorem AllReadyL.cons {i : Nat} {o : Oper} {rs : List Nat} (ho : ops[i]? = some o)
    (h : ∀ K' : Act → World → Prop, Shut (∀ a w, S w → (S w → wpAnyL P md ops Q S c fuel (listed.setIfInBounds i true) a w) → K' a w) → if Region.wanted o (yielded ops a.tmps) = true then Oper.wp P o a w K' Q else K' (a.put o.dst undef) w)
    (hs : AllReadyL P md ops Q S c fuel listed a w rs) : AllReadyL P md ops Q S c fuel listed a w (i :: rs) := fun j hj => by
  rcases List.mem_cons.1 hj with rfl | hj
  · exact wpOp_step ho (fun K' hK => h K' (fun a w hS hW => hK a w ⟨hS, hW hS⟩))
  · exact hs j hj
theorem wpAnyL_ready {rs : List Nat} (hr : Region.ready md ops listed = rs) (hne : rs ≠ []) (hc : rs.contains c = false)
    (h : AllReadyL P md ops Q S c fuel listed a w rs) : wpAnyL P md ops Q S c (fuel + 1) listed a w :=
  ⟨fun h0 => absurd (hr ▸ h0) hne, fun i hi => wpOp_mono (fun _ _ h' => ⟨fun _ => h', fun e => by
    subst e
    rw [hr] at hi
    have : rs.contains i = true := List.contains_iff_mem.2 hi
    rw [hc] at this
    cases this⟩) (h i (hr ▸ hi))⟩
/-- number c comes up alone: from here on nothing is asked -/
theorem wpAnyL_last (hr : Region.ready md ops listed = [c]) (h : wpAnyH P md ops Q (fun _ => True) (fuel + 1) listed a w) : wpAnyL P md ops Q S c (fuel + 1) listed a w :=
  ⟨h.1, fun i hi => wpOp_mono (fun _ _ h' => ⟨fun hne => by
    rw [hr] at hi
    simp at hi
    exact absurd hi hne, fun _ => h'.2⟩) (h.2 i hi)⟩
end
end Go.Proofs.Ytceokpklcfmadaa

/-
  What a type's facts are made of.
-/
namespace Go.Proofs.Ytceokpklcfmadaa
open Go

theorem info_parts3 {P : Program} {t : TypeId} {z : Value} {a b : Nat} (h : (P.info? t).map (fun i => (i.zero, i.size, i.bytes)) = some (some z, a, b)) : ∃ i, P.info? t = some i ∧ i.zero = some z ∧ i.size = a ∧ i.bytes = b := by
  cases hq : P.info? t with
  | none => rw [hq] at h; simp at h
  | some i =>
    rw [hq] at h
    simp at h
    exact ⟨i, rfl, h.1, h.2.1, h.2.2⟩
end Go.Proofs.Ytceokpklcfmadaa

/-
  Rows of one and the same element: written over and lengthened.
-/
namespace Go.Proofs.Ytceokpklcfmadaa
open Go Go.RowKit
namespace Mg

/-- n times the same cells -/
def pat (cs : List Value) (n : Nat) : List Value := (List.replicate n cs).flatten
theorem pat_len (cs : List Value) (n : Nat) : (pat cs n).length = n * cs.length := by simp [pat]
theorem pat_succ (cs : List Value) (n : Nat) : pat cs (n + 1) = cs ++ pat cs n := by simp [pat, List.replicate_succ]
theorem pat_add (cs : List Value) (n k : Nat) : pat cs n ++ pat cs k = pat cs (n + k) := by
  unfold pat
  rw [← List.flatten_append, List.replicate_append_replicate]
theorem pat_get (cs : List Value) : ∀ (n p : Nat), p < n * cs.length → (pat cs n)[p]? = cs[p % cs.length]?
  | 0, p, h => by omega
  | n + 1, p, h => by
    rw [pat_succ]
    by_cases h1 : p < cs.length
    · rw [List.getElem?_append_left h1, Nat.mod_eq_of_lt h1]
    · rw [List.getElem?_append_right (by omega), pat_get cs n (p - cs.length) (by rw [Nat.add_mul] at h; omega), ← Nat.mod_eq_sub_mod (by omega)]
theorem pat_one (cs : List Value) (h : ∀ u ∈ cs, u.oneCell' = true) (n : Nat) : ∀ u ∈ pat cs n, u.oneCell' = true := fun u hu => by
  unfold pat at hu
  rw [List.mem_flatten] at hu
  obtain ⟨l, hl, hu⟩ := hu
  rw [List.mem_replicate] at hl
  exact h u (hl.2 ▸ hu)
theorem row_block {B : Nat} {w w' : World} {t : TypeId} {s n : Nat} {v : Value} {xs : List Value} (h : w.ownsRow B t s v n xs) (hg : ∀ g, v.ownBlock = some g → w'.heap[g]? = w.heap[g]?) : w'.ownsRow B t s v n xs := by
  refine ⟨h.1, ?_⟩
  rcases h.2 with h1 | ⟨g, cap, cur, e, hb, hh, rest⟩
  · exact .inl h1
  · exact .inr ⟨g, cap, cur, e, hb, (hg g (by rw [e]; rfl)).trans hh, rest⟩
theorem row_kept {B : Nat} {w w' : World} {t : TypeId} {s n : Nat} {v : Value} {xs : List Value} (h : w.ownsRow B t s v n xs) (hb : Below w.heap.size w w') : w'.ownsRow B t s v n xs := row_block h fun g hg => hb.block g (World.ownsRow.lt h g hg).2
theorem row_type {B : Nat} {w : World} {t : TypeId} {s n : Nat} {v : Value} {xs : List Value} (h : w.ownsRow B t s v n xs) (g : Nat) (hg : v.ownBlock = some g) : ∃ cur, w.heap[g]? = some (.cells cur t) := by
  rcases h.2 with ⟨rfl, _⟩ | ⟨g1, cap, cur, rfl, _, hh, _⟩
  · cases hg
  · obtain rfl : g1 = g := by simpa [Value.ownBlock] using hg
    exact ⟨cur, hh⟩
/-- two rows of unlike kinds have unlike blocks -/
theorem kinds_apart {B B' : Nat} {w : World} {t t' : TypeId} {s s' n n' : Nat} {v v' : Value} {xs xs' : List Value} (h : w.ownsRow B t s v n xs) (h' : w.ownsRow B' t' s' v' n' xs') (ht : t ≠ t') (g : Nat) (hg : v.ownBlock = some g) : v'.ownBlock ≠ some g := fun hg' => by
  obtain ⟨c, hc⟩ := row_type h g hg
  obtain ⟨c', hc'⟩ := row_type h' g hg'
  rw [hc] at hc'
  simp at hc'
  exact ht hc'.2
/-- a row is left alone by what changes another block -/
theorem row_other {B : Nat} {w w' : World} {t : TypeId} {s n : Nat} {v : Value} {xs : List Value} {row : Option Nat} (h : w.ownsRow B t s v n xs) (k : w.grownBy w' row) (hne : ∀ g, v.ownBlock = some g → row ≠ some g) : w'.ownsRow B t s v n xs :=
  row_block h fun g hg => k.block g (World.ownsRow.lt h g hg).2 fun e => hne g hg e.symm
theorem row_shape {B : Nat} {w : World} {t : TypeId} {s n : Nat} {v : Value} {xs : List Value} (h : w.ownsRow B t s v n xs) : ∃ a, ∃ c : Nat, v = .slice a n c ∧ n ≤ c ∧ c ≤ maxLen := by
  rcases h.2 with ⟨rfl, rfl⟩ | ⟨g, cap, cur, rfl, _, _, h1, h2, _⟩
  · exact ⟨none, 0, rfl, Nat.le_refl _, Nat.zero_le _⟩
  · exact ⟨_, _, rfl, h1, h2⟩
/-- n times the same element in a row -/
def Mk (e : TypeId) (cs : List Value) (B : Nat) (w : World) (v : Value) (n : Nat) : Prop := w.ownsRow B e cs.length v n (pat cs n)
/-- the first k places written over -/
def fil (cs : List Value) (xs : List Value) (k : Nat) : List Value := pat cs k ++ xs.drop (k * cs.length)
theorem fil_zero (cs xs : List Value) : fil cs xs 0 = xs := by simp [fil, pat]
theorem fil_end (cs xs : List Value) (n : Nat) (h : xs.length = n * cs.length) : fil cs xs n = pat cs n := by
  unfold fil
  rw [← h, List.drop_length, List.append_nil]
theorem fil_len (cs xs : List Value) (n k : Nat) (h : xs.length = n * cs.length) (hk : k ≤ n) : (fil cs xs k).length = n * cs.length := by
  unfold fil
  rw [List.length_append, pat_len, List.length_drop, h]
  have := Nat.mul_le_mul_right cs.length hk
  omega
theorem owns_setCells {B : Nat} {e : TypeId} {s n cap g : Nat} : ∀ (vs : List Value) (o : Nat) (w : World) (xs : List Value), w.ownsRow B e s (.slice (some ⟨g, 0, none⟩) n cap) n xs → o + vs.length ≤ xs.length →
    (w.setCells g o vs).ownsRow B e s (.slice (some ⟨g, 0, none⟩) n cap) n (xs.take o ++ vs ++ xs.drop (o + vs.length)) ∧ w.grownBy (w.setCells g o vs) (some g)
  | [], o, w, xs, h, _ => by
    refine ⟨?_, World.grownBy.refl _ _⟩
    show w.ownsRow _ _ _ _ _ _
    rw [List.append_nil, List.length_nil, Nat.add_zero, List.take_append_drop]
    exact h
  | v :: r, o, w, xs, h, hl => by
    have s1 := World.ownsRow.stored h o v
    rw [List.length_cons] at hl
    obtain ⟨h2, g2⟩ := owns_setCells r (o + 1) _ _ s1.1 (by rw [List.length_set]; omega)
    refine ⟨?_, ⟨g2.os.trans s1.2.os, g2.tape.trans s1.2.tape, g2.output.trans s1.2.output, Nat.le_trans s1.2.size g2.size, fun q hq hn => (g2.block q (Nat.lt_of_lt_of_le hq s1.2.size) hn).trans (s1.2.block q hq hn)⟩⟩
    show ((w.setCell ⟨g, o, none⟩ v).setCells g (o + 1) r).ownsRow _ _ _ _ _ _
    have e1 : (xs.set o v).take (o + 1) = xs.take o ++ [v] := by
      rw [List.take_succ_eq_append_getElem (by rw [List.length_set]; omega), List.getElem_set_self, List.take_set_of_le (Nat.le_refl _)]
    have e2 : (xs.set o v).drop (o + 1 + r.length) = xs.drop (o + (r.length + 1)) := by
      rw [List.drop_set_of_lt (by omega), show o + 1 + r.length = o + (r.length + 1) by omega]
    rw [e1, e2] at h2
    rw [List.length_cons]
    simpa using h2
theorem fill_step {B : Nat} {w : World} {e : TypeId} {cs xs : List Value} {a : Option Addr} {n cap k : Nat} (hcs : 0 < cs.length) (hx : xs.length = n * cs.length) (h : w.ownsRow B e cs.length (.slice a n cap) n (fil cs xs k)) (hk : k < n) :
    ∃ g, a = some ⟨g, 0, none⟩ ∧ w.there g (k * cs.length) cs.length ∧ (w.setCells g (k * cs.length) cs).ownsRow B e cs.length (.slice a n cap) n (fil cs xs (k + 1)) ∧ w.grownBy (w.setCells g (k * cs.length) cs) (some g) ∧ B ≤ g := by
  have hl := fil_len cs xs n k hx (by omega)
  have hkn : k * cs.length + cs.length ≤ n * cs.length := by
    have := Nat.mul_le_mul_right cs.length (show k + 1 ≤ n by omega)
    rw [Nat.add_mul, Nat.one_mul] at this
    exact this
  rcases h.2 with ⟨_, h0⟩ | ⟨g, cap', cur, e', hBg, hg, hnc, hcm, hcs', htk⟩
  · omega
  · simp only [Value.slice.injEq, true_and] at e'
    obtain ⟨rfl, rfl⟩ := e'
    obtain ⟨h2, g2⟩ := owns_setCells cs (k * cs.length) w _ h (by omega)
    refine ⟨g, rfl, fun j hj => ?_, ?_, g2, hBg⟩
    · refine ⟨?_, World.ownsRow.frozenAt h (k * cs.length + j)⟩
      have hc := h.cellAt (k * cs.length + j) (by omega)
      rw [hc, List.getElem?_eq_getElem (by omega)]
      rfl
    · have e3 : (fil cs xs k).take (k * cs.length) ++ cs ++ (fil cs xs k).drop (k * cs.length + cs.length) = fil cs xs (k + 1) := by
        unfold fil
        rw [List.take_append_of_le_length (by rw [pat_len]; exact Nat.le_refl _), List.take_of_length_le (by rw [pat_len]; exact Nat.le_refl _), ← pat_add, List.drop_append, List.drop_of_length_le (by rw [pat_len]; omega), pat_len, List.nil_append, List.drop_drop, show k * cs.length + (k * cs.length + cs.length - k * cs.length) = (k + 1) * cs.length by rw [Nat.add_mul]; omega]
        simp [pat]
      rw [e3] at h2
      exact h2
/-- append of m more onto n: what it makes, and that every view of the same stays -/
theorem append_mk {P : Program} (w : World) (B : Nat) (e t ty : TypeId) (cs : List Value) (z : Value) (by_ : Nat) (hcs : 0 < cs.length) (hone : ∀ u ∈ cs, u.oneCell' = true) (hinfo : (P.info? e).map (fun i => (i.zero, i.size, i.bytes)) = some (some z, cs.length, by_)) (hz : z.cells.size = cs.length) (ht : P.underlying t = some (.slice e))
    (v : Value) (k m : Nat) (h : Mk e cs B w v k) (gx cx : Nat) (hx : ∀ (j : Nat) (u : Value), (pat cs m)[j]? = some u → w.cell? ⟨gx, j, none⟩ = some u) (hmx : k + m ≤ 100000000) (hmax : (k + m) * by_ ≤ 140737488355328) (hB : B ≤ w.heap.size) :
    ∃ v' w', (Builtin.append_ #[t, t] ty #[v, .slice (some ⟨gx, 0, none⟩) m cx]).run P w = .ok v' w' ∧ Mk e cs B w' v' (k + m) ∧ w.grownBy w' v.ownBlock ∧ (v'.ownBlock = v.ownBlock ∨ v'.ownBlock = some w.heap.size) ∧
      ∀ (u : Value) (k' : Nat), Mk e cs B w u k' → Mk e cs B w' u k' := by
  obtain ⟨i0, hi, hz0, hz1, hz2⟩ := info_parts3 hinfo
  have hnews : ∀ j u, (pat cs m)[j]? = some u → w.cell? ((⟨gx, 0, none⟩ : Addr).add j) = some u := fun j u hj => by
    rw [Addr.add_lit, Nat.zero_add]
    exact hx j u hj
  obtain ⟨v', w', hr, h2, h3, _, h5⟩ := run_append_own_at (P := P) w B t ty e i0 z cs.length by_ ht hi hz0 hz1 hz2 hz hcs v k (pat cs k) h ⟨gx, 0, none⟩ m cx (pat cs m) (pat_len cs m) hnews (pat_one cs hone m) (by unfold maxLen; omega) hmax hB
  rw [pat_add] at h2
  refine ⟨v', w', hr, h2, h3, h5, fun u k' hu => ?_⟩
  by_cases hub : u.ownBlock = v.ownBlock
  · rcases hu.2 with ⟨rfl, h0⟩ | ⟨g, cap, cur, rfl, hbg, hg, hnc, hcm, hcs1, htk⟩
    · exact ⟨hu.1, .inl ⟨rfl, h0⟩⟩
    · rcases h.2 with ⟨rfl, _⟩ | ⟨g', cap', cur', rfl, hbg', hg', hnc', hcm', hcs', htk'⟩
      · cases hub
      · obtain rfl : g = g' := by simpa [Value.ownBlock] using hub
        obtain rfl : cur = cur' := by
          have := hg.symm.trans hg'
          simpa using this
        have hcc : cap = cap' := by
          have h9 : cap * cs.length = cap' * cs.length := by rw [← hcs1, ← hcs']
          exact Nat.eq_of_mul_eq_mul_right hcs h9
        subst hcc
        by_cases hroom : k + m ≤ cap
        · have hfl : (k + m) * cs.length ≤ cap * cs.length := Nat.mul_le_mul_right _ hroom
          have hfl2 : (k + m) * cs.length = k * cs.length + m * cs.length := Nat.add_mul _ _ _
          have hfit : k * i0.size + (pat cs m).length ≤ cur.size := by rw [hz1, pat_len, hcs1]; omega
          have hr2 := run_append_room (P := P) w t ty e i0 ht hi g k cap cur hg ⟨gx, 0, none⟩ m cx (pat cs m) (by rw [hz1, pat_len]) hnews (pat_one cs hone m) hroom hfit
          rw [hr2] at hr
          injection hr with e1 e2
          subst e1 e2
          refine ⟨hu.1, .inr ⟨g, cap, _, rfl, hbg, setRow_heap w g cur _ e _ hg, hnc, hcm, ?_, ?_⟩⟩
          · simp only [List.size_toArray, List.length_append, List.length_take, List.length_drop, Array.length_toList, hz1, pat_len]
            omega
          · rw [← htk, hz1, pat_len]
            have hcp : ∀ p, p < k' * cs.length → cur.toList[p]? = cs[p % cs.length]? := fun p hp => by
              have h9 : (cur.toList.take (k' * cs.length))[p]? = (pat cs k')[p]? := by rw [htk]
              rw [List.getElem?_take_of_lt hp] at h9
              rw [h9, pat_get cs k' p hp]
            have hcl : cur.toList.length = cur.size := Array.length_toList
            refine List.ext_getElem? fun p => ?_
            by_cases hp : p < k' * cs.length
            · rw [List.getElem?_take_of_lt hp, List.getElem?_take_of_lt hp]
              by_cases h1 : p < k * cs.length
              · rw [List.append_assoc, List.getElem?_append_left (by rw [List.length_take, hcl]; omega), List.getElem?_take_of_lt h1]
              · have htl : (cur.toList.take (k * cs.length)).length = k * cs.length := by rw [List.length_take, hcl]; omega
                by_cases h2 : p < (k + m) * cs.length
                · rw [List.append_assoc, List.getElem?_append_right (by omega), htl, List.getElem?_append_left (by rw [pat_len]; omega), pat_get cs m (p - k * cs.length) (by omega), hcp p hp]
                  congr 1
                  have e9 : p = (p - k * cs.length) + cs.length * k := by rw [Nat.mul_comm cs.length k]; omega
                  conv => rhs; rw [e9]
                  rw [Nat.add_mul_mod_self_left]
                · rw [List.append_assoc, List.getElem?_append_right (by omega), htl, List.getElem?_append_right (by rw [pat_len]; omega), pat_len, List.getElem?_drop]
                  congr 1
                  omega
            · rw [List.getElem?_eq_none (by rw [List.length_take]; omega), List.getElem?_eq_none (by rw [List.length_take]; omega)]
        · have holds : ∀ j u, (pat cs k)[j]? = some u → w.cell? ((⟨g, 0, none⟩ : Addr).add j) = some u := World.ownsRow.cells h (g := g) rfl
          have hr2 := run_append_grow (P := P) w t ty e i0 _ ht hi hz0 ⟨g, 0, none⟩ k cap (pat cs k) (by rw [hz1, pat_len]) holds ⟨gx, 0, none⟩ m cx (pat cs m) (by rw [hz1, pat_len]) hnews (by omega) (by omega) (growslice_fits (by omega) (by rw [hz2]; exact hmax))
          rw [hr2] at hr
          injection hr with e1 e2
          subst e1 e2
          refine ⟨hu.1, .inr ⟨g, cap, cur, rfl, hbg, ?_, hnc, hcm, hcs1, htk⟩⟩
          rw [← hg]
          exact (Below.refl w.drew.heap.size w.drew).alloc (Nat.le_refl _) _ |>.block g (Array.getElem?_eq_some_iff.1 hg).1
  · exact row_other hu h3 fun g hg e => hub (hg.trans e.symm)
theorem wpList_append_mk {P : Program} (w : World) {ops : Array Oper} {rest : List Oper} {o : Oper} {a : Act} {Q : Exit → Act → World → Prop} (hgd : o.guard = none) (s x : Operand) (e t : TypeId)
    (ho : o.op = .call { callee := .builtin .append, args := #[s, x], argTypes := #[t, t] })
    (B : Nat) (cs : List Value) (z : Value) (by_ : Nat) (hcs : 0 < cs.length) (hone : ∀ u ∈ cs, u.oneCell' = true) (hinfo : (P.info? e).map (fun i => (i.zero, i.size, i.bytes)) = some (some z, cs.length, by_)) (hz : z.cells.size = cs.length) (ht : P.underlying t = some (.slice e))
    (v : Value) (k m : Nat) (hv : a.eval s = v) (h : Mk e cs B w v k) (gx cx : Nat) (hxe : a.eval x = .slice (some ⟨gx, 0, none⟩) m cx) (hx : ∀ (j : Nat) (u : Value), (pat cs m)[j]? = some u → w.cell? ⟨gx, j, none⟩ = some u) (hmx : k + m ≤ 100000000) (hmax : (k + m) * by_ ≤ 140737488355328) (hB : B ≤ w.heap.size)
    (hK : ∀ v' w', Mk e cs B w' v' (k + m) → w.grownBy w' v.ownBlock → (v'.ownBlock = v.ownBlock ∨ v'.ownBlock = some w.heap.size) → (∀ (u : Value) (k' : Nat), Mk e cs B w u k' → Mk e cs B w' u k') → wpList P ops Q rest (a.put o.dst v') w') : wpList P ops Q (o :: rest) a w := by
  obtain ⟨v', w', hr, h1, h2, h3, h4⟩ := append_mk (P := P) w B e t o.type cs z by_ hcs hone hinfo hz ht v k m h gx cx hx hmx hmax hB
  refine wpList_plain hgd fun _ hK' => ?_
  unfold Oper.wp
  simp [execOp, ho, resolve, invoke, builtin, hv, hxe, hr, Result.andThen]
  exact hK' _ _ (hK v' w' h1 h2 h3 h4)
end Mg
end Go.Proofs.Ytceokpklcfmadaa

/-
  Families of rows: lists that lie apart, written over and lengthened one by one.
-/
namespace Go.Proofs.Ytceokpklcfmadaa
open Go Go.RowKit
namespace Mg

/-- the j-th list is a row of so many elements, with these cells -/
def Fam (B : Nat) (w : World) (e : TypeId) (s : Nat) (n : Nat → Nat) (L : List Value) (X : Nat → List Value) : Prop := ∀ (j : Nat) (v : Value), L[j]? = some v → w.ownsRow B e s v (n j) (X j)
/-- no two of them share a block -/
def Apt (L : List Value) : Prop := ∀ (i j : Nat) (u v : Value), L[i]? = some u → L[j]? = some v → i ≠ j → ∀ g, u.ownBlock = some g → v.ownBlock ≠ some g
section
variable {B : Nat} {w w' : World} {e : TypeId} {s : Nat} {n : Nat → Nat} {L : List Value} {X : Nat → List Value}
theorem Fam.block (h : Fam B w e s n L X) (hb : ∀ v ∈ L, ∀ g, v.ownBlock = some g → w'.heap[g]? = w.heap[g]?) : Fam B w' e s n L X := fun j v hj => row_block (h j v hj) (hb v (List.mem_of_getElem? hj))
theorem Fam.lt (h : Fam B w e s n L X) (v : Value) (hv : v ∈ L) (g : Nat) (hg : v.ownBlock = some g) : B ≤ g ∧ g < w.heap.size := by
  obtain ⟨j, hj⟩ := List.getElem?_of_mem hv
  exact World.ownsRow.lt (h j v hj) g hg
theorem Fam.kept (h : Fam B w e s n L X) (hb : Below w.heap.size w w') : Fam B w' e s n L X := h.block fun v hv g hg => hb.block g (h.lt v hv g hg).2
theorem Fam.other {row : Option Nat} (h : Fam B w e s n L X) (k : w.grownBy w' row) (hne : ∀ v ∈ L, ∀ g, v.ownBlock = some g → row ≠ some g) : Fam B w' e s n L X := h.block fun v hv g hg => k.block g (h.lt v hv g hg).2 fun e' => hne v hv g hg e'.symm
/-- a row of another kind changes -/
theorem Fam.kind {e' : TypeId} {s' m B' : Nat} {u : Value} {ys : List Value} (h : Fam B w e s n L X) (hu : w.ownsRow B' e' s' u m ys) (ht : e ≠ e') (k : w.grownBy w' u.ownBlock) : Fam B w' e s n L X := h.other k fun v hv g hg => by
  obtain ⟨j, hj⟩ := List.getElem?_of_mem hv
  exact kinds_apart (h j v hj) hu ht g hg
/-- the i-th row is written -/
theorem Fam.put (h : Fam B w e s n L X) (ha : Apt L) (i : Nat) (v : Value) (hi : L[i]? = some v) (k : w.grownBy w' v.ownBlock) (ys : List Value) (hy : w'.ownsRow B e s v (n i) ys) : Fam B w' e s n L (fun j => if j = i then ys else X j) := fun j u hj => by
  by_cases hij : j = i
  · subst hij
    rw [hi] at hj
    obtain rfl := Option.some.inj hj
    simp only [if_true]
    exact hy
  · simp only [if_neg hij]
    exact row_other (h j u hj) k fun g hg => ha j i u v hj hi hij g hg
theorem Fam.snoc (h : Fam B w e s n L X) (v : Value) (ys : List Value) (hv : w.ownsRow B e s v (n L.length) ys) (hX : X L.length = ys) : Fam B w e s n (L ++ [v]) X := fun j u hj => by
  by_cases hlt : j < L.length
  · rw [List.getElem?_append_left hlt] at hj
    exact h j u hj
  · rw [List.getElem?_append_right (by omega)] at hj
    have hj0 : j - L.length = 0 := by
      have := (List.getElem?_eq_some_iff.1 hj).1
      simp at this
      omega
    rw [hj0] at hj
    obtain rfl : v = u := by simpa using hj
    obtain rfl : j = L.length := by omega
    rw [hX]
    exact hv
theorem Apt.snoc (h : Apt L) (v : Value) (hv : ∀ u ∈ L, ∀ g, u.ownBlock = some g → v.ownBlock ≠ some g) : Apt (L ++ [v]) := fun i j a b hi hj hij g ha hb => by
  have get : ∀ (i : Nat) (a : Value), (L ++ [v])[i]? = some a → L[i]? = some a ∨ (i = L.length ∧ a = v) := fun i a hi => by
    by_cases hlt : i < L.length
    · rw [List.getElem?_append_left hlt] at hi
      exact .inl hi
    · rw [List.getElem?_append_right (by omega)] at hi
      have h0 : i - L.length = 0 := by
        have := (List.getElem?_eq_some_iff.1 hi).1
        simp at this
        omega
      rw [h0] at hi
      refine .inr ⟨by omega, ?_⟩
      simpa using hi.symm
  rcases get i a hi with h1 | ⟨h1, rfl⟩
  · rcases get j b hj with h2 | ⟨h2, rfl⟩
    · exact h i j a b h1 h2 hij g ha hb
    · exact hv a (List.mem_of_getElem? h1) g ha hb
  · rcases get j b hj with h2 | ⟨h2, rfl⟩
    · exact hv b (List.mem_of_getElem? h2) g hb ha
    · omega
theorem Apt.nil : Apt [] := fun i j u v hi => by simp at hi
theorem Fam.nil : Fam B w e s n [] X := fun j v hj => by simp at hj
theorem Fam.weak {B' : Nat} (h : Fam B w e s n L X) (hB : B' ≤ B) : Fam B' w e s n L X := fun j v hj => by
  have h1 := h j v hj
  refine ⟨h1.1, ?_⟩
  rcases h1.2 with h2 | ⟨g, cap, cur, e', hb, rest⟩
  · exact .inl h2
  · exact .inr ⟨g, cap, cur, e', Nat.le_trans hB hb, rest⟩
end
theorem row_weak {B B' : Nat} {w : World} {t : TypeId} {s n : Nat} {v : Value} {xs : List Value} (h : w.ownsRow B t s v n xs) (hB : B' ≤ B) : w.ownsRow B' t s v n xs := by
  refine ⟨h.1, ?_⟩
  rcases h.2 with h1 | ⟨g, cap, cur, e, hb, rest⟩
  · exact .inl h1
  · exact .inr ⟨g, cap, cur, e, Nat.le_trans hB hb, rest⟩
/-- lists and their longer ones: the lists hold the j-th mark alone, so do the longer ones, which lie with their own list or in new blocks -/
structure Lng (B : Nat) (H0 : Nat) (w : World) (e : TypeId) (cs : Nat → List Value) (n m : Nat) (L G : List Value) : Prop where
  low : H0 ≤ w.heap.size
  base : B ≤ H0
  old : ∀ v ∈ L, ∀ g, v.ownBlock = some g → g < H0
  apt : Apt L
  l : ∀ (j : Nat) (v : Value), L[j]? = some v → Mk e (cs j) B w v n
  g : ∀ (j : Nat) (v : Value), G[j]? = some v → Mk e (cs j) B w v (n + m)
  at_ : ∀ (j : Nat) (u v : Value), L[j]? = some u → G[j]? = some v → ∀ q, v.ownBlock = some q → u.ownBlock = some q ∨ H0 ≤ q
/-- one of them under way -/
structure Und (B : Nat) (H0 H1 : Nat) (w : World) (e : TypeId) (cs : Nat → List Value) (n m : Nat) (L G : List Value) (i : Nat) (v c : Value) (k : Nat) : Prop where
  lng : Lng B H0 w e cs n m L G
  h1 : H0 ≤ H1 ∧ H1 ≤ w.heap.size
  few : G.length = i
  old : ∀ u ∈ G, ∀ g, u.ownBlock = some g → g < H1
  iv : L[i]? = some v
  cur : Mk e (cs i) B w c (n + k)
  at_ : ∀ q, c.ownBlock = some q → v.ownBlock = some q ∨ H1 ≤ q
section
variable {B H0 H1 : Nat} {w w' : World} {e : TypeId} {cs : Nat → List Value} {n m : Nat} {L G : List Value}
theorem Lng.kept (h : Lng B H0 w e cs n m L G) (hb : Below w.heap.size w w') : Lng B H0 w' e cs n m L G :=
  ⟨Nat.le_trans h.low hb.size, h.base, h.old, h.apt, fun j v hj => row_kept (h.l j v hj) hb, fun j v hj => row_kept (h.g j v hj) hb, h.at_⟩
theorem Und.kept {i k : Nat} {v c : Value} (h : Und B H0 H1 w e cs n m L G i v c k) (hb : Below w.heap.size w w') : Und B H0 H1 w' e cs n m L G i v c k :=
  ⟨h.lng.kept hb, ⟨h.h1.1, Nat.le_trans h.h1.2 hb.size⟩, h.few, h.old, h.iv, row_kept h.cur hb, h.at_⟩
theorem Und.begin (h : Lng B H0 w e cs n m L G) (v : Value) (hv : L[G.length]? = some v) (hG : ∀ u ∈ G, ∀ g, u.ownBlock = some g → g < w.heap.size) : Und B H0 w.heap.size w e cs n m L G G.length v v 0 :=
  ⟨h, ⟨h.low, Nat.le_refl _⟩, rfl, hG, hv, h.l _ v hv, fun _ hq => .inl hq⟩
theorem Lng.glt (h : Lng B H0 w e cs n m L G) (u : Value) (hu : u ∈ G) (g : Nat) (hg : u.ownBlock = some g) : g < w.heap.size := by
  obtain ⟨j, hj⟩ := List.getElem?_of_mem hu
  exact (World.ownsRow.lt (h.g j u hj) g hg).2
/-- one more element -/
theorem Und.step {i k : Nat} {v c c' : Value} (h : Und B H0 H1 w e cs n m L G i v c k) (hL : G.length ≤ L.length) (k1 : w.grownBy w' c.ownBlock) (hc : Mk e (cs i) B w' c' (n + k + 1)) (hat : c'.ownBlock = c.ownBlock ∨ c'.ownBlock = some w.heap.size)
    (hkeep : ∀ (u : Value) (k' : Nat), Mk e (cs i) B w u k' → Mk e (cs i) B w' u k') : Und B H0 H1 w' e cs n m L G i v c' (k + 1) := by
  have hvo : ∀ g, v.ownBlock = some g → g < H0 := h.lng.old v (List.mem_of_getElem? h.iv)
  have hh := h.h1
  refine ⟨⟨Nat.le_trans h.lng.low k1.size, h.lng.base, h.lng.old, h.lng.apt, fun j u hj => ?_, fun j u hj => ?_, h.lng.at_⟩, ⟨hh.1, Nat.le_trans hh.2 k1.size⟩, h.few, h.old, h.iv, hc, fun q hq => ?_⟩
  · by_cases hij : j = i
    · subst hij
      exact hkeep u n (h.lng.l j u hj)
    · refine row_other (h.lng.l j u hj) k1 fun g hg e' => ?_
      rcases h.at_ g e' with h1 | h1
      · exact h.lng.apt j i u v hj h.iv hij g hg h1
      · have := h.lng.old u (List.mem_of_getElem? hj) g hg
        omega
  · refine row_other (h.lng.g j u hj) k1 fun g hg e' => ?_
    have hjl : j < G.length := (List.getElem?_eq_some_iff.1 hj).1
    have hjL : j < L.length := by omega
    have hgo := h.old u (List.mem_of_getElem? hj) g hg
    rcases h.at_ g e' with h1 | h1
    · rcases h.lng.at_ j L[j] u (List.getElem?_eq_getElem hjL) hj g hg with h2 | h2
      · exact h.lng.apt j i L[j] v (List.getElem?_eq_getElem hjL) h.iv (by have := h.few; omega) g h2 h1
      · have := hvo g h1
        omega
    · omega
  · rcases hat with h1 | h1
    · exact h.at_ q (by rw [← h1]; exact hq)
    · rw [h1] at hq
      have := Option.some.inj hq
      exact .inr (by omega)
/-- it is taken up -/
theorem Und.done {i : Nat} {v c : Value} (h : Und B H0 H1 w e cs n m L G i v c m) : Lng B H0 w e cs n m L (G ++ [c]) := by
  have get : ∀ (j : Nat) (a : Value), (G ++ [c])[j]? = some a → G[j]? = some a ∨ (j = i ∧ a = c) := fun j a hj => by
    have hf := h.few
    by_cases hlt : j < G.length
    · rw [List.getElem?_append_left hlt] at hj
      exact .inl hj
    · rw [List.getElem?_append_right (by omega)] at hj
      have h0 : j - G.length = 0 := by
        have := (List.getElem?_eq_some_iff.1 hj).1
        simp at this
        omega
      rw [h0] at hj
      refine .inr ⟨by omega, ?_⟩
      simpa using hj.symm
  refine ⟨h.lng.low, h.lng.base, h.lng.old, h.lng.apt, h.lng.l, fun j a hj => ?_, fun j u a hu hj q hq => ?_⟩
  · rcases get j a hj with h1 | ⟨rfl, rfl⟩
    · exact h.lng.g j a h1
    · exact h.cur
  · rcases get j a hj with h1 | ⟨rfl, rfl⟩
    · exact h.lng.at_ j u a hu h1 q hq
    · rw [h.iv] at hu
      obtain rfl := Option.some.inj hu
      rcases h.at_ q hq with h2 | h2
      · exact .inl h2
      · have := h.h1
        exact .inr (by omega)
/-- a row of another kind changes -/
theorem Lng.kind {e' : TypeId} {s' k B' : Nat} {u : Value} {ys : List Value} (h : Lng B H0 w e cs n m L G) (hu : w.ownsRow B' e' s' u k ys) (ht : e ≠ e') (kk : w.grownBy w' u.ownBlock) : Lng B H0 w' e cs n m L G :=
  ⟨Nat.le_trans h.low kk.size, h.base, h.old, h.apt, fun j v hj => row_other (h.l j v hj) kk (kinds_apart (h.l j v hj) hu ht), fun j v hj => row_other (h.g j v hj) kk (kinds_apart (h.g j v hj) hu ht), h.at_⟩
end
end Mg
end Go.Proofs.Ytceokpklcfmadaa

/-
  IndexWrites: Bytes: byte strings that were handed out; whole.
-/
namespace Go.Proofs.Ytceokpklcfmadaa
open Go Go.RowKit
open Wb

def mv (m : Nat) : List Value := [.int .u8 (m : Int)]
theorem grown_on {w w1 w2 : World} {b b' : Option Nat} (h : w.grownBy w1 b) (h2 : w1.grownBy w2 b') (hb : b' = b ∨ ∀ g, b' = some g → w.heap.size ≤ g) : w.grownBy w2 b := by
  refine ⟨h2.os.trans h.os, h2.tape.trans h.tape, h2.output.trans h.output, Nat.le_trans h.size h2.size, fun k hk hne => ?_⟩
  refine (h2.block k (Nat.lt_of_lt_of_le hk h.size) ?_).trans (h.block k hk hne)
  rcases hb with rfl | hb
  · exact hne
  · intro e
    have := hb k e.symm
    omega
/-- byte strings that were handed out, each of one mark: a slice, its length, its mark -/
structure Bk (B : Nat) (w : World) (gK : Nat) (vl vm : Value) (rows : List (Value × Nat × Nat)) : Prop where
  box : LB w gK 94 [vl, vm]
  lists : w.ownsRow B 44 1 vl rows.length (rows.map (·.1))
  marks : Wb.Own B w vm (rows.map (·.2.2))
  rws : ∀ r ∈ rows, Mg.Mk 5 (mv r.2.2) B w r.1 r.2.1
  apart : ∀ r ∈ rows, ∀ g, r.1.ownBlock = some g → vm.ownBlock ≠ some g
theorem Bk.kept {B : Nat} {w w' : World} {gK : Nat} {vl vm : Value} {rows : List (Value × Nat × Nat)} (h : Bk B w gK vl vm rows) (hb : Below w.heap.size w w') : Bk B w' gK vl vm rows := ⟨h.box.kept hb, Mg.row_kept h.lists hb, h.marks.kept hb, fun r hr => Mg.row_kept (h.rws r hr) hb, h.apart⟩
set_option maxRecDepth 100000 in
set_option maxHeartbeats 4000000 in
theorem ixwholeb_any (B gK : Nat) (vl vm : Value) (rows : List (Value × Nat × Nat)) (w : World) (h : Bk B w gK vl vm rows) (hn : rows.length ≤ 1000) :
    Calls Try.prog 46 #[.pointer (some ⟨gK, 0, none⟩)] w fun e w' => e = .returned (.bool true) ∧ Below w.heap.size w w' := by
  have H0 : Hid (∀ W, Below w.heap.size w W → Bk B W gK vl vm rows) := fun W hW => h.kept hW
  obtain ⟨al, cl, rfl, hl1, hl2⟩ := Mg.row_shape h.lists
  obtain ⟨am, cm, em, hm1, hm2, -⟩ := h.marks.bs.shape
  rw [List.length_map] at em hm1
  subst em
  unfold maxLen at hl2 hm2
  clear h
  go_enter Try.func46, Try.ntmps46
  go_wp2_with fail
  go_loopw [3] (fun i wr => ∃ k : Nat, k ≤ rows.length ∧ i = .int .i64 (k : Int) ∧ Below w.heap.size w wr) (fun i _ => rows.length - (intOf i).toNat)
  case atStart => exact ⟨0, Nat.zero_le _, rfl, Below.refl _ _⟩
  case round =>
    obtain ⟨k, hk, rfl, hbel⟩ := hrel
    by_cases hlt : k < rows.length
    · obtain ⟨r, hr⟩ : ∃ r, rows[k]? = some r := ⟨rows[k], List.getElem?_eq_getElem hlt⟩
      have hbk := H0.out _ hbel
      obtain ⟨ar, cr, er, hr1, hr2⟩ := Mg.row_shape (hbk.rws r (List.mem_of_getElem? hr))
      obtain ⟨gl, rfl⟩ : ∃ gl, al = some ⟨gl, 0, none⟩ := by
        rcases hbk.lists.2 with ⟨e, h0⟩ | ⟨gl, c', cur, e, -⟩
        · omega
        · simp only [Value.slice.injEq] at e
          exact ⟨gl, e.1⟩
      obtain ⟨gm, om, rfl⟩ : ∃ gm om, am = some ⟨gm, om, none⟩ := by
        obtain ⟨a', c', e, -, -, -, hc⟩ := hbk.marks.bs.shape
        obtain ⟨b, off, e2, -⟩ := hc (List.ne_nil_of_length_pos (by rw [List.length_map]; omega))
        simp only [Value.slice.injEq] at e
        exact ⟨b, off, e.1.trans e2⟩
      have HC : Hid (∀ W, Below w.heap.size w W → W.cell? ⟨gK, 0, none⟩ = some (.slice (some ⟨gl, 0, none⟩) rows.length cl) ∧ W.cell? ⟨gK, 1, none⟩ = some (.slice (some ⟨gm, om, none⟩) rows.length cm) ∧ W.cell? ⟨gl, k, none⟩ = some (.slice ar r.2.1 cr) ∧ W.cell? ⟨gm, om + k, none⟩ = some (.int .u8 (r.2.2 : Int)) ∧ ∀ q, q < r.2.1 → ∃ g, ar = some ⟨g, 0, none⟩ ∧ W.cell? ⟨g, q, none⟩ = some (.int .u8 (r.2.2 : Int))) := fun W hW => by
        have hb := H0.out W hW
        refine ⟨hb.box.cell 0 _ rfl, hb.box.cell 1 _ rfl, ?_, ?_, fun q hq => ?_⟩
        · have e := World.ownsRow.cellAt hb.lists k (by rw [Nat.mul_one]; omega)
          rw [e, List.getElem?_map, hr, ← er]
          rfl
        · obtain ⟨a', c', e, -, -, -, hc⟩ := hb.marks.bs.shape
          obtain ⟨b, off, e2, hcell⟩ := hc (List.ne_nil_of_length_pos (by rw [List.length_map]; omega))
          simp only [Value.slice.injEq] at e
          have e3 := e.1.trans e2
          simp only [Option.some.injEq, Addr.mk.injEq, and_true] at e3
          obtain ⟨rfl, rfl⟩ := e3
          have e4 := hcell k (by rw [List.length_map]; exact hlt)
          rw [e4]
          have e5 : (rows.map (·.2.2))[k]'(by rw [List.length_map]; exact hlt) = r.2.2 := by
            rw [List.getElem_map, (List.getElem?_eq_some_iff.1 hr).2]
          rw [e5]
        · have hrow := hb.rws r (List.mem_of_getElem? hr)
          rcases hrow.2 with ⟨e, h0⟩ | ⟨g, c', cur, e, -⟩
          · omega
          · rw [er] at e
            simp only [Value.slice.injEq] at e
            refine ⟨g, e.1, ?_⟩
            have hrow2 := hrow
            rw [er, e.1] at hrow2
            have e6 := World.ownsRow.cellAt hrow2 q (by simp [mv]; omega)
            rw [e6, Mg.pat_get _ _ _ (by simp [mv]; omega)]
            simp [mv, Nat.mod_one]
      unfold maxLen at hr2
      generalize r.2.1 = n at *
      generalize r.2.2 = m at *
      have HBL : Hid (Below w.heap.size w wr) := hbel
      obtain ⟨x0, x1, x2, -, -⟩ := HC.out _ hbel
      clear hbk er hr hbel
      go_wp2_with fail
      go_loopw [4] (fun i wr2 => ∃ q : Nat, q ≤ n ∧ i = .int .i64 (q : Int) ∧ Below w.heap.size w wr2) (fun i _ => n - (intOf i).toNat)
      case atStart => exact ⟨0, Nat.zero_le _, rfl, HBL.out⟩
      case round =>
        clear x0 x1 x2
        obtain ⟨q, hq, rfl, hbel⟩ := hrel
        obtain ⟨x0, x1, x2, x3, hx⟩ := HC.out _ hbel
        by_cases hql : q < n
        · obtain ⟨g, rfl, x4⟩ := hx q hql
          have HB3 : Hid (∀ t, Below w.heap.size w (wr.drewN t)) := fun t => bel_drewI hbel t
          have d1 : ((m : Int) != (m : Int)) = false := by simp
          clear hx hbel HBL
          go_wp2_with fail
          go_quiet (fail)
          go_wp2_with fail
          go_roundw
          case rel => exact ⟨q + 1, by omega, by go_num, HB3.out _⟩
          case measure => simp [intOf]; omega
        · obtain rfl : q = n := by omega
          have HB3 : Hid (Below w.heap.size w wr) := hbel
          clear hx hbel HBL
          go_wp2_with fail
          go_roundw
          case rel => exact ⟨k + 1, by omega, by go_num, HB3.out⟩
          case measure => simp [intOf]; omega
    · obtain rfl : k = rows.length := by omega
      have hbk := H0.out _ hbel
      have x0 := hbk.box.cell 0 _ rfl
      have HB3 : Hid (Below w.heap.size w wr) := hbel
      clear hbk hbel
      go_wp2_with fail
      go_ret
      exact ⟨rfl, HB3.out⟩
end Go.Proofs.Ytceokpklcfmadaa

/-
  IndexWrites: Bytes.take's region: what it holds at each step, in whatever order; its steps.
-/
namespace Go.Proofs.Ytceokpklcfmadaa
open Go Go.RowKit
open Wb

/-- a longer one of the same mark -/
def NewV (w1 : World) (B n m d : Nat) (lv : Value) (W : World) (v : Value) : Prop := (∃ a, ∃ c : Nat, v = .slice a (n + d) c) ∧ Mg.Mk 5 (mv m) B W v (n + d) ∧ (v.ownBlock = lv.ownBlock ∨ ∀ g, v.ownBlock = some g → w1.heap.size ≤ g)
def PTa (w1 : World) (B n m : Nat) (lv : Value) (W : World) (g32 : Nat) (v33 : Value) (a : Nat) : Prop := match a with
  | 0 => True
  | 1 => LB W g32 5 (mv m) ∧ w1.heap.size ≤ g32
  | _ => NewV w1 B n m 1 lv W v33
def PTb (w1 : World) (m : Nat) (W : World) (g37 : Nat) (b : Nat) : Prop := match b with
  | 0 => True
  | _ => LB W g37 5 [.int .u8 (m : Int), .int .u8 (m : Int)] ∧ w1.heap.size ≤ g37
def PTd (w1 : World) (m : Nat) (W : World) (g3 : Nat) (d : Nat) : Prop := match d with
  | 0 => True
  | _ => LB W g3 5 [.int .u8 (m : Int), .int .u8 (m : Int), .int .u8 (m : Int)] ∧ w1.heap.size ≤ g3
def PTc (w1 : World) (B n m : Nat) (lv : Value) (W : World) (g42 : Nat) (v33 v38 v41 : Value) (c : Nat) : Prop := match c with
  | 0 => True
  | 1 => NewV w1 B n m 2 lv W v38
  | 2 => NewV w1 B n m 2 lv W v38 ∧ NewV w1 B n m 3 lv W v41
  | _ => NewV w1 B n m 2 lv W v38 ∧ NewV w1 B n m 3 lv W v41 ∧ LB W g42 44 [lv, v33, v38, v41] ∧ w1.heap.size ≤ g42
structure PT (w1 : World) (B gK n m : Nat) (lv vl vm : Value) (a b d c : Nat) (W : World) (g32 g37 g3 g42 : Nat) (v33 v38 v41 : Value) : Prop where
  bnd : B ≤ w1.heap.size
  row : Mg.Mk 5 (mv m) B w1 lv n
  gr : w1.grownBy W lv.ownBlock
  vw : ∀ u k', Mg.Mk 5 (mv m) B w1 u k' → Mg.Mk 5 (mv m) B W u k'
  box : LB W gK 94 [vl, vm]
  fa : PTa w1 B n m lv W g32 v33 a
  fb : PTb w1 m W g37 b
  fd : PTd w1 m W g3 d
  fc : PTc w1 B n m lv W g42 v33 v38 v41 c
section
variable {w1 : World} {B gK n m : Nat} {lv vl vm : Value} {a b d c : Nat} {W W' : World} {g32 g37 g3 g42 : Nat} {v33 v38 v41 : Value}
theorem NewV.on {d : Nat} {v : Value} (h : NewV w1 B n m d lv W v) (hv : ∀ u k', Mg.Mk 5 (mv m) B W u k' → Mg.Mk 5 (mv m) B W' u k') : NewV w1 B n m d lv W' v := ⟨h.1, hv _ _ h.2.1, h.2.2⟩
/-- more of the same: all stays -/
theorem PT.on (h : PT w1 B gK n m lv vl vm a b d c W g32 g37 g3 g42 v33 v38 v41) (hg : W.grownBy W' lv.ownBlock) (hv : ∀ u k', Mg.Mk 5 (mv m) B W u k' → Mg.Mk 5 (mv m) B W' u k') : PT w1 B gK n m lv vl vm a b d c W' g32 g37 g3 g42 v33 v38 v41 := by
  have hlb : ∀ g, lv.ownBlock = some g → g < w1.heap.size := fun g e => (World.ownsRow.lt h.row g e).2
  have hne : ∀ g, w1.heap.size ≤ g → some g ≠ lv.ownBlock := fun g hge e => by have := hlb g e.symm; omega
  have keep : ∀ {g : Nat} {t : TypeId} {D : List Value}, LB W g t D → w1.heap.size ≤ g → LB W' g t D := fun L hge => (hg.block _ L.lt (hne _ hge)).trans L
  refine ⟨h.bnd, h.row, grown_on h.gr hg (.inl rfl), fun u k' hu => hv u k' (h.vw u k' hu), ?_, ?_, ?_, ?_, ?_⟩
  · refine (hg.block gK h.box.lt fun e => ?_).trans h.box
    obtain ⟨cur, h9⟩ := Mg.row_type (h.vw lv n h.row) gK e.symm
    have hb := h.box
    unfold LB at hb
    rw [hb] at h9
    simp at h9
  · have hf := h.fa
    unfold PTa at *
    split at hf
    · trivial
    · exact ⟨keep hf.1 hf.2, hf.2⟩
    · exact hf.on hv
  · have hf := h.fb
    unfold PTb at *
    split at hf
    · trivial
    · exact ⟨keep hf.1 hf.2, hf.2⟩
  · have hf := h.fd
    unfold PTd at *
    split at hf
    · trivial
    · exact ⟨keep hf.1 hf.2, hf.2⟩
  · have hf := h.fc
    unfold PTc at *
    split at hf
    · trivial
    · exact hf.on hv
    · exact ⟨hf.1.on hv, hf.2.on hv⟩
    · exact ⟨hf.1.on hv, hf.2.1.on hv, keep hf.2.2.1 hf.2.2.2, hf.2.2.2⟩
theorem PT.alloc (h : PT w1 B gK n m lv vl vm a b d c W g32 g37 g3 g42 v33 v38 v41) (o : Obj) : PT w1 B gK n m lv vl vm a b d c (W.alloc o) g32 g37 g3 g42 v33 v38 v41 := h.on ⟨rfl, rfl, rfl, (up0 W o).size, fun q hq _ => (up0 W o).block q hq⟩ fun _ _ hu => Mg.row_kept hu (up0 W o)
theorem PT.one (h : PT w1 B gK n m lv vl vm 0 b d c W g32 g37 g3 g42 v33 v38 v41) : PT w1 B gK n m lv vl vm 1 b d c (W.alloc (.cells (mv m).toArray 5)) W.heap.size g37 g3 g42 v33 v38 v41 := by
  have e := h.alloc (.cells (mv m).toArray 5)
  exact ⟨e.bnd, e.row, e.gr, e.vw, e.box, ⟨lb_new _ _ _, h.gr.size⟩, e.fb, e.fd, e.fc⟩
theorem PT.two (h : PT w1 B gK n m lv vl vm a 0 d c W g32 g37 g3 g42 v33 v38 v41) : PT w1 B gK n m lv vl vm a 1 d c (W.alloc (.cells #[.int .u8 (m : Int), .int .u8 (m : Int)] 5)) g32 W.heap.size g3 g42 v33 v38 v41 := by
  have e := h.alloc (.cells #[.int .u8 (m : Int), .int .u8 (m : Int)] 5)
  exact ⟨e.bnd, e.row, e.gr, e.vw, e.box, e.fa, ⟨lb_new W [.int .u8 (m : Int), .int .u8 (m : Int)] 5, h.gr.size⟩, e.fd, e.fc⟩
theorem PT.three (h : PT w1 B gK n m lv vl vm a b 0 c W g32 g37 g3 g42 v33 v38 v41) : PT w1 B gK n m lv vl vm a b 1 c (W.alloc (.cells #[.int .u8 (m : Int), .int .u8 (m : Int), .int .u8 (m : Int)] 5)) g32 g37 W.heap.size g42 v33 v38 v41 := by
  have e := h.alloc (.cells #[.int .u8 (m : Int), .int .u8 (m : Int), .int .u8 (m : Int)] 5)
  exact ⟨e.bnd, e.row, e.gr, e.vw, e.box, e.fa, e.fb, ⟨lb_new W [.int .u8 (m : Int), .int .u8 (m : Int), .int .u8 (m : Int)] 5, h.gr.size⟩, e.fc⟩
end
section
variable {w1 : World} {B gK n m : Nat} {lv vl vm : Value} {a b d c : Nat} {W W' : World} {g32 g37 g3 g42 : Nat} {v33 v38 v41 : Value}
variable {ops : Array Oper} {o : Oper} {ac : Act} {K : Act → World → Prop} {Q : Exit → Act → World → Prop} {E : Prop}
theorem mv_ok (m : Nat) : 0 < (mv m).length ∧ ∀ u ∈ mv m, u.oneCell' = true := ⟨Nat.one_pos, fun u hu => by simp [mv] at hu; rw [hu]; rfl⟩
/-- append of d marks onto lv -/
theorem PT.app (h : PT w1 B gK n m lv vl vm a b d c W g32 g37 g3 g42 v33 v38 v41) (hn : n ≤ 9000000) (ty : TypeId) (q gx : Nat) (hd : q ≤ 10) (hx : ∀ (j : Nat) (u : Value), (Mg.pat (mv m) q)[j]? = some u → W.cell? ⟨gx, j, none⟩ = some u) (cx : Nat) :
    ∃ v' W', (Builtin.append_ #[44, 44] ty #[lv, .slice (some ⟨gx, 0, none⟩) q cx]).run Try.prog W = .ok v' W' ∧ NewV w1 B n m q lv W' v' ∧ PT w1 B gK n m lv vl vm a b d c W' g32 g37 g3 g42 v33 v38 v41 := by
  obtain ⟨v', W', hr, h1, h2, h3, h4⟩ := Mg.append_mk (P := Try.prog) W B 5 44 ty (mv m) (.int .u8 0) 1 (mv_ok m).1 (mv_ok m).2 info5 rfl Try.underlying44 lv n q (h.vw lv n h.row) gx cx hx (by omega) (by omega) (Nat.le_trans h.bnd h.gr.size)
  refine ⟨v', W', hr, ⟨?_, h1, ?_⟩, h.on h2 h4⟩
  · obtain ⟨a9, c9, e9, -⟩ := Mg.row_shape h1
    exact ⟨a9, c9, e9⟩
  · rcases h3 with e | e
    · exact .inl e
    · exact .inr fun g eg => by
        have e9 := Option.some.inj (e.symm.trans eg)
        have := h.gr.size
        omega
theorem st_one (hgd : o.guard = none) (ho : o.op = .buildSlice 44 1 #[(0, .tmp 30)]) (hx : ac.tmps[30]?.getD undef = .int .u8 (m : Int)) (st : PT w1 B gK n m lv vl vm 0 b d c W g32 g37 g3 g42 v33 v38 v41)
    (h : ∀ W' g', PT w1 B gK n m lv vl vm 1 b d c W' g' g37 g3 g42 v33 v38 v41 → K (ac.put o.dst (.slice (some ⟨g', 0, none⟩) 1 1)) W') : if Region.wanted o (yielded ops ac.tmps) = true then Oper.wp Try.prog o ac W K Q else E := by
  rw [if_pos (by simp [Region.wanted, hgd])]
  obtain ⟨dst, op', ty, pos, after, guard⟩ := o
  simp only at ho hgd
  subst ho hgd
  have h1 := h _ _ st.one
  unfold mv at h1
  go_simp
  exact h1
theorem st_two (hgd : o.guard = none) (ho : o.op = .buildSlice 44 2 #[(0, .tmp 34), (1, .tmp 35)]) (hx : ac.tmps[34]?.getD undef = .int .u8 (m : Int)) (hy : ac.tmps[35]?.getD undef = .int .u8 (m : Int)) (st : PT w1 B gK n m lv vl vm a 0 d c W g32 g37 g3 g42 v33 v38 v41)
    (h : ∀ W' g', PT w1 B gK n m lv vl vm a 1 d c W' g32 g' g3 g42 v33 v38 v41 → K (ac.put o.dst (.slice (some ⟨g', 0, none⟩) 2 2)) W') : if Region.wanted o (yielded ops ac.tmps) = true then Oper.wp Try.prog o ac W K Q else E := by
  rw [if_pos (by simp [Region.wanted, hgd])]
  obtain ⟨dst, op', ty, pos, after, guard⟩ := o
  simp only at ho hgd
  subst ho hgd
  have h1 := h _ _ st.two
  go_simp
  exact h1
theorem st_app1 (hgd : o.guard = none) (s x : Operand) (ho : o.op = .call { callee := .builtin .append, args := #[s, x], argTypes := #[44, 44] }) (hs : ac.eval s = lv) (hx : ac.eval x = .slice (some ⟨g32, 0, none⟩) 1 1) (hn : n ≤ 9000000) (st : PT w1 B gK n m lv vl vm 1 b d 0 W g32 g37 g3 g42 v33 v38 v41)
    (h : ∀ W' b9 c9, PT w1 B gK n m lv vl vm 2 b d 0 W' g32 g37 g3 g42 (.slice b9 (n + 1) c9) v38 v41 → K (ac.put o.dst (.slice b9 (n + 1) c9)) W') : if Region.wanted o (yielded ops ac.tmps) = true then Oper.wp Try.prog o ac W K Q else E := by
  rw [if_pos (by simp [Region.wanted, hgd])]
  have hf : LB W g32 5 (mv m) := st.fa.1
  obtain ⟨v', W', hr, hv, st2⟩ := st.app hn o.type 1 g32 (by omega) (fun j u hj => hf.cell j u (by
    have e : Mg.pat (mv m) 1 = mv m := by simp [Mg.pat]
    rw [e] at hj
    exact hj)) 1
  obtain ⟨b9, c9, rfl⟩ := hv.1
  unfold Oper.wp
  simp [execOp, ho, resolve, invoke, builtin, hs, hx, hr, Result.andThen]
  exact h W' b9 c9 ⟨st2.bnd, st2.row, st2.gr, st2.vw, st2.box, hv, st2.fb, st2.fd, trivial⟩
theorem st_app2 (hgd : o.guard = none) (s x : Operand) (ho : o.op = .call { callee := .builtin .append, args := #[s, x], argTypes := #[44, 44] }) (hs : ac.eval s = lv) (hx : ac.eval x = .slice (some ⟨g37, 0, none⟩) 2 2) (hn : n ≤ 9000000) (st : PT w1 B gK n m lv vl vm 2 1 d 0 W g32 g37 g3 g42 v33 v38 v41)
    (h : ∀ W' b9 c9, PT w1 B gK n m lv vl vm 2 1 d 1 W' g32 g37 g3 g42 v33 (.slice b9 (n + 2) c9) v41 → K (ac.put o.dst (.slice b9 (n + 2) c9)) W') : if Region.wanted o (yielded ops ac.tmps) = true then Oper.wp Try.prog o ac W K Q else E := by
  rw [if_pos (by simp [Region.wanted, hgd])]
  have hf : LB W g37 5 [.int .u8 (m : Int), .int .u8 (m : Int)] := st.fb.1
  obtain ⟨v', W', hr, hv, st2⟩ := st.app hn o.type 2 g37 (by omega) (fun j u hj => hf.cell j u (by
    have e : Mg.pat (mv m) 2 = [.int .u8 (m : Int), .int .u8 (m : Int)] := by simp [Mg.pat, mv, List.replicate]
    rw [e] at hj
    exact hj)) 2
  obtain ⟨b9, c9, rfl⟩ := hv.1
  unfold Oper.wp
  simp [execOp, ho, resolve, invoke, builtin, hs, hx, hr, Result.andThen]
  exact h W' b9 c9 ⟨st2.bnd, st2.row, st2.gr, st2.vw, st2.box, st2.fa, st2.fb, st2.fd, hv⟩
theorem st_three (hgd : o.guard = none) (ho : o.op = .buildSlice 44 3 #[(0, .tmp 39), (1, .tmp 40), (2, .tmp 41)]) (hx : ac.tmps[39]?.getD undef = .int .u8 (m : Int)) (hy : ac.tmps[40]?.getD undef = .int .u8 (m : Int)) (hz : ac.tmps[41]?.getD undef = .int .u8 (m : Int)) (st : PT w1 B gK n m lv vl vm a b 0 c W g32 g37 g3 g42 v33 v38 v41)
    (h : ∀ W' g', PT w1 B gK n m lv vl vm a b 1 c W' g32 g37 g' g42 v33 v38 v41 → K (ac.put o.dst (.slice (some ⟨g', 0, none⟩) 3 3)) W') : if Region.wanted o (yielded ops ac.tmps) = true then Oper.wp Try.prog o ac W K Q else E := by
  rw [if_pos (by simp [Region.wanted, hgd])]
  obtain ⟨dst, op', ty, pos, after, guard⟩ := o
  simp only at ho hgd
  subst ho hgd
  have h1 := h _ _ st.three
  go_simp
  exact h1
theorem st_app3 (hgd : o.guard = none) (s x : Operand) (ho : o.op = .call { callee := .builtin .append, args := #[s, x], argTypes := #[44, 44] }) (hs : ac.eval s = lv) (hx : ac.eval x = .slice (some ⟨g3, 0, none⟩) 3 3) (hn : n ≤ 9000000) (st : PT w1 B gK n m lv vl vm 2 1 1 1 W g32 g37 g3 g42 v33 v38 v41)
    (h : ∀ W' b9 c9, PT w1 B gK n m lv vl vm 2 1 1 2 W' g32 g37 g3 g42 v33 v38 (.slice b9 (n + 3) c9) → K (ac.put o.dst (.slice b9 (n + 3) c9)) W') : if Region.wanted o (yielded ops ac.tmps) = true then Oper.wp Try.prog o ac W K Q else E := by
  rw [if_pos (by simp [Region.wanted, hgd])]
  have hf : LB W g3 5 [.int .u8 (m : Int), .int .u8 (m : Int), .int .u8 (m : Int)] := st.fd.1
  obtain ⟨v', W', hr, hv, st2⟩ := st.app hn o.type 3 g3 (by omega) (fun j u hj => hf.cell j u (by
    have e : Mg.pat (mv m) 3 = [.int .u8 (m : Int), .int .u8 (m : Int), .int .u8 (m : Int)] := by simp [Mg.pat, mv, List.replicate]
    rw [e] at hj
    exact hj)) 3
  obtain ⟨b9, c9, rfl⟩ := hv.1
  unfold Oper.wp
  simp [execOp, ho, resolve, invoke, builtin, hs, hx, hr, Result.andThen]
  exact h W' b9 c9 ⟨st2.bnd, st2.row, st2.gr, st2.vw, st2.box, st2.fa, st2.fb, st2.fd, st2.fc, hv⟩
theorem st_four (hgd : o.guard = none) (ho : o.op = .buildSlice 92 4 #[(0, .tmp 28), (1, .tmp 32), (2, .tmp 37), (3, .tmp 43)]) {b0 b1 b2 b3 : Option Addr} {c0 c1 c2 c3 : Nat} (h0 : ac.tmps[28]?.getD undef = .slice b0 n c0) (h1 : ac.tmps[32]?.getD undef = .slice b1 (n + 1) c1) (h2 : ac.tmps[37]?.getD undef = .slice b2 (n + 2) c2) (h3 : ac.tmps[43]?.getD undef = .slice b3 (n + 3) c3)
    (st : PT w1 B gK n m (.slice b0 n c0) vl vm 2 1 1 2 W g32 g37 g3 g42 (.slice b1 (n + 1) c1) (.slice b2 (n + 2) c2) (.slice b3 (n + 3) c3))
    (h : ∀ W' g', PT w1 B gK n m (.slice b0 n c0) vl vm 2 1 1 3 W' g32 g37 g3 g' (.slice b1 (n + 1) c1) (.slice b2 (n + 2) c2) (.slice b3 (n + 3) c3) → K (ac.put o.dst (.slice (some ⟨g', 0, none⟩) 4 4)) W') : if Region.wanted o (yielded ops ac.tmps) = true then Oper.wp Try.prog o ac W K Q else E := by
  rw [if_pos (by simp [Region.wanted, hgd])]
  obtain ⟨dst, op', ty, pos, after, guard⟩ := o
  simp only at ho hgd
  subst ho hgd
  have st2 := st.alloc (.cells #[.slice b0 n c0, .slice b1 (n + 1) c1, .slice b2 (n + 2) c2, .slice b3 (n + 3) c3] 44)
  have h9 := h _ W.heap.size ⟨st2.bnd, st2.row, st2.gr, st2.vw, st2.box, st2.fa, st2.fb, st2.fd, st2.fc.1, st2.fc.2, lb_new W [.slice b0 n c0, .slice b1 (n + 1) c1, .slice b2 (n + 2) c2, .slice b3 (n + 3) c3] 44, st.gr.size⟩
  clear h st st2
  go_simp
  exact h9
theorem st_load (hgd : o.guard = none) (ho : o.op = .load 92 (.tmp 26)) (hx : ac.tmps[26]?.getD undef = .pointer (some ⟨gK, 0, none⟩)) (st : PT w1 B gK n m lv vl vm a b d c W g32 g37 g3 g42 v33 v38 v41)
    (h : K (ac.put o.dst vl) W) : if Region.wanted o (yielded ops ac.tmps) = true then Oper.wp Try.prog o ac W K Q else E := by
  rw [if_pos (by simp [Region.wanted, hgd])]
  obtain ⟨dst, op', ty, pos, after, guard⟩ := o
  simp only at ho hgd
  subst ho hgd
  have x0 := st.box.cell 0 _ rfl
  clear st
  go_simp
  exact h
end
end Go.Proofs.Ytceokpklcfmadaa

/-
  IndexWrites: Bytes.take's region: its last steps, and what stays.
-/
namespace Go.Proofs.Ytceokpklcfmadaa
open Go Go.RowKit
open Wb

theorem infoBSA : (Try.prog.info? 44).map (fun i => (i.zero, i.size, i.bytes)) = some (some (.slice none 0 0), 1, 24) := by kernel_rfl
theorem own_keptB {B : Nat} {w w' : World} {d : Value} {l : List Nat} (h : Wb.Own B w d l) (hb : ∀ g, d.ownBlock = some g → w'.heap[g]? = w.heap[g]?) : Wb.Own B w' d l := by
  refine ⟨⟨h.row.1, ?_⟩, h.good⟩
  rcases h.row.2 with h1 | ⟨g, cap, cur, rfl, h1, hg, rest⟩
  · exact .inl h1
  · exact .inr ⟨g, cap, cur, rfl, h1, (hb g rfl).trans hg, rest⟩
theorem own_typed {B : Nat} {w : World} {d : Value} {l : List Nat} (h : Wb.Own B w d l) (b : Nat) (e : d.ownBlock = some b) : ∃ cs z, w.heap[b]? = some (.cells cs 5 z) := by
  rcases h.row.2 with ⟨e3, _⟩ | ⟨g', cap, cur, e3, _, hg', _⟩
  · rw [e3] at e; simp [Value.ownBlock] at e
  · rw [e3] at e; simp [Value.ownBlock] at e; subst e; exact ⟨_, _, hg'⟩
theorem own_block {B : Nat} {w : World} {d : Value} {l : List Nat} (h : Wb.Own B w d l) (g : Nat) (e : d.ownBlock = some g) : B ≤ g ∧ g < w.heap.size := World.ownsRow.lt h.row g e
/-- every block stays but those of F -/
structure FrK (w w' : World) (F : Nat → Prop) : Prop where
  os : w'.os = w.os
  tape : w'.tape = w.tape
  output : w'.output = w.output
  size : w.heap.size ≤ w'.heap.size
  block : ∀ k, k < w.heap.size → ¬ F k → w'.heap[k]? = w.heap[k]?
theorem FrK.trans {w w1 w2 : World} {F F2 : Nat → Prop} (h : FrK w w1 F) (h2 : FrK w1 w2 F2) (hF : ∀ k, k < w.heap.size → F2 k → F k) : FrK w w2 F :=
  ⟨h2.os.trans h.os, h2.tape.trans h.tape, h2.output.trans h.output, Nat.le_trans h.size h2.size, fun k hk hn => (h2.block k (Nat.lt_of_lt_of_le hk h.size) fun e => hn (hF k hk e)).trans (h.block k hk hn)⟩
theorem FrK.of {w w' : World} {F : Nat → Prop} {b : Option Nat} (h : w.grownBy w' b) (hb : ∀ k, k < w.heap.size → b = some k → F k) : FrK w w' F :=
  ⟨h.os, h.tape, h.output, h.size, fun k hk hn => h.block k hk fun e => hn (hb k hk e.symm)⟩
theorem FrK.refl (w : World) (F : Nat → Prop) : FrK w w F := ⟨rfl, rfl, rfl, Nat.le_refl _, fun _ _ _ => rfl⟩
theorem FrK.below {w w' : World} {F : Nat → Prop} (h : FrK w w' F) (B : Nat) (hB : B ≤ w.heap.size) (hF : ∀ k, F k → B ≤ k) : Below B w w' :=
  ⟨h.os, h.tape, h.output, h.size, fun k hk => h.block k (Nat.lt_of_lt_of_le hk hB) fun e => by have := hF k e; omega⟩
theorem FrK.set {w : World} {F : Nat → Prop} (g o : Nat) (v : Value) (hg : F g) : FrK w (w.setCell ⟨g, o, none⟩ v) F :=
  ⟨rfl, rfl, rfl, by simp [World.setCell], fun k _ hn => set_other _ _ _ _ fun e => hn (e ▸ hg)⟩
/-- the blocks that take writes -/
def TkF (gK : Nat) (vl vm lv : Value) (k : Nat) : Prop := k = gK ∨ vl.ownBlock = some k ∨ vm.ownBlock = some k ∨ lv.ownBlock = some k
/-- all that was handed out stays where another row is written -/
theorem Bk.other {B : Nat} {w w' : World} {gK : Nat} {vl vm lv : Value} {rows : List (Value × Nat × Nat)} (h : Bk B w gK vl vm rows) (ht : ∀ g, lv.ownBlock = some g → ∃ cur, w.heap[g]? = some (.cells cur 5)) (ha : ∀ r ∈ rows, ∀ g, r.1.ownBlock = some g → lv.ownBlock ≠ some g) (hm : ∀ g, vm.ownBlock = some g → lv.ownBlock ≠ some g) (hg : w.grownBy w' lv.ownBlock) : Bk B w' gK vl vm rows := by
  refine ⟨(hg.block gK h.box.lt fun e => ?_).trans h.box, Mg.row_other h.lists hg fun g e e2 => ?_, own_keptB h.marks fun g e => hg.block g (own_block h.marks g e).2 fun e2 => hm g e e2.symm, fun r hr => Mg.row_other (h.rws r hr) hg (ha r hr), h.apart⟩
  · obtain ⟨cur, h9⟩ := ht gK e.symm
    have hb := h.box
    unfold LB at hb
    rw [hb] at h9
    simp at h9
  · obtain ⟨cur, h9⟩ := ht g e2
    obtain ⟨cur2, h8⟩ := Mg.row_type h.lists g e
    rw [h8] at h9
    simp at h9
def newR (n m : Nat) (lv v33 v38 v41 : Value) : List (Value × Nat × Nat) := [(lv, n, m), (v33, n + 1, m), (v38, n + 2, m), (v41, n + 3, m)]
def NewB (w1 : World) (lv v : Value) : Prop := v.ownBlock = lv.ownBlock ∨ ∀ g, v.ownBlock = some g → w1.heap.size ≤ g
/-- what is behind the region -/
structure FT (w1 : World) (B gK n m : Nat) (lv vl vm : Value) (rows : List (Value × Nat × Nat)) (hd v33 v38 v41 v43 : Value) (W : World) : Prop where
  box : LB W gK 94 [hd, vm]
  lists : W.ownsRow B 44 1 v43 (rows.length + 4) (rows.map (·.1) ++ [lv, v33, v38, v41])
  marks : Wb.Own B W vm (rows.map (·.2.2))
  rws : ∀ r ∈ rows ++ newR n m lv v33 v38 v41, Mg.Mk 5 (mv r.2.2) B W r.1 r.2.1
  n33 : NewB w1 lv v33
  n38 : NewB w1 lv v38
  n41 : NewB w1 lv v41
  n43 : NewB w1 vl v43
  fr : FrK w1 W (TkF gK vl vm lv)
section
variable {w1 : World} {B gK n m : Nat} {lv vl vm : Value} {rows : List (Value × Nat × Nat)} {W W' : World} {g32 g37 g3 g42 : Nat} {hd v33 v38 v41 v43 : Value}
variable {ops : Array Oper} {o : Oper} {ac : Act} {K : Act → World → Prop} {Q : Exit → Act → World → Prop} {E : Prop}
theorem PT.ends (st : PT w1 B gK n m lv vl vm 2 1 1 3 W g32 g37 g3 g42 v33 v38 v41) (hk : Bk B w1 gK vl vm rows) (ha : ∀ r ∈ rows, ∀ g, r.1.ownBlock = some g → lv.ownBlock ≠ some g) (hm : ∀ g, vm.ownBlock = some g → lv.ownBlock ≠ some g) (hn : rows.length ≤ 1000) (ty : TypeId) :
    ∃ v' W', (Builtin.append_ #[92, 92] ty #[vl, .slice (some ⟨g42, 0, none⟩) 4 4]).run Try.prog W = .ok v' W' ∧ (∃ b9, ∃ c9 : Nat, v' = .slice b9 (rows.length + 4) c9) ∧ FT w1 B gK n m lv vl vm rows vl v33 v38 v41 v' W' := by
  have hkW : Bk B W gK vl vm rows := hk.other (fun g e => Mg.row_type st.row g e) ha hm st.gr
  obtain ⟨i0, hi, hq⟩ := Option.map_eq_some_iff.1 infoBSA
  simp only [Prod.mk.injEq] at hq
  have f33 : NewV w1 B n m 1 lv W v33 := st.fa
  obtain ⟨f38, f41, L42, -⟩ : NewV w1 B n m 2 lv W v38 ∧ NewV w1 B n m 3 lv W v41 ∧ LB W g42 44 [lv, v33, v38, v41] ∧ w1.heap.size ≤ g42 := st.fc
  obtain ⟨al, cl, el, -⟩ := Mg.row_shape st.row
  obtain ⟨v', W', hr, h1, h2, -, h5⟩ := run_append_own_at (P := Try.prog) W B 92 ty 44 i0 (.slice none 0 0) 1 24 Try.underlying92 hi hq.1 hq.2.1 hq.2.2 rfl (by omega) vl rows.length (rows.map (·.1)) hkW.lists ⟨g42, 0, none⟩ 4 4 [lv, v33, v38, v41] rfl (fun j u hj => by
    rw [Addr.add_lit, Nat.zero_add]
    exact L42.cell j u hj) (by
    obtain ⟨a1, c1, e1⟩ := f33.1
    obtain ⟨a2, c2, e2⟩ := f38.1
    obtain ⟨a3, c3, e3⟩ := f41.1
    intro u hu
    simp only [List.mem_cons, List.not_mem_nil, or_false] at hu
    rcases hu with rfl | rfl | rfl | rfl
    · rw [el]; rfl
    · rw [e1]; rfl
    · rw [e2]; rfl
    · rw [e3]; rfl) (by unfold maxLen; omega) (by omega) (Nat.le_trans st.bnd st.gr.size)
  refine ⟨v', W', hr, ?_, ?_, h1, ?_, ?_, f33.2.2, f38.2.2, f41.2.2, ?_, ?_⟩
  · obtain ⟨a9, c9, e9, -⟩ := Mg.row_shape h1
    exact ⟨a9, c9, e9⟩
  · refine (h2.block gK hkW.box.lt fun e => ?_).trans hkW.box
    obtain ⟨cur, h9⟩ := Mg.row_type hkW.lists gK e.symm
    have hb := hkW.box
    unfold LB at hb
    rw [hb] at h9
    simp at h9
  · refine own_keptB hkW.marks fun g e => h2.block g (own_block hkW.marks g e).2 fun e2 => ?_
    obtain ⟨cs1, z1, h8⟩ := own_typed hkW.marks g e
    obtain ⟨cs2, h9⟩ := Mg.row_type hkW.lists g e2.symm
    rw [h8] at h9
    simp at h9
  · have keep : ∀ (u : Value) (x k : Nat), Mg.Mk 5 (mv x) B W u k → Mg.Mk 5 (mv x) B W' u k := fun u x k hu => Mg.row_other hu h2 fun g e => Mg.kinds_apart hu hkW.lists (by decide) g e
    intro r hr
    rcases List.mem_append.1 hr with hr | hr
    · exact keep _ _ _ (hkW.rws r hr)
    · simp only [newR, List.mem_cons, List.not_mem_nil, or_false] at hr
      rcases hr with rfl | rfl | rfl | rfl
      · exact keep _ _ _ (st.vw lv n st.row)
      · exact keep _ _ _ f33.2.1
      · exact keep _ _ _ f38.2.1
      · exact keep _ _ _ f41.2.1
  · rcases h5 with e | e
    · exact .inl e
    · refine .inr fun g eg => ?_
      have e9 := Option.some.inj (e.symm.trans eg)
      have := st.gr.size
      omega
  · exact (FrK.of st.gr fun k _ e => .inr (.inr (.inr e))).trans (FrK.of (F := TkF gK vl vm lv) h2 fun k _ e => .inr (.inl e)) fun k _ e => e
theorem FT.store (h : FT w1 B gK n m lv vl vm rows hd v33 v38 v41 v43 W) : FT w1 B gK n m lv vl vm rows v43 v33 v38 v41 v43 (W.setCell ⟨gK, 0, none⟩ v43) := by
  have hb := h.box
  unfold LB at hb
  refine ⟨h.box.set 0 _, Mg.row_block h.lists fun g e => set_other _ _ _ _ ?_, own_keptB h.marks fun g e => set_other _ _ _ _ ?_, fun r hr => Mg.row_block (h.rws r hr) fun g e => set_other _ _ _ _ ?_, h.n33, h.n38, h.n41, h.n43, h.fr.trans (FrK.set _ _ _ (.inl rfl)) fun k _ e => e⟩
  · rintro rfl
    obtain ⟨cur, h9⟩ := Mg.row_type h.lists _ e
    rw [hb] at h9
    simp at h9
  · rintro rfl
    obtain ⟨cur, z, h9⟩ := own_typed h.marks _ e
    rw [hb] at h9
    simp at h9
  · rintro rfl
    obtain ⟨cur, h9⟩ := Mg.row_type (h.rws r hr) _ e
    rw [hb] at h9
    simp at h9
theorem st_appL (hgd : o.guard = none) (s x : Operand) (ho : o.op = .call { callee := .builtin .append, args := #[s, x], argTypes := #[92, 92] }) (hs : ac.eval s = vl) (hx : ac.eval x = .slice (some ⟨g42, 0, none⟩) 4 4) (st : PT w1 B gK n m lv vl vm 2 1 1 3 W g32 g37 g3 g42 v33 v38 v41) (hk : Bk B w1 gK vl vm rows) (ha : ∀ r ∈ rows, ∀ g, r.1.ownBlock = some g → lv.ownBlock ≠ some g) (hm : ∀ g, vm.ownBlock = some g → lv.ownBlock ≠ some g) (hn : rows.length ≤ 1000)
    (h : ∀ W' b9 c9 m9, FT w1 B gK n m lv vl vm rows vl v33 v38 v41 (.slice b9 m9 c9) W' → K (ac.put o.dst (.slice b9 m9 c9)) W') : if Region.wanted o (yielded ops ac.tmps) = true then Oper.wp Try.prog o ac W K Q else E := by
  rw [if_pos (by simp [Region.wanted, hgd])]
  obtain ⟨v', W', hr, ⟨b9, c9, rfl⟩, hf⟩ := st.ends hk ha hm hn o.type
  unfold Oper.wp
  simp [execOp, ho, resolve, invoke, builtin, hs, hx, hr, Result.andThen]
  exact h W' b9 c9 _ hf
theorem st_storeL (hgd : o.guard = none) (ho : o.op = .store 92 (.tmp 47) (.tmp 45)) (hp : ac.tmps[47]?.getD undef = .pointer (some ⟨gK, 0, none⟩)) {b9 : Option Addr} {m9 c9 : Nat} (hv : ac.tmps[45]?.getD undef = .slice b9 m9 c9) (hf : FT w1 B gK n m lv vl vm rows hd v33 v38 v41 (.slice b9 m9 c9) W)
    (h : ∀ W', FT w1 B gK n m lv vl vm rows (.slice b9 m9 c9) v33 v38 v41 (.slice b9 m9 c9) W' → K (ac.put o.dst undef) W') : if Region.wanted o (yielded ops ac.tmps) = true then Oper.wp Try.prog o ac W K Q else E := by
  rw [if_pos (by simp [Region.wanted, hgd])]
  obtain ⟨dst, op', ty, pos, after, guard⟩ := o
  simp only at ho hgd
  subst ho hgd
  have h1 := h _ hf.store
  have x0 := hf.box.cell 0 _ rfl
  have f0 := hf.box.free 0
  clear h hf
  go_simp
  exact h1
end
/-- append of bytes in a new row onto a row of the call's own: and where it lies -/
theorem wpList_app_at {P : Program} (w : World) {ops : Array Oper} {rest : List Oper} {o : Oper} {a : Act} {Q : Exit → Act → World → Prop} (hgd : o.guard = none) (s x : Operand) (t : TypeId)
    (ho : o.op = .call { callee := .builtin .append, args := #[s, x], argTypes := #[t, t] })
    (B : Nat) (hinfo : (P.info? 5).map (fun i => (i.zero, i.size, i.bytes)) = some (some (.int .u8 0), 1, 1)) (ht : P.underlying t = some (.slice 5))
    (v : Value) (l : List Nat) (hv : a.eval s = v) (h : Wb.Own B w v l) (g m c : Nat) (xs : List Nat) (hxe : a.eval x = .slice (some ⟨g, 0, none⟩) m c) (hxl : xs.length = m) (hx : w.rangeAt g 0 (bv xs)) (hok : ok xs)
    (hmax : l.length + m ≤ 100000000) (hB : B ≤ w.heap.size)
    (hK : ∀ v' w', Wb.Own B w' v' (l ++ xs) → w.grownBy w' v.ownBlock → (v'.ownBlock = v.ownBlock ∨ v'.ownBlock = some w.heap.size) → wpList P ops Q rest (a.put o.dst v') w') : wpList P ops Q (o :: rest) a w := by
  obtain ⟨i0, hi, hz0, hz1, hz2⟩ := info_parts3 hinfo
  obtain ⟨v', w', hr, h1, h2, -, h5⟩ := run_append_own_at (P := P) w B t o.type 5 i0 (.int .u8 0) 1 1 ht hi hz0 hz1 hz2 rfl (by omega) v l.length (bv l) h.row ⟨g, 0, none⟩ m c (bv xs) (by rw [bv_length]; omega) (fun j u hj => by
    rw [Addr.add_lit]
    exact hx j u hj) (bv_one xs) (by unfold maxLen; omega) (by omega) hB
  refine wpList_plain hgd fun _ hK' => ?_
  unfold Oper.wp
  simp [execOp, ho, resolve, invoke, builtin, hv, hxe, hr, Result.andThen]
  refine hK' _ _ (hK v' w' ⟨?_, ok_append h.good hok⟩ h2 h5)
  rw [List.length_append, bv_append, hxl]
  exact h1
end Go.Proofs.Ytceokpklcfmadaa
