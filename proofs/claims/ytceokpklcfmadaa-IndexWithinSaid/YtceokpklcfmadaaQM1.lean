import Derived.Sort.MapsRangeIn
import Derived.Test.YtceokpklcfmadaaQJ5
import Derived.Test.YtceokpklcfmadaaQJ7
import Derived.Test.YtceokpklcfmadaaQIB
import Derived.Test.YtceokpklcfmadaaQJ6
/-
  IndexMany, pure: what its containers hold.
-/
namespace Go.Proofs.Ytceokpklcfmadaa
open Go Go.RowKit
namespace Ix

/-- the first c values of the key 3 t -/
def vs (t c : Nat) : List Int := (List.range c).map fun (k : Nat) => 7 * (k : Int) + (t : Int)
theorem vs_len (t c : Nat) : (vs t c).length = c := by simp [vs]
theorem vs_succ (t c : Nat) : vs t (c + 1) = vs t c ++ [7 * (c : Int) + (t : Int)] := by
  unfold vs
  rw [List.range_succ, List.map_append]
  rfl
theorem vs_get (t c k : Nat) (h : k < (vs t c).length) : (vs t c)[k] = 7 * (k : Int) + (t : Int) := by simp [vs]
/-- the keys s, s + 1 .. with c values each -/
def seg (s len c : Nat) : Gm := (List.range' s len).map fun (t : Nat) => (3 * (t : Int), vs t c)
theorem seg_cons (s len c : Nat) : seg s (len + 1) c = (3 * (s : Int), vs s c) :: seg (s + 1) len c := rfl
theorem seg_snoc (s len c : Nat) : seg s (len + 1) c = seg s len c ++ [(3 * ((s + len : Nat) : Int), vs (s + len) c)] := by
  unfold seg
  rw [List.range'_concat, List.map_append]
  simp
theorem seg_mem {s len c : Nat} {p : Int × List Int} (h : p ∈ seg s len c) : ∃ t : Nat, s ≤ t ∧ t < s + len ∧ p = (3 * (t : Int), vs t c) := by
  obtain ⟨t, ht, rfl⟩ := List.mem_map.1 h
  rw [List.mem_range'_1] at ht
  exact ⟨t, ht.1, ht.2, rfl⟩
theorem add_mid (A B : Gm) (k v : Int) (l : List Int) (hA : ∀ p ∈ A, p.1 < k) : add (A ++ (k, l) :: B) k v = A ++ (k, l ++ [v]) :: B := by
  induction A with
  | nil => simp [add]
  | cons p r ih =>
    have h1 := hA p List.mem_cons_self
    have h2 := ih fun q hq => hA q (List.mem_cons_of_mem _ hq)
    obtain ⟨k', l'⟩ := p
    simp only at h1
    rw [List.cons_append, add, if_neg (by omega), if_neg (by omega), h2]
    rfl
/-- behind k whole rounds, the next at the key i -/
def mst (n k i : Nat) : Gm := (if k = 0 then [] else seg 1 i k) ++ seg (i + 1) (n - i) (k + 1)
theorem mst_step (n k i : Nat) (hi : i + 1 ≤ n) : add (mst n k (i + 1)) (3 * ((i + 1 : Nat) : Int)) (7 * (k : Int) + ((i + 1 : Nat) : Int)) = mst n k i := by
  have e1 : n - i = (n - (i + 1)) + 1 := by omega
  unfold mst
  by_cases hk : k = 0
  · subst hk
    rw [if_pos rfl, if_pos rfl, List.nil_append, List.nil_append, add_first, e1, seg_cons]
    · simp [vs]
    · intro p hp
      obtain ⟨t, h1, -, rfl⟩ := seg_mem hp
      simp only
      omega
  · rw [if_neg hk, if_neg hk, seg_snoc, e1, seg_cons, List.append_assoc, List.singleton_append]
    have e2 : 1 + i = i + 1 := by omega
    rw [e2, add_mid, vs_succ]
    intro p hp
    obtain ⟨t, h1, h2, rfl⟩ := seg_mem hp
    simp only
    omega
theorem mst_zero (n k : Nat) : mst n k 0 = mst n (k + 1) n := by
  unfold mst
  rw [if_neg (by omega : ¬ k + 1 = 0), Nat.sub_self]
  by_cases hk : k = 0
  · subst hk
    simp [seg]
  · rw [if_neg hk]
    simp [seg]
theorem mst_end (n m : Nat) (hm : 1 ≤ m) : mst n m n = seg 1 n m := by
  unfold mst
  rw [if_neg (by omega), Nat.sub_self]
  simp [seg]
theorem mst_begin (n : Nat) : mst n 0 n = [] := by
  unfold mst
  rw [if_pos rfl, Nat.sub_self]
  rfl
/-- the keys step, 2 step .. -/
def tl (step cnt m : Nat) : Gm := (List.range' 1 cnt).map fun (t : Nat) => (3 * ((step * t : Nat) : Int), vs (step * t) m)
theorem tl_one (n m : Nat) : tl 1 n m = seg 1 n m := by simp [tl, seg]
/-- the odd keys below i are dropped -/
def mdr (n m i : Nat) : Gm := ((List.range' 1 n).filter fun t => decide (t % 2 = 0 ∨ i ≤ t)).map fun (t : Nat) => (3 * (t : Int), vs t m)
theorem mdr_begin (n m : Nat) : mdr n m 1 = seg 1 n m := by
  unfold mdr seg
  rw [List.filter_eq_self.2]
  intro t ht
  rw [List.mem_range'_1] at ht
  simp
  omega
theorem mdr_step (n m i : Nat) (hi : i % 2 = 1) : del (mdr n m i) (3 * (i : Int)) = mdr n m (i + 2) := by
  unfold del mdr
  rw [List.filter_map, List.filter_filter]
  congr 1
  refine List.filter_congr fun t _ => ?_
  simp only [Function.comp]
  rw [Bool.eq_iff_iff]
  simp
  omega
theorem mdr_rising (n m i : Nat) : rising (mdr n m i) := by
  unfold mdr rising
  rw [List.pairwise_map]
  refine List.Pairwise.imp (R := fun a b => a < b) (fun {a b} h => by omega) (List.Pairwise.filter _ List.pairwise_lt_range')
theorem mdr_get (n m i : Nat) (h1 : 1 ≤ i) (h2 : i ≤ n) : get (mdr n m i) (3 * (i : Int)) = vs i m := by
  refine get_mem (mdr_rising n m i) (List.mem_map.2 ⟨i, List.mem_filter.2 ⟨List.mem_range'_1.2 ⟨h1, by omega⟩, by simp⟩, rfl⟩)
theorem evens : ∀ (c : Nat) (s : Nat), s % 2 = 1 → (List.range' s (2 * c)).filter (fun t => decide (t % 2 = 0)) = (List.range' ((s + 1) / 2) c).map fun t => 2 * t
  | 0, s, _ => rfl
  | c + 1, s, hs => by
    have e : 2 * (c + 1) = (2 * c + 1) + 1 := by omega
    rw [e, List.range'_succ, List.range'_succ, List.range'_succ, List.filter_cons, List.filter_cons, if_neg (by simp; omega), if_pos (by simp; omega), List.map_cons]
    have h := evens c (s + 1 + 1) (by omega)
    have e1 : (s + 1 + 1 + 1) / 2 = (s + 1) / 2 + 1 := by omega
    rw [e1] at h
    rw [h]
    congr 1
    omega
theorem mdr_end (n m i : Nat) (hi : n < i) : mdr n m i = tl 2 (n / 2) m := by
  have h1 : (List.range' 1 n).filter (fun t => decide (t % 2 = 0 ∨ i ≤ t)) = (List.range' 1 n).filter (fun t => decide (t % 2 = 0)) := List.filter_congr fun t ht => by
    rw [List.mem_range'_1] at ht
    rw [Bool.eq_iff_iff]
    simp
    omega
  have h2 : (List.range' 1 n).filter (fun t => decide (t % 2 = 0)) = (List.range' 1 (n / 2)).map fun t => 2 * t := by
    have h3 := evens (n / 2) 1 rfl
    rcases Nat.mod_two_eq_zero_or_one n with h4 | h4
    · have e : n = 2 * (n / 2) := by omega
      rw [← e] at h3
      exact h3
    · have e : n = 2 * (n / 2) + 1 := by omega
      have e2 : List.range' 1 n = List.range' 1 (2 * (n / 2)) ++ [1 + 2 * (n / 2)] := by
        conv => lhs; rw [e]
        rw [List.range'_concat]
        simp
      rw [e2, List.filter_append, h3]
      simp
  unfold mdr tl
  rw [h1, h2, List.map_map]
  rfl
/-- the same in numbers -/
def nvs (t c : Nat) : List Nat := (List.range c).map fun k => 7 * k + t
def tle (step cnt m : Nat) : List (Nat × List Nat) := (List.range' 1 cnt).map fun (t : Nat) => (3 * (step * t), nvs (step * t) m)
theorem gm_tle (step cnt m : Nat) : gm (tle step cnt m) = tl step cnt m := by
  unfold gm tle tl
  rw [List.map_map]
  refine List.map_congr_left fun t _ => ?_
  simp only [Function.comp, nvs, vs, nums, List.map_map]
  refine Prod.ext (by simp) ?_
  refine List.map_congr_left fun k _ => ?_
  simp
theorem okO_from : ∀ (c s t : Nat) (f : Bool) (off : Nat), off ≤ 7 * s + t → (f = false → off < 7 * s + t) → 7 * (s + c) + t ≤ 9223372036854775807 → okO f off ((List.range' s c).map fun k => 7 * k + t)
  | 0, s, t, f, off, _, _, _ => trivial
  | c + 1, s, t, f, off, h1, h2, h3 => by
    rw [List.range'_succ, List.map_cons]
    exact ⟨h1, h2, by omega, okO_from c (s + 1) t false (7 * s + t) (by omega) (fun _ => by omega) (by omega)⟩
theorem okK_from : ∀ (cnt s step m key : Nat), key < 3 * (step * s) → 1 ≤ step → step ≤ 2 → s + cnt ≤ 10000 → 1 ≤ m → m ≤ 100000 → okK key ((List.range' s cnt).map fun (t : Nat) => (3 * (step * t), nvs (step * t) m))
  | 0, s, step, m, key, _, _, _, _, _, _ => trivial
  | cnt + 1, s, step, m, key, h1, h2, h3, h4, h5, h6 => by
    rw [List.range'_succ, List.map_cons]
    have hb : step * s ≤ 20000 := by
      have := Nat.mul_le_mul h3 (show s ≤ 10000 by omega)
      omega
    have hn : step * (s + 1) = step * s + step := Nat.mul_succ _ _
    refine ⟨h1, by omega, ?_, ?_, okK_from cnt (s + 1) step m _ (by rw [hn]; omega) h2 h3 (by omega) h5 h6⟩
    · intro e
      have := congrArg List.length e
      simp [nvs] at this
      omega
    · unfold nvs
      rw [List.range_eq_range']
      exact okO_from m 0 (step * s) true 0 (by omega) (fun h => by cases h) (by omega)
theorem tle_ok (step cnt m : Nat) (h2 : 1 ≤ step) (h3 : step ≤ 2) (h4 : cnt ≤ 3000) (h5 : 1 ≤ m) (h6 : m ≤ 100000) : okK 0 (tle step cnt m) := okK_from cnt 1 step m 0 (by omega) h2 h3 (by omega) h5 h6
theorem wrK_le2 (M : Nat) (hM : M ≤ 100000) : ∀ (es : List (Nat × List Nat)) (key : Nat), okK key es → (∀ p ∈ es, p.2.length ≤ M) → (wrK key es).length ≤ es.length * (20 + 10 * M)
  | [], _, _, _ => by simp [wrK]
  | (k, xs) :: r, key, h, hb => by
    have h1 := wrK_le2 M hM r k h.2.2.2.2 fun p hp => hb p (List.mem_cons_of_mem _ hp)
    have h2 := Wn.uint_len10 (k - key) (by have := h.2.1; omega)
    have h3 : xs.length ≤ M := hb (k, xs) List.mem_cons_self
    have h4 := Wn.uint_len10 xs.length (by omega)
    have h5 := wrO_le xs true 0 h.2.2.2.1
    rw [wrK_app, List.length_append, List.length_append, List.length_append, List.length_cons, Nat.succ_mul]
    omega
theorem tle_len (step cnt m : Nat) : (tle step cnt m).length = cnt ∧ ∀ p ∈ tle step cnt m, p.2.length = m := by
  refine ⟨by simp [tle], fun p hp => ?_⟩
  obtain ⟨t, -, rfl⟩ := List.mem_map.1 hp
  simp [nvs]
theorem wrI_tle (step cnt m : Nat) (h2 : 1 ≤ step) (h3 : step ≤ 2) (h4 : cnt ≤ 3000) (h5 : 1 ≤ m) (h6 : m ≤ 400) (h7 : cnt * m ≤ 20000) : (wrI (tle step cnt m)).length ≤ 1000000 := by
  have h1 := wrK_le2 m (by omega) (tle step cnt m) 0 (tle_ok step cnt m h2 h3 h4 h5 (by omega)) fun p hp => Nat.le_of_eq ((tle_len step cnt m).2 p hp)
  have h8 := Wn.uint_len10 (tle step cnt m).length (by rw [(tle_len step cnt m).1]; omega)
  unfold wrI
  rw [List.length_append]
  rw [(tle_len step cnt m).1] at h1 h8 ⊢
  rw [Nat.mul_add, Nat.mul_left_comm] at h1
  omega
theorem tl_total (step cnt m : Nat) : total (tl step cnt m) = cnt * m := by
  unfold total tl
  rw [List.map_map]
  have e : (List.range' 1 cnt).map ((fun p : Int × List Int => p.2.length) ∘ fun (t : Nat) => (3 * ((step * t : Nat) : Int), vs (step * t) m)) = List.replicate cnt m := by
    rw [List.eq_replicate_iff]
    refine ⟨by simp, fun b hb => ?_⟩
    obtain ⟨t, -, rfl⟩ := List.mem_map.1 hb
    simp [vs_len]
  rw [e, List.sum_replicate_nat]
theorem tl_rising (step cnt m : Nat) (h : 1 ≤ step) : rising (tl step cnt m) := by
  unfold tl rising
  rw [List.pairwise_map]
  refine List.Pairwise.imp (R := fun a b => a < b) (fun {a b} hab => ?_) List.pairwise_lt_range'
  have : step * a < step * b := Nat.mul_lt_mul_of_pos_left hab (by omega)
  simp only
  omega
theorem tl_get (step cnt m t : Nat) (h : 1 ≤ step) (h1 : 1 ≤ t) (h2 : t ≤ cnt) : get (tl step cnt m) (3 * ((step * t : Nat) : Int)) = vs (step * t) m :=
  get_mem (tl_rising step cnt m h) (List.mem_map.2 ⟨t, List.mem_range'_1.2 ⟨h1, by omega⟩, rfl⟩)
theorem tl_keys (step cnt m : Nat) : (tl step cnt m).map (·.1) = (List.range' 1 cnt).map fun (t : Nat) => 3 * ((step * t : Nat) : Int) := by
  unfold tl
  rw [List.map_map]
  rfl
theorem tl_len (step cnt m : Nat) : (tl step cnt m).length = cnt := by simp [tl]
theorem tl_mem {step cnt m : Nat} {p : Int × List Int} (h : p ∈ tl step cnt m) : ∃ t : Nat, 1 ≤ t ∧ t ≤ cnt ∧ p = (3 * ((step * t : Nat) : Int), vs (step * t) m) := by
  obtain ⟨t, ht, rfl⟩ := List.mem_map.1 h
  rw [List.mem_range'_1] at ht
  exact ⟨t, ht.1, by omega, rfl⟩
/-- how many lie within -/
theorem tl_within (step cnt m a c : Nat) (lo hi : Int) (hc : a + c ≤ cnt) (h1 : ∀ t : Nat, 1 ≤ t → t ≤ cnt → ((lo ≤ 3 * ((step * t : Nat) : Int) ∧ 3 * ((step * t : Nat) : Int) ≤ hi) ↔ a + 1 ≤ t ∧ t ≤ a + c)) : total (within (tl step cnt m) lo hi) = c * m := by
  have e : within (tl step cnt m) lo hi = (List.range' (1 + a) c).map fun (t : Nat) => (3 * ((step * t : Nat) : Int), vs (step * t) m) := by
    unfold within tl
    rw [List.filter_map]
    congr 1
    have hr : List.range' 1 cnt = List.range' 1 a ++ (List.range' (1 + a) c ++ List.range' (1 + a + c) (cnt - a - c)) := by
      rw [List.range'_append_1, List.range'_append_1]
      congr 1
      omega
    rw [hr, List.filter_append, List.filter_append]
    have q1 : ∀ t, t ∈ List.range' 1 a → ((fun p : Int × List Int => decide (lo ≤ p.1 ∧ p.1 ≤ hi)) ∘ fun (t : Nat) => (3 * ((step * t : Nat) : Int), vs (step * t) m)) t = false := fun t ht => by
      rw [List.mem_range'_1] at ht
      have := h1 t ht.1 (by omega)
      simp only [Function.comp, decide_eq_false_iff_not]
      rw [this]
      omega
    have q2 : ∀ t, t ∈ List.range' (1 + a) c → ((fun p : Int × List Int => decide (lo ≤ p.1 ∧ p.1 ≤ hi)) ∘ fun (t : Nat) => (3 * ((step * t : Nat) : Int), vs (step * t) m)) t = true := fun t ht => by
      rw [List.mem_range'_1] at ht
      have := h1 t (by omega) (by omega)
      simp only [Function.comp, decide_eq_true_eq]
      rw [this]
      omega
    have q3 : ∀ t, t ∈ List.range' (1 + a + c) (cnt - a - c) → ((fun p : Int × List Int => decide (lo ≤ p.1 ∧ p.1 ≤ hi)) ∘ fun (t : Nat) => (3 * ((step * t : Nat) : Int), vs (step * t) m)) t = false := fun t ht => by
      rw [List.mem_range'_1] at ht
      have := h1 t (by omega) (by omega)
      simp only [Function.comp, decide_eq_false_iff_not]
      rw [this]
      omega
    rw [List.filter_eq_nil_iff.2 fun t ht => by rw [q1 t ht]; simp, List.filter_eq_self.2 q2, List.filter_eq_nil_iff.2 fun t ht => by rw [q3 t ht]; simp]
    simp
  rw [e]
  unfold total
  rw [List.map_map]
  have e2 : (List.range' (1 + a) c).map ((fun p : Int × List Int => p.2.length) ∘ fun (t : Nat) => (3 * ((step * t : Nat) : Int), vs (step * t) m)) = List.replicate c m := by
    rw [List.eq_replicate_iff]
    refine ⟨by simp, fun b hb => ?_⟩
    obtain ⟨t, -, rfl⟩ := List.mem_map.1 hb
    simp [vs_len]
  rw [e2, List.sum_replicate_nat]
end Ix
end Go.Proofs.Ytceokpklcfmadaa

/-
  IndexMany: told: what it holds in its ranges.
-/
namespace Go.Proofs.Ytceokpklcfmadaa
open Go Go.RowKit Go.ChangeShapes
open Wb

/-- the iterator's boxes -/
def TItB (W : World) (g m : Nat) (lo hi : Int) : Prop := LB W m 23 [.pointer (some ⟨g, 0, none⟩)] ∧ LB W (m + 1) 3 [.int .i64 lo] ∧ LB W (m + 2) 3 [.int .i64 hi]
/-- the result's box, boxes of numbers, the iterator's boxes -/
structure TS (w : World) (B8 : Nat) (bs : List (Nat × Int)) (g mA : Nat) (lo hi : Int) (W : World) : Prop where
  bel : Below w.heap.size w W
  res : LB W B8 4 [.bool false]
  r0 : w.heap.size ≤ B8
  bx : ∀ p ∈ bs, LB W p.1 3 [.int .i64 p.2] ∧ w.heap.size ≤ p.1 ∧ p.1 ≠ mA + 1 ∧ p.1 ≠ mA + 2
  it : TItB W g mA lo hi
section
variable {w : World} {B8 : Nat} {bs : List (Nat × Int)} {g mA : Nat} {lo hi : Int} {W W' : World}
theorem lb_nonc {W W' : World} {q : Nat} {t : TypeId} {D : List Value} {row : Option Nat} (h : LB W q t D) (hg : W.grownBy W' row) (hr : ∀ r, row = some r → ∃ o : Obj, W.heap[r]? = some o ∧ o.isCells = false) : LB W' q t D := h.other' hg fun e => by
  obtain ⟨o, h1, h2⟩ := hr _ e
  unfold LB at h
  rw [h] at h1
  obtain rfl := Option.some.inj h1
  cases h2
theorem TS.kept (h : TS w B8 bs g mA lo hi W) (hb : Below W.heap.size W W') : TS w B8 bs g mA lo hi W' :=
  ⟨andThen h.bel hb, h.res.kept hb, h.r0, fun p hp => ⟨(h.bx p hp).1.kept hb, (h.bx p hp).2⟩, h.it.1.kept hb, h.it.2.1.kept hb, h.it.2.2.kept hb⟩
theorem TS.nonc (h : TS w B8 bs g mA lo hi W) {Z : Nat} (hw : w.heap.size ≤ Z) {row : Option Nat} (hg : W.grownBy W' row) (hr : ∀ r, row = some r → Z ≤ r ∧ ∃ o : Obj, W.heap[r]? = some o ∧ o.isCells = false) : TS w B8 bs g mA lo hi W' := by
  have hr2 : ∀ r, row = some r → ∃ o : Obj, W.heap[r]? = some o ∧ o.isCells = false := fun r e => (hr r e).2
  exact ⟨h.bel.grown hg h.bel.size fun k e => Nat.le_trans hw (hr k e).1, lb_nonc h.res hg hr2, h.r0, fun p hp => ⟨lb_nonc (h.bx p hp).1 hg hr2, (h.bx p hp).2⟩, lb_nonc h.it.1 hg hr2, lb_nonc h.it.2.1 hg hr2, lb_nonc h.it.2.2 hg hr2⟩
/-- a box is written -/
theorem TS.set (h : TS w B8 bs g mA lo hi W) {B : Nat} {x y : Int} (hB : (B, x) ∈ bs) (bs' : List (Nat × Int)) (hb' : ∀ p ∈ bs', p = (B, y) ∨ (p ∈ bs ∧ p.1 ≠ B)) : TS w B8 bs' g mA lo hi (W.setCell ⟨B, 0, none⟩ (.int .i64 y)) := by
  obtain ⟨L, h1, h2, h3⟩ := h.bx _ hB
  have far : ∀ {q : Nat} {t : TypeId} {D : List Value}, LB W q t D → q ≠ B → LB (W.setCell ⟨B, 0, none⟩ (.int .i64 y)) q t D := fun {q t D} Lq hne => (show _ = _ from set_other _ _ _ _ hne).trans Lq
  have kind : ∀ {q : Nat} {t : TypeId} {D : List Value}, LB W q t D → t ≠ 3 → q ≠ B := fun {q t D} Lq ht e => by
    subst e
    unfold LB at L Lq
    rw [L] at Lq
    simp at Lq
    exact ht Lq.2.symm
  refine ⟨h.bel.setCell (p := ⟨B, 0, none⟩) h1 _, far h.res (kind h.res (by decide)), h.r0, fun p hp => ?_, far h.it.1 (kind h.it.1 (by decide)), far h.it.2.1 (Ne.symm h2), far h.it.2.2 (Ne.symm h3)⟩
  rcases hb' p hp with rfl | ⟨h4, h5⟩
  · exact ⟨L.set 0 _, h1, h2, h3⟩
  · exact ⟨far (h.bx p h4).1 h5, (h.bx p h4).2⟩
end
theorem kpI_set (fx : Nat → Prop) (tb : TypeId) (W : World) (B : Nat) (v : Value) (h : fx B) : KpI fx tb W (W.setCell ⟨B, 0, none⟩ v) :=
  ⟨rfl, rfl, rfl, by simp [World.setCell], fun k _ _ _ e _ hn => (set_other _ _ _ _ fun e2 : k = B => hn (by rw [e2]; exact h)).trans e⟩
/-- the last key so far -/
def lastK (pre : List PI) : Int := ((pre.map fun q : PI => q.1.1).getLast?).getD 0
theorem lastK_snoc (pre : List PI) (x : PI) : lastK (pre ++ [x]) = x.1.1 := by simp [lastK]
/-- how many keys are above 0 -/
def posK (pre : List PI) : Nat := (pre.filter fun q : PI => decide (0 < q.1.1)).length
theorem posK_snoc (pre : List PI) (x : PI) : posK (pre ++ [x]) = posK pre + (if 0 < x.1.1 then 1 else 0) := by
  unfold posK
  rw [List.filter_append, List.length_append]
  by_cases h : 0 < x.1.1
  · simp [h]
  · simp [h]
theorem posK_all (pre : List PI) (h : ∀ x ∈ pre, 0 < x.1.1) : posK pre = pre.length := by
  unfold posK
  rw [List.filter_eq_self.2 fun x hx => by simpa using h x hx]
def IT1 (w : World) (B8 B14 B15 g mA : Nat) (lo hi : Int) (pre : List PI) (W : World) : Prop := TS w B8 [(B14, (pre.length : Int)), (B15, lastK pre)] g mA lo hi W
def IXT1 (c : Code) (pre : List PI) (_W : World) : Prop := c = .ret ∧ ∃ (pre0 : List PI) (x : PI), pre = pre0 ++ [x] ∧ (x.1.1 < lastK pre0 ∨ x.1.2 < 1)
def IT2 (w : World) (B8 B14 B15 B18 : Nat) (s1 l1 : Int) (g mA : Nat) (lo hi : Int) (D1 : Nat) (pre : List PI) (W : World) : Prop := TS w B8 [(B18, (posK pre : Int)), (B14, s1), (B15, l1)] g mA lo hi W ∧ W.heap[D1]? = some (.deferred (some []))
def IXT2 (_c : Code) (_pre : List PI) (_W : World) : Prop := False
theorem IT1_own {w : World} {B8 B14 B15 g mA : Nat} {lo hi : Int} {Z : Nat} (hw : w.heap.size ≤ Z) : OwnFrom Z (IT1 w B8 B14 B15 g mA lo hi) := by
  rintro s A A' row h hg hr
  exact TS.nonc h hw hg hr
theorem IXT1_own (Z : Nat) (c : Code) : OwnFrom Z (IXT1 c) := fun _ _ _ _ h _ _ => h
theorem IT2_own {w : World} {B8 B14 B15 B18 : Nat} {s1 l1 : Int} {g mA : Nat} {lo hi : Int} {D1 : Nat} {Z : Nat} (hw : w.heap.size ≤ Z) (hD : D1 < Z) : OwnFrom Z (IT2 w B8 B14 B15 B18 s1 l1 g mA lo hi D1) := by
  rintro s A A' row ⟨h1, h2⟩ hg hr
  refine ⟨h1.nonc hw hg hr, (hg.block D1 (Array.getElem?_eq_some_iff.1 h2).1 fun e => ?_).trans h2⟩
  have := (hr D1 e.symm).1
  omega
theorem IXT2_own (Z : Nat) (c : Code) : OwnFrom Z (IXT2 c) := fun _ _ _ _ h _ _ => h
/-- rising keys and values from 1 on: no range is left -/
theorem no_bad {kvs : Ix.Gm} {lo hi : Int} (hs : (prs (within kvs lo hi)).Pairwise (fun p q => p.1 ≤ q.1)) (hv : ∀ x ∈ prs (within kvs lo hi), 0 < x.1 ∧ 1 ≤ x.2) {pre0 : List PI} {x : PI} (hSp : (pre0 ++ [x]).map (fun q : PI => q.1) <+: prs (within kvs lo hi)) : ¬ (x.1.1 < lastK pre0 ∨ x.1.2 < 1) := by
  have hx := hv x.1 (hSp.subset (List.mem_map.2 ⟨x, by simp, rfl⟩))
  rintro (h | h)
  · have h9 : ((pre0 ++ [x]).map (fun q : PI => q.1)).Pairwise (fun p q => p.1 ≤ q.1) := by
      obtain ⟨t, ht⟩ := hSp
      rw [← ht, List.pairwise_append] at hs
      exact hs.1
    rw [List.map_append, List.pairwise_append] at h9
    unfold lastK at h
    cases hl : (pre0.map fun q : PI => q.1.1).getLast? with
    | none =>
      rw [hl] at h
      simp at h
      omega
    | some k =>
      rw [hl] at h
      simp only [Option.getD_some] at h
      have hm := List.mem_of_getLast? hl
      obtain ⟨y, hy, rfl⟩ := List.mem_map.1 hm
      have := h9.2.2 y.1 (List.mem_map.2 ⟨y, hy, rfl⟩) x.1 (by simp)
      omega
  · omega
end Go.Proofs.Ytceokpklcfmadaa
