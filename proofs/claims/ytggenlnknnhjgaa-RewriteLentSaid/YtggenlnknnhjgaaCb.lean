/-
  Blocks and what their elements are: lists of one mark each, however they are lengthened.
-/
import Derived.Test.YtggenlnknnhjgaaMg1
namespace Go.Proofs.Ytggenlnknnhjgaa
open Go Go.RowKit
namespace Cb
/-- what a block's first n elements are -/
structure Cl where
  e : TypeId
  c : Nat
  ok : List Value → Prop
  cap : Nat
  n : Nat
structure Has (w : World) (b : Nat) (k : Cl) : Prop where
  ex : ∃ cur, w.heap[b]? = some (.cells cur k.e) ∧ cur.size = k.cap * k.c ∧ ∀ j, j < k.n → k.ok ((cur.toList.drop (j * k.c)).take k.c)
  nc : k.n ≤ k.cap
  cm : k.cap ≤ maxLen
  c0 : 0 < k.c
def Col (w : World) (C : Nat → Option Cl) : Prop := ∀ b k, C b = some k → Has w b k
/-- only more is said -/
def Ext (C C' : Nat → Option Cl) : Prop := ∀ b k, C b = some k → ∃ n, k.n ≤ n ∧ C' b = some { k with n := n }
/-- a slice of such elements -/
def Vw (C : Nat → Option Cl) (e : TypeId) (c : Nat) (ok : List Value → Prop) (v : Value) (n : Nat) : Prop := (v = .slice none 0 0 ∧ n = 0) ∨ ∃ b cap m, v = .slice (some ⟨b, 0, none⟩) n cap ∧ n ≤ m ∧ C b = some ⟨e, c, ok, cap, m⟩
section
variable {w w' : World} {C C' C2 : Nat → Option Cl} {e : TypeId} {c n : Nat} {ok : List Value → Prop} {v : Value}
theorem Ext.refl (C : Nat → Option Cl) : Ext C C := fun _ k h => ⟨k.n, Nat.le_refl _, h⟩
theorem Ext.trans (h : Ext C C') (h2 : Ext C' C2) : Ext C C2 := fun b k hb => by
  obtain ⟨n, h3, h4⟩ := h b k hb
  obtain ⟨m, h5, h6⟩ := h2 b _ h4
  exact ⟨m, Nat.le_trans h3 h5, h6⟩
theorem Ext.some (h : Ext C C') {b : Nat} (hb : C b ≠ none) : C' b ≠ none := by
  obtain ⟨k, hk⟩ := Option.ne_none_iff_exists'.1 hb
  obtain ⟨n, -, h2⟩ := h b k hk
  rw [h2]
  simp
theorem Vw.ext (h : Vw C e c ok v n) (hx : Ext C C') : Vw C' e c ok v n := by
  rcases h with h | ⟨b, cap, m, h1, h2, h3⟩
  · exact .inl h
  · obtain ⟨m', h4, h5⟩ := hx b _ h3
    exact .inr ⟨b, cap, m', h1, Nat.le_trans h2 h4, h5⟩
theorem Vw.nil : Vw C e c ok (.slice none 0 0) 0 := .inl ⟨rfl, rfl⟩
theorem Has.lt {b : Nat} {k : Cl} (h : Has w b k) : b < w.heap.size := by
  obtain ⟨cur, h1, -⟩ := h.ex
  exact (Array.getElem?_eq_some_iff.1 h1).1
theorem Col.lt (h : Col w C) {b : Nat} (hb : C b ≠ none) : b < w.heap.size := by
  obtain ⟨k, hk⟩ := Option.ne_none_iff_exists'.1 hb
  exact (h b k hk).lt
theorem Col.none (w : World) : Col w fun _ => none := fun b k h => by cases h
theorem Has.blk {b : Nat} {k : Cl} (h : Has w b k) (hb : w'.heap[b]? = w.heap[b]?) : Has w' b k := by
  obtain ⟨cur, h1, h2⟩ := h.ex
  exact ⟨⟨cur, hb.trans h1, h2⟩, h.nc, h.cm, h.c0⟩
theorem Col.blk (h : Col w C) (hb : ∀ b, C b ≠ Option.none → w'.heap[b]? = w.heap[b]?) : Col w' C := fun b k hk => (h b k hk).blk (hb b (by rw [hk]; simp))
theorem Col.kept (h : Col w C) (hb : Below w.heap.size w w') : Col w' C := h.blk fun b hk => hb.block b (h.lt hk)
theorem Vw.sh (h : Vw C e c ok v n) (hC : Col w C) : ∃ a cap, v = .slice a n cap ∧ n ≤ cap ∧ cap ≤ maxLen := by
  rcases h with ⟨rfl, rfl⟩ | ⟨b, cap, m, h1, h2, h3⟩
  · exact ⟨Option.none, 0, rfl, Nat.le_refl _, Nat.zero_le _⟩
  · have h4 := hC b _ h3
    exact ⟨_, cap, h1, Nat.le_trans h2 h4.nc, h4.cm⟩
theorem Vw.blk (h : Vw C e c ok v n) {q : Nat} (hq : v.ownBlock = some q) : C q ≠ Option.none := by
  rcases h with ⟨rfl, rfl⟩ | ⟨b, cap, m, rfl, h2, h3⟩
  · cases hq
  · obtain rfl : b = q := by simpa [Value.ownBlock] using hq
    rw [h3]
    simp
/-- what stands there -/
theorem Vw.read (h : Vw C e c ok v n) (hC : Col w C) (j : Nat) (hj : j < n) : ∃ b cap x, v = .slice (some ⟨b, 0, Option.none⟩) n cap ∧ x.length = c ∧ ok x ∧ ∀ i, i < c → w.cell? ⟨b, j * c + i, Option.none⟩ = x[i]? := by
  rcases h with ⟨rfl, rfl⟩ | ⟨b, cap, m, h1, h2, h3⟩
  · omega
  · have h4 := hC b _ h3
    obtain ⟨cur, h5, h6, h7⟩ := h4.ex
    have hnc := h4.nc
    have hjc : (j + 1) * c ≤ cap * c := Nat.mul_le_mul_right c (by show j + 1 ≤ cap; have : m ≤ cap := hnc; omega)
    rw [Nat.add_mul] at hjc
    have h6' : cur.size = cap * c := h6
    refine ⟨b, cap, (cur.toList.drop (j * c)).take c, h1, ?_, h7 j (by show j < m; omega), fun i hi => ?_⟩
    · rw [List.length_take, List.length_drop, Array.length_toList]
      omega
    · rw [List.getElem?_take, if_pos hi, List.getElem?_drop, cell_of_row w b (j * c + i) cur e (0, 0) h5]
      simp
/-- a row that nothing is said of yet -/
theorem Col.paint {B : Nat} {xs : List Value} (h : Col w C) (hr : w.ownsRow B e c v n xs) (hc : 0 < c) (hx : ∀ j, j < n → ok ((xs.drop (j * c)).take c)) (hn : ∀ q, v.ownBlock = some q → C q = Option.none) : ∃ C', Col w C' ∧ Ext C C' ∧ Vw C' e c ok v n ∧ ∀ q, C' q ≠ Option.none → C q ≠ Option.none ∨ v.ownBlock = some q := by
  rcases hr.2 with ⟨h1, h2⟩ | ⟨g, cap, cur, h1, -, h2, h3, h4, h5, h6⟩
  · exact ⟨C, h, Ext.refl C, .inl ⟨h1, h2⟩, fun q hq => .inl hq⟩
  · have hg : v.ownBlock = some g := by rw [h1]; rfl
    have hC := hn g hg
    refine ⟨fun q => if q = g then some ⟨e, c, ok, cap, n⟩ else C q, fun b k hb => ?_, fun b k hb => ?_, .inr ⟨g, cap, n, h1, Nat.le_refl _, if_pos rfl⟩, fun q hq => ?_⟩
    · (try dsimp only at hb)
      by_cases hbg : b = g
      · subst hbg
        rw [if_pos rfl] at hb
        cases hb
        refine ⟨⟨cur, h2, h5, fun j hj => ?_⟩, h3, h4, hc⟩
        have h9 := hx j hj
        rw [← h6, List.drop_take, List.take_take] at h9
        have hjn : (j + 1) * c ≤ n * c := Nat.mul_le_mul_right c hj
        rw [Nat.add_mul] at hjn
        rw [Nat.min_eq_left (by omega)] at h9
        exact h9
      · rw [if_neg hbg] at hb
        exact h b k hb
    · have hbg : b ≠ g := fun e2 => by rw [e2, hC] at hb; cases hb
      exact ⟨k.n, Nat.le_refl _, by (try dsimp only); rw [if_neg hbg]; exact hb⟩
    · (try dsimp only at hq)
      by_cases hbg : q = g
      · rw [hbg]
        exact .inr hg
      · rw [if_neg hbg] at hq
        exact .inl hq
theorem Has.chg {b : Nat} {cur : Array Value} {k : Cl} (hg : w.heap[b]? = some (.cells cur k.e)) (h1 : cur.size = k.cap * k.c) (h2 : ∀ j, j < k.n → k.ok ((cur.toList.drop (j * k.c)).take k.c)) (nc : k.n ≤ k.cap) (cm : k.cap ≤ maxLen) (c0 : 0 < k.c) : Has w b k := ⟨⟨cur, hg, h1, h2⟩, nc, cm, c0⟩
/-- what an append leaves -/
structure App (C : Nat → Option Cl) (w w' : World) (e : TypeId) (c : Nat) (ok : List Value → Prop) (v' : Value) (n : Nat) (C' : Nat → Option Cl) : Prop where
  col : Col w' C'
  ext : Ext C C'
  vw : Vw C' e c ok v' n
  os : w'.os = w.os
  tape : w'.tape = w.tape
  output : w'.output = w.output
  size : w.heap.size ≤ w'.heap.size
  block : ∀ k, k < w.heap.size → C k = Option.none → w'.heap[k]? = w.heap[k]?
  new : ∀ q, C' q ≠ Option.none → C q ≠ Option.none ∨ w.heap.size ≤ q
theorem drop_at (c j n : Nat) (l x r : List Value) (hl : l.length = n * c) (hx : x.length = c) (hj : j < n) : ((l ++ x ++ r).drop (j * c)).take c = (l.drop (j * c)).take c := by
  have h2 : (j + 1) * c ≤ n * c := Nat.mul_le_mul_right c hj
  rw [Nat.add_mul] at h2
  rw [List.append_assoc, List.drop_append_of_le_length (by omega), List.take_append_of_le_length (by rw [List.length_drop]; omega)]
theorem drop_new (c n : Nat) (l x r : List Value) (hl : l.length = n * c) (hx : x.length = c) : ((l ++ x ++ r).drop (n * c)).take c = x := by
  rw [List.append_assoc, ← hl, List.drop_left, ← hx, List.take_left]
theorem drop_later (c j n : Nat) (cur x : List Value) (hx : x.length = c) (hj : n < j) (hn : (n + 1) * c ≤ cur.length) : ((cur.take (n * c) ++ x ++ cur.drop (n * c + c)).drop (j * c)).take c = (cur.drop (j * c)).take c := by
  have h2 : (n + 1) * c ≤ j * c := Nat.mul_le_mul_right c hj
  rw [Nat.add_mul] at h2 hn
  have hl : (cur.take (n * c) ++ x).length = n * c + c := by rw [List.length_append, List.length_take, hx]; omega
  rw [List.drop_append, List.drop_of_length_le (by omega), List.nil_append, hl, List.drop_drop, show n * c + c + (j * c - (n * c + c)) = j * c by omega]
theorem Col.app {P : Program} (h : Col w C) (hv : Vw C e c ok v n) (t ty : TypeId) (z : Value) (by_ : Nat) (hinfo : (P.info? e).map (fun i => (i.zero, i.size, i.bytes)) = some (some z, c, by_)) (hz : z.cells.size = c) (hc : 0 < c) (ht : P.underlying t = some (.slice e))
    (g k : Nat) (x : List Value) (hxl : x.length = c) (hx : ok x) (hone : ∀ u ∈ x, u.oneCell' = true) (hcell : ∀ j u, x[j]? = some u → w.cell? ⟨g, j, Option.none⟩ = some u) (hmax : n ≤ 100000000) (hby : by_ ≤ 1000) :
    ∃ v' w' C', (Builtin.append_ #[t, t] ty #[v, .slice (some ⟨g, 0, Option.none⟩) 1 k]).run P w = .ok v' w' ∧ App C w w' e c ok v' (n + 1) C' := by
  obtain ⟨i0, hi, hq⟩ := Option.map_eq_some_iff.1 hinfo
  simp only [Prod.mk.injEq] at hq
  obtain ⟨hz0, hs0, hb0⟩ := hq
  subst hs0
  have hnews : ∀ j u, x[j]? = some u → w.cell? ((⟨g, 0, Option.none⟩ : Addr).add j) = some u := fun j u hj => by
    rw [Addr.add_lit, Nat.zero_add]
    exact hcell j u hj
  have hbound : (n + 1) * i0.bytes ≤ 140737488355328 := by
    have h1 : (n + 1) * i0.bytes ≤ 100000001 * 1000 := Nat.mul_le_mul (by omega) (by rw [hb0]; exact hby)
    omega
  have h63 : n + 1 ≤ maxLen := by unfold maxLen; omega
  have grown : ∀ (old : Nat) (l : List Value), l.length = n * i0.size → (∀ j, j < n → ok ((l.drop (j * i0.size)).take i0.size)) → App C w (w.drew.alloc (.cells (l.toArray ++ x.toArray ++ Builtin.zeroCells z.cells (grownCap w (n + 1) old e - (n + 1))) e)) e i0.size ok (.slice (some ⟨w.heap.size, 0, Option.none⟩) (n + 1) (grownCap w (n + 1) old e)) (n + 1) (fun q => if q = w.heap.size then some ⟨e, i0.size, ok, grownCap w (n + 1) old e, n + 1⟩ else C q) := by
    intro old l hl hlk
    have hge := grownCap_ge w (n + 1) old e
    have hcm : grownCap w (n + 1) old e ≤ maxLen := grownCap_le_maxLen w (n + 1) old e h63
    have hne : ∀ b, C b ≠ Option.none → b ≠ w.heap.size := fun b hb e2 => by have := h.lt hb; omega
    refine ⟨fun b k' hb => ?_, fun b k' hb => ?_, .inr ⟨_, _, n + 1, rfl, Nat.le_refl _, if_pos rfl⟩, rfl, rfl, rfl, by simp, fun q hq _ => heap_alloc_old w.drew _ hq, fun q hq => ?_⟩
    · (try dsimp only at hb)
      by_cases hbg : b = w.heap.size
      · subst hbg
        rw [if_pos rfl] at hb
        cases hb
        refine ⟨⟨_, heap_alloc_new w.drew _, ?_, fun j hj => ?_⟩, hge, hcm, hc⟩
        · simp only [Array.size_append, List.size_toArray, size_zeroCells, hz, hl, hxl]
          rw [← Nat.succ_mul, ← Nat.add_mul]
          congr 1
          omega
        · simp only [Array.toList_append]
          have hj2 : j < n + 1 := hj
          by_cases hjn : j < n
          · rw [drop_at i0.size j n l x _ hl hxl hjn]
            exact hlk j hjn
          · obtain rfl : j = n := by omega
            rw [drop_new i0.size j l x _ hl hxl]
            exact hx
      · rw [if_neg hbg] at hb
        exact (h b k' hb).blk (heap_alloc_old w.drew _ (h b k' hb).lt)
    · exact ⟨k'.n, Nat.le_refl _, by (try dsimp only); rw [if_neg (hne b (by rw [hb]; simp))]; exact hb⟩
    · (try dsimp only at hq)
      by_cases hbg : q = w.heap.size
      · exact .inr (by omega)
      · rw [if_neg hbg] at hq
        exact .inl hq
  rcases hv with ⟨rfl, rfl⟩ | ⟨b, cap, m, rfl, hm, hC⟩
  · have hr := run_append_nil (P := P) w t ty e i0 z ht hi hz0 ⟨g, 0, Option.none⟩ 1 k x (by rw [Nat.one_mul]; exact hxl) hnews (by omega) (by omega) (by rw [hb0, Nat.one_mul]; omega)
    have hgr := grown 0 [] (by simp) (fun j hj => by omega)
    simp only [Array.empty_append, Nat.zero_add] at hgr hr ⊢
    exact ⟨_, _, _, hr, hgr⟩
  · have hH := h b _ hC
    obtain ⟨cur, c1, c2, c3⟩ := hH.ex
    have hmc : m ≤ cap := hH.nc
    have c1' : w.heap[b]? = some (.cells cur e) := c1
    have c2' : cur.size = cap * i0.size := c2
    have hlen : (cur.toList.take (n * i0.size)).length = n * i0.size := by
      have := Nat.mul_le_mul_right i0.size (Nat.le_trans hm hmc)
      rw [List.length_take, Array.length_toList]
      omega
    have hpre : ∀ j, j < n → ok (((cur.toList.take (n * i0.size)).drop (j * i0.size)).take i0.size) := fun j hj => by
      have h2 : (j + 1) * i0.size ≤ n * i0.size := Nat.mul_le_mul_right _ hj
      rw [Nat.add_mul] at h2
      rw [List.drop_take, List.take_take, Nat.min_eq_left (by omega)]
      exact c3 j (by show j < m; omega)
    by_cases hroom : n + 1 ≤ cap
    · have hfit0 : (n + 1) * i0.size ≤ cap * i0.size := Nat.mul_le_mul_right _ hroom
      have hfit : n * i0.size + x.length ≤ cur.size := by rw [hxl, c2', ← Nat.succ_mul]; exact hfit0
      have hr := run_append_room (P := P) w t ty e i0 ht hi b n cap cur c1' ⟨g, 0, Option.none⟩ 1 k x (by rw [Nat.one_mul]; exact hxl) hnews hone hroom hfit
      rw [hxl] at hr
      refine ⟨_, _, fun q => if q = b then some ⟨e, i0.size, ok, cap, max m (n + 1)⟩ else C q, hr, fun q k' hq => ?_, fun q k' hq => ?_, .inr ⟨b, cap, max m (n + 1), rfl, Nat.le_max_right _ _, if_pos rfl⟩, rfl, rfl, rfl, by simp, fun q hq hn => setRow_other w b q _ fun e2 => ?_, fun q hq => ?_⟩
      · (try dsimp only at hq)
        by_cases hqb : q = b
        · subst hqb
          rw [if_pos rfl] at hq
          cases hq
          refine ⟨⟨_, setRow_heap w q cur _ e _ c1', ?_, fun j hj => ?_⟩, Nat.max_le.2 ⟨hmc, hroom⟩, hH.cm, hc⟩
          · simp only [List.size_toArray, List.length_append, List.length_drop, Array.length_toList, hlen, hxl]
            rw [Nat.add_mul, Nat.one_mul] at hfit0
            omega
          · have hj2 : j < max m (n + 1) := hj
            simp only [] at hj2 ⊢
            by_cases hjn : j < n
            · rw [drop_at i0.size j n _ x _ hlen hxl hjn]
              exact hpre j hjn
            by_cases hje : j = n
            · subst hje
              rw [drop_new i0.size j _ x _ hlen hxl]
              exact hx
            · rw [drop_later i0.size j n cur.toList x hxl (by omega) (by rw [Array.length_toList, c2']; exact hfit0)]
              exact c3 j (by show j < m; omega)
        · rw [if_neg hqb] at hq
          exact (h q k' hq).blk (setRow_other w b q _ hqb)
      · by_cases hqb : q = b
        · subst hqb
          rw [hC] at hq
          cases hq
          exact ⟨max m (n + 1), Nat.le_max_left _ _, if_pos rfl⟩
        · exact ⟨k'.n, Nat.le_refl _, by (try dsimp only); rw [if_neg hqb]; exact hq⟩
      · rw [e2, hC] at hn
        cases hn
      · by_cases hqb : q = b
        · rw [hqb, hC]
          exact .inl (by simp)
        · (try dsimp only at hq)
          rw [if_neg hqb] at hq
          exact .inl hq
    · have holds : ∀ j u, (cur.toList.take (n * i0.size))[j]? = some u → w.cell? ((⟨b, 0, Option.none⟩ : Addr).add j) = some u := fun j u hj => by
        rw [Addr.add_lit, Nat.zero_add, cell_of_row w b j cur e (0, 0) c1']
        rw [List.getElem?_take] at hj
        split at hj
        · simpa using hj
        · cases hj
      have hr := run_append_grow (P := P) w t ty e i0 z ht hi hz0 ⟨b, 0, Option.none⟩ n cap _ hlen holds ⟨g, 0, Option.none⟩ 1 k x (by rw [Nat.one_mul]; exact hxl) hnews (by omega) (by unfold maxLen at h63; omega) (growslice_fits (by omega) hbound)
      exact ⟨_, _, _, hr, grown cap _ hlen hpre⟩
end
end Cb
end Go.Proofs.Ytggenlnknnhjgaa
