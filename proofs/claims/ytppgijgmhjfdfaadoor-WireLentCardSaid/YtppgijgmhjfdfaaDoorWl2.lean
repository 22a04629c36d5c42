/-
  WireLent: the lists written over, and lengthened.
-/
import Derived.Test.YtppgijgmhjfdfaaDoorWl1
namespace Go.Proofs.YtppgijgmhjfdfaaDoor
open Go Go.RowKit
open Wb

theorem row_frozen {B n s cap g : Nat} {t : TypeId} {w : World} {xs : List Value} (h : w.ownsRow B t s (.slice (some ⟨g, 0, none⟩) n cap) n xs) (i : Nat) : w.frozen? ⟨g, i, none⟩ = false := by
  rcases h.2 with ⟨h1, _⟩ | ⟨g', cap', cur, h1, _, hg, _⟩
  · cases h1
  · simp only [Value.slice.injEq, Option.some.injEq, Addr.mk.injEq, and_true, true_and] at h1
    obtain ⟨rfl, rfl⟩ := h1
    unfold World.frozen?
    rw [hg]
    simp
/-- the lists: the first k written over, and i places of the next -/
structure SS (B : Nat) (w0 w : World) (o : Value) (vs : List Value) (X : Nat → List Value) (n : Nat → Nat) (k i : Nat) : Prop where
  row : w.ownsRow B 23 1 o vs.length vs
  base : ∀ (j : Nat) (v : Value), vs[j]? = some v → w.ownsRow B 25 1 v (X j).length (X j)
  apart : ∀ (i j : Nat) (v u : Value), vs[i]? = some v → vs[j]? = some u → i ≠ j → Ap v u
  mark : ∀ (j p : Nat) (x : Value), (j < k ∨ j = k ∧ p < i) → (X j)[p]? = some x → Own B w x [11 + j]
  lens : ∀ j, (X j).length = n j
  bel : Below B w0 w
  hB : B ≤ w.heap.size
theorem SS.kept {B : Nat} {w0 w w' : World} {o : Value} {vs : List Value} {X : Nat → List Value} {n : Nat → Nat} {k i : Nat} (h : SS B w0 w o vs X n k i) (hb : Below w.heap.size w w') : SS B w0 w' o vs X n k i :=
  ⟨owns_kept h.row hb, fun j v hv => owns_kept (h.base j v hv) hb, h.apart, fun j p x hj hx => (h.mark j p x hj hx).kept hb, h.lens, h.bel.trans (hb.mono h.hB), Nat.le_trans h.hB hb.size⟩
theorem SS.next {B : Nat} {w0 w : World} {o : Value} {vs : List Value} {X : Nat → List Value} {n : Nat → Nat} {k : Nat} (h : SS B w0 w o vs X n k (n k)) : SS B w0 w o vs X n (k + 1) 0 :=
  ⟨h.row, h.base, h.apart, fun j p x hj hx => by
    refine h.mark j p x ?_ hx
    have hp := (List.getElem?_eq_some_iff.1 hx).1
    have hl := h.lens j
    rcases hj with hj | hj
    · by_cases hjk : j = k
      · subst hjk
        exact .inr ⟨rfl, by omega⟩
      · exact .inl (by omega)
    · omega, h.lens, h.bel, h.hB⟩
theorem SS.put {B : Nat} {w0 w : World} {o : Value} {vs : List Value} {X : Nat → List Value} {n : Nat → Nat} {k i g cap : Nat} (h : SS B w0 w o vs X n k i) (hk : vs[k]? = some (.slice (some ⟨g, 0, none⟩) (n k) cap)) (x : Value) (hx : Own B w x [11 + k]) :
    SS B w0 (w.setCell ⟨g, i, none⟩ x) o vs (fun j => if j = k then (X k).set i x else X j) n k (i + 1) := by
  have hbk := h.base k _ hk
  have hbk' : w.ownsRow B 25 1 (.slice (some ⟨g, 0, none⟩) (n k) cap) (n k) (X k) := by rw [h.lens k] at hbk; exact hbk
  have hst := World.ownsRow.stored hbk' i x
  have hgB : B ≤ g := (World.ownsRow.lt hbk g rfl).1
  have hown : ∀ y c, Own B w y c → Own B (w.setCell ⟨g, i, none⟩ x) y c := fun y c hy => own_kept2 hy fun g' hg' => set_other w _ _ g' fun e => rows_apart hbk hy.row (by decide) g rfl (by rw [hg']; exact congrArg some e)
  refine ⟨owns_block h.row fun g' hg' => set_other w _ _ g' fun e => rows_apart h.row hbk (by decide) g' hg' (by show some g = some g'; exact congrArg some e.symm), fun j v hv => ?_, h.apart, fun j p y hj hy => ?_, fun j => ?_, h.bel.setCell (p := ⟨g, i, none⟩) hgB x, by rw [set_size]; exact h.hB⟩
  · by_cases hj : j = k
    · subst hj
      rw [hk] at hv
      obtain rfl := Option.some.inj hv
      simp only [if_true, List.length_set]
      rw [h.lens j]
      exact hst.1
    · simp only [if_neg hj]
      exact owns_block (h.base j v hv) fun g' hg' => set_other w _ _ g' fun e => h.apart j k v _ hv hk hj g' hg' (by show some g = some g'; exact congrArg some e.symm)
  · by_cases hjk : j = k
    · subst hjk
      simp only [if_true] at hy
      by_cases hpi : p = i
      · subst hpi
        rw [List.getElem?_set_self (by have := (List.getElem?_eq_some_iff.1 hy).1; simpa using this)] at hy
        obtain rfl := Option.some.inj hy
        exact hown _ _ hx
      · rw [List.getElem?_set_ne (Ne.symm hpi)] at hy
        refine hown _ _ (h.mark j p y ?_ hy)
        rcases hj with hj | hj
        · omega
        · exact .inr ⟨rfl, by omega⟩
    · simp only [if_neg hjk] at hy
      refine hown _ _ (h.mark j p y ?_ hy)
      rcases hj with hj | hj
      · exact .inl hj
      · omega
  · by_cases hj : j = k
    · subst hj
      simp only [if_true, List.length_set]
      exact h.lens j
    · simp only [if_neg hj]
      exact h.lens j
/-- the lists and the longer ones -/
structure GG (B : Nat) (w0 w : World) (o : Value) (vs : List Value) (X : Nat → List Value) (n : Nat → Nat) (gs : List Value) (Y : Nat → List Value) (m : Value) : Prop where
  more : w.ownsRow B 23 1 m gs.length gs
  mo : Ap m o
  ss : SS B w0 w o vs X n 6 0
  view : ∀ (k : Nat) (g : Value), gs[k]? = some g → w.ownsRow B 25 1 g (Y k).length (Y k) ∧ (Y k).length = n k + 70 ∧ ∀ x ∈ Y k, Own B w x [11 + k]
  ap : ∀ (i j : Nat) (g u : Value), gs[i]? = some g → vs[j]? = some u → i ≠ j → Ap g u
theorem GG.kept {B : Nat} {w0 w w' : World} {o : Value} {vs : List Value} {X : Nat → List Value} {n : Nat → Nat} {gs : List Value} {Y : Nat → List Value} {m : Value} (h : GG B w0 w o vs X n gs Y m) (hb : Below w.heap.size w w') : GG B w0 w' o vs X n gs Y m :=
  ⟨owns_kept h.more hb, h.mo, h.ss.kept hb, fun k g hg => ⟨owns_kept (h.view k g hg).1 hb, (h.view k g hg).2.1, fun x hx => ((h.view k g hg).2.2 x hx).kept hb⟩, h.ap⟩
/-- one list at work: g, of the place k, with j marks more -/
structure GW (B : Nat) (w0 ws w : World) (o : Value) (vs : List Value) (X : Nat → List Value) (n : Nat → Nat) (gs : List Value) (Y : Nat → List Value) (m : Value) (k : Nat) (g : Value) (ys : List Value) : Prop where
  gg : GG B w0 w o vs X n gs Y m
  own : w.ownsRow B 25 1 g (X k ++ ys).length (X k ++ ys)
  mark : ∀ y ∈ ys, Own B w y [11 + k]
  blk : ∀ b, g.ownBlock = some b → (∃ v, vs[k]? = some v ∧ v.ownBlock = some b) ∨ ws.heap.size ≤ b
  olds : ∀ (i : Nat) (u : Value), gs[i]? = some u → ∀ b, u.ownBlock = some b → b < ws.heap.size
  oldv : ∀ (i : Nat) (u : Value), vs[i]? = some u → ∀ b, u.ownBlock = some b → b < ws.heap.size
  sz : ws.heap.size ≤ w.heap.size
theorem GW.start {B : Nat} {w0 w : World} {o : Value} {vs : List Value} {X : Nat → List Value} {n : Nat → Nat} {gs : List Value} {Y : Nat → List Value} {m : Value} {k : Nat} {g : Value} (h : GG B w0 w o vs X n gs Y m) (hk : vs[k]? = some g) : GW B w0 w w o vs X n gs Y m k g [] :=
  ⟨h, by rw [List.append_nil]; exact h.ss.base k g hk, (fun y hy => nomatch hy), fun b hb => .inl ⟨g, hk, hb⟩, fun i u hu b hb => (World.ownsRow.lt (h.view i u hu).1 b hb).2, fun i u hu b hb => (World.ownsRow.lt (h.ss.base i u hu) b hb).2, Nat.le_refl _⟩
theorem GW.kept {B : Nat} {w0 ws w w' : World} {o : Value} {vs : List Value} {X : Nat → List Value} {n : Nat → Nat} {gs : List Value} {Y : Nat → List Value} {m : Value} {k : Nat} {g : Value} {ys : List Value} (h : GW B w0 ws w o vs X n gs Y m k g ys) (hb : Below w.heap.size w w') : GW B w0 ws w' o vs X n gs Y m k g ys :=
  ⟨h.gg.kept hb, owns_kept h.own hb, fun y hy => (h.mark y hy).kept hb, h.blk, h.olds, h.oldv, Nat.le_trans h.sz hb.size⟩
theorem GW.push {B : Nat} {w0 ws w w' : World} {o : Value} {vs : List Value} {X : Nat → List Value} {n : Nat → Nat} {gs : List Value} {Y : Nat → List Value} {m : Value} {k : Nat} {g g' : Value} {ys : List Value} {y : Value} (h : GW B w0 ws w o vs X n gs Y m k g ys) (hkl : gs.length ≤ k) (hy : Own B w y [11 + k])
    (hr : RowIs B 25 w' g' (X k ++ (ys ++ [y]))) (hg : w.grownBy w' g.ownBlock) (hat : g'.ownBlock = g.ownBlock ∨ g'.ownBlock = some w.heap.size)
    {N : Nat} (hv : Views B 25 w w' N) (hN : (X k).length ≤ N) : GW B w0 ws w' o vs X n gs Y m k g' (ys ++ [y]) := by
  have hown : ∀ z c, Own B w z c → Own B w' z c := fun z c hz => own_kept2 hz fun b hb => hg.block b (World.ownsRow.lt hz.row b hb).2 fun e => rows_apart h.own hz.row (by decide) b e.symm hb
  have hrow : ∀ u (t : TypeId) m (xs : List Value), w.ownsRow B t 1 u m xs → Ap g u → w'.ownsRow B t 1 u m xs := fun u t m xs hu ha => owns_block hu fun b hb => hg.block b (World.ownsRow.lt hu b hb).2 fun e => ha b e.symm hb
  have hbase : ∀ (j : Nat) (v : Value), vs[j]? = some v → w'.ownsRow B 25 1 v (X j).length (X j) := fun j v hvj => by
    by_cases hjk : j = k
    · subst hjk
      exact hv v (X j) (h.gg.ss.base j v hvj) hN
    · refine hrow v _ _ _ (h.gg.ss.base j v hvj) fun b hb hb' => ?_
      rcases h.blk b hb with ⟨v', hv', hvb⟩ | hb2
      · exact h.gg.ss.apart k j v' v hv' hvj (Ne.symm hjk) b hvb hb'
      · have := h.oldv j v hvj b hb'
        omega
  refine ⟨⟨hrow m _ _ _ h.gg.more (rows_apart h.own h.gg.more (by decide)), h.gg.mo, ⟨hrow o _ _ _ h.gg.ss.row (rows_apart h.own h.gg.ss.row (by decide)), hbase, h.gg.ss.apart, fun j p x hj hx => hown _ _ (h.gg.ss.mark j p x hj hx), h.gg.ss.lens, h.gg.ss.bel.trans (grown_below h.own hg h.gg.ss.hB), Nat.le_trans h.gg.ss.hB hg.size⟩, fun i u hu => ?_, h.gg.ap⟩, hr, fun z hz => ?_, fun b hb => ?_, h.olds, h.oldv, Nat.le_trans h.sz hg.size⟩
  · refine ⟨hrow u _ _ _ (h.gg.view i u hu).1 fun b hb hb' => ?_, (h.gg.view i u hu).2.1, fun x hx => hown _ _ ((h.gg.view i u hu).2.2 x hx)⟩
    rcases h.blk b hb with ⟨v', hv', hvb⟩ | hb2
    · have hik : i ≠ k := by have := (List.getElem?_eq_some_iff.1 hu).1; omega
      exact h.gg.ap i k u v' hu hv' hik b hb' hvb
    · have := h.olds i u hu b hb'
      omega
  · rcases List.mem_append.1 hz with hz | hz
    · exact hown _ _ (h.mark z hz)
    · obtain rfl := List.mem_singleton.1 hz
      exact hown _ _ hy
  · rcases hat with e | e
    · exact h.blk b (e ▸ hb)
    · rw [e] at hb
      have := Option.some.inj hb
      have := h.sz
      exact .inr (by omega)
/-- the longer list is put by -/
theorem GW.done {B : Nat} {w0 ws w w' : World} {o m m' : Value} {vs : List Value} {X : Nat → List Value} {n : Nat → Nat} {gs : List Value} {Y : Nat → List Value} {k : Nat} {g : Value} {ys : List Value} (h : GW B w0 ws w o vs X n gs Y m k g ys) (hkl : gs.length = k) (hk6 : k < 6) (hl : ys.length = 70)
    (hr : RowIs B 23 w' m' (gs ++ [g])) (hg : w.grownBy w' m.ownBlock) (hat : m'.ownBlock = m.ownBlock ∨ m'.ownBlock = some w.heap.size) : GG B w0 w' o vs X n (gs ++ [g]) (fun i => if i = k then X k ++ ys else Y i) m' := by
  have hown : ∀ z c, Own B w z c → Own B w' z c := fun z c hz => own_kept2 hz fun b hb => hg.block b (World.ownsRow.lt hz.row b hb).2 fun e => rows_apart h.gg.more hz.row (by decide) b e.symm hb
  have hts : ∀ u (xs : List Value), w.ownsRow B 25 1 u xs.length xs → w'.ownsRow B 25 1 u xs.length xs := fun u xs hu => owns_block hu fun b hb => hg.block b (World.ownsRow.lt hu b hb).2 fun e => rows_apart h.gg.more hu (by decide) b e.symm hb
  have hcase : ∀ (i : Nat) (u : Value), (gs ++ [g])[i]? = some u → (i ≠ k ∧ gs[i]? = some u) ∨ (i = k ∧ u = g) := fun i u hi => by
    by_cases hlt : i < gs.length
    · rw [List.getElem?_append_left hlt] at hi
      exact .inl ⟨by omega, hi⟩
    · rw [List.getElem?_append_right (by omega)] at hi
      have h0 : i - gs.length = 0 := by
        have := (List.getElem?_eq_some_iff.1 hi).1
        simp at this
        omega
      rw [h0] at hi
      exact .inr ⟨by omega, by simpa using hi.symm⟩
  refine ⟨hr, fun b hb hb' => ?_, ⟨owns_block h.gg.ss.row fun b hb => hg.block b (World.ownsRow.lt h.gg.ss.row b hb).2 fun e => h.gg.mo b e.symm hb, fun j v hv => hts v (X j) (h.gg.ss.base j v hv), h.gg.ss.apart, fun j p x hj hx => hown _ _ (h.gg.ss.mark j p x hj hx), h.gg.ss.lens, h.gg.ss.bel.trans (grown_below h.gg.more hg h.gg.ss.hB), Nat.le_trans h.gg.ss.hB hg.size⟩, fun i u hu => ?_, fun i j u t hu ht hij => ?_⟩
  · rcases hat with e | e
    · exact h.gg.mo b (e ▸ hb) hb'
    · rw [e] at hb
      have h1 := Option.some.inj hb
      have h2 := (World.ownsRow.lt h.gg.ss.row b hb').2
      omega
  · rcases hcase i u hu with ⟨hi, hu2⟩ | ⟨hi, hu2⟩
    · simp only [if_neg hi]
      exact ⟨hts u (Y i) (h.gg.view i u hu2).1, (h.gg.view i u hu2).2.1, fun x hx => hown _ _ ((h.gg.view i u hu2).2.2 x hx)⟩
    · subst hi hu2
      simp only [if_true]
      refine ⟨hts _ _ h.own, by rw [List.length_append, h.gg.ss.lens, hl], fun x hx => ?_⟩
      rcases List.mem_append.1 hx with hx | hx
      · obtain ⟨p, hp⟩ := List.mem_iff_getElem?.1 hx
        exact hown _ _ (h.gg.ss.mark _ p x (.inl hk6) hp)
      · exact hown _ _ (h.mark x hx)
  · rcases hcase i u hu with ⟨hi, hu2⟩ | ⟨hi, hu2⟩
    · exact h.gg.ap i j u t hu2 ht hij
    · intro b hb hb'
      rw [hu2] at hb
      rcases h.blk b hb with ⟨v', hv', hvb⟩ | hb2
      · exact h.gg.ss.apart k j v' t hv' ht (by omega) b hvb hb'
      · have := h.oldv j t ht b hb'
        omega
theorem GG.start {B : Nat} {w0 w : World} {o : Value} {vs : List Value} {X : Nat → List Value} {n : Nat → Nat} {Y : Nat → List Value} (h : SS B w0 w o vs X n 6 0) : GG B w0 w o vs X n [] Y (.slice none 0 0) :=
  ⟨World.ownsRow_nil _ _ _ _, (fun b hb => nomatch hb), h, (fun k g hg => by simp at hg), (fun i j g u hg => by simp at hg)⟩
theorem LA.ss {B : Nat} {w : World} {o : Value} {vs : List Value} {P : Nat → List (Value × List Nat)} {R : Nat → List (List Nat)} (h : LA B w o vs P R) (w0 : World) (hb : Below B w0 w) (hB : B ≤ w.heap.size) : SS B w0 w o vs (fun j => (P j).map Prod.fst) (fun j => (P j).length) 0 0 :=
  ⟨h.row, fun j v hv => by simp only [List.length_map]; exact (h.each j v hv).1.row, h.apart, fun j p x hj => by omega, fun j => by simp, hb, hB⟩
theorem sameMark (w : World) (a : Option Addr) (m c k : Nat) (z : Int) (h : Bs w (.slice a m c) [11 + k]) (hz : z = ((11 + k : Nat) : Int)) (hk : k < 6) :
    Calls Tryd.prog 13 #[.slice a m c, .slice (some ⟨w.heap.size, 0, none⟩) 1 1] (w.alloc (.cells #[.int .u8 z] 5)) fun e w'' => e = .returned (.bool true) ∧ Below w.heap.size w w'' := by
  subst hz
  exact (same_yes _ _ [11 + k] _ (h.alloc _) (Own.lit (B := 0) w [11 + k] (by intro q hq; simp at hq; omega) (Nat.zero_le _) (by simp [maxLen]) _ rfl).bs).mono fun e w'' ⟨he, hb⟩ => ⟨he, andThen (up0 _ _) hb⟩
theorem row_get {B i : Nat} {t : TypeId} {w : World} {v : Value} {xs : List Value} (h : w.ownsRow B t 1 v xs.length xs) (hi : i < xs.length) : ∃ g, ∃ c : Nat, ∃ x, v = .slice (some ⟨g, 0, none⟩) xs.length c ∧ xs.length ≤ c ∧ c ≤ maxLen ∧ xs[i]? = some x ∧ w.cell? ⟨g, i, none⟩ = some x := by
  obtain ⟨g, c, e, h1, h2, _, h4⟩ := row_cell h (by omega)
  exact ⟨g, c, xs[i], e, h1, h2, List.getElem?_eq_getElem hi, h4 i _ (List.getElem?_eq_getElem hi)⟩
end Go.Proofs.YtppgijgmhjfdfaaDoor
