/-
  LiftAgain: records in a row of their own, each one's data in a row of its own, all apart.
-/
import Derived.Test.YtggenlnknnhjgaaLu5
import Derived.Laws.OwnMore
namespace Go.Proofs.Ytggenlnknnhjgaa
open Go Go.RowKit
open Wb

structure Rws (B : Nat) (w : World) (v : Value) (ps : List (Rec × Value)) : Prop where
  recs : Outs B w v ps
  own : ∀ p ∈ ps, Own B w p.2 p.1.l
  apart : ∀ (i j : Nat) (p q : Rec × Value), ps[i]? = some p → ps[j]? = some q → i ≠ j → ∀ g, p.2.ownBlock = some g → q.2.ownBlock ≠ some g
  row : ∀ p ∈ ps, ∀ g, v.ownBlock = some g → p.2.ownBlock ≠ some g
theorem off_block {d : Value} {l : List Nat} {g : Nat} (h : d.ownBlock ≠ some g) : Off g d l := fun _ b off n cap e hb => h (by rw [e, ← hb]; rfl)
theorem own_kept2 {B : Nat} {w w' : World} {d : Value} {l : List Nat} (h : Own B w d l) (hb : ∀ g, d.ownBlock = some g → w'.heap[g]? = w.heap[g]?) : Own B w' d l := by
  refine ⟨⟨h.row.1, ?_⟩, h.good⟩
  rcases h.row.2 with h1 | ⟨g, cap, cur, rfl, h1, hg, rest⟩
  · exact .inl h1
  · exact .inr ⟨g, cap, cur, rfl, h1, (hb g rfl).trans hg, rest⟩
theorem Rws.nil (B : Nat) (w : World) : Rws B w (.slice none 0 0) [] := ⟨Outs.nil _ _, (fun _ h => nomatch h), (fun i j p q h => by simp at h), (fun _ h => nomatch h)⟩
theorem Rws.kept {B : Nat} {w w' : World} {v : Value} {ps : List (Rec × Value)} (h : Rws B w v ps) (hb : Below w.heap.size w w') : Rws B w' v ps := ⟨h.recs.kept hb, fun p hp => (h.own p hp).kept hb, h.apart, h.row⟩
/-- one more record -/
theorem Rws.more {B n0 : Nat} {w w' : World} {v v' : Value} {ps : List (Rec × Value)} (h : Rws B w v ps) (p : Rec × Value) (h1 : Outs B w' v' (ps ++ [p])) (h2 : w.grownBy w' v.ownBlock) (h3 : v'.ownBlock = v.ownBlock ∨ v'.ownBlock = some w.heap.size)
    (hp : Own n0 w p.2 p.1.l) (hB : B ≤ n0) (hn : ∀ q ∈ ps, ∀ g, q.2.ownBlock = some g → g < n0) (hv : ∀ g, v.ownBlock = some g → g < n0) : Rws B w' v' (ps ++ [p]) := by
  have hpl : ∀ g, p.2.ownBlock = some g → n0 ≤ g ∧ g < w.heap.size := fun g hg => World.ownsRow.lt hp.row g hg
  have hnew : ∀ g, v'.ownBlock = some g → v.ownBlock = some g ∨ w.heap.size = g := fun g hg => by
    rcases h3 with e | e
    · exact .inl (e ▸ hg)
    · exact .inr (Option.some.inj (e.symm.trans hg))
  have hkeep : ∀ (q : Rec × Value) b, Own b w q.2 q.1.l → (∀ g, v.ownBlock = some g → q.2.ownBlock ≠ some g) → Own b w' q.2 q.1.l := fun q b hq hne => own_kept2 hq fun g hg => h2.block g (World.ownsRow.lt hq.row g hg).2 fun e => hne g e.symm hg
  have hprow : ∀ g, v.ownBlock = some g → p.2.ownBlock ≠ some g := fun g hg e => by
    have := (hpl g e).1
    have := hv g hg
    omega
  refine ⟨h1, fun q hq => ?_, fun i j q s hi hj hij g hg hs => ?_, fun q hq g hg e => ?_⟩
  · rcases List.mem_append.1 hq with hq | hq
    · exact hkeep q B (h.own q hq) (h.row q hq)
    · obtain rfl := List.mem_singleton.1 hq
      exact (hkeep _ n0 hp hprow).mono hB
  · have hcase : ∀ (k : Nat) (q : Rec × Value), (ps ++ [p])[k]? = some q → ps[k]? = some q ∨ (k = ps.length ∧ q = p) := fun k q hk => by
      by_cases hlt : k < ps.length
      · rw [List.getElem?_append_left hlt] at hk
        exact .inl hk
      · rw [List.getElem?_append_right (by omega)] at hk
        have h0 : k - ps.length = 0 := by
          have := (List.getElem?_eq_some_iff.1 hk).1
          simp at this
          omega
        rw [h0] at hk
        exact .inr ⟨by omega, by simpa using hk.symm⟩
    rcases hcase i q hi with hi1 | ⟨hi1, hq1⟩
    · rcases hcase j s hj with hj1 | ⟨hj1, hs1⟩
      · exact h.apart i j q s hi1 hj1 hij g hg hs
      · rw [hs1] at hs
        have := hn q (List.mem_of_getElem? hi1) g hg
        have := (hpl g hs).1
        omega
    · rcases hcase j s hj with hj1 | ⟨hj1, hs1⟩
      · rw [hq1] at hg
        have := hn s (List.mem_of_getElem? hj1) g hs
        have := (hpl g hg).1
        omega
      · exact hij (hi1.trans hj1.symm)
  · rcases List.mem_append.1 hq with hq | hq
    · rcases hnew g hg with e1 | e1
      · exact h.row q hq g e1 e
      · have := (World.ownsRow.lt (h.own q hq).row g e).2
        omega
    · obtain rfl := List.mem_singleton.1 hq
      rcases hnew g hg with e1 | e1
      · exact hprow g e1 e
      · have := (hpl g e).2
        omega
/-- a number of a record is turned: 0 V, 1 Kind, 2 Saga, 3 Step -/
def numT (j : Nat) (z : Int) (r : Rec) : Rec := if j = 0 then ⟨{ r.x with v := z }, r.nm, r.l⟩ else if j = 1 then ⟨{ r.x with k := z }, r.nm, r.l⟩ else if j = 2 then ⟨{ r.x with s := z }, r.nm, r.l⟩ else ⟨{ r.x with p := z }, r.nm, r.l⟩
theorem rcl_num (j : Nat) (hj : j ≤ 3) (z : Int) (p : Rec × Value) : rcl (numT j z p.1, p.2) = (rcl p).set j (.int .i64 z) := by
  obtain rfl | rfl | rfl | rfl : j = 0 ∨ j = 1 ∨ j = 2 ∨ j = 3 := by omega
  all_goals rfl
theorem flat_set : ∀ (ps : List (Rec × Value)) (i : Nat) (_ : i < ps.length) (q : Rec × Value) (j : Nat) (_ : j < 12) (u : Value), (∀ p, ps[i]? = some p → rcl q = (rcl p).set j u) → (ps.set i q).flatMap rcl = (ps.flatMap rcl).set (i * 12 + j) u
  | p :: ps, 0, _, q, j, hj, u, h => by
    rw [List.set_cons_zero, List.flatMap_cons, List.flatMap_cons, h p rfl, List.set_append_left _ _ (by show 0 * 12 + j < 12; omega)]
    simp
  | p :: ps, i + 1, hi, q, j, hj, u, h => by
    rw [List.set_cons_succ, List.flatMap_cons, List.flatMap_cons, List.set_append_right _ _ (by show 12 ≤ _; omega), flat_set ps i (by simpa using hi) q j hj u (fun p hp => h p (by simpa using hp))]
    rw [show (i + 1) * 12 + j - (rcl p).length = i * 12 + j by show (i + 1) * 12 + j - 12 = _; omega]
theorem get_set_cases {α : Type} {l : List α} {i k : Nat} {a b : α} (h : (l.set i a)[k]? = some b) : (k = i ∧ b = a) ∨ (k ≠ i ∧ l[k]? = some b) := by
  rw [List.getElem?_set] at h
  by_cases hk : i = k
  · rw [if_pos hk] at h
    by_cases hl : k < l.length
    · rw [if_pos (by omega)] at h
      exact .inl ⟨hk.symm, (Option.some.inj h).symm⟩
    · rw [if_neg (by omega)] at h
      cases h
  · rw [if_neg hk] at h
    exact .inr ⟨fun e => hk e.symm, h⟩
/-- a record's number is turned in its row -/
theorem Rws.num {B : Nat} {w : World} {g cap : Nat} {ps : List (Rec × Value)} (h : Rws B w (.slice (some ⟨g, 0, none⟩) ps.length cap) ps) (i j : Nat) (hi : i < ps.length) (hj : j ≤ 3) (z : Int) :
    Rws B (w.setCell ⟨g, i * 12 + j, none⟩ (.int .i64 z)) (.slice (some ⟨g, 0, none⟩) ps.length cap) (ps.set i (numT j z ps[i].1, ps[i].2)) := by
  have hpi : ps[i]? = some ps[i] := List.getElem?_eq_getElem hi
  have hst := (World.ownsRow.stored h.recs.1 (i * 12 + j) (.int .i64 z)).1
  have hfl : (ps.set i (numT j z ps[i].1, ps[i].2)).flatMap rcl = (ps.flatMap rcl).set (i * 12 + j) (.int .i64 z) := flat_set ps i hi _ j (by omega) _ (fun p hp => by
    obtain rfl : ps[i] = p := Option.some.inj (hpi.symm.trans hp)
    exact rcl_num j hj z _)
  have hnl : (numT j z ps[i].1).l = ps[i].1.l := by unfold numT; split; rfl; split; rfl; split <;> rfl
  have hmem : ∀ q ∈ ps.set i (numT j z ps[i].1, ps[i].2), ∃ p ∈ ps, q.2 = p.2 ∧ q.1.l = p.1.l := fun q hq => by
    obtain ⟨k, hk⟩ := List.mem_iff_getElem?.1 hq
    rcases get_set_cases hk with ⟨_, rfl⟩ | ⟨_, hk⟩
    · exact ⟨ps[i], List.getElem_mem hi, rfl, hnl⟩
    · exact ⟨q, List.mem_of_getElem? hk, rfl, rfl⟩
  have hown : ∀ p ∈ ps, Own B (w.setCell ⟨g, i * 12 + j, none⟩ (.int .i64 z)) p.2 p.1.l := fun p hp => own_kept2 (h.own p hp) fun g' hg' => set_other w _ _ g' fun e => h.row p hp g rfl (hg'.trans (congrArg some e))
  refine ⟨⟨?_, fun q hq => ?_⟩, fun q hq => ?_, fun a b q s ha hb hab g' hg' => ?_, fun q hq g' hg' => ?_⟩
  · rw [hfl, List.length_set]
    exact hst
  · obtain ⟨p, hp, e1, e2⟩ := hmem q hq
    rw [e1, e2]
    exact ⟨(hown p hp).bs, fun g' hg' => off_block (h.row p hp g' hg')⟩
  · obtain ⟨p, hp, e1, e2⟩ := hmem q hq
    rw [e1, e2]
    exact hown p hp
  · have hc : ∀ (k : Nat) (q : Rec × Value), (ps.set i (numT j z ps[i].1, ps[i].2))[k]? = some q → ∃ p, ps[k]? = some p ∧ q.2 = p.2 := fun k q hk => by
      rcases get_set_cases hk with ⟨rfl, rfl⟩ | ⟨_, hk⟩
      · exact ⟨ps[k], hpi, rfl⟩
      · exact ⟨q, hk, rfl⟩
    obtain ⟨p1, hp1, e1⟩ := hc a q ha
    obtain ⟨p2, hp2, e2⟩ := hc b s hb
    rw [e2]
    exact h.apart a b p1 p2 hp1 hp2 hab g' (e1 ▸ hg')
  · obtain ⟨p, hp, e1, _⟩ := hmem q hq
    rw [e1]
    exact h.row p hp g' hg'
/-- a byte of a record's data is turned -/
theorem Own.put {B : Nat} {w : World} {g n cap : Nat} {l : List Nat} (h : Own B w (.slice (some ⟨g, 0, none⟩) l.length cap) l) (k b : Nat) (_hk : k < l.length) (hb : b < 256) (_hn : n = l.length) : Own B (w.setCell ⟨g, k, none⟩ (.int .u8 (b : Int))) (.slice (some ⟨g, 0, none⟩) l.length cap) (l.set k b) := by
  have hst := (World.ownsRow.stored h.row k (.int .u8 (b : Int))).1
  have e : (bv l).set k (.int .u8 (b : Int)) = bv (l.set k b) := by unfold bv; rw [List.map_set]
  rw [e] at hst
  refine ⟨?_, fun x hx => ?_⟩
  · rw [List.length_set]
    exact hst
  · rcases List.mem_or_eq_of_mem_set hx with hx | hx
    · exact h.good x hx
    · omega
theorem Rws.byte {B : Nat} {w : World} {v : Value} {g cap : Nat} {ps : List (Rec × Value)} (h : Rws B w v ps) (i k b : Nat) (r : Rec) (hi : ps[i]? = some (r, .slice (some ⟨g, 0, none⟩) r.l.length cap)) (hk : k < r.l.length) (hb : b < 256) :
    Rws B (w.setCell ⟨g, k, none⟩ (.int .u8 (b : Int))) v (ps.set i (⟨r.x, r.nm, r.l.set k b⟩, .slice (some ⟨g, 0, none⟩) r.l.length cap)) := by
  have hil : i < ps.length := (List.getElem?_eq_some_iff.1 hi).1
  have hpm : (r, Value.slice (some ⟨g, 0, none⟩) r.l.length cap) ∈ ps := List.mem_of_getElem? hi
  have hput := Own.put (h.own _ hpm) k b hk hb rfl
  have hcases : ∀ q ∈ ps.set i (⟨r.x, r.nm, r.l.set k b⟩, .slice (some ⟨g, 0, none⟩) r.l.length cap), q = (⟨r.x, r.nm, r.l.set k b⟩, .slice (some ⟨g, 0, none⟩) r.l.length cap) ∨ ∃ j, j ≠ i ∧ ps[j]? = some q := fun q hq => by
    obtain ⟨j, hj⟩ := List.mem_iff_getElem?.1 hq
    rcases get_set_cases hj with ⟨_, e⟩ | ⟨hne, hj⟩
    · exact .inl e
    · exact .inr ⟨j, hne, hj⟩
  have hother : ∀ j q, j ≠ i → ps[j]? = some q → Own B (w.setCell ⟨g, k, none⟩ (.int .u8 (b : Int))) q.2 q.1.l := fun j q hne hj => own_kept2 (h.own q (List.mem_of_getElem? hj)) fun g' hg' => set_other w _ _ g' fun e => h.apart j i q _ hj hi hne g' hg' (by rw [e]; rfl)
  have hfl : (ps.set i (⟨r.x, r.nm, r.l.set k b⟩, .slice (some ⟨g, 0, none⟩) r.l.length cap)).flatMap rcl = ps.flatMap rcl := by
    rw [flat_set ps i hil _ 11 (by decide) (.slice (some ⟨g, 0, none⟩) r.l.length cap) (fun p hp => by
      obtain rfl : (r, Value.slice (some ⟨g, 0, none⟩) r.l.length cap) = p := Option.some.inj (hi.symm.trans hp)
      rfl)]
    refine List.ext_getElem? fun m => ?_
    rw [List.getElem?_set]
    by_cases hm : i * 12 + 11 = m
    · rw [if_pos hm, ← hm, rcls_get ps i hil 11 (by decide)]
      have e : ps[i] = (r, .slice (some ⟨g, 0, none⟩) r.l.length cap) := (List.getElem?_eq_some_iff.1 hi).2
      have hlt : i * 12 + 11 < (ps.flatMap rcl).length := by rw [rcls_len]; omega
      rw [if_pos hlt, e]
      rfl
    · rw [if_neg hm]
  have hrow : (w.setCell ⟨g, k, none⟩ (.int .u8 (b : Int))).ownsRow B 25 12 v ps.length (ps.flatMap rcl) := by
    refine ⟨h.recs.1.1, ?_⟩
    rcases h.recs.1.2 with h1 | ⟨g', cap', cur, rfl, h1, hg, rest⟩
    · exact .inl h1
    · exact .inr ⟨g', cap', cur, rfl, h1, (set_other w _ _ g' fun e => h.row _ hpm g' rfl (by rw [e]; rfl)).trans hg, rest⟩
  have hbl : ∀ q ∈ ps.set i (⟨r.x, r.nm, r.l.set k b⟩, .slice (some ⟨g, 0, none⟩) r.l.length cap), ∃ p ∈ ps, q.2 = p.2 := fun q hq => by
    rcases hcases q hq with rfl | ⟨j, _, hj⟩
    · exact ⟨_, hpm, rfl⟩
    · exact ⟨q, List.mem_of_getElem? hj, rfl⟩
  have hall : ∀ q ∈ ps.set i (⟨r.x, r.nm, r.l.set k b⟩, .slice (some ⟨g, 0, none⟩) r.l.length cap), Own B (w.setCell ⟨g, k, none⟩ (.int .u8 (b : Int))) q.2 q.1.l := fun q hq => by
    rcases hcases q hq with rfl | ⟨j, hne, hj⟩
    · exact hput
    · exact hother j q hne hj
  refine ⟨⟨?_, fun q hq => ⟨(hall q hq).bs, fun g' hg' => ?_⟩⟩, hall, fun a c q s ha hc hac g' hg' => ?_, fun q hq g' hg' => ?_⟩
  · rw [hfl, List.length_set]
    exact hrow
  · obtain ⟨p, hp, e1⟩ := hbl q hq
    rw [e1]
    exact off_block (h.row p hp g' hg')
  · have hc2 : ∀ (j : Nat) (q : Rec × Value), (ps.set i (⟨r.x, r.nm, r.l.set k b⟩, .slice (some ⟨g, 0, none⟩) r.l.length cap))[j]? = some q → ∃ p, ps[j]? = some p ∧ q.2 = p.2 := fun j q hj => by
      rcases get_set_cases hj with ⟨rfl, rfl⟩ | ⟨_, hj⟩
      · exact ⟨_, hi, rfl⟩
      · exact ⟨q, hj, rfl⟩
    obtain ⟨p1, hp1, e1⟩ := hc2 a q ha
    obtain ⟨p2, hp2, e2⟩ := hc2 c s hc
    rw [e2]
    exact h.apart a c p1 p2 hp1 hp2 hac g' (e1 ▸ hg')
  · obtain ⟨p, hp, e1⟩ := hbl q hq
    rw [e1]
    exact h.row p hp g' hg'
end Go.Proofs.Ytggenlnknnhjgaa
