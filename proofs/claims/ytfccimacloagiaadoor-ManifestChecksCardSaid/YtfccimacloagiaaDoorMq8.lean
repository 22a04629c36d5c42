/-
  ManifestChecks: marks.
-/
import Derived.Test.YtfccimacloagiaaDoorMq7
import Derived.Deep.AppendLies
namespace Go.Proofs.YtfccimacloagiaaDoor
open Go Go.RowKit
open Wb

theorem heap_new (w : World) (o : Obj) : (w.alloc o).heap[w.heap.size]? = some o := by
  show (w.heap.push o)[w.heap.size]? = _
  exact Array.getElem?_push_size
theorem heap_old (w : World) (o : Obj) (g : Nat) (h : g < w.heap.size) : (w.alloc o).heap[g]? = w.heap[g]? := by
  show (w.heap.push o)[g]? = _
  rw [Array.getElem?_push, if_neg (by omega)]
theorem set_other (w : World) (p : Addr) (u : Value) (g : Nat) (h : g ≠ p.block) : (w.setCell p u).heap[g]? = w.heap[g]? := by
  simp only [World.setCell, Array.getElem?_modify]
  rw [if_neg (Ne.symm h)]
theorem own_kept2 {B : Nat} {w w' : World} {d : Value} {l : List Nat} (h : Own B w d l) (hb : ∀ g, d.ownBlock = some g → w'.heap[g]? = w.heap[g]?) : Own B w' d l := by
  refine ⟨⟨h.row.1, ?_⟩, h.good⟩
  rcases h.row.2 with h1 | ⟨g, cap, cur, rfl, h1, hg, rest⟩
  · exact .inl h1
  · exact .inr ⟨g, cap, cur, rfl, h1, (hb g rfl).trans hg, rest⟩
/-- a byte of a record's data is turned -/
theorem Own.put {B : Nat} {w : World} {g n cap : Nat} {l : List Nat} (h : Own B w (.slice (some ⟨g, 0, none⟩) l.length cap) l) (k b : Nat) (_hk : k < l.length) (hb : b < 256) (_hn : n = l.length) : Own B (w.setCell ⟨g, k, none⟩ (.int .u8 (b : Int))) (.slice (some ⟨g, 0, none⟩) l.length cap) (l.set k b) := by
  have hst := (World.ownsRow.stored h.row k (.int .u8 (b : Int))).1
  have e : (bv l).set k (.int .u8 (b : Int)) = bv (l.set k b) := by unfold bv; rw [List.map_set]
  rw [e] at hst
  refine ⟨?_, fun x hx => ?_⟩
  · rw [List.length_set]
    exact hst
  · rcases List.mem_or_eq_of_mem_set hx with hx | hx
    · exact h.good x hx
    · omega
/-- marks: n of a, then k of t -/
def mks (n a k t : Nat) : List Nat := List.replicate n a ++ List.replicate k t
theorem mks_len (n a k t : Nat) : (mks n a k t).length = n + k := by simp [mks]
theorem mks_get (n a k t j : Nat) (h : j < n + k) : (mks n a k t)[j]? = some (if j < n then a else t) := by
  unfold mks
  by_cases hj : j < n
  · rw [List.getElem?_append_left (by simpa using hj), List.getElem?_replicate, if_pos hj, if_pos hj]
  · rw [List.getElem?_append_right (by simpa using hj), List.getElem?_replicate, if_neg hj, if_pos (by simp; omega)]
theorem mks_more (n a k m t : Nat) : mks n a k t ++ List.replicate m t = mks n a (k + m) t := by
  unfold mks
  rw [List.append_assoc, List.replicate_append_replicate]
/-- the run of an append of marks onto marks: what it makes, and that every view of the same marks stays -/
theorem append_marks {P : Program} (w : World) (B : Nat) (t ty : TypeId) (hinfo : (P.info? 5).map (fun i => (i.zero, i.size, i.bytes)) = some (some (.int .u8 0), 1, 1)) (ht : P.underlying t = some (.slice 5))
    (v : Value) (n a k tm m : Nat) (h : Own B w v (mks n a k tm)) (xv : Value) (hx : Bs w xv (List.replicate m tm)) (hm : 0 < m) (hmax : n + k + m ≤ 140737488355328) (hB : B ≤ w.heap.size) :
    ∃ v' w', (Builtin.append_ #[t, t] ty #[v, xv]).run P w = .ok v' w' ∧ Own B w' v' (mks n a (k + m) tm) ∧ w.grownBy w' v.ownBlock ∧ (v'.ownBlock = v.ownBlock ∨ v'.ownBlock = some w.heap.size) ∧
      ∀ u k', Own B w u (mks n a k' tm) → Own B w' u (mks n a k' tm) := by
  obtain ⟨i0, hi, hz0, hz1, hz2⟩ := info_parts hinfo
  obtain ⟨ax, cx, rfl, _, _, hnx, hcx⟩ := hx.shape
  have hne : List.replicate m tm ≠ [] := fun e => by have := congrArg List.length e; simp at this; omega
  obtain ⟨bx, ox, rfl, hcell⟩ := hcx hne
  have hnews : ∀ j u, (bv (List.replicate m tm))[j]? = some u → w.cell? ((⟨bx, ox, none⟩ : Addr).add j) = some u := fun j u hj => by
    have hjl : j < (List.replicate m tm).length := by have := (List.getElem?_eq_some_iff.1 hj).1; rwa [bv_length] at this
    rw [bv_get _ j hjl] at hj
    rw [Addr.add_lit, hcell j hjl]
    exact hj
  have hgood : ok (mks n a (k + m) tm) := by rw [← mks_more]; exact ok_append h.good hx.good
  have hbl : (mks n a k tm).length = n + k := mks_len n a k tm
  have hrow := h.row
  rw [hbl] at hrow
  have hrl : (List.replicate m tm).length = m := List.length_replicate
  rw [hrl]
  obtain ⟨v', w', hr, h2, h3, _, h5⟩ := run_append_own_at (P := P) w B t ty 5 i0 (.int .u8 0) 1 1 ht hi hz0 hz1 hz2 rfl (by decide) v (n + k) (bv (mks n a k tm)) hrow ⟨bx, ox, none⟩ m cx (bv (List.replicate m tm)) (by rw [bv_length, hrl, Nat.mul_one]) hnews (bv_one _) (by unfold maxLen; omega) (by omega) hB
  refine ⟨v', w', hr, ⟨?_, hgood⟩, h3, h5, fun u k' hu => ?_⟩
  · rw [mks_len, ← mks_more, bv_append, ← Nat.add_assoc]
    exact h2
  · by_cases hub : u.ownBlock = v.ownBlock
    · rcases hu.row.2 with ⟨rfl, h0⟩ | ⟨g, cap, cur, rfl, hbg, hg, hnc, hcm, hcs, htk⟩
      · exact ⟨⟨hu.row.1, .inl ⟨rfl, h0⟩⟩, hu.good⟩
      · rcases hrow.2 with ⟨rfl, _⟩ | ⟨g', cap', cur', rfl, hbg', hg', hnc', hcm', hcs', htk'⟩
        · cases hub
        · obtain rfl : g = g' := by simpa [Value.ownBlock] using hub
          obtain rfl : cur = cur' := by
            have := hg.symm.trans hg'
            simpa using this
          have hcc : cap = cap' := by omega
          subst hcc
          by_cases hroom : n + k + m ≤ cap
          · have hfit : (n + k) * i0.size + (bv (List.replicate m tm)).length ≤ cur.size := by rw [hz1, bv_length, hrl, hcs]; omega
            have hr2 := run_append_room (P := P) w t ty 5 i0 ht hi g (n + k) cap cur hg ⟨bx, ox, none⟩ m cx (bv (List.replicate m tm)) (by rw [hz1, bv_length, hrl, Nat.mul_one]) hnews (bv_one _) hroom hfit
            rw [hr2] at hr
            injection hr with e1 e2
            subst e1 e2
            refine ⟨⟨hu.row.1, .inr ⟨g, cap, _, rfl, hbg, setRow_heap w g cur _ 5 _ hg, hnc, hcm, ?_, ?_⟩⟩, hu.good⟩
            · simp only [List.size_toArray, List.length_append, List.length_take, List.length_drop, Array.length_toList, hz1, bv_length, hrl]
              omega
            · rw [← htk, mks_len, Nat.mul_one, hz1, Nat.mul_one, bv_length, hrl]
              have hcp : ∀ p, p < n + k' → cur.toList[p]? = some (.int .u8 (((if p < n then a else tm) : Nat) : Int)) := fun p hp => by
                have h9 : (cur.toList.take ((mks n a k' tm).length * 1))[p]? = (bv (mks n a k' tm))[p]? := by rw [htk]
                rw [List.getElem?_take_of_lt (by rw [mks_len]; omega)] at h9
                have hpl : p < (mks n a k' tm).length := by rw [mks_len]; exact hp
                rw [h9, bv_get _ p hpl]
                have h8 := mks_get n a k' tm p hp
                rw [List.getElem?_eq_getElem hpl] at h8
                rw [Option.some.inj h8]
              have hnc2 : n + k' ≤ cap := by have := hnc; rw [mks_len] at this; exact this
              refine List.ext_getElem? fun p => ?_
              by_cases hp : p < n + k'
              · rw [List.getElem?_take_of_lt hp, List.getElem?_take_of_lt hp]
                by_cases h1 : p < n + k
                · rw [List.append_assoc, List.getElem?_append_left (by rw [List.length_take, Array.length_toList]; omega), List.getElem?_take_of_lt h1]
                · have htl : (cur.toList.take (n + k)).length = n + k := by rw [List.length_take, Array.length_toList]; omega
                  by_cases h2 : p < n + k + m
                  · rw [List.append_assoc, List.getElem?_append_right (by omega), htl, List.getElem?_append_left (by rw [bv_length, hrl]; omega), bv_get _ _ (by rw [hrl]; omega), List.getElem_replicate, hcp p hp, if_neg (by omega)]
                  · rw [List.append_assoc, List.getElem?_append_right (by omega), htl, List.getElem?_append_right (by rw [bv_length, hrl]; omega), bv_length, hrl, List.getElem?_drop]
                    congr 1
                    omega
              · rw [List.getElem?_eq_none (by rw [List.length_take]; omega), List.getElem?_eq_none (by rw [List.length_take]; omega)]
          · have holds : ∀ j u, (bv (mks n a k tm))[j]? = some u → w.cell? ((⟨g, 0, none⟩ : Addr).add j) = some u := hrow.cells (g := g) rfl
            have hr2 := run_append_grow (P := P) w t ty 5 i0 (.int .u8 0) ht hi hz0 ⟨g, 0, none⟩ (n + k) cap (bv (mks n a k tm)) (by rw [hz1, bv_length, hbl, Nat.mul_one]) holds ⟨bx, ox, none⟩ m cx (bv (List.replicate m tm)) (by rw [hz1, bv_length, hrl, Nat.mul_one]) hnews (by omega) (by omega) (growslice_fits (by omega) (by rw [hz2]; omega))
            rw [hr2] at hr
            injection hr with e1 e2
            subst e1 e2
            refine ⟨⟨hu.row.1, .inr ⟨g, cap, cur, rfl, hbg, ?_, hnc, hcm, hcs, htk⟩⟩, hu.good⟩
            rw [← hg]
            exact heap_old w.drew _ g (Array.getElem?_eq_some_iff.1 hg).1
    · exact own_kept2 hu fun g hg => h3.block g (World.ownsRow.lt hu.row g hg).2 fun e => hub (hg.trans e)
theorem wpList_append_marks {P : Program} (w : World) {ops : Array Oper} {rest : List Oper} {o : Oper} {a : Act} {Q : Exit → Act → World → Prop} (hgd : o.guard = none) (s x : Operand) (t : TypeId)
    (ho : o.op = .call { callee := .builtin .append, args := #[s, x], argTypes := #[t, t] })
    (B : Nat) (hinfo : (P.info? 5).map (fun i => (i.zero, i.size, i.bytes)) = some (some (.int .u8 0), 1, 1)) (ht : P.underlying t = some (.slice 5))
    (v : Value) (n am k tm m : Nat) (hv : a.eval s = v) (h : Own B w v (mks n am k tm)) (xv : Value) (hxe : a.eval x = xv) (hx : Bs w xv (List.replicate m tm)) (hm : 0 < m) (hmax : n + k + m ≤ 140737488355328) (hB : B ≤ w.heap.size)
    (hK : ∀ v' w', Own B w' v' (mks n am (k + m) tm) → w.grownBy w' v.ownBlock → (v'.ownBlock = v.ownBlock ∨ v'.ownBlock = some w.heap.size) → (∀ u k', Own B w u (mks n am k' tm) → Own B w' u (mks n am k' tm)) → wpList P ops Q rest (a.put o.dst v') w') : wpList P ops Q (o :: rest) a w := by
  refine wpList_plain hgd fun K hK2 => ?_
  obtain ⟨v', w', hr, h1, h2, h3, h4⟩ := append_marks (P := P) w B t o.type hinfo ht v n am k tm m h xv hx hm hmax hB
  unfold Oper.wp execOp
  simp only [ho, resolve, invoke, builtin, Sem.run_bind, Sem.run_pure, Result.andThen_ok, List.map_toArray, List.map_cons, List.map_nil, hv, hxe, hr]
  exact hK2 _ _ (hK v' w' h1 h2 h3 h4)
end Go.Proofs.YtfccimacloagiaaDoor
