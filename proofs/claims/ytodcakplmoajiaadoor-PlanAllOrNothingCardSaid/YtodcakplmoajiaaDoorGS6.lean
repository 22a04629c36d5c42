import Derived.Laws.AppendOwnNone
import Derived.Deep.RegionWith
import Derived.Deep.CutRange
import Derived.RegionTactic
import Derived.Test.YtodcakplmoajiaaDoorGS4
set_option maxRecDepth 100000
set_option maxHeartbeats 4000000
namespace Go.Proofs.YtodcakplmoajiaaDoor
open Go Go.RowKit
open Wb

theorem info22 : (Tryd.prog.info? 25).map (fun i => (i.zero, i.size, i.bytes)) = some (some (.slice none 0 0), 1, 24) := by kernel_rfl
def Row (B : Nat) (w : World) (v : Value) (vs : List Value) : Prop := w.ownsRow B 25 1 v vs.length vs
theorem Row.nil (B : Nat) (w : World) : Row B w (.slice none 0 0) [] := World.ownsRow_nil _ _ _ _
theorem Row.kept {B : Nat} {w w' : World} {v : Value} {vs : List Value} (h : Row B w v vs) (hb : Below w.heap.size w w') : Row B w' v vs := by
 refine ⟨h.1, ?_⟩
 rcases h.2 with h1 | ⟨g, cap, cur, rfl, h1, hg, rest⟩
 ·exact .inl h1
 ·exact .inr ⟨g, cap, cur, rfl, h1, (hb.block g (Array.getElem?_eq_some_iff.1 hg).1).trans hg, rest⟩
theorem Row.shape {B : Nat} {w : World} {v : Value} {vs : List Value} (h : Row B w v vs) : (v = .slice none 0 0 ∧ vs = []) ∨ ∃ g cap, v = .slice (some ⟨g, 0, none⟩) vs.length cap ∧ vs.length ≤ cap ∧ cap ≤ maxLen ∧ ∀ j (h : j < vs.length), w.cell? ⟨g, j, none⟩ = some vs[j] := by
 have h0 : w.ownsRow B 25 1 v vs.length vs := h
 rcases h.2 with ⟨rfl, h1⟩ | ⟨g, cap, cur, rfl, hb, hg, h1, h2, h3, h4⟩
 ·exact .inl ⟨rfl, List.eq_nil_of_length_eq_zero h1⟩
 ·refine .inr ⟨g, cap, rfl, h1, h2, fun j hj => ?_⟩
  rw [h0.cellAt j (by omega), List.getElem?_eq_getElem hj]
theorem Own.grown {B : Nat} {w w' : World} {v x : Value} {vs : List Value} {l : List Nat} (hr : Row B w v vs) (hx : Own B w x l) (hg : w.grownBy w' v.ownBlock) : Own B w' x l := by
 refine ⟨⟨hx.row.1, ?_⟩, hx.good⟩
 rcases hx.row.2 with h1 | ⟨g, cap, cur, rfl, h1, hgg, rest⟩
 ·exact .inl h1
 ·refine .inr ⟨g, cap, cur, rfl, h1, ?_, rest⟩
  rw [hg.block g (Array.getElem?_eq_some_iff.1 hgg).1 ?_]
  ·exact hgg
  ·intro e
   rcases hr.2 with ⟨rfl, _⟩ | ⟨g', cap', cur', rfl, _, hg', _⟩
   ·simp [Value.ownBlock] at e
   ·simp [Value.ownBlock] at e
    subst e
    rw [hgg] at hg'
    simp at hg'
theorem wpList_push {P : Program} (w : World) {ops : Array Oper} {rest : List Oper} {o : Oper} {a : Act} {Q : Exit → Act → World → Prop} (hgd : o.guard = none) (s x : Operand) (t : TypeId)
  (ho : o.op = .call { callee := .builtin .append, args := #[s, x], argTypes := #[t, t] })
  (B : Nat) (hinfo : (P.info? 25).map (fun i => (i.zero, i.size, i.bytes)) = some (some (.slice none 0 0), 1, 24)) (ht : P.underlying t = some (.slice 25))
  (v : Value) (vs : List Value) (hv : a.eval s = v) (h : Row B w v vs) (g : Nat) (u : Value) (hx : a.eval x = .slice (some ⟨g, 0, none⟩) 1 1) (hu : w.cell? ⟨g, 0, none⟩ = some u) (h1 : u.oneCell' = true)
  (hmax : vs.length ≤ 5000000000) (hB : B ≤ w.heap.size)
  (hK : ∀ v' w', Row B w' v' (vs ++ [u]) → Below B w w' → w.grownBy w' v.ownBlock → wpList P ops Q rest (a.put o.dst v') w') : wpList P ops Q (o :: rest) a w := by
 obtain ⟨i0, hi, hz0, hz1, hz2⟩ := info_parts hinfo
 refine wpList_append_own w hgd s x t ho B 25 i0 (.slice none 0 0) 1 24 ht hi hz0 hz1 hz2 rfl (by decide) v vs.length vs hv h ⟨g, 0, none⟩ 1 1 [u] hx rfl ?_ (by intro y hy; simp at hy; subst hy; exact h1) (by unfold maxLen; omega) (by omega) hB ?_
 ·intro j y hj
  match j, hj with
  | 0, hj => simp at hj; subst hj; simpa [Addr.add] using hu
 ·intro v' w' h2 h3 _
  refine hK v' w' ?_ ((Below.refl B w).grown h3 hB (fun k hk => (h.lt k hk).1)) h3
  show w'.ownsRow B 25 1 v' (vs ++ [u]).length (vs ++ [u])
  rw [List.length_append]
  exact h2
def OwnP (B : Nat) (w : World) (v : Value) (ls : List (List Nat)) : Prop := ∃ vs : List Value, Row B w v vs ∧ vs.length = ls.length ∧ ∀ j (h : j < vs.length) (h2 : j < ls.length), Own B w vs[j] ls[j]
theorem OwnP.kept {B : Nat} {w w' : World} {v : Value} {ls : List (List Nat)} (h : OwnP B w v ls) (hb : Below w.heap.size w w') : OwnP B w' v ls := by
 obtain ⟨vs, h1, h2, h3⟩ := h
 exact ⟨vs, h1.kept hb, h2, fun j a b => (h3 j a b).kept hb⟩
theorem OwnP.ps {B : Nat} {w : World} {v : Value} {ls : List (List Nat)} (h : OwnP B w v ls) : Ps w v ls := by
 obtain ⟨vs, h1, h2, h3⟩ := h
 rcases h1.shape with ⟨rfl, rfl⟩ | ⟨g, cap, rfl, hl, hm, hc⟩
 ·have : ls = [] := List.eq_nil_of_length_eq_zero (by simpa using h2.symm)
  subst this
  exact ⟨none, 0, rfl, by simp [maxLen], fun e => absurd rfl e⟩
 ·refine ⟨some ⟨g, 0, none⟩, cap, by rw [h2], by omega, fun _ => ⟨g, 0, rfl, fun j hj => ⟨vs[j]'(by omega), ?_, (h3 j (by omega) hj).bs⟩⟩⟩
  rw [Nat.zero_add]
  exact hc j (by omega)
theorem step_push {P : Program} {ops : Array Oper} {o : Oper} {a : Act} {w : World} {K : Act → World → Prop} {Q : Exit → Act → World → Prop} {E : Prop} (hgd : o.guard = none) (s x : Operand) (t : TypeId)
  (ho : o.op = .call { callee := .builtin .append, args := #[s, x], argTypes := #[t, t] })
  (B : Nat) (hinfo : (P.info? 25).map (fun i => (i.zero, i.size, i.bytes)) = some (some (.slice none 0 0), 1, 24)) (ht : P.underlying t = some (.slice 25))
  (v : Value) (vs : List Value) (hv : a.eval s = v) (h : Row B w v vs) (g : Nat) (u : Value) (hx : a.eval x = .slice (some ⟨g, 0, none⟩) 1 1) (hu : w.cell? ⟨g, 0, none⟩ = some u) (h1 : u.oneCell' = true)
  (hmax : vs.length ≤ 5000000000) (hB : B ≤ w.heap.size)
  (hK : ∀ v' w', Row B w' v' (vs ++ [u]) → Below B w w' → w.grownBy w' v.ownBlock → K (a.put o.dst v') w') :
  if Region.wanted o (yielded ops a.tmps) = true then Oper.wp P o a w K Q else E := by
 have hw : Region.wanted o (yielded ops a.tmps) = true := by simp [Region.wanted, hgd]
 rw [if_pos hw]
 obtain ⟨i0, hi, hz0, hz1, hz2⟩ := info_parts hinfo
 obtain ⟨v', w', hrun, h2, h3, _⟩ := run_append_own (P := P) w B t o.type 25 i0 (.slice none 0 0) 1 24 ht hi hz0 hz1 hz2 rfl (by decide) v vs.length vs h ⟨g, 0, none⟩ 1 1 [u] rfl (by
  intro j y hj
  match j, hj with
  | 0, hj => simp at hj; subst hj; simpa [Addr.add] using hu) (by intro y hy; simp at hy; subst hy; exact h1) (by unfold maxLen; omega) (by omega) hB
 unfold Oper.wp
 simp [execOp, ho, resolve, invoke, builtin, hv, hx, hrun, Result.andThen]
 refine hK v' w' ?_ ((Below.refl B w).grown h3 hB (fun k hk => (h.lt k hk).1)) h3
 show w'.ownsRow B 25 1 v' (vs ++ [u]).length (vs ++ [u])
 rw [List.length_append]
 exact h2
theorem own_weak {B B2 : Nat} {w : World} {d : Value} {l : List Nat} (h : Own B2 w d l) (hB : B ≤ B2) : Own B w d l := by
 refine ⟨⟨h.row.1, ?_⟩, h.good⟩
 rcases h.row.2 with h1 | ⟨g, cap, cur, e, hb, rest⟩
 ·exact .inl h1
 ·exact .inr ⟨g, cap, cur, e, Nat.le_trans hB hb, rest⟩
theorem OwnP.push {B : Nat} {w w' : World} {v v' u : Value} {vs : List Value} {ls : List (List Nat)} {l : List Nat} (hr : Row B w v vs) (hl : vs.length = ls.length) (he : ∀ j (h : j < vs.length) (h2 : j < ls.length), Own B w vs[j] ls[j])
  (hu : Own B w u l) (hr' : Row B w' v' (vs ++ [u])) (hg : w.grownBy w' v.ownBlock) : OwnP B w' v' (ls ++ [l]) := by
 refine ⟨vs ++ [u], hr', by simp [hl], fun j a b => ?_⟩
 by_cases hj : j < vs.length
 ·rw [List.getElem_append_left hj, List.getElem_append_left (by omega)]
  exact Own.grown hr (he j hj (by omega)) hg
 ·have ej : j = vs.length := by simp at a; omega
  subst ej
  rw [List.getElem_append_right (Nat.le_refl _), List.getElem_append_right (by omega)]
  simp only [hl, Nat.sub_self, List.getElem_cons_zero]
  exact Own.grown hr hu hg
theorem OwnP.nil (B : Nat) (w : World) : OwnP B w (.slice none 0 0) [] := ⟨[], Row.nil _ _, rfl, fun _ h => absurd h (Nat.not_lt_zero _)⟩
theorem OwnP.shape {B : Nat} {w : World} {v : Value} {ls : List (List Nat)} (h : OwnP B w v ls) : ∃ ao, ∃ cap : Nat, v = .slice ao ls.length cap := by
 obtain ⟨ao, cap, e, _⟩ := h.ps.shape
 exact ⟨ao, cap, e⟩
theorem cloneAll_any (v : Value) (ls : List (List Nat)) (w : World) (k : Ps w v ls) (hn : ls.length ≤ 5000000000) (hl : ∀ l ∈ ls, l.length ≤ 140737488355000) :
  Calls Tryd.prog 54 #[v] w fun e w' => ∃ v', e = .returned v' ∧ OwnP w.heap.size w' v' ls ∧ Below w.heap.size w w' := by
 have HIN : Hid ((Tryd.prog.info? 25).map (fun i => (i.zero, i.size, i.bytes)) = some (some (.slice none 0 0), 1, 24)) := info22
 have HK : Hid (∀ w', Below w.heap.size w w' → Ps w' v ls) := fun w' hb => k.kept hb
 obtain ⟨ao, cap, rfl, hm, hc⟩ := k.shape
 clear k hc hm
 go_enter Tryd.func54, Tryd.ntmps54
 generalize hnl : Value.slice none 0 0 = nl
 have HNL : Hid (Value.slice none 0 0 = nl) := hnl
 clear hnl
 go_wp2
 go_loopw [3, 5, 8] (fun o _ i wr => ∃ k : Nat, k ≤ ls.length ∧ i = .int .i64 (k : Int) ∧ OwnP w.heap.size wr o (ls.take k) ∧ Below w.heap.size w wr) (fun _ _ i _ => ls.length - (intOf i).toNat)
 case atStart => exact ⟨0, Nat.zero_le _, rfl, by rw [← HNL.out, List.take_zero]; exact OwnP.nil _ _, Below.refl _ _⟩
 case round =>
  obtain ⟨k, hk, rfl, ho, hbel⟩ := hrel
  by_cases hlt : k < ls.length
  ·obtain ⟨ao2, cap2, e2, _, hc⟩ := (HK.out _ hbel).shape
   obtain ⟨b, off, rfl, hcell⟩ := hc (List.ne_nil_of_length_pos (by omega))
   simp only [Value.slice.injEq, true_and] at e2
   obtain ⟨rfl, -⟩ := e2
   obtain ⟨vj, h1, h2⟩ := hcell k hlt
   have hlk : ls[k].length ≤ 140737488355000 := hl _ (List.getElem_mem hlt)
   have HT : Hid (ls.take (k + 1) = ls.take k ++ [ls[k]]) := List.take_succ_eq_append_getElem hlt
   have HOP : Hid (∃ vs : List Value, Row w.heap.size wr u3 vs ∧ vs.length = (ls.take k).length ∧ ∀ j (h : j < vs.length) (h2 : j < (ls.take k).length), Own w.heap.size wr vs[j] (ls.take k)[j]) := ho
   obtain ⟨ak, ck, rfl, _⟩ := h2.shape
   have HB2 : Hid (Bs wr (.slice ak ls[k].length ck) ls[k]) := h2
   have HBEL : Hid (Below w.heap.size w wr) := hbel
   clear h2 hcell hc ho hbel
   generalize ls[k] = y at *
   go_wp2_with fail
   refine (bclone_any _ y _ HB2.out hlk).mono ?_
   rintro e w1 ⟨v1, rfl, ho1, b1⟩
   obtain ⟨a1, c1, rfl, _⟩ := ho1.bs.shape
   obtain ⟨vs, hr, hvl, hve⟩ := HOP.out
   have HR : Hid (Row w.heap.size (w1.alloc (.cells #[.slice a1 y.length c1] 25)) u3 vs) := (hr.kept b1).kept (up0 _ _)
   have HE : Hid (∀ j (h : j < vs.length) (h2 : j < (ls.take k).length), Own w.heap.size (w1.alloc (.cells #[.slice a1 y.length c1] 25)) vs[j] (ls.take k)[j]) := fun j h h2 => ((hve j h h2).kept b1).alloc _
   have HU : Hid (Own w.heap.size (w1.alloc (.cells #[.slice a1 y.length c1] 25)) (.slice a1 y.length c1) y) := (own_weak ho1 HBEL.out.size).alloc _
   have HBW : Hid (Below w.heap.size w (w1.alloc (.cells #[.slice a1 y.length c1] 25))) := up (andThen HBEL.out b1) _
   have HCE : Hid ((w1.alloc (.cells #[.slice a1 y.length c1] 25)).cell? ⟨w1.heap.size, 0, none⟩ = some (.slice a1 y.length c1)) := by
    show _ = _
    rw [World.cell?_alloc_new]; rfl
   have hvn : vs.length ≤ 5000000000 := by rw [hvl]; simp; omega
   have HVL : Hid (vs.length = (ls.take k).length) := hvl
   clear hr hve hvl ho1 b1 HB2 HOP hlk
   go_wp2_with (at_builtin; refine wpList_push _ rfl (.tmp 12) (.tmp 15) 26 rfl w.heap.size HIN.out Tryd.underlying26 _ vs rfl HR.out w1.heap.size (.slice a1 y.length c1) rfl HCE.out rfl hvn HBW.out.size ?_)
   intro v' w' hrow hb' hg
   have HN : Hid (OwnP w.heap.size w' v' (ls.take (k + 1)) ∧ Below w.heap.size w w') := by
    refine ⟨?_, HBW.out.trans hb'⟩
    rw [HT.out]
    exact OwnP.push HR.out HVL.out HE.out HU.out hrow hg
   clear hrow hb' hg HR HE HU HBW HCE HVL hvn HT HBEL
   go_wp2
   go_roundw
   case rel => exact ⟨k + 1, by omega, by go_num, HN.out.1, HN.out.2⟩
   case measure => simp [intOf]; omega
  ·obtain rfl : k = ls.length := by omega
   have HN : Hid (OwnP w.heap.size wr u3 ls ∧ Below w.heap.size w wr) := ⟨by rw [List.take_length] at ho; exact ho, hbel⟩
   clear ho hbel
   go_wp2
   go_ret
   exact ⟨_, rfl, HN.out.1, HN.out.2⟩
def LB (w : World) (g : Nat) (t : TypeId) (D : List Value) : Prop := w.heap[g]? = some (.cells D.toArray t)
theorem LB.lt {w : World} {g : Nat} {t : TypeId} {D : List Value} (h : LB w g t D) : g < w.heap.size := (Array.getElem?_eq_some_iff.1 h).1
theorem LB.kept {w w' : World} {g : Nat} {t : TypeId} {D : List Value} (h : LB w g t D) (hb : Below w.heap.size w w') : LB w' g t D := (hb.block g h.lt).trans h
theorem LB.cell {w : World} {g : Nat} {t : TypeId} {D : List Value} (h : LB w g t D) (j : Nat) (v : Value) (hv : D[j]? = some v) : w.cell? ⟨g, j, none⟩ = some v := by
 unfold LB at h
 simp [World.cell?, h, hv]
theorem LB.range {w : World} {g : Nat} {t : TypeId} {D : List Value} (h : LB w g t D) : w.rangeAt g 0 D := fun j v hv => by rw [Nat.zero_add]; exact h.cell j v hv
theorem LB.free {w : World} {g : Nat} {t : TypeId} {D : List Value} (h : LB w g t D) (j : Nat) : w.frozen? ⟨g, j, none⟩ = false := by
 unfold LB at h
 simp [World.frozen?, h]
theorem LB.there {w : World} {g : Nat} {t : TypeId} {D : List Value} (h : LB w g t D) : w.there g 0 D.length := fun j hj => by
 rw [Nat.zero_add]
 exact ⟨by rw [h.cell j D[j] (List.getElem?_eq_getElem hj)]; rfl, h.free j⟩
theorem LB.set {w : World} {g : Nat} {t : TypeId} {D : List Value} (h : LB w g t D) (j : Nat) (v : Value) : LB (w.setCell ⟨g, j, none⟩ v) g t (D.set j v) := by
 unfold LB at *
 simp [World.setCell, Array.getElem?_modify, h]
theorem LB.other {w : World} {g : Nat} {t : TypeId} {D : List Value} (h : LB w g t D) (p : Addr) (v : Value) (hp : g ≠ p.block) : LB (w.setCell p v) g t D := (set_other w p v g hp).trans h
theorem LB.others {w : World} {g : Nat} {t : TypeId} {D : List Value} (h : LB w g t D) (g' o : Nat) (vs : List Value) (hp : g ≠ g') : LB (w.setCells g' o vs) g t D := (cells_other g' vs o w g hp).trans h
theorem set_lst (D r : List Value) (o : Nat) (v : Value) (h : o + (r.length + 1) ≤ D.length) : (D.set o v).take (o + 1) ++ r ++ (D.set o v).drop (o + 1 + r.length) = D.take o ++ (v :: r) ++ D.drop (o + (r.length + 1)) := by
 have e1 : (D.set o v).take (o + 1) = D.take o ++ [v] := by
  rw [List.take_succ_eq_append_getElem (by rw [List.length_set]; omega), List.take_set_of_le (Nat.le_refl _), List.getElem_set_self]
 have e2 : (D.set o v).drop (o + 1 + r.length) = D.drop (o + (r.length + 1)) := by
  rw [List.drop_set_of_lt (by omega), show o + 1 + r.length = o + (r.length + 1) by omega]
 rw [e1, e2]
 simp
theorem LB.sets_at {g : Nat} {t : TypeId} : ∀ (E : List Value) (o : Nat) (w : World) (D : List Value), LB w g t D → o + E.length ≤ D.length → LB (w.setCells g o E) g t (D.take o ++ E ++ D.drop (o + E.length))
 | [], o, w, D, h, _ => by
  have e : D.take o ++ [] ++ D.drop (o + ([] : List Value).length) = D := by simp
  rw [e]
  exact h
 | v :: r, o, w, D, h, hl => by
  have hl' : o + (r.length + 1) ≤ D.length := by simpa using hl
  have ih := LB.sets_at r (o + 1) (w.setCell ⟨g, o, none⟩ v) (D.set o v) (h.set o v) (by rw [List.length_set]; omega)
  rw [set_lst D r o v hl'] at ih
  exact ih
theorem LB.sets {w : World} {g : Nat} {t : TypeId} {D : List Value} (h : LB w g t D) (E : List Value) (hl : E.length = D.length) : LB (w.setCells g 0 E) g t E := by
 have h2 := LB.sets_at E 0 w D h (by omega)
 rw [show D.drop (0 + E.length) = [] by rw [Nat.zero_add, hl, List.drop_length]] at h2
 simpa using h2
theorem lb_new (w : World) (D : List Value) (t : TypeId) : LB (w.alloc (.cells D.toArray t)) w.heap.size t D := Array.getElem?_push_size
theorem lb_new2 (w : World) (D Z : List Value) (t t2 : TypeId) : LB ((w.alloc (.cells D.toArray t)).alloc (.cells Z.toArray t2)) w.heap.size t D ∧ LB ((w.alloc (.cells D.toArray t)).alloc (.cells Z.toArray t2)) (w.heap.size + 1) t2 Z ∧ Below w.heap.size w ((w.alloc (.cells D.toArray t)).alloc (.cells Z.toArray t2)) := by
 refine ⟨(lb_new w D t).kept (up0 _ _), ?_, up (up0 _ _) _⟩
 have h := lb_new (w.alloc (.cells D.toArray t)) Z t2
 rwa [heap_one] at h
theorem own_set {B : Nat} {w : World} {v : Value} {l : List Nat} (h : Own B w v l) (p : Addr) (u : Value) (hp : p.block < B) : Own B (w.setCell p u) v l := Own.set h p u hp
theorem row_kept2 {B : Nat} {w w' : World} {v : Value} {vs : List Value} (h : Row B w v vs) (hb : ∀ g, v.ownBlock = some g → w'.heap[g]? = w.heap[g]?) : Row B w' v vs := by
 refine ⟨h.1, ?_⟩
 rcases h.2 with h1 | ⟨g, cap, cur, rfl, h1, hg, rest⟩
 ·exact .inl h1
 ·exact .inr ⟨g, cap, cur, rfl, h1, (hb g rfl).trans hg, rest⟩
theorem own_keptB {B : Nat} {w w' : World} {d : Value} {l : List Nat} (h : Own B w d l) (hb : ∀ g, d.ownBlock = some g → w'.heap[g]? = w.heap[g]?) : Own B w' d l := by
 refine ⟨⟨h.row.1, ?_⟩, h.good⟩
 rcases h.row.2 with h1 | ⟨g, cap, cur, rfl, h1, hg, rest⟩
 ·exact .inl h1
 ·exact .inr ⟨g, cap, cur, rfl, h1, (hb g rfl).trans hg, rest⟩
theorem own_block {B : Nat} {w : World} {d : Value} {l : List Nat} (h : Own B w d l) (g : Nat) (e : d.ownBlock = some g) : B ≤ g ∧ g < w.heap.size := by
 rcases h.row.2 with ⟨rfl, _⟩ | ⟨g', cap, cur, rfl, h1, hg, _⟩
 ·simp [Value.ownBlock] at e
 ·simp [Value.ownBlock] at e
  subst e
  exact ⟨h1, (Array.getElem?_eq_some_iff.1 hg).1⟩
theorem row_block {B : Nat} {w : World} {v : Value} {vs : List Value} (h : Row B w v vs) (g : Nat) (e : v.ownBlock = some g) : B ≤ g ∧ g < w.heap.size := by
 rcases h.2 with ⟨rfl, _⟩ | ⟨g', cap, cur, rfl, h1, hg, _⟩
 ·simp [Value.ownBlock] at e
 ·simp [Value.ownBlock] at e
  subst e
  exact ⟨h1, (Array.getElem?_eq_some_iff.1 hg).1⟩
theorem OwnP.keptB {B : Nat} {w w' : World} {v : Value} {ls : List (List Nat)} (h : OwnP B w v ls) (hb : ∀ g, B ≤ g → g < w.heap.size → w'.heap[g]? = w.heap[g]?) : OwnP B w' v ls := by
 obtain ⟨vs, h1, h2, h3⟩ := h
 exact ⟨vs, row_kept2 h1 (fun g e => hb g (row_block h1 g e).1 (row_block h1 g e).2), h2, fun j a b => own_keptB (h3 j a b) (fun g e => hb g (own_block (h3 j a b) g e).1 (own_block (h3 j a b) g e).2)⟩
theorem OwnP.weak {B B2 : Nat} {w : World} {v : Value} {ls : List (List Nat)} (h : OwnP B2 w v ls) (hB : B ≤ B2) : OwnP B w v ls := by
 obtain ⟨vs, h1, h2, h3⟩ := h
 refine ⟨vs, ⟨h1.1, ?_⟩, h2, fun j a b => own_weak (h3 j a b) hB⟩
 rcases h1.2 with h1 | ⟨g, cap, cur, e, hb, rest⟩
 ·exact .inl h1
 ·exact .inr ⟨g, cap, cur, e, Nat.le_trans hB hb, rest⟩
structure Light (S : Sg) : Prop where
 inp : S.inp.length ≤ 140737488355000
 fail : S.fail.length ≤ 140737488355000
 outs : S.outs.length ≤ 5000000000
 und : S.und.length ≤ 5000000000
 eachO : ∀ l ∈ S.outs, l.length ≤ 140737488355000
 eachU : ∀ l ∈ S.und, l.length ≤ 140737488355000
structure SgOwn (B : Nat) (w : World) (S : Sg) (h : SH) : Prop where
 inp : Own B w (.slice h.ai S.inp.length h.ci) S.inp
 outs : OwnP B w (.slice h.ao S.outs.length h.co) S.outs
 und : OwnP B w (.slice h.au S.und.length h.cu) S.und
 fail : Own B w (.slice h.af S.fail.length h.cf) S.fail
 apart : ∀ g, (Value.slice h.ao S.outs.length h.co).ownBlock = some g → (Value.slice h.au S.und.length h.cu).ownBlock ≠ some g
theorem SgOwn.at {B : Nat} {w : World} {S : Sg} {h : SH} (k : SgOwn B w S h) : SgAt w S h := ⟨k.inp.bs, k.outs.ps, k.und.ps, k.fail.bs⟩
theorem OwnP.block {B : Nat} {w : World} {v : Value} {ls : List (List Nat)} (h : OwnP B w v ls) (g : Nat) (e : v.ownBlock = some g) : B ≤ g ∧ g < w.heap.size := by
 obtain ⟨vs, h1, _⟩ := h
 exact row_block h1 g e
theorem OwnP.setB {B : Nat} {w : World} {v : Value} {ls : List (List Nat)} (h : OwnP B w v ls) (p : Addr) (u : Value) (hp : p.block < B) : OwnP B (w.setCell p u) v ls := h.keptB fun g hg _ => set_other w p u g (by omega)
theorem OwnP.setsB {B : Nat} {w : World} {v : Value} {ls : List (List Nat)} (h : OwnP B w v ls) (g o : Nat) (us : List Value) (hp : g < B) : OwnP B (w.setCells g o us) v ls := h.keptB fun i hi _ => cells_other g us o w i (by omega)
theorem scl_one (S : Sg) (h : SH) : ∀ v ∈ scl S h, v.oneCell' = true := by
 intro v hv
 simp only [scl, List.mem_cons, List.not_mem_nil, or_false] at hv
 rcases hv with rfl | rfl | rfl | rfl | rfl | rfl | rfl | rfl | rfl | rfl | rfl | rfl | rfl | rfl | rfl | rfl <;> rfl
def zcl : List Value := [.int .i64 0, .string ⟨#[]⟩, .int .i64 0, .int .i64 0, .int .i64 0, .int .i64 0, .slice none 0 0, .int .i64 0, .int .i64 0, .bool false, .int .i64 0, .slice none 0 0, .slice none 0 0, .int .i64 0, .int .i64 0, .slice none 0 0]
theorem sclone_any (S : Sg) (h : SH) (w : World) (k : SgAt w S h) (hl : Light S) :
  Calls Tryd.prog 35 #[sv S h] w fun e w' => ∃ h', e = .returned (sv S h') ∧ SgOwn w.heap.size w' S h' ∧ Below w.heap.size w w' := by
 have HK : Hid (∀ w', Below w.heap.size w w' → SgAt w' S h) := fun w' hb => k.kept hb
 have HCI : Hid (∀ w', Below w.heap.size w w' → Calls Tryd.prog 29 #[.slice h.ai S.inp.length h.ci] w' fun e w'' => ∃ a, ∃ c : Nat, e = .returned (.slice a S.inp.length c) ∧ Own w'.heap.size w'' (.slice a S.inp.length c) S.inp ∧ Below w'.heap.size w' w'') := fun w' hb => (bclone_any _ S.inp w' (k.kept hb).inp hl.inp).mono fun e w'' ⟨v, he, ho, hb'⟩ => by
  obtain ⟨a, c, rfl, _⟩ := ho.bs.shape
  exact ⟨a, c, he, ho, hb'⟩
 have HCF : Hid (∀ w', Below w.heap.size w w' → Calls Tryd.prog 29 #[.slice h.af S.fail.length h.cf] w' fun e w'' => ∃ a, ∃ c : Nat, e = .returned (.slice a S.fail.length c) ∧ Own w'.heap.size w'' (.slice a S.fail.length c) S.fail ∧ Below w'.heap.size w' w'') := fun w' hb => (bclone_any _ S.fail w' (k.kept hb).fail hl.fail).mono fun e w'' ⟨v, he, ho, hb'⟩ => by
  obtain ⟨a, c, rfl, _⟩ := ho.bs.shape
  exact ⟨a, c, he, ho, hb'⟩
 have HCO : Hid (∀ w', Below w.heap.size w w' → Calls Tryd.prog 54 #[.slice h.ao S.outs.length h.co] w' fun e w'' => ∃ a, ∃ c : Nat, e = .returned (.slice a S.outs.length c) ∧ OwnP w'.heap.size w'' (.slice a S.outs.length c) S.outs ∧ Below w'.heap.size w' w'') := fun w' hb => (cloneAll_any _ S.outs w' (k.kept hb).outs hl.outs hl.eachO).mono fun e w'' ⟨v, he, ho, hb'⟩ => by
  obtain ⟨a, c, rfl⟩ := ho.shape
  exact ⟨a, c, he, ho, hb'⟩
 have HCU : Hid (∀ w', Below w.heap.size w w' → Calls Tryd.prog 54 #[.slice h.au S.und.length h.cu] w' fun e w'' => ∃ a, ∃ c : Nat, e = .returned (.slice a S.und.length c) ∧ OwnP w'.heap.size w'' (.slice a S.und.length c) S.und ∧ Below w'.heap.size w' w'') := fun w' hb => (cloneAll_any _ S.und w' (k.kept hb).und hl.und hl.eachU).mono fun e w'' ⟨v, he, ho, hb'⟩ => by
  obtain ⟨a, c, rfl⟩ := ho.shape
  exact ⟨a, c, he, ho, hb'⟩
 clear k hl
 obtain ⟨D, hD, hL, hE⟩ := sv_letter S h
 rw [hD]
 have HL : Hid _ := hL
 have HE : Hid (D = scl S h) := hE
 have HX : Hid (∀ t t2, LB ((w.alloc (.cells D.toArray t)).alloc (.cells zcl.toArray t2)) w.heap.size t D ∧ LB ((w.alloc (.cells D.toArray t)).alloc (.cells zcl.toArray t2)) (w.heap.size + 1) t2 zcl ∧ Below w.heap.size w ((w.alloc (.cells D.toArray t)).alloc (.cells zcl.toArray t2))) := fun t t2 => lb_new2 w D zcl t t2
 clear hD hL hE
 go_enter Tryd.func35, Tryd.ntmps35
 go_wp2
 have HW : Hid _ := HX.out 28 28
 unfold zcl at HW
 clear HX
 generalize (w.alloc (.cells D.toArray 28)).alloc _ = W0 at HW ⊢
 obtain ⟨L1, L2, B0⟩ := HW.out
 clear HW
 have H0 : Hid (LB W0 w.heap.size 28 D ∧ LB W0 (w.heap.size + 1) 28 zcl ∧ Below w.heap.size w W0) := ⟨L1, L2, B0⟩
 go_cut [5, 8] from 3 to 10 (fun s1 s2 wx => ∃ a1 c1 a2 c2, s1 = .slice a1 S.inp.length c1 ∧ s2 = .slice a2 S.fail.length c2 ∧ LB wx w.heap.size 28 ((D.set 6 s1).set 15 s2) ∧ LB wx (w.heap.size + 1) 28 zcl ∧ Own (w.heap.size + 2) wx s1 S.inp ∧ Own (w.heap.size + 2) wx s2 S.fail ∧ Below w.heap.size w wx)
 case first =>
  have FIN : Hid (∀ (a1 : Option Addr) (c1 : Nat) (a2 : Option Addr) (c2 : Nat) (w2 : World), (LB w2 w.heap.size 28 D ∧ LB w2 (w.heap.size + 1) 28 zcl ∧ Below w.heap.size w w2) → (Own (w.heap.size + 2) w2 (.slice a1 S.inp.length c1) S.inp ∧ Own (w.heap.size + 2) w2 (.slice a2 S.fail.length c2) S.fail) →
    ∃ b1 d1 b2 d2, Value.slice a1 S.inp.length c1 = .slice b1 S.inp.length d1 ∧ Value.slice a2 S.fail.length c2 = .slice b2 S.fail.length d2 ∧ LB ((w2.setCell ⟨w.heap.size, 6, none⟩ (.slice a1 S.inp.length c1)).setCell ⟨w.heap.size, 15, none⟩ (.slice a2 S.fail.length c2)) w.heap.size 28 ((D.set 6 (.slice a1 S.inp.length c1)).set 15 (.slice a2 S.fail.length c2)) ∧ LB ((w2.setCell ⟨w.heap.size, 6, none⟩ (.slice a1 S.inp.length c1)).setCell ⟨w.heap.size, 15, none⟩ (.slice a2 S.fail.length c2)) (w.heap.size + 1) 28 zcl ∧ Own (w.heap.size + 2) ((w2.setCell ⟨w.heap.size, 6, none⟩ (.slice a1 S.inp.length c1)).setCell ⟨w.heap.size, 15, none⟩ (.slice a2 S.fail.length c2)) (.slice a1 S.inp.length c1) S.inp ∧ Own (w.heap.size + 2) ((w2.setCell ⟨w.heap.size, 6, none⟩ (.slice a1 S.inp.length c1)).setCell ⟨w.heap.size, 15, none⟩ (.slice a2 S.fail.length c2)) (.slice a2 S.fail.length c2) S.fail ∧ Below w.heap.size w ((w2.setCell ⟨w.heap.size, 6, none⟩ (.slice a1 S.inp.length c1)).setCell ⟨w.heap.size, 15, none⟩ (.slice a2 S.fail.length c2))) :=
   fun a1 c1 a2 c2 w2 ⟨x1, x2, x3⟩ ⟨y1, y2⟩ => ⟨a1, c1, a2, c2, rfl, rfl, (x1.set _ _).set _ _, (x2.other _ _ (show w.heap.size + 1 ≠ w.heap.size by omega)).other _ _ (show w.heap.size + 1 ≠ w.heap.size by omega), own_set (own_set y1 _ _ (show w.heap.size < w.heap.size + 2 by omega)) _ _ (show w.heap.size < w.heap.size + 2 by omega), own_set (own_set y2 _ _ (show w.heap.size < w.heap.size + 2 by omega)) _ _ (show w.heap.size < w.heap.size + 2 by omega), Below.setCell (Below.setCell x3 (Nat.le_refl _) _) (Nat.le_refl _) _⟩
  refine wp_region_held_drew (S := fun _ => True) (by kernel_rfl) trivial (fun hH => ?_)
  have H1 : Hid (LB W0.drew w.heap.size 28 D ∧ LB W0.drew (w.heap.size + 1) 28 zcl ∧ Below w.heap.size w W0.drew) := ⟨L1.kept (Below.drew (Below.refl _ _)), L2.kept (Below.drew (Below.refl _ _)), Below.drew B0⟩
  generalize W0.drew = W1 at *
  have cA := H1.out.1.cell 6 (.slice h.ai S.inp.length h.ci) (by rw [HE.out]; rfl)
  have cB := H1.out.1.cell 15 (.slice h.af S.fail.length h.cf) (by rw [HE.out]; rfl)
  refine zqk 0 rfl hH ?_
  simp only [zq]
  refine zqk 3 rfl hH ?_
  simp only [zq]
  refine wpAnyH_ready (rs := [1, 4]) (by kernel_rfl) (by simp) ?_
  refine AllReadyH.cons rfl (fun K hK => ?pr1) ?pr2
  case' pr1 =>
   go_simp
   refine hK.out _ _ trivial (fun _ => ?_)
   clear hK K
   refine wpAnyH_ready (rs := [2, 4]) (by kernel_rfl) (by simp) ?_
   refine AllReadyH.cons rfl (fun K hK => ?pr3) ?pr4
   case' pr3 =>
    go_simp
    refine (HCI.out _ H1.out.2.2).mono ?_
    rintro e w1 ⟨a1, c1, rfl, o1, b1⟩
    have H2 : Hid (LB w1 w.heap.size 28 D ∧ LB w1 (w.heap.size + 1) 28 zcl ∧ Below w.heap.size w w1) := ⟨H1.out.1.kept b1, H1.out.2.1.kept b1, andThen H1.out.2.2 b1⟩
    have HO1 : Hid (Own (w.heap.size + 2) w1 (.slice a1 S.inp.length c1) S.inp) := own_weak o1 H1.out.2.1.lt
    have cB := H2.out.1.cell 15 (.slice h.af S.fail.length h.cf) (by rw [HE.out]; rfl)
    refine hK.out _ _ trivial (fun _ => ?_)
    clear hK K cA o1
    refine zqr 4 rfl (fun K hK => ?_)
    go_simp
    refine hK.out _ _ trivial (fun _ => ?_)
    clear hK K
   case' pr4 =>
    refine AllReadyH.cons rfl (fun K hK => ?_) AllReadyH.nil
    go_simp
    refine hK.out _ _ trivial (fun _ => ?_)
    clear hK K
    refine zqr 2 rfl (fun K hK => ?_)
    go_simp
    refine (HCI.out _ H1.out.2.2).mono ?_
    rintro e w1 ⟨a1, c1, rfl, o1, b1⟩
    have H2 : Hid (LB w1 w.heap.size 28 D ∧ LB w1 (w.heap.size + 1) 28 zcl ∧ Below w.heap.size w w1) := ⟨H1.out.1.kept b1, H1.out.2.1.kept b1, andThen H1.out.2.2 b1⟩
    have HO1 : Hid (Own (w.heap.size + 2) w1 (.slice a1 S.inp.length c1) S.inp) := own_weak o1 H1.out.2.1.lt
    have cB := H2.out.1.cell 15 (.slice h.af S.fail.length h.cf) (by rw [HE.out]; rfl)
    refine hK.out _ _ trivial (fun _ => ?_)
    clear hK K cA o1
  case' pr2 =>
   refine AllReadyH.cons rfl (fun K hK => ?_) AllReadyH.nil
   go_simp
   refine hK.out _ _ trivial (fun _ => ?_)
   clear hK K
   refine zqr 1 rfl (fun K hK => ?_)
   go_simp
   refine hK.out _ _ trivial (fun _ => ?_)
   clear hK K
   refine zqr 2 rfl (fun K hK => ?_)
   go_simp
   refine (HCI.out _ H1.out.2.2).mono ?_
   rintro e w1 ⟨a1, c1, rfl, o1, b1⟩
   have H2 : Hid (LB w1 w.heap.size 28 D ∧ LB w1 (w.heap.size + 1) 28 zcl ∧ Below w.heap.size w w1) := ⟨H1.out.1.kept b1, H1.out.2.1.kept b1, andThen H1.out.2.2 b1⟩
   have HO1 : Hid (Own (w.heap.size + 2) w1 (.slice a1 S.inp.length c1) S.inp) := own_weak o1 H1.out.2.1.lt
   have cB := H2.out.1.cell 15 (.slice h.af S.fail.length h.cf) (by rw [HE.out]; rfl)
   refine hK.out _ _ trivial (fun _ => ?_)
   clear hK K cA o1
  all_goals
   refine zqk 6 rfl hH ?_
   simp only [zq]
   refine zqr 5 rfl (fun K hK => ?_)
   go_simp
   refine (HCF.out _ H2.out.2.2).mono ?_
   rintro e w2 ⟨a2, c2, rfl, o2, b2⟩
   have H3 : Hid (LB w2 w.heap.size 28 D ∧ LB w2 (w.heap.size + 1) 28 zcl ∧ Below w.heap.size w w2) := ⟨H2.out.1.kept b2, H2.out.2.1.kept b2, andThen H2.out.2.2 b2⟩
   have HO2 : Hid (Own (w.heap.size + 2) w2 (.slice a1 S.inp.length c1) S.inp ∧ Own (w.heap.size + 2) w2 (.slice a2 S.fail.length c2) S.fail) := ⟨HO1.out.kept b2, own_weak o2 (Nat.le_trans H2.out.2.1.lt (Nat.le_refl _))⟩
   have cA := H3.out.1.cell 6 (.slice h.ai S.inp.length h.ci) (by rw [HE.out]; rfl)
   have cB2 := H3.out.1.cell 15 (.slice h.af S.fail.length h.cf) (by rw [HE.out]; rfl)
   have fA := H3.out.1.free 6
   have fB := H3.out.1.free 15
   refine hK.out _ _ trivial (fun _ => ?_)
   clear hK K
   refine zqr 7 rfl (fun K hK => ?_)
   go_simp
   refine hK.out _ _ trivial (fun _ => ?_)
   clear hK K
   refine zqk 8 rfl hH ?_
   simp only [zq]
   refine zqr 9 rfl (fun K hK => ?_)
   go_simp
   refine hK.out _ _ trivial (fun _ => ?_)
   clear hK K
   refine wpAnyH_done (by kernel_rfl) ?_ _
   go_wp2_with fail
   go_meet
   exact FIN.out a1 c1 a2 c2 w2 H3.out HO2.out
 case rest =>
  obtain ⟨ai, ci, af, cf, rfl, rfl, l1, l2, oi, of1, b⟩ := hcut
  obtain ⟨D2, hD2⟩ : ∃ D2, (D.set 6 (.slice ai S.inp.length ci)).set 15 (.slice af S.fail.length cf) = D2 := ⟨_, rfl⟩
  rw [hD2] at l1
  have HE2 : Hid (D2 = scl S ⟨ai, ci, h.ao, h.co, h.au, h.cu, af, cf⟩) := by show _ = _; rw [← hD2, HE.out]; rfl
  clear hD2 H0 L1 L2 B0 HCI HCF HK
  generalize wc = W2 at *
  go_wp2
  go_cut [13, 16] from 11 to 18 (fun s1 s2 wx => ∃ a1 c1 a2 c2, s1 = .slice a1 S.outs.length c1 ∧ s2 = .slice a2 S.und.length c2 ∧ LB wx w.heap.size 28 ((D2.set 11 s1).set 12 s2) ∧ LB wx (w.heap.size + 1) 28 zcl ∧ Own (w.heap.size + 2) wx (.slice ai S.inp.length ci) S.inp ∧ Own (w.heap.size + 2) wx (.slice af S.fail.length cf) S.fail ∧ OwnP (w.heap.size + 2) wx s1 S.outs ∧ OwnP (w.heap.size + 2) wx s2 S.und ∧ (∀ g, s1.ownBlock = some g → s2.ownBlock ≠ some g) ∧ Below w.heap.size w wx)
  case first =>
   have FIN : Hid (∀ (a1 : Option Addr) (c1 : Nat) (a2 : Option Addr) (c2 : Nat) (w2 : World), (LB w2 w.heap.size 28 D2 ∧ LB w2 (w.heap.size + 1) 28 zcl ∧ Own (w.heap.size + 2) w2 (.slice ai S.inp.length ci) S.inp ∧ Own (w.heap.size + 2) w2 (.slice af S.fail.length cf) S.fail ∧ Below w.heap.size w w2) → (OwnP (w.heap.size + 2) w2 (.slice a1 S.outs.length c1) S.outs ∧ OwnP (w.heap.size + 2) w2 (.slice a2 S.und.length c2) S.und ∧ ∀ g, (Value.slice a1 S.outs.length c1).ownBlock = some g → (Value.slice a2 S.und.length c2).ownBlock ≠ some g) → ∃ b1 d1 b2 d2, Value.slice a1 S.outs.length c1 = .slice b1 S.outs.length d1 ∧ Value.slice a2 S.und.length c2 = .slice b2 S.und.length d2 ∧ LB ((w2.setCell ⟨w.heap.size, 11, none⟩ (.slice a1 S.outs.length c1)).setCell ⟨w.heap.size, 12, none⟩ (.slice a2 S.und.length c2)) w.heap.size 28 ((D2.set 11 (Value.slice a1 S.outs.length c1)).set 12 (Value.slice a2 S.und.length c2)) ∧ LB ((w2.setCell ⟨w.heap.size, 11, none⟩ (.slice a1 S.outs.length c1)).setCell ⟨w.heap.size, 12, none⟩ (.slice a2 S.und.length c2)) (w.heap.size + 1) 28 zcl ∧ Own (w.heap.size + 2) ((w2.setCell ⟨w.heap.size, 11, none⟩ (.slice a1 S.outs.length c1)).setCell ⟨w.heap.size, 12, none⟩ (.slice a2 S.und.length c2)) (.slice ai S.inp.length ci) S.inp ∧ Own (w.heap.size + 2) ((w2.setCell ⟨w.heap.size, 11, none⟩ (.slice a1 S.outs.length c1)).setCell ⟨w.heap.size, 12, none⟩ (.slice a2 S.und.length c2)) (.slice af S.fail.length cf) S.fail ∧ OwnP (w.heap.size + 2) ((w2.setCell ⟨w.heap.size, 11, none⟩ (.slice a1 S.outs.length c1)).setCell ⟨w.heap.size, 12, none⟩ (.slice a2 S.und.length c2)) (Value.slice a1 S.outs.length c1) S.outs ∧ OwnP (w.heap.size + 2) ((w2.setCell ⟨w.heap.size, 11, none⟩ (.slice a1 S.outs.length c1)).setCell ⟨w.heap.size, 12, none⟩ (.slice a2 S.und.length c2)) (Value.slice a2 S.und.length c2) S.und ∧ (∀ g, (Value.slice a1 S.outs.length c1).ownBlock = some g → (Value.slice a2 S.und.length c2).ownBlock ≠ some g) ∧ Below w.heap.size w ((w2.setCell ⟨w.heap.size, 11, none⟩ (.slice a1 S.outs.length c1)).setCell ⟨w.heap.size, 12, none⟩ (.slice a2 S.und.length c2))) :=
    fun a1 c1 a2 c2 w2 ⟨x1, x2, x3, x4, x5⟩ ⟨y1, y2, y3⟩ => ⟨a1, c1, a2, c2, rfl, rfl, (x1.set _ _).set _ _, (x2.other _ _ (show w.heap.size + 1 ≠ w.heap.size by omega)).other _ _ (show w.heap.size + 1 ≠ w.heap.size by omega), own_set (own_set x3 _ _ (show w.heap.size < w.heap.size + 2 by omega)) _ _ (show w.heap.size < w.heap.size + 2 by omega), own_set (own_set x4 _ _ (show w.heap.size < w.heap.size + 2 by omega)) _ _ (show w.heap.size < w.heap.size + 2 by omega), (y1.setB _ _ (show w.heap.size < w.heap.size + 2 by omega)).setB _ _ (show w.heap.size < w.heap.size + 2 by omega), (y2.setB _ _ (show w.heap.size < w.heap.size + 2 by omega)).setB _ _ (show w.heap.size < w.heap.size + 2 by omega), y3, Below.setCell (Below.setCell x5 (Nat.le_refl _) _) (Nat.le_refl _) _⟩
   refine wp_region_held_drew (S := fun _ => True) (by kernel_rfl) trivial (fun hH => ?_)
   have H1 : Hid (LB W2.drew w.heap.size 28 D2 ∧ LB W2.drew (w.heap.size + 1) 28 zcl ∧ Own (w.heap.size + 2) W2.drew (.slice ai S.inp.length ci) S.inp ∧ Own (w.heap.size + 2) W2.drew (.slice af S.fail.length cf) S.fail ∧ Below w.heap.size w W2.drew) := ⟨l1.kept (Below.drew (Below.refl _ _)), l2.kept (Below.drew (Below.refl _ _)), oi.kept (Below.drew (Below.refl _ _)), of1.kept (Below.drew (Below.refl _ _)), Below.drew b⟩
   generalize W2.drew = W1 at *
   have cA := H1.out.1.cell 11 (.slice h.ao S.outs.length h.co) (by rw [HE2.out]; rfl)
   have cB := H1.out.1.cell 12 (.slice h.au S.und.length h.cu) (by rw [HE2.out]; rfl)
   refine zqk 0 rfl hH ?_
   simp only [zq]
   refine zqk 3 rfl hH ?_
   simp only [zq]
   refine wpAnyH_ready (rs := [1, 4]) (by kernel_rfl) (by simp) ?_
   refine AllReadyH.cons rfl (fun K hK => ?ps1) ?ps2
   case' ps1 =>
    go_simp
    refine hK.out _ _ trivial (fun _ => ?_)
    clear hK K
    refine wpAnyH_ready (rs := [2, 4]) (by kernel_rfl) (by simp) ?_
    refine AllReadyH.cons rfl (fun K hK => ?ps3) ?ps4
    case' ps3 =>
     go_simp
     refine (HCO.out _ H1.out.2.2.2.2).mono ?_
     rintro e w1 ⟨a1, c1, rfl, o1, b1⟩
     have H2 : Hid (LB w1 w.heap.size 28 D2 ∧ LB w1 (w.heap.size + 1) 28 zcl ∧ Own (w.heap.size + 2) w1 (.slice ai S.inp.length ci) S.inp ∧ Own (w.heap.size + 2) w1 (.slice af S.fail.length cf) S.fail ∧ Below w.heap.size w w1) := ⟨H1.out.1.kept b1, H1.out.2.1.kept b1, H1.out.2.2.1.kept b1, H1.out.2.2.2.1.kept b1, andThen H1.out.2.2.2.2 b1⟩
     have HO1 : Hid (OwnP (w.heap.size + 2) w1 (.slice a1 S.outs.length c1) S.outs) := OwnP.weak o1 H1.out.2.1.lt
     have cB := H2.out.1.cell 12 (.slice h.au S.und.length h.cu) (by rw [HE2.out]; rfl)
     refine hK.out _ _ trivial (fun _ => ?_)
     clear hK K cA o1
     refine zqr 4 rfl (fun K hK => ?_)
     go_simp
     refine hK.out _ _ trivial (fun _ => ?_)
     clear hK K
    case' ps4 =>
     refine AllReadyH.cons rfl (fun K hK => ?_) AllReadyH.nil
     go_simp
     refine hK.out _ _ trivial (fun _ => ?_)
     clear hK K
     refine zqr 2 rfl (fun K hK => ?_)
     go_simp
     refine (HCO.out _ H1.out.2.2.2.2).mono ?_
     rintro e w1 ⟨a1, c1, rfl, o1, b1⟩
     have H2 : Hid (LB w1 w.heap.size 28 D2 ∧ LB w1 (w.heap.size + 1) 28 zcl ∧ Own (w.heap.size + 2) w1 (.slice ai S.inp.length ci) S.inp ∧ Own (w.heap.size + 2) w1 (.slice af S.fail.length cf) S.fail ∧ Below w.heap.size w w1) := ⟨H1.out.1.kept b1, H1.out.2.1.kept b1, H1.out.2.2.1.kept b1, H1.out.2.2.2.1.kept b1, andThen H1.out.2.2.2.2 b1⟩
     have HO1 : Hid (OwnP (w.heap.size + 2) w1 (.slice a1 S.outs.length c1) S.outs) := OwnP.weak o1 H1.out.2.1.lt
     have cB := H2.out.1.cell 12 (.slice h.au S.und.length h.cu) (by rw [HE2.out]; rfl)
     refine hK.out _ _ trivial (fun _ => ?_)
     clear hK K cA o1
   case' ps2 =>
    refine AllReadyH.cons rfl (fun K hK => ?_) AllReadyH.nil
    go_simp
    refine hK.out _ _ trivial (fun _ => ?_)
    clear hK K
    refine zqr 1 rfl (fun K hK => ?_)
    go_simp
    refine hK.out _ _ trivial (fun _ => ?_)
    clear hK K
    refine zqr 2 rfl (fun K hK => ?_)
    go_simp
    refine (HCO.out _ H1.out.2.2.2.2).mono ?_
    rintro e w1 ⟨a1, c1, rfl, o1, b1⟩
    have H2 : Hid (LB w1 w.heap.size 28 D2 ∧ LB w1 (w.heap.size + 1) 28 zcl ∧ Own (w.heap.size + 2) w1 (.slice ai S.inp.length ci) S.inp ∧ Own (w.heap.size + 2) w1 (.slice af S.fail.length cf) S.fail ∧ Below w.heap.size w w1) := ⟨H1.out.1.kept b1, H1.out.2.1.kept b1, H1.out.2.2.1.kept b1, H1.out.2.2.2.1.kept b1, andThen H1.out.2.2.2.2 b1⟩
    have HO1 : Hid (OwnP (w.heap.size + 2) w1 (.slice a1 S.outs.length c1) S.outs) := OwnP.weak o1 H1.out.2.1.lt
    have cB := H2.out.1.cell 12 (.slice h.au S.und.length h.cu) (by rw [HE2.out]; rfl)
    refine hK.out _ _ trivial (fun _ => ?_)
    clear hK K cA o1
   all_goals
    refine zqk 6 rfl hH ?_
    simp only [zq]
    refine zqr 5 rfl (fun K hK => ?_)
    go_simp
    refine (HCU.out _ H2.out.2.2.2.2).mono ?_
    rintro e w2 ⟨a2, c2, rfl, o2, b2⟩
    have H3 : Hid (LB w2 w.heap.size 28 D2 ∧ LB w2 (w.heap.size + 1) 28 zcl ∧ Own (w.heap.size + 2) w2 (.slice ai S.inp.length ci) S.inp ∧ Own (w.heap.size + 2) w2 (.slice af S.fail.length cf) S.fail ∧ Below w.heap.size w w2) := ⟨H2.out.1.kept b2, H2.out.2.1.kept b2, H2.out.2.2.1.kept b2, H2.out.2.2.2.1.kept b2, andThen H2.out.2.2.2.2 b2⟩
    have HO2 : Hid (OwnP (w.heap.size + 2) w2 (.slice a1 S.outs.length c1) S.outs ∧ OwnP (w.heap.size + 2) w2 (.slice a2 S.und.length c2) S.und ∧ ∀ g, (Value.slice a1 S.outs.length c1).ownBlock = some g → (Value.slice a2 S.und.length c2).ownBlock ≠ some g) := ⟨HO1.out.kept b2, OwnP.weak o2 (Nat.le_trans H2.out.2.1.lt (Nat.le_refl _)), fun g e e2 => absurd (HO1.out.block g e).2 (Nat.not_lt.2 (o2.block g e2).1)⟩
    have cA := H3.out.1.cell 11 (.slice h.ao S.outs.length h.co) (by rw [HE2.out]; rfl)
    have cB2 := H3.out.1.cell 12 (.slice h.au S.und.length h.cu) (by rw [HE2.out]; rfl)
    have fA := H3.out.1.free 11
    have fB := H3.out.1.free 12
    refine hK.out _ _ trivial (fun _ => ?_)
    clear hK K
    refine zqr 7 rfl (fun K hK => ?_)
    go_simp
    refine hK.out _ _ trivial (fun _ => ?_)
    clear hK K
    refine zqk 8 rfl hH ?_
    simp only [zq]
    refine zqr 9 rfl (fun K hK => ?_)
    go_simp
    refine hK.out _ _ trivial (fun _ => ?_)
    clear hK K
    refine wpAnyH_done (by kernel_rfl) ?_ _
    go_wp2_with fail
    go_meet
    exact FIN.out a1 c1 a2 c2 w2 H3.out HO2.out
  case rest =>
   obtain ⟨a3, c3, a4, c4, rfl, rfl, l3, l4, oi3, of3, oo3, ou3, ap3, b3⟩ := hcut
   obtain ⟨D3, hD3⟩ : ∃ D3, (D2.set 11 (.slice a3 S.outs.length c3)).set 12 (.slice a4 S.und.length c4) = D3 := ⟨_, rfl⟩
   rw [hD3] at l3
   have HE3 : Hid (D3 = scl S ⟨ai, ci, a3, c3, a4, c4, af, cf⟩) := by show _ = _; rw [← hD3, HE2.out]; rfl
   have HL3 : Hid ((Tryd.prog.info? 28).map (·.size) = some D3.length) := by show _ = _; rw [HE3.out]; exact infoSaga
   have H1C : Hid (∀ v ∈ D3, v.oneCell' = true) := by show ∀ v ∈ D3, _; rw [HE3.out]; exact scl_one _ _
   have HLZ : Hid (D3.length = zcl.length) := by show _ = _; rw [HE3.out]; rfl
   clear hD3 HE HE2 l1 l2 oi of1 b HCO HCU HL
   generalize wc = W3 at *
   have HF : Hid (SgOwn w.heap.size (W3.setCells (w.heap.size + 1) 0 D3) S ⟨ai, ci, a3, c3, a4, c4, af, cf⟩ ∧ Below w.heap.size w (W3.setCells (w.heap.size + 1) 0 D3)) :=
    ⟨⟨own_weak (B2 := w.heap.size + 2) (Own.cells oi3 (w.heap.size + 1) 0 D3 (by omega)) (by omega), (oo3.setsB _ _ _ (by omega)).weak (by omega), (ou3.setsB _ _ _ (by omega)).weak (by omega), own_weak (B2 := w.heap.size + 2) (Own.cells of3 (w.heap.size + 1) 0 D3 (by omega)) (by omega), ap3⟩, below_cells (by omega) _ 0 _ b3⟩
   have HR3 : Hid (W3.rangeAt w.heap.size 0 D3) := l3.range
   have HT4 : Hid (W3.there (w.heap.size + 1) 0 D3.toArray.size) := by have e := l4.there; rw [← HLZ.out] at e; show W3.there _ _ _; simpa using e
   have HR5 : Hid ((W3.setCells (w.heap.size + 1) 0 D3).rangeAt (w.heap.size + 1) 0 D3) := (l4.sets D3 HLZ.out).range
   clear l3 l4 oi3 of3 oo3 ou3 ap3 b3 HLZ
   go_wp2_with (first | (refine wpList_load_mid rfl 28 _ rfl w.heap.size 0 rfl D3 _ HR3.out Tryd.underlying28 rfl HL3.out ?_) | (refine wpList_store_mid rfl 28 (.tmp 2) (.tmp 19) rfl (w.heap.size + 1) 0 D3.toArray rfl rfl HT4.out (by simpa using HL3.out) (all_oneCell_toArray H1C.out) ?_))
   refine bodyPost_ret (results_cell_mid rfl _ (W3.setCells (w.heap.size + 1) 0 D3) (w.heap.size + 1) D3 _ rfl HR5.out Tryd.underlying28 rfl HL3.out) rfl ?_
   exact ⟨⟨ai, ci, a3, c3, a4, c4, af, cf⟩, by rw [HE3.out]; rfl, HF.out.1, HF.out.2⟩
theorem lb_rec (w : World) (g : Nat) (t t2 : TypeId) (C E : List Value) (L : LB w g t C) : LB (w.alloc (.cells E.toArray t2)) g t C ∧ LB (w.alloc (.cells E.toArray t2)) w.heap.size t2 E ∧ Below w.heap.size w (w.alloc (.cells E.toArray t2)) := ⟨L.kept (up0 _ _), lb_new _ _ _, up0 _ _⟩
theorem below_le {a b : Nat} {w w' : World} (h : Below a w w') (hb : b ≤ a) : Below b w w' := h.mono hb

theorem start_any (S : Sg) (h : SH) (x : Nums) (nm : ByteArray) (d : Value) (g : Nat) (w : World) (L : LB w g 83 (scl S h)) : Calls Tryd.prog 55 #[.pointer (some ⟨g, 0, none⟩), rv x nm d] w fun e w' => e = .returned (.tuple #[]) ∧ LB w' g 83 (scl { S with x := { S.x with fl := true, tr := x.t } } h) ∧ Below g w w' := by
 obtain ⟨E, hD2, hL2, hE2⟩ := rv_letter x nm d
 rw [hD2]
 obtain ⟨C, hC⟩ : ∃ C, scl S h = C := ⟨_, rfl⟩
 rw [hC] at L
 have HC : Hid (C = scl S h) := hC.symm
 have HE2 : Hid (E = rcE x nm d) := hE2
 have hg : g ≠ w.heap.size := Nat.ne_of_lt L.lt
 have hg2 : w.heap.size ≠ g := Ne.symm hg
 have HX : Hid (∀ t, LB (w.alloc (.cells E.toArray t)) g 83 C ∧ LB (w.alloc (.cells E.toArray t)) w.heap.size t E ∧ Below w.heap.size w (w.alloc (.cells E.toArray t))) := fun t => lb_rec w g _ t C E L
 have HLT : Hid (g ≤ w.heap.size) := Nat.le_of_lt L.lt
 clear hD2 hL2 hE2 hC L
 go_enter Tryd.func55, Tryd.ntmps55
 go_wp2
 have HX1 : Hid _ := HX.out 50
 clear HX
 generalize w.alloc (.cells E.toArray 50) = W1 at HX1 ⊢
 have c9 := HX1.out.1.cell 9 (.bool S.x.fl) (by rw [HC.out]; rfl)
 have f9 := HX1.out.1.free 9
 have c10 := HX1.out.1.cell 10 (.int .i64 S.x.tr) (by rw [HC.out]; rfl)
 have f10 := HX1.out.1.free 10
 have r4 := HX1.out.2.1.cell 4 (.int .i64 x.t) (by rw [HE2.out]; rfl)
 go_region
 go_wp2
 go_end0
 exact ⟨rfl, by have e := ((HX1.out.1.set 9 (.bool true)).set 10 (.int .i64 x.t)); rw [HC.out] at e; exact e, Below.drew (Below.setCell (Below.setCell (below_le HX1.out.2.2 HLT.out) (Nat.le_refl _) _) (Nat.le_refl _) _)⟩
theorem end1_any (S : Sg) (h : SH) (x : Nums) (nm : ByteArray) (d : Value) (g : Nat) (w : World) (L : LB w g 83 (scl S h)) (hp : (S.x.ph == 1) = true) : Calls Tryd.prog 59 #[.pointer (some ⟨g, 0, none⟩), rv x nm d] w fun e w' => e = .returned (.tuple #[]) ∧ LB w' g 83 (scl { S with x := { S.x with ph := 3 } } h) ∧ Below g w w' := by
 obtain ⟨E, hD2, hL2, hE2⟩ := rv_letter x nm d
 rw [hD2]
 obtain ⟨C, hC⟩ : ∃ C, scl S h = C := ⟨_, rfl⟩
 rw [hC] at L
 have HC : Hid (C = scl S h) := hC.symm
 have HE2 : Hid (E = rcE x nm d) := hE2
 have hg : g ≠ w.heap.size := Nat.ne_of_lt L.lt
 have hg2 : w.heap.size ≠ g := Ne.symm hg
 have HX : Hid (∀ t, LB (w.alloc (.cells E.toArray t)) g 83 C ∧ LB (w.alloc (.cells E.toArray t)) w.heap.size t E ∧ Below w.heap.size w (w.alloc (.cells E.toArray t))) := fun t => lb_rec w g _ t C E L
 have HLT : Hid (g ≤ w.heap.size) := Nat.le_of_lt L.lt
 clear hD2 hL2 hE2 hC L
 go_enter Tryd.func59, Tryd.ntmps59
 have HX1 : Hid _ := HX.out 50
 have c7 := HX1.out.1.cell 7 (.int .i64 S.x.ph) (by rw [HC.out]; rfl)
 have f7 := HX1.out.1.free 7
 clear HX
 go_wp2
 go_end0
 exact ⟨rfl, by have e := (HX1.out.1.set 7 (.int .i64 3)); rw [HC.out] at e; exact e, Below.setCell (below_le HX1.out.2.2 HLT.out) (Nat.le_refl _) _⟩
theorem end2_any (S : Sg) (h : SH) (x : Nums) (nm : ByteArray) (d : Value) (g : Nat) (w : World) (L : LB w g 83 (scl S h)) (hp : (S.x.ph == 1) = false) : Calls Tryd.prog 59 #[.pointer (some ⟨g, 0, none⟩), rv x nm d] w fun e w' => e = .returned (.tuple #[]) ∧ LB w' g 83 (scl { S with x := { S.x with ph := 4 } } h) ∧ Below g w w' := by
 obtain ⟨E, hD2, hL2, hE2⟩ := rv_letter x nm d
 rw [hD2]
 obtain ⟨C, hC⟩ : ∃ C, scl S h = C := ⟨_, rfl⟩
 rw [hC] at L
 have HC : Hid (C = scl S h) := hC.symm
 have HE2 : Hid (E = rcE x nm d) := hE2
 have hg : g ≠ w.heap.size := Nat.ne_of_lt L.lt
 have hg2 : w.heap.size ≠ g := Ne.symm hg
 have HX : Hid (∀ t, LB (w.alloc (.cells E.toArray t)) g 83 C ∧ LB (w.alloc (.cells E.toArray t)) w.heap.size t E ∧ Below w.heap.size w (w.alloc (.cells E.toArray t))) := fun t => lb_rec w g _ t C E L
 have HLT : Hid (g ≤ w.heap.size) := Nat.le_of_lt L.lt
 clear hD2 hL2 hE2 hC L
 go_enter Tryd.func59, Tryd.ntmps59
 have HX1 : Hid _ := HX.out 50
 have c7 := HX1.out.1.cell 7 (.int .i64 S.x.ph) (by rw [HC.out]; rfl)
 have f7 := HX1.out.1.free 7
 clear HX
 go_wp2
 go_end0
 exact ⟨rfl, by have e := (HX1.out.1.set 7 (.int .i64 4)); rw [HC.out] at e; exact e, Below.setCell (below_le HX1.out.2.2 HLT.out) (Nat.le_refl _) _⟩
theorem fail0_any (S : Sg) (h : SH) (x : Nums) (nm : ByteArray) (d : Value) (g : Nat) (w : World) (L : LB w g 83 (scl S h)) (hp : (x.l == 0) = true) : Calls Tryd.prog 57 #[.pointer (some ⟨g, 0, none⟩), rv x nm d] w fun e w' => e = .returned (.tuple #[]) ∧ LB w' g 83 (scl { S with x := { S.x with fl := false } } h) ∧ Below g w w' := by
 obtain ⟨E, hD2, hL2, hE2⟩ := rv_letter x nm d
 rw [hD2]
 obtain ⟨C, hC⟩ : ∃ C, scl S h = C := ⟨_, rfl⟩
 rw [hC] at L
 have HC : Hid (C = scl S h) := hC.symm
 have HE2 : Hid (E = rcE x nm d) := hE2
 have hg : g ≠ w.heap.size := Nat.ne_of_lt L.lt
 have hg2 : w.heap.size ≠ g := Ne.symm hg
 have HX : Hid (∀ t, LB (w.alloc (.cells E.toArray t)) g 83 C ∧ LB (w.alloc (.cells E.toArray t)) w.heap.size t E ∧ Below w.heap.size w (w.alloc (.cells E.toArray t))) := fun t => lb_rec w g _ t C E L
 have HLT : Hid (g ≤ w.heap.size) := Nat.le_of_lt L.lt
 clear hD2 hL2 hE2 hC L
 go_enter Tryd.func57, Tryd.ntmps57
 have HX1 : Hid _ := HX.out 50
 have c9 := HX1.out.1.cell 9 (.bool S.x.fl) (by rw [HC.out]; rfl)
 have f9 := HX1.out.1.free 9
 have r6 := HX1.out.2.1.cell 6 (.int .i64 x.l) (by rw [HE2.out]; rfl)
 clear HX
 go_wp2
 refine bodyPost_ret (results_none rfl _ _ _) rfl ?_
 exact ⟨rfl, by have e := (HX1.out.1.set 9 (.bool false)); rw [HC.out] at e; exact e, Below.setCell (below_le HX1.out.2.2 HLT.out) (Nat.le_refl _) _⟩
theorem fail1_any (S : Sg) (h : SH) (x : Nums) (nm : ByteArray) (ad : Option Addr) (l : List Nat) (cd : Nat) (g : Nat) (w : World) (L : LB w g 83 (scl S h)) (hp : (x.l == 0) = false) : Calls Tryd.prog 57 #[.pointer (some ⟨g, 0, none⟩), rv x nm (.slice ad l.length cd)] w fun e w' => e = .returned (.tuple #[]) ∧ LB w' g 83 (scl { S with x := { S.x with fl := false, tr := 0, ph := 2, fs := x.p, fc := x.c }, fail := l } { h with af := ad, cf := cd }) ∧ Below g w w' := by
 obtain ⟨E, hD2, hL2, hE2⟩ := rv_letter x nm (.slice ad l.length cd)
 rw [hD2]
 obtain ⟨C, hC⟩ : ∃ C, scl S h = C := ⟨_, rfl⟩
 rw [hC] at L
 have HC : Hid (C = scl S h) := hC.symm
 have HE2 : Hid (E = rcE x nm (.slice ad l.length cd)) := hE2
 have hg : g ≠ w.heap.size := Nat.ne_of_lt L.lt
 have hg2 : w.heap.size ≠ g := Ne.symm hg
 have HX : Hid (∀ t, LB (w.alloc (.cells E.toArray t)) g 83 C ∧ LB (w.alloc (.cells E.toArray t)) w.heap.size t E ∧ Below w.heap.size w (w.alloc (.cells E.toArray t))) := fun t => lb_rec w g _ t C E L
 have HLT : Hid (g ≤ w.heap.size) := Nat.le_of_lt L.lt
 clear hD2 hL2 hE2 hC L
 go_enter Tryd.func57, Tryd.ntmps57
 have HX1 : Hid _ := HX.out 50
 clear HX
 have c9 := HX1.out.1.cell 9 (.bool S.x.fl) (by rw [HC.out]; rfl)
 have f9 := HX1.out.1.free 9
 have c10 := HX1.out.1.cell 10 (.int .i64 S.x.tr) (by rw [HC.out]; rfl)
 have f10 := HX1.out.1.free 10
 have c7 := HX1.out.1.cell 7 (.int .i64 S.x.ph) (by rw [HC.out]; rfl)
 have f7 := HX1.out.1.free 7
 have c13 := HX1.out.1.cell 13 (.int .i64 S.x.fs) (by rw [HC.out]; rfl)
 have f13 := HX1.out.1.free 13
 have c14 := HX1.out.1.cell 14 (.int .i64 S.x.fc) (by rw [HC.out]; rfl)
 have f14 := HX1.out.1.free 14
 have c15 := HX1.out.1.cell 15 (.slice h.af S.fail.length h.cf) (by rw [HC.out]; rfl)
 have f15 := HX1.out.1.free 15
 have r6 := HX1.out.2.1.cell 6 (.int .i64 x.l) (by rw [HE2.out]; rfl)
 have r3 := HX1.out.2.1.cell 3 (.int .i64 x.p) (by rw [HE2.out]; rfl)
 have r7 := HX1.out.2.1.cell 7 (.int .i64 x.c) (by rw [HE2.out]; rfl)
 have r11 := HX1.out.2.1.cell 11 (.slice ad l.length cd) (by rw [HE2.out]; rfl)
 go_wp2
 have HX2 : Hid _ := HX1.out
 have HW : Hid (∃ W2, W2 = ((((w.alloc (.cells E.toArray 50)).setCell ⟨g, 9, none⟩ (.bool false)).setCell ⟨g, 10, none⟩ (.int .i64 0)).setCell ⟨g, 7, none⟩ (.int .i64 2)) ∧ LB W2 g 83 (((C.set 9 (.bool false)).set 10 (.int .i64 0)).set 7 (.int .i64 2)) ∧ LB W2 w.heap.size 50 E ∧ Below g w W2) := ⟨_, rfl, ((HX1.out.1.set _ _).set _ _).set _ _, ((HX1.out.2.1.other _ _ hg2).other _ _ hg2).other _ _ hg2, Below.setCell (Below.setCell (Below.setCell (below_le HX1.out.2.2 HLT.out) (Nat.le_refl _) _) (Nat.le_refl _) _) (Nat.le_refl _) _⟩
 obtain ⟨W2, hW2, l1, l2, b2⟩ := HW.out
 rw [← hW2]
 clear hW2 HW HX1 HX2 c9 f9 c10 f10 c7 f7 c13 f13 c14 f14 c15 f15 r6 r3 r7 r11
 obtain ⟨C2, hC2⟩ : ∃ C2, ((C.set 9 (.bool false)).set 10 (.int .i64 0)).set 7 (.int .i64 2) = C2 := ⟨_, rfl⟩
 rw [hC2] at l1
 have HC2 : Hid (C2 = scl { S with x := { S.x with fl := false, tr := 0, ph := 2 } } h) := by show _ = _; rw [← hC2, HC.out]; rfl
 clear hC2 HC
 refine wp_region_held_drew (S := fun w' : World => w'.cell? ⟨w.heap.size, 3, none⟩ = some (.int .i64 x.p) ∧ w'.cell? ⟨w.heap.size, 7, none⟩ = some (.int .i64 x.c) ∧ w'.cell? ⟨w.heap.size, 11, none⟩ = some (.slice ad l.length cd)) (by kernel_rfl) ?_ (fun hH => ?_)
 ·exact ⟨(l2.kept (Below.drew (Below.refl _ _))).cell 3 _ (by rw [HE2.out]; rfl), (l2.kept (Below.drew (Below.refl _ _))).cell 7 _ (by rw [HE2.out]; rfl), (l2.kept (Below.drew (Below.refl _ _))).cell 11 _ (by rw [HE2.out]; rfl)⟩
 have HL1 : Hid (LB W2.drew g 83 C2 ∧ LB W2.drew w.heap.size 50 E ∧ Below g w W2.drew) := ⟨l1.kept (Below.drew (Below.refl _ _)), l2.kept (Below.drew (Below.refl _ _)), Below.drew b2⟩
 clear l1 l2 b2
 generalize W2.drew = W3 at *
 have c13 := HL1.out.1.cell 13 (.int .i64 S.x.fs) (by rw [HC2.out]; rfl)
 have f13 := HL1.out.1.free 13
 have c14 := HL1.out.1.cell 14 (.int .i64 S.x.fc) (by rw [HC2.out]; rfl)
 have f14 := HL1.out.1.free 14
 have c15 := HL1.out.1.cell 15 (.slice h.af S.fail.length h.cf) (by rw [HC2.out]; rfl)
 have f15 := HL1.out.1.free 15
 refine zqk 0 rfl hH ?_
 simp only [zq]
 refine zqk 1 rfl hH ?_
 simp only [zq]
 refine zqk 2 rfl hH ?_
 simp only [zq]
 refine zqk 3 rfl hH ?_
 simp only [zq]
 refine zqk 4 rfl hH ?_
 simp only [zq]
 refine zqk 5 rfl hH ?_
 simp only [zq]
 refine zqk 6 rfl hH ?_
 simp only [zq]
 refine zqk 7 rfl hH ?_
 simp only [zq]
 refine zqk 8 rfl hH ?_
 simp only [zq]
 refine zqk 9 rfl hH ?_
 simp only [zq]
 refine zqk 10 rfl hH ?_
 simp only [zq]
 refine zqr 11 rfl (fun K hK => ?_)
 go_simp
 refine hK.out _ _ ?_ (fun hH2 => ?_)
 ·exact ⟨by simp [World.cell?_setCell_far, hg, hH.1], by simp [World.cell?_setCell_far, hg, hH.2.1], by simp [World.cell?_setCell_far, hg, hH.2.2]⟩
 clear hK K hH
 have hH := hH2
 clear hH2
 refine zqk 12 rfl hH ?_
 simp only [zq]
 refine zqk 13 rfl hH ?_
 simp only [zq]
 refine zqr 14 rfl (fun K hK => ?_)
 go_simp
 refine hK.out _ _ ?_ (fun hH2 => ?_)
 ·exact ⟨by simp [World.cell?_setCell_far, hg, hH.1], by simp [World.cell?_setCell_far, hg, hH.2.1], by simp [World.cell?_setCell_far, hg, hH.2.2]⟩
 clear hK K hH
 have hH := hH2
 clear hH2
 refine zqk 15 rfl hH ?_
 simp only [zq]
 refine zqk 16 rfl hH ?_
 simp only [zq]
 refine zqr 17 rfl (fun K hK => ?_)
 go_simp
 refine hK.out _ _ ?_ (fun hH2 => ?_)
 ·exact ⟨by simp [World.cell?_setCell_far, hg, hH.1], by simp [World.cell?_setCell_far, hg, hH.2.1], by simp [World.cell?_setCell_far, hg, hH.2.2]⟩
 clear hK K hH
 have hH := hH2
 clear hH2
 refine wpAnyH_done (by kernel_rfl) ?_ _
 clear hH
 go_wp2
 go_end0
 exact ⟨rfl, by have e := ((HL1.out.1.set 13 (.int .i64 x.p)).set 14 (.int .i64 x.c)).set 15 (.slice ad l.length cd); rw [HC2.out] at e; exact e, Below.setCell (Below.setCell (Below.setCell HL1.out.2.2 (Nat.le_refl _) _) (Nat.le_refl _) _) (Nat.le_refl _) _⟩
structure But (B g : Nat) (row : Option Nat) (w w' : World) : Prop where
 below : Below B w w'
 rest : ∀ b, b < g → row ≠ some b → w'.heap[b]? = w.heap[b]?
theorem own_other {B g : Nat} {row : Option Nat} {w w' : World} {d : Value} {l : List Nat} (h : Own B w d l) (hb : But B g row w w') (h1 : ∀ b, d.ownBlock = some b → b < g ∧ row ≠ some b) : Own B w' d l := own_keptB h fun b e => hb.rest b (h1 b e).1 (h1 b e).2
theorem ownp_other {B g : Nat} {row : Option Nat} {w w' : World} {v : Value} {ls : List (List Nat)} (h : OwnP B w v ls) (hb : But B g row w w') (hg : w.heap.size ≤ g + 1) (hgv : v.ownBlock ≠ some g) (h1 : row ≠ v.ownBlock ∨ v.ownBlock = none) (h2 : ∀ b, row = some b → ∃ cs z, w.heap[b]? = some (.cells cs 25 z)) (h3 : ∃ cs, w.heap[g]? = some (.cells cs 83)) : OwnP B w' v ls := by
 obtain ⟨vs, r1, r2, r3⟩ := h
 refine ⟨vs, row_kept2 r1 fun b e => hb.rest b ?_ ?_, r2, fun j a b => own_keptB (r3 j a b) fun c e => hb.rest c ?_ ?_⟩
 ·have := (row_block r1 b e).2
  have h9 : b ≠ g := fun e2 => hgv (by rw [e, e2])
  omega
 ·intro e2
  rcases h1 with h1 | h1
  ·exact h1 (by rw [e, e2])
  ·rw [h1] at e; cases e
 ·have h8 := (own_block (r3 j a b) c e).2
  have h9 : c ≠ g := by
   rintro rfl
   obtain ⟨cs, h3⟩ := h3
   rcases (r3 j a b).row.2 with ⟨e3, _⟩ | ⟨g', cap, cur, e3, _, hg', _⟩
   ·rw [e3] at e; simp [Value.ownBlock] at e
   ·rw [e3] at e; simp [Value.ownBlock] at e; subst e; rw [hg'] at h3; simp at h3
  omega
 ·intro e2
  obtain ⟨cs, z, h4⟩ := h2 c e2
  rcases (r3 j a b).row.2 with ⟨e3, _⟩ | ⟨g', cap, cur, e3, _, hg', _⟩
  ·rw [e3] at e; simp [Value.ownBlock] at e
  ·rw [e3] at e; simp [Value.ownBlock] at e; subst e; rw [hg'] at h4; simp at h4
theorem row_typed {B : Nat} {w : World} {v : Value} {vs : List Value} (h : Row B w v vs) (b : Nat) (e : v.ownBlock = some b) : ∃ cs z, w.heap[b]? = some (.cells cs 25 z) := by
 rcases h.2 with ⟨rfl, _⟩ | ⟨g', cap, cur, rfl, _, hg', _⟩
 ·simp [Value.ownBlock] at e
 ·simp [Value.ownBlock] at e
  subst e
  exact ⟨_, _, hg'⟩

theorem done_any (S : Sg) (h : SH) (x : Nums) (nm : ByteArray) (ad : Option Addr) (l : List Nat) (cd : Nat) (B g : Nat) (w : World) (L : LB w g 83 (scl S h)) (hB : B ≤ g) (hR : OwnP B w (.slice h.ao S.outs.length h.co) S.outs) (hd : Own B w (.slice ad l.length cd) l) (hn : 0 ≤ S.x.nx ∧ S.x.nx ≤ 32) (hs : S.outs.length ≤ 100) :
  Calls Tryd.prog 56 #[.pointer (some ⟨g, 0, none⟩), rv x nm (.slice ad l.length cd)] w fun e w' => ∃ a', ∃ c' : Nat, e = .returned (.tuple #[]) ∧ LB w' g 83 (scl { S with x := { S.x with fl := false, tr := 0, nx := S.x.nx + 1 }, outs := S.outs ++ [l] } { h with ao := a', co := c' }) ∧ OwnP B w' (.slice a' (S.outs.length + 1) c') (S.outs ++ [l]) ∧ But B g (Value.slice h.ao S.outs.length h.co).ownBlock w w' := by
 obtain ⟨E, hD2, hL2, hE2⟩ := rv_letter x nm (.slice ad l.length cd)
 rw [hD2]
 obtain ⟨C, hC⟩ : ∃ C, scl S h = C := ⟨_, rfl⟩
 rw [hC] at L
 have HC : Hid (C = scl S h) := hC.symm
 have HE2 : Hid (E = rcE x nm (.slice ad l.length cd)) := hE2
 have hg : g ≠ w.heap.size := Nat.ne_of_lt L.lt
 have hg2 : w.heap.size ≠ g := Ne.symm hg
 have HIN : Hid ((Tryd.prog.info? 25).map (fun i => (i.zero, i.size, i.bytes)) = some (some (.slice none 0 0), 1, 24)) := info22
 have i1 : IntKind.i64.wrap (S.x.nx + 1) = S.x.nx + 1 := IntWalk.i64_in _ (by omega)
 obtain ⟨vs, hr, hvl, hve⟩ := hR
 have HX := lb_rec w g 83 50 C E L
 have hlt := L.lt
 have HLT : Hid (g < w.heap.size) := L.lt
 have hoth : ∀ b, b < w.heap.size → b ≠ g → ((((w.alloc (.cells E.toArray 50)).setCell ⟨g, 9, none⟩ (.bool false)).setCell ⟨g, 10, none⟩ (.int .i64 0)).setCell ⟨g, 8, none⟩ (.int .i64 (S.x.nx + 1))).heap[b]? = w.heap[b]? := fun b hb hne => by rw [set_other _ _ _ _ hne, set_other _ _ _ _ hne, set_other _ _ _ _ hne, heap_old _ _ _ hb]
 have hrg : (Value.slice h.ao S.outs.length h.co).ownBlock ≠ some g := fun e => by obtain ⟨cs, z, h9⟩ := row_typed hr g e; rw [L] at h9; simp at h9
 have hdg : ∀ (v : Value) (m : List Nat), Own B w v m → v.ownBlock ≠ some g := fun v m hv e => by rcases hv.row.2 with ⟨e3, _⟩ | ⟨g', cap, cur, e3, _, hg', _⟩; (· rw [e3] at e; simp [Value.ownBlock] at e); (· rw [e3] at e; simp [Value.ownBlock] at e; subst e; rw [L] at hg'; simp at hg')
 have HW : Hid (∃ W2, W2 = ((((w.alloc (.cells E.toArray 50)).setCell ⟨g, 9, none⟩ (.bool false)).setCell ⟨g, 10, none⟩ (.int .i64 0)).setCell ⟨g, 8, none⟩ (.int .i64 (S.x.nx + 1))) ∧ LB W2 g 83 (((C.set 9 (.bool false)).set 10 (.int .i64 0)).set 8 (.int .i64 (S.x.nx + 1))) ∧ LB W2 w.heap.size 50 E ∧ Below g w W2 ∧ Row B W2 (.slice h.ao S.outs.length h.co) vs ∧ (∀ j (h : j < vs.length) (h2 : j < S.outs.length), Own B W2 vs[j] S.outs[j]) ∧ Own B W2 (.slice ad l.length cd) l ∧ (∀ b, b < w.heap.size → b ≠ g → W2.heap[b]? = w.heap[b]?) ∧ w.heap.size < W2.heap.size) := ⟨_, rfl, ((HX.1.set _ _).set _ _).set _ _, ((HX.2.1.other _ _ hg2).other _ _ hg2).other _ _ hg2, Below.setCell (Below.setCell (Below.setCell (below_le HX.2.2 (Nat.le_of_lt hlt)) (Nat.le_refl _) _) (Nat.le_refl _) _) (Nat.le_refl _) _, row_kept2 hr (fun b e => hoth b (row_block hr b e).2 (fun e2 => hrg (by rw [e, e2]))), fun j a b => own_keptB (hve j a b) (fun c e => hoth c (own_block (hve j a b) c e).2 (fun e2 => hdg _ _ (hve j a b) (by rw [e, e2]))), own_keptB hd (fun c e => hoth c (own_block hd c e).2 (fun e2 => hdg _ _ hd (by rw [e, e2]))), hoth, (((HX.2.1.other _ _ hg2).other _ _ hg2).other _ _ hg2).lt⟩
 have HC0 := HX.1
 have c9 := HX.1.cell 9 (.bool S.x.fl) (by rw [HC.out]; rfl)
 have f9 := HX.1.free 9
 have c10 := HX.1.cell 10 (.int .i64 S.x.tr) (by rw [HC.out]; rfl)
 have f10 := HX.1.free 10
 have c8 := HX.1.cell 8 (.int .i64 S.x.nx) (by rw [HC.out]; rfl)
 have f8 := HX.1.free 8
 have HVL : Hid (vs.length = S.outs.length) := hvl
 clear hD2 hL2 hE2 hC L hr hvl hve hd HX hoth hrg hdg HC0 hlt
 go_enter Tryd.func56, Tryd.ntmps56
 go_wp2
 obtain ⟨W2, hW2, HW3⟩ := HW.out
 rw [← hW2]
 have HW4 : Hid _ := HW3
 clear hW2 HW HW3 c9 f9 c10 f10 c8 f8
 obtain ⟨C2, hC2⟩ : ∃ C2, ((C.set 9 (.bool false)).set 10 (.int .i64 0)).set 8 (.int .i64 (S.x.nx + 1)) = C2 := ⟨_, rfl⟩
 rw [hC2] at HW4
 have HC2 : Hid (C2 = scl { S with x := { S.x with fl := false, tr := 0, nx := S.x.nx + 1 } } h) := by show _ = _; rw [← hC2, HC.out]; rfl
 clear hC2 HC i1
 have HKEEP : Hid (∀ W W' : World, (LB W g 83 C2 ∧ LB W w.heap.size 50 E ∧ Below g w W ∧ Row B W (.slice h.ao S.outs.length h.co) vs ∧ (∀ j (h : j < vs.length) (h2 : j < S.outs.length), Own B W vs[j] S.outs[j]) ∧ Own B W (.slice ad l.length cd) l ∧ (∀ b, b < w.heap.size → b ≠ g → W.heap[b]? = w.heap[b]?) ∧ w.heap.size < W.heap.size) → Below W.heap.size W W' → (LB W' g 83 C2 ∧ LB W' w.heap.size 50 E ∧ Below g w W' ∧ Row B W' (.slice h.ao S.outs.length h.co) vs ∧ (∀ j (h : j < vs.length) (h2 : j < S.outs.length), Own B W' vs[j] S.outs[j]) ∧ Own B W' (.slice ad l.length cd) l ∧ (∀ b, b < w.heap.size → b ≠ g → W'.heap[b]? = w.heap[b]?) ∧ w.heap.size < W'.heap.size)) := fun W W' H b9 => ⟨H.1.kept b9, H.2.1.kept b9, H.2.2.1.trans (below_le b9 (Nat.le_of_lt H.1.lt)), H.2.2.2.1.kept b9, fun j a b => (H.2.2.2.2.1 j a b).kept b9, H.2.2.2.2.2.1.kept b9, fun b h1 h2 => (b9.block b (Nat.lt_trans h1 H.2.2.2.2.2.2.2)).trans (H.2.2.2.2.2.2.1 b h1 h2), Nat.lt_of_lt_of_le H.2.2.2.2.2.2.2 b9.size⟩
 have HFIN : Hid (∀ (W W' : World) (v' : Value), (LB W g 83 C2 ∧ LB W w.heap.size 50 E ∧ Below g w W ∧ Row B W (.slice h.ao S.outs.length h.co) vs ∧ (∀ j (h : j < vs.length) (h2 : j < S.outs.length), Own B W vs[j] S.outs[j]) ∧ Own B W (.slice ad l.length cd) l ∧ (∀ b, b < w.heap.size → b ≠ g → W.heap[b]? = w.heap[b]?) ∧ w.heap.size < W.heap.size) → Row B W' v' (vs ++ [.slice ad l.length cd]) → Below B W W' → W.grownBy W' (Value.slice h.ao S.outs.length h.co).ownBlock → ∃ a', ∃ c' : Nat, LB (W'.setCell ⟨g, 11, none⟩ v') g 83 (scl { S with x := { S.x with fl := false, tr := 0, nx := S.x.nx + 1 }, outs := S.outs ++ [l] } { h with ao := a', co := c' }) ∧ OwnP B (W'.setCell ⟨g, 11, none⟩ v') (.slice a' (S.outs.length + 1) c') (S.outs ++ [l]) ∧ But B g (Value.slice h.ao S.outs.length h.co).ownBlock w (W'.setCell ⟨g, 11, none⟩ v')) := by
  intro W W' v' H hrow hb' hgr
  have hrg : (Value.slice h.ao S.outs.length h.co).ownBlock ≠ some g := fun e => by obtain ⟨cs, z, h9⟩ := row_typed H.2.2.2.1 g e; rw [H.1] at h9; simp at h9
  have hpush := OwnP.push H.2.2.2.1 HVL.out H.2.2.2.2.1 H.2.2.2.2.2.1 hrow hgr
  have hLg : LB W' g 83 C2 := (hgr.block g H.1.lt (Ne.symm hrg)).trans H.1
  obtain ⟨a', c', e'⟩ := hpush.shape
  have hln : (S.outs ++ [l]).length = S.outs.length + 1 := by simp
  rw [hln] at e'
  subst e'
  have hrow2 : (Value.slice a' (S.outs.length + 1) c').ownBlock ≠ some g := fun e => by obtain ⟨cs, z, h9⟩ := row_typed hrow g e; rw [hLg] at h9; simp at h9
  refine ⟨a', c', ?_, ?_, ⟨?_, ?_⟩⟩
  ·have e := hLg.set 11 (.slice a' (S.outs.length + 1) c')
   rw [HC2.out] at e
   have e3 : scl { S with x := { S.x with fl := false, tr := 0, nx := S.x.nx + 1 }, outs := S.outs ++ [l] } { h with ao := a', co := c' } = (scl { S with x := { S.x with fl := false, tr := 0, nx := S.x.nx + 1 } } h).set 11 (.slice a' (S.outs.length + 1) c') := by simp [scl]
   rw [e3]; exact e
  ·obtain ⟨us, u1, u2, u3⟩ := hpush
   refine ⟨us, row_kept2 u1 (fun b e => set_other _ _ _ _ (fun e2 => hrow2 (by rw [e]; exact congrArg some e2))), u2, fun j a b => own_keptB (u3 j a b) (fun c e => set_other _ _ _ _ (fun e2 => ?_))⟩
   rcases (u3 j a b).row.2 with ⟨e3, _⟩ | ⟨g', cap, cur, e3, _, hg', _⟩
   ·rw [e3] at e; simp [Value.ownBlock] at e
   ·rw [e3] at e; simp [Value.ownBlock] at e; subst e; have e2' : g' = g := e2; subst e2'; rw [hLg] at hg'; simp at hg'
  ·exact Below.setCell ((below_le H.2.2.1 hB).trans hb') hB _
  ·intro b hbg hne
   rw [set_other _ _ _ _ (show b ≠ g by omega), hgr.block b (by have := H.1.lt; omega) (Ne.symm hne)]
   exact H.2.2.2.2.2.2.1 b (Nat.lt_trans hbg HLT.out) (by omega)
 refine wp_region_held_drew (S := fun _ => True) (by kernel_rfl) trivial (fun hH => ?_)
 have H1 : Hid (LB W2.drew g 83 C2 ∧ LB W2.drew w.heap.size 50 E ∧ Below g w W2.drew ∧ Row B W2.drew (.slice h.ao S.outs.length h.co) vs ∧ (∀ j (h : j < vs.length) (h2 : j < S.outs.length), Own B W2.drew vs[j] S.outs[j]) ∧ Own B W2.drew (.slice ad l.length cd) l ∧ (∀ b, b < w.heap.size → b ≠ g → W2.drew.heap[b]? = w.heap[b]?) ∧ w.heap.size < W2.drew.heap.size) := HKEEP.out _ _ HW4.out (Below.drew (Below.refl _ _))
 clear HW4
 generalize W2.drew = W3 at *
 have cO := H1.out.1.cell 11 (.slice h.ao S.outs.length h.co) (by rw [HC2.out]; rfl)
 have cR := H1.out.2.1.cell 11 (.slice ad l.length cd) (by rw [HE2.out]; rfl)
 refine zqk 0 rfl hH ?_
 simp only [zq]
 refine zqk 1 rfl hH ?_
 simp only [zq]
 refine zqk 2 rfl hH ?_
 simp only [zq]
 refine zqk 3 rfl hH ?_
 simp only [zq]
 refine zqk 5 rfl hH ?_
 simp only [zq]
 refine wpAnyH_ready (rs := [4, 6]) (by kernel_rfl) (by simp) ?_
 refine AllReadyH.cons rfl (fun K hK => ?p1) ?p2
 case' p1 =>
  go_simp
  refine hK.out _ _ trivial (fun _ => ?_)
  clear hK K
  refine zqr 6 rfl (fun K hK => ?_)
  go_simp
  refine hK.out _ _ trivial (fun _ => ?_)
  clear hK K
  refine zqr 7 rfl (fun K hK => ?_)
  go_simp
  refine hK.out _ _ trivial (fun _ => ?_)
  clear hK K
  have H2 : Hid (LB (W3.alloc (.cells #[.slice ad l.length cd] 25)) g 83 C2 ∧ LB (W3.alloc (.cells #[.slice ad l.length cd] 25)) w.heap.size 50 E ∧ Below g w (W3.alloc (.cells #[.slice ad l.length cd] 25)) ∧ Row B (W3.alloc (.cells #[.slice ad l.length cd] 25)) (.slice h.ao S.outs.length h.co) vs ∧ (∀ j (h : j < vs.length) (h2 : j < S.outs.length), Own B (W3.alloc (.cells #[.slice ad l.length cd] 25)) vs[j] S.outs[j]) ∧ Own B (W3.alloc (.cells #[.slice ad l.length cd] 25)) (.slice ad l.length cd) l ∧ (∀ b, b < w.heap.size → b ≠ g → (W3.alloc (.cells #[.slice ad l.length cd] 25)).heap[b]? = w.heap[b]?) ∧ w.heap.size < (W3.alloc (.cells #[.slice ad l.length cd] 25)).heap.size) := HKEEP.out _ _ H1.out (up0 _ _)
  have HCE : Hid ((W3.alloc (.cells #[.slice ad l.length cd] 25)).cell? ⟨W3.heap.size, 0, none⟩ = some (.slice ad l.length cd)) := by show _ = _; rw [World.cell?_alloc_new]; rfl
  have cO2 := H2.out.1.cell 11 (.slice h.ao S.outs.length h.co) (by rw [HC2.out]; rfl)
 case' p2 =>
  refine AllReadyH.cons rfl (fun K hK => ?_) AllReadyH.nil
  go_simp
  refine hK.out _ _ trivial (fun _ => ?_)
  clear hK K
  refine wpAnyH_ready (rs := [4, 7]) (by kernel_rfl) (by simp) ?_
  refine AllReadyH.cons rfl (fun K hK => ?p3) ?p4
  case' p3 =>
   go_simp
   refine hK.out _ _ trivial (fun _ => ?_)
   clear hK K
   refine zqr 7 rfl (fun K hK => ?_)
   go_simp
   refine hK.out _ _ trivial (fun _ => ?_)
   clear hK K
   have H2 : Hid (LB (W3.alloc (.cells #[.slice ad l.length cd] 25)) g 83 C2 ∧ LB (W3.alloc (.cells #[.slice ad l.length cd] 25)) w.heap.size 50 E ∧ Below g w (W3.alloc (.cells #[.slice ad l.length cd] 25)) ∧ Row B (W3.alloc (.cells #[.slice ad l.length cd] 25)) (.slice h.ao S.outs.length h.co) vs ∧ (∀ j (h : j < vs.length) (h2 : j < S.outs.length), Own B (W3.alloc (.cells #[.slice ad l.length cd] 25)) vs[j] S.outs[j]) ∧ Own B (W3.alloc (.cells #[.slice ad l.length cd] 25)) (.slice ad l.length cd) l ∧ (∀ b, b < w.heap.size → b ≠ g → (W3.alloc (.cells #[.slice ad l.length cd] 25)).heap[b]? = w.heap[b]?) ∧ w.heap.size < (W3.alloc (.cells #[.slice ad l.length cd] 25)).heap.size) := HKEEP.out _ _ H1.out (up0 _ _)
   have HCE : Hid ((W3.alloc (.cells #[.slice ad l.length cd] 25)).cell? ⟨W3.heap.size, 0, none⟩ = some (.slice ad l.length cd)) := by show _ = _; rw [World.cell?_alloc_new]; rfl
   have cO2 := H2.out.1.cell 11 (.slice h.ao S.outs.length h.co) (by rw [HC2.out]; rfl)
  case' p4 =>
   refine AllReadyH.cons rfl (fun K hK => ?_) AllReadyH.nil
   go_simp
   refine hK.out _ _ trivial (fun _ => ?_)
   clear hK K
   have H2 : Hid (LB (W3.alloc (.cells #[.slice ad l.length cd] 25)) g 83 C2 ∧ LB (W3.alloc (.cells #[.slice ad l.length cd] 25)) w.heap.size 50 E ∧ Below g w (W3.alloc (.cells #[.slice ad l.length cd] 25)) ∧ Row B (W3.alloc (.cells #[.slice ad l.length cd] 25)) (.slice h.ao S.outs.length h.co) vs ∧ (∀ j (h : j < vs.length) (h2 : j < S.outs.length), Own B (W3.alloc (.cells #[.slice ad l.length cd] 25)) vs[j] S.outs[j]) ∧ Own B (W3.alloc (.cells #[.slice ad l.length cd] 25)) (.slice ad l.length cd) l ∧ (∀ b, b < w.heap.size → b ≠ g → (W3.alloc (.cells #[.slice ad l.length cd] 25)).heap[b]? = w.heap[b]?) ∧ w.heap.size < (W3.alloc (.cells #[.slice ad l.length cd] 25)).heap.size) := HKEEP.out _ _ H1.out (up0 _ _)
   have HCE : Hid ((W3.alloc (.cells #[.slice ad l.length cd] 25)).cell? ⟨W3.heap.size, 0, none⟩ = some (.slice ad l.length cd)) := by show _ = _; rw [World.cell?_alloc_new]; rfl
   have cO2 := H2.out.1.cell 11 (.slice h.ao S.outs.length h.co) (by rw [HC2.out]; rfl)
   refine zqr 4 rfl (fun K hK => ?_)
   go_simp
   refine hK.out _ _ trivial (fun _ => ?_)
   clear hK K
 all_goals
  refine zqr 8 rfl (fun K hK => ?_)
  refine step_push rfl (.tmp 21) (.tmp 24) 26 rfl B HIN.out Tryd.underlying26 (.slice h.ao S.outs.length h.co) vs rfl H2.out.2.2.2.1 W3.heap.size (.slice ad l.length cd) rfl HCE.out rfl (by rw [HVL.out]; omega) (Nat.le_trans hB (Nat.le_of_lt H2.out.1.lt)) ?_
  intro v' w' hrow hb' hgr
  have HF : Hid _ := HFIN.out _ _ _ H2.out hrow hb' hgr
  have hrg : (Value.slice h.ao S.outs.length h.co).ownBlock ≠ some g := fun e => by obtain ⟨cs, z, h9⟩ := row_typed H2.out.2.2.2.1 g e; rw [H2.out.1] at h9; simp at h9
  have hLg : LB w' g 83 C2 := (hgr.block g H2.out.1.lt (Ne.symm hrg)).trans H2.out.1
  have cg := hLg.cell 11 (.slice h.ao S.outs.length h.co) (by rw [HC2.out]; rfl)
  have fg := hLg.free 11
  have h1c : v'.oneCell' = true := by rcases Row.shape hrow with ⟨e, _⟩ | ⟨_, _, e, _⟩ <;> (rw [e]; rfl)
  obtain ⟨a9, n9, c9, e9⟩ : ∃ a n c, v' = .slice a n c := by rcases Row.shape hrow with ⟨e, _⟩ | ⟨_, _, e, _⟩ <;> exact ⟨_, _, _, e⟩
  subst e9
  refine hK.out _ _ trivial (fun _ => ?_)
  clear hK K hrow hb' hgr hrg hLg h1c H1 H2 cO cO2 cR HKEEP HFIN
  simp only [zq]
  refine zqk 9 rfl hH ?_
  simp only [zq]
  refine zqk 10 rfl hH ?_
  simp only [zq]
  refine zqr 11 rfl (fun K hK => ?_)
  go_simp
  refine hK.out _ _ trivial (fun _ => ?_)
  clear hK K
  refine wpAnyH_done (by kernel_rfl) ?_ _
  go_wp2
  go_end0
  obtain ⟨a', c', q1, q2, q3⟩ := HF.out
  exact ⟨rfl, a', c', q1, q2, q3⟩
theorem undone_any (S : Sg) (h : SH) (x : Nums) (nm : ByteArray) (ad : Option Addr) (l : List Nat) (cd : Nat) (B g : Nat) (w : World) (L : LB w g 83 (scl S h)) (hB : B ≤ g) (hR : OwnP B w (.slice h.au S.und.length h.cu) S.und) (hd : Own B w (.slice ad l.length cd) l) (hn : 0 ≤ S.x.nx ∧ S.x.nx ≤ 32) (hs : S.und.length ≤ 100) :
  Calls Tryd.prog 58 #[.pointer (some ⟨g, 0, none⟩), rv x nm (.slice ad l.length cd)] w fun e w' => ∃ a', ∃ c' : Nat, e = .returned (.tuple #[]) ∧ LB w' g 83 (scl { S with x := { S.x with fl := false, tr := 0, nx := S.x.nx - 1 }, und := S.und ++ [l] } { h with au := a', cu := c' }) ∧ OwnP B w' (.slice a' (S.und.length + 1) c') (S.und ++ [l]) ∧ But B g (Value.slice h.au S.und.length h.cu).ownBlock w w' := by
 obtain ⟨E, hD2, hL2, hE2⟩ := rv_letter x nm (.slice ad l.length cd)
 rw [hD2]
 obtain ⟨C, hC⟩ : ∃ C, scl S h = C := ⟨_, rfl⟩
 rw [hC] at L
 have HC : Hid (C = scl S h) := hC.symm
 have HE2 : Hid (E = rcE x nm (.slice ad l.length cd)) := hE2
 have hg : g ≠ w.heap.size := Nat.ne_of_lt L.lt
 have hg2 : w.heap.size ≠ g := Ne.symm hg
 have HIN : Hid ((Tryd.prog.info? 25).map (fun i => (i.zero, i.size, i.bytes)) = some (some (.slice none 0 0), 1, 24)) := info22
 have i1 : IntKind.i64.wrap (S.x.nx - 1) = S.x.nx - 1 := IntWalk.i64_in _ (by omega)
 obtain ⟨vs, hr, hvl, hve⟩ := hR
 have HX := lb_rec w g 83 50 C E L
 have hlt := L.lt
 have HLT : Hid (g < w.heap.size) := L.lt
 have hoth : ∀ b, b < w.heap.size → b ≠ g → ((((w.alloc (.cells E.toArray 50)).setCell ⟨g, 9, none⟩ (.bool false)).setCell ⟨g, 10, none⟩ (.int .i64 0)).setCell ⟨g, 8, none⟩ (.int .i64 (S.x.nx - 1))).heap[b]? = w.heap[b]? := fun b hb hne => by rw [set_other _ _ _ _ hne, set_other _ _ _ _ hne, set_other _ _ _ _ hne, heap_old _ _ _ hb]
 have hrg : (Value.slice h.au S.und.length h.cu).ownBlock ≠ some g := fun e => by obtain ⟨cs, z, h9⟩ := row_typed hr g e; rw [L] at h9; simp at h9
 have hdg : ∀ (v : Value) (m : List Nat), Own B w v m → v.ownBlock ≠ some g := fun v m hv e => by rcases hv.row.2 with ⟨e3, _⟩ | ⟨g', cap, cur, e3, _, hg', _⟩; (· rw [e3] at e; simp [Value.ownBlock] at e); (· rw [e3] at e; simp [Value.ownBlock] at e; subst e; rw [L] at hg'; simp at hg')
 have HW : Hid (∃ W2, W2 = ((((w.alloc (.cells E.toArray 50)).setCell ⟨g, 9, none⟩ (.bool false)).setCell ⟨g, 10, none⟩ (.int .i64 0)).setCell ⟨g, 8, none⟩ (.int .i64 (S.x.nx - 1))) ∧ LB W2 g 83 (((C.set 9 (.bool false)).set 10 (.int .i64 0)).set 8 (.int .i64 (S.x.nx - 1))) ∧ LB W2 w.heap.size 50 E ∧ Below g w W2 ∧ Row B W2 (.slice h.au S.und.length h.cu) vs ∧ (∀ j (h : j < vs.length) (h2 : j < S.und.length), Own B W2 vs[j] S.und[j]) ∧ Own B W2 (.slice ad l.length cd) l ∧ (∀ b, b < w.heap.size → b ≠ g → W2.heap[b]? = w.heap[b]?) ∧ w.heap.size < W2.heap.size) := ⟨_, rfl, ((HX.1.set _ _).set _ _).set _ _, ((HX.2.1.other _ _ hg2).other _ _ hg2).other _ _ hg2, Below.setCell (Below.setCell (Below.setCell (below_le HX.2.2 (Nat.le_of_lt hlt)) (Nat.le_refl _) _) (Nat.le_refl _) _) (Nat.le_refl _) _, row_kept2 hr (fun b e => hoth b (row_block hr b e).2 (fun e2 => hrg (by rw [e, e2]))), fun j a b => own_keptB (hve j a b) (fun c e => hoth c (own_block (hve j a b) c e).2 (fun e2 => hdg _ _ (hve j a b) (by rw [e, e2]))), own_keptB hd (fun c e => hoth c (own_block hd c e).2 (fun e2 => hdg _ _ hd (by rw [e, e2]))), hoth, (((HX.2.1.other _ _ hg2).other _ _ hg2).other _ _ hg2).lt⟩
 have HC0 := HX.1
 have c9 := HX.1.cell 9 (.bool S.x.fl) (by rw [HC.out]; rfl)
 have f9 := HX.1.free 9
 have c10 := HX.1.cell 10 (.int .i64 S.x.tr) (by rw [HC.out]; rfl)
 have f10 := HX.1.free 10
 have c8 := HX.1.cell 8 (.int .i64 S.x.nx) (by rw [HC.out]; rfl)
 have f8 := HX.1.free 8
 have HVL : Hid (vs.length = S.und.length) := hvl
 clear hD2 hL2 hE2 hC L hr hvl hve hd HX hoth hrg hdg HC0 hlt
 go_enter Tryd.func58, Tryd.ntmps58
 go_wp2
 obtain ⟨W2, hW2, HW3⟩ := HW.out
 rw [← hW2]
 have HW4 : Hid _ := HW3
 clear hW2 HW HW3 c9 f9 c10 f10 c8 f8
 obtain ⟨C2, hC2⟩ : ∃ C2, ((C.set 9 (.bool false)).set 10 (.int .i64 0)).set 8 (.int .i64 (S.x.nx - 1)) = C2 := ⟨_, rfl⟩
 rw [hC2] at HW4
 have HC2 : Hid (C2 = scl { S with x := { S.x with fl := false, tr := 0, nx := S.x.nx - 1 } } h) := by show _ = _; rw [← hC2, HC.out]; rfl
 clear hC2 HC i1
 have HKEEP : Hid (∀ W W' : World, (LB W g 83 C2 ∧ LB W w.heap.size 50 E ∧ Below g w W ∧ Row B W (.slice h.au S.und.length h.cu) vs ∧ (∀ j (h : j < vs.length) (h2 : j < S.und.length), Own B W vs[j] S.und[j]) ∧ Own B W (.slice ad l.length cd) l ∧ (∀ b, b < w.heap.size → b ≠ g → W.heap[b]? = w.heap[b]?) ∧ w.heap.size < W.heap.size) → Below W.heap.size W W' → (LB W' g 83 C2 ∧ LB W' w.heap.size 50 E ∧ Below g w W' ∧ Row B W' (.slice h.au S.und.length h.cu) vs ∧ (∀ j (h : j < vs.length) (h2 : j < S.und.length), Own B W' vs[j] S.und[j]) ∧ Own B W' (.slice ad l.length cd) l ∧ (∀ b, b < w.heap.size → b ≠ g → W'.heap[b]? = w.heap[b]?) ∧ w.heap.size < W'.heap.size)) := fun W W' H b9 => ⟨H.1.kept b9, H.2.1.kept b9, H.2.2.1.trans (below_le b9 (Nat.le_of_lt H.1.lt)), H.2.2.2.1.kept b9, fun j a b => (H.2.2.2.2.1 j a b).kept b9, H.2.2.2.2.2.1.kept b9, fun b h1 h2 => (b9.block b (Nat.lt_trans h1 H.2.2.2.2.2.2.2)).trans (H.2.2.2.2.2.2.1 b h1 h2), Nat.lt_of_lt_of_le H.2.2.2.2.2.2.2 b9.size⟩
 have HFIN : Hid (∀ (W W' : World) (v' : Value), (LB W g 83 C2 ∧ LB W w.heap.size 50 E ∧ Below g w W ∧ Row B W (.slice h.au S.und.length h.cu) vs ∧ (∀ j (h : j < vs.length) (h2 : j < S.und.length), Own B W vs[j] S.und[j]) ∧ Own B W (.slice ad l.length cd) l ∧ (∀ b, b < w.heap.size → b ≠ g → W.heap[b]? = w.heap[b]?) ∧ w.heap.size < W.heap.size) → Row B W' v' (vs ++ [.slice ad l.length cd]) → Below B W W' → W.grownBy W' (Value.slice h.au S.und.length h.cu).ownBlock → ∃ a', ∃ c' : Nat, LB (W'.setCell ⟨g, 12, none⟩ v') g 83 (scl { S with x := { S.x with fl := false, tr := 0, nx := S.x.nx - 1 }, und := S.und ++ [l] } { h with au := a', cu := c' }) ∧ OwnP B (W'.setCell ⟨g, 12, none⟩ v') (.slice a' (S.und.length + 1) c') (S.und ++ [l]) ∧ But B g (Value.slice h.au S.und.length h.cu).ownBlock w (W'.setCell ⟨g, 12, none⟩ v')) := by
  intro W W' v' H hrow hb' hgr
  have hrg : (Value.slice h.au S.und.length h.cu).ownBlock ≠ some g := fun e => by obtain ⟨cs, z, h9⟩ := row_typed H.2.2.2.1 g e; rw [H.1] at h9; simp at h9
  have hpush := OwnP.push H.2.2.2.1 HVL.out H.2.2.2.2.1 H.2.2.2.2.2.1 hrow hgr
  have hLg : LB W' g 83 C2 := (hgr.block g H.1.lt (Ne.symm hrg)).trans H.1
  obtain ⟨a', c', e'⟩ := hpush.shape
  have hln : (S.und ++ [l]).length = S.und.length + 1 := by simp
  rw [hln] at e'
  subst e'
  have hrow2 : (Value.slice a' (S.und.length + 1) c').ownBlock ≠ some g := fun e => by obtain ⟨cs, z, h9⟩ := row_typed hrow g e; rw [hLg] at h9; simp at h9
  refine ⟨a', c', ?_, ?_, ⟨?_, ?_⟩⟩
  ·have e := hLg.set 12 (.slice a' (S.und.length + 1) c')
   rw [HC2.out] at e
   have e3 : scl { S with x := { S.x with fl := false, tr := 0, nx := S.x.nx - 1 }, und := S.und ++ [l] } { h with au := a', cu := c' } = (scl { S with x := { S.x with fl := false, tr := 0, nx := S.x.nx - 1 } } h).set 12 (.slice a' (S.und.length + 1) c') := by simp [scl]
   rw [e3]; exact e
  ·obtain ⟨us, u1, u2, u3⟩ := hpush
   refine ⟨us, row_kept2 u1 (fun b e => set_other _ _ _ _ (fun e2 => hrow2 (by rw [e]; exact congrArg some e2))), u2, fun j a b => own_keptB (u3 j a b) (fun c e => set_other _ _ _ _ (fun e2 => ?_))⟩
   rcases (u3 j a b).row.2 with ⟨e3, _⟩ | ⟨g', cap, cur, e3, _, hg', _⟩
   ·rw [e3] at e; simp [Value.ownBlock] at e
   ·rw [e3] at e; simp [Value.ownBlock] at e; subst e; have e2' : g' = g := e2; subst e2'; rw [hLg] at hg'; simp at hg'
  ·exact Below.setCell ((below_le H.2.2.1 hB).trans hb') hB _
  ·intro b hbg hne
   rw [set_other _ _ _ _ (show b ≠ g by omega), hgr.block b (by have := H.1.lt; omega) (Ne.symm hne)]
   exact H.2.2.2.2.2.2.1 b (Nat.lt_trans hbg HLT.out) (by omega)
 refine wp_region_held_drew (S := fun _ => True) (by kernel_rfl) trivial (fun hH => ?_)
 have H1 : Hid (LB W2.drew g 83 C2 ∧ LB W2.drew w.heap.size 50 E ∧ Below g w W2.drew ∧ Row B W2.drew (.slice h.au S.und.length h.cu) vs ∧ (∀ j (h : j < vs.length) (h2 : j < S.und.length), Own B W2.drew vs[j] S.und[j]) ∧ Own B W2.drew (.slice ad l.length cd) l ∧ (∀ b, b < w.heap.size → b ≠ g → W2.drew.heap[b]? = w.heap[b]?) ∧ w.heap.size < W2.drew.heap.size) := HKEEP.out _ _ HW4.out (Below.drew (Below.refl _ _))
 clear HW4
 generalize W2.drew = W3 at *
 have cO := H1.out.1.cell 12 (.slice h.au S.und.length h.cu) (by rw [HC2.out]; rfl)
 have cR := H1.out.2.1.cell 11 (.slice ad l.length cd) (by rw [HE2.out]; rfl)
 refine zqk 0 rfl hH ?_
 simp only [zq]
 refine zqk 1 rfl hH ?_
 simp only [zq]
 refine zqk 2 rfl hH ?_
 simp only [zq]
 refine zqk 3 rfl hH ?_
 simp only [zq]
 refine zqk 5 rfl hH ?_
 simp only [zq]
 refine wpAnyH_ready (rs := [4, 6]) (by kernel_rfl) (by simp) ?_
 refine AllReadyH.cons rfl (fun K hK => ?p1) ?p2
 case' p1 =>
  go_simp
  refine hK.out _ _ trivial (fun _ => ?_)
  clear hK K
  refine zqr 6 rfl (fun K hK => ?_)
  go_simp
  refine hK.out _ _ trivial (fun _ => ?_)
  clear hK K
  refine zqr 7 rfl (fun K hK => ?_)
  go_simp
  refine hK.out _ _ trivial (fun _ => ?_)
  clear hK K
  have H2 : Hid (LB (W3.alloc (.cells #[.slice ad l.length cd] 25)) g 83 C2 ∧ LB (W3.alloc (.cells #[.slice ad l.length cd] 25)) w.heap.size 50 E ∧ Below g w (W3.alloc (.cells #[.slice ad l.length cd] 25)) ∧ Row B (W3.alloc (.cells #[.slice ad l.length cd] 25)) (.slice h.au S.und.length h.cu) vs ∧ (∀ j (h : j < vs.length) (h2 : j < S.und.length), Own B (W3.alloc (.cells #[.slice ad l.length cd] 25)) vs[j] S.und[j]) ∧ Own B (W3.alloc (.cells #[.slice ad l.length cd] 25)) (.slice ad l.length cd) l ∧ (∀ b, b < w.heap.size → b ≠ g → (W3.alloc (.cells #[.slice ad l.length cd] 25)).heap[b]? = w.heap[b]?) ∧ w.heap.size < (W3.alloc (.cells #[.slice ad l.length cd] 25)).heap.size) := HKEEP.out _ _ H1.out (up0 _ _)
  have HCE : Hid ((W3.alloc (.cells #[.slice ad l.length cd] 25)).cell? ⟨W3.heap.size, 0, none⟩ = some (.slice ad l.length cd)) := by show _ = _; rw [World.cell?_alloc_new]; rfl
  have cO2 := H2.out.1.cell 12 (.slice h.au S.und.length h.cu) (by rw [HC2.out]; rfl)
 case' p2 =>
  refine AllReadyH.cons rfl (fun K hK => ?_) AllReadyH.nil
  go_simp
  refine hK.out _ _ trivial (fun _ => ?_)
  clear hK K
  refine wpAnyH_ready (rs := [4, 7]) (by kernel_rfl) (by simp) ?_
  refine AllReadyH.cons rfl (fun K hK => ?p3) ?p4
  case' p3 =>
   go_simp
   refine hK.out _ _ trivial (fun _ => ?_)
   clear hK K
   refine zqr 7 rfl (fun K hK => ?_)
   go_simp
   refine hK.out _ _ trivial (fun _ => ?_)
   clear hK K
   have H2 : Hid (LB (W3.alloc (.cells #[.slice ad l.length cd] 25)) g 83 C2 ∧ LB (W3.alloc (.cells #[.slice ad l.length cd] 25)) w.heap.size 50 E ∧ Below g w (W3.alloc (.cells #[.slice ad l.length cd] 25)) ∧ Row B (W3.alloc (.cells #[.slice ad l.length cd] 25)) (.slice h.au S.und.length h.cu) vs ∧ (∀ j (h : j < vs.length) (h2 : j < S.und.length), Own B (W3.alloc (.cells #[.slice ad l.length cd] 25)) vs[j] S.und[j]) ∧ Own B (W3.alloc (.cells #[.slice ad l.length cd] 25)) (.slice ad l.length cd) l ∧ (∀ b, b < w.heap.size → b ≠ g → (W3.alloc (.cells #[.slice ad l.length cd] 25)).heap[b]? = w.heap[b]?) ∧ w.heap.size < (W3.alloc (.cells #[.slice ad l.length cd] 25)).heap.size) := HKEEP.out _ _ H1.out (up0 _ _)
   have HCE : Hid ((W3.alloc (.cells #[.slice ad l.length cd] 25)).cell? ⟨W3.heap.size, 0, none⟩ = some (.slice ad l.length cd)) := by show _ = _; rw [World.cell?_alloc_new]; rfl
   have cO2 := H2.out.1.cell 12 (.slice h.au S.und.length h.cu) (by rw [HC2.out]; rfl)
  case' p4 =>
   refine AllReadyH.cons rfl (fun K hK => ?_) AllReadyH.nil
   go_simp
   refine hK.out _ _ trivial (fun _ => ?_)
   clear hK K
   have H2 : Hid (LB (W3.alloc (.cells #[.slice ad l.length cd] 25)) g 83 C2 ∧ LB (W3.alloc (.cells #[.slice ad l.length cd] 25)) w.heap.size 50 E ∧ Below g w (W3.alloc (.cells #[.slice ad l.length cd] 25)) ∧ Row B (W3.alloc (.cells #[.slice ad l.length cd] 25)) (.slice h.au S.und.length h.cu) vs ∧ (∀ j (h : j < vs.length) (h2 : j < S.und.length), Own B (W3.alloc (.cells #[.slice ad l.length cd] 25)) vs[j] S.und[j]) ∧ Own B (W3.alloc (.cells #[.slice ad l.length cd] 25)) (.slice ad l.length cd) l ∧ (∀ b, b < w.heap.size → b ≠ g → (W3.alloc (.cells #[.slice ad l.length cd] 25)).heap[b]? = w.heap[b]?) ∧ w.heap.size < (W3.alloc (.cells #[.slice ad l.length cd] 25)).heap.size) := HKEEP.out _ _ H1.out (up0 _ _)
   have HCE : Hid ((W3.alloc (.cells #[.slice ad l.length cd] 25)).cell? ⟨W3.heap.size, 0, none⟩ = some (.slice ad l.length cd)) := by show _ = _; rw [World.cell?_alloc_new]; rfl
   have cO2 := H2.out.1.cell 12 (.slice h.au S.und.length h.cu) (by rw [HC2.out]; rfl)
   refine zqr 4 rfl (fun K hK => ?_)
   go_simp
   refine hK.out _ _ trivial (fun _ => ?_)
   clear hK K
 all_goals
  refine zqr 8 rfl (fun K hK => ?_)
  refine step_push rfl (.tmp 21) (.tmp 24) 26 rfl B HIN.out Tryd.underlying26 (.slice h.au S.und.length h.cu) vs rfl H2.out.2.2.2.1 W3.heap.size (.slice ad l.length cd) rfl HCE.out rfl (by rw [HVL.out]; omega) (Nat.le_trans hB (Nat.le_of_lt H2.out.1.lt)) ?_
  intro v' w' hrow hb' hgr
  have HF : Hid _ := HFIN.out _ _ _ H2.out hrow hb' hgr
  have hrg : (Value.slice h.au S.und.length h.cu).ownBlock ≠ some g := fun e => by obtain ⟨cs, z, h9⟩ := row_typed H2.out.2.2.2.1 g e; rw [H2.out.1] at h9; simp at h9
  have hLg : LB w' g 83 C2 := (hgr.block g H2.out.1.lt (Ne.symm hrg)).trans H2.out.1
  have cg := hLg.cell 12 (.slice h.au S.und.length h.cu) (by rw [HC2.out]; rfl)
  have fg := hLg.free 12
  have h1c : v'.oneCell' = true := by rcases Row.shape hrow with ⟨e, _⟩ | ⟨_, _, e, _⟩ <;> (rw [e]; rfl)
  obtain ⟨a9, n9, c9, e9⟩ : ∃ a n c, v' = .slice a n c := by rcases Row.shape hrow with ⟨e, _⟩ | ⟨_, _, e, _⟩ <;> exact ⟨_, _, _, e⟩
  subst e9
  refine hK.out _ _ trivial (fun _ => ?_)
  clear hK K hrow hb' hgr hrg hLg h1c H1 H2 cO cO2 cR HKEEP HFIN
  simp only [zq]
  refine zqk 9 rfl hH ?_
  simp only [zq]
  refine zqk 10 rfl hH ?_
  simp only [zq]
  refine zqr 11 rfl (fun K hK => ?_)
  go_simp
  refine hK.out _ _ trivial (fun _ => ?_)
  clear hK K
  refine wpAnyH_done (by kernel_rfl) ?_ _
  go_wp2
  go_end0
  obtain ⟨a', c', q1, q2, q3⟩ := HF.out
  exact ⟨rfl, a', c', q1, q2, q3⟩
end Go.Proofs.YtodcakplmoajiaaDoor
