import Derived.Laws.AppendOwnNone
import Derived.Deep.RegionWith
import Derived.Deep.CutRange
import Derived.RegionTactic
import Derived.Test.YtgmkjcfdpiinpaaGreatDoorVS4
namespace Go.Proofs.YtgmkjcfdpiinpaaGreatDoor
open Go Go.RowKit
open Wb

theorem info22 : (Tryz.prog.info? 26).map (fun i => (i.zero, i.size, i.bytes)) = some (some (.slice none 0 0), 1, 24) := by kernel_rfl
def Row (B : Nat) (w : World) (v : Value) (vs : List Value) : Prop := w.ownsRow B 26 1 v vs.length vs
theorem Row.nil (B : Nat) (w : World) : Row B w (.slice none 0 0) [] := World.ownsRow_nil _ _ _ _
theorem Row.kept {B : Nat} {w w' : World} {v : Value} {vs : List Value} (h : Row B w v vs) (hb : Below w.heap.size w w') : Row B w' v vs := by
 refine ⟨h.1, ?_⟩
 rcases h.2 with h1 | ⟨g, cap, cur, rfl, h1, hg, rest⟩
 ·exact .inl h1
 ·exact .inr ⟨g, cap, cur, rfl, h1, (hb.block g (Array.getElem?_eq_some_iff.1 hg).1).trans hg, rest⟩
theorem Row.shape {B : Nat} {w : World} {v : Value} {vs : List Value} (h : Row B w v vs) : (v = .slice none 0 0 ∧ vs = []) ∨ ∃ g cap, v = .slice (some ⟨g, 0, none⟩) vs.length cap ∧ vs.length ≤ cap ∧ cap ≤ maxLen ∧ ∀ j (h : j < vs.length), w.cell? ⟨g, j, none⟩ = some vs[j] := by
 have h0 : w.ownsRow B 26 1 v vs.length vs := h
 rcases h.2 with ⟨rfl, h1⟩ | ⟨g, cap, cur, rfl, hb, hg, h1, h2, h3, h4⟩
 ·exact .inl ⟨rfl, List.eq_nil_of_length_eq_zero h1⟩
 ·refine .inr ⟨g, cap, rfl, h1, h2, fun j hj => ?_⟩
  rw [h0.cellAt j (by omega), List.getElem?_eq_getElem hj]
theorem Own.grown {B : Nat} {w w' : World} {v x : Value} {vs : List Value} {l : List Nat} (hr : Row B w v vs) (hx : Own B w x l) (hg : w.grownBy w' v.ownBlock) : Own B w' x l := by
 refine ⟨⟨hx.row.1, ?_⟩, hx.good⟩
 rcases hx.row.2 with h1 | ⟨g, cap, cur, rfl, h1, hgg, rest⟩
 ·exact .inl h1
 ·refine .inr ⟨g, cap, cur, rfl, h1, ?_, rest⟩
  rw [hg.block g (Array.getElem?_eq_some_iff.1 hgg).1 ?_]
  ·exact hgg
  ·intro e
   rcases hr.2 with ⟨rfl, _⟩ | ⟨g', cap', cur', rfl, _, hg', _⟩
   ·simp [Value.ownBlock] at e
   ·simp [Value.ownBlock] at e
    subst e
    rw [hgg] at hg'
    simp at hg'
theorem wpList_push {P : Program} (w : World) {ops : Array Oper} {rest : List Oper} {o : Oper} {a : Act} {Q : Exit → Act → World → Prop} (hgd : o.guard = none) (s x : Operand) (t : TypeId)
  (ho : o.op = .call { callee := .builtin .append, args := #[s, x], argTypes := #[t, t] })
  (B : Nat) (hinfo : (P.info? 26).map (fun i => (i.zero, i.size, i.bytes)) = some (some (.slice none 0 0), 1, 24)) (ht : P.underlying t = some (.slice 26))
  (v : Value) (vs : List Value) (hv : a.eval s = v) (h : Row B w v vs) (g : Nat) (u : Value) (hx : a.eval x = .slice (some ⟨g, 0, none⟩) 1 1) (hu : w.cell? ⟨g, 0, none⟩ = some u) (h1 : u.oneCell' = true)
  (hmax : vs.length ≤ 5000000000) (hB : B ≤ w.heap.size)
  (hK : ∀ v' w', Row B w' v' (vs ++ [u]) → Below B w w' → w.grownBy w' v.ownBlock → wpList P ops Q rest (a.put o.dst v') w') : wpList P ops Q (o :: rest) a w := by
 obtain ⟨i0, hi, hz0, hz1, hz2⟩ := info_parts hinfo
 refine wpList_append_own w hgd s x t ho B 26 i0 (.slice none 0 0) 1 24 ht hi hz0 hz1 hz2 rfl (by decide) v vs.length vs hv h ⟨g, 0, none⟩ 1 1 [u] hx rfl ?_ (by intro y hy; simp at hy; subst hy; exact h1) (by unfold maxLen; omega) (by omega) hB ?_
 ·intro j y hj
  match j, hj with
  | 0, hj => simp at hj; subst hj; simpa [Addr.add] using hu
 ·intro v' w' h2 h3 _
  refine hK v' w' ?_ ((Below.refl B w).grown h3 hB (fun k hk => (h.lt k hk).1)) h3
  show w'.ownsRow B 26 1 v' (vs ++ [u]).length (vs ++ [u])
  rw [List.length_append]
  exact h2
def OwnP (B : Nat) (w : World) (v : Value) (ls : List (List Nat)) : Prop := ∃ vs : List Value, Row B w v vs ∧ vs.length = ls.length ∧ ∀ j (h : j < vs.length) (h2 : j < ls.length), Own B w vs[j] ls[j]
theorem OwnP.kept {B : Nat} {w w' : World} {v : Value} {ls : List (List Nat)} (h : OwnP B w v ls) (hb : Below w.heap.size w w') : OwnP B w' v ls := by
 obtain ⟨vs, h1, h2, h3⟩ := h
 exact ⟨vs, h1.kept hb, h2, fun j a b => (h3 j a b).kept hb⟩
theorem OwnP.ps {B : Nat} {w : World} {v : Value} {ls : List (List Nat)} (h : OwnP B w v ls) : Ps w v ls := by
 obtain ⟨vs, h1, h2, h3⟩ := h
 rcases h1.shape with ⟨rfl, rfl⟩ | ⟨g, cap, rfl, hl, hm, hc⟩
 ·have : ls = [] := List.eq_nil_of_length_eq_zero (by simpa using h2.symm)
  subst this
  exact ⟨none, 0, rfl, by simp [maxLen], fun e => absurd rfl e⟩
 ·refine ⟨some ⟨g, 0, none⟩, cap, by rw [h2], by omega, fun _ => ⟨g, 0, rfl, fun j hj => ⟨vs[j]'(by omega), ?_, (h3 j (by omega) hj).bs⟩⟩⟩
  rw [Nat.zero_add]
  exact hc j (by omega)
theorem step_push {P : Program} {ops : Array Oper} {o : Oper} {a : Act} {w : World} {K : Act → World → Prop} {Q : Exit → Act → World → Prop} {E : Prop} (hgd : o.guard = none) (s x : Operand) (t : TypeId)
  (ho : o.op = .call { callee := .builtin .append, args := #[s, x], argTypes := #[t, t] })
  (B : Nat) (hinfo : (P.info? 26).map (fun i => (i.zero, i.size, i.bytes)) = some (some (.slice none 0 0), 1, 24)) (ht : P.underlying t = some (.slice 26))
  (v : Value) (vs : List Value) (hv : a.eval s = v) (h : Row B w v vs) (g : Nat) (u : Value) (hx : a.eval x = .slice (some ⟨g, 0, none⟩) 1 1) (hu : w.cell? ⟨g, 0, none⟩ = some u) (h1 : u.oneCell' = true)
  (hmax : vs.length ≤ 5000000000) (hB : B ≤ w.heap.size)
  (hK : ∀ v' w', Row B w' v' (vs ++ [u]) → Below B w w' → w.grownBy w' v.ownBlock → K (a.put o.dst v') w') :
  if Region.wanted o (yielded ops a.tmps) = true then Oper.wp P o a w K Q else E := by
 have hw : Region.wanted o (yielded ops a.tmps) = true := by simp [Region.wanted, hgd]
 rw [if_pos hw]
 obtain ⟨i0, hi, hz0, hz1, hz2⟩ := info_parts hinfo
 obtain ⟨v', w', hrun, h2, h3, _⟩ := run_append_own (P := P) w B t o.type 26 i0 (.slice none 0 0) 1 24 ht hi hz0 hz1 hz2 rfl (by decide) v vs.length vs h ⟨g, 0, none⟩ 1 1 [u] rfl (by
  intro j y hj
  match j, hj with
  | 0, hj => simp at hj; subst hj; simpa [Addr.add] using hu) (by intro y hy; simp at hy; subst hy; exact h1) (by unfold maxLen; omega) (by omega) hB
 unfold Oper.wp
 simp [execOp, ho, resolve, invoke, builtin, hv, hx, hrun, Result.andThen]
 refine hK v' w' ?_ ((Below.refl B w).grown h3 hB (fun k hk => (h.lt k hk).1)) h3
 show w'.ownsRow B 26 1 v' (vs ++ [u]).length (vs ++ [u])
 rw [List.length_append]
 exact h2
theorem own_weak {B B2 : Nat} {w : World} {d : Value} {l : List Nat} (h : Own B2 w d l) (hB : B ≤ B2) : Own B w d l := by
 refine ⟨⟨h.row.1, ?_⟩, h.good⟩
 rcases h.row.2 with h1 | ⟨g, cap, cur, e, hb, rest⟩
 ·exact .inl h1
 ·exact .inr ⟨g, cap, cur, e, Nat.le_trans hB hb, rest⟩
theorem OwnP.push {B : Nat} {w w' : World} {v v' u : Value} {vs : List Value} {ls : List (List Nat)} {l : List Nat} (hr : Row B w v vs) (hl : vs.length = ls.length) (he : ∀ j (h : j < vs.length) (h2 : j < ls.length), Own B w vs[j] ls[j])
  (hu : Own B w u l) (hr' : Row B w' v' (vs ++ [u])) (hg : w.grownBy w' v.ownBlock) : OwnP B w' v' (ls ++ [l]) := by
 refine ⟨vs ++ [u], hr', by simp [hl], fun j a b => ?_⟩
 by_cases hj : j < vs.length
 ·rw [List.getElem_append_left hj, List.getElem_append_left (by omega)]
  exact Own.grown hr (he j hj (by omega)) hg
 ·have ej : j = vs.length := by simp at a; omega
  subst ej
  rw [List.getElem_append_right (Nat.le_refl _), List.getElem_append_right (by omega)]
  simp only [hl, Nat.sub_self, List.getElem_cons_zero]
  exact Own.grown hr hu hg
theorem OwnP.nil (B : Nat) (w : World) : OwnP B w (.slice none 0 0) [] := ⟨[], Row.nil _ _, rfl, fun _ h => absurd h (Nat.not_lt_zero _)⟩
theorem OwnP.shape {B : Nat} {w : World} {v : Value} {ls : List (List Nat)} (h : OwnP B w v ls) : ∃ ao, ∃ cap : Nat, v = .slice ao ls.length cap := by
 obtain ⟨ao, cap, e, _⟩ := h.ps.shape
 exact ⟨ao, cap, e⟩
def LB (w : World) (g : Nat) (t : TypeId) (D : List Value) : Prop := w.heap[g]? = some (.cells D.toArray t)
theorem LB.lt {w : World} {g : Nat} {t : TypeId} {D : List Value} (h : LB w g t D) : g < w.heap.size := (Array.getElem?_eq_some_iff.1 h).1
theorem LB.kept {w w' : World} {g : Nat} {t : TypeId} {D : List Value} (h : LB w g t D) (hb : Below w.heap.size w w') : LB w' g t D := (hb.block g h.lt).trans h
theorem LB.cell {w : World} {g : Nat} {t : TypeId} {D : List Value} (h : LB w g t D) (j : Nat) (v : Value) (hv : D[j]? = some v) : w.cell? ⟨g, j, none⟩ = some v := by
 unfold LB at h
 simp [World.cell?, h, hv]
theorem LB.range {w : World} {g : Nat} {t : TypeId} {D : List Value} (h : LB w g t D) : w.rangeAt g 0 D := fun j v hv => by rw [Nat.zero_add]; exact h.cell j v hv
theorem LB.free {w : World} {g : Nat} {t : TypeId} {D : List Value} (h : LB w g t D) (j : Nat) : w.frozen? ⟨g, j, none⟩ = false := by
 unfold LB at h
 simp [World.frozen?, h]
theorem LB.there {w : World} {g : Nat} {t : TypeId} {D : List Value} (h : LB w g t D) : w.there g 0 D.length := fun j hj => by
 rw [Nat.zero_add]
 exact ⟨by rw [h.cell j D[j] (List.getElem?_eq_getElem hj)]; rfl, h.free j⟩
theorem LB.set {w : World} {g : Nat} {t : TypeId} {D : List Value} (h : LB w g t D) (j : Nat) (v : Value) : LB (w.setCell ⟨g, j, none⟩ v) g t (D.set j v) := by
 unfold LB at *
 simp [World.setCell, Array.getElem?_modify, h]
theorem LB.other {w : World} {g : Nat} {t : TypeId} {D : List Value} (h : LB w g t D) (p : Addr) (v : Value) (hp : g ≠ p.block) : LB (w.setCell p v) g t D := (set_other w p v g hp).trans h
theorem LB.others {w : World} {g : Nat} {t : TypeId} {D : List Value} (h : LB w g t D) (g' o : Nat) (vs : List Value) (hp : g ≠ g') : LB (w.setCells g' o vs) g t D := (cells_other g' vs o w g hp).trans h
theorem set_lst (D r : List Value) (o : Nat) (v : Value) (h : o + (r.length + 1) ≤ D.length) : (D.set o v).take (o + 1) ++ r ++ (D.set o v).drop (o + 1 + r.length) = D.take o ++ (v :: r) ++ D.drop (o + (r.length + 1)) := by
 have e1 : (D.set o v).take (o + 1) = D.take o ++ [v] := by
  rw [List.take_succ_eq_append_getElem (by rw [List.length_set]; omega), List.take_set_of_le (Nat.le_refl _), List.getElem_set_self]
 have e2 : (D.set o v).drop (o + 1 + r.length) = D.drop (o + (r.length + 1)) := by
  rw [List.drop_set_of_lt (by omega), show o + 1 + r.length = o + (r.length + 1) by omega]
 rw [e1, e2]
 simp
theorem LB.sets_at {g : Nat} {t : TypeId} : ∀ (E : List Value) (o : Nat) (w : World) (D : List Value), LB w g t D → o + E.length ≤ D.length → LB (w.setCells g o E) g t (D.take o ++ E ++ D.drop (o + E.length))
 | [], o, w, D, h, _ => by
  have e : D.take o ++ [] ++ D.drop (o + ([] : List Value).length) = D := by simp
  rw [e]
  exact h
 | v :: r, o, w, D, h, hl => by
  have hl' : o + (r.length + 1) ≤ D.length := by simpa using hl
  have ih := LB.sets_at r (o + 1) (w.setCell ⟨g, o, none⟩ v) (D.set o v) (h.set o v) (by rw [List.length_set]; omega)
  rw [set_lst D r o v hl'] at ih
  exact ih
theorem LB.sets {w : World} {g : Nat} {t : TypeId} {D : List Value} (h : LB w g t D) (E : List Value) (hl : E.length = D.length) : LB (w.setCells g 0 E) g t E := by
 have h2 := LB.sets_at E 0 w D h (by omega)
 rw [show D.drop (0 + E.length) = [] by rw [Nat.zero_add, hl, List.drop_length]] at h2
 simpa using h2
theorem lb_new (w : World) (D : List Value) (t : TypeId) : LB (w.alloc (.cells D.toArray t)) w.heap.size t D := Array.getElem?_push_size
theorem lb_new2 (w : World) (D Z : List Value) (t t2 : TypeId) : LB ((w.alloc (.cells D.toArray t)).alloc (.cells Z.toArray t2)) w.heap.size t D ∧ LB ((w.alloc (.cells D.toArray t)).alloc (.cells Z.toArray t2)) (w.heap.size + 1) t2 Z ∧ Below w.heap.size w ((w.alloc (.cells D.toArray t)).alloc (.cells Z.toArray t2)) := by
 refine ⟨(lb_new w D t).kept (up0 _ _), ?_, up (up0 _ _) _⟩
 have h := lb_new (w.alloc (.cells D.toArray t)) Z t2
 rwa [heap_one] at h
theorem own_set {B : Nat} {w : World} {v : Value} {l : List Nat} (h : Own B w v l) (p : Addr) (u : Value) (hp : p.block < B) : Own B (w.setCell p u) v l := Own.set h p u hp
theorem row_kept2 {B : Nat} {w w' : World} {v : Value} {vs : List Value} (h : Row B w v vs) (hb : ∀ g, v.ownBlock = some g → w'.heap[g]? = w.heap[g]?) : Row B w' v vs := by
 refine ⟨h.1, ?_⟩
 rcases h.2 with h1 | ⟨g, cap, cur, rfl, h1, hg, rest⟩
 ·exact .inl h1
 ·exact .inr ⟨g, cap, cur, rfl, h1, (hb g rfl).trans hg, rest⟩
theorem own_keptB {B : Nat} {w w' : World} {d : Value} {l : List Nat} (h : Own B w d l) (hb : ∀ g, d.ownBlock = some g → w'.heap[g]? = w.heap[g]?) : Own B w' d l := by
 refine ⟨⟨h.row.1, ?_⟩, h.good⟩
 rcases h.row.2 with h1 | ⟨g, cap, cur, rfl, h1, hg, rest⟩
 ·exact .inl h1
 ·exact .inr ⟨g, cap, cur, rfl, h1, (hb g rfl).trans hg, rest⟩
theorem own_block {B : Nat} {w : World} {d : Value} {l : List Nat} (h : Own B w d l) (g : Nat) (e : d.ownBlock = some g) : B ≤ g ∧ g < w.heap.size := by
 rcases h.row.2 with ⟨rfl, _⟩ | ⟨g', cap, cur, rfl, h1, hg, _⟩
 ·simp [Value.ownBlock] at e
 ·simp [Value.ownBlock] at e
  subst e
  exact ⟨h1, (Array.getElem?_eq_some_iff.1 hg).1⟩
theorem row_block {B : Nat} {w : World} {v : Value} {vs : List Value} (h : Row B w v vs) (g : Nat) (e : v.ownBlock = some g) : B ≤ g ∧ g < w.heap.size := by
 rcases h.2 with ⟨rfl, _⟩ | ⟨g', cap, cur, rfl, h1, hg, _⟩
 ·simp [Value.ownBlock] at e
 ·simp [Value.ownBlock] at e
  subst e
  exact ⟨h1, (Array.getElem?_eq_some_iff.1 hg).1⟩
theorem OwnP.keptB {B : Nat} {w w' : World} {v : Value} {ls : List (List Nat)} (h : OwnP B w v ls) (hb : ∀ g, B ≤ g → g < w.heap.size → w'.heap[g]? = w.heap[g]?) : OwnP B w' v ls := by
 obtain ⟨vs, h1, h2, h3⟩ := h
 exact ⟨vs, row_kept2 h1 (fun g e => hb g (row_block h1 g e).1 (row_block h1 g e).2), h2, fun j a b => own_keptB (h3 j a b) (fun g e => hb g (own_block (h3 j a b) g e).1 (own_block (h3 j a b) g e).2)⟩
theorem OwnP.weak {B B2 : Nat} {w : World} {v : Value} {ls : List (List Nat)} (h : OwnP B2 w v ls) (hB : B ≤ B2) : OwnP B w v ls := by
 obtain ⟨vs, h1, h2, h3⟩ := h
 refine ⟨vs, ⟨h1.1, ?_⟩, h2, fun j a b => own_weak (h3 j a b) hB⟩
 rcases h1.2 with h1 | ⟨g, cap, cur, e, hb, rest⟩
 ·exact .inl h1
 ·exact .inr ⟨g, cap, cur, e, Nat.le_trans hB hb, rest⟩
structure Light (S : Sg) : Prop where
 inp : S.inp.length ≤ 140737488355000
 fail : S.fail.length ≤ 140737488355000
 outs : S.outs.length ≤ 5000000000
 und : S.und.length ≤ 5000000000
 eachO : ∀ l ∈ S.outs, l.length ≤ 140737488355000
 eachU : ∀ l ∈ S.und, l.length ≤ 140737488355000
structure SgOwn (B : Nat) (w : World) (S : Sg) (h : SH) : Prop where
 inp : Own B w (.slice h.ai S.inp.length h.ci) S.inp
 outs : OwnP B w (.slice h.ao S.outs.length h.co) S.outs
 und : OwnP B w (.slice h.au S.und.length h.cu) S.und
 fail : Own B w (.slice h.af S.fail.length h.cf) S.fail
 apart : ∀ g, (Value.slice h.ao S.outs.length h.co).ownBlock = some g → (Value.slice h.au S.und.length h.cu).ownBlock ≠ some g
theorem SgOwn.at {B : Nat} {w : World} {S : Sg} {h : SH} (k : SgOwn B w S h) : SgAt w S h := ⟨k.inp.bs, k.outs.ps, k.und.ps, k.fail.bs⟩
theorem OwnP.block {B : Nat} {w : World} {v : Value} {ls : List (List Nat)} (h : OwnP B w v ls) (g : Nat) (e : v.ownBlock = some g) : B ≤ g ∧ g < w.heap.size := by
 obtain ⟨vs, h1, _⟩ := h
 exact row_block h1 g e
theorem OwnP.setB {B : Nat} {w : World} {v : Value} {ls : List (List Nat)} (h : OwnP B w v ls) (p : Addr) (u : Value) (hp : p.block < B) : OwnP B (w.setCell p u) v ls := h.keptB fun g hg _ => set_other w p u g (by omega)
theorem OwnP.setsB {B : Nat} {w : World} {v : Value} {ls : List (List Nat)} (h : OwnP B w v ls) (g o : Nat) (us : List Value) (hp : g < B) : OwnP B (w.setCells g o us) v ls := h.keptB fun i hi _ => cells_other g us o w i (by omega)
theorem scl_one (S : Sg) (h : SH) : ∀ v ∈ scl S h, v.oneCell' = true := by
 intro v hv
 simp only [scl, List.mem_cons, List.not_mem_nil, or_false] at hv
 rcases hv with rfl | rfl | rfl | rfl | rfl | rfl | rfl | rfl | rfl | rfl | rfl | rfl | rfl | rfl | rfl | rfl <;> rfl
def zcl : List Value := [.int .i64 0, .string ⟨#[]⟩, .int .i64 0, .int .i64 0, .int .i64 0, .int .i64 0, .slice none 0 0, .int .i64 0, .int .i64 0, .bool false, .int .i64 0, .slice none 0 0, .slice none 0 0, .int .i64 0, .int .i64 0, .slice none 0 0]
structure But (B g : Nat) (row : Option Nat) (w w' : World) : Prop where
 below : Below B w w'
 rest : ∀ b, b < g → row ≠ some b → w'.heap[b]? = w.heap[b]?
theorem row_typed {B : Nat} {w : World} {v : Value} {vs : List Value} (h : Row B w v vs) (b : Nat) (e : v.ownBlock = some b) : ∃ cs z, w.heap[b]? = some (.cells cs 26 z) := by
 rcases h.2 with ⟨rfl, _⟩ | ⟨g', cap, cur, rfl, _, hg', _⟩
 ·simp [Value.ownBlock] at e
 ·simp [Value.ownBlock] at e
  subst e
  exact ⟨_, _, hg'⟩

end Go.Proofs.YtgmkjcfdpiinpaaGreatDoor
