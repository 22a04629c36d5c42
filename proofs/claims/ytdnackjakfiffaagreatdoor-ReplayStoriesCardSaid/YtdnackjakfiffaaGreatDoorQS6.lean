import Derived.Laws.AppendOwnNone
import Derived.Deep.RegionWith
import Derived.Deep.CutRange
import Derived.Test.YtdnackjakfiffaaGreatDoorQS4
import Derived.Test.YtdnackjakfiffaaGreatDoorQS2
/-
  Package saga: cloneAll; rows of byte strings.
-/
namespace Go.Proofs.YtdnackjakfiffaaGreatDoor
open Go Go.RowKit
open Wb

theorem info22 : (Tryz.prog.info? 30).map (fun i => (i.zero, i.size, i.bytes)) = some (some (.slice none 0 0), 1, 24) := by kernel_rfl
/-- A row of the call's own that holds these values. -/
def Row (B : Nat) (w : World) (v : Value) (vs : List Value) : Prop := w.ownsRow B 30 1 v vs.length vs
theorem Row.nil (B : Nat) (w : World) : Row B w (.slice none 0 0) [] := World.ownsRow_nil _ _ _ _
theorem Row.kept {B : Nat} {w w' : World} {v : Value} {vs : List Value} (h : Row B w v vs) (hb : Below w.heap.size w w') : Row B w' v vs := by
  refine ⟨h.1, ?_⟩
  rcases h.2 with h1 | ⟨g, cap, cur, rfl, h1, hg, rest⟩
  · exact .inl h1
  · exact .inr ⟨g, cap, cur, rfl, h1, (hb.block g (Array.getElem?_eq_some_iff.1 hg).1).trans hg, rest⟩
theorem Row.shape {B : Nat} {w : World} {v : Value} {vs : List Value} (h : Row B w v vs) : (v = .slice none 0 0 ∧ vs = []) ∨ ∃ g cap, v = .slice (some ⟨g, 0, none⟩) vs.length cap ∧ vs.length ≤ cap ∧ cap ≤ maxLen ∧ ∀ j (h : j < vs.length), w.cell? ⟨g, j, none⟩ = some vs[j] := by
  have h0 : w.ownsRow B 30 1 v vs.length vs := h
  rcases h.2 with ⟨rfl, h1⟩ | ⟨g, cap, cur, rfl, hb, hg, h1, h2, h3, h4⟩
  · exact .inl ⟨rfl, List.eq_nil_of_length_eq_zero h1⟩
  · refine .inr ⟨g, cap, rfl, h1, h2, fun j hj => ?_⟩
    rw [h0.cellAt j (by omega), List.getElem?_eq_getElem hj]
/-- a byte string of the call's own stays, while a row is written -/
theorem Own.grown {B : Nat} {w w' : World} {v x : Value} {vs : List Value} {l : List Nat} (hr : Row B w v vs) (hx : Own B w x l) (hg : w.grownBy w' v.ownBlock) : Own B w' x l := by
  refine ⟨⟨hx.row.1, ?_⟩, hx.good⟩
  rcases hx.row.2 with h1 | ⟨g, cap, cur, rfl, h1, hgg, rest⟩
  · exact .inl h1
  · refine .inr ⟨g, cap, cur, rfl, h1, ?_, rest⟩
    rw [hg.block g (Array.getElem?_eq_some_iff.1 hgg).1 ?_]
    · exact hgg
    · intro e
      rcases hr.2 with ⟨rfl, _⟩ | ⟨g', cap', cur', rfl, _, hg', _⟩
      · simp [Value.ownBlock] at e
      · simp [Value.ownBlock] at e
        subst e
        rw [hgg] at hg'
        simp at hg'
/-- append(v, x) of one value to a row -/
theorem wpList_push {P : Program} (w : World) {ops : Array Oper} {rest : List Oper} {o : Oper} {a : Act} {Q : Exit → Act → World → Prop} (hgd : o.guard = none) (s x : Operand) (t : TypeId)
    (ho : o.op = .call { callee := .builtin .append, args := #[s, x], argTypes := #[t, t] })
    (B : Nat) (hinfo : (P.info? 30).map (fun i => (i.zero, i.size, i.bytes)) = some (some (.slice none 0 0), 1, 24)) (ht : P.underlying t = some (.slice 30))
    (v : Value) (vs : List Value) (hv : a.eval s = v) (h : Row B w v vs) (g : Nat) (u : Value) (hx : a.eval x = .slice (some ⟨g, 0, none⟩) 1 1) (hu : w.cell? ⟨g, 0, none⟩ = some u) (h1 : u.oneCell' = true)
    (hmax : vs.length ≤ 5000000000) (hB : B ≤ w.heap.size)
    (hK : ∀ v' w', Row B w' v' (vs ++ [u]) → Below B w w' → w.grownBy w' v.ownBlock → wpList P ops Q rest (a.put o.dst v') w') : wpList P ops Q (o :: rest) a w := by
  obtain ⟨i0, hi, hz0, hz1, hz2⟩ := info_parts hinfo
  refine wpList_append_own w hgd s x t ho B 30 i0 (.slice none 0 0) 1 24 ht hi hz0 hz1 hz2 rfl (by decide) v vs.length vs hv h ⟨g, 0, none⟩ 1 1 [u] hx rfl ?_ (by intro y hy; simp at hy; subst hy; exact h1) (by unfold maxLen; omega) (by omega) hB ?_
  · intro j y hj
    match j, hj with
    | 0, hj => simp at hj; subst hj; simpa [Addr.add] using hu
  · intro v' w' h2 h3 _
    refine hK v' w' ?_ ((Below.refl B w).grown h3 hB (fun k hk => (h.lt k hk).1)) h3
    show w'.ownsRow B 30 1 v' (vs ++ [u]).length (vs ++ [u])
    rw [List.length_append]
    exact h2
/-- a slice of byte strings of the call's own -/
def OwnP (B : Nat) (w : World) (v : Value) (ls : List (List Nat)) : Prop := ∃ vs : List Value, Row B w v vs ∧ vs.length = ls.length ∧ ∀ j (h : j < vs.length) (h2 : j < ls.length), Own B w vs[j] ls[j]
theorem OwnP.kept {B : Nat} {w w' : World} {v : Value} {ls : List (List Nat)} (h : OwnP B w v ls) (hb : Below w.heap.size w w') : OwnP B w' v ls := by
  obtain ⟨vs, h1, h2, h3⟩ := h
  exact ⟨vs, h1.kept hb, h2, fun j a b => (h3 j a b).kept hb⟩
theorem OwnP.ps {B : Nat} {w : World} {v : Value} {ls : List (List Nat)} (h : OwnP B w v ls) : Ps w v ls := by
  obtain ⟨vs, h1, h2, h3⟩ := h
  rcases h1.shape with ⟨rfl, rfl⟩ | ⟨g, cap, rfl, hl, hm, hc⟩
  · have : ls = [] := List.eq_nil_of_length_eq_zero (by simpa using h2.symm)
    subst this
    exact ⟨none, 0, rfl, by simp [maxLen], fun e => absurd rfl e⟩
  · refine ⟨some ⟨g, 0, none⟩, cap, by rw [h2], by omega, fun _ => ⟨g, 0, rfl, fun j hj => ⟨vs[j]'(by omega), ?_, (h3 j (by omega) hj).bs⟩⟩⟩
    rw [Nat.zero_add]
    exact hc j (by omega)
/-- append(v, x) of one value to a row, as one step of a region that draws its order -/
theorem step_push {P : Program} {ops : Array Oper} {o : Oper} {a : Act} {w : World} {K : Act → World → Prop} {Q : Exit → Act → World → Prop} {E : Prop} (hgd : o.guard = none) (s x : Operand) (t : TypeId)
    (ho : o.op = .call { callee := .builtin .append, args := #[s, x], argTypes := #[t, t] })
    (B : Nat) (hinfo : (P.info? 30).map (fun i => (i.zero, i.size, i.bytes)) = some (some (.slice none 0 0), 1, 24)) (ht : P.underlying t = some (.slice 30))
    (v : Value) (vs : List Value) (hv : a.eval s = v) (h : Row B w v vs) (g : Nat) (u : Value) (hx : a.eval x = .slice (some ⟨g, 0, none⟩) 1 1) (hu : w.cell? ⟨g, 0, none⟩ = some u) (h1 : u.oneCell' = true)
    (hmax : vs.length ≤ 5000000000) (hB : B ≤ w.heap.size)
    (hK : ∀ v' w', Row B w' v' (vs ++ [u]) → Below B w w' → w.grownBy w' v.ownBlock → K (a.put o.dst v') w') :
    if Region.wanted o (yielded ops a.tmps) = true then Oper.wp P o a w K Q else E := by
  have hw : Region.wanted o (yielded ops a.tmps) = true := by simp [Region.wanted, hgd]
  rw [if_pos hw]
  obtain ⟨i0, hi, hz0, hz1, hz2⟩ := info_parts hinfo
  obtain ⟨v', w', hrun, h2, h3, _⟩ := run_append_own (P := P) w B t o.type 30 i0 (.slice none 0 0) 1 24 ht hi hz0 hz1 hz2 rfl (by decide) v vs.length vs h ⟨g, 0, none⟩ 1 1 [u] rfl (by
    intro j y hj
    match j, hj with
    | 0, hj => simp at hj; subst hj; simpa [Addr.add] using hu) (by intro y hy; simp at hy; subst hy; exact h1) (by unfold maxLen; omega) (by omega) hB
  unfold Oper.wp
  simp [execOp, ho, resolve, invoke, builtin, hv, hx, hrun, Result.andThen]
  refine hK v' w' ?_ ((Below.refl B w).grown h3 hB (fun k hk => (h.lt k hk).1)) h3
  show w'.ownsRow B 30 1 v' (vs ++ [u]).length (vs ++ [u])
  rw [List.length_append]
  exact h2
theorem own_weak {B B2 : Nat} {w : World} {d : Value} {l : List Nat} (h : Own B2 w d l) (hB : B ≤ B2) : Own B w d l := by
  refine ⟨⟨h.row.1, ?_⟩, h.good⟩
  rcases h.row.2 with h1 | ⟨g, cap, cur, e, hb, rest⟩
  · exact .inl h1
  · exact .inr ⟨g, cap, cur, e, Nat.le_trans hB hb, rest⟩
/-- one more -/
theorem OwnP.push {B : Nat} {w w' : World} {v v' u : Value} {vs : List Value} {ls : List (List Nat)} {l : List Nat} (hr : Row B w v vs) (hl : vs.length = ls.length) (he : ∀ j (h : j < vs.length) (h2 : j < ls.length), Own B w vs[j] ls[j])
    (hu : Own B w u l) (hr' : Row B w' v' (vs ++ [u])) (hg : w.grownBy w' v.ownBlock) : OwnP B w' v' (ls ++ [l]) := by
  refine ⟨vs ++ [u], hr', by simp [hl], fun j a b => ?_⟩
  by_cases hj : j < vs.length
  · rw [List.getElem_append_left hj, List.getElem_append_left (by omega)]
    exact Own.grown hr (he j hj (by omega)) hg
  · have ej : j = vs.length := by simp at a; omega
    subst ej
    rw [List.getElem_append_right (Nat.le_refl _), List.getElem_append_right (by omega)]
    simp only [hl, Nat.sub_self, List.getElem_cons_zero]
    exact Own.grown hr hu hg
theorem OwnP.nil (B : Nat) (w : World) : OwnP B w (.slice none 0 0) [] := ⟨[], Row.nil _ _, rfl, fun _ h => absurd h (Nat.not_lt_zero _)⟩
theorem OwnP.shape {B : Nat} {w : World} {v : Value} {ls : List (List Nat)} (h : OwnP B w v ls) : ∃ ao, ∃ cap : Nat, v = .slice ao ls.length cap := by
  obtain ⟨ao, cap, e, _⟩ := h.ps.shape
  exact ⟨ao, cap, e⟩
set_option maxRecDepth 100000 in
set_option maxHeartbeats 2000000 in
theorem cloneAll_any (v : Value) (ls : List (List Nat)) (w : World) (k : Ps w v ls) (hn : ls.length ≤ 5000000000) (hl : ∀ l ∈ ls, l.length ≤ 140737488355000) :
    Calls Tryz.prog 62 #[v] w fun e w' => ∃ v', e = .returned v' ∧ OwnP w.heap.size w' v' ls ∧ Below w.heap.size w w' := by
  have HIN : Hid ((Tryz.prog.info? 30).map (fun i => (i.zero, i.size, i.bytes)) = some (some (.slice none 0 0), 1, 24)) := info22
  have HK : Hid (∀ w', Below w.heap.size w w' → Ps w' v ls) := fun w' hb => k.kept hb
  obtain ⟨ao, cap, rfl, hm, hc⟩ := k.shape
  clear k hc hm
  go_enter Tryz.func62, Tryz.ntmps62
  generalize hnl : Value.slice none 0 0 = nl
  have HNL : Hid (Value.slice none 0 0 = nl) := hnl
  clear hnl
  go_wp2
  go_loopw [3, 5, 8] (fun o _ i wr => ∃ k : Nat, k ≤ ls.length ∧ i = .int .i64 (k : Int) ∧ OwnP w.heap.size wr o (ls.take k) ∧ Below w.heap.size w wr) (fun _ _ i _ => ls.length - (intOf i).toNat)
  case atStart => exact ⟨0, Nat.zero_le _, rfl, by rw [← HNL.out, List.take_zero]; exact OwnP.nil _ _, Below.refl _ _⟩
  case round =>
    obtain ⟨k, hk, rfl, ho, hbel⟩ := hrel
    by_cases hlt : k < ls.length
    · obtain ⟨ao2, cap2, e2, _, hc⟩ := (HK.out _ hbel).shape
      obtain ⟨b, off, rfl, hcell⟩ := hc (List.ne_nil_of_length_pos (by omega))
      simp only [Value.slice.injEq, true_and] at e2
      obtain ⟨rfl, -⟩ := e2
      obtain ⟨vj, h1, h2⟩ := hcell k hlt
      have hlk : ls[k].length ≤ 140737488355000 := hl _ (List.getElem_mem hlt)
      have HT : Hid (ls.take (k + 1) = ls.take k ++ [ls[k]]) := List.take_succ_eq_append_getElem hlt
      have HOP : Hid (∃ vs : List Value, Row w.heap.size wr u3 vs ∧ vs.length = (ls.take k).length ∧ ∀ j (h : j < vs.length) (h2 : j < (ls.take k).length), Own w.heap.size wr vs[j] (ls.take k)[j]) := ho
      obtain ⟨ak, ck, rfl, _⟩ := h2.shape
      have HB2 : Hid (Bs wr (.slice ak ls[k].length ck) ls[k]) := h2
      have HBEL : Hid (Below w.heap.size w wr) := hbel
      clear h2 hcell hc ho hbel
      generalize ls[k] = y at *
      go_wp2_with fail
      refine (bclone_any _ y _ HB2.out hlk).mono ?_
      rintro e w1 ⟨v1, rfl, ho1, b1⟩
      obtain ⟨a1, c1, rfl, _⟩ := ho1.bs.shape
      obtain ⟨vs, hr, hvl, hve⟩ := HOP.out
      have HR : Hid (Row w.heap.size (w1.alloc (.cells #[.slice a1 y.length c1] 30)) u3 vs) := (hr.kept b1).kept (up0 _ _)
      have HE : Hid (∀ j (h : j < vs.length) (h2 : j < (ls.take k).length), Own w.heap.size (w1.alloc (.cells #[.slice a1 y.length c1] 30)) vs[j] (ls.take k)[j]) := fun j h h2 => ((hve j h h2).kept b1).alloc _
      have HU : Hid (Own w.heap.size (w1.alloc (.cells #[.slice a1 y.length c1] 30)) (.slice a1 y.length c1) y) := (own_weak ho1 HBEL.out.size).alloc _
      have HBW : Hid (Below w.heap.size w (w1.alloc (.cells #[.slice a1 y.length c1] 30))) := up (andThen HBEL.out b1) _
      have HCE : Hid ((w1.alloc (.cells #[.slice a1 y.length c1] 30)).cell? ⟨w1.heap.size, 0, none⟩ = some (.slice a1 y.length c1)) := by
        show _ = _
        rw [World.cell?_alloc_new]; rfl
      have hvn : vs.length ≤ 5000000000 := by rw [hvl]; simp; omega
      have HVL : Hid (vs.length = (ls.take k).length) := hvl
      clear hr hve hvl ho1 b1 HB2 HOP hlk
      go_wp2_with (at_builtin; refine wpList_push _ rfl (.tmp 12) (.tmp 15) 41 rfl w.heap.size HIN.out Tryz.underlying41 _ vs rfl HR.out w1.heap.size (.slice a1 y.length c1) rfl HCE.out rfl hvn HBW.out.size ?_)
      intro v' w' hrow hb' hg
      have HN : Hid (OwnP w.heap.size w' v' (ls.take (k + 1)) ∧ Below w.heap.size w w') := by
        refine ⟨?_, HBW.out.trans hb'⟩
        rw [HT.out]
        exact OwnP.push HR.out HVL.out HE.out HU.out hrow hg
      clear hrow hb' hg HR HE HU HBW HCE HVL hvn HT HBEL
      go_wp2
      go_roundw
      case rel => exact ⟨k + 1, by omega, by go_num, HN.out.1, HN.out.2⟩
      case measure => simp [intOf]; omega
    · obtain rfl : k = ls.length := by omega
      have HN : Hid (OwnP w.heap.size wr u3 ls ∧ Below w.heap.size w wr) := ⟨by rw [List.take_length] at ho; exact ho, hbel⟩
      clear ho hbel
      go_wp2
      go_ret
      exact ⟨_, rfl, HN.out.1, HN.out.2⟩
end Go.Proofs.YtdnackjakfiffaaGreatDoor

/-
  A block's cells by a letter; what is written into them.
-/
namespace Go.Proofs.YtdnackjakfiffaaGreatDoor
open Go Go.RowKit
open Wb

/-- block g holds just these cells -/
def LB (w : World) (g : Nat) (t : TypeId) (D : List Value) : Prop := w.heap[g]? = some (.cells D.toArray t)
theorem LB.lt {w : World} {g : Nat} {t : TypeId} {D : List Value} (h : LB w g t D) : g < w.heap.size := (Array.getElem?_eq_some_iff.1 h).1
theorem LB.kept {w w' : World} {g : Nat} {t : TypeId} {D : List Value} (h : LB w g t D) (hb : Below w.heap.size w w') : LB w' g t D := (hb.block g h.lt).trans h
theorem LB.cell {w : World} {g : Nat} {t : TypeId} {D : List Value} (h : LB w g t D) (j : Nat) (v : Value) (hv : D[j]? = some v) : w.cell? ⟨g, j, none⟩ = some v := by
  unfold LB at h
  simp [World.cell?, h, hv]
theorem LB.range {w : World} {g : Nat} {t : TypeId} {D : List Value} (h : LB w g t D) : w.rangeAt g 0 D := fun j v hv => by rw [Nat.zero_add]; exact h.cell j v hv
theorem LB.free {w : World} {g : Nat} {t : TypeId} {D : List Value} (h : LB w g t D) (j : Nat) : w.frozen? ⟨g, j, none⟩ = false := by
  unfold LB at h
  simp [World.frozen?, h]
theorem LB.there {w : World} {g : Nat} {t : TypeId} {D : List Value} (h : LB w g t D) : w.there g 0 D.length := fun j hj => by
  rw [Nat.zero_add]
  exact ⟨by rw [h.cell j D[j] (List.getElem?_eq_getElem hj)]; rfl, h.free j⟩
theorem LB.set {w : World} {g : Nat} {t : TypeId} {D : List Value} (h : LB w g t D) (j : Nat) (v : Value) : LB (w.setCell ⟨g, j, none⟩ v) g t (D.set j v) := by
  unfold LB at *
  simp [World.setCell, Array.getElem?_modify, h]
theorem LB.other {w : World} {g : Nat} {t : TypeId} {D : List Value} (h : LB w g t D) (p : Addr) (v : Value) (hp : g ≠ p.block) : LB (w.setCell p v) g t D := (set_other w p v g hp).trans h
theorem LB.others {w : World} {g : Nat} {t : TypeId} {D : List Value} (h : LB w g t D) (g' o : Nat) (vs : List Value) (hp : g ≠ g') : LB (w.setCells g' o vs) g t D := (cells_other g' vs o w g hp).trans h
theorem set_lst (D r : List Value) (o : Nat) (v : Value) (h : o + (r.length + 1) ≤ D.length) : (D.set o v).take (o + 1) ++ r ++ (D.set o v).drop (o + 1 + r.length) = D.take o ++ (v :: r) ++ D.drop (o + (r.length + 1)) := by
  have e1 : (D.set o v).take (o + 1) = D.take o ++ [v] := by
    rw [List.take_succ_eq_append_getElem (by rw [List.length_set]; omega), List.take_set_of_le (Nat.le_refl _), List.getElem_set_self]
  have e2 : (D.set o v).drop (o + 1 + r.length) = D.drop (o + (r.length + 1)) := by
    rw [List.drop_set_of_lt (by omega), show o + 1 + r.length = o + (r.length + 1) by omega]
  rw [e1, e2]
  simp
theorem LB.sets_at {g : Nat} {t : TypeId} : ∀ (E : List Value) (o : Nat) (w : World) (D : List Value), LB w g t D → o + E.length ≤ D.length → LB (w.setCells g o E) g t (D.take o ++ E ++ D.drop (o + E.length))
  | [], o, w, D, h, _ => by
    have e : D.take o ++ [] ++ D.drop (o + ([] : List Value).length) = D := by simp
    rw [e]
    exact h
  | v :: r, o, w, D, h, hl => by
    have hl' : o + (r.length + 1) ≤ D.length := by simpa using hl
    have ih := LB.sets_at r (o + 1) (w.setCell ⟨g, o, none⟩ v) (D.set o v) (h.set o v) (by rw [List.length_set]; omega)
    rw [set_lst D r o v hl'] at ih
    exact ih
theorem LB.sets {w : World} {g : Nat} {t : TypeId} {D : List Value} (h : LB w g t D) (E : List Value) (hl : E.length = D.length) : LB (w.setCells g 0 E) g t E := by
  have h2 := LB.sets_at E 0 w D h (by omega)
  rw [show D.drop (0 + E.length) = [] by rw [Nat.zero_add, hl, List.drop_length]] at h2
  simpa using h2
theorem lb_new (w : World) (D : List Value) (t : TypeId) : LB (w.alloc (.cells D.toArray t)) w.heap.size t D := Array.getElem?_push_size
/-- two new blocks -/
theorem lb_new2 (w : World) (D Z : List Value) (t t2 : TypeId) : LB ((w.alloc (.cells D.toArray t)).alloc (.cells Z.toArray t2)) w.heap.size t D ∧ LB ((w.alloc (.cells D.toArray t)).alloc (.cells Z.toArray t2)) (w.heap.size + 1) t2 Z ∧ Below w.heap.size w ((w.alloc (.cells D.toArray t)).alloc (.cells Z.toArray t2)) := by
  refine ⟨(lb_new w D t).kept (up0 _ _), ?_, up (up0 _ _) _⟩
  have h := lb_new (w.alloc (.cells D.toArray t)) Z t2
  rwa [heap_one] at h
/-- a row of bytes stays while other blocks are written -/
theorem own_set {B : Nat} {w : World} {v : Value} {l : List Nat} (h : Own B w v l) (p : Addr) (u : Value) (hp : p.block < B) : Own B (w.setCell p u) v l := Own.set h p u hp
theorem row_kept2 {B : Nat} {w w' : World} {v : Value} {vs : List Value} (h : Row B w v vs) (hb : ∀ g, v.ownBlock = some g → w'.heap[g]? = w.heap[g]?) : Row B w' v vs := by
  refine ⟨h.1, ?_⟩
  rcases h.2 with h1 | ⟨g, cap, cur, rfl, h1, hg, rest⟩
  · exact .inl h1
  · exact .inr ⟨g, cap, cur, rfl, h1, (hb g rfl).trans hg, rest⟩
theorem own_keptB {B : Nat} {w w' : World} {d : Value} {l : List Nat} (h : Own B w d l) (hb : ∀ g, d.ownBlock = some g → w'.heap[g]? = w.heap[g]?) : Own B w' d l := by
  refine ⟨⟨h.row.1, ?_⟩, h.good⟩
  rcases h.row.2 with h1 | ⟨g, cap, cur, rfl, h1, hg, rest⟩
  · exact .inl h1
  · exact .inr ⟨g, cap, cur, rfl, h1, (hb g rfl).trans hg, rest⟩
/-- where a row of the call's own lies -/
theorem own_block {B : Nat} {w : World} {d : Value} {l : List Nat} (h : Own B w d l) (g : Nat) (e : d.ownBlock = some g) : B ≤ g ∧ g < w.heap.size := by
  rcases h.row.2 with ⟨rfl, _⟩ | ⟨g', cap, cur, rfl, h1, hg, _⟩
  · simp [Value.ownBlock] at e
  · simp [Value.ownBlock] at e
    subst e
    exact ⟨h1, (Array.getElem?_eq_some_iff.1 hg).1⟩
theorem row_block {B : Nat} {w : World} {v : Value} {vs : List Value} (h : Row B w v vs) (g : Nat) (e : v.ownBlock = some g) : B ≤ g ∧ g < w.heap.size := by
  rcases h.2 with ⟨rfl, _⟩ | ⟨g', cap, cur, rfl, h1, hg, _⟩
  · simp [Value.ownBlock] at e
  · simp [Value.ownBlock] at e
    subst e
    exact ⟨h1, (Array.getElem?_eq_some_iff.1 hg).1⟩
theorem OwnP.keptB {B : Nat} {w w' : World} {v : Value} {ls : List (List Nat)} (h : OwnP B w v ls) (hb : ∀ g, B ≤ g → g < w.heap.size → w'.heap[g]? = w.heap[g]?) : OwnP B w' v ls := by
  obtain ⟨vs, h1, h2, h3⟩ := h
  exact ⟨vs, row_kept2 h1 (fun g e => hb g (row_block h1 g e).1 (row_block h1 g e).2), h2, fun j a b => own_keptB (h3 j a b) (fun g e => hb g (own_block (h3 j a b) g e).1 (own_block (h3 j a b) g e).2)⟩
theorem OwnP.weak {B B2 : Nat} {w : World} {v : Value} {ls : List (List Nat)} (h : OwnP B2 w v ls) (hB : B ≤ B2) : OwnP B w v ls := by
  obtain ⟨vs, h1, h2, h3⟩ := h
  refine ⟨vs, ⟨h1.1, ?_⟩, h2, fun j a b => own_weak (h3 j a b) hB⟩
  rcases h1.2 with h1 | ⟨g, cap, cur, e, hb, rest⟩
  · exact .inl h1
  · exact .inr ⟨g, cap, cur, e, Nat.le_trans hB hb, rest⟩
end Go.Proofs.YtdnackjakfiffaaGreatDoor

/-
  Package saga: Clone.
-/
namespace Go.Proofs.YtdnackjakfiffaaGreatDoor
open Go Go.RowKit
open Wb

/-- a saga whose lists can be copied -/
structure Light (S : Sg) : Prop where
  inp : S.inp.length ≤ 140737488355000
  fail : S.fail.length ≤ 140737488355000
  outs : S.outs.length ≤ 5000000000
  und : S.und.length ≤ 5000000000
  eachO : ∀ l ∈ S.outs, l.length ≤ 140737488355000
  eachU : ∀ l ∈ S.und, l.length ≤ 140737488355000
/-- the lists of a saga in memory of their own -/
structure SgOwn (B : Nat) (w : World) (S : Sg) (h : SH) : Prop where
  inp : Own B w (.slice h.ai S.inp.length h.ci) S.inp
  outs : OwnP B w (.slice h.ao S.outs.length h.co) S.outs
  und : OwnP B w (.slice h.au S.und.length h.cu) S.und
  fail : Own B w (.slice h.af S.fail.length h.cf) S.fail
  apart : ∀ g, (Value.slice h.ao S.outs.length h.co).ownBlock = some g → (Value.slice h.au S.und.length h.cu).ownBlock ≠ some g
theorem SgOwn.at {B : Nat} {w : World} {S : Sg} {h : SH} (k : SgOwn B w S h) : SgAt w S h := ⟨k.inp.bs, k.outs.ps, k.und.ps, k.fail.bs⟩
theorem OwnP.block {B : Nat} {w : World} {v : Value} {ls : List (List Nat)} (h : OwnP B w v ls) (g : Nat) (e : v.ownBlock = some g) : B ≤ g ∧ g < w.heap.size := by
  obtain ⟨vs, h1, _⟩ := h
  exact row_block h1 g e
theorem OwnP.setB {B : Nat} {w : World} {v : Value} {ls : List (List Nat)} (h : OwnP B w v ls) (p : Addr) (u : Value) (hp : p.block < B) : OwnP B (w.setCell p u) v ls := h.keptB fun g hg _ => set_other w p u g (by omega)
theorem OwnP.setsB {B : Nat} {w : World} {v : Value} {ls : List (List Nat)} (h : OwnP B w v ls) (g o : Nat) (us : List Value) (hp : g < B) : OwnP B (w.setCells g o us) v ls := h.keptB fun i hi _ => cells_other g us o w i (by omega)
theorem scl_one (S : Sg) (h : SH) : ∀ v ∈ scl S h, v.oneCell' = true := by
  intro v hv
  simp only [scl, List.mem_cons, List.not_mem_nil, or_false] at hv
  rcases hv with rfl | rfl | rfl | rfl | rfl | rfl | rfl | rfl | rfl | rfl | rfl | rfl | rfl | rfl | rfl | rfl <;> rfl
def zcl : List Value := [.int .i64 0, .string ⟨#[]⟩, .int .i64 0, .int .i64 0, .int .i64 0, .int .i64 0, .slice none 0 0, .int .i64 0, .int .i64 0, .bool false, .int .i64 0, .slice none 0 0, .slice none 0 0, .int .i64 0, .int .i64 0, .slice none 0 0]
set_option maxRecDepth 100000 in
set_option maxHeartbeats 2000000 in
theorem sclone_any (S : Sg) (h : SH) (w : World) (k : SgAt w S h) (hl : Light S) :
    Calls Tryz.prog 47 #[sv S h] w fun e w' => ∃ h', e = .returned (sv S h') ∧ SgOwn w.heap.size w' S h' ∧ Below w.heap.size w w' := by
  have HK : Hid (∀ w', Below w.heap.size w w' → SgAt w' S h) := fun w' hb => k.kept hb
  have HCI : Hid (∀ w', Below w.heap.size w w' → Calls Tryz.prog 50 #[.slice h.ai S.inp.length h.ci] w' fun e w'' => ∃ a, ∃ c : Nat, e = .returned (.slice a S.inp.length c) ∧ Own w'.heap.size w'' (.slice a S.inp.length c) S.inp ∧ Below w'.heap.size w' w'') := fun w' hb => (bclone_any _ S.inp w' (k.kept hb).inp hl.inp).mono fun e w'' ⟨v, he, ho, hb'⟩ => by
    obtain ⟨a, c, rfl, _⟩ := ho.bs.shape
    exact ⟨a, c, he, ho, hb'⟩
  have HCF : Hid (∀ w', Below w.heap.size w w' → Calls Tryz.prog 50 #[.slice h.af S.fail.length h.cf] w' fun e w'' => ∃ a, ∃ c : Nat, e = .returned (.slice a S.fail.length c) ∧ Own w'.heap.size w'' (.slice a S.fail.length c) S.fail ∧ Below w'.heap.size w' w'') := fun w' hb => (bclone_any _ S.fail w' (k.kept hb).fail hl.fail).mono fun e w'' ⟨v, he, ho, hb'⟩ => by
    obtain ⟨a, c, rfl, _⟩ := ho.bs.shape
    exact ⟨a, c, he, ho, hb'⟩
  have HCO : Hid (∀ w', Below w.heap.size w w' → Calls Tryz.prog 62 #[.slice h.ao S.outs.length h.co] w' fun e w'' => ∃ a, ∃ c : Nat, e = .returned (.slice a S.outs.length c) ∧ OwnP w'.heap.size w'' (.slice a S.outs.length c) S.outs ∧ Below w'.heap.size w' w'') := fun w' hb => (cloneAll_any _ S.outs w' (k.kept hb).outs hl.outs hl.eachO).mono fun e w'' ⟨v, he, ho, hb'⟩ => by
    obtain ⟨a, c, rfl⟩ := ho.shape
    exact ⟨a, c, he, ho, hb'⟩
  have HCU : Hid (∀ w', Below w.heap.size w w' → Calls Tryz.prog 62 #[.slice h.au S.und.length h.cu] w' fun e w'' => ∃ a, ∃ c : Nat, e = .returned (.slice a S.und.length c) ∧ OwnP w'.heap.size w'' (.slice a S.und.length c) S.und ∧ Below w'.heap.size w' w'') := fun w' hb => (cloneAll_any _ S.und w' (k.kept hb).und hl.und hl.eachU).mono fun e w'' ⟨v, he, ho, hb'⟩ => by
    obtain ⟨a, c, rfl⟩ := ho.shape
    exact ⟨a, c, he, ho, hb'⟩
  clear k hl
  obtain ⟨D, hD, hL, hE⟩ := sv_letter S h
  rw [hD]
  have HL : Hid _ := hL
  have HE : Hid (D = scl S h) := hE
  have HX : Hid (∀ t t2, LB ((w.alloc (.cells D.toArray t)).alloc (.cells zcl.toArray t2)) w.heap.size t D ∧ LB ((w.alloc (.cells D.toArray t)).alloc (.cells zcl.toArray t2)) (w.heap.size + 1) t2 zcl ∧ Below w.heap.size w ((w.alloc (.cells D.toArray t)).alloc (.cells zcl.toArray t2))) := fun t t2 => lb_new2 w D zcl t t2
  clear hD hL hE
  go_enter Tryz.func47, Tryz.ntmps47
  go_wp2
  have HW : Hid _ := HX.out 43 43
  unfold zcl at HW
  clear HX
  generalize (w.alloc (.cells D.toArray 43)).alloc _ = W0 at HW ⊢
  obtain ⟨L1, L2, B0⟩ := HW.out
  clear HW
  have H0 : Hid (LB W0 w.heap.size 43 D ∧ LB W0 (w.heap.size + 1) 43 zcl ∧ Below w.heap.size w W0) := ⟨L1, L2, B0⟩
  go_cut [5, 8] from 3 to 10 (fun s1 s2 wx => ∃ a1 c1 a2 c2, s1 = .slice a1 S.inp.length c1 ∧ s2 = .slice a2 S.fail.length c2 ∧ LB wx w.heap.size 43 ((D.set 6 s1).set 15 s2) ∧ LB wx (w.heap.size + 1) 43 zcl ∧ Own (w.heap.size + 2) wx s1 S.inp ∧ Own (w.heap.size + 2) wx s2 S.fail ∧ Below w.heap.size w wx)
  case first =>
    have FIN : Hid (∀ (a1 : Option Addr) (c1 : Nat) (a2 : Option Addr) (c2 : Nat) (w2 : World), (LB w2 w.heap.size 43 D ∧ LB w2 (w.heap.size + 1) 43 zcl ∧ Below w.heap.size w w2) → (Own (w.heap.size + 2) w2 (.slice a1 S.inp.length c1) S.inp ∧ Own (w.heap.size + 2) w2 (.slice a2 S.fail.length c2) S.fail) →
        ∃ b1 d1 b2 d2, Value.slice a1 S.inp.length c1 = .slice b1 S.inp.length d1 ∧ Value.slice a2 S.fail.length c2 = .slice b2 S.fail.length d2 ∧ LB ((w2.setCell ⟨w.heap.size, 6, none⟩ (.slice a1 S.inp.length c1)).setCell ⟨w.heap.size, 15, none⟩ (.slice a2 S.fail.length c2)) w.heap.size 43 ((D.set 6 (.slice a1 S.inp.length c1)).set 15 (.slice a2 S.fail.length c2)) ∧ LB ((w2.setCell ⟨w.heap.size, 6, none⟩ (.slice a1 S.inp.length c1)).setCell ⟨w.heap.size, 15, none⟩ (.slice a2 S.fail.length c2)) (w.heap.size + 1) 43 zcl ∧ Own (w.heap.size + 2) ((w2.setCell ⟨w.heap.size, 6, none⟩ (.slice a1 S.inp.length c1)).setCell ⟨w.heap.size, 15, none⟩ (.slice a2 S.fail.length c2)) (.slice a1 S.inp.length c1) S.inp ∧ Own (w.heap.size + 2) ((w2.setCell ⟨w.heap.size, 6, none⟩ (.slice a1 S.inp.length c1)).setCell ⟨w.heap.size, 15, none⟩ (.slice a2 S.fail.length c2)) (.slice a2 S.fail.length c2) S.fail ∧ Below w.heap.size w ((w2.setCell ⟨w.heap.size, 6, none⟩ (.slice a1 S.inp.length c1)).setCell ⟨w.heap.size, 15, none⟩ (.slice a2 S.fail.length c2))) :=
      fun a1 c1 a2 c2 w2 ⟨x1, x2, x3⟩ ⟨y1, y2⟩ => ⟨a1, c1, a2, c2, rfl, rfl, (x1.set _ _).set _ _, (x2.other _ _ (show w.heap.size + 1 ≠ w.heap.size by omega)).other _ _ (show w.heap.size + 1 ≠ w.heap.size by omega), own_set (own_set y1 _ _ (show w.heap.size < w.heap.size + 2 by omega)) _ _ (show w.heap.size < w.heap.size + 2 by omega), own_set (own_set y2 _ _ (show w.heap.size < w.heap.size + 2 by omega)) _ _ (show w.heap.size < w.heap.size + 2 by omega), Below.setCell (Below.setCell x3 (Nat.le_refl _) _) (Nat.le_refl _) _⟩
    refine wp_region_held_drew (S := fun _ => True) (by kernel_rfl) trivial (fun hH => ?_)
    have H1 : Hid (LB W0.drew w.heap.size 43 D ∧ LB W0.drew (w.heap.size + 1) 43 zcl ∧ Below w.heap.size w W0.drew) := ⟨L1.kept (Below.drew (Below.refl _ _)), L2.kept (Below.drew (Below.refl _ _)), Below.drew B0⟩
    generalize W0.drew = W1 at *
    have cA := H1.out.1.cell 6 (.slice h.ai S.inp.length h.ci) (by rw [HE.out]; rfl)
    have cB := H1.out.1.cell 15 (.slice h.af S.fail.length h.cf) (by rw [HE.out]; rfl)
    refine wpAnyH_take (i := 0) (v := ?v1) rfl (by kernel_rfl) (by kernel_rfl) (by kernel_rfl) (fun _ _ _ h => h) (Or.inl ⟨by rfl, ?hy1⟩) hH ?rest1
    case hy1 => intro w' hSw; (try dsimp only at hSw); go_simp; all_goals rfl
    simp only [Act.put, List.setIfInBounds_toArray, List.set_cons_zero, List.set_cons_succ, List.getElem_toArray, List.getElem_cons_zero]
    refine wpAnyH_take (i := 3) (v := ?v2) rfl (by kernel_rfl) (by kernel_rfl) (by kernel_rfl) (fun _ _ _ h => h) (Or.inl ⟨by rfl, ?hy2⟩) hH ?rest2
    case hy2 => intro w' hSw; (try dsimp only at hSw); go_simp; all_goals rfl
    simp only [Act.put, List.setIfInBounds_toArray, List.set_cons_zero, List.set_cons_succ, List.getElem_toArray, List.getElem_cons_zero, List.getElem_cons_succ]
    refine wpAnyH_ready (rs := [1, 4]) (by kernel_rfl) (by simp) ?_
    refine AllReadyH.cons rfl (fun K hK => ?pr1) ?pr2
    case' pr1 =>
      go_simp
      refine hK.out _ _ trivial (fun _ => ?_)
      clear hK K
      refine wpAnyH_ready (rs := [2, 4]) (by kernel_rfl) (by simp) ?_
      refine AllReadyH.cons rfl (fun K hK => ?pr3) ?pr4
      case' pr3 =>
        go_simp
        refine (HCI.out _ H1.out.2.2).mono ?_
        rintro e w1 ⟨a1, c1, rfl, o1, b1⟩
        have H2 : Hid (LB w1 w.heap.size 43 D ∧ LB w1 (w.heap.size + 1) 43 zcl ∧ Below w.heap.size w w1) := ⟨H1.out.1.kept b1, H1.out.2.1.kept b1, andThen H1.out.2.2 b1⟩
        have HO1 : Hid (Own (w.heap.size + 2) w1 (.slice a1 S.inp.length c1) S.inp) := own_weak o1 H1.out.2.1.lt
        have cB := H2.out.1.cell 15 (.slice h.af S.fail.length h.cf) (by rw [HE.out]; rfl)
        refine hK.out _ _ trivial (fun _ => ?_)
        clear hK K cA o1
        refine wpAnyH_ready (rs := [4]) (by kernel_rfl) (by simp) ?_
        refine AllReadyH.cons rfl (fun K hK => ?_) AllReadyH.nil
        go_simp
        refine hK.out _ _ trivial (fun _ => ?_)
        clear hK K
      case' pr4 =>
        refine AllReadyH.cons rfl (fun K hK => ?_) AllReadyH.nil
        go_simp
        refine hK.out _ _ trivial (fun _ => ?_)
        clear hK K
        refine wpAnyH_ready (rs := [2]) (by kernel_rfl) (by simp) ?_
        refine AllReadyH.cons rfl (fun K hK => ?_) AllReadyH.nil
        go_simp
        refine (HCI.out _ H1.out.2.2).mono ?_
        rintro e w1 ⟨a1, c1, rfl, o1, b1⟩
        have H2 : Hid (LB w1 w.heap.size 43 D ∧ LB w1 (w.heap.size + 1) 43 zcl ∧ Below w.heap.size w w1) := ⟨H1.out.1.kept b1, H1.out.2.1.kept b1, andThen H1.out.2.2 b1⟩
        have HO1 : Hid (Own (w.heap.size + 2) w1 (.slice a1 S.inp.length c1) S.inp) := own_weak o1 H1.out.2.1.lt
        have cB := H2.out.1.cell 15 (.slice h.af S.fail.length h.cf) (by rw [HE.out]; rfl)
        refine hK.out _ _ trivial (fun _ => ?_)
        clear hK K cA o1
    case' pr2 =>
      refine AllReadyH.cons rfl (fun K hK => ?_) AllReadyH.nil
      go_simp
      refine hK.out _ _ trivial (fun _ => ?_)
      clear hK K
      refine wpAnyH_ready (rs := [1]) (by kernel_rfl) (by simp) ?_
      refine AllReadyH.cons rfl (fun K hK => ?_) AllReadyH.nil
      go_simp
      refine hK.out _ _ trivial (fun _ => ?_)
      clear hK K
      refine wpAnyH_ready (rs := [2]) (by kernel_rfl) (by simp) ?_
      refine AllReadyH.cons rfl (fun K hK => ?_) AllReadyH.nil
      go_simp
      refine (HCI.out _ H1.out.2.2).mono ?_
      rintro e w1 ⟨a1, c1, rfl, o1, b1⟩
      have H2 : Hid (LB w1 w.heap.size 43 D ∧ LB w1 (w.heap.size + 1) 43 zcl ∧ Below w.heap.size w w1) := ⟨H1.out.1.kept b1, H1.out.2.1.kept b1, andThen H1.out.2.2 b1⟩
      have HO1 : Hid (Own (w.heap.size + 2) w1 (.slice a1 S.inp.length c1) S.inp) := own_weak o1 H1.out.2.1.lt
      have cB := H2.out.1.cell 15 (.slice h.af S.fail.length h.cf) (by rw [HE.out]; rfl)
      refine hK.out _ _ trivial (fun _ => ?_)
      clear hK K cA o1
    all_goals
      refine zqk 6 rfl hH ?_
      simp only [Act.put, List.setIfInBounds_toArray, List.set_cons_zero, List.set_cons_succ, List.getElem_toArray, List.getElem_cons_zero, List.getElem_cons_succ]
      refine wpAnyH_ready (rs := [5]) (by kernel_rfl) (by simp) ?_
      refine AllReadyH.cons rfl (fun K hK => ?_) AllReadyH.nil
      go_simp
      refine (HCF.out _ H2.out.2.2).mono ?_
      rintro e w2 ⟨a2, c2, rfl, o2, b2⟩
      have H3 : Hid (LB w2 w.heap.size 43 D ∧ LB w2 (w.heap.size + 1) 43 zcl ∧ Below w.heap.size w w2) := ⟨H2.out.1.kept b2, H2.out.2.1.kept b2, andThen H2.out.2.2 b2⟩
      have HO2 : Hid (Own (w.heap.size + 2) w2 (.slice a1 S.inp.length c1) S.inp ∧ Own (w.heap.size + 2) w2 (.slice a2 S.fail.length c2) S.fail) := ⟨HO1.out.kept b2, own_weak o2 (Nat.le_trans H2.out.2.1.lt (Nat.le_refl _))⟩
      have cA := H3.out.1.cell 6 (.slice h.ai S.inp.length h.ci) (by rw [HE.out]; rfl)
      have cB2 := H3.out.1.cell 15 (.slice h.af S.fail.length h.cf) (by rw [HE.out]; rfl)
      have fA := H3.out.1.free 6
      have fB := H3.out.1.free 15
      refine hK.out _ _ trivial (fun _ => ?_)
      clear hK K
      refine wpAnyH_ready (rs := [7]) (by kernel_rfl) (by simp) ?_
      refine AllReadyH.cons rfl (fun K hK => ?_) AllReadyH.nil
      go_simp
      refine hK.out _ _ trivial (fun _ => ?_)
      clear hK K
      refine zqk 8 rfl hH ?_
      simp only [Act.put, List.setIfInBounds_toArray, List.set_cons_zero, List.set_cons_succ, List.getElem_toArray, List.getElem_cons_zero, List.getElem_cons_succ]
      refine wpAnyH_ready (rs := [9]) (by kernel_rfl) (by simp) ?_
      refine AllReadyH.cons rfl (fun K hK => ?_) AllReadyH.nil
      go_simp
      refine hK.out _ _ trivial (fun _ => ?_)
      clear hK K
      refine wpAnyH_done (by kernel_rfl) ?_ _
      go_wp2_with fail
      go_meet
      exact FIN.out a1 c1 a2 c2 w2 H3.out HO2.out
  case rest =>
    obtain ⟨ai, ci, af, cf, rfl, rfl, l1, l2, oi, of1, b⟩ := hcut
    obtain ⟨D2, hD2⟩ : ∃ D2, (D.set 6 (.slice ai S.inp.length ci)).set 15 (.slice af S.fail.length cf) = D2 := ⟨_, rfl⟩
    rw [hD2] at l1
    have HE2 : Hid (D2 = scl S ⟨ai, ci, h.ao, h.co, h.au, h.cu, af, cf⟩) := by show _ = _; rw [← hD2, HE.out]; rfl
    clear hD2 H0 L1 L2 B0 HCI HCF HK
    generalize wc = W2 at *
    go_wp2
    go_cut [13, 16] from 11 to 18 (fun s1 s2 wx => ∃ a1 c1 a2 c2, s1 = .slice a1 S.outs.length c1 ∧ s2 = .slice a2 S.und.length c2 ∧ LB wx w.heap.size 43 ((D2.set 11 s1).set 12 s2) ∧ LB wx (w.heap.size + 1) 43 zcl ∧ Own (w.heap.size + 2) wx (.slice ai S.inp.length ci) S.inp ∧ Own (w.heap.size + 2) wx (.slice af S.fail.length cf) S.fail ∧ OwnP (w.heap.size + 2) wx s1 S.outs ∧ OwnP (w.heap.size + 2) wx s2 S.und ∧ (∀ g, s1.ownBlock = some g → s2.ownBlock ≠ some g) ∧ Below w.heap.size w wx)
    case first =>
      have FIN : Hid (∀ (a1 : Option Addr) (c1 : Nat) (a2 : Option Addr) (c2 : Nat) (w2 : World), (LB w2 w.heap.size 43 D2 ∧ LB w2 (w.heap.size + 1) 43 zcl ∧ Own (w.heap.size + 2) w2 (.slice ai S.inp.length ci) S.inp ∧ Own (w.heap.size + 2) w2 (.slice af S.fail.length cf) S.fail ∧ Below w.heap.size w w2) → (OwnP (w.heap.size + 2) w2 (.slice a1 S.outs.length c1) S.outs ∧ OwnP (w.heap.size + 2) w2 (.slice a2 S.und.length c2) S.und ∧ ∀ g, (Value.slice a1 S.outs.length c1).ownBlock = some g → (Value.slice a2 S.und.length c2).ownBlock ≠ some g) → ∃ b1 d1 b2 d2, Value.slice a1 S.outs.length c1 = .slice b1 S.outs.length d1 ∧ Value.slice a2 S.und.length c2 = .slice b2 S.und.length d2 ∧ LB ((w2.setCell ⟨w.heap.size, 11, none⟩ (.slice a1 S.outs.length c1)).setCell ⟨w.heap.size, 12, none⟩ (.slice a2 S.und.length c2)) w.heap.size 43 ((D2.set 11 (Value.slice a1 S.outs.length c1)).set 12 (Value.slice a2 S.und.length c2)) ∧ LB ((w2.setCell ⟨w.heap.size, 11, none⟩ (.slice a1 S.outs.length c1)).setCell ⟨w.heap.size, 12, none⟩ (.slice a2 S.und.length c2)) (w.heap.size + 1) 43 zcl ∧ Own (w.heap.size + 2) ((w2.setCell ⟨w.heap.size, 11, none⟩ (.slice a1 S.outs.length c1)).setCell ⟨w.heap.size, 12, none⟩ (.slice a2 S.und.length c2)) (.slice ai S.inp.length ci) S.inp ∧ Own (w.heap.size + 2) ((w2.setCell ⟨w.heap.size, 11, none⟩ (.slice a1 S.outs.length c1)).setCell ⟨w.heap.size, 12, none⟩ (.slice a2 S.und.length c2)) (.slice af S.fail.length cf) S.fail ∧ OwnP (w.heap.size + 2) ((w2.setCell ⟨w.heap.size, 11, none⟩ (.slice a1 S.outs.length c1)).setCell ⟨w.heap.size, 12, none⟩ (.slice a2 S.und.length c2)) (Value.slice a1 S.outs.length c1) S.outs ∧ OwnP (w.heap.size + 2) ((w2.setCell ⟨w.heap.size, 11, none⟩ (.slice a1 S.outs.length c1)).setCell ⟨w.heap.size, 12, none⟩ (.slice a2 S.und.length c2)) (Value.slice a2 S.und.length c2) S.und ∧ (∀ g, (Value.slice a1 S.outs.length c1).ownBlock = some g → (Value.slice a2 S.und.length c2).ownBlock ≠ some g) ∧ Below w.heap.size w ((w2.setCell ⟨w.heap.size, 11, none⟩ (.slice a1 S.outs.length c1)).setCell ⟨w.heap.size, 12, none⟩ (.slice a2 S.und.length c2))) :=
        fun a1 c1 a2 c2 w2 ⟨x1, x2, x3, x4, x5⟩ ⟨y1, y2, y3⟩ => ⟨a1, c1, a2, c2, rfl, rfl, (x1.set _ _).set _ _, (x2.other _ _ (show w.heap.size + 1 ≠ w.heap.size by omega)).other _ _ (show w.heap.size + 1 ≠ w.heap.size by omega), own_set (own_set x3 _ _ (show w.heap.size < w.heap.size + 2 by omega)) _ _ (show w.heap.size < w.heap.size + 2 by omega), own_set (own_set x4 _ _ (show w.heap.size < w.heap.size + 2 by omega)) _ _ (show w.heap.size < w.heap.size + 2 by omega), (y1.setB _ _ (show w.heap.size < w.heap.size + 2 by omega)).setB _ _ (show w.heap.size < w.heap.size + 2 by omega), (y2.setB _ _ (show w.heap.size < w.heap.size + 2 by omega)).setB _ _ (show w.heap.size < w.heap.size + 2 by omega), y3, Below.setCell (Below.setCell x5 (Nat.le_refl _) _) (Nat.le_refl _) _⟩
      refine wp_region_held_drew (S := fun _ => True) (by kernel_rfl) trivial (fun hH => ?_)
      have H1 : Hid (LB W2.drew w.heap.size 43 D2 ∧ LB W2.drew (w.heap.size + 1) 43 zcl ∧ Own (w.heap.size + 2) W2.drew (.slice ai S.inp.length ci) S.inp ∧ Own (w.heap.size + 2) W2.drew (.slice af S.fail.length cf) S.fail ∧ Below w.heap.size w W2.drew) := ⟨l1.kept (Below.drew (Below.refl _ _)), l2.kept (Below.drew (Below.refl _ _)), oi.kept (Below.drew (Below.refl _ _)), of1.kept (Below.drew (Below.refl _ _)), Below.drew b⟩
      generalize W2.drew = W1 at *
      have cA := H1.out.1.cell 11 (.slice h.ao S.outs.length h.co) (by rw [HE2.out]; rfl)
      have cB := H1.out.1.cell 12 (.slice h.au S.und.length h.cu) (by rw [HE2.out]; rfl)
      refine wpAnyH_take (i := 0) (v := ?v3) rfl (by kernel_rfl) (by kernel_rfl) (by kernel_rfl) (fun _ _ _ h => h) (Or.inl ⟨by rfl, ?hy3⟩) hH ?rest3
      case hy3 => intro w' hSw; (try dsimp only at hSw); go_simp; all_goals rfl
      simp only [Act.put, List.setIfInBounds_toArray, List.set_cons_zero, List.set_cons_succ, List.getElem_toArray, List.getElem_cons_zero]
      refine wpAnyH_take (i := 3) (v := ?v4) rfl (by kernel_rfl) (by kernel_rfl) (by kernel_rfl) (fun _ _ _ h => h) (Or.inl ⟨by rfl, ?hy4⟩) hH ?rest4
      case hy4 => intro w' hSw; (try dsimp only at hSw); go_simp; all_goals rfl
      simp only [Act.put, List.setIfInBounds_toArray, List.set_cons_zero, List.set_cons_succ, List.getElem_toArray, List.getElem_cons_zero, List.getElem_cons_succ]
      refine wpAnyH_ready (rs := [1, 4]) (by kernel_rfl) (by simp) ?_
      refine AllReadyH.cons rfl (fun K hK => ?ps1) ?ps2
      case' ps1 =>
        go_simp
        refine hK.out _ _ trivial (fun _ => ?_)
        clear hK K
        refine wpAnyH_ready (rs := [2, 4]) (by kernel_rfl) (by simp) ?_
        refine AllReadyH.cons rfl (fun K hK => ?ps3) ?ps4
        case' ps3 =>
          go_simp
          refine (HCO.out _ H1.out.2.2.2.2).mono ?_
          rintro e w1 ⟨a1, c1, rfl, o1, b1⟩
          have H2 : Hid (LB w1 w.heap.size 43 D2 ∧ LB w1 (w.heap.size + 1) 43 zcl ∧ Own (w.heap.size + 2) w1 (.slice ai S.inp.length ci) S.inp ∧ Own (w.heap.size + 2) w1 (.slice af S.fail.length cf) S.fail ∧ Below w.heap.size w w1) := ⟨H1.out.1.kept b1, H1.out.2.1.kept b1, H1.out.2.2.1.kept b1, H1.out.2.2.2.1.kept b1, andThen H1.out.2.2.2.2 b1⟩
          have HO1 : Hid (OwnP (w.heap.size + 2) w1 (.slice a1 S.outs.length c1) S.outs) := OwnP.weak o1 H1.out.2.1.lt
          have cB := H2.out.1.cell 12 (.slice h.au S.und.length h.cu) (by rw [HE2.out]; rfl)
          refine hK.out _ _ trivial (fun _ => ?_)
          clear hK K cA o1
          refine wpAnyH_ready (rs := [4]) (by kernel_rfl) (by simp) ?_
          refine AllReadyH.cons rfl (fun K hK => ?_) AllReadyH.nil
          go_simp
          refine hK.out _ _ trivial (fun _ => ?_)
          clear hK K
        case' ps4 =>
          refine AllReadyH.cons rfl (fun K hK => ?_) AllReadyH.nil
          go_simp
          refine hK.out _ _ trivial (fun _ => ?_)
          clear hK K
          refine wpAnyH_ready (rs := [2]) (by kernel_rfl) (by simp) ?_
          refine AllReadyH.cons rfl (fun K hK => ?_) AllReadyH.nil
          go_simp
          refine (HCO.out _ H1.out.2.2.2.2).mono ?_
          rintro e w1 ⟨a1, c1, rfl, o1, b1⟩
          have H2 : Hid (LB w1 w.heap.size 43 D2 ∧ LB w1 (w.heap.size + 1) 43 zcl ∧ Own (w.heap.size + 2) w1 (.slice ai S.inp.length ci) S.inp ∧ Own (w.heap.size + 2) w1 (.slice af S.fail.length cf) S.fail ∧ Below w.heap.size w w1) := ⟨H1.out.1.kept b1, H1.out.2.1.kept b1, H1.out.2.2.1.kept b1, H1.out.2.2.2.1.kept b1, andThen H1.out.2.2.2.2 b1⟩
          have HO1 : Hid (OwnP (w.heap.size + 2) w1 (.slice a1 S.outs.length c1) S.outs) := OwnP.weak o1 H1.out.2.1.lt
          have cB := H2.out.1.cell 12 (.slice h.au S.und.length h.cu) (by rw [HE2.out]; rfl)
          refine hK.out _ _ trivial (fun _ => ?_)
          clear hK K cA o1
      case' ps2 =>
        refine AllReadyH.cons rfl (fun K hK => ?_) AllReadyH.nil
        go_simp
        refine hK.out _ _ trivial (fun _ => ?_)
        clear hK K
        refine wpAnyH_ready (rs := [1]) (by kernel_rfl) (by simp) ?_
        refine AllReadyH.cons rfl (fun K hK => ?_) AllReadyH.nil
        go_simp
        refine hK.out _ _ trivial (fun _ => ?_)
        clear hK K
        refine wpAnyH_ready (rs := [2]) (by kernel_rfl) (by simp) ?_
        refine AllReadyH.cons rfl (fun K hK => ?_) AllReadyH.nil
        go_simp
        refine (HCO.out _ H1.out.2.2.2.2).mono ?_
        rintro e w1 ⟨a1, c1, rfl, o1, b1⟩
        have H2 : Hid (LB w1 w.heap.size 43 D2 ∧ LB w1 (w.heap.size + 1) 43 zcl ∧ Own (w.heap.size + 2) w1 (.slice ai S.inp.length ci) S.inp ∧ Own (w.heap.size + 2) w1 (.slice af S.fail.length cf) S.fail ∧ Below w.heap.size w w1) := ⟨H1.out.1.kept b1, H1.out.2.1.kept b1, H1.out.2.2.1.kept b1, H1.out.2.2.2.1.kept b1, andThen H1.out.2.2.2.2 b1⟩
        have HO1 : Hid (OwnP (w.heap.size + 2) w1 (.slice a1 S.outs.length c1) S.outs) := OwnP.weak o1 H1.out.2.1.lt
        have cB := H2.out.1.cell 12 (.slice h.au S.und.length h.cu) (by rw [HE2.out]; rfl)
        refine hK.out _ _ trivial (fun _ => ?_)
        clear hK K cA o1
      all_goals
        refine zqk 6 rfl hH ?_
        simp only [Act.put, List.setIfInBounds_toArray, List.set_cons_zero, List.set_cons_succ, List.getElem_toArray, List.getElem_cons_zero, List.getElem_cons_succ]
        refine wpAnyH_ready (rs := [5]) (by kernel_rfl) (by simp) ?_
        refine AllReadyH.cons rfl (fun K hK => ?_) AllReadyH.nil
        go_simp
        refine (HCU.out _ H2.out.2.2.2.2).mono ?_
        rintro e w2 ⟨a2, c2, rfl, o2, b2⟩
        have H3 : Hid (LB w2 w.heap.size 43 D2 ∧ LB w2 (w.heap.size + 1) 43 zcl ∧ Own (w.heap.size + 2) w2 (.slice ai S.inp.length ci) S.inp ∧ Own (w.heap.size + 2) w2 (.slice af S.fail.length cf) S.fail ∧ Below w.heap.size w w2) := ⟨H2.out.1.kept b2, H2.out.2.1.kept b2, H2.out.2.2.1.kept b2, H2.out.2.2.2.1.kept b2, andThen H2.out.2.2.2.2 b2⟩
        have HO2 : Hid (OwnP (w.heap.size + 2) w2 (.slice a1 S.outs.length c1) S.outs ∧ OwnP (w.heap.size + 2) w2 (.slice a2 S.und.length c2) S.und ∧ ∀ g, (Value.slice a1 S.outs.length c1).ownBlock = some g → (Value.slice a2 S.und.length c2).ownBlock ≠ some g) := ⟨HO1.out.kept b2, OwnP.weak o2 (Nat.le_trans H2.out.2.1.lt (Nat.le_refl _)), fun g e e2 => absurd (HO1.out.block g e).2 (Nat.not_lt.2 (o2.block g e2).1)⟩
        have cA := H3.out.1.cell 11 (.slice h.ao S.outs.length h.co) (by rw [HE2.out]; rfl)
        have cB2 := H3.out.1.cell 12 (.slice h.au S.und.length h.cu) (by rw [HE2.out]; rfl)
        have fA := H3.out.1.free 11
        have fB := H3.out.1.free 12
        refine hK.out _ _ trivial (fun _ => ?_)
        clear hK K
        refine wpAnyH_ready (rs := [7]) (by kernel_rfl) (by simp) ?_
        refine AllReadyH.cons rfl (fun K hK => ?_) AllReadyH.nil
        go_simp
        refine hK.out _ _ trivial (fun _ => ?_)
        clear hK K
        refine zqk 8 rfl hH ?_
        simp only [Act.put, List.setIfInBounds_toArray, List.set_cons_zero, List.set_cons_succ, List.getElem_toArray, List.getElem_cons_zero, List.getElem_cons_succ]
        refine wpAnyH_ready (rs := [9]) (by kernel_rfl) (by simp) ?_
        refine AllReadyH.cons rfl (fun K hK => ?_) AllReadyH.nil
        go_simp
        refine hK.out _ _ trivial (fun _ => ?_)
        clear hK K
        refine wpAnyH_done (by kernel_rfl) ?_ _
        go_wp2_with fail
        go_meet
        exact FIN.out a1 c1 a2 c2 w2 H3.out HO2.out
    case rest =>
      obtain ⟨a3, c3, a4, c4, rfl, rfl, l3, l4, oi3, of3, oo3, ou3, ap3, b3⟩ := hcut
      obtain ⟨D3, hD3⟩ : ∃ D3, (D2.set 11 (.slice a3 S.outs.length c3)).set 12 (.slice a4 S.und.length c4) = D3 := ⟨_, rfl⟩
      rw [hD3] at l3
      have HE3 : Hid (D3 = scl S ⟨ai, ci, a3, c3, a4, c4, af, cf⟩) := by show _ = _; rw [← hD3, HE2.out]; rfl
      have HL3 : Hid ((Tryz.prog.info? 43).map (·.size) = some D3.length) := by show _ = _; rw [HE3.out]; exact infoSaga
      have H1C : Hid (∀ v ∈ D3, v.oneCell' = true) := by show ∀ v ∈ D3, _; rw [HE3.out]; exact scl_one _ _
      have HLZ : Hid (D3.length = zcl.length) := by show _ = _; rw [HE3.out]; rfl
      clear hD3 HE HE2 l1 l2 oi of1 b HCO HCU HL
      generalize wc = W3 at *
      have HF : Hid (SgOwn w.heap.size (W3.setCells (w.heap.size + 1) 0 D3) S ⟨ai, ci, a3, c3, a4, c4, af, cf⟩ ∧ Below w.heap.size w (W3.setCells (w.heap.size + 1) 0 D3)) :=
        ⟨⟨own_weak (B2 := w.heap.size + 2) (Own.cells oi3 (w.heap.size + 1) 0 D3 (by omega)) (by omega), (oo3.setsB _ _ _ (by omega)).weak (by omega), (ou3.setsB _ _ _ (by omega)).weak (by omega), own_weak (B2 := w.heap.size + 2) (Own.cells of3 (w.heap.size + 1) 0 D3 (by omega)) (by omega), ap3⟩, below_cells (by omega) _ 0 _ b3⟩
      have HR3 : Hid (W3.rangeAt w.heap.size 0 D3) := l3.range
      have HT4 : Hid (W3.there (w.heap.size + 1) 0 D3.toArray.size) := by have e := l4.there; rw [← HLZ.out] at e; show W3.there _ _ _; simpa using e
      have HR5 : Hid ((W3.setCells (w.heap.size + 1) 0 D3).rangeAt (w.heap.size + 1) 0 D3) := (l4.sets D3 HLZ.out).range
      clear l3 l4 oi3 of3 oo3 ou3 ap3 b3 HLZ
      go_wp2_with (first | (refine wpList_load_mid rfl 43 _ rfl w.heap.size 0 rfl D3 _ HR3.out Tryz.underlying43 rfl HL3.out ?_) | (refine wpList_store_mid rfl 43 (.tmp 2) (.tmp 19) rfl (w.heap.size + 1) 0 D3.toArray rfl rfl HT4.out (by simpa using HL3.out) (all_oneCell_toArray H1C.out) ?_))
      refine bodyPost_ret (results_cell_mid rfl _ (W3.setCells (w.heap.size + 1) 0 D3) (w.heap.size + 1) D3 _ rfl HR5.out Tryz.underlying43 rfl HL3.out) rfl ?_
      exact ⟨⟨ai, ci, a3, c3, a4, c4, af, cf⟩, by rw [HE3.out]; rfl, HF.out.1, HF.out.2⟩
end Go.Proofs.YtdnackjakfiffaaGreatDoor
