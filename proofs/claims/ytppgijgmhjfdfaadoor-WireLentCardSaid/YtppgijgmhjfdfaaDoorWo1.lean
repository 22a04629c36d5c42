/-
  WireOwn: byte rows of the call's own in a list of its own, all apart.
-/
import Derived.Test.YtppgijgmhjfdfaaDoorLo9
import Derived.Laws.AppendOwnNone
namespace Go.Proofs.YtppgijgmhjfdfaaDoor
open Go Go.RowKit
open Wb

def Ap (u v : Value) : Prop := ∀ g, u.ownBlock = some g → v.ownBlock ≠ some g
structure Ans (B : Nat) (w : World) (v : Value) (ps : List (Value × List Nat)) : Prop where
  row : w.ownsRow B 25 1 v ps.length (ps.map Prod.fst)
  each : ∀ p ∈ ps, Own B w p.1 p.2
  apart : ps.Pairwise fun p q => Ap p.1 q.1
  rowap : ∀ p ∈ ps, Ap v p.1
/-- new rows: behind n0, apart -/
structure New (n0 : Nat) (w : World) (qs : List (Value × List Nat)) : Prop where
  each : ∀ q ∈ qs, Own n0 w q.1 q.2
  apart : qs.Pairwise fun p q => Ap p.1 q.1
theorem Ans.nil (B : Nat) (w : World) : Ans B w (.slice none 0 0) [] := ⟨World.ownsRow_nil _ _ _ _, (fun _ h => nomatch h), List.Pairwise.nil, (fun _ h => nomatch h)⟩
theorem Ans.kept {B : Nat} {w w' : World} {v : Value} {ps : List (Value × List Nat)} (h : Ans B w v ps) (hb : Below w.heap.size w w') : Ans B w' v ps := ⟨owns_kept h.row hb, fun p hp => (h.each p hp).kept hb, h.apart, h.rowap⟩
theorem Ans.lt {B : Nat} {w : World} {v : Value} {ps : List (Value × List Nat)} (h : Ans B w v ps) : (∀ p ∈ ps, ∀ g, p.1.ownBlock = some g → g < w.heap.size) ∧ ∀ g, v.ownBlock = some g → g < w.heap.size := ⟨fun p hp g hg => (World.ownsRow.lt (h.each p hp).row g hg).2, fun g hg => (World.ownsRow.lt h.row g hg).2⟩
theorem Ans.ge {B : Nat} {w : World} {v : Value} {ps : List (Value × List Nat)} (h : Ans B w v ps) : ∀ p ∈ ps, ∀ g, p.1.ownBlock = some g → B ≤ g := fun p hp g hg => (World.ownsRow.lt (h.each p hp).row g hg).1
theorem New.nil (n0 : Nat) (w : World) : New n0 w [] := ⟨(fun _ h => nomatch h), List.Pairwise.nil⟩
theorem New.kept {n0 : Nat} {w w' : World} {qs : List (Value × List Nat)} (h : New n0 w qs) (hb : Below w.heap.size w w') : New n0 w' qs := ⟨fun q hq => (h.each q hq).kept hb, h.apart⟩
theorem Ans.new {B : Nat} {w : World} {v : Value} {ps : List (Value × List Nat)} (h : Ans B w v ps) : New B w ps := ⟨h.each, h.apart⟩
/-- one more new row, of a later call -/
theorem New.snoc {n0 : Nat} {w w' : World} {qs : List (Value × List Nat)} {d : Value} {c : List Nat} (h : New n0 w qs) (h0 : n0 ≤ w.heap.size) (hb : Below w.heap.size w w') (ho : Own w.heap.size w' d c) : New n0 w' (qs ++ [(d, c)]) := by
  refine ⟨fun q hq => ?_, List.pairwise_append.2 ⟨h.apart, List.pairwise_singleton _ _, fun p hp q hq g hg e => ?_⟩⟩
  · rcases List.mem_append.1 hq with hq | hq
    · exact (h.each q hq).kept hb
    · obtain rfl := List.mem_singleton.1 hq
      exact ho.mono h0
  · obtain rfl := List.mem_singleton.1 hq
    have h1 := (World.ownsRow.lt (h.each p hp).row g hg).2
    have h2 := (World.ownsRow.lt ho.row g e).1
    omega
theorem New.one {w w' : World} {d : Value} {c : List Nat} (ho : Own w.heap.size w' d c) : New w.heap.size w' [(d, c)] := ⟨fun q hq => by obtain rfl := List.mem_singleton.1 hq; exact ho, List.pairwise_singleton _ _⟩
theorem Ans.cat {B n0 : Nat} {w w' : World} {v v' : Value} {ps qs : List (Value × List Nat)} (h : Ans B w v ps) (hn : New n0 w qs) (hB : B ≤ n0) (hlt : ∀ p ∈ ps, ∀ g, p.1.ownBlock = some g → g < n0) (hv : ∀ g, v.ownBlock = some g → g < n0)
    (hr : w'.ownsRow B 25 1 v' (ps.length + qs.length) (ps.map Prod.fst ++ qs.map Prod.fst)) (hg : w.grownBy w' v.ownBlock) (he : v'.ownBlock = v.ownBlock ∨ v'.ownBlock = some w.heap.size) : Ans B w' v' (ps ++ qs) := by
  have hall : ∀ p ∈ ps ++ qs, Own B w p.1 p.2 ∧ Ap v p.1 := fun p hp => by
    rcases List.mem_append.1 hp with hp | hp
    · exact ⟨h.each p hp, h.rowap p hp⟩
    · refine ⟨own_weak (hn.each p hp) hB, fun g hg e => ?_⟩
      have h1 := (World.ownsRow.lt (hn.each p hp).row g e).1
      have h3 := hv g hg
      omega
  refine ⟨by rw [List.length_append, List.map_append]; exact hr, fun p hp => own_kept2 (hall p hp).1 fun g hg' => hg.block g (World.ownsRow.lt (hall p hp).1.row g hg').2 (fun e => (hall p hp).2 g e.symm hg'), List.pairwise_append.2 ⟨h.apart, hn.apart, fun p hp q hq g hpg hqg => ?_⟩, fun p hp g hg' e => ?_⟩
  · have h1 := hlt p hp g hpg
    have h2 := (World.ownsRow.lt (hn.each q hq).row g hqg).1
    omega
  · rcases he with e1 | e1
    · exact (hall p hp).2 g (e1 ▸ hg') e
    · rw [e1] at hg'
      obtain rfl := Option.some.inj hg'
      exact absurd (World.ownsRow.lt (hall p hp).1.row _ e).2 (Nat.lt_irrefl _)
theorem own_one {B : Nat} {w : World} {d : Value} {c : List Nat} (h : Own B w d c) : d.oneCell' = true := by
  obtain ⟨ao, cp, e, _⟩ := h.bs.shape
  rw [e]; rfl
theorem wpList_append_new {P : Program} (w : World) {ops : Array Oper} {rest : List Oper} {o : Oper} {a : Act} {Q : Exit → Act → World → Prop} (hgd : o.guard = none) (s x : Operand) (t : TypeId)
    (ho : o.op = .call { callee := .builtin .append, args := #[s, x], argTypes := #[t, t] })
    (B n0 : Nat) (hinfo : (P.info? 25).map (fun i => (i.zero, i.size, i.bytes)) = some (some (.slice none 0 0), 1, 24)) (ht : P.underlying t = some (.slice 25))
    (v : Value) (ps qs : List (Value × List Nat)) (hv : a.eval s = v) (h : Ans B w v ps) (hn : New n0 w qs) (hB : B ≤ n0) (hlt : ∀ p ∈ ps, ∀ g, p.1.ownBlock = some g → g < n0) (hvl : ∀ g, v.ownBlock = some g → g < n0)
    (g : Nat) (hx : a.eval x = .slice (some ⟨g, 0, none⟩) qs.length qs.length) (hc : w.rangeAt g 0 (qs.map Prod.fst)) (hmax : (ps.length + qs.length) * 24 ≤ 140737488355328) (hBw : B ≤ w.heap.size)
    (hK : ∀ v' w', Ans B w' v' (ps ++ qs) → w.grownBy w' v.ownBlock → wpList P ops Q rest (a.put o.dst v') w') : wpList P ops Q (o :: rest) a w := by
  obtain ⟨i0, hi, hz0, hz1, hz2⟩ := Lft.info_parts3 hinfo
  refine wpList_append_own_at w hgd s x t ho B 25 i0 _ 1 24 ht hi hz0 hz1 hz2 rfl (by decide) v ps.length (ps.map Prod.fst) hv h.row ⟨g, 0, none⟩ qs.length qs.length (qs.map Prod.fst) hx (by rw [List.length_map, Nat.mul_one]) ?_ ?_ (by unfold maxLen; omega) (by omega) hBw (fun v' w' a1 a2 _ a4 => hK v' w' (h.cat hn hB hlt hvl a1 a2 a4) a2)
  · intro j u hj
    have := hc j u hj
    rw [Addr.add_lit]
    exact this
  · intro u hu
    obtain ⟨q, hq, rfl⟩ := List.mem_map.1 hu
    exact own_one (hn.each q hq)
theorem wpList_append_ans {P : Program} (w : World) {ops : Array Oper} {rest : List Oper} {o : Oper} {a : Act} {Q : Exit → Act → World → Prop} (hgd : o.guard = none) (s x : Operand) (t : TypeId)
    (ho : o.op = .call { callee := .builtin .append, args := #[s, x], argTypes := #[t, t] })
    (B n0 : Nat) (hinfo : (P.info? 25).map (fun i => (i.zero, i.size, i.bytes)) = some (some (.slice none 0 0), 1, 24)) (ht : P.underlying t = some (.slice 25))
    (v v2 : Value) (ps qs : List (Value × List Nat)) (hv : a.eval s = v) (hx : a.eval x = v2) (h : Ans B w v ps) (h2 : Ans n0 w v2 qs) (hB : B ≤ n0) (hlt : ∀ p ∈ ps, ∀ g, p.1.ownBlock = some g → g < n0) (hvl : ∀ g, v.ownBlock = some g → g < n0)
    (hmax : (ps.length + qs.length) * 24 ≤ 140737488355328) (hBw : B ≤ w.heap.size)
    (hK : ∀ v' w', Ans B w' v' (ps ++ qs) → w.grownBy w' v.ownBlock → wpList P ops Q rest (a.put o.dst v') w') : wpList P ops Q (o :: rest) a w := by
  obtain ⟨i0, hi, hz0, hz1, hz2⟩ := Lft.info_parts3 hinfo
  have hrow2 := h2.row
  rcases h2.row.2 with ⟨e2, hq0⟩ | ⟨g2, cap2, cur, e2, _, _, hn2, hm2, _, _⟩
  · obtain rfl : qs = [] := List.length_eq_zero_iff.1 hq0
    refine wpList_append_own_none hgd s x t ho B 25 i0 1 ht hi v ps.length (ps.map Prod.fst) hv h.row (by rw [hx, e2]) ?_
    exact hK v w (by rw [List.append_nil]; exact h) ⟨rfl, rfl, rfl, Nat.le_refl _, fun _ _ _ => rfl⟩
  · rw [e2] at hrow2
    refine wpList_append_own_at w hgd s x t ho B 25 i0 _ 1 24 ht hi hz0 hz1 hz2 rfl (by decide) v ps.length (ps.map Prod.fst) hv h.row ⟨g2, 0, none⟩ qs.length cap2 (qs.map Prod.fst) (by rw [hx, e2]) (by rw [List.length_map, Nat.mul_one]) ?_ ?_ (by unfold maxLen; omega) (by omega) hBw (fun v' w' a1 a2 _ a4 => hK v' w' (h.cat h2.new hB hlt hvl a1 a2 a4) a2)
    · intro j u hj
      have hjl := (List.getElem?_eq_some_iff.1 hj).1
      rw [List.length_map] at hjl
      rw [Addr.add_lit, Nat.zero_add, ← hj]
      exact World.ownsRow.cellAt hrow2 j (by omega)
    · intro u hu
      obtain ⟨q, hq, rfl⟩ := List.mem_map.1 hu
      exact own_one (h2.each q hq)
theorem Ans.ps {B : Nat} {w : World} {v : Value} {qs : List (Value × List Nat)} (h : Ans B w v qs) : Ps w v (qs.map Prod.snd) := by
  refine OwnP.ps (B := B) ⟨qs.map Prod.fst, ?_, by simp, fun j a b => ?_⟩
  · show w.ownsRow B 25 1 v (qs.map Prod.fst).length _
    rw [List.length_map]
    exact h.row
  · have hj : j < qs.length := by simpa using a
    simp only [List.getElem_map]
    exact h.each _ (List.getElem_mem hj)
/-- what the i-th row holds -/
def cA (ps : List (Value × List Nat)) (i : Nat) : List Nat := match ps[i]? with | some p => p.2 | none => []
theorem cA_some {ps : List (Value × List Nat)} {i : Nat} {p : Value × List Nat} (h : ps[i]? = some p) : cA ps i = p.2 := by unfold cA; rw [h]
theorem cA_len {ps : List (Value × List Nat)} {b : Nat} (h : ∀ p ∈ ps, p.2.length ≤ b) (i : Nat) : (cA ps i).length ≤ b := by
  unfold cA
  split
  · rename_i p hp
    exact h p (List.mem_of_getElem? hp)
  · exact Nat.zero_le _
theorem fst_get {ps : List (Value × List Nat)} {i : Nat} {d : Value} (h : (ps.map Prod.fst)[i]? = some d) : ∃ p, ps[i]? = some p ∧ p.1 = d := by
  rw [List.getElem?_map] at h
  cases hp : ps[i]? with
  | none => rw [hp] at h; cases h
  | some p => rw [hp] at h; exact ⟨p, rfl, Option.some.inj h⟩
theorem ownsBase {B : Nat} {w : World} {v : Value} {n : Nat} {xs : List Value} (h : w.ownsRow B 25 1 v n xs) : w.ownsRow 0 25 1 v n xs := by
  refine ⟨h.1, ?_⟩
  rcases h.2 with h1 | ⟨g, cap, cur, e, _, rest⟩
  · exact .inl h1
  · exact .inr ⟨g, cap, cur, e, Nat.zero_le _, rest⟩
theorem pair_get {ps : List (Value × List Nat)} (h : ps.Pairwise fun p q => Ap p.1 q.1) {i j : Nat} {p q : Value × List Nat} (hi : ps[i]? = some p) (hj : ps[j]? = some q) (hij : i ≠ j) : Ap p.1 q.1 := by
  rw [List.pairwise_iff_getElem] at h
  obtain ⟨h1, rfl⟩ := List.getElem?_eq_some_iff.1 hi
  obtain ⟨h2, rfl⟩ := List.getElem?_eq_some_iff.1 hj
  by_cases hlt : i < j
  · exact h i j h1 h2 hlt
  · exact fun g hp hq => h j i h2 h1 (by omega) g hq hp
theorem Ans.lst {B : Nat} {w : World} {v : Value} {ps : List (Value × List Nat)} (h : Ans B w v ps) : Lst B w v (ps.map Prod.fst) (cA ps) := by
  refine ⟨?_, fun i d hd => ?_, fun i j d e hd he hij => ?_, fun d hd g hg => ?_⟩
  · rw [List.length_map]
    exact ownsBase h.row
  · obtain ⟨p, hp, rfl⟩ := fst_get hd
    rw [cA_some hp]
    exact h.each p (List.mem_of_getElem? hp)
  · obtain ⟨p, hp, rfl⟩ := fst_get hd
    obtain ⟨q, hq, rfl⟩ := fst_get he
    exact pair_get h.apart hp hq hij
  · obtain ⟨p, hp, rfl⟩ := List.mem_map.1 hd
    exact h.rowap p hp g hg
/-- filled, kept -/
structure Fil (B : Nat) (w : World) (v vm : Value) (ps : List (Value × List Nat)) (fs : List (Value × Value × Value)) : Prop where
  row : w.ownsRow 0 25 1 v ps.length (ps.map Prod.fst)
  fam : Fams B w (ps.map Prod.fst) (fun i => (cA ps i).length) fs
  more : w.ownsRow 0 25 1 vm (3 * fs.length) (fs.flatMap vw)
  len : fs.length = ps.length
theorem Fil.kept {B : Nat} {w w' : World} {v vm : Value} {ps : List (Value × List Nat)} {fs : List (Value × Value × Value)} (h : Fil B w v vm ps fs) (hb : Below w.heap.size w w') : Fil B w' v vm ps fs := ⟨owns_kept h.row hb, h.fam.kept hb, owns_kept h.more hb, h.len⟩
theorem filledA {B b : Nat} {w : World} {v : Value} {ps : List (Value × List Nat)} (h : Ans B w v ps) (hn : ps.length ≤ 9000000) (hc : ∀ p ∈ ps, p.2.length ≤ b) (hb : b ≤ 8388608) (hB : B ≤ w.heap.size) :
    Calls Tryd.prog 11 #[v] w fun e w' => ∃ vm fs, e = .returned vm ∧ Fil B w' v vm ps fs ∧ Below B w w' ∧ Frm (ps.map Prod.fst) w w' :=
  (filled_any B v (ps.map Prod.fst) (cA ps) w h.lst (by rw [List.length_map]; exact hn) (fun i => Nat.le_trans (cA_len hc i) hb) hB).mono fun e w' ⟨vm, fs, he, hl, hf, hr, hF, hb⟩ => ⟨vm, fs, he, ⟨ownsBase (owns_block h.row fun g hg => hF.same g (h.lt.2 g hg) fun d hd => by
    obtain ⟨p, hp, rfl⟩ := List.mem_map.1 hd
    exact h.rowap p hp g hg), hf, ownsBase hr, by rw [hl, List.length_map]⟩, hb, hF⟩
theorem Fil.stn {B : Nat} {w : World} {v vm : Value} {ps : List (Value × List Nat)} {fs : List (Value × Value × Value)} (h : Fil B w v vm ps fs) : Stn w v vm (ps.map Prod.fst) (fun i => (cA ps i).length) fs := by
  refine ⟨?_, ?_, by rw [List.length_map]; exact h.len, fun i d hd => (h.fam.base i d hd).bs, fun i x hx => ⟨(h.fam.views i x hx).1.bs, (h.fam.views i x hx).2.1.bs, (h.fam.views i x hx).2.2.bs⟩⟩
  · have h1 := h.row
    have e9 : (ps.map Prod.fst).length = ps.length := List.length_map _
    rw [← e9] at h1
    exact rowV_of h1
  · have h1 := h.more
    rw [← flat3_len] at h1
    exact rowV_of h1
theorem standA {B b : Nat} {w : World} {v vm : Value} {ps : List (Value × List Nat)} {fs : List (Value × Value × Value)} (h : Fil B w v vm ps fs) (hn : ps.length ≤ 9000000) (hc : ∀ p ∈ ps, p.2.length ≤ b) (hb : b ≤ 8388608) :
    Calls Tryd.prog 12 #[v, vm] w fun e w' => e = .returned (.bool true) ∧ w' = w := stand_any v vm _ _ fs w h.stn (by rw [List.length_map]; exact hn) (fun i => Nat.le_trans (cA_len hc i) hb)
end Go.Proofs.YtppgijgmhjfdfaaDoor
