import Derived.Maps.OwnSet
import Derived.Test.YtdnackjakfiffaaGreatDoorQP0
import Derived.Test.YtdnackjakfiffaaGreatDoorQC1
import Derived.Test.YtdnackjakfiffaaGreatDoorQSH
import Derived.Test.YtdnackjakfiffaaGreatDoorQS2
/-
  Replay: a Folder in memory; sagas in a row.
-/
namespace Go.Proofs.YtdnackjakfiffaaGreatDoor
open Go Go.RowKit Go.ChangeShapes
open Wb

/-- the sagas of a state, and where their lists lie -/
abbrev Ms := Mv.L (Sg × SH)
def puM (M : Ms) : Rp.Gs := Mv.mapv (·.1) M
def vaM (M : Ms) : Mv.L Value := Mv.mapv (fun p => sv p.1 p.2) M
theorem puM_get (M : Ms) (k : Int) : Mv.get (puM M) k = (Mv.get M k).map (·.1) := Mv.get_mapv _ _ _
theorem puM_put (M : Ms) (k : Int) (S : Sg) (h : SH) : puM (Mv.put M k (S, h)) = Mv.put (puM M) k S := Mv.put_mapv (fun p : Sg × SH => p.1) M k (S, h)
theorem vaM_get (M : Ms) (k : Int) : Mv.get (vaM M) k = (Mv.get M k).map (fun p => sv p.1 p.2) := Mv.get_mapv _ _ _
theorem vaM_put (M : Ms) (k : Int) (S : Sg) (h : SH) : vaM (Mv.put M k (S, h)) = Mv.put (vaM M) k (sv S h) := Mv.put_mapv (fun p : Sg × SH => sv p.1 p.2) M k (S, h)
def zSH : SH := ⟨none, 0, none, 0, none, 0, none, 0⟩
theorem lawI : Maps.Keyed Tryz.prog 3 := Maps.int_keyed Tryz.underlying3
theorem keyI {k : Int} (h : (Lit.int .i64 k).wf = true) : keyOf Tryz.prog 3 (.int .i64 k) = some (.int .i64 k) := Maps.keyOf_int_mk Tryz.underlying3 h
theorem keyI2 {k : Int} (h : -9223372036854775808 ≤ k ∧ k ≤ 9223372036854775807) : (Lit.int .i64 k).wf = true := by
  have e : IntKind.i64.min = -9223372036854775808 := by decide
  have e2 : IntKind.i64.max = 9223372036854775807 := by decide
  simp [Lit.wf]
  omega
theorem zeroSgV (w : World) : (zeroValue 43).run Tryz.prog w = .ok (sv zSg zSH) w := by kernel_rfl
/-- what is no row of bytes, and of such rows, may change -/
def KB (w w' : World) : Prop := ∀ (q : Nat) (cs : Array Value) (t : TypeId) (z : Nat × Nat), w.heap[q]? = some (.cells cs t z) → (t = 5 ∨ t = 30) → w'.heap[q]? = w.heap[q]?
theorem SgO.kb {B : Nat} {w w' : World} {S : Sg} {h : SH} (k : SgO B w S h) (hk : KB w w') : SgO B w' S h := by
  have ho : ∀ {d : Value} {l : List Nat}, Own B w d l → Own B w' d l := fun {d l} hd => own_keptB hd fun g e => by
    obtain ⟨cs, z, h9⟩ := own_typed hd g e
    exact hk g cs _ z h9 (.inl rfl)
  have hp : ∀ {d : Value} {ls : List (List Nat)}, OwnP B w d ls → OwnP B w' d ls := fun {d ls} hd => by
    obtain ⟨vs, r1, r2, r3⟩ := hd
    refine ⟨vs, row_kept2 r1 fun g e => ?_, r2, fun j a b => ho (r3 j a b)⟩
    obtain ⟨cs, z, h9⟩ := row_typed r1 g e
    exact hk g cs _ z h9 (.inr rfl)
  exact ⟨ho k.inp, hp k.outs, hp k.und, ho k.fail⟩
theorem KB.grown {w w' : World} {row : Option Nat} (hg : w.grownBy w' row) (h : ∀ q, row = some q → ∀ cs t z, w.heap[q]? = some (.cells cs t z) → t ≠ 5 ∧ t ≠ 30) : KB w w' := fun q cs t z e ht => by
  by_cases hq : row = some q
  · have := h q hq cs t z e
    rcases ht with ht | ht
    · exact absurd ht this.1
    · exact absurd ht this.2
  · exact hg.block q (Array.getElem?_eq_some_iff.1 e).1 fun e2 => hq e2.symm
/-- a Folder -/
structure FD (w : World) (g b c : Nat) (M : Ms) : Prop where
  box : LB w g 75 [.int .i64 (c : Int), .map (some b)]
  map : w.ownsMap Tryz.prog 3 Mv.hR b c (Mv.dm (vaM M))
  ris : Mv.rising M
  own : ∀ k p, Mv.get M k = some p → SgO 0 w p.1 p.2
  few : M.length ≤ c
theorem FD.kept {w w' : World} {g b c : Nat} {M : Ms} (h : FD w g b c M) (hb : Below w.heap.size w w') : FD w' g b c M :=
  ⟨h.box.kept hb, h.map.kept (row := none) ⟨hb.os, hb.tape, hb.output, hb.size, fun k hk _ => hb.block k hk⟩ (by simp), h.ris, fun k p e => (h.own k p e).kept hb, h.few⟩
theorem FD.cell {w : World} {g b c : Nat} {M : Ms} (h : FD w g b c M) : w.cell? ⟨g, 1, none⟩ = some (.map (some b)) := h.box.cell 1 _ rfl
theorem FD.cnt {w : World} {g b c : Nat} {M : Ms} (h : FD w g b c M) : w.cell? ⟨g, 0, none⟩ = some (.int .i64 (c : Int)) := h.box.cell 0 _ rfl
theorem FD.ne {w : World} {g b c : Nat} {M : Ms} (h : FD w g b c M) : g ≠ b := by
  rintro rfl
  obtain ⟨es, clock, hb, -⟩ := h.map
  have := h.box
  unfold LB at this
  rw [this] at hb
  simp at hb
theorem puM_ris {M : Ms} (h : Mv.rising M) : Mv.rising (puM M) := Mv.rising_mapv h
/-- what stands at an id, and whether there is one -/
theorem FD.look {w : World} {g b c : Nat} {M : Ms} (h : FD w g b c M) (k : Int) (hk : -9223372036854775808 ≤ k ∧ k ≤ 9223372036854775807) :
    (Instr.lookup 73 (.map (some b)) (.int .i64 k) true).run Tryz.prog w = .ok (.tuple #[match Mv.get M k with | some p => sv p.1 p.2 | none => sv zSg zSH, .bool (Mv.get M k).isSome]) w := by
  obtain ⟨v, ps, hrun, hR⟩ := h.map.look_ok (H := Value) lawI Tryz.underlying73 (zeroSgV w) (show Mv.hR (sv zSg zSH) = some (.held (sv zSg zSH), []) from rfl) (keyI (keyI2 hk))
  rw [hrun, Mv.dm_has, vaM_get]
  rw [Mv.dm_at, vaM_get] at hR
  unfold Mv.hR at hR
  cases hg : Mv.get M k with
  | none =>
    rw [hg] at hR
    simp only [Option.map_none, Option.some.injEq, Prod.mk.injEq, DataW.held.injEq] at hR
    rw [hR.1]
    rfl
  | some p =>
    rw [hg] at hR
    simp only [Option.map_some, Option.some.injEq, Prod.mk.injEq, DataW.held.injEq] at hR
    rw [hR.1]
    rfl
theorem FD.look1 {w : World} {g b c : Nat} {M : Ms} (h : FD w g b c M) (k : Int) (hk : -9223372036854775808 ≤ k ∧ k ≤ 9223372036854775807) {p : Sg × SH} (hp : Mv.get M k = some p) :
    (Instr.lookup 73 (.map (some b)) (.int .i64 k) false).run Tryz.prog w = .ok (sv p.1 p.2) w := by
  obtain ⟨v, ps, hrun, hR⟩ := h.map.lookup (H := Value) lawI Tryz.underlying73 (zeroSgV w) (show Mv.hR (sv zSg zSH) = some (.held (sv zSg zSH), []) from rfl) (keyI (keyI2 hk))
  rw [hrun]
  rw [Mv.dm_at, vaM_get, hp] at hR
  unfold Mv.hR at hR
  simp only [Option.map_some, Option.some.injEq, Prod.mk.injEq, DataW.held.injEq] at hR
  rw [hR.1]
/-- a saga is put into the map; then the count -/
theorem FD.put {w : World} {g b c : Nat} {M : Ms} (h : FD w g b c M) (k : Int) (hk : -9223372036854775808 ≤ k ∧ k ≤ 9223372036854775807) (hc : c < 1000000000) (S : Sg) (s : SH) (hS : SgO 0 w S s) (B : Nat) (hB : B ≤ g ∧ B ≤ b) (hBw : B ≤ w.heap.size) :
    ∃ w1, (Instr.mapUpdate 73 (.map (some b)) (.int .i64 k) (sv S s)).run Tryz.prog w = .ok () w1 ∧ (∀ q t C, LB w q t C → LB w1 q t C) ∧ w1.heap.size = w.heap.size ∧
      FD (w1.setCell ⟨g, 0, none⟩ (.int .i64 ((c + 1 : Nat) : Int))) g b (c + 1) (Mv.put M k (S, s)) ∧ Below B w (w1.setCell ⟨g, 0, none⟩ (.int .i64 ((c + 1 : Nat) : Int))) := by
  obtain ⟨w1, hrun, h1, h2⟩ := h.map.store (H := Value) lawI Tryz.underlying73 (by unfold maxLen; omega) (keyI (keyI2 hk)) (show Mv.hR (sv S s) = some (.held (sv S s), []) from rfl)
  rw [Mv.dm_put _ _ _ (show Mv.rising (vaM M) from Mv.rising_mapv h.ris), ← vaM_put] at h1
  have hg1 := h2.grown
  have hlb : ∀ q t C, LB w q t C → LB w1 q t C := fun q t C hq => (hg1.block q hq.lt fun e => by
    obtain rfl := Option.some.inj e
    obtain ⟨es, clock, hb, -⟩ := h.map
    unfold LB at hq
    rw [hq] at hb
    simp at hb).trans hq
  have hs1 : w1.heap.size = w.heap.size := by
    obtain ⟨es, clock, es', clock', hb, rfl⟩ := h2
    simp [ChangeMaps.setBlock]
  have hbx := hlb _ _ _ h.box
  have kb1 : KB w w1 := KB.grown hg1 fun q e cs t z e2 => by
    obtain rfl := Option.some.inj e
    obtain ⟨es, clock, hb, -⟩ := h.map
    rw [e2] at hb
    simp at hb
  have kb2 : KB w1 (w1.setCell ⟨g, 0, none⟩ (.int .i64 ((c + 1 : Nat) : Int))) := fun q cs t z e ht => set_other _ _ _ _ (by
    rintro rfl
    unfold LB at hbx
    rw [hbx] at e
    simp at e
    obtain ⟨-, rfl, -⟩ := e
    rcases ht with ht | ht <;> exact absurd ht (by decide))
  refine ⟨w1, hrun, hlb, hs1, ⟨hbx.set 0 _, ?_, Mv.rising_put _ _ _ h.ris, fun j p e => ?_, ?_⟩, ?_⟩
  · obtain ⟨es, clock, hb, F, hs, hD⟩ := h1
    exact ⟨es, clock, (set_other _ _ _ _ fun e => h.ne e.symm).trans hb, F, hs, hD⟩
  · rw [Mv.get_put] at e
    by_cases hj : j = k
    · rw [if_pos hj] at e
      obtain rfl := Option.some.inj e
      exact (hS.kb kb1).kb kb2
    · rw [if_neg hj] at e
      exact ((h.own j p e).kb kb1).kb kb2
  · have := Mv.put_length M k (S, s)
    have := h.few
    omega
  · refine Below.setCell ?_ hB.1 _
    exact ⟨hg1.os, hg1.tape, hg1.output, hg1.size, fun q hq => hg1.block q (Nat.lt_of_lt_of_le hq hBw) fun e => by have := Option.some.inj e; have := hB.2; omega⟩
/-- sagas told, in a row of its own -/
def scf (p : Sg × SH) : List Value := scl p.1 p.2
def Sgs (B : Nat) (w : World) (v : Value) (ps : List (Sg × SH)) : Prop := w.ownsRow B 43 16 v ps.length (ps.flatMap scf) ∧ ∀ p ∈ ps, SgO B w p.1 p.2
theorem Sgs.nil (B : Nat) (w : World) : Sgs B w (.slice none 0 0) [] := ⟨World.ownsRow_nil _ _ _ _, fun _ h => by cases h⟩
theorem rowG_keptB {B : Nat} {w w' : World} {v : Value} {n : Nat} {cs : List Value} (h : w.ownsRow B 43 16 v n cs) (hb : ∀ g, v.ownBlock = some g → w'.heap[g]? = w.heap[g]?) : w'.ownsRow B 43 16 v n cs := by
  refine ⟨h.1, ?_⟩
  rcases h.2 with h1 | ⟨g, cap, cur, rfl, h1, hg, rest⟩
  · exact .inl h1
  · exact .inr ⟨g, cap, cur, rfl, h1, (hb g rfl).trans hg, rest⟩
theorem Sgs.kept {B : Nat} {w w' : World} {v : Value} {ps : List (Sg × SH)} (h : Sgs B w v ps) (hb : Below w.heap.size w w') : Sgs B w' v ps := ⟨rowG_keptB h.1 fun g e => hb.block g (World.ownsRow.lt h.1 g e).2, fun p hp => (h.2 p hp).kept hb⟩
theorem Sgs.weak {B B2 : Nat} {w : World} {v : Value} {ps : List (Sg × SH)} (h : Sgs B2 w v ps) (hB : B ≤ B2) : Sgs B w v ps := by
  refine ⟨⟨h.1.1, ?_⟩, fun p hp => (h.2 p hp).weak hB⟩
  rcases h.1.2 with h1 | ⟨g, cap, cur, e, hb, rest⟩
  · exact .inl h1
  · exact .inr ⟨g, cap, cur, e, Nat.le_trans hB hb, rest⟩
theorem scf_len : ∀ ps : List (Sg × SH), (ps.flatMap scf).length = ps.length * 16
  | [] => rfl
  | p :: ps => by
    rw [List.flatMap_cons, List.length_append, scf_len ps, List.length_cons]
    show 16 + ps.length * 16 = (ps.length + 1) * 16
    omega
theorem scf_get : ∀ (ps : List (Sg × SH)) (k : Nat) (h : k < ps.length) (j : Nat), j < 16 → (ps.flatMap scf)[k * 16 + j]? = (scf ps[k])[j]?
  | q :: qs, 0, _, j, hj => by
    rw [List.flatMap_cons, List.getElem?_append_left (by show 0 * 16 + j < 16; omega)]
    simp
  | q :: qs, k + 1, h, j, hj => by
    rw [List.flatMap_cons, List.getElem?_append_right (by show 16 ≤ _; omega)]
    have := scf_get qs k (by simpa using h) j hj
    rw [show (k + 1) * 16 + j - (scf q).length = k * 16 + j by show (k + 1) * 16 + j - 16 = _; omega]
    simpa using this
/-- sagas in a row, to be read -/
def SgR (w : World) (v : Value) (Ss : List Sg) : Prop := ∃ ao, ∃ cap : Nat, v = .slice ao Ss.length cap ∧ Ss.length ≤ maxLen ∧ (∀ b off, ao = some ⟨b, off, none⟩ → ∃ cs z, w.heap[b]? = some (.cells cs 43 z)) ∧ ∀ k S, Ss[k]? = some S → ∃ b off h, ao = some ⟨b, off, none⟩ ∧ w.rangeAt b (off + k * 16) (scl S h) ∧ SgO 0 w S h
theorem Sgs.at {B : Nat} {w : World} {v : Value} {ps : List (Sg × SH)} (h : Sgs B w v ps) : SgR w v (ps.map (·.1)) := by
  have h0 := h.1
  rcases h.1.2 with ⟨rfl, h1⟩ | ⟨g, cap, cur, rfl, hb, hg, h1, h2, h3, h4⟩
  · obtain rfl := List.length_eq_zero_iff.1 h1
    exact ⟨none, 0, rfl, by simp [maxLen], (fun b off e => by cases e), fun k S e => by simp at e⟩
  · refine ⟨some ⟨g, 0, none⟩, cap, by rw [List.length_map], by rw [List.length_map]; exact Nat.le_trans h1 h2, (fun b off e => by
      simp only [Option.some.injEq, Addr.mk.injEq] at e
      obtain ⟨rfl, -⟩ := e
      exact ⟨_, _, hg⟩), fun k S e => ?_⟩
    rw [List.getElem?_map] at e
    obtain ⟨p, hp, rfl⟩ := Option.map_eq_some_iff.1 e
    obtain ⟨hk, rfl⟩ := List.getElem?_eq_some_iff.1 hp
    refine ⟨g, 0, (ps[k]).2, rfl, fun j u hu => ?_, (h.2 _ (List.getElem_mem hk)).weak (Nat.zero_le _)⟩
    have hj : j < 16 := (List.getElem?_eq_some_iff.1 hu).1
    have hl := scf_len ps
    rw [Nat.zero_add]
    have e2 := scf_get ps k hk j hj
    rw [← (show (scf ps[k])[j]? = some u from hu), ← e2]
    exact World.ownsRow.cellAt h0 (k * 16 + j) (by rw [Nat.mul_comm]; omega)
theorem SgR.kept {w w' : World} {v : Value} {Ss : List Sg} (h : SgR w v Ss) (hb : Below w.heap.size w w') : SgR w' v Ss := by
  obtain ⟨ao, cap, rfl, hm, hy, hc⟩ := h
  refine ⟨ao, cap, rfl, hm, fun b off e => ?_, fun k S e => ?_⟩
  · obtain ⟨cs, z, h1⟩ := hy b off e
    exact ⟨cs, z, (hb.block b (Array.getElem?_eq_some_iff.1 h1).1).trans h1⟩
  obtain ⟨b, off, h, rfl, h1, h2⟩ := hc k S e
  exact ⟨b, off, h, rfl, fun j u hu => (hb.cell (p := ⟨b, off + k * 16 + j, none⟩) (World.block_lt_of_cell? _ _ (h1 j u hu))).trans (h1 j u hu), h2.kept hb⟩
/-- sagas stay while another block is written -/
theorem SgR.other {w w' : World} {v : Value} {Ss : List Sg} {p : Nat} {t : TypeId} {C : List Value} (h : SgR w v Ss) (L : LB w p t C) (h1 : t ≠ 43) (h2 : t ≠ 5) (h3 : t ≠ 30) (ho : ∀ b, b ≠ p → b < w.heap.size → w'.heap[b]? = w.heap[b]?) : SgR w' v Ss := by
  have ne : ∀ b cs ty z, w.heap[b]? = some (.cells cs ty z) → ty ≠ t → b ≠ p := by
    rintro b cs ty z e hty rfl
    unfold LB at L
    rw [L] at e
    simp at e
    exact hty e.2.1.symm
  have kb : KB w w' := fun q cs ty z e ht => ho q (ne q cs ty z e (by rcases ht with rfl | rfl; exact fun e => h2 e.symm; exact fun e => h3 e.symm)) (Array.getElem?_eq_some_iff.1 e).1
  obtain ⟨ao, cap, rfl, hm, hy, hc⟩ := h
  have hkeep : ∀ b off, ao = some ⟨b, off, none⟩ → w'.heap[b]? = w.heap[b]? := fun b off e => by
    obtain ⟨cs, z, h4⟩ := hy b off e
    exact ho b (ne b cs _ z h4 fun e => h1 e.symm) (Array.getElem?_eq_some_iff.1 h4).1
  refine ⟨ao, cap, rfl, hm, fun b off e => ?_, fun k S e => ?_⟩
  · obtain ⟨cs, z, h4⟩ := hy b off e
    exact ⟨cs, z, (hkeep b off e).trans h4⟩
  · obtain ⟨b, off, h, rfl, h4, h5⟩ := hc k S e
    exact ⟨b, off, h, rfl, fun j u hj => (World.cell?_of_block (w := w) (hkeep b off rfl)).trans (h4 j u hj), h5.kb kb⟩
theorem infoSg : (Tryz.prog.info? 43).map (fun i => (i.zero, i.size, i.bytes)) = some (some (sv zSg zSH), 16, 200) := by kernel_rfl
/-- append(v, x) of one saga, as one step of a region that draws its order -/
theorem step_append_sg {ops : Array Oper} {o : Oper} {a : Act} {w : World} {K : Act → World → Prop} {Q : Exit → Act → World → Prop} {E : Prop} (hgd : o.guard = none) (s x : Operand)
    (ho : o.op = .call { callee := .builtin .append, args := #[s, x], argTypes := #[25, 25] })
    (B : Nat) (v : Value) (ps : List (Sg × SH)) (q : Sg × SH) (hv : a.eval s = v) (h : Sgs B w v ps) (g : Nat) (hx : a.eval x = .slice (some ⟨g, 0, none⟩) 1 1)
    (hc : w.rangeAt g 0 (scl q.1 q.2)) (hq2 : SgO B w q.1 q.2)
    (hmax : (ps.length + 1) * 200 ≤ 140737488355328) (hB : B ≤ w.heap.size)
    (hK : ∀ v' w', Sgs B w' v' (ps ++ [q]) → Below B w w' → w.grownBy w' v.ownBlock → K (a.put o.dst v') w') :
    if Region.wanted o (yielded ops a.tmps) = true then Oper.wp Tryz.prog o a w K Q else E := by
  have hw : Region.wanted o (yielded ops a.tmps) = true := by simp [Region.wanted, hgd]
  rw [if_pos hw]
  obtain ⟨i0, hi, hz0, hz1, hz2⟩ := Lft.info_parts3 infoSg
  obtain ⟨v', w', hrun, h2, h3, _⟩ := run_append_own (P := Tryz.prog) w B 25 o.type 43 i0 _ 16 200 Tryz.underlying25 hi hz0 hz1 hz2 rfl (by decide) v ps.length (ps.flatMap scf) h.1 ⟨g, 0, none⟩ 1 1 (scl q.1 q.2) rfl (by
    intro j u hj
    have := hc j u hj
    rw [Addr.add_lit]
    exact this) (fun u hu => scl_one q.1 q.2 u hu) (by unfold maxLen; omega) (by omega) hB
  unfold Oper.wp
  simp [execOp, ho, resolve, invoke, builtin, hv, hx, hrun, Result.andThen]
  have hown : w'.ownsRow B 43 16 v' (ps ++ [q]).length ((ps ++ [q]).flatMap scf) := by
    rw [List.length_append, List.flatMap_append, List.flatMap_cons, List.flatMap_nil, List.append_nil]
    exact h2
  have hkb : KB w w' := KB.grown h3 fun b e cs t z e2 => by
    rcases h.1.2 with ⟨rfl, _⟩ | ⟨g', cap', cur', rfl, _, hg', _⟩
    · simp [Value.ownBlock] at e
    · simp [Value.ownBlock] at e
      subst e
      rw [hg'] at e2
      simp at e2
      obtain ⟨-, rfl, -⟩ := e2
      exact ⟨by decide, by decide⟩
  refine hK v' w' ⟨hown, fun p hp => ?_⟩ ((Below.refl B w).grown h3 hB (fun k hk => (World.ownsRow.lt h.1 k hk).1)) h3
  rcases List.mem_append.1 hp with hp | hp
  · exact (h.2 p hp).kb hkb
  · obtain rfl := List.mem_singleton.1 hp
    exact hq2.kb hkb
end Go.Proofs.YtdnackjakfiffaaGreatDoor

/-
  Replay: NewFolder, behind, Add.
-/
namespace Go.Proofs.YtdnackjakfiffaaGreatDoor
open Go Go.RowKit Go.ChangeShapes
open Wb

theorem KB.cells {w : World} {q : Nat} {t : TypeId} {C : List Value} (L : LB w q t C) (h1 : t ≠ 5) (h2 : t ≠ 30) (o : Nat) (vs : List Value) : KB w (w.setCells q o vs) := fun b cs t' z e ht => cells_other _ _ _ _ _ (by
  rintro rfl
  unfold LB at L
  rw [L] at e
  simp at e
  obtain ⟨-, rfl, -⟩ := e
  rcases ht with ht | ht
  · exact h1 ht
  · exact h2 ht)
theorem KB.below {w w' : World} (h : Below w.heap.size w w') : KB w w' := fun q _ _ _ e _ => h.block q (Array.getElem?_eq_some_iff.1 e).1
theorem KB.trans {w w1 w2 : World} (h : KB w w1) (h2 : KB w1 w2) : KB w w2 := fun q cs t z e ht => (h2 q cs t z ((h q cs t z e ht).trans e) ht).trans (h q cs t z e ht)
theorem rstep_alloc_Z {Z : List Value} (hZ : Z = zcl) {ops : Array Oper} {o : Oper} {a : Act} {w : World} {K : Act → World → Prop} {Q : Exit → Act → World → Prop} {E : Prop} (hgd : o.guard = none) (ho : o.op = .alloc 43)
    (h : K (a.put o.dst (.pointer (some ⟨w.heap.size, 0, none⟩))) (w.alloc (.cells Z.toArray 43))) : if Region.wanted o (yielded ops a.tmps) = true then Oper.wp Tryz.prog o a w K Q else E := by
  subst hZ
  rw [if_pos (by simp [Region.wanted, hgd])]
  obtain ⟨dst, op', ty, pos, after, guard⟩ := o
  simp only at ho hgd
  subst ho hgd
  unfold zcl at h
  go_simp
  exact h
theorem rstep_store {P : Program} {ops : Array Oper} {o : Oper} {a : Act} {w : World} {K : Act → World → Prop} {Q : Exit → Act → World → Prop} {E : Prop} (hgd : o.guard = none) (ty : TypeId) (x y : Operand) (ho : o.op = .store ty x y)
    (b f : Nat) (cells : Array Value) (hx : a.eval x = .pointer (some ⟨b, f, none⟩)) (hy : a.eval y = .agg cells) (ht : w.there b f cells.size) (hi : (P.info? ty).map (·.size) = some cells.size) (h1 : cells.all (·.oneCell') = true)
    (h : K (a.put o.dst undef) (w.setCells b f cells.toList)) : if Region.wanted o (yielded ops a.tmps) = true then Oper.wp P o a w K Q else E := by
  rw [if_pos (by simp [Region.wanted, hgd])]
  exact wp_store_mid ty x y ho b f cells hx hy ht hi h1 h
theorem rstep_run {P : Program} {ops : Array Oper} {o : Oper} {a : Act} {w W : World} {K : Act → World → Prop} {Q : Exit → Act → World → Prop} {E : Prop} {v : Value} (hgd : o.guard = none) (hr : (execOp a.eval o).run P w = .ok (.value v) W) (h : K (a.put o.dst v) W) : if Region.wanted o (yielded ops a.tmps) = true then Oper.wp P o a w K Q else E := by
  rw [if_pos (by simp [Region.wanted, hgd])]
  unfold Oper.wp
  rw [hr]
  simp [Oper.upon]
  exact h
theorem rstep_upd {P : Program} {ops : Array Oper} {o : Oper} {a : Act} {w W : World} {K : Act → World → Prop} {Q : Exit → Act → World → Prop} {E : Prop} {v u y : Value} (hgd : o.guard = none) (t : TypeId) (m x z : Operand) (ho : o.op = .mapUpdate t m x z) (hm : a.eval m = u) (hx : a.eval x = y) (hz : a.eval z = v) (hr : (Instr.mapUpdate t u y v).run P w = .ok () W) (h : K (a.put o.dst undef) W) : if Region.wanted o (yielded ops a.tmps) = true then Oper.wp P o a w K Q else E := by
  rw [if_pos (by simp [Region.wanted, hgd])]
  unfold Oper.wp
  simp [execOp, ho, hm, hx, hz, hr, Result.andThen]
  exact h
theorem rynew_any (w : World) : Calls Tryz.prog 22 #[] w fun e w' => ∃ g b, e = .returned (.pointer (some ⟨g, 0, none⟩)) ∧ FD w' g b 0 [] ∧ w.heap.size ≤ g ∧ w.heap.size ≤ b ∧ Below w.heap.size w w' := by
  have hmm := @run_makeMap Tryz.prog
  have HW : Hid (∀ W, W = (w.alloc (.map #[] 0)).alloc (.cells #[.int .i64 0, .map (some w.heap.size)] 75) → FD W (w.heap.size + 1) w.heap.size 0 [] ∧ Below w.heap.size w W) := fun W e => by
    subst e
    have hL := lb_new (w.alloc (.map #[] 0)) [.int .i64 0, .map (some w.heap.size)] 75
    rw [heap_one] at hL
    exact ⟨⟨hL, (World.ownsMap_made w Tryz.prog 3 Mv.hR).alloc _, List.Pairwise.nil, fun k p e => (by cases e), Nat.le_refl _⟩, up (up0 _ _) _⟩
  go_enter Tryz.func22, Tryz.ntmps22
  go_wp2_with fail
  go_ret
  exact ⟨_, _, rfl, (HW.out _ rfl).1, by omega, Nat.le_refl _, (HW.out _ rfl).2⟩
set_option maxRecDepth 100000 in
set_option maxHeartbeats 8000000 in
theorem rybehind_any (g b c : Nat) (M : Ms) (r : Rec) (d : Value) (w : World) (h : FD w g b c M) (hb : Bs w d r.l) (hT : STabs w) (hG : Rp.Wf (puM M)) (hnm2 : r.nm.size ≤ 140737488355000) (hf : r.x.fit) :
    Calls Tryz.prog 58 #[.pointer (some ⟨g, 0, none⟩), rv r.x r.nm d] w fun e w' => ApPost w (Rp.step (puM M) r) e w' := by
  cases hg : Mv.get M r.x.s with
  | some p =>
    have HST : Rp.step (puM M) r = applyP p.1 r := by unfold Rp.step Rp.stp; rw [puM_get, hg]; rfl
    have HSO : Rp.So p.1 r.x.s := hG.at' r.x.s p.1 (by rw [puM_get, hg]; rfl)
    have HKO := h.own r.x.s p hg
    obtain ⟨D, hD, hDL, hDE⟩ := sv_letter p.1 p.2
    rw [HST]
    obtain ⟨Z, hZ⟩ : ∃ Z, Z = zcl := ⟨_, rfl⟩
    have HZ : Hid (Z = zcl) := hZ
    have HZL : Hid (Z.length = 16) := by show _ = _; rw [hZ]; rfl
    have HZI : Hid ((Tryz.prog.info? 43).map (·.size) = some Z.length) := by show _ = _; rw [hZ]; exact infoSaga
    have HLK : Hid (∀ W, Below w.heap.size w W → (Instr.lookup 73 (.map (some b)) (.int .i64 r.x.s) true).run Tryz.prog W = .ok (.tuple #[.agg D.toArray, .bool true]) W) := fun W hW => by
      have e := (h.kept hW).look r.x.s (hf 2 (by omega) (by omega))
      rw [hg] at e
      rw [← hD]
      exact e
    have HC : Hid (∀ W, Below w.heap.size w W → W.cell? ⟨g, 1, none⟩ = some (.map (some b))) := fun W hW => (h.kept hW).cell
    obtain ⟨G, hGr, hGL, hGE⟩ := rv_letter r.x r.nm d
    have HAP : Hid (∀ W, Below w.heap.size w W → Calls Tryz.prog 73 #[.agg D.toArray, .agg G.toArray] W fun e w'' => ApPost W (applyP p.1 r) e w'') := fun W hW => by
      have e := apply_any p.1 p.2 r d W (HKO.kept hW).at (hb.kept hW) (hT.kept hW) (Nat.le_trans HSO.nm (by omega)) hnm2 hf
      rw [hD, hGr] at e
      exact e
    have HDL : Hid _ := hDL
    have HD1 : Hid (∀ v ∈ D, v.oneCell' = true) := by show ∀ v ∈ D, _; rw [hDE]; exact scl_one _ _
    have HDZ : Hid (D.length = Z.length) := by show _ = _; rw [hDE, HZL.out]; rfl
    rw [hGr]
    have HGL : Hid _ := hGL
    have HG2 : Hid (G[2]? = some (.int .i64 r.x.s)) := by show _ = _; rw [hGE]; rfl
    have HX : Hid (LB ((w.alloc (.cells G.toArray 32)).alloc (.cells Z.toArray 43)) w.heap.size 32 G ∧ LB ((w.alloc (.cells G.toArray 32)).alloc (.cells Z.toArray 43)) (w.heap.size + 1) 43 Z ∧ Below w.heap.size w ((w.alloc (.cells G.toArray 32)).alloc (.cells Z.toArray 43))) := lb_new2 w G Z _ _
    clear hZ hGr hGL hGE h hb hT hG hnm2 hf HST hD hDL hDE HSO HKO hg
    go_enter Tryz.func58, Tryz.ntmps58
    go_upto_region 1 with (first | (refine wpList_alloc_Z HZ.out rfl rfl ?_; (try simp only [heap_one])) | fail)
    obtain ⟨W1, hW1⟩ : ∃ W, W = (w.alloc (.cells G.toArray 32)).alloc (.cells Z.toArray 43) := ⟨_, rfl⟩
    have H1 : Hid (LB W1 w.heap.size 32 G ∧ LB W1 (w.heap.size + 1) 43 Z ∧ Below w.heap.size w W1) := by rw [hW1]; exact HX.out
    rw [← hW1]
    clear hW1 HX
    have HCK : Hid (∀ W, Below W1.heap.size W1 W → (fun w' => w'.cell? ⟨g, 1, none⟩ = some (.map (some b)) ∧ w'.cell? ⟨w.heap.size, 2, none⟩ = some (.int .i64 r.x.s) ∧ (Instr.lookup 73 (.map (some b)) (.int .i64 r.x.s) true).run Tryz.prog w' = .ok (.tuple #[.agg D.toArray, .bool true]) w') W) := fun W hW => ⟨HC.out _ (andThen H1.out.2.2 hW), (H1.out.1.kept hW).cell 2 _ HG2.out, HLK.out _ (andThen H1.out.2.2 hW)⟩
    refine wp_region_held_drew (S := fun w' => w'.cell? ⟨g, 1, none⟩ = some (.map (some b)) ∧ w'.cell? ⟨w.heap.size, 2, none⟩ = some (.int .i64 r.x.s) ∧ (Instr.lookup 73 (.map (some b)) (.int .i64 r.x.s) true).run Tryz.prog w' = .ok (.tuple #[.agg D.toArray, .bool true]) w') (by kernel_rfl) (HCK.out _ (Below.drew (Below.refl _ _))) (fun hH => ?_)
    obtain ⟨WV, hWV⟩ : ∃ x, x = W1.drew := ⟨_, rfl⟩
    have HBV : Hid (Below W1.heap.size W1 WV) := by rw [hWV]; exact Below.drew (Below.refl _ _)
    rw [← hWV]
    clear hWV hH
    have kv := HCK.out WV HBV.out
    refine zqk 0 rfl kv ?_
    try simp only [Act.put, zq1, zq2, zq3, zq4, zq5]
    refine zqk 1 rfl kv ?_
    try simp only [Act.put, zq1, zq2, zq3, zq4, zq5, zq6]
    refine zqk 2 rfl kv ?_
    try simp only [Act.put, zq1, zq2, zq3, zq4, zq5, zq6]
    refine zqk 3 rfl kv ?_
    try simp only [Act.put, zq1, zq2, zq3, zq4, zq5, zq6]
    refine zqk 4 rfl kv ?_
    try simp only [Act.put, zq1, zq2, zq3, zq4, zq5, zq6]
    refine zqk 5 rfl kv ?_
    try simp only [Act.put, zq1, zq2, zq3, zq4, zq5, zq6]
    refine zqk 6 rfl kv ?_
    try simp only [Act.put, zq1, zq2, zq3, zq4, zq5, zq6]
    refine zqk 7 rfl kv ?_
    try simp only [Act.put, zq1, zq2, zq3, zq4, zq5, zq6]
    refine zqk 8 rfl kv ?_
    try simp only [Act.put, zq1, zq2, zq3, zq4, zq5, zq6]
    refine zqk 9 rfl kv ?_
    try simp only [Act.put, zq1, zq2, zq3, zq4, zq5, zq6]
    have hbx := up0 WV (.cells Z.toArray 43)
    refine zqr 10 rfl (fun K hK => ?_)
    refine rstep_alloc_Z HZ.out rfl rfl ?_
    refine hK.out _ _ (HCK.out _ (andThen HBV.out hbx)) (fun hH => ?_)
    clear hK K
    try simp only [Act.put, zq1, zq2, zq3, zq4, zq5, zq6]
    have HS2 : Hid (∃ W2, W2 = (WV.alloc (.cells Z.toArray 43)).setCells WV.heap.size 0 D ∧ LB W2 WV.heap.size 43 D ∧ Below W1.heap.size W1 W2) := ⟨_, rfl, (lb_new WV Z 43).sets D HDZ.out, below_cells HBV.out.size _ 0 _ (andThen HBV.out hbx)⟩
    have HTH : Hid ((WV.alloc (.cells Z.toArray 43)).there WV.heap.size 0 D.toArray.size) := there_of (lb_new WV Z 43) (by simpa using HDZ.out)
    refine zqr 11 rfl (fun K hK => ?_)
    refine rstep_store rfl 43 (.tmp 6) (.tmp 16) rfl WV.heap.size 0 D.toArray rfl rfl HTH.out (by simpa using HDL.out) (all_oneCell_toArray HD1.out) ?_
    rw [List.toList_toArray]
    obtain ⟨W2, hW2, h2⟩ := HS2.out
    have H2 : Hid _ := h2
    rw [← hW2]
    refine hK.out _ _ (HCK.out _ H2.out.2) (fun hH => ?_)
    clear hK K hW2 h2 HS2 HTH
    try simp only [Act.put, zq4, zq5, zq6]
    have kv := HCK.out W2 H2.out.2
    refine zqk 12 rfl kv ?_
    try simp only [Act.put, zq1, zq2, zq3, zq4, zq5, zq6]
    refine wpAnyH_done (by kernel_rfl) ?_ _
    try simp only [Act.put, zq1, zq2, zq3, zq4, zq5, zq6]
    have H3 : Hid (LB W2 w.heap.size 32 G ∧ LB W2 (w.heap.size + 1) 43 Z ∧ Below w.heap.size w W2) := ⟨H1.out.1.kept H2.out.2, H1.out.2.1.kept H2.out.2, andThen H1.out.2.2 H2.out.2⟩
    clear kv hH hbx HCK
    go_wp2_with (first | (refine wpList_load_mid rfl 43 _ rfl WV.heap.size 0 rfl D _ H2.out.1.range Tryz.underlying43 rfl HDL.out ?_) | (refine wpList_load_mid rfl 32 _ rfl w.heap.size 0 rfl G _ H3.out.1.range Tryz.underlying32 rfl HGL.out ?_) | fail)
    refine (HAP.out _ H3.out.2.2).mono ?_
    rintro e w3 ⟨h3, rfl, o3, b3⟩
    have H4 : Hid (LB w3 (w.heap.size + 1) 43 Z ∧ SgO w.heap.size w3 (applyP p.1 r).2 h3 ∧ Below w.heap.size w w3) := ⟨H3.out.2.1.kept b3, o3.weak H3.out.2.2.size, andThen H3.out.2.2 b3⟩
    clear o3 b3 H3 H2 H1 HAP
    obtain ⟨D3, hD3, hL3, hE3⟩ := sv_letter (applyP p.1 r).2 h3
    rw [hD3]
    have HL3 : Hid _ := hL3
    have H31 : Hid (∀ v ∈ D3, v.oneCell' = true) := by show ∀ v ∈ D3, _; rw [hE3]; exact scl_one _ _
    have HZ3 : Hid (D3.length = Z.length) := by show _ = _; rw [hE3, HZL.out]; rfl
    have HV3 : Hid (Value.agg D3.toArray = sv (applyP p.1 r).2 h3) := hD3.symm
    clear hD3 hL3 hE3
    go_wp2_with (first | (refine wpList_store_mid rfl 43 (.tmp 4) (.tmp 22) rfl (w.heap.size + 1) 0 D3.toArray rfl rfl (there_of H4.out.1 (by simpa using HZ3.out)) (by simpa using HL3.out) (all_oneCell_toArray H31.out) ?_; (rw [List.toList_toArray])) | fail)
    have HR5 : Hid ((w3.setCells (w.heap.size + 1) 0 D3).rangeAt (w.heap.size + 1) 0 D3) := (H4.out.1.sets D3 HZ3.out).range
    have HBF : Hid (Below w.heap.size w (w3.setCells (w.heap.size + 1) 0 D3)) := below_cells (by omega) _ 0 _ H4.out.2.2
    refine bodyPost_ret (results_cell_slot (p := 4) (s := 5) (ty := 43) rfl _ (w3.setCells (w.heap.size + 1) 0 D3) (w.heap.size + 1) D3 _ rfl HR5.out Tryz.underlying43 rfl HL3.out) rfl ?_
    exact ⟨h3, (by rw [HV3.out]; rfl), H4.out.2.1.kb (KB.cells H4.out.1 (by decide) (by decide) 0 D3), HBF.out⟩
  | none =>
    have HST : Rp.step (puM M) r = beginP r := by unfold Rp.step Rp.stp; rw [puM_get, hg]; rfl
    rw [HST]
    obtain ⟨Z, hZ⟩ : ∃ Z, Z = zcl := ⟨_, rfl⟩
    have HZ : Hid (Z = zcl) := hZ
    have HZL : Hid (Z.length = 16) := by show _ = _; rw [hZ]; rfl
    have HZI : Hid ((Tryz.prog.info? 43).map (·.size) = some Z.length) := by show _ = _; rw [hZ]; exact infoSaga
    have HZ1 : Hid (∀ v ∈ Z, v.oneCell' = true) := by show ∀ v ∈ Z, _; rw [hZ]; exact scl_one zSg zSH
    have HLK : Hid (∀ W, Below w.heap.size w W → (Instr.lookup 73 (.map (some b)) (.int .i64 r.x.s) true).run Tryz.prog W = .ok (.tuple #[.agg Z.toArray, .bool false]) W) := fun W hW => by
      have e := (h.kept hW).look r.x.s (hf 2 (by omega) (by omega))
      rw [hg] at e
      rw [hZ]
      exact e
    have HC : Hid (∀ W, Below w.heap.size w W → W.cell? ⟨g, 1, none⟩ = some (.map (some b))) := fun W hW => (h.kept hW).cell
    obtain ⟨G, hGr, hGL, hGE⟩ := rv_letter r.x r.nm d
    have HAP : Hid (∀ W, Below w.heap.size w W → Calls Tryz.prog 74 #[.agg G.toArray] W fun e w'' => ApPost W (beginP r) e w'') := fun W hW => by
      have e := begin_any r d W (hb.kept hW) (hT.kept hW).e hnm2 hf
      rw [hGr] at e
      exact e
    have HDZ : Hid (Z.length = Z.length) := (rfl : Z.length = Z.length)
    rw [hGr]
    have HGL : Hid _ := hGL
    have HG2 : Hid (G[2]? = some (.int .i64 r.x.s)) := by show _ = _; rw [hGE]; rfl
    have HX : Hid (LB ((w.alloc (.cells G.toArray 32)).alloc (.cells Z.toArray 43)) w.heap.size 32 G ∧ LB ((w.alloc (.cells G.toArray 32)).alloc (.cells Z.toArray 43)) (w.heap.size + 1) 43 Z ∧ Below w.heap.size w ((w.alloc (.cells G.toArray 32)).alloc (.cells Z.toArray 43))) := lb_new2 w G Z _ _
    clear hZ hGr hGL hGE h hb hT hG hnm2 hf HST hg
    go_enter Tryz.func58, Tryz.ntmps58
    go_upto_region 1 with (first | (refine wpList_alloc_Z HZ.out rfl rfl ?_; (try simp only [heap_one])) | fail)
    obtain ⟨W1, hW1⟩ : ∃ W, W = (w.alloc (.cells G.toArray 32)).alloc (.cells Z.toArray 43) := ⟨_, rfl⟩
    have H1 : Hid (LB W1 w.heap.size 32 G ∧ LB W1 (w.heap.size + 1) 43 Z ∧ Below w.heap.size w W1) := by rw [hW1]; exact HX.out
    rw [← hW1]
    clear hW1 HX
    have HCK : Hid (∀ W, Below W1.heap.size W1 W → (fun w' => w'.cell? ⟨g, 1, none⟩ = some (.map (some b)) ∧ w'.cell? ⟨w.heap.size, 2, none⟩ = some (.int .i64 r.x.s) ∧ (Instr.lookup 73 (.map (some b)) (.int .i64 r.x.s) true).run Tryz.prog w' = .ok (.tuple #[.agg Z.toArray, .bool false]) w') W) := fun W hW => ⟨HC.out _ (andThen H1.out.2.2 hW), (H1.out.1.kept hW).cell 2 _ HG2.out, HLK.out _ (andThen H1.out.2.2 hW)⟩
    refine wp_region_held_drew (S := fun w' => w'.cell? ⟨g, 1, none⟩ = some (.map (some b)) ∧ w'.cell? ⟨w.heap.size, 2, none⟩ = some (.int .i64 r.x.s) ∧ (Instr.lookup 73 (.map (some b)) (.int .i64 r.x.s) true).run Tryz.prog w' = .ok (.tuple #[.agg Z.toArray, .bool false]) w') (by kernel_rfl) (HCK.out _ (Below.drew (Below.refl _ _))) (fun hH => ?_)
    obtain ⟨WV, hWV⟩ : ∃ x, x = W1.drew := ⟨_, rfl⟩
    have HBV : Hid (Below W1.heap.size W1 WV) := by rw [hWV]; exact Below.drew (Below.refl _ _)
    rw [← hWV]
    clear hWV hH
    have kv := HCK.out WV HBV.out
    refine zqk 0 rfl kv ?_
    try simp only [Act.put, zq1, zq2, zq3, zq4, zq5]
    refine zqk 1 rfl kv ?_
    try simp only [Act.put, zq1, zq2, zq3, zq4, zq5, zq6]
    refine zqk 2 rfl kv ?_
    try simp only [Act.put, zq1, zq2, zq3, zq4, zq5, zq6]
    refine zqk 3 rfl kv ?_
    try simp only [Act.put, zq1, zq2, zq3, zq4, zq5, zq6]
    refine zqk 4 rfl kv ?_
    try simp only [Act.put, zq1, zq2, zq3, zq4, zq5, zq6]
    refine zqk 5 rfl kv ?_
    try simp only [Act.put, zq1, zq2, zq3, zq4, zq5, zq6]
    refine zqk 6 rfl kv ?_
    try simp only [Act.put, zq1, zq2, zq3, zq4, zq5, zq6]
    refine zqk 7 rfl kv ?_
    try simp only [Act.put, zq1, zq2, zq3, zq4, zq5, zq6]
    refine zqk 8 rfl kv ?_
    try simp only [Act.put, zq1, zq2, zq3, zq4, zq5, zq6]
    refine zqk 9 rfl kv ?_
    try simp only [Act.put, zq1, zq2, zq3, zq4, zq5, zq6]
    have hbx := up0 WV (.cells Z.toArray 43)
    refine zqr 10 rfl (fun K hK => ?_)
    refine rstep_alloc_Z HZ.out rfl rfl ?_
    refine hK.out _ _ (HCK.out _ (andThen HBV.out hbx)) (fun hH => ?_)
    clear hK K
    try simp only [Act.put, zq1, zq2, zq3, zq4, zq5, zq6]
    have HS2 : Hid (∃ W2, W2 = (WV.alloc (.cells Z.toArray 43)).setCells WV.heap.size 0 Z ∧ LB W2 WV.heap.size 43 Z ∧ Below W1.heap.size W1 W2) := ⟨_, rfl, (lb_new WV Z 43).sets Z HDZ.out, below_cells HBV.out.size _ 0 _ (andThen HBV.out hbx)⟩
    have HTH : Hid ((WV.alloc (.cells Z.toArray 43)).there WV.heap.size 0 Z.toArray.size) := there_of (lb_new WV Z 43) (by simp)
    refine zqr 11 rfl (fun K hK => ?_)
    refine rstep_store rfl 43 (.tmp 6) (.tmp 16) rfl WV.heap.size 0 Z.toArray rfl rfl HTH.out (by simpa using HZI.out) (all_oneCell_toArray HZ1.out) ?_
    rw [List.toList_toArray]
    obtain ⟨W2, hW2, h2⟩ := HS2.out
    have H2 : Hid _ := h2
    rw [← hW2]
    refine hK.out _ _ (HCK.out _ H2.out.2) (fun hH => ?_)
    clear hK K hW2 h2 HS2 HTH
    try simp only [Act.put, zq4, zq5, zq6]
    have kv := HCK.out W2 H2.out.2
    refine zqk 12 rfl kv ?_
    try simp only [Act.put, zq1, zq2, zq3, zq4, zq5, zq6]
    refine wpAnyH_done (by kernel_rfl) ?_ _
    try simp only [Act.put, zq1, zq2, zq3, zq4, zq5, zq6]
    have H3 : Hid (LB W2 w.heap.size 32 G ∧ LB W2 (w.heap.size + 1) 43 Z ∧ Below w.heap.size w W2) := ⟨H1.out.1.kept H2.out.2, H1.out.2.1.kept H2.out.2, andThen H1.out.2.2 H2.out.2⟩
    clear kv hH hbx HCK
    go_wp2_with (first | (refine wpList_load_mid rfl 32 _ rfl w.heap.size 0 rfl G _ H3.out.1.range Tryz.underlying32 rfl HGL.out ?_) | fail)
    refine (HAP.out _ H3.out.2.2).mono ?_
    rintro e w3 ⟨h3, rfl, o3, b3⟩
    have H4 : Hid (LB w3 (w.heap.size + 1) 43 Z ∧ SgO w.heap.size w3 (beginP r).2 h3 ∧ Below w.heap.size w w3) := ⟨H3.out.2.1.kept b3, o3.weak H3.out.2.2.size, andThen H3.out.2.2 b3⟩
    clear o3 b3 H3 H2 H1 HAP
    obtain ⟨D3, hD3, hL3, hE3⟩ := sv_letter (beginP r).2 h3
    rw [hD3]
    have HL3 : Hid _ := hL3
    have H31 : Hid (∀ v ∈ D3, v.oneCell' = true) := by show ∀ v ∈ D3, _; rw [hE3]; exact scl_one _ _
    have HZ3 : Hid (D3.length = Z.length) := by show _ = _; rw [hE3, HZL.out]; rfl
    have HV3 : Hid (Value.agg D3.toArray = sv (beginP r).2 h3) := hD3.symm
    clear hD3 hL3 hE3
    go_wp2_with (first | (refine wpList_store_mid rfl 43 (.tmp 4) (.tmp 26) rfl (w.heap.size + 1) 0 D3.toArray rfl rfl (there_of H4.out.1 (by simpa using HZ3.out)) (by simpa using HL3.out) (all_oneCell_toArray H31.out) ?_; (rw [List.toList_toArray])) | fail)
    have HR5 : Hid ((w3.setCells (w.heap.size + 1) 0 D3).rangeAt (w.heap.size + 1) 0 D3) := (H4.out.1.sets D3 HZ3.out).range
    have HBF : Hid (Below w.heap.size w (w3.setCells (w.heap.size + 1) 0 D3)) := below_cells (by omega) _ 0 _ H4.out.2.2
    refine bodyPost_ret (results_cell_slot (p := 4) (s := 5) (ty := 43) rfl _ (w3.setCells (w.heap.size + 1) 0 D3) (w.heap.size + 1) D3 _ rfl HR5.out Tryz.underlying43 rfl HL3.out) rfl ?_
    exact ⟨h3, (by rw [HV3.out]; rfl), H4.out.2.1.kb (KB.cells H4.out.1 (by decide) (by decide) 0 D3), HBF.out⟩
end Go.Proofs.YtdnackjakfiffaaGreatDoor
