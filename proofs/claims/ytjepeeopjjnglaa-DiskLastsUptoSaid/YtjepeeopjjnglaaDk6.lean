/-
  Package disk: a file's bytes and mark are others; Sync, Append.
-/
import Derived.Test.YtjepeeopjjnglaaDk5
namespace Go.Proofs.Ytjepeeopjjnglaa
open Go Go.RowKit Go.ChangeShapes
open Wb

/-- append of bytes onto a row of its own, its run -/
theorem run_appB (w : World) (ty : TypeId) (B : Nat) (v : Value) (l : List Nat) (h : Own B w v l) (xv : Value) (m : List Nat) (hm : Bs w xv m) (hmax : l.length + m.length ≤ 140737488355328) (hB : B ≤ w.heap.size) : ∃ v' w', (Builtin.append_ #[30, 30] ty #[v, xv]).run Try.prog w = .ok v' w' ∧ Own B w' v' (l ++ m) ∧ w.grownBy w' v.ownBlock ∧ (v'.ownBlock = v.ownBlock ∨ v'.ownBlock = some w.heap.size) := by
  obtain ⟨i0, hi, hq⟩ := Option.map_eq_some_iff.1 info5
  simp only [Prod.mk.injEq] at hq
  obtain ⟨ao, cap, rfl, hl, hmx, hn, hc⟩ := hm.shape
  cases ao with
  | none =>
    obtain rfl := hn rfl
    have h0 : m = [] := List.eq_nil_of_length_eq_zero (by omega)
    subst h0
    obtain ⟨a1, c1, rfl, hc1, -⟩ := Mg.row_shape h.row
    refine ⟨_, w, ?_, by simpa using h, World.grownBy.refl _ _, .inl rfl⟩
    cases a1 <;> simp [Builtin.append_, run_underlying Try.underlying30, sizeOf, typeInfo, hi, Builtin.lenOf, Builtin.firstCells, hc1, storeCells]
  | some ad =>
    obtain ⟨v', w', hr, h2, h3, -, h5⟩ := run_append_own_at (P := Try.prog) w B 30 ty 5 i0 _ 1 1 Try.underlying30 hi hq.1 hq.2.1 hq.2.2 rfl (by decide) v l.length (bv l) h.row ad m.length cap (bv m) (by rw [bv_length, Nat.mul_one]) (fun j u hj => by
      have hjl : j < m.length := by have := (List.getElem?_eq_some_iff.1 hj).1; rwa [bv_length] at this
      obtain ⟨b, off, e, hcell⟩ := hc (List.ne_nil_of_length_pos (by omega))
      obtain rfl := Option.some.inj e
      rw [bv_get m j hjl] at hj
      rw [Addr.add_lit, hcell j hjl]
      exact hj) (bv_one m) (by unfold maxLen; omega) (by omega) hB
    refine ⟨v', w', hr, ⟨?_, ok_append h.good hm.good⟩, h3, h5⟩
    rw [List.length_append, bv_append]
    exact h2
section
variable {B : Nat} {w w' : World} {g : Nat} {S : Dk.DS} {M : Mm}
theorem ft_upd {x : Dk.Fl} {f q : Nat} (h : Ft g { S with fo := Dk.upd S.fo f x } M q) : Ft g S M q := h
/-- how many bytes are synced -/
theorem DM.syn (h : DM B w g S M) {f : Nat} (hf : f ∈ S.ids) (n : Nat) : DM B (w.setCell ⟨f, 1, none⟩ (.int .i64 (n : Int))) g { S with fo := Dk.upd S.fo f ⟨(S.fo f).data, n⟩ } M ∧ IFr w (w.setCell ⟨f, 1, none⟩ (.int .i64 (n : Int))) (Ft g S M) := by
  have far : ∀ q, q ≠ f → (w.setCell ⟨f, 1, none⟩ (.int .i64 (n : Int))).heap[q]? = w.heap[q]? := fun q hq => set_other _ _ _ _ hq
  have k := h.fne hf
  refine ⟨⟨(far g (Ne.symm k.1)).trans h.box, h.nm.blk fun b e => far b fun e2 => k.2.1 (by rw [← e2]; exact e), h.la.blk fun b e => far b fun e2 => k.2.2.1 (by rw [← e2]; exact e), Mg.row_block h.ch fun q e => far q fun e2 => k.2.2.2.1 (by rw [← e2]; exact e), fun f' hf' => ?_, fun f' hf' => ?_, h.ap, h.ne, h.gB, h.mB, h.fB⟩, ⟨rfl, rfl, rfl, by simp [World.setCell], fun q _ hn => far q fun e => hn (.inr (.inr (.inr (.inr ⟨f, hf, .inl e⟩))))⟩⟩
  · by_cases e : f' = f
    · subst e
      simp only [Dk.upd, if_pos]
      exact (h.fb f' hf).set 1 _
    · simp only [Dk.upd, if_neg e]
      exact (far f' e).trans (h.fb f' hf')
  · have hd : ((Dk.upd S.fo f ⟨(S.fo f).data, n⟩) f').data = (S.fo f').data := by
      by_cases e : f' = f
      · subst e
        simp [Dk.upd]
      · simp [Dk.upd, e]
    simp only
    rw [hd]
    exact ⟨Mg.row_block (h.fd f' hf').1 fun q e => far q fun e2 => k.2.2.2.2 f' hf' (by rw [← e2]; exact e), (h.fd f' hf').2⟩
/-- other bytes -/
theorem DM.dat (h : DM B w g S M) {f : Nat} (hf : f ∈ S.ids) {W : World} {v' : Value} {l' : List Nat} (hw : IFr w W (fun q => (M.dv f).ownBlock = some q)) (ho : Own B W v' l') (hv : ∀ q, v'.ownBlock = some q → (M.dv f).ownBlock = some q ∨ w.heap.size ≤ q) : DM B (W.setCell ⟨f, 0, none⟩ v') g { S with fo := Dk.upd S.fo f ⟨l', (S.fo f).syn⟩ } { M with dv := fun k => if k = f then v' else M.dv k } ∧ IFr w (W.setCell ⟨f, 0, none⟩ v') (Ft g S M) ∧ ∀ q, Ft g { S with fo := Dk.upd S.fo f ⟨l', (S.fo f).syn⟩ } { M with dv := fun k => if k = f then v' else M.dv k } q → Ft g S M q ∨ w.heap.size ≤ q := by
  have k := h.fne hf
  have fl := (h.fb f hf).lt
  have far : ∀ q, q < w.heap.size → q ≠ f → (M.dv f).ownBlock ≠ some q → (W.setCell ⟨f, 0, none⟩ v').heap[q]? = w.heap[q]? := fun q hq h1 h2 => (set_other _ _ _ _ h1).trans (hw.block q hq h2)
  have LF : LB W f 84 [M.dv f, .int .i64 ((S.fo f).syn : Int)] := (hw.block f fl fun e => k.2.2.2.2 f hf e).trans (h.fb f hf)
  have v'f : ∀ q, v'.ownBlock = some q → q ≠ f := fun q e e2 => by
    rcases hv q e with h9 | h9
    · exact k.2.2.2.2 f hf (h9.trans (congrArg some e2))
    · omega
  refine ⟨⟨(far g h.box.lt (Ne.symm k.1) fun e => (h.dne hf e).1 rfl).trans h.box, h.nm.blk fun b e => far b (h.nm.lt b e) (fun e2 => k.2.1 (by rw [← e2]; exact e)) (fun e2 => (h.dne hf e2).2.1 e), h.la.blk fun b e => far b (h.la.lt b e) (fun e2 => k.2.2.1 (by rw [← e2]; exact e)) (fun e2 => (h.dne hf e2).2.2.1 e), Mg.row_block h.ch fun q e => far q (World.ownsRow.lt h.ch q e).2 (fun e2 => k.2.2.2.1 (by rw [← e2]; exact e)) (fun e2 => (h.dne hf e2).2.2.2 e), fun f' hf' => ?_, fun f' hf' => ?_, fun f1 h1 f2 h2 hne q e e2 => ?_, h.ne, h.gB, h.mB, h.fB⟩, ⟨hw.os, hw.tape, hw.output, by simp only [World.setCell, Array.size_modify]; exact hw.size, fun q hq hn => far q hq (fun e => hn (.inr (.inr (.inr (.inr ⟨f, hf, .inl e⟩))))) (fun e => hn (.inr (.inr (.inr (.inr ⟨f, hf, .inr e⟩)))))⟩, fun q hq => ?_⟩
  · by_cases e : f' = f
    · subst e
      simp only [Dk.upd, if_pos]
      exact LF.set 0 v'
    · simp only [Dk.upd, if_neg e]
      exact (far f' (h.fb f' hf').lt e fun e2 => (h.fne hf').2.2.2.2 f hf e2).trans (h.fb f' hf')
  · by_cases e : f' = f
    · subst e
      simp only [Dk.upd, if_pos]
      exact ⟨Mg.row_block ho.1 fun q e => set_other _ _ _ _ (v'f q e), ho.2⟩
    · simp only [Dk.upd, if_neg e]
      exact ⟨Mg.row_block (h.fd f' hf').1 fun q e3 => far q (World.ownsRow.lt (h.fd f' hf').1 q e3).2 (fun e2 => k.2.2.2.2 f' hf' (by rw [← e2]; exact e3)) (fun e2 => h.ap f hf f' hf' (Ne.symm e) q e2 e3), (h.fd f' hf').2⟩
  · simp only at e e2
    have lt2 : ∀ f2 ∈ S.ids, ∀ q, (M.dv f2).ownBlock = some q → q < w.heap.size := fun f2 h2 q e => (World.ownsRow.lt (h.fd f2 h2).1 q e).2
    by_cases e1 : f1 = f
    · rw [if_pos e1] at e
      have e3 : f2 ≠ f := fun e4 => hne (e1.trans e4.symm)
      rw [if_neg e3] at e2
      rcases hv q e with h9 | h9
      · exact h.ap f hf f2 h2 (Ne.symm e3) q h9 e2
      · have := lt2 f2 h2 q e2
        omega
    · rw [if_neg e1] at e
      by_cases e3 : f2 = f
      · rw [if_pos e3] at e2
        rcases hv q e2 with h9 | h9
        · exact h.ap f hf f1 h1 (Ne.symm e1) q h9 e
        · have := lt2 f1 h1 q e
          omega
      · rw [if_neg e3] at e2
        exact h.ap f1 h1 f2 h2 hne q e e2
  · rcases hq with e | e | e | e | ⟨f1, h1, e⟩
    · exact .inl (.inl e)
    · exact .inl (.inr (.inl e))
    · exact .inl (.inr (.inr (.inl e)))
    · exact .inl (.inr (.inr (.inr (.inl e))))
    · rcases e with e | e
      · exact .inl (.inr (.inr (.inr (.inr ⟨f1, h1, .inl e⟩))))
      · simp only at e
        by_cases e1 : f1 = f
        · rw [if_pos e1] at e
          rcases hv q e with h9 | h9
          · exact .inl (.inr (.inr (.inr (.inr ⟨f, hf, .inr h9⟩))))
          · exact .inr h9
        · rw [if_neg e1] at e
          exact .inl (.inr (.inr (.inr (.inr ⟨f1, h1, .inr e⟩))))
end
end Go.Proofs.Ytjepeeopjjnglaa
