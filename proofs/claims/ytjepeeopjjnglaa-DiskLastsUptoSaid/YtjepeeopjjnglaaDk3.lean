/-
  Package disk: a name change: do, change.
-/
import Derived.Test.YtjepeeopjjnglaaDk2
import Derived.Maps.AppendAt
import Derived.Deep.RegionHeldLaw
namespace Go.Proofs.Ytjepeeopjjnglaa
open Go Go.RowKit Go.ChangeShapes
open Wb

theorem ne_empty (s : ByteArray) : (s.data.toList = []) ↔ s = ⟨#[]⟩ := by
  constructor
  · intro h
    cases s with
    | mk d =>
      congr 1
      exact Array.toList_eq_nil_iff.1 h
  · intro h
    rw [h]
theorem enS_of (s : ByteArray) : enS s.data.toList = .string s := by
  unfold enS
  simp
set_option maxRecDepth 100000 in
set_option maxHeartbeats 4000000 in
/-- c.do(names) -/
theorem dkdo_any (sF sT : ByteArray) (fo : Option Nat) (m : Option Nat) (l : Dk.Nm) (w : World) (h : MpA w m l) (hF : sF.size ≤ maxLen) (hT : sT.size ≤ maxLen) (hto : sT.data.toList ≠ [] → (∃ b, m = some b) ∧ (∃ f, fo = some f) ∧ l.length < maxLen) :
    Calls Try.prog 63 #[.agg #[.string sF, .string sT, fpo fo], .map m] w fun e w' => e = .returned (.tuple #[]) ∧ MpA w' m (Dk.Ch.app ⟨sF.data.toList, sT.data.toList, fo⟩ l) ∧ IFr w w' (fun q => m = some q) := by
  have L1 := lb_new w [.string sF, .string sT, fpo fo] 96
  have h1 := h.kept (up0 w (.cells #[.string sF, .string sT, fpo fo] 96))
  obtain ⟨W2, hr2, m2, g2⟩ := h1.del sF hF 0
  have hne : m ≠ some w.heap.size := fun e => by
    have := h.lt _ e
    omega
  have L2 : LB W2 w.heap.size 96 [.string sF, .string sT, fpo fo] := (g2.block w.heap.size L1.lt (fun e => hne e.symm)).trans L1
  have x0 := L1.cell 0 _ rfl
  have y1 := L2.cell 1 _ rfl
  have y2 := L2.cell 2 _ rfl
  have F2 : Hid (IFr w W2 (fun q => m = some q)) := (IFr.kept (up0 _ _)).trans (IFr.of (F := fun q => m = some q) g2 fun k _ e => e) fun k _ e => e
  by_cases he : sT.data.toList = []
  · have e : sT = ⟨#[]⟩ := (ne_empty sT).1 he
    have HA : Hid (Dk.Ch.app ⟨sF.data.toList, sT.data.toList, fo⟩ l = Dk.del l sF.data.toList) := by
      show Dk.Ch.app _ _ = _
      unfold Dk.Ch.app
      rw [if_pos he]
    have HM : Hid (MpA W2 m (Dk.del l sF.data.toList)) := m2
    subst e
    clear h h1 hto m2 g2 L1 L2 he hne
    go_enter Try.func63, Try.ntmps63
    go_wp2
    go_returns
    rw [HA.out]
    exact ⟨rfl, HM.out, F2.out⟩
  · obtain ⟨⟨b, rfl⟩, ⟨f, rfl⟩, hl⟩ := hto he
    obtain ⟨W3, hr3, m3, g3⟩ := m2.put sT hT f (Nat.lt_of_le_of_lt (Dk.len_del _ _) hl)
    have HA : Hid (Dk.Ch.app ⟨sF.data.toList, sT.data.toList, some f⟩ l = Dk.put (Dk.del l sF.data.toList) sT.data.toList f) := by
      show Dk.Ch.app _ _ = _
      unfold Dk.Ch.app
      rw [if_neg he]
      rfl
    have hne2 : sT.toList.isEmpty = false := by
      rw [ByteArray.toList_eq]
      cases hx : sT.data.toList with
      | nil => exact absurd hx he
      | cons a r => rfl
    have HM : Hid (MpA W3 (some b) (Dk.put (Dk.del l sF.data.toList) sT.data.toList f) ∧ IFr w W3 (fun q => some b = some q)) := ⟨m3, F2.out.trans (IFr.of (F := fun q => some b = some q) g3 fun k _ e => e) fun k _ e => e⟩
    unfold fpo fp at y2 x0 hr2
    unfold fp at hr3
    clear h h1 hto m2 g2 L1 L2 he hne m3 g3
    unfold fpo fp
    go_enter Try.func63, Try.ntmps63
    go_wp2
    go_returns
    rw [HA.out]
    exact ⟨rfl, HM.out.1, HM.out.2.mono fun q e => Option.some.inj e⟩
theorem infoC : (Try.prog.info? 96).map (fun i => (i.zero, i.size, i.bytes)) = some (some (.agg #[.string ⟨#[]⟩, .string ⟨#[]⟩, .pointer none]), 3, 40) := by kernel_rfl
theorem flatC_len (cs : List Dk.Ch) : (cs.flatMap enC).length = cs.length * 3 := by
  induction cs with
  | nil => rfl
  | cons x r ih => rw [List.flatMap_cons, List.length_append, ih, List.length_cons]; simp [enC]; omega
theorem fpo_one (o : Option Nat) : (fpo o).oneCell' = true := by cases o <;> rfl
/-- append of one change, its run -/
theorem run_app1C (w : World) (ty : TypeId) (B : Nat) (v : Value) (cs : List Dk.Ch) (h : w.ownsRow B 96 3 v cs.length (cs.flatMap enC)) (g c : Nat) (x : Dk.Ch) (hc : LB w g 96 (enC x)) (hmax : cs.length ≤ 1000000000) (hB : B ≤ w.heap.size) : ∃ v' w', (Builtin.append_ #[80, 80] ty #[v, .slice (some ⟨g, 0, none⟩) 1 c]).run Try.prog w = .ok v' w' ∧ w'.ownsRow B 96 3 v' (cs ++ [x]).length ((cs ++ [x]).flatMap enC) ∧ w.grownBy w' v.ownBlock ∧ (v'.ownBlock = v.ownBlock ∨ v'.ownBlock = some w.heap.size) := by
  obtain ⟨i0, hi, hq⟩ := Option.map_eq_some_iff.1 infoC
  simp only [Prod.mk.injEq] at hq
  obtain ⟨v', w', hr, h2, h3, -, h5⟩ := run_append_own_at (P := Try.prog) w B 80 ty 96 i0 _ 3 40 Try.underlying80 hi hq.1 hq.2.1 hq.2.2 rfl (by decide) v cs.length _ h ⟨g, 0, none⟩ 1 c (enC x) rfl (fun j u hj => by
    rw [Addr.add_lit, Nat.zero_add]
    exact hc.cell j u hj) (fun u hu => by
      simp [enC] at hu
      rcases hu with rfl | rfl | rfl
      · rfl
      · rfl
      · exact fpo_one _) (by unfold maxLen; omega) (by omega) hB
  refine ⟨v', w', hr, ?_, h3, h5⟩
  rw [List.length_append, List.flatMap_append]
  simpa using h2
section
variable {B : Nat} {w w' : World} {g : Nat} {S : Dk.DS} {M : Mm}
theorem DM.gne (h : DM B w g S M) : M.mn ≠ some g ∧ M.ml ≠ some g ∧ M.vc.ownBlock ≠ some g := by
  have hx := h.box
  unfold LB at hx
  refine ⟨fun e => ?_, fun e => ?_, fun e => ?_⟩
  · obtain ⟨es, clock, h9⟩ := h.nm.obj g e
    rw [hx] at h9
    cases h9
  · obtain ⟨es, clock, h9⟩ := h.la.obj g e
    rw [hx] at h9
    cases h9
  · obtain ⟨cur, h9⟩ := Mg.row_type h.ch g e
    rw [hx] at h9
    simp at h9
theorem DM.vne (h : DM B w g S M) {q : Nat} (hq : M.vc.ownBlock = some q) : q ≠ g ∧ M.mn ≠ some q ∧ M.ml ≠ some q := by
  obtain ⟨cur, hx⟩ := Mg.row_type h.ch q hq
  refine ⟨fun e => h.gne.2.2 (by rw [← e]; exact hq), fun e => ?_, fun e => ?_⟩
  · obtain ⟨es, clock, h9⟩ := h.nm.obj q e
    rw [hx] at h9
    cases h9
  · obtain ⟨es, clock, h9⟩ := h.la.obj q e
    rw [hx] at h9
    cases h9
theorem DM.fne (h : DM B w g S M) {q : Nat} (hq : q ∈ S.ids) : q ≠ g ∧ M.mn ≠ some q ∧ M.ml ≠ some q ∧ M.vc.ownBlock ≠ some q ∧ ∀ f ∈ S.ids, (M.dv f).ownBlock ≠ some q := by
  have hx := h.fb q hq
  unfold LB at hx
  refine ⟨fun e => ?_, fun e => ?_, fun e => ?_, fun e => ?_, fun f hf e => ?_⟩
  · have h9 := h.box
    unfold LB at h9
    rw [← e, hx] at h9
    simp at h9
  · obtain ⟨es, clock, h9⟩ := h.nm.obj q e
    rw [hx] at h9
    cases h9
  · obtain ⟨es, clock, h9⟩ := h.la.obj q e
    rw [hx] at h9
    cases h9
  · obtain ⟨cur, h9⟩ := Mg.row_type h.ch q e
    rw [hx] at h9
    simp at h9
  · obtain ⟨cur, h9⟩ := Mg.row_type (h.fd f hf).1 q e
    rw [hx] at h9
    simp at h9
theorem DM.dne (h : DM B w g S M) {f q : Nat} (hf : f ∈ S.ids) (hq : (M.dv f).ownBlock = some q) : q ≠ g ∧ M.mn ≠ some q ∧ M.ml ≠ some q ∧ M.vc.ownBlock ≠ some q := by
  obtain ⟨cur, hx⟩ := Mg.row_type (h.fd f hf).1 q hq
  refine ⟨fun e => ?_, fun e => ?_, fun e => ?_, fun e => ?_⟩
  · have h9 := h.box
    unfold LB at h9
    rw [← e, hx] at h9
    simp at h9
  · obtain ⟨es, clock, h9⟩ := h.nm.obj q e
    rw [hx] at h9
    cases h9
  · obtain ⟨es, clock, h9⟩ := h.la.obj q e
    rw [hx] at h9
    cases h9
  · obtain ⟨cur2, h9⟩ := Mg.row_type h.ch q e
    rw [hx] at h9
    simp at h9
/-- the files, the lasting names where their blocks stay -/
theorem DM.rest (h : DM B w g S M) (hb : ∀ q, q < w.heap.size → q ≠ g → M.mn ≠ some q → M.vc.ownBlock ≠ some q → w'.heap[q]? = w.heap[q]?) : MpA w' M.ml S.la ∧ (∀ f ∈ S.ids, LB w' f 84 [M.dv f, .int .i64 ((S.fo f).syn : Int)]) ∧ ∀ f ∈ S.ids, Own B w' (M.dv f) (S.fo f).data := by
  refine ⟨h.la.blk fun b e => hb b (h.la.lt b e) (fun e2 => h.gne.2.1 (by rw [← e2]; exact e)) (fun e2 => h.ne b e2 e) (fun e2 => (h.vne e2).2.2 e), fun f hf => ?_, fun f hf => ⟨Mg.row_block (h.fd f hf).1 fun q e => ?_, (h.fd f hf).2⟩⟩
  · have h9 := h.fne hf
    exact (hb f (h.fb f hf).lt h9.1 h9.2.1 h9.2.2.2.1).trans (h.fb f hf)
  · have h9 := h.dne hf e
    exact hb q (World.ownsRow.lt (h.fd f hf).1 q e).2 h9.1 h9.2.1 h9.2.2.2
/-- the names and the changes are others -/
theorem DM.chg (h : DM B w g S M) {W2 W3 W4 : World} {nm' : Dk.Nm} {c : Dk.Ch} {vc' : Value} (m2 : MpA W2 M.mn nm') (f2 : IFr w W2 (fun q => M.mn = some q)) (b23 : Below W2.heap.size W2 W3) (r : W4.ownsRow B 96 3 vc' (S.ch ++ [c]).length ((S.ch ++ [c]).flatMap enC)) (g4 : W3.grownBy W4 M.vc.ownBlock) (hv : vc'.ownBlock = M.vc.ownBlock ∨ vc'.ownBlock = some W3.heap.size) :
    DM B (W4.setCell ⟨g, 4, none⟩ vc') g { S with nm := nm', ch := S.ch ++ [c] } { M with vc := vc' } ∧ IFr w (W4.setCell ⟨g, 4, none⟩ vc') (Ft g S M) ∧ ∀ q, Ft g { S with nm := nm', ch := S.ch ++ [c] } { M with vc := vc' } q → Ft g S M q ∨ w.heap.size ≤ q := by
  have s2 := f2.size
  have s3 := b23.size
  have s4 := g4.size
  have gl := h.box.lt
  have far4 : ∀ q, q < w.heap.size → M.mn ≠ some q → M.vc.ownBlock ≠ some q → W4.heap[q]? = w.heap[q]? := fun q hq h1 h2 => (g4.block q (by omega) fun e => h2 e.symm).trans ((b23.block q (by omega)).trans (f2.block q hq h1))
  have far : ∀ q, q < w.heap.size → q ≠ g → M.mn ≠ some q → M.vc.ownBlock ≠ some q → (W4.setCell ⟨g, 4, none⟩ vc').heap[q]? = w.heap[q]? := fun q hq h0 h1 h2 => (set_other _ _ _ _ h0).trans (far4 q hq h1 h2)
  have LG : LB W4 g 82 (dkc S M) := (far4 g gl h.gne.1 h.gne.2.2).trans h.box
  have LG2 := LG.set 4 vc'
  obtain ⟨k1, k2, k3⟩ := h.rest far
  have vg : ∀ q, vc'.ownBlock = some q → q ≠ g := fun q e e2 => by
    rcases hv with h9 | h9
    · exact h.gne.2.2 (by rw [← e2, ← h9]; exact e)
    · rw [h9] at e
      have := Option.some.inj e
      omega
  have mblk : ∀ b, M.mn = some b → (W4.setCell ⟨g, 4, none⟩ vc').heap[b]? = W2.heap[b]? := fun b e => by
    have hb := m2.lt b e
    refine (set_other _ _ _ _ fun e2 : b = g => h.gne.1 (by rw [← e2]; exact e)).trans ((g4.block b (by omega) fun e2 => (h.vne e2.symm).2.1 e).trans (b23.block b hb))
  refine ⟨⟨LG2, m2.blk mblk, k1, Mg.row_block r fun q e => set_other _ _ _ _ (vg q e), k2, k3, h.ap, h.ne, h.gB, h.mB, h.fB⟩, ⟨g4.os.trans (b23.os.trans f2.os), g4.tape.trans (b23.tape.trans f2.tape), g4.output.trans (b23.output.trans f2.output), by simp only [World.setCell, Array.size_modify]; omega, fun k hk hn => far k hk (fun e => hn (.inl e)) (fun e => hn (.inr (.inl e))) (fun e => hn (.inr (.inr (.inr (.inl e)))))⟩, fun q hq => ?_⟩
  rcases hq with e | e | e | e | e
  · exact .inl (.inl e)
  · exact .inl (.inr (.inl e))
  · exact .inl (.inr (.inr (.inl e)))
  · rcases hv with h9 | h9
    · exact .inl (.inr (.inr (.inr (.inl (by rw [← h9]; exact e)))))
    · have e2 : vc'.ownBlock = some q := e
      rw [h9] at e2
      have := Option.some.inj e2
      exact .inr (by omega)
  · exact .inl (.inr (.inr (.inr (.inr e))))
end
theorem st_doW {ops : Array Oper} {o : Oper} {a : Act} {W : World} {K : Act → World → Prop} {Q : Exit → Act → World → Prop} {E : Prop} (hgd : o.guard = none) (p q : Nat) {ts : Array TypeId} (ho : o.op = .call { callee := .value (.func 63), args := #[.tmp p, .tmp q], argTypes := ts }) {u1 u2 : Value} (hp : a.tmps[p]?.getD undef = u1) (hq : a.tmps[q]?.getD undef = u2) {R : World → Prop} (hC : Calls Try.prog 63 #[u1, u2] W fun e W' => e = .returned (.tuple #[]) ∧ R W') (h : ∀ W', R W' → K (a.put o.dst (.tuple #[])) W') : if Region.wanted o (yielded ops a.tmps) = true then Oper.wp Try.prog o a W K Q else E := by
  rw [if_pos (by simp [Region.wanted, hgd])]
  obtain ⟨dst, op', ty, pos, after, guard⟩ := o
  simp only at ho hgd
  subst ho hgd
  have HC : Hid (Calls Try.prog 63 #[u1, u2] W fun e W' => e = .returned (.tuple #[]) ∧ R W') := hC
  clear hC
  go_simp
  refine HC.out.mono ?_
  rintro e W' ⟨rfl, r⟩
  exact h W' r
end Go.Proofs.Ytjepeeopjjnglaa
