import Derived.Test.YtabdfafffjgfiaaGreatDoorAF2
import Derived.Test.YtabdfafffjgfiaaGreatDoorAF4
namespace Go.Proofs.YtabdfafffjgfiaaGreatDoor
open Go Go.RowKit
open Wb

theorem row_set {B : Nat} {w : World} {v : Value} {vs : List Value} (h : Row B w v vs) (g o : Nat) (xs : List Value) (hg : g < B) : Row B (w.setCells g o xs) v vs := row_kept2 h fun b hb => cells_other g xs o w b (by have := (World.ownsRow.lt h b hb).1; omega)
theorem Laid3.set {B : Nat} {w : World} {vm vw : Value} {ms ds es : List Value} {ls : List (List Nat)} (h : Laid3 B w vm vw ms ds es ls) (g o : Nat) (xs : List Value) (hg : g < B) : Laid3 B (w.setCells g o xs) vm vw ms ds es ls := ⟨row_set h.1 g o xs hg, row_set h.2.1 g o xs hg, h.2.2.1, h.2.2.2.1, h.2.2.2.2.1, fun j hj => by
 obtain ⟨a, n, c, h1, h2, h3⟩ := h.2.2.2.2.2.1 j hj
 exact ⟨a, n, c, h1, h2, Own.cells h3 g o xs hg⟩, fun e he => Own.cells (h.2.2.2.2.2.2 e he) g o xs hg⟩
theorem row_weakS {B B2 : Nat} {w : World} {v : Value} {vs : List Value} (h : Row B2 w v vs) (hB : B ≤ B2) : Row B w v vs := by
 refine ⟨h.1, ?_⟩
 rcases h.2 with h1 | ⟨g, cap, cur, e, hb, rest⟩
 ·exact .inl h1
 ·exact .inr ⟨g, cap, cur, e, Nat.le_trans hB hb, rest⟩
theorem Laid3.weak {B B2 : Nat} {w : World} {vm vw : Value} {ms ds es : List Value} {ls : List (List Nat)} (h : Laid3 B2 w vm vw ms ds es ls) (hB : B ≤ B2) : Laid3 B w vm vw ms ds es ls := ⟨row_weakS h.1 hB, row_weakS h.2.1 hB, h.2.2.1, h.2.2.2.1, h.2.2.2.2.1, fun j hj => by
 obtain ⟨a, n, c, h1, h2, h3⟩ := h.2.2.2.2.2.1 j hj
 exact ⟨a, n, c, h1, h2, own_weak h3 hB⟩, fun e he => own_weak (h.2.2.2.2.2.2 e he) hB⟩
theorem Laid3.behind {B : Nat} {w : World} {g n c : Nat} {vw : Value} {ms ds es : List Value} {ls : List (List Nat)} (h : Laid3 B w (.slice (some ⟨g, 0, none⟩) n c) vw ms ds es ls) (he : es.length = 20) (i : Nat) (hi : i < 20) : ∃ d, w.cell? ⟨g, ls.length + i, none⟩ = some d ∧ Bs w d [206] := by
 obtain ⟨a, cap, e, hm, hc⟩ := (h.cut he).shape
 simp only [Value.slice.injEq] at e
 obtain ⟨rfl, _, rfl⟩ := e
 obtain ⟨b, off, e2, hcell⟩ := hc (by unfold mark206; simp)
 simp only [Option.some.injEq, Addr.mk.injEq, and_true] at e2
 obtain ⟨rfl, rfl⟩ := e2
 have hlm : mark206.length = 20 := rfl
 obtain ⟨vj, q1, q2⟩ := hcell (ls.length + i) (by rw [List.length_append, hlm]; omega)
 rw [List.getElem_append_right (by omega)] at q2
 rw [Nat.zero_add] at q1
 have e6 : ∀ (k : Nat) (hk : k < mark206.length), mark206[k] = [206] := fun k hk => List.getElem_replicate _
 rw [e6] at q2
 exact ⟨vj, q1, q2⟩
theorem sgo_set {B : Nat} {w : World} {S : Sg} {h : SH} (k : SgO B w S h) (g o : Nat) (vs : List Value) (hg : g < B) : SgO B (w.setCells g o vs) S h := k.sets g o vs hg
structure PSt (w0 : World) (p3 p4 : Nat) (S : Sg) (h1 : SH) (r : Rec) (d1 vm1 vw1 vm2 vw2 vi vf vd : Value) (L : List Value) (w : World) : Prop where
 op : LB w w0.heap.size 59 L
 s : LB w p3 25 (scl S h1)
 rr : LB w p4 37 (rcE r.x r.nm d1)
 so : SgO (w0.heap.size + 1) w S h1
 ro : Own (w0.heap.size + 1) w d1 r.l
 lo : ∃ ms ds es, Laid3 (w0.heap.size + 1) w vm1 vw1 ms ds es S.outs ∧ es.length = 20
 lu : ∃ ms ds es, Laid3 (w0.heap.size + 1) w vm2 vw2 ms ds es S.und ∧ es.length = 20
 ri : Own (w0.heap.size + 1) w vi (roomL S.inp)
 rf : Own (w0.heap.size + 1) w vf (roomL S.fail)
 rd : Own (w0.heap.size + 1) w vd (roomL r.l)
 bel : Below w0.heap.size w0 w
section
variable {w0 w w' : World} {p3 p4 : Nat} {S : Sg} {h1 : SH} {r : Rec} {d1 vm1 vw1 vm2 vw2 vi vf vd : Value} {L : List Value}
theorem PSt.kept (k : PSt w0 p3 p4 S h1 r d1 vm1 vw1 vm2 vw2 vi vf vd L w) (hb : Below w.heap.size w w') : PSt w0 p3 p4 S h1 r d1 vm1 vw1 vm2 vw2 vi vf vd L w' := by
 obtain ⟨ms, ds, es, q1, q2⟩ := k.lo
 obtain ⟨ms2, ds2, es2, q3, q4⟩ := k.lu
 exact ⟨k.op.kept hb, k.s.kept hb, k.rr.kept hb, k.so.kept hb, k.ro.kept hb, ⟨ms, ds, es, q1.kept hb, q2⟩, ⟨ms2, ds2, es2, q3.kept hb, q4⟩, k.ri.kept hb, k.rf.kept hb, k.rd.kept hb, andThen k.bel hb⟩
theorem PSt.store (k : PSt w0 p3 p4 S h1 r d1 vm1 vw1 vm2 vw2 vi vf vd L w) (h3 : p3 ≠ w0.heap.size) (h4 : p4 ≠ w0.heap.size) (j : Nat) (v : Value) : PSt w0 p3 p4 S h1 r d1 vm1 vw1 vm2 vw2 vi vf vd (L.set j v) (w.setCell ⟨w0.heap.size, j, none⟩ v) := by
 obtain ⟨ms, ds, es, q1, q2⟩ := k.lo
 obtain ⟨ms2, ds2, es2, q3, q4⟩ := k.lu
 have hg : w0.heap.size < w0.heap.size + 1 := Nat.lt_succ_self _
 exact ⟨k.op.set j v, k.s.other _ _ h3, k.rr.other _ _ h4, sgo_set k.so _ j [v] hg, Own.cells k.ro _ j [v] hg, ⟨ms, ds, es, q1.set _ j [v] hg, q2⟩, ⟨ms2, ds2, es2, q3.set _ j [v] hg, q4⟩, Own.cells k.ri _ j [v] hg, Own.cells k.rf _ j [v] hg, Own.cells k.rd _ j [v] hg, below_cells (Nat.le_refl _) [v] j _ k.bel⟩
end
end Go.Proofs.YtabdfafffjgfiaaGreatDoor
