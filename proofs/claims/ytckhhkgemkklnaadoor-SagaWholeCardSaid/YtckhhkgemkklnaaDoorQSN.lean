import Derived.Test.YtckhhkgemkklnaaDoorQSM
import Derived.Test.YtckhhkgemkklnaaDoorQR3
/-
  SagaEnds ..: the reference's Same of a saga and itself, no outputs being there.
-/
namespace Go.Proofs.YtckhhkgemkklnaaDoor
open Go Go.RowKit
open Wb

theorem lists_nil (a b : Option Addr) (c d : Nat) (w : World) : Calls Tryd.prog 29 #[.slice a 0 c, .slice b 0 d] w fun e w' => e = .returned (.bool true) ∧ w = w' := by
  go_enter Tryd.func29, Tryd.ntmps29
  go_wp2
  go_loopw [5] (fun i wr => i = .int .i64 0 ∧ w = wr) (fun _ _ => 0)
  case atStart => exact ⟨rfl, rfl⟩
  case round =>
    obtain ⟨rfl, rfl⟩ := hrel
    go_wp2
    go_ret
    exact ⟨rfl, rfl⟩
set_option maxRecDepth 100000 in
set_option maxHeartbeats 4000000 in
theorem same_yes (S : Sg) (h h2 : SH) (w : World) (k : SgAt w S h) (k2 : SgAt w S h2) (ho : S.outs = []) (hu : S.und = []) : Calls Tryd.prog 17 #[sv S h, sv S h2] w fun e w' => e = .returned (.bool true) ∧ Below w.heap.size w w' := by
  have HA : Hid (∀ w', Below w.heap.size w w' → Calls Tryd.prog 28 #[.slice h.ai S.inp.length h.ci, .slice h2.ai S.inp.length h2.ci] w' fun e w'' => e = .returned (.bool true) ∧ Below w'.heap.size w' w'') := fun w' hb => by
    have e := ralike_any _ _ _ _ w' (k.inp.kept hb) (k2.inp.kept hb)
    rw [decide_eq_true rfl] at e
    exact e
  have HF : Hid (∀ w', Below w.heap.size w w' → Calls Tryd.prog 28 #[.slice h.af S.fail.length h.cf, .slice h2.af S.fail.length h2.cf] w' fun e w'' => e = .returned (.bool true) ∧ Below w'.heap.size w' w'') := fun w' hb => by
    have e := ralike_any _ _ _ _ w' (k.fail.kept hb) (k2.fail.kept hb)
    rw [decide_eq_true rfl] at e
    exact e
  clear k k2
  obtain ⟨D, hD, hL, hE⟩ := sv_letter S h
  obtain ⟨E, hD2, hL2, hE2⟩ := sv_letter S h2
  rw [hD, hD2]
  have HO : Hid (S.outs.length = 0) := by show _ = _; rw [ho]; rfl
  have HU : Hid (S.und.length = 0) := by show _ = _; rw [hu]; rfl
  have HE : Hid (D = scl S h) := hE
  have HE2 : Hid (E = scl S h2) := hE2
  have HX : Hid (∀ t t2, LB ((w.alloc (.cells D.toArray t)).alloc (.cells E.toArray t2)) w.heap.size t D ∧ LB ((w.alloc (.cells D.toArray t)).alloc (.cells E.toArray t2)) (w.heap.size + 1) t2 E ∧ Below w.heap.size w ((w.alloc (.cells D.toArray t)).alloc (.cells E.toArray t2))) := fun t t2 => lb_new2 w D E t t2
  clear hD hL hE hD2 hL2 hE2 ho hu

  have c0 := (HX.out 28 28).1.cell 0 (.int .i64 S.x.id) (by rw [HE.out]; rfl)
  have e0 := (HX.out 28 28).2.1.cell 0 (.int .i64 S.x.id) (by rw [HE2.out]; rfl)
  have c1 := (HX.out 28 28).1.cell 1 (.string S.nm) (by rw [HE.out]; rfl)
  have e1 := (HX.out 28 28).2.1.cell 1 (.string S.nm) (by rw [HE2.out]; rfl)
  have c2 := (HX.out 28 28).1.cell 2 (.int .i64 S.x.cnt) (by rw [HE.out]; rfl)
  have e2 := (HX.out 28 28).2.1.cell 2 (.int .i64 S.x.cnt) (by rw [HE2.out]; rfl)
  have c3 := (HX.out 28 28).1.cell 3 (.int .i64 S.x.piv) (by rw [HE.out]; rfl)
  have e3 := (HX.out 28 28).2.1.cell 3 (.int .i64 S.x.piv) (by rw [HE2.out]; rfl)
  have c4 := (HX.out 28 28).1.cell 4 (.int .i64 S.x.beg) (by rw [HE.out]; rfl)
  have e4 := (HX.out 28 28).2.1.cell 4 (.int .i64 S.x.beg) (by rw [HE2.out]; rfl)
  have c5 := (HX.out 28 28).1.cell 5 (.int .i64 S.x.la) (by rw [HE.out]; rfl)
  have e5 := (HX.out 28 28).2.1.cell 5 (.int .i64 S.x.la) (by rw [HE2.out]; rfl)
  have c6 := (HX.out 28 28).1.cell 6 (.slice h.ai S.inp.length h.ci) (by rw [HE.out]; rfl)
  have e6 := (HX.out 28 28).2.1.cell 6 (.slice h2.ai S.inp.length h2.ci) (by rw [HE2.out]; rfl)
  have c7 := (HX.out 28 28).1.cell 7 (.int .i64 S.x.ph) (by rw [HE.out]; rfl)
  have e7 := (HX.out 28 28).2.1.cell 7 (.int .i64 S.x.ph) (by rw [HE2.out]; rfl)
  have c8 := (HX.out 28 28).1.cell 8 (.int .i64 S.x.nx) (by rw [HE.out]; rfl)
  have e8 := (HX.out 28 28).2.1.cell 8 (.int .i64 S.x.nx) (by rw [HE2.out]; rfl)
  have c9 := (HX.out 28 28).1.cell 9 (.bool S.x.fl) (by rw [HE.out]; rfl)
  have e9 := (HX.out 28 28).2.1.cell 9 (.bool S.x.fl) (by rw [HE2.out]; rfl)
  have c10 := (HX.out 28 28).1.cell 10 (.int .i64 S.x.tr) (by rw [HE.out]; rfl)
  have e10 := (HX.out 28 28).2.1.cell 10 (.int .i64 S.x.tr) (by rw [HE2.out]; rfl)
  have c13 := (HX.out 28 28).1.cell 13 (.int .i64 S.x.fs) (by rw [HE.out]; rfl)
  have e13 := (HX.out 28 28).2.1.cell 13 (.int .i64 S.x.fs) (by rw [HE2.out]; rfl)
  have c14 := (HX.out 28 28).1.cell 14 (.int .i64 S.x.fc) (by rw [HE.out]; rfl)
  have e14 := (HX.out 28 28).2.1.cell 14 (.int .i64 S.x.fc) (by rw [HE2.out]; rfl)
  have d0 : (S.x.id != S.x.id) = false := by simp
  have d2 : (S.x.cnt != S.x.cnt) = false := by simp
  have d3 : (S.x.piv != S.x.piv) = false := by simp
  have d4 : (S.x.beg != S.x.beg) = false := by simp
  have d5 : (S.x.la != S.x.la) = false := by simp
  have d7 : (S.x.ph != S.x.ph) = false := by simp
  have d8 : (S.x.nx != S.x.nx) = false := by simp
  have d9 : (S.x.fl != S.x.fl) = false := by simp
  have d10 : (S.x.tr != S.x.tr) = false := by simp
  have d13 : (S.x.fs != S.x.fs) = false := by simp
  have d14 : (S.x.fc != S.x.fc) = false := by simp
  go_enter Tryd.func17, Tryd.ntmps17
  go_wp2_with fail
  refine (HA.out _ (HX.out _ _).2.2).mono ?_
  rintro e w1 ⟨rfl, b1⟩
  have H1 : Hid (LB w1 w.heap.size 28 D ∧ LB w1 (w.heap.size + 1) 28 E ∧ Below w.heap.size w w1) := ⟨(HX.out _ _).1.kept b1, (HX.out _ _).2.1.kept b1, andThen (HX.out _ _).2.2 b1⟩
  clear b1 HX HA c0 e0 c1 e1 c2 e2 c3 e3 c4 e4 c5 e5 c6 e6 c7 e7 c8 e8 c9 e9 c10 e10 c13 e13 c14 e14 d0 d2 d3 d4 d5 d7 d8 d9 d10 d13 d14
  have c15 := H1.out.1.cell 15 (.slice h.af S.fail.length h.cf) (by rw [HE.out]; rfl)
  have e15 := H1.out.2.1.cell 15 (.slice h2.af S.fail.length h2.cf) (by rw [HE2.out]; rfl)
  go_wp2_with fail
  refine (HF.out _ H1.out.2.2).mono ?_
  rintro e w2 ⟨rfl, b2⟩
  have H2 : Hid (LB w2 w.heap.size 28 D ∧ LB w2 (w.heap.size + 1) 28 E ∧ Below w.heap.size w w2) := ⟨H1.out.1.kept b2, H1.out.2.1.kept b2, andThen H1.out.2.2 b2⟩
  clear b2 H1 HF c15 e15
  have c11 := H2.out.1.cell 11 (.slice h.ao 0 h.co) (by rw [HE.out, ← HO.out]; rfl)
  have e11 := H2.out.2.1.cell 11 (.slice h2.ao 0 h2.co) (by rw [HE2.out, ← HO.out]; rfl)
  have c12 := H2.out.1.cell 12 (.slice h.au 0 h.cu) (by rw [HE.out, ← HU.out]; rfl)
  have e12 := H2.out.2.1.cell 12 (.slice h2.au 0 h2.cu) (by rw [HE2.out, ← HU.out]; rfl)
  go_wp2_with fail
  refine (lists_nil _ _ _ _ _).mono ?_
  rintro e _ ⟨rfl, rfl⟩
  go_wp2_with fail
  refine (lists_nil _ _ _ _ _).mono ?_
  rintro e _ ⟨rfl, rfl⟩
  go_wp2_with fail
  go_ret
  exact ⟨rfl, H2.out.2.2⟩
end Go.Proofs.YtckhhkgemkklnaaDoor
