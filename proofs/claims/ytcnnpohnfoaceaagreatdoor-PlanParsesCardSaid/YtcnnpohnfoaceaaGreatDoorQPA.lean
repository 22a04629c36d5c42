import Derived.Test.YtcnnpohnfoaceaaGreatDoorQPZ
import Derived.Test.YtcnnpohnfoaceaaGreatDoorQP7
/-
  PlanParses: the walk.
-/
namespace Go.Proofs.YtcnnpohnfoaceaaGreatDoor
open Go Go.RowKit
open Wb

theorem ps_open {B : Nat} {w : World} {A : Pln × Int × Int} {e : Ending} {w' : World} (h : PsPost B w A e w') : ∃ a, ∃ c : Nat, e = .returned (.tuple #[.agg #[.string A.1.nm, .int .i64 A.1.piv, .slice a A.1.ss.length c], .int .i64 A.2.1, .int .i64 A.2.2]) ∧ StsAt w' (.slice a A.1.ss.length c) A.1.ss ∧ Below w.heap.size w w' := by
  obtain ⟨v, e1, hr, hb⟩ := h
  obtain ⟨a, c, ev⟩ := ownsRow_shape hr
  have hs := sts_of hr
  subst ev
  exact ⟨a, c, e1, hs, hb⟩
set_option maxRecDepth 100000 in
set_option maxHeartbeats 8000000 in
theorem planParses_walk (line : ByteArray) (w : World) (hT : QTab w) (hH : Text.TabP 2 .i64 Text.Tx.hids w) :
    Calls Tryz.prog 3 #[.string line] w fun e w' => e = .returned (.bool true) ∧ Below w.heap.size w w' := by
  have HST : Hid (Calls Tryz.prog 4 #[] w fun e w'' => e = .returned (.bool true) ∧ Below w.heap.size w w'') := plstarted_any w hT
  have HPA : Hid (∀ w', Below w.heap.size w w' → Calls Tryz.prog 5 #[.string line] w' fun e w'' => ∃ a, ∃ c : Nat, e = .returned (.tuple #[.agg #[.string (parseP line).1.nm, .int .i64 (parseP line).1.piv, .slice a (parseP line).1.ss.length c], .int .i64 (parseP line).2.1, .int .i64 (parseP line).2.2]) ∧ StsAt w'' (.slice a (parseP line).1.ss.length c) (parseP line).1.ss ∧ Below w'.heap.size w' w'') := fun w' hb => (parse_any line w' (hT.kept hb).wt).mono fun _ _ h => ps_open h
  have HPB : Hid (∀ w', Below w.heap.size w w' → Calls Tryz.prog 6 #[.string line] w' fun e w'' => ∃ a, ∃ c : Nat, e = .returned (.tuple #[.agg #[.string (parseP line).1.nm, .int .i64 (parseP line).1.piv, .slice a (parseP line).1.ss.length c], .int .i64 (parseP line).2.1, .int .i64 (parseP line).2.2]) ∧ StsAt w'' (.slice a (parseP line).1.ss.length c) (parseP line).1.ss ∧ Below w'.heap.size w' w'') := fun w' hb => (rpparse_any line w' (hT.kept hb).rl (hH.kept hb)).mono fun _ _ h => ps_open h
  clear hT hH
  generalize parseP line = A at *
  obtain ⟨p, E, at_⟩ := A
  simp only at HPA HPB
  have HSM : Hid (∀ v v' w', StsAt w' v p.ss → StsAt w' v' p.ss → Calls Tryz.prog 8 #[.agg (plvl p v).toArray, .agg (plvl p v').toArray] w' fun e w'' => e = .returned (.bool true) ∧ Below w'.heap.size w' w'') := fun v v' w' h h' => rpsame_yes p v v' w' h h'
  have HNU : Hid (∀ w', Calls Tryz.prog 7 #[.int .i64 E] w' fun e w'' => e = .returned (.int .i64 E) ∧ w'' = w') := fun w' => by
    go_enter Tryz.func7, Tryz.ntmps7
    go_wp2
    go_ret
    exact ⟨rfl, rfl⟩
  go_enter Tryz.func3, Tryz.ntmps3
  go_wp2_with fail
  refine HST.out.mono ?_
  rintro e w1 ⟨rfl, b1⟩
  have H1 : Hid (Below w.heap.size w w1) := b1
  clear b1 HST
  go_wp2_with fail
  refine (HPA.out _ H1.out).mono ?_
  rintro e w2 ⟨a, c, rfl, s2, b2⟩
  have H2 : Hid (∀ o, o = .cells #[.string p.nm, .int .i64 p.piv, .slice a p.ss.length c] 25 → LB (w2.alloc o) w2.heap.size 25 (plvl p (.slice a p.ss.length c)) ∧ StsAt (w2.alloc o) (.slice a p.ss.length c) p.ss ∧ Below w.heap.size w (w2.alloc o)) := fun o ho => by subst ho; exact ⟨lb_new w2 (plvl p (.slice a p.ss.length c)) 25, s2.kept (up0 _ _), up (andThen H1.out b2) _⟩
  clear s2 b2 H1 HPA
  go_wp2_with fail
  refine (HPB.out _ (H2.out _ rfl).2.2).mono ?_
  rintro e w3 ⟨a', c', rfl, s3, b3⟩
  have H3 : Hid (∀ o, o = .cells #[.string p.nm, .int .i64 p.piv, .slice a' p.ss.length c'] 25 → LB (w3.alloc o) w2.heap.size 25 (plvl p (.slice a p.ss.length c)) ∧ LB (w3.alloc o) w3.heap.size 25 (plvl p (.slice a' p.ss.length c')) ∧ StsAt (w3.alloc o) (.slice a p.ss.length c) p.ss ∧ StsAt (w3.alloc o) (.slice a' p.ss.length c') p.ss ∧ Below w.heap.size w (w3.alloc o)) := fun o ho => by
    subst ho
    obtain ⟨q1, q2, q3⟩ := H2.out _ rfl
    exact ⟨(q1.kept b3).kept (up0 _ _), lb_new w3 (plvl p (.slice a' p.ss.length c')) 25, (q2.kept b3).kept (up0 _ _), s3.kept (up0 _ _), up (andThen q3 b3) _⟩
  clear s3 b3 H2 HPB
  go_upto_region 4 with fail
  have H4 : Hid _ := H3.out _ rfl
  clear H3
  generalize w3.alloc (.cells #[.string p.nm, .int .i64 p.piv, .slice a' p.ss.length c'] 25) = W at *
  generalize w2.heap.size = g1 at *
  generalize w3.heap.size = g2 at *
  obtain ⟨D, hD⟩ : ∃ D, D = plvl p (.slice a p.ss.length c) := ⟨_, rfl⟩
  obtain ⟨D2, hD2⟩ : ∃ D2, D2 = plvl p (.slice a' p.ss.length c') := ⟨_, rfl⟩
  have HLI : Hid ((Tryz.prog.info? 25).map (·.size) = some D.length) := by show _ = _; rw [hD]; exact infoPlan
  have HLI2 : Hid ((Tryz.prog.info? 25).map (·.size) = some D2.length) := by show _ = _; rw [hD2]; exact infoPlan
  have HS2 : Hid (Calls Tryz.prog 8 #[.agg D.toArray, .agg D2.toArray] W fun e w'' => e = .returned (.bool true) ∧ Below W.heap.size W w'') := by
    rw [hD, hD2]
    exact HSM.out _ _ W H4.out.2.2.1 H4.out.2.2.2.1
  have HR : Hid (W.rangeAt g1 0 D ∧ W.rangeAt g2 0 D2 ∧ Below w.heap.size w W) := by
    rw [hD, hD2]
    exact ⟨H4.out.1.range, H4.out.2.1.range, H4.out.2.2.2.2⟩
  clear hD hD2 H4 HSM
  go_wp2_with (first | (go_at_call 7; refine (HNU.out _).mono ?_; rintro e w' ⟨rfl, rfl⟩) | (refine wpList_load_midG rfl 25 _ rfl g1 0 rfl D _ HR.out.1 Tryz.underlying25 rfl HLI.out ?_) | (refine wpList_load_midG rfl 25 _ rfl g2 0 rfl D2 _ HR.out.2.1 Tryz.underlying25 rfl HLI2.out ?_) | fail)
  refine HS2.out.mono ?_
  rintro e w6 ⟨rfl, b6⟩
  have H6 : Hid (Below w.heap.size w w6) := andThen HR.out.2.2 b6
  clear b6 HS2
  go_wp2_with fail
  go_ret
  exact ⟨rfl, H6.out⟩
end Go.Proofs.YtcnnpohnfoaceaaGreatDoor
