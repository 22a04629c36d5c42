import Derived.Test.YtlippoipjipcbaaGreatDoorQPM
import Derived.Test.YtlippoipjipcbaaGreatDoorQP8
/-
  PlanPrints: the walk.
-/
namespace Go.Proofs.YtlippoipjipcbaaGreatDoor
open Go Go.RowKit
open Wb

theorem printA_bnd (p : Pln) : 0 ≤ (printA p).2 ∧ (printA p).2 ≤ 153 := by
  have := fErr_bnd p
  unfold printA
  split
  · simp
  · exact this
set_option maxRecDepth 100000 in
set_option maxHeartbeats 16000000 in
theorem planPrints_walk (p : Pln) (v : Value) (w : World) (h : StsAt w v p.ss) (hT : QTab w) (hF : PFt p) (hn : p.ss.length ≤ 2000000) :
    Calls Tryz.prog 6 #[plv p v] w fun e w' => e = .returned (.bool true) ∧ Below w.heap.size w w' := by
  have hE := printA_bnd p
  have HST : Hid (∀ w', Below w.heap.size w w' → Calls Tryz.prog 7 #[] w' fun e w'' => e = .returned (.bool true) ∧ Below w'.heap.size w' w'') := fun w' hb => plstarted_any w' (hT.kept hb)
  have HCL : Hid (∀ w', Below w.heap.size w w' → Calls Tryz.prog 13 #[plv p v] w' fun e w'' => ∃ a c, e = .returned (.agg #[.string p.nm, .int .i64 p.piv, .slice a p.ss.length c]) ∧ StsAt w'' (.slice a p.ss.length c) p.ss ∧ Below w'.heap.size w' w'') := fun w' hb => (plclone_any p v w' (h.kept hb) hn).mono fun e w'' ⟨v', e1, hr, hb'⟩ => by
    obtain ⟨a, c, ev⟩ := ownsRow_shape hr
    have hs := sts_of hr
    subst ev
    exact ⟨a, c, e1, hs, hb'⟩
  have HCK : Hid (∀ w', Below w.heap.size w w' → Calls Tryz.prog 8 #[plv p v] w' fun e w'' => e = .returned (.tuple #[.string (printA p).1, .int .i64 (printA p).2]) ∧ Below w'.heap.size w' w'') := fun w' hb => pprint_any p v w' (h.kept hb) (hT.kept hb).wt.lets (hT.kept hb).wt.nt hF.fit
  have HRC : Hid (∀ w', Below w.heap.size w w' → Calls Tryz.prog 16 #[plv p v] w' fun e w'' => e = .returned (.tuple #[.string (printA p).1, .int .i64 (printA p).2]) ∧ Below w'.heap.size w' w'') := fun w' hb => rpprint_any p v w' (h.kept hb) (hT.kept hb).rl hF
  have HSM : Hid (∀ v2 w', StsAt w' v p.ss → StsAt w' v2 p.ss → Calls Tryz.prog 15 #[plv p v, plv p v2] w' fun e w'' => e = .returned (.bool true) ∧ Below w'.heap.size w' w'') := fun v2 w' h1 h2 => rpsame_yes p v v2 w' h1 h2
  have HNU : Hid (∀ w', Calls Tryz.prog 9 #[.int .i64 (printA p).2] w' fun e w'' => e = .returned (.int .i64 (printA p).2) ∧ w'' = w') := fun w' => plnum_any _ w' (by omega) (by omega)
  have HLI : Hid ((Tryz.prog.info? 24).map (·.size) = some (plvl p v).length) := infoPlan
  have HX : Hid (LB (w.alloc (.cells (plvl p v).toArray 24)) w.heap.size 24 (plvl p v) ∧ StsAt (w.alloc (.cells (plvl p v).toArray 24)) v p.ss ∧ Below w.heap.size w (w.alloc (.cells (plvl p v).toArray 24))) := ⟨lb_new w _ _, h.kept (up0 _ _), up0 _ _⟩
  have hpl : ∀ v, plv p v = .agg (plvl p v).toArray := fun _ => rfl
  simp only [hpl] at HCK HRC HSM HCL ⊢
  have hq : ((printA p).2 == (printA p).2) = true := by simp
  have hq2 : ((printA p).1.toList == (printA p).1.toList) = true := by simp
  clear hpl hT hF h hE
  generalize printA p = X at *
  obtain ⟨X1, E⟩ := X
  simp only at HCK HRC HNU hq hq2
  obtain ⟨D, hD⟩ : ∃ D, plvl p v = D := ⟨_, rfl⟩
  rw [hD] at HCK HRC HSM HCL HX HLI ⊢
  clear hD
  go_enter Tryz.func6, Tryz.ntmps6
  go_wp2_with fail
  refine (HST.out _ HX.out.2.2).mono ?_
  rintro e w1 ⟨rfl, b1⟩
  have H1 : Hid (LB w1 w.heap.size 24 D ∧ StsAt w1 v p.ss ∧ Below w.heap.size w w1) := ⟨HX.out.1.kept b1, HX.out.2.1.kept b1, andThen HX.out.2.2 b1⟩
  clear b1 HX HST
  go_wp2_with (first | (refine wpList_load_mid rfl 24 _ rfl w.heap.size 0 rfl D _ H1.out.1.range Tryz.underlying24 rfl HLI.out ?_) | fail)
  refine (HCL.out _ H1.out.2.2).mono ?_
  rintro e w2 ⟨a2, c2, rfl, s2, b2⟩
  have H2 : Hid (LB w2 w.heap.size 24 D ∧ StsAt w2 v p.ss ∧ Below w.heap.size w w2 ∧ StsAt w2 (.slice a2 p.ss.length c2) p.ss) := ⟨H1.out.1.kept b2, H1.out.2.1.kept b2, andThen H1.out.2.2 b2, s2⟩
  clear b2 s2 H1 HCL
  have H3 : Hid (∀ o, o = .cells (plvl p (.slice a2 p.ss.length c2)).toArray 24 → (LB (w2.alloc o) w.heap.size 24 D ∧ LB (w2.alloc o) w2.heap.size 24 (plvl p (.slice a2 p.ss.length c2)) ∧ StsAt (w2.alloc o) v p.ss ∧ StsAt (w2.alloc o) (.slice a2 p.ss.length c2) p.ss ∧ Below w.heap.size w (w2.alloc o))) := fun o ho => by subst ho; exact ⟨H2.out.1.kept (up0 _ _), lb_new w2 _ _, H2.out.2.1.kept (up0 _ _), H2.out.2.2.2.kept (up0 _ _), up H2.out.2.2.1 _⟩
  clear H2
  unfold plvl at H3
  go_wp2_with (first | (refine wpList_load_mid rfl 24 _ rfl w.heap.size 0 rfl D _ (H3.out _ rfl).1.range Tryz.underlying24 rfl HLI.out ?_) | fail)
  refine (HCK.out _ (H3.out _ rfl).2.2.2.2).mono ?_
  rintro e w4 ⟨rfl, b4⟩
  obtain ⟨D2, hD2⟩ : ∃ D2, D2 = plvl p (.slice a2 p.ss.length c2) := ⟨_, rfl⟩
  obtain ⟨v2, hv2⟩ : ∃ v2, v2 = Value.slice a2 p.ss.length c2 := ⟨_, rfl⟩
  have H4 : Hid (LB w4 w.heap.size 24 D ∧ LB w4 w2.heap.size 24 D2 ∧ StsAt w4 v p.ss ∧ StsAt w4 v2 p.ss ∧ Below w.heap.size w w4) := by
    obtain ⟨q1, q2, q3, q4, q5⟩ := H3.out _ rfl
    rw [hD2, hv2]
    exact ⟨q1.kept b4, q2.kept b4, q3.kept b4, q4.kept b4, andThen q5 b4⟩
  have HSM2 : Hid (∀ w', StsAt w' v p.ss → StsAt w' v2 p.ss → Calls Tryz.prog 15 #[.agg D.toArray, .agg D2.toArray] w' fun e w'' => e = .returned (.bool true) ∧ Below w'.heap.size w' w'') := by
    rw [hD2, hv2]
    exact fun w' h1 h2 => HSM.out _ w' h1 h2
  have HLI3 : Hid ((Tryz.prog.info? 24).map (·.size) = some D2.length) := by show _ = _; rw [hD2]; exact infoPlan
  clear b4 H3 HCK HSM hD2 hv2
  generalize w2.heap.size = q at *
  have K : Hid (∀ W W' : World, (LB W w.heap.size 24 D ∧ LB W q 24 D2 ∧ StsAt W v p.ss ∧ StsAt W v2 p.ss ∧ Below w.heap.size w W) → Below W.heap.size W W' → (LB W' w.heap.size 24 D ∧ LB W' q 24 D2 ∧ StsAt W' v p.ss ∧ StsAt W' v2 p.ss ∧ Below w.heap.size w W')) := fun W W' h hb => ⟨h.1.kept hb, h.2.1.kept hb, h.2.2.1.kept hb, h.2.2.2.1.kept hb, andThen h.2.2.2.2 hb⟩
  go_wp2_with (first | (refine wpList_load_mid rfl 24 _ rfl w.heap.size 0 rfl D _ H4.out.1.range Tryz.underlying24 rfl HLI.out ?_) | fail)
  refine (HRC.out _ H4.out.2.2.2.2).mono ?_
  rintro e w5 ⟨rfl, b5⟩
  have H5 : Hid (LB w5 w.heap.size 24 D ∧ LB w5 q 24 D2 ∧ StsAt w5 v p.ss ∧ StsAt w5 v2 p.ss ∧ Below w.heap.size w w5) := K.out _ _ H4.out b5
  clear b5 H4 HRC
  go_wp2_with (first | (go_at_call 9; refine (HNU.out _).mono ?_; rintro e w' ⟨rfl, rfl⟩) | (refine wpList_load_midG rfl 24 _ rfl w.heap.size 0 rfl D _ H5.out.1.range Tryz.underlying24 rfl HLI.out ?_) | (refine wpList_load_midG rfl 24 _ rfl q 0 rfl D2 _ H5.out.2.1.range Tryz.underlying24 rfl HLI3.out ?_) | fail)
  refine (HSM2.out _ H5.out.2.2.1 H5.out.2.2.2.1).mono ?_
  rintro e w6 ⟨rfl, b6⟩
  have H6 : Hid (Below w.heap.size w w6) := andThen H5.out.2.2.2.2 b6
  clear b6 H5 HSM2
  go_wp2_with fail
  go_ret
  exact ⟨rfl, H6.out⟩
end Go.Proofs.YtlippoipjipcbaaGreatDoor
