import Derived.Test.YtlippoipjipcbaaGreatDoorRows
import Derived.Deep.Slices
import Derived.Test.YtlippoipjipcbaaGreatDoorQP7
/-
  PlanChecks: the walk.
-/
namespace Go.Proofs.YtlippoipjipcbaaGreatDoor
open Go Go.RowKit
open Wb

theorem fErr_bnd (p : Pln) : 0 ≤ (fErr p).1 ∧ (fErr p).1 ≤ 153 := by
  have hs : ∀ i s, 0 ≤ stepErr p i s ∧ stepErr p i s ≤ 153 := fun i s => by
    unfold stepErr
    repeat' split
    all_goals omega
  have hf : ∀ (l : List Stp) (i : Nat), 0 ≤ (firstErr p i l).1 ∧ (firstErr p i l).1 ≤ 153 := by
    intro l
    induction l with
    | nil => intro i; simp [firstErr]
    | cons s r ih =>
      intro i
      rw [firstErr]
      split
      · exact hs i s
      · exact ih (i + 1)
  unfold fErr
  repeat' split
  all_goals first | exact hf _ _ | exact ⟨by decide, by decide⟩
set_option maxRecDepth 100000 in
set_option maxHeartbeats 16000000 in
theorem planChecks_walk (p : Pln) (v : Value) (w : World) (h : StsAt w v p.ss) (hT : QTab w) (hF : PFt p) (hn : p.ss.length ≤ 2000000) :
    Calls Tryz.prog 5 #[plv p v] w fun e w' => e = .returned (.bool true) ∧ Below w.heap.size w w' := by
  have hE := fErr_bnd p
  have HST : Hid (∀ w', Below w.heap.size w w' → Calls Tryz.prog 7 #[] w' fun e w'' => e = .returned (.bool true) ∧ Below w'.heap.size w' w'') := fun w' hb => plstarted_any w' (hT.kept hb)
  have HCL : Hid (∀ w', Below w.heap.size w w' → Calls Tryz.prog 13 #[plv p v] w' fun e w'' => ∃ a c, e = .returned (.agg #[.string p.nm, .int .i64 p.piv, .slice a p.ss.length c]) ∧ StsAt w'' (.slice a p.ss.length c) p.ss ∧ Below w'.heap.size w' w'') := fun w' hb => (plclone_any p v w' (h.kept hb) hn).mono fun e w'' ⟨v', e1, hr, hb'⟩ => by
    obtain ⟨a, c, ev⟩ := ownsRow_shape hr
    have hs := sts_of hr
    subst ev
    exact ⟨a, c, e1, hs, hb'⟩
  have HCK : Hid (∀ w', Below w.heap.size w w' → Calls Tryz.prog 10 #[plv p v] w' fun e w'' => e = .returned (.int .i64 (fErr p).1) ∧ Below w'.heap.size w' w'') := fun w' hb => pcheck_any p v w' (h.kept hb) (hT.kept hb).wt.lets hF.fit
  have HRC : Hid (∀ w', Below w.heap.size w w' → Calls Tryz.prog 14 #[plv p v] w' fun e w'' => e = .returned (.int .i64 (fErr p).1) ∧ Below w'.heap.size w' w'') := fun w' hb => rpcheck_any p v w' (h.kept hb) (hT.kept hb).rl hF
  have HSM : Hid (∀ v2 w', StsAt w' v p.ss → StsAt w' v2 p.ss → Calls Tryz.prog 15 #[plv p v, plv p v2] w' fun e w'' => e = .returned (.bool true) ∧ Below w'.heap.size w' w'') := fun v2 w' h1 h2 => rpsame_yes p v v2 w' h1 h2
  have HNU : Hid (∀ w', Calls Tryz.prog 9 #[.int .i64 (fErr p).1] w' fun e w'' => e = .returned (.int .i64 (fErr p).1) ∧ w'' = w') := fun w' => plnum_any _ w' (by omega) (by omega)
  have HLI : Hid ((Tryz.prog.info? 24).map (·.size) = some (plvl p v).length) := infoPlan
  have HLI2 : Hid (∀ v2, (Tryz.prog.info? 24).map (·.size) = some (plvl p v2).length) := fun _ => infoPlan
  have HX : Hid (LB (w.alloc (.cells (plvl p v).toArray 24)) w.heap.size 24 (plvl p v) ∧ StsAt (w.alloc (.cells (plvl p v).toArray 24)) v p.ss ∧ Below w.heap.size w (w.alloc (.cells (plvl p v).toArray 24))) := ⟨lb_new w _ _, h.kept (up0 _ _), up0 _ _⟩
  have hpl : ∀ v, plv p v = .agg (plvl p v).toArray := fun _ => rfl
  simp only [hpl] at HCK HRC HSM HCL ⊢
  have hq : ((fErr p).1 == (fErr p).1) = true := by simp
  clear hpl hT hF h
  generalize (fErr p).1 = E at *
  obtain ⟨D, hD⟩ : ∃ D, plvl p v = D := ⟨_, rfl⟩
  rw [hD] at HCK HRC HSM HCL HX HLI ⊢
  clear hD
  go_enter Tryz.func5, Tryz.ntmps5
  go_wp2_with fail
  refine (HST.out _ HX.out.2.2).mono ?_
  rintro e w1 ⟨rfl, b1⟩
  have H1 : Hid (LB w1 w.heap.size 24 D ∧ StsAt w1 v p.ss ∧ Below w.heap.size w w1) := ⟨HX.out.1.kept b1, HX.out.2.1.kept b1, andThen HX.out.2.2 b1⟩
  clear b1 HX HST
  go_wp2_with (first | (refine wpList_load_mid rfl 24 _ rfl w.heap.size 0 rfl D _ H1.out.1.range Tryz.underlying24 rfl HLI.out ?_) | fail)
  refine (HCL.out _ H1.out.2.2).mono ?_
  rintro e w2 ⟨a2, c2, rfl, s2, b2⟩
  have H2 : Hid (LB w2 w.heap.size 24 D ∧ StsAt w2 v p.ss ∧ Below w.heap.size w w2 ∧ StsAt w2 (.slice a2 p.ss.length c2) p.ss) := ⟨H1.out.1.kept b2, H1.out.2.1.kept b2, andThen H1.out.2.2 b2, s2⟩
  clear b2 s2 H1 HCL
  have H3 : Hid (∀ o, o = .cells (plvl p (.slice a2 p.ss.length c2)).toArray 24 → (LB (w2.alloc o) w.heap.size 24 D ∧ LB (w2.alloc o) w2.heap.size 24 (plvl p (.slice a2 p.ss.length c2)) ∧ StsAt (w2.alloc o) v p.ss ∧ StsAt (w2.alloc o) (.slice a2 p.ss.length c2) p.ss ∧ Below w.heap.size w (w2.alloc o))) := fun o ho => by subst ho; exact ⟨H2.out.1.kept (up0 _ _), lb_new w2 _ _, H2.out.2.1.kept (up0 _ _), H2.out.2.2.2.kept (up0 _ _), up H2.out.2.2.1 _⟩
  clear H2
  unfold plvl at H3
  go_wp2_with (first | (refine wpList_load_mid rfl 24 _ rfl w.heap.size 0 rfl D _ (H3.out _ rfl).1.range Tryz.underlying24 rfl HLI.out ?_) | fail)
  refine (HCK.out _ (H3.out _ rfl).2.2.2.2).mono ?_
  rintro e w4 ⟨rfl, b4⟩
  obtain ⟨D2, hD2⟩ : ∃ D2, D2 = plvl p (.slice a2 p.ss.length c2) := ⟨_, rfl⟩
  obtain ⟨v2, hv2⟩ : ∃ v2, v2 = Value.slice a2 p.ss.length c2 := ⟨_, rfl⟩
  have H4 : Hid (LB w4 w.heap.size 24 D ∧ LB w4 w2.heap.size 24 D2 ∧ StsAt w4 v p.ss ∧ StsAt w4 v2 p.ss ∧ Below w.heap.size w w4) := by
    obtain ⟨q1, q2, q3, q4, q5⟩ := H3.out _ rfl
    rw [hD2, hv2]
    exact ⟨q1.kept b4, q2.kept b4, q3.kept b4, q4.kept b4, andThen q5 b4⟩
  have HSM2 : Hid (∀ w', StsAt w' v p.ss → StsAt w' v2 p.ss → Calls Tryz.prog 15 #[.agg D.toArray, .agg D2.toArray] w' fun e w'' => e = .returned (.bool true) ∧ Below w'.heap.size w' w'') := by
    rw [hD2, hv2]
    exact fun w' h1 h2 => HSM.out _ w' h1 h2
  have HLI3 : Hid ((Tryz.prog.info? 24).map (·.size) = some D2.length) := by show _ = _; rw [hD2]; exact infoPlan
  clear b4 H3 HCK HSM HLI2 hD2 hv2
  generalize w2.heap.size = q at *
  have K : Hid (∀ W W' : World, (LB W w.heap.size 24 D ∧ LB W q 24 D2 ∧ StsAt W v p.ss ∧ StsAt W v2 p.ss ∧ Below w.heap.size w W) → Below W.heap.size W W' → (LB W' w.heap.size 24 D ∧ LB W' q 24 D2 ∧ StsAt W' v p.ss ∧ StsAt W' v2 p.ss ∧ Below w.heap.size w W')) := fun W W' h hb => ⟨h.1.kept hb, h.2.1.kept hb, h.2.2.1.kept hb, h.2.2.2.1.kept hb, andThen h.2.2.2.2 hb⟩
  go_wp2_with fail
  have H5 : Hid (LB w4.drew w.heap.size 24 D ∧ LB w4.drew q 24 D2 ∧ StsAt w4.drew v p.ss ∧ StsAt w4.drew v2 p.ss ∧ Below w.heap.size w w4.drew) := K.out _ _ H4.out (Below.drew (Below.refl _ _))
  clear H4
  refine wp_region_held_drew (S := fun w' : World => w'.rangeAt w.heap.size 0 D ∧ w'.rangeAt q 0 D2) (by kernel_rfl) ⟨H5.out.1.range, H5.out.2.1.range⟩ (fun hH => ?_)
  generalize w4.drew = w5 at *
  refine zqk 0 rfl hH ?_
  simp only [Act.put, List.setIfInBounds_toArray, List.set_cons_zero, List.set_cons_succ, List.getElem_toArray, List.getElem_cons_zero]
  refine zqk 1 rfl hH ?_
  simp only [Act.put, List.setIfInBounds_toArray, List.set_cons_zero, List.set_cons_succ, List.getElem_toArray, List.getElem_cons_zero, List.getElem_cons_succ]
  refine zqk 2 rfl hH ?_
  simp only [Act.put, List.setIfInBounds_toArray, List.set_cons_zero, List.set_cons_succ, List.getElem_toArray, List.getElem_cons_zero, List.getElem_cons_succ]
  refine zql 4 rfl (yieldsIf_load_mid (by rfl) _ _ rfl _ _ rfl D _ (fun w' hSw => hSw.1) Tryz.underlying24 rfl HLI.out) hH ?_
  simp only [Act.put, List.setIfInBounds_toArray, List.set_cons_zero, List.set_cons_succ, List.getElem_toArray, List.getElem_cons_zero, List.getElem_cons_succ]
  refine zqr 3 rfl (fun K2 hK => ?_)
  go_simp
  refine (HNU.out _).mono ?_
  rintro e w' ⟨rfl, rfl⟩
  refine hK.out _ _ ⟨H5.out.1.range, H5.out.2.1.range⟩ (fun hH2 => ?_)
  clear hK K2 hH
  refine zqr 5 rfl (fun K2 hK => ?_)
  go_simp
  refine (HRC.out _ H5.out.2.2.2.2).mono ?_
  rintro e w6 ⟨rfl, b6⟩
  have H6 : Hid (LB w6 w.heap.size 24 D ∧ LB w6 q 24 D2 ∧ StsAt w6 v p.ss ∧ StsAt w6 v2 p.ss ∧ Below w.heap.size w w6) := K.out _ _ H5.out b6
  refine hK.out _ _ ⟨H6.out.1.range, H6.out.2.1.range⟩ (fun hH => ?_)
  clear hK K2 hH2 b6 H5
  refine zqk 6 rfl hH ?_
  simp only [Act.put, List.setIfInBounds_toArray, List.set_cons_zero, List.set_cons_succ, List.getElem_toArray, List.getElem_cons_zero, List.getElem_cons_succ]
  refine zqk 7 rfl hH ?_
  simp only [Act.put, List.setIfInBounds_toArray, List.set_cons_zero, List.set_cons_succ, List.getElem_toArray, List.getElem_cons_zero, List.getElem_cons_succ]
  refine zqk 8 rfl hH ?_
  simp only [Act.put, List.setIfInBounds_toArray, List.set_cons_zero, List.set_cons_succ, List.getElem_toArray, List.getElem_cons_zero, List.getElem_cons_succ]
  refine zql 9 rfl (yieldsIf_load_mid (by rfl) _ _ rfl _ _ rfl D _ (fun w' hSw => hSw.1) Tryz.underlying24 rfl HLI.out) hH ?_
  simp only [Act.put, List.setIfInBounds_toArray, List.set_cons_zero, List.set_cons_succ, List.getElem_toArray, List.getElem_cons_zero, List.getElem_cons_succ]
  refine zql 10 rfl (yieldsIf_load_mid (by rfl) _ _ rfl _ _ rfl D2 _ (fun w' hSw => hSw.2) Tryz.underlying24 rfl HLI3.out) hH ?_
  simp only [Act.put, List.setIfInBounds_toArray, List.set_cons_zero, List.set_cons_succ, List.getElem_toArray, List.getElem_cons_zero, List.getElem_cons_succ]
  refine zqr 11 rfl (fun K2 hK => ?_)
  go_simp
  refine (HSM2.out _ H6.out.2.2.1 H6.out.2.2.2.1).mono ?_
  rintro e w7 ⟨rfl, b7⟩
  have H7 : Hid (LB w7 w.heap.size 24 D ∧ LB w7 q 24 D2 ∧ StsAt w7 v p.ss ∧ StsAt w7 v2 p.ss ∧ Below w.heap.size w w7) := K.out _ _ H6.out b7
  refine hK.out _ _ ⟨H7.out.1.range, H7.out.2.1.range⟩ (fun hH2 => ?_)
  clear hK K2 hH b7 H6
  refine zqk 12 rfl hH2 ?_
  simp only [Act.put, List.setIfInBounds_toArray, List.set_cons_zero, List.set_cons_succ, List.getElem_toArray, List.getElem_cons_zero, List.getElem_cons_succ]
  refine zqk 13 rfl hH2 ?_
  simp only [Act.put, List.setIfInBounds_toArray, List.set_cons_zero, List.set_cons_succ, List.getElem_toArray, List.getElem_cons_zero, List.getElem_cons_succ]
  refine wpAnyH_done (by kernel_rfl) ?_ _
  go_wp2_with fail
  go_ret
  exact ⟨rfl, H7.out.2.2.2.2⟩
end Go.Proofs.YtlippoipjipcbaaGreatDoor

/-
  The plan laws: a plan among the arguments, what is read being bounded.
-/
namespace Go.Proofs.YtlippoipjipcbaaGreatDoor
open Go Go.RowKit Go.ChangeShapes Go.WideShapes Go.ChangeAt
open Wb

theorem bulk_memr {H : Type} : ∀ {l : List (DataW H)} {d : DataW H}, d ∈ l → Rows.uptoBulk d ≤ Rows.uptoBulkAll l
  | x :: r, d, hd => by
    simp only [Rows.uptoBulkAll]
    rcases List.mem_cons.1 hd with rfl | h
    · omega
    · have := bulk_memr h
      omega
theorem bulk_pos {H : Type} (d : DataW H) : 1 ≤ Rows.uptoBulk d := by
  cases d with
  | lit x => cases x <;> simp [Rows.uptoBulk]
  | _ => simp [Rows.uptoBulk]
theorem bulk_count {H : Type} : ∀ l : List (DataW H), l.length ≤ Rows.uptoBulkAll l
  | [] => Nat.zero_le _
  | x :: r => by
    have := bulk_count r
    have := bulk_pos x
    simp only [Rows.uptoBulkAll, List.length_cons]
    omega
theorem listedQ {α : Type} {p : Nat → α → Prop} : ∀ n, (∀ k, k < n → ∃ a, p k a) → ∃ l : List α, l.length = n ∧ ∀ k a, l[k]? = some a → p k a
  | 0, _ => ⟨[], rfl, fun k a h => by simp at h⟩
  | n + 1, h => by
    obtain ⟨l, hl, hp⟩ := listedQ n (fun k hk => h k (by omega))
    obtain ⟨a, ha⟩ := h n (by omega)
    refine ⟨l ++ [a], by simp [hl], fun k b hb => ?_⟩
    by_cases hk : k < n
    · rw [List.getElem?_append_left (by omega)] at hb
      exact hp k b hb
    · rw [List.getElem?_append_right (by omega)] at hb
      obtain rfl : k = n := by
        have := (List.getElem?_eq_some_iff.1 hb).1
        simp at this
        omega
      rw [hl] at hb
      simp at hb
      exact hb ▸ ha
theorem cellsQSTEP : Tryz.prog.cellsOf 55 = 3 := by kernel_rfl
theorem cellsQPLAN : Tryz.prog.cellsOf 24 = 3 := by kernel_rfl
theorem cellsQSTEPS : Tryz.prog.cellsOf 22 = 1 := by kernel_rfl
theorem cellsQI : Tryz.prog.cellsOf 3 = 1 := by kernel_rfl
theorem cellsQSTR : Tryz.prog.cellsOf 9 = 1 := by kernel_rfl
theorem str_bulk {H : Type} (z : ByteArray) (n : Nat) (h : Rows.uptoBulk (H := H) (.lit (.string z.data.toList)) ≤ n) : z.size ≤ n := by
  simp only [Rows.uptoBulk, Array.length_toList] at h
  show z.data.size ≤ n
  omega
set_option maxRecDepth 100000 in
theorem open_stpu {H : Type} {enc : TypeId × Value → H} {W : World} {fuel : Nat} {cs : List Value} {d : DataW H} {p : List MemPlace} (hf : DataW.trod enc Tryz.prog W 0 (fun _ => true) true fuel 55 cs = some (d, p)) (hlen : cs.length = 3) (hw : Rows.uptoBulk d ≤ 1048576) :
    ∃ s : Stp, cs = stl s ∧ s.d.size ≤ 2000000 ∧ s.u.size ≤ 2000000 := by
  obtain ⟨xs, k', _, hxy, _, hxl, hfs⟩ := DataW.trod_struct Tryz.underlying55 hf
  match xs, hxl, cs, hlen with
  | [y0, y1, y2], _, [v0, v1, v2], _ =>
    have g0 := hfs 0 _ rfl
    have g1 := hfs 1 _ rfl
    have g2 := hfs 2 _ rfl
    simp [cellsQI, cellsQSTR] at g0 g1 g2
    simp only [Prod.mk.injEq] at hxy
    rw [hxy.1] at hw
    simp only [Rows.uptoBulk, Rows.uptoBulkAll, List.map_cons, List.map_nil] at hw
    obtain ⟨z0, e0, q0, _⟩ := DataW.trod_string Tryz.underlying9 g0
    obtain ⟨z1, e1, q1, _⟩ := DataW.trod_string Tryz.underlying9 g1
    obtain ⟨z2, e2, _, _⟩ := DataW.trod_int Tryz.underlying3 g2
    have w0 : z0.size ≤ 1048576 := str_bulk (H := H) z0 _ (by have e : y0.1 = .lit (.string z0.data.toList) := congrArg Prod.fst q0; rw [← e]; omega)
    have w1 : z1.size ≤ 1048576 := str_bulk (H := H) z1 _ (by have e : y1.1 = .lit (.string z1.data.toList) := congrArg Prod.fst q1; rw [← e]; omega)
    simp only [List.cons.injEq, and_true] at e0 e1 e2
    exact ⟨⟨z0, z1, z2⟩, by simp only [e0, e1, e2, stl], by show z0.size ≤ _; omega, by show z1.size ≤ _; omega⟩
set_option maxRecDepth 100000 in
theorem open_stepsu {H : Type} {enc : TypeId × Value → H} {W : World} {fuel : Nat} {v : Value} {d : DataW H} {p : List MemPlace} (hf : DataW.trod enc Tryz.prog W 0 (fun _ => true) true fuel 22 [v] = some (d, p)) (hw : Rows.uptoBulk d ≤ 1048576) :
    ∃ ss, StsAt W v ss ∧ ss.length ≤ 2000000 ∧ ∀ s ∈ ss, s.d.size ≤ 2000000 ∧ s.u.size ≤ 2000000 := by
  rcases Deep.open_slice Tryz.underlying22 hf with ⟨hcs, _⟩ | ⟨a, len0, cap0, m, n, D, Pl, hcs, _, hl, hm, hmm, hx, hel⟩
  · simp at hcs
    subst hcs
    exact ⟨[], ⟨none, 0, rfl, by simp, by simp [maxLen], fun k s hk => by simp at hk⟩, Nat.zero_le _, fun s hs => nomatch hs⟩
  · simp at hcs
    subst hcs
    simp only [Prod.mk.injEq] at hx
    rw [hx.1] at hw
    simp only [Rows.uptoBulk] at hw
    have hcnt : len0 ≤ 1048576 := by
      have := bulk_count ((List.range len0).map D)
      simp only [List.length_map, List.length_range] at this
      omega
    have each : ∀ k, k < len0 → ∃ s : Stp, ∃ b off, a = ⟨b, off, none⟩ ∧ W.rangeAt b (off + k * 3) (stl s) ∧ s.d.size ≤ 2000000 ∧ s.u.size ≤ 2000000 := fun k hk => by
      have hkm : k < m := by rw [hmm]; simp; omega
      have hspot : a.spot = none := by
        obtain ⟨cs0, h10, _⟩ := hel 0 (by omega)
        rw [cellsQSTEP] at h10
        obtain ⟨_, hl0, hc0⟩ := World.cells?_some h10
        have r0 := hc0 0 (by omega)
        rw [List.getElem?_eq_getElem (show 0 < cs0.length by omega)] at r0
        simpa [Addr.add] using World.cell?_spot r0
      obtain ⟨cs', h1, h2⟩ := hel k hkm
      have hwk : Rows.uptoBulk (D k) ≤ 1048576 := by
        have := bulk_memr (l := (List.range len0).map D) (d := D k) (List.mem_map.2 ⟨k, List.mem_range.2 hk, rfl⟩)
        omega
      rw [cellsQSTEP] at h1
      obtain ⟨_, hlen, hcell⟩ := World.cells?_some h1
      obtain ⟨s, e, hd, hu⟩ := open_stpu h2 hlen hwk
      obtain ⟨b, off, spot⟩ := a
      obtain rfl : spot = none := hspot
      refine ⟨s, b, off, rfl, fun j u hu => ?_, hd, hu⟩
      rw [← e] at hu
      have hj : j < 3 := by have := (List.getElem?_eq_some_iff.1 hu).1; omega
      have := hcell j hj
      rw [Deep.add_add, Go.WideShapes.add_plain, ← Nat.add_assoc, hu] at this
      exact this
    obtain ⟨ss, hrl, hrs⟩ := listedQ len0 each
    refine ⟨ss, ⟨some a, cap0, by rw [hrl], by omega, by omega, fun k s hs => ?_⟩, by omega, fun s hs => ?_⟩
    · obtain ⟨b, off, e, h1, _⟩ := hrs k s hs
      exact ⟨b, off, by rw [e], h1⟩
    · obtain ⟨k, hk, rfl⟩ := List.getElem_of_mem hs
      obtain ⟨_, _, _, _, h3, h4⟩ := hrs k _ (List.getElem?_eq_getElem hk)
      exact ⟨h3, h4⟩
set_option maxRecDepth 100000 in
/-- a plan among the arguments -/
theorem open_planu {H : Type} {enc : TypeId × Value → H} {W : World} {base : Nat} {v : Value} {d : DataW H} {p : List MemPlace} (hv : Value.okWide Tryz.prog W .any base 24 v)
    (h : DataW.Trod enc Tryz.prog W 0 (fun _ => true) true 24 v d p) (hw : Rows.uptoBulk d ≤ 1048576) : ∃ q u, v = plv q u ∧ StsAt W u q.ss ∧ PFt q ∧ q.ss.length ≤ 2000000 := by
  obtain ⟨cs, rfl, hcs⟩ := okWide_struct Tryz.underlying24 hv
  rw [cellsQPLAN] at hcs
  obtain ⟨fuel, hf⟩ := h
  obtain ⟨xs, k', _, hxy, _, hxl, hfs⟩ := DataW.trod_struct Tryz.underlying24 hf
  have hlen : cs.toList.length = 3 := by simpa using hcs
  have hcells : Value.cells (.agg cs) = cs := rfl
  rw [hcells] at hfs
  obtain ⟨vs⟩ := cs
  simp only at hfs hlen
  match xs, hxl, vs, hlen with
  | [y0, y1, y2], _, [v0, v1, v2], _ =>
    have g0 := hfs 0 _ rfl
    have g1 := hfs 1 _ rfl
    have g2 := hfs 2 _ rfl
    simp [cellsQI, cellsQSTR, cellsQSTEPS] at g0 g1 g2
    simp only [Prod.mk.injEq] at hxy
    rw [hxy.1] at hw
    simp only [Rows.uptoBulk, Rows.uptoBulkAll, List.map_cons, List.map_nil] at hw
    obtain ⟨z0, e0, q0, _⟩ := DataW.trod_string Tryz.underlying9 g0
    obtain ⟨z1, e1, _, _⟩ := DataW.trod_int Tryz.underlying3 g1
    have w0 : z0.size ≤ 1048576 := str_bulk (H := H) z0 _ (by have e : y0.1 = .lit (.string z0.data.toList) := congrArg Prod.fst q0; rw [← e]; omega)
    obtain ⟨ss, hs1, hs3, hs2⟩ := open_stepsu g2 (by omega)
    simp only [List.cons.injEq, and_true] at e0 e1
    subst e0 e1
    exact ⟨⟨z0, z1, ss⟩, v2, rfl, hs1, ⟨by show z0.size ≤ _; omega, fun s hs => (hs2 s hs).1, fun s hs => (hs2 s hs).2⟩, hs3⟩
theorem trod_lt {H : Type} {enc : TypeId × Value → H} {W : World} {t : TypeId} {v : Value} {d : DataW H} {p : List MemPlace} (h : DataW.Trod enc Tryz.prog W 0 (fun _ => true) true t v d p) : ∀ x ∈ p, x.block < W.heap.size := by
  obtain ⟨m, hm⟩ := h
  exact DataW.trod_lt m _ _ _ hm
theorem reachIs : reachBytes ≤ 140737488355000 := by decide
theorem weightsAll_mem {H : Type} {P : Program} {e : TypeId} : ∀ {l : List (DataW H)} {d : DataW H} {n : Nat}, d ∈ l → n ∈ d.weights P e → n ∈ DataW.weightsAll P e l
  | x :: r, d, n, hd, hn => by
    simp only [DataW.weightsAll, List.mem_append]
    rcases List.mem_cons.1 hd with rfl | h
    · exact .inl hn
    · exact .inr (weightsAll_mem h hn)
set_option maxRecDepth 100000 in
theorem open_stp {H : Type} {enc : TypeId × Value → H} {W : World} {fuel : Nat} {cs : List Value} {d : DataW H} {p : List MemPlace} (hf : DataW.trod enc Tryz.prog W 0 (fun _ => true) true fuel 55 cs = some (d, p)) (hlen : cs.length = 3) (hw : ∀ n ∈ d.weights Tryz.prog 55, n ≤ reachBytes) :
    ∃ s : Stp, cs = stl s ∧ s.d.size ≤ 140737488355000 ∧ s.u.size ≤ 140737488355000 := by
  have hr := reachIs
  obtain ⟨xs, k', _, hxy, _, hxl, hfs⟩ := DataW.trod_struct Tryz.underlying55 hf
  match xs, hxl, cs, hlen with
  | [y0, y1, y2], _, [v0, v1, v2], _ =>
    have g0 := hfs 0 _ rfl
    have g1 := hfs 1 _ rfl
    have g2 := hfs 2 _ rfl
    simp [cellsQI, cellsQSTR] at g0 g1 g2
    simp only [Prod.mk.injEq] at hxy
    obtain ⟨z0, e0, q0, _⟩ := DataW.trod_string Tryz.underlying9 g0
    obtain ⟨z1, e1, q1, _⟩ := DataW.trod_string Tryz.underlying9 g1
    obtain ⟨z2, e2, _, _⟩ := DataW.trod_int Tryz.underlying3 g2
    have w0 : z0.size ≤ reachBytes := hw z0.size (by rw [hxy.1]; simp [DataW.weights, Tryz.underlying55, DataW.weightsEach, q0])
    have w1 : z1.size ≤ reachBytes := hw z1.size (by rw [hxy.1]; simp [DataW.weights, Tryz.underlying55, DataW.weightsEach, q1])
    simp only [List.cons.injEq, and_true] at e0 e1 e2
    exact ⟨⟨z0, z1, z2⟩, by simp only [e0, e1, e2, stl], by show z0.size ≤ _; omega, by show z1.size ≤ _; omega⟩
set_option maxRecDepth 100000 in
theorem open_steps {H : Type} {enc : TypeId × Value → H} {W : World} {fuel : Nat} {v : Value} {d : DataW H} {p : List MemPlace} (hf : DataW.trod enc Tryz.prog W 0 (fun _ => true) true fuel 22 [v] = some (d, p)) (hw : ∀ n ∈ d.weights Tryz.prog 22, n ≤ reachBytes) :
    ∃ ss, StsAt W v ss ∧ ∀ s ∈ ss, s.d.size ≤ 140737488355000 ∧ s.u.size ≤ 140737488355000 := by
  rcases Deep.open_slice Tryz.underlying22 hf with ⟨hcs, _⟩ | ⟨a, len0, cap0, m, n, D, Pl, hcs, _, hl, hm, hmm, hx, hel⟩
  · simp at hcs
    subst hcs
    exact ⟨[], ⟨none, 0, rfl, by simp, by simp [maxLen], fun k s hk => by simp at hk⟩, fun s hs => nomatch hs⟩
  · simp at hcs
    subst hcs
    simp only [Prod.mk.injEq] at hx
    have each : ∀ k, k < len0 → ∃ s : Stp, ∃ b off, a = ⟨b, off, none⟩ ∧ W.rangeAt b (off + k * 3) (stl s) ∧ s.d.size ≤ 140737488355000 ∧ s.u.size ≤ 140737488355000 := fun k hk => by
      have hkm : k < m := by rw [hmm]; simp; omega
      have hspot : a.spot = none := by
        obtain ⟨cs0, h10, _⟩ := hel 0 (by omega)
        rw [cellsQSTEP] at h10
        obtain ⟨_, hl0, hc0⟩ := World.cells?_some h10
        have r0 := hc0 0 (by omega)
        rw [List.getElem?_eq_getElem (show 0 < cs0.length by omega)] at r0
        simpa [Addr.add] using World.cell?_spot r0
      obtain ⟨cs', h1, h2⟩ := hel k hkm
      have hwk : ∀ n ∈ (D k).weights Tryz.prog 55, n ≤ reachBytes := fun n hn => hw n (by
        rw [hx.1]
        simp only [DataW.weights, Tryz.underlying22, List.mem_cons, List.mem_append]
        exact .inr (.inl (weightsAll_mem (List.mem_map.2 ⟨k, List.mem_range.2 hk, rfl⟩) hn)))
      rw [cellsQSTEP] at h1
      obtain ⟨_, hlen, hcell⟩ := World.cells?_some h1
      obtain ⟨s, e, hd, hu⟩ := open_stp h2 hlen hwk
      obtain ⟨b, off, spot⟩ := a
      obtain rfl : spot = none := hspot
      refine ⟨s, b, off, rfl, fun j u hu => ?_, hd, hu⟩
      rw [← e] at hu
      have hj : j < 3 := by have := (List.getElem?_eq_some_iff.1 hu).1; omega
      have := hcell j hj
      rw [Deep.add_add, Go.WideShapes.add_plain, ← Nat.add_assoc, hu] at this
      exact this
    obtain ⟨ss, hrl, hrs⟩ := listedQ len0 each
    refine ⟨ss, ⟨some a, cap0, by rw [hrl], by omega, by omega, fun k s hs => ?_⟩, fun s hs => ?_⟩
    · obtain ⟨b, off, e, h1, _⟩ := hrs k s hs
      exact ⟨b, off, by rw [e], h1⟩
    · obtain ⟨k, hk, rfl⟩ := List.getElem_of_mem hs
      obtain ⟨_, _, _, _, h3, h4⟩ := hrs k _ (List.getElem?_eq_getElem hk)
      exact ⟨h3, h4⟩
set_option maxRecDepth 100000 in
/-- a plan among the arguments -/
theorem open_plan {H : Type} {enc : TypeId × Value → H} {W : World} {base : Nat} {v : Value} {d : DataW H} {p : List MemPlace} (hv : Value.okWide Tryz.prog W .any base 24 v)
    (h : DataW.Trod enc Tryz.prog W 0 (fun _ => true) true 24 v d p) (hw : ∀ n ∈ d.weights Tryz.prog 24, n ≤ reachBytes) : ∃ q u, v = plv q u ∧ StsAt W u q.ss ∧ PFit q := by
  have hr := reachIs
  obtain ⟨cs, rfl, hcs⟩ := okWide_struct Tryz.underlying24 hv
  rw [cellsQPLAN] at hcs
  obtain ⟨fuel, hf⟩ := h
  obtain ⟨xs, k', _, hxy, _, hxl, hfs⟩ := DataW.trod_struct Tryz.underlying24 hf
  have hlen : cs.toList.length = 3 := by simpa using hcs
  have hcells : Value.cells (.agg cs) = cs := rfl
  rw [hcells] at hfs
  obtain ⟨vs⟩ := cs
  simp only at hfs hlen
  match xs, hxl, vs, hlen with
  | [y0, y1, y2], _, [v0, v1, v2], _ =>
    have g0 := hfs 0 _ rfl
    have g1 := hfs 1 _ rfl
    have g2 := hfs 2 _ rfl
    simp [cellsQI, cellsQSTR, cellsQSTEPS] at g0 g1 g2
    simp only [Prod.mk.injEq] at hxy
    obtain ⟨z0, e0, q0, _⟩ := DataW.trod_string Tryz.underlying9 g0
    obtain ⟨z1, e1, _, _⟩ := DataW.trod_int Tryz.underlying3 g1
    have w0 : z0.size ≤ reachBytes := hw z0.size (by rw [hxy.1]; simp [DataW.weights, Tryz.underlying24, DataW.weightsEach, q0])
    have hw2 : ∀ n ∈ y2.1.weights Tryz.prog 22, n ≤ reachBytes := fun n hn => hw n (by
      rw [hxy.1]
      simp [DataW.weights, Tryz.underlying24, DataW.weightsEach, hn])
    obtain ⟨ss, hs1, hs2⟩ := open_steps g2 hw2
    simp only [List.cons.injEq, and_true] at e0 e1
    subst e0 e1
    exact ⟨⟨z0, z1, ss⟩, v2, rfl, hs1, ⟨by show z0.size ≤ _; omega, fun s hs => (hs2 s hs).1, fun s hs => (hs2 s hs).2⟩⟩
end Go.Proofs.YtlippoipjipcbaaGreatDoor
