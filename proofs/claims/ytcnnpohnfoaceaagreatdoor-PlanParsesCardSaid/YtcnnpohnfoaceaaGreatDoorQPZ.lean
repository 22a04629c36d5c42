import Derived.Deep.CutRange
import Derived.Test.YtcnnpohnfoaceaaGreatDoorQPY
import Derived.Test.YtcnnpohnfoaceaaGreatDoorQPM
import Derived.Test.YtcnnpohnfoaceaaGreatDoorQN3
/-
  annalsref15: Parse: the walk.
-/
namespace Go.Proofs.YtcnnpohnfoaceaaGreatDoor
open Go Go.RowKit
open Wb
open Text.Tx (Wd wdc wds wordP wdA)

theorem rwhole_1 {ws : List Wd} (h : takeP 1 ws = none) : rwholeP ws = .error ws := by unfold rwholeP; rw [h]
theorem rwhole_2 {ws w1 : List Wd} {d : Wd} (h : takeP 1 ws = some (d, w1)) (h2 : signP ⟨#[58]⟩ w1 = none) : rwholeP ws = .error w1 := by unfold rwholeP; rw [h]; simp only; rw [h2]
theorem rwhole_3 {ws w1 w2 : List Wd} {d : Wd} (h : takeP 1 ws = some (d, w1)) (h2 : signP ⟨#[58]⟩ w1 = some w2) : rwholeP ws = match rsaidP w2.length false [] w2 with | .error e => .error e | .ok l => .ok (d.t, l) := by unfold rwholeP; rw [h]; simp only; rw [h2]; rfl
/-- Parse's memory while it reads -/
structure PR (w : World) (br gp : Nat) (vw : Value) (ws : List Wd) (en : Nat) (nm : ByteArray) (W : World) (i : Nat) : Prop where
  l2 : LB W w.heap.size 25 [.string ⟨#[]⟩, .int .i64 0, .slice none 0 0]
  l5 : LB W (w.heap.size + 1) 25 [.string ⟨#[]⟩, .int .i64 0, .slice none 0 0]
  lp : LB W gp 25 [.string nm, .int .i64 0, .slice none 0 0]
  bl : Below w.heap.size w W
  rd : RR br W vw ws i en
  o1 : w.heap.size + 1 < br
  o2 : br < gp
theorem PR.up {w : World} {br gp : Nat} {vw : Value} {ws : List Wd} {en : Nat} {nm : ByteArray} {W W' : World} {i : Nat} (h : PR w br gp vw ws en nm W i) (hb : Below W.heap.size W W') : PR w br gp vw ws en nm W' i :=
  ⟨h.l2.kept hb, h.l5.kept hb, h.lp.kept hb, andThen h.bl hb, h.rd.kept hb, h.o1, h.o2⟩
theorem PR.chg {w : World} {br gp : Nat} {vw : Value} {ws : List Wd} {en : Nat} {nm : ByteArray} {W W' : World} {i j : Nat} (h : PR w br gp vw ws en nm W i) (hc : Chg br W W') (hr : RR br W' vw ws j en) : PR w br gp vw ws en nm W' j := by
  have h1 := h.o1
  have h2 := h.o2
  exact ⟨hc.lb (by omega) h.l2, hc.lb (by omega) h.l5, hc.lb (by omega) h.lp, h.bl.trans (hc.1.mono (by omega)), hr, h1, h2⟩
theorem PR.next {w : World} {br gp : Nat} {vw : Value} {ws : List Wd} {en : Nat} {nm : ByteArray} {W : World} {i : Nat} (h : PR w br gp vw ws en nm W i) (j : Nat) (hj : j ≤ ws.length) : PR w br gp vw ws en nm (W.setCell ⟨br, 1, none⟩ (.int .i64 (j : Int))) j := h.chg (Chg.set br 1 W _) (h.rd.next j hj)
set_option maxRecDepth 100000 in
set_option maxHeartbeats 16000000 in
theorem rpparse_any (line : ByteArray) (w : World) (hT : Text.TabP 1 .i64 Text.Tx.lets w) (hH : Text.TabP 2 .i64 Text.Tx.hids w) :
    Calls Tryz.prog 6 #[.string line] w fun e w' => PsPost w.heap.size w (parseP line) e w' := by
  have HWD : Hid (∀ w', Below w.heap.size w w' → Calls Tryz.prog 18 #[.string line] w' fun e w'' => ∃ v, e = .returned (.tuple #[v, .int .i64 (wdA line).2.1, .int .i64 (wdA line).2.2]) ∧ Text.WdR w'.heap.size w'' v (wdA line).1 ∧ Below w'.heap.size w' w'') := fun w' hb => Text.rwords_any line w' (hT.kept hb) (hH.kept hb)
  have HTT : Hid (∀ w', Below w.heap.size w w' → Text.TabP 1 .i64 Text.Tx.lets w') := fun w' hb => hT.kept hb
  obtain ⟨A, hA⟩ : ∃ A, parseP line = A := ⟨_, rfl⟩
  rw [hA]
  rw [parse_r] at hA
  have HX : Hid (LB ((w.alloc (.cells #[.string ⟨#[]⟩, .int .i64 0, .slice none 0 0] 25)).alloc (.cells #[.string ⟨#[]⟩, .int .i64 0, .slice none 0 0] 25)) w.heap.size 25 [.string ⟨#[]⟩, .int .i64 0, .slice none 0 0] ∧ LB ((w.alloc (.cells #[.string ⟨#[]⟩, .int .i64 0, .slice none 0 0] 25)).alloc (.cells #[.string ⟨#[]⟩, .int .i64 0, .slice none 0 0] 25)) (w.heap.size + 1) 25 [.string ⟨#[]⟩, .int .i64 0, .slice none 0 0] ∧ Below w.heap.size w ((w.alloc (.cells #[.string ⟨#[]⟩, .int .i64 0, .slice none 0 0] 25)).alloc (.cells #[.string ⟨#[]⟩, .int .i64 0, .slice none 0 0] 25))) := lb_new2 w [.string ⟨#[]⟩, .int .i64 0, .slice none 0 0] [.string ⟨#[]⟩, .int .i64 0, .slice none 0 0] 25 25
  clear hT hH
  by_cases h6 : 65536 < line.size
  · have hw : wdA line = ([], 2, 65536) := by unfold wdA; rw [if_pos h6]
    rw [hw] at hA
    simp only at hA
    rw [if_pos (by decide)] at hA
    subst hA
    clear hw HWD HTT
    go_enter Tryz.func6, Tryz.ntmps6
    go_upto_region 2 with fail
    generalize (w.alloc (.cells #[.string ⟨#[]⟩, .int .i64 0, .slice none 0 0] 25)).alloc (.cells #[.string ⟨#[]⟩, .int .i64 0, .slice none 0 0] 25) = W0 at *
    have c0 := HX.out.1.cell 0 _ rfl
    have f0 := HX.out.1.free 0
    have c1 := HX.out.1.cell 1 _ rfl
    have f1 := HX.out.1.free 1
    have c2 := HX.out.1.cell 2 _ rfl
    have f2 := HX.out.1.free 2
    have d0 := HX.out.2.1.cell 0 _ rfl
    have d1 := HX.out.2.1.cell 1 _ rfl
    have d2 := HX.out.2.1.cell 2 _ rfl
    go_wp2_with fail
    obtain ⟨W9, e9, l9, b9, -⟩ := set3 HX.out.1 rfl (Nat.le_refl _) HX.out.2.2 (.string ⟨#[]⟩) (.int .i64 0) (.slice none 0 0)
    rw [← e9]
    have y0 := l9.cell 0 _ rfl
    have y1 := l9.cell 1 _ rfl
    have y2 := l9.cell 2 _ rfl
    refine bodyPost_ret (by simp [results, Tryz.results6, go_sem, y0, y1, y2]; try rfl) rfl ?_
    exact psZ _ _ _ b9
  by_cases h1 : (wdA line).2.1 ≠ 0
  · rw [if_pos h1] at hA
    have h2 : ((wdA line).2.1 != 0) = true := by simpa using h1
    generalize wdA line = X at *
    obtain ⟨x1, x2, x3⟩ := X
    simp only at HWD h2 hA h1
    subst hA
    clear h1 HTT
    go_enter Tryz.func6, Tryz.ntmps6
    go_upto_region 2 with fail
    generalize (w.alloc (.cells #[.string ⟨#[]⟩, .int .i64 0, .slice none 0 0] 25)).alloc (.cells #[.string ⟨#[]⟩, .int .i64 0, .slice none 0 0] 25) = W0 at *
    go_wp2_with fail
    refine (HWD.out _ HX.out.2.2).mono ?_
    rintro e w1 ⟨v1, rfl, -, b1⟩
    have H1 : Hid (LB w1 w.heap.size 25 [.string ⟨#[]⟩, .int .i64 0, .slice none 0 0] ∧ LB w1 (w.heap.size + 1) 25 [.string ⟨#[]⟩, .int .i64 0, .slice none 0 0] ∧ Below w.heap.size w w1) := ⟨HX.out.1.kept b1, HX.out.2.1.kept b1, andThen HX.out.2.2 b1⟩
    clear b1 HWD HX
    have c0 := H1.out.1.cell 0 _ rfl
    have f0 := H1.out.1.free 0
    have c1 := H1.out.1.cell 1 _ rfl
    have f1 := H1.out.1.free 1
    have c2 := H1.out.1.cell 2 _ rfl
    have f2 := H1.out.1.free 2
    have d0 := H1.out.2.1.cell 0 _ rfl
    have d1 := H1.out.2.1.cell 1 _ rfl
    have d2 := H1.out.2.1.cell 2 _ rfl
    go_wp2_with fail
    obtain ⟨W9, e9, l9, b9, -⟩ := set3 H1.out.1 rfl (Nat.le_refl _) H1.out.2.2 (.string ⟨#[]⟩) (.int .i64 0) (.slice none 0 0)
    rw [← e9]
    have y0 := l9.cell 0 _ rfl
    have y1 := l9.cell 1 _ rfl
    have y2 := l9.cell 2 _ rfl
    refine bodyPost_ret (by simp [results, Tryz.results6, go_sem, y0, y1, y2]; try rfl) rfl ?_
    exact psZ _ _ _ b9
  rw [if_neg h1] at hA
  have h2 : (wdA line).2.1 = 0 := by simpa using h1
  obtain ⟨hsz, hwl, hft⟩ := wdA_size h2
  have HNM : Hid (∀ d ∈ (wdA line).1, d.k = 1 → nmd d.t = true) := wdA_nmd h2
  have HFT : Hid (Ft 65536 (wdA line).1) := hft
  clear hft h1
  generalize wdA line = X at *
  obtain ⟨ws, x2, x3⟩ := X
  simp only at HWD h2 hA hwl HFT HNM
  subst h2
  go_enter Tryz.func6, Tryz.ntmps6
  go_upto_region 2 with fail
  generalize (w.alloc (.cells #[.string ⟨#[]⟩, .int .i64 0, .slice none 0 0] 25)).alloc (.cells #[.string ⟨#[]⟩, .int .i64 0, .slice none 0 0] 25) = W0 at *
  go_wp2_with fail
  refine (HWD.out _ HX.out.2.2).mono ?_
  rintro e w1 ⟨v1, rfl, k1, b1⟩
  obtain ⟨a1, c1, rfl⟩ := k1.shape
  have H1 : Hid (∀ o, o = .cells #[.slice a1 ws.length c1, .int .i64 0, .int .i64 (line.size : Int)] 52 → LB (w1.alloc o) w.heap.size 25 [.string ⟨#[]⟩, .int .i64 0, .slice none 0 0] ∧ LB (w1.alloc o) (w.heap.size + 1) 25 [.string ⟨#[]⟩, .int .i64 0, .slice none 0 0] ∧ Below w.heap.size w (w1.alloc o) ∧ RR w1.heap.size (w1.alloc o) (.slice a1 ws.length c1) ws 0 line.size) := fun o ho => by subst ho; exact ⟨HX.out.1.kept (up b1 _), HX.out.2.1.kept (up b1 _), up (andThen HX.out.2.2 b1) _, rr_new k1 hwl line.size⟩
  have hbr : w.heap.size + 1 < w1.heap.size := Nat.lt_of_lt_of_le HX.out.2.1.lt b1.size
  clear b1 HWD HX k1
  go_wp2_with fail
  refine (rrkind_any w1.heap.size 1 _ ws 0 line.size _ (H1.out _ rfl).2.2.2).mono ?_
  rintro e w3 ⟨rfl, b3⟩
  have H3 : Hid (LB w3 w.heap.size 25 [.string ⟨#[]⟩, .int .i64 0, .slice none 0 0] ∧ LB w3 (w.heap.size + 1) 25 [.string ⟨#[]⟩, .int .i64 0, .slice none 0 0] ∧ Below w.heap.size w w3 ∧ RR w1.heap.size w3 (.slice a1 ws.length c1) ws 0 line.size) := ⟨(H1.out _ rfl).1.kept b3, (H1.out _ rfl).2.1.kept b3, andThen (H1.out _ rfl).2.2.1 b3, (H1.out _ rfl).2.2.2.kept b3⟩
  clear b3 H1
  generalize w1.heap.size = br at *
  rcases take_facts (k := 1) (ws := ws) with ⟨t1, t2⟩ | ⟨d, r1, rfl, hdk, t2, t1⟩
  · have t1' : (takeP 1 (ws.drop 0)).isSome = false := t1
    rw [t1']
    rw [rwhole_1 t2] at hA
    simp only at hA
    subst hA
    clear t1 t1' t2 HTT HNM HFT
    have HAT : Hid (∀ W, Below w3.heap.size w3 W → Calls Tryz.prog 20 #[.pointer (some ⟨br, 0, none⟩)] W fun e w' => e = .returned (.int .i64 (placeP ws line.size)) ∧ Below W.heap.size W w') := fun W hb => rrat_any br _ ws 0 line.size W (H3.out.2.2.2.kept hb)
    go_upto_region 9 with fail
    refine wp_region_held_drew (S := fun w' : World => LB w' (w.heap.size + 1) 25 [.string ⟨#[]⟩, .int .i64 0, .slice none 0 0]) (by kernel_rfl) (H3.out.2.1.kept (Below.drew (Below.refl _ _))) (fun hH => ?_)
    refine zql 0 rfl (yieldsIf_load_mid (by rfl) _ _ rfl _ _ rfl [.string ⟨#[]⟩, .int .i64 0, .slice none 0 0] _ (fun w' hSw => LB.range hSw) Tryz.underlying25 rfl infoPlan) hH ?_
    simp only [Act.put, List.setIfInBounds_toArray, List.set_cons_zero, List.set_cons_succ, List.getElem_toArray, List.getElem_cons_zero]
    refine zqk 1 rfl hH ?_
    simp only [Act.put, List.setIfInBounds_toArray, List.set_cons_zero, List.set_cons_succ, List.getElem_toArray, List.getElem_cons_zero, List.getElem_cons_succ]
    refine wpAnyH_ready (rs := [2]) (by kernel_rfl) (by simp) ?_
    refine AllReadyH.cons rfl (fun K hK => ?_) AllReadyH.nil
    go_simp
    refine (HAT.out _ (Below.drew (Below.refl _ _))).mono ?_
    rintro e wq ⟨rfl, bq⟩
    have bq2 : Below w3.heap.size w3 wq := andThen (Below.drew (Below.refl _ _)) bq
    have HQ : Hid (LB wq w.heap.size 25 [.string ⟨#[]⟩, .int .i64 0, .slice none 0 0] ∧ LB wq (w.heap.size + 1) 25 [.string ⟨#[]⟩, .int .i64 0, .slice none 0 0] ∧ Below w.heap.size w wq) := ⟨H3.out.1.kept bq2, H3.out.2.1.kept bq2, andThen H3.out.2.2.1 bq2⟩
    refine hK.out _ _ HQ.out.2.1 (fun hH2 => ?_)
    clear hK K hH bq bq2
    try simp only [Act.put, List.setIfInBounds_toArray, List.set_cons_zero, List.set_cons_succ, List.getElem_toArray, List.getElem_cons_zero, List.getElem_cons_succ]
    have c0 := HQ.out.1.cell 0 _ rfl
    have f0 := HQ.out.1.free 0
    have c1 := HQ.out.1.cell 1 _ rfl
    have f1 := HQ.out.1.free 1
    have c2 := HQ.out.1.cell 2 _ rfl
    have f2 := HQ.out.1.free 2
    refine wpAnyH_ready (rs := [3]) (by kernel_rfl) (by simp) ?_
    refine AllReadyH.cons rfl (fun K hK => ?_) AllReadyH.nil
    go_simp
    obtain ⟨W9, e9, l9, b9, o9⟩ := set3 HQ.out.1 rfl (Nat.le_refl _) HQ.out.2.2 (.string ⟨#[]⟩) (.int .i64 0) (.slice none 0 0)
    rw [← e9]
    have k5 : LB W9 (w.heap.size + 1) 25 [.string ⟨#[]⟩, .int .i64 0, .slice none 0 0] := (o9 _ (by omega)).trans HQ.out.2.1
    refine hK.out _ _ k5 (fun hH3 => ?_)
    clear hK K hH2 e9
    try simp only [Act.put, List.setIfInBounds_toArray, List.set_cons_zero, List.set_cons_succ, List.getElem_toArray, List.getElem_cons_zero, List.getElem_cons_succ]
    refine zqk 4 rfl hH3 ?_
    simp only [Act.put, List.setIfInBounds_toArray, List.set_cons_zero, List.set_cons_succ, List.getElem_toArray, List.getElem_cons_zero, List.getElem_cons_succ]
    refine zqk 5 rfl hH3 ?_
    simp only [Act.put, List.setIfInBounds_toArray, List.set_cons_zero, List.set_cons_succ, List.getElem_toArray, List.getElem_cons_zero, List.getElem_cons_succ]
    refine wpAnyH_done (by kernel_rfl) ?_ _
    go_wp2_with fail
    have y0 := l9.cell 0 _ rfl
    have y1 := l9.cell 1 _ rfl
    have y2 := l9.cell 2 _ rfl
    refine bodyPost_ret (by simp [results, Tryz.results6, go_sem, y0, y1, y2]; try rfl) rfl ?_
    exact psZ _ _ _ b9
  have t1' : (takeP 1 ((d :: r1).drop 0)).isSome = true := t1
  rw [t1']
  clear t1 t1'
  obtain ⟨g1, off, cap, hg1, hi, hc1, hc2, hv, hr, -⟩ := H3.out.2.2.2.word (d := d) (r := r1) rfl
  simp only [Value.slice.injEq, true_and] at hv
  obtain ⟨rfl, rfl⟩ := hv
  have x2 : w3.cell? ⟨g1, off + 2, none⟩ = some (.string d.t) := by have := hr 2 _ rfl; simpa using this
  have hln : 0 < (d :: r1).length := by simp
  unfold maxLen at hc2
  have H4 : Hid (∀ o, o = .cells #[.string d.t, .int .i64 0, .slice none 0 0] 25 → PR w br w3.heap.size (.slice (some ⟨g1, off, none⟩) (d :: r1).length c1) (d :: r1) line.size d.t (w3.alloc o) 0) := fun o ho => by subst ho; exact ⟨H3.out.1.kept (up0 _ _), H3.out.2.1.kept (up0 _ _), lb_new w3 [.string d.t, .int .i64 0, .slice none 0 0] 25, up H3.out.2.2.1 _, H3.out.2.2.2.kept (up0 _ _), hbr, H3.out.2.2.2.lt⟩
  go_upto_region 11 with fail
  have H5 : Hid _ := H4.out _ rfl
  clear H4 H3 hr hi
  generalize w3.alloc (.cells #[.string d.t, .int .i64 0, .slice none 0 0] 25) = W4 at *
  generalize w3.heap.size = gp at *
  clear x2
  have q1 := H5.out.rd.1.cell 1 _ rfl
  have g1f := H5.out.rd.1.free 1
  have H6 : Hid (PR w br gp (.slice (some ⟨g1, off, none⟩) (d :: r1).length c1) (d :: r1) line.size d.t (W4.setCell ⟨br, 1, none⟩ (.int .i64 1)) 1) := H5.out.next 1 (by simp)
  go_wp2_with fail
  clear q1 g1f H5
  generalize W4.setCell ⟨br, 1, none⟩ (.int .i64 1) = W5 at *
  refine (rrsign_any br ⟨#[58]⟩ _ (d :: r1) 1 line.size _ H6.out.rd).mono ?_
  rintro e w6 ⟨rfl, b6⟩
  have H7 : Hid _ := H6.out.up b6
  clear b6 H6
  rcases sign_facts (t := ⟨#[58]⟩) (ws := r1) with ⟨s1, s2⟩ | ⟨d2, r2, rfl, s2, s1⟩
  · have s1' : (signP ⟨#[58]⟩ ((d :: r1).drop 1)).isSome = false := s1
    rw [s1']
    rw [rwhole_2 t2 s2] at hA
    simp only at hA
    subst hA
    clear s1 s1' s2 t2 HTT HNM HFT
    have HAT : Hid (∀ W, Below w6.heap.size w6 W → Calls Tryz.prog 20 #[.pointer (some ⟨br, 0, none⟩)] W fun e w' => e = .returned (.int .i64 (placeP r1 line.size)) ∧ Below W.heap.size W w') := fun W hb => rrat_any br _ (d :: r1) 1 line.size W (H7.out.up hb).rd
    go_upto_region 13 with fail
    refine wp_region_held_drew (S := fun w' : World => LB w' (w.heap.size + 1) 25 [.string ⟨#[]⟩, .int .i64 0, .slice none 0 0]) (by kernel_rfl) (H7.out.l5.kept (Below.drew (Below.refl _ _))) (fun hH => ?_)
    refine zql 0 rfl (yieldsIf_load_mid (by rfl) _ _ rfl _ _ rfl [.string ⟨#[]⟩, .int .i64 0, .slice none 0 0] _ (fun w' hSw => LB.range hSw) Tryz.underlying25 rfl infoPlan) hH ?_
    simp only [Act.put, List.setIfInBounds_toArray, List.set_cons_zero, List.set_cons_succ, List.getElem_toArray, List.getElem_cons_zero]
    refine zqk 1 rfl hH ?_
    simp only [Act.put, List.setIfInBounds_toArray, List.set_cons_zero, List.set_cons_succ, List.getElem_toArray, List.getElem_cons_zero, List.getElem_cons_succ]
    refine wpAnyH_ready (rs := [2]) (by kernel_rfl) (by simp) ?_
    refine AllReadyH.cons rfl (fun K hK => ?_) AllReadyH.nil
    go_simp
    refine (HAT.out _ (Below.drew (Below.refl _ _))).mono ?_
    rintro e wq ⟨rfl, bq⟩
    have bq2 : Below w6.heap.size w6 wq := andThen (Below.drew (Below.refl _ _)) bq
    have HQ : Hid (LB wq w.heap.size 25 [.string ⟨#[]⟩, .int .i64 0, .slice none 0 0] ∧ LB wq (w.heap.size + 1) 25 [.string ⟨#[]⟩, .int .i64 0, .slice none 0 0] ∧ Below w.heap.size w wq) := ⟨H7.out.l2.kept bq2, H7.out.l5.kept bq2, andThen H7.out.bl bq2⟩
    refine hK.out _ _ HQ.out.2.1 (fun hH2 => ?_)
    clear hK K hH bq bq2
    try simp only [Act.put, List.setIfInBounds_toArray, List.set_cons_zero, List.set_cons_succ, List.getElem_toArray, List.getElem_cons_zero, List.getElem_cons_succ]
    have c0 := HQ.out.1.cell 0 _ rfl
    have f0 := HQ.out.1.free 0
    have c1 := HQ.out.1.cell 1 _ rfl
    have f1 := HQ.out.1.free 1
    have c2 := HQ.out.1.cell 2 _ rfl
    have f2 := HQ.out.1.free 2
    refine wpAnyH_ready (rs := [3]) (by kernel_rfl) (by simp) ?_
    refine AllReadyH.cons rfl (fun K hK => ?_) AllReadyH.nil
    go_simp
    obtain ⟨W9, e9, l9, b9, o9⟩ := set3 HQ.out.1 rfl (Nat.le_refl _) HQ.out.2.2 (.string ⟨#[]⟩) (.int .i64 0) (.slice none 0 0)
    rw [← e9]
    have k5 : LB W9 (w.heap.size + 1) 25 [.string ⟨#[]⟩, .int .i64 0, .slice none 0 0] := (o9 _ (by omega)).trans HQ.out.2.1
    refine hK.out _ _ k5 (fun hH3 => ?_)
    clear hK K hH2 e9
    try simp only [Act.put, List.setIfInBounds_toArray, List.set_cons_zero, List.set_cons_succ, List.getElem_toArray, List.getElem_cons_zero, List.getElem_cons_succ]
    refine zqk 4 rfl hH3 ?_
    simp only [Act.put, List.setIfInBounds_toArray, List.set_cons_zero, List.set_cons_succ, List.getElem_toArray, List.getElem_cons_zero, List.getElem_cons_succ]
    refine zqk 5 rfl hH3 ?_
    simp only [Act.put, List.setIfInBounds_toArray, List.set_cons_zero, List.set_cons_succ, List.getElem_toArray, List.getElem_cons_zero, List.getElem_cons_succ]
    refine wpAnyH_done (by kernel_rfl) ?_ _
    go_wp2_with fail
    have y0 := l9.cell 0 _ rfl
    have y1 := l9.cell 1 _ rfl
    have y2 := l9.cell 2 _ rfl
    refine bodyPost_ret (by simp [results, Tryz.results6, go_sem, y0, y1, y2]; try rfl) rfl ?_
    exact psZ _ _ _ b9
  have s1' : (signP ⟨#[58]⟩ ((d :: d2 :: r2).drop 1)).isSome = true := s1
  rw [s1']
  clear s1 s1'
  rw [rwhole_3 t2 s2] at hA
  have q1 := H7.out.rd.1.cell 1 _ rfl
  have g1f := H7.out.rd.1.free 1
  have H8 : Hid (PR w br gp (.slice (some ⟨g1, off, none⟩) (d :: d2 :: r2).length c1) (d :: d2 :: r2) line.size d.t (w6.setCell ⟨br, 1, none⟩ (.int .i64 2)) 2) := H7.out.next 2 (by simp)
  go_wp2_with fail
  clear q1 g1f H7
  generalize w6.setCell ⟨br, 1, none⟩ (.int .i64 2) = W8 at *
  refine (rrsaid_any br _ (d :: d2 :: r2) 2 line.size _ H8.out.rd).mono ?_
  rintro e w9 ⟨j9, R9, C9, hm⟩
  have H9 : Hid (PR w br gp (.slice (some ⟨g1, off, none⟩) (d :: d2 :: r2).length c1) (d :: d2 :: r2) line.size d.t w9 j9) := H8.out.chg C9 R9
  have hgB : gp < W8.heap.size := H8.out.lp.lt
  have hNN : W8.heap.size ≤ w9.heap.size := C9.1.size
  clear R9 C9 H8
  have hm2 : match rsaidP r2.length false [] r2 with | .error ws => (d :: d2 :: r2).drop j9 = ws ∧ e = .returned (.tuple #[.slice none 0 0, .bool false]) | .ok l => ∃ v, e = .returned (.tuple #[v, .bool true]) ∧ SdR W8.heap.size w9 v l ∧ l.length ≤ 65536 := hm
  clear hm
  cases hsd : rsaidP r2.length false [] r2 with
  | error ws9 =>
    rw [hsd] at hm2 hA
    simp only at hA hm2
    obtain ⟨hdr, rfl⟩ := hm2
    subst hA
    clear s2 t2 HTT HNM HFT hsd
    have HAT : Hid (∀ W, Below w9.heap.size w9 W → Calls Tryz.prog 20 #[.pointer (some ⟨br, 0, none⟩)] W fun e w' => e = .returned (.int .i64 (placeP ws9 line.size)) ∧ Below W.heap.size W w') := fun W hb => by rw [← hdr]; exact rrat_any br _ (d :: d2 :: r2) j9 line.size W (H9.out.up hb).rd
    clear hdr
    go_upto_region 17 with fail
    refine wp_region_held_drew (S := fun w' : World => LB w' (w.heap.size + 1) 25 [.string ⟨#[]⟩, .int .i64 0, .slice none 0 0]) (by kernel_rfl) (H9.out.l5.kept (Below.drew (Below.refl _ _))) (fun hH => ?_)
    refine zql 0 rfl (yieldsIf_load_mid (by rfl) _ _ rfl _ _ rfl [.string ⟨#[]⟩, .int .i64 0, .slice none 0 0] _ (fun w' hSw => LB.range hSw) Tryz.underlying25 rfl infoPlan) hH ?_
    simp only [Act.put, List.setIfInBounds_toArray, List.set_cons_zero, List.set_cons_succ, List.getElem_toArray, List.getElem_cons_zero]
    refine zqk 1 rfl hH ?_
    simp only [Act.put, List.setIfInBounds_toArray, List.set_cons_zero, List.set_cons_succ, List.getElem_toArray, List.getElem_cons_zero, List.getElem_cons_succ]
    refine wpAnyH_ready (rs := [2]) (by kernel_rfl) (by simp) ?_
    refine AllReadyH.cons rfl (fun K hK => ?_) AllReadyH.nil
    go_simp
    refine (HAT.out _ (Below.drew (Below.refl _ _))).mono ?_
    rintro e wq ⟨rfl, bq⟩
    have bq2 : Below w9.heap.size w9 wq := andThen (Below.drew (Below.refl _ _)) bq
    have HQ : Hid (LB wq w.heap.size 25 [.string ⟨#[]⟩, .int .i64 0, .slice none 0 0] ∧ LB wq (w.heap.size + 1) 25 [.string ⟨#[]⟩, .int .i64 0, .slice none 0 0] ∧ Below w.heap.size w wq) := ⟨H9.out.l2.kept bq2, H9.out.l5.kept bq2, andThen H9.out.bl bq2⟩
    refine hK.out _ _ HQ.out.2.1 (fun hH2 => ?_)
    clear hK K hH bq bq2
    try simp only [Act.put, List.setIfInBounds_toArray, List.set_cons_zero, List.set_cons_succ, List.getElem_toArray, List.getElem_cons_zero, List.getElem_cons_succ]
    have c0 := HQ.out.1.cell 0 _ rfl
    have f0 := HQ.out.1.free 0
    have c1 := HQ.out.1.cell 1 _ rfl
    have f1 := HQ.out.1.free 1
    have c2 := HQ.out.1.cell 2 _ rfl
    have f2 := HQ.out.1.free 2
    refine wpAnyH_ready (rs := [3]) (by kernel_rfl) (by simp) ?_
    refine AllReadyH.cons rfl (fun K hK => ?_) AllReadyH.nil
    go_simp
    obtain ⟨W9, e9, l9, b9, o9⟩ := set3 HQ.out.1 rfl (Nat.le_refl _) HQ.out.2.2 (.string ⟨#[]⟩) (.int .i64 0) (.slice none 0 0)
    rw [← e9]
    have k5 : LB W9 (w.heap.size + 1) 25 [.string ⟨#[]⟩, .int .i64 0, .slice none 0 0] := (o9 _ (by omega)).trans HQ.out.2.1
    refine hK.out _ _ k5 (fun hH3 => ?_)
    clear hK K hH2 e9
    try simp only [Act.put, List.setIfInBounds_toArray, List.set_cons_zero, List.set_cons_succ, List.getElem_toArray, List.getElem_cons_zero, List.getElem_cons_succ]
    refine zqk 4 rfl hH3 ?_
    simp only [Act.put, List.setIfInBounds_toArray, List.set_cons_zero, List.set_cons_succ, List.getElem_toArray, List.getElem_cons_zero, List.getElem_cons_succ]
    refine zqk 5 rfl hH3 ?_
    simp only [Act.put, List.setIfInBounds_toArray, List.set_cons_zero, List.set_cons_succ, List.getElem_toArray, List.getElem_cons_zero, List.getElem_cons_succ]
    refine wpAnyH_done (by kernel_rfl) ?_ _
    go_wp2_with fail
    have y0 := l9.cell 0 _ rfl
    have y1 := l9.cell 1 _ rfl
    have y2 := l9.cell 2 _ rfl
    refine bodyPost_ret (by simp [results, Tryz.results6, go_sem, y0, y1, y2]; try rfl) rfl ?_
    exact psZ _ _ _ b9
  | ok l =>
    rw [hsd] at hm2 hA
    simp only at hA hm2
    obtain ⟨v, rfl, hrow, hl6⟩ := hm2
    have hwh : wholeP (d :: d2 :: r2) = .ok (d.t, addAll l) := by rw [whole_r, rwhole_3 t2 s2, hsd]; rfl
    have hnd : nmd d.t = true := HNM.out d (List.mem_cons_self ..) hdk
    obtain ⟨ft1, ft2, ft3, ft4⟩ := whole_fit HFT.out hwh
    have hsz2 := addAll_size l
    have hl1 : 1 ≤ l.length := by omega
    have HPF : Hid (PFt ⟨d.t, (addAll l).piv, (addAll l).ss⟩) := ⟨by show d.t.size ≤ _; omega, fun s hs => by have := (ft2 s hs).1; omega, fun s hs => by have := (ft2 s hs).2; omega⟩
    have HND : Hid (nmd d.t = true) := hnd
    clear ft1 ft2 ft3 ft4 hwh hsd t2 s2 HNM HFT hsz2 hnd hdk
    obtain ⟨g, cl, rfl, hcl1, hcl2⟩ : ∃ (g cl : Nat), v = .slice (some ⟨g, 0, none⟩) l.length cl ∧ l.length ≤ cl ∧ cl ≤ maxLen := by
      rcases hrow.2 with ⟨_, h0⟩ | ⟨g, cap, cur, rfl, _, _, h1, h2, _⟩
      · omega
      · exact ⟨g, cap, rfl, h1, h2⟩
    unfold maxLen at hcl2
    have HP0 : Hid (PL w gp W8.heap.size w9.heap.size (.slice (some ⟨g, 0, none⟩) l.length cl) d.t l w9 l 0 (.slice none 0 0) []) := ⟨H9.out.l2, H9.out.l5, H9.out.lp, H9.out.bl, hrow, World.ownsRow_nil _ _ _ _, rfl, rfl, Nat.lt_trans H9.out.o1 H9.out.o2, hgB, hNN, fun g' e => (World.ownsRow.lt hrow g' e).2, Nat.le_refl _⟩
    clear hrow H9
    generalize W8.heap.size = B at *
    generalize w9.heap.size = N at *
    go_wp2_with fail
    go_loopw [13] (fun i wr => ∃ (k : Nat) (m : List Sd) (vs : Value), k ≤ l.length ∧ i = .int .i64 (k : Int) ∧ m.drop k = l.drop k ∧ PL w gp B N (.slice (some ⟨g, 0, none⟩) l.length cl) d.t l wr m (addAll (l.take k)).piv vs (addAll (l.take k)).ss) (fun i _ => l.length - (intOf i).toNat)
    case atStart => exact ⟨0, l, _, Nat.zero_le _, rfl, rfl, HP0.out⟩
    case round =>
      obtain ⟨k, m, vs, hk, rfl, hmd, hPL⟩ := hrel
      clear HP0
      obtain ⟨a5, c5, hvs⟩ := ownsRow_shape hPL.st
      subst hvs
      have HP : Hid (PL w gp B N (.slice (some ⟨g, 0, none⟩) l.length cl) d.t l wr m (addAll (l.take k)).piv (.slice a5 (addAll (l.take k)).ss.length c5) (addAll (l.take k)).ss) := hPL
      have hml : m.length = l.length := hPL.len
      clear hPL
      by_cases hlt : k < l.length
      · have hmk : k < m.length := by omega
        have hme : m[k] = l[k] := by
          have e := congrArg (·[0]?) hmd
          simp only [List.getElem?_drop, Nat.add_zero] at e
          rw [List.getElem?_eq_getElem hmk, List.getElem?_eq_getElem hlt] at e
          injection e
        have HMD : Hid (m.drop (k + 1) = l.drop (k + 1)) := by
          have e := congrArg List.tail hmd
          rwa [List.tail_drop, List.tail_drop] at e
        have HAT : Hid (addAll (l.take (k + 1)) = addS (addAll (l.take k)) l[k]) := addAll_take hlt
        have hRl : (addAll (l.take k)).ss.length = k := by rw [(addAll_size _).1, List.length_take]; omega
        have HRL : Hid _ := hRl
        clear hmd
        obtain ⟨s, hs⟩ : ∃ s, l[k] = s := ⟨_, rfl⟩
        rw [hs] at hme HAT
        generalize hRR : addAll (l.take k) = R at *
        clear hRR hs
        rw [hRl] at HP
        clear hRl
        obtain ⟨rp, rs, ra⟩ := R
        have HRG := HP.out.row.at hml.symm k hmk
        rw [hme] at HRG
        have HG : Hid _ := HRG
        clear HRG
        have n3 : wr.cell? ⟨g, k * 6 + 3, none⟩ = some (.bool s.nb) := HG.out 3 _ rfl
        have p1 := HP.out.lp.cell 1 _ rfl
        have w2 : wr.cell? ⟨g, k * 6 + 2, none⟩ = some (.int .i64 s.s.t) := HG.out 2 _ rfl
        have w2f : wr.frozen? ⟨g, k * 6 + 2, none⟩ = false := HP.out.row.free _
        simp only at p1
        have h3 : s.nb = true ∨ (s.nb = false ∧ rp = 0) ∨ (s.nb = false ∧ rp ≠ 0) := by
          cases s.nb with
          | true => exact .inl rfl
          | false => by_cases h : rp = 0; exact .inr (.inl ⟨rfl, h⟩); exact .inr (.inr ⟨rfl, h⟩)
        have hk6 : k ≤ 65536 := by omega
        rcases h3 with h3 | h3 | h3
        all_goals
          first
            | have h3n := h3
              have e : fixS rp s = s.s := by unfold fixS; rw [if_neg (by rw [h3]; simp)]
              have HMK : Hid (m[k]? = some ⟨fixS rp s, s.nb, s.pv, s.at_⟩) := by
                show _ = _
                rw [List.getElem?_eq_getElem hmk, hme, e]
              have hq0 : ∃ (X1 : World) (m2 : List Sd), X1 = wr ∧ m2.length = l.length ∧ m2.drop (k + 1) = l.drop (k + 1) ∧ m2[k]? = some ⟨fixS rp s, s.nb, s.pv, s.at_⟩ ∧ PL w gp B N (.slice (some ⟨g, 0, none⟩) l.length cl) d.t l X1 m2 rp (.slice a5 k c5) rs := ⟨_, m, rfl, hml, HMD.out, HMK.out, HP.out⟩
              have HQ0 : Hid _ := hq0
              clear hq0 HMK
              rw [h3n] at n3
              clear h3 h3n
              go_upto_region 23 with fail
              obtain ⟨X1, m2, hX1, hm2l, hm2d, hm2k, hP2⟩ := HQ0.out
              rw [← hX1]
              clear hX1 HQ0
            | have h3n := h3.1
              have hpz : (rp == 0) = true := by simpa using h3.2
              have e : fixS rp s = ⟨s.s.d, s.s.u, 1⟩ := by unfold fixS; rw [if_pos h3]
              have HMK : Hid ((m.set k ⟨⟨s.s.d, s.s.u, 1⟩, s.nb, s.pv, s.at_⟩)[k]? = some ⟨fixS rp s, s.nb, s.pv, s.at_⟩) := by
                show _ = _
                rw [e, List.getElem?_set_self hmk]
              have hq0 : ∃ (X1 : World) (m2 : List Sd), X1 = wr.setCell ⟨g, k * 6 + 2, none⟩ (.int .i64 1) ∧ m2.length = l.length ∧ m2.drop (k + 1) = l.drop (k + 1) ∧ m2[k]? = some ⟨fixS rp s, s.nb, s.pv, s.at_⟩ ∧ PL w gp B N (.slice (some ⟨g, 0, none⟩) l.length cl) d.t l X1 m2 rp (.slice a5 k c5) rs := ⟨_, (m.set k ⟨⟨s.s.d, s.s.u, 1⟩, s.nb, s.pv, s.at_⟩), rfl, by rw [List.length_set]; exact hml, by rw [List.drop_set_of_lt (by omega)]; exact HMD.out, HMK.out, HP.out.tries hml.symm k hmk ⟨⟨s.s.d, s.s.u, 1⟩, s.nb, s.pv, s.at_⟩ (by rw [hme]; rfl) (by rw [hme])⟩
              have HQ0 : Hid _ := hq0
              clear hq0 HMK
              rw [h3n] at n3
              clear h3 h3n
              go_upto_region 23 with fail
              obtain ⟨X1, m2, hX1, hm2l, hm2d, hm2k, hP2⟩ := HQ0.out
              rw [← hX1]
              clear hX1 HQ0
            | have h3n := h3.1
              have hpz : (rp == 0) = false := by simpa using h3.2
              have e : fixS rp s = s.s := by unfold fixS; rw [if_neg (fun h => h3.2 h.2)]
              have HMK : Hid (m[k]? = some ⟨fixS rp s, s.nb, s.pv, s.at_⟩) := by
                show _ = _
                rw [List.getElem?_eq_getElem hmk, hme, e]
              have hq0 : ∃ (X1 : World) (m2 : List Sd), X1 = wr ∧ m2.length = l.length ∧ m2.drop (k + 1) = l.drop (k + 1) ∧ m2[k]? = some ⟨fixS rp s, s.nb, s.pv, s.at_⟩ ∧ PL w gp B N (.slice (some ⟨g, 0, none⟩) l.length cl) d.t l X1 m2 rp (.slice a5 k c5) rs := ⟨_, m, rfl, hml, HMD.out, HMK.out, HP.out⟩
              have HQ0 : Hid _ := hq0
              clear hq0 HMK
              rw [h3n] at n3
              clear h3 h3n
              go_upto_region 23 with fail
              obtain ⟨X1, m2, hX1, hm2l, hm2d, hm2k, hP2⟩ := HQ0.out
              rw [← hX1]
              clear hX1 HQ0
        all_goals
          try clear hpz
          clear e
          have HP2 : Hid _ := hP2
          have HM2D : Hid (m2.drop (k + 1) = l.drop (k + 1)) := hm2d
          clear hP2 hm2d n3 p1 w2 w2f HG HP HMD hme hmk hml
          have hmk : k < m2.length := by omega
          have hme : m2[k] = ⟨fixS rp s, s.nb, s.pv, s.at_⟩ := by rw [List.getElem?_eq_getElem hmk] at hm2k; injection hm2k
          have HRG := HP2.out.row.at hm2l.symm k hmk
          rw [hme] at HRG
          have HG : Hid _ := HRG
          have HME : Hid (m2[k] = ⟨fixS rp s, s.nb, s.pv, s.at_⟩) := hme
          clear HRG hm2k hme
          obtain ⟨F, hF⟩ : ∃ F, fixS rp s = F := ⟨_, rfl⟩
          have HFx : Hid (fixS rp s = F) := hF
          rw [hF] at HG
          clear hF
          have n4 : X1.cell? ⟨g, k * 6 + 4, none⟩ = some (.bool s.pv) := HG.out 4 _ rfl
          have p1 := HP2.out.lp.cell 1 _ rfl
          have p1f := HP2.out.lp.free 1
          obtain ⟨np, hnp⟩ : ∃ np : Int, np = if s.pv = true then (k : Int) + 1 else rp := ⟨_, rfl⟩
          have HNP : Hid (np = if s.pv = true then (k : Int) + 1 else rp) := hnp
          clear hnp
          have hpv : s.pv = true ∨ s.pv = false := by cases s.pv; exact .inr rfl; exact .inl rfl
          rcases hpv with hpv | hpv
          all_goals
            first
              | have e : np = (k : Int) + 1 := by rw [HNP.out, if_pos hpv]
                have hq0 : ∃ X2 : World, X2 = X1.setCell ⟨gp, 1, none⟩ (.int .i64 ((k : Int) + 1)) ∧ PL w gp B N (.slice (some ⟨g, 0, none⟩) l.length cl) d.t l X2 m2 np (.slice a5 k c5) rs := ⟨_, rfl, by rw [e]; exact HP2.out.piv _⟩
                rw [hpv] at n4
                have HQ0 : Hid _ := hq0
                clear hq0 hpv e
                go_upto_region 25 with fail
                obtain ⟨wc, hX2, hP3⟩ := HQ0.out
                rw [← hX2]
                clear hX2 HQ0
              | have e : np = rp := by rw [HNP.out, if_neg (by rw [hpv]; decide)]
                have hq0 : ∃ X2 : World, X2 = X1 ∧ PL w gp B N (.slice (some ⟨g, 0, none⟩) l.length cl) d.t l X2 m2 np (.slice a5 k c5) rs := ⟨_, rfl, by rw [e]; exact HP2.out⟩
                rw [hpv] at n4
                have HQ0 : Hid _ := hq0
                clear hq0 hpv e
                go_upto_region 25 with fail
                obtain ⟨wc, hX2, hP3⟩ := HQ0.out
                rw [← hX2]
                clear hX2 HQ0
          all_goals
            have HP3 : Hid (PL w gp B N (.slice (some ⟨g, 0, none⟩) l.length cl) d.t l wc m2 np (.slice a5 k c5) rs) := hP3
            clear hP3 n4 p1 p1f HP2
            have HG2 : Hid (wc.rangeAt g (k * 6) (sdl ⟨F, s.nb, s.pv, s.at_⟩)) := by
              have e := HP3.out.row.at hm2l.symm k hmk
              rw [HME.out, HFx.out] at e
              exact e
            clear HG
            obtain ⟨fd, fu, ft⟩ := F
            have HS0 : Hid (∀ W : World, W.rangeAt g (k * 6) (sdl ⟨⟨fd, fu, ft⟩, s.nb, s.pv, s.at_⟩) → W.cell? ⟨g, k * 6, none⟩ = some (.string fd) ∧ W.cell? ⟨g, k * 6 + 1, none⟩ = some (.string fu) ∧ W.cell? ⟨g, k * 6 + 2, none⟩ = some (.int .i64 ft)) := fun W h2 => ⟨h2 0 _ rfl, h2 1 _ rfl, h2 2 _ rfl⟩
            have H3 : Hid (PL w gp B N (.slice (some ⟨g, 0, none⟩) l.length cl) d.t l wc.drew m2 np (.slice a5 k c5) rs ∧ wc.drew.rangeAt g (k * 6) (sdl ⟨⟨fd, fu, ft⟩, s.nb, s.pv, s.at_⟩)) := ⟨HP3.out.up (Below.drew (Below.refl _ _)), range_kept HG2.out (Below.drew (Below.refl _ _))⟩
            refine wp_region_held_drew (S := fun w' : World => w'.cell? ⟨g, k * 6, none⟩ = some (.string fd) ∧ w'.cell? ⟨g, k * 6 + 1, none⟩ = some (.string fu) ∧ w'.cell? ⟨g, k * 6 + 2, none⟩ = some (.int .i64 ft)) (by kernel_rfl) (HS0.out _ H3.out.2) (fun hH => ?_)
            generalize wc.drew = X at *
            refine zqk 0 rfl hH ?_
            simp only [Act.put, List.setIfInBounds_toArray, List.set_cons_zero, List.set_cons_succ, List.getElem_toArray, List.getElem_cons_zero]
            refine zqk 2 rfl hH ?_
            simp only [Act.put, List.setIfInBounds_toArray, List.set_cons_zero, List.set_cons_succ, List.getElem_toArray, List.getElem_cons_zero, List.getElem_cons_succ]
            refine zqk 3 rfl hH ?_
            simp only [Act.put, List.setIfInBounds_toArray, List.set_cons_zero, List.set_cons_succ, List.getElem_toArray, List.getElem_cons_zero, List.getElem_cons_succ]
            refine zqk 4 rfl hH ?_
            simp only [Act.put, List.setIfInBounds_toArray, List.set_cons_zero, List.set_cons_succ, List.getElem_toArray, List.getElem_cons_zero, List.getElem_cons_succ]
            refine zqk 5 rfl hH ?_
            simp only [Act.put, List.setIfInBounds_toArray, List.set_cons_zero, List.set_cons_succ, List.getElem_toArray, List.getElem_cons_zero, List.getElem_cons_succ]
            refine zqk 6 rfl hH ?_
            simp only [Act.put, List.setIfInBounds_toArray, List.set_cons_zero, List.set_cons_succ, List.getElem_toArray, List.getElem_cons_zero, List.getElem_cons_succ]
            have H4 : Hid (∀ o, PL w gp B N (.slice (some ⟨g, 0, none⟩) l.length cl) d.t l (X.alloc o) m2 np (.slice a5 k c5) rs ∧ (X.alloc o).rangeAt g (k * 6) (sdl ⟨⟨fd, fu, ft⟩, s.nb, s.pv, s.at_⟩)) := fun o => ⟨H3.out.1.up (up0 _ _), range_kept H3.out.2 (up0 _ _)⟩
            have y1 := H3.out.1.lp.cell 2 _ rfl
            have y3 : ∀ o, (X.alloc o).cell? ⟨gp, 2, none⟩ = some (.slice a5 k c5) := fun o => (H4.out o).1.lp.cell 2 _ rfl
            refine wpAnyH_ready (rs := [1, 7]) (by kernel_rfl) (by simp) ?_
            refine AllReadyH.cons rfl (fun K hK => ?_) (AllReadyH.cons rfl (fun K hK => ?_) AllReadyH.nil)
            all_goals
              go_simp
              first
                | refine hK.out _ _ (HS0.out _ H3.out.2) (fun _ => ?_)
                  clear hK K
                  refine wpAnyH_ready (rs := [7]) (by kernel_rfl) (by simp) ?_
                  refine AllReadyH.cons rfl (fun K hK => ?_) AllReadyH.nil
                  go_simp
                  refine hK.out _ _ (HS0.out _ (H4.out _).2) (fun _ => ?_)
                  clear hK K
                | refine hK.out _ _ (HS0.out _ (H4.out _).2) (fun _ => ?_)
                  clear hK K
                  refine wpAnyH_ready (rs := [1]) (by kernel_rfl) (by simp) ?_
                  refine AllReadyH.cons rfl (fun K hK => ?_) AllReadyH.nil
                  go_simp
                  refine hK.out _ _ (HS0.out _ (H4.out _).2) (fun _ => ?_)
                  clear hK K
            all_goals
              clear hH y1 y3
              refine wpAnyH_ready (rs := [8]) (by kernel_rfl) (by simp) ?_
              refine AllReadyH.cons rfl (fun K hK => ?_) AllReadyH.nil
              have hrs : rs.length = k := HRL.out
              have hst := fun o => (H4.out o).1.st
              rw [hrs] at hst
              have HST : Hid _ := hst
              clear hst
              refine step_app rfl (.tmp 102) (.tmp 108) 60 23 rfl N _ 3 40 infoStp3 rfl (by decide) (by decide) Tryz.underlying23 _ k _ rfl (HST.out _) X.heap.size (stl ⟨fd, fu, ft⟩) rfl rfl (lb_new X (stl ⟨fd, fu, ft⟩) 60).range (fun x hx => by simp only [stl, List.mem_cons, List.not_mem_nil, or_false] at hx; rcases hx with rfl | rfl | rfl <;> rfl) (by omega) (H4.out _).1.o5 ?_
              intro v' w' hrow hgr
              obtain ⟨hQ1, hQ2, hQ3⟩ := (H4.out _).1.push (s := ⟨fd, fu, ft⟩) (by rw [hrs]; exact hrow) hgr
              obtain ⟨a9, c9, e9⟩ := ownsRow_shape hrow
              subst e9
              have y2 := hQ2.cell 2 _ rfl
              have z2 := hQ2.free 2
              have hR9 : w'.rangeAt g (k * 6) (sdl ⟨⟨fd, fu, ft⟩, s.nb, s.pv, s.at_⟩) := by
                have e := hQ3.at hm2l.symm k hmk
                rw [HME.out, HFx.out] at e
                exact e
              have HQ1 : Hid _ := hQ1
              have HR8 : Hid ((w'.setCell ⟨gp, 2, none⟩ (.slice a9 (k + 1) c9)).rangeAt g (k * 6) (sdl ⟨⟨fd, fu, ft⟩, s.nb, s.pv, s.at_⟩)) := by
                have e := HQ1.out.row.at hm2l.symm k hmk
                rw [HME.out, HFx.out] at e
                exact e
              refine hK.out _ _ (HS0.out _ hR9) (fun hH3 => ?_)
              clear hK K hrow hgr hQ1 hQ2 hQ3 hR9 H3 H4 HST
              try simp only [Act.put, List.setIfInBounds_toArray, List.set_cons_zero, List.set_cons_succ, List.getElem_toArray, List.getElem_cons_zero, List.getElem_cons_succ]
              refine zqk 9 rfl hH3 ?_
              simp only [Act.put, List.setIfInBounds_toArray, List.set_cons_zero, List.set_cons_succ, List.getElem_toArray, List.getElem_cons_zero, List.getElem_cons_succ]
              refine zqr 10 rfl (fun K hK => ?_)
              go_simp
              refine hK.out _ _ (HS0.out _ HR8.out) (fun _ => ?_)
              clear hK K hH3 y2 z2
              refine wpAnyH_done (by kernel_rfl) ?_ _
              have hfin : (addAll (l.take (k + 1))).piv = np ∧ (addAll (l.take (k + 1))).ss = rs ++ [⟨fd, fu, ft⟩] := by
                rw [HAT.out]
                refine ⟨?_, ?_⟩
                · show (if s.pv = true then (rs.length : Int) + 1 else rp) = np
                  rw [HNP.out, hrs]
                · show rs ++ [fixS rp s] = _
                  rw [HFx.out]
              have HFN : Hid _ := hfin
              clear hfin hrs
              go_wp2_with fail
              go_roundw
              case rel => exact ⟨k + 1, m2, _, by omega, by simp, HM2D.out, by rw [HFN.out.1, HFN.out.2]; exact HQ1.out⟩
              case measure => simp [intOf]; omega
      · obtain rfl : k = l.length := by omega
        clear hmd hlt hk
        rw [List.take_length] at HP
        have hsz2 := (addAll_size l).1
        have hin := addAll_in l
        have hats := addAll_ats l
        generalize hRR : addAll l = R at *
        clear hRR
        obtain ⟨rp, rs, ra⟩ := R
        simp only at HP HPF hsz2 hin hats
        rw [hsz2] at HP
        have HFA : Hid (∀ W, PL w gp B N (.slice (some ⟨g, 0, none⟩) l.length cl) d.t l W m rp (.slice a5 l.length c5) rs → Calls Tryz.prog 23 #[.agg #[.string d.t, .int .i64 rp, .slice a5 l.length c5]] W fun e w' => e = .returned (.tuple #[.int .i64 (fErr ⟨d.t, rp, rs⟩).1, .int .i64 (rErr2 ⟨d.t, rp, rs⟩)]) ∧ Below W.heap.size W w') := fun W h => rpwrong_any ⟨d.t, rp, rs⟩ _ W (sts_of h.st) (HTT.out _ h.bl) HPF.out
        have HPR : Hid (∀ W, PL w gp B N (.slice (some ⟨g, 0, none⟩) l.length cl) d.t l W m rp (.slice a5 l.length c5) rs → Calls Tryz.prog 24 #[.agg #[.string d.t, .int .i64 rp, .slice a5 l.length c5]] W fun e w' => e = .returned (.tuple #[.string (printA ⟨d.t, rp, rs⟩).1, .int .i64 (printA ⟨d.t, rp, rs⟩).2]) ∧ Below W.heap.size W w') := fun W h => rpprint_any ⟨d.t, rp, rs⟩ _ W (sts_of h.st) (HTT.out _ h.bl) HPF.out
        have p0 := HP.out.lp.cell 0 _ rfl
        have p1 := HP.out.lp.cell 1 _ rfl
        have p2 := HP.out.lp.cell 2 _ rfl
        go_wp2_with fail
        refine (HFA.out _ HP.out).mono ?_
        rintro e w10 ⟨rfl, b10⟩
        have H10 : Hid _ := HP.out.up b10
        clear b10 HFA HP p0 p1 p2
        unfold parseW at hA
        by_cases hE : (fErr ⟨d.t, rp, rs⟩).1 ≠ 0
        · have hre := rErr_eq (p := ⟨d.t, rp, rs⟩) HND.out (by show 1 ≤ rs.length; omega) hin hE
          have hJ := fErr_at (p := ⟨d.t, rp, rs⟩) (by show 1 ≤ rs.length; omega) hE
          simp only at hJ
          rw [hsz2] at hJ
          simp only at hA
          rw [if_pos hE] at hA
          rw [hre]
          have hE2 : ((fErr ⟨d.t, rp, rs⟩).1 != 0) = true := by simpa using hE
          clear hE hre HPR HPF HND
          generalize fErr ⟨d.t, rp, rs⟩ = FE at *
          obtain ⟨E, J⟩ := FE
          simp only at hA hJ hE2 ⊢
          obtain ⟨j, rfl⟩ : ∃ j : Nat, J = (j : Int) := ⟨J.toNat, by omega⟩
          rw [Int.toNat_natCast] at hA
          have hj : j < l.length := by omega
          have hjm : j < m.length := by omega
          have x5 : ∀ W, PL w gp B N (.slice (some ⟨g, 0, none⟩) l.length cl) d.t l W m rp (.slice a5 l.length c5) rs → W.cell? ⟨g, j * 6 + 5, none⟩ = some (.int .i64 (ra.getD j 0)) := fun W h => by
            have e := h.row.at hml.symm j hjm 5 _ rfl
            rw [e]
            have e2 := congrArg (·[j]?) h.ats
            simp only [List.getElem?_map] at e2
            rw [List.getElem?_eq_getElem hjm] at e2
            rw [hats, List.getD_eq_getElem?_getD, List.getElem?_map, ← e2]
            rfl
          generalize ra.getD j 0 = P at *
          subst hA
          have hji : (0 : Int) ≤ (j : Int) ∧ (j : Int) < (l.length : Int) := by omega
          obtain ⟨hj1, hj2⟩ := hji
          have HX5 : Hid _ := x5
          clear x5
          go_upto_region 28 with fail
          refine wp_region_held_drew (S := fun w' : World => LB w' (w.heap.size + 1) 25 [.string ⟨#[]⟩, .int .i64 0, .slice none 0 0] ∧ w'.cell? ⟨g, j * 6 + 5, none⟩ = some (.int .i64 P)) (by kernel_rfl) ⟨H10.out.l5.kept (Below.drew (Below.refl _ _)), HX5.out _ (H10.out.up (Below.drew (Below.refl _ _)))⟩ (fun hH => ?_)
          have H11 : Hid (PL w gp B N (.slice (some ⟨g, 0, none⟩) l.length cl) d.t l w10.drew m rp (.slice a5 l.length c5) rs) := H10.out.up (Below.drew (Below.refl _ _))
          generalize w10.drew = X at *
          refine zql 0 rfl (yieldsIf_load_mid (by rfl) _ _ rfl _ _ rfl [.string ⟨#[]⟩, .int .i64 0, .slice none 0 0] _ (fun w' hSw => LB.range hSw.1) Tryz.underlying25 rfl infoPlan) hH ?_
          simp only [Act.put, List.setIfInBounds_toArray, List.set_cons_zero, List.set_cons_succ, List.getElem_toArray, List.getElem_cons_zero]
          refine zqk 1 rfl hH ?_
          simp only [Act.put, List.setIfInBounds_toArray, List.set_cons_zero, List.set_cons_succ, List.getElem_toArray, List.getElem_cons_zero, List.getElem_cons_succ]
          refine zqk 2 rfl hH ?_
          simp only [Act.put, List.setIfInBounds_toArray, List.set_cons_zero, List.set_cons_succ, List.getElem_toArray, List.getElem_cons_zero, List.getElem_cons_succ]
          refine zqk 3 rfl hH ?_
          simp only [Act.put, List.setIfInBounds_toArray, List.set_cons_zero, List.set_cons_succ, List.getElem_toArray, List.getElem_cons_zero, List.getElem_cons_succ]
          refine zqk 4 rfl hH ?_
          simp only [Act.put, List.setIfInBounds_toArray, List.set_cons_zero, List.set_cons_succ, List.getElem_toArray, List.getElem_cons_zero, List.getElem_cons_succ]
          refine zqk 5 rfl hH ?_
          simp only [Act.put, List.setIfInBounds_toArray, List.set_cons_zero, List.set_cons_succ, List.getElem_toArray, List.getElem_cons_zero, List.getElem_cons_succ]
          refine zqk 6 rfl hH ?_
          simp only [Act.put, List.setIfInBounds_toArray, List.set_cons_zero, List.set_cons_succ, List.getElem_toArray, List.getElem_cons_zero, List.getElem_cons_succ]
          have c0 := H11.out.l2.cell 0 _ rfl
          have f0 := H11.out.l2.free 0
          have c1 := H11.out.l2.cell 1 _ rfl
          have f1 := H11.out.l2.free 1
          have c2 := H11.out.l2.cell 2 _ rfl
          have f2 := H11.out.l2.free 2
          refine wpAnyH_ready (rs := [7]) (by kernel_rfl) (by simp) ?_
          refine AllReadyH.cons rfl (fun K hK => ?_) AllReadyH.nil
          go_simp
          obtain ⟨W9, e9, l9, b9, o9⟩ := set3 H11.out.l2 rfl (Nat.le_refl _) H11.out.bl (.string ⟨#[]⟩) (.int .i64 0) (.slice none 0 0)
          rw [← e9]
          have hgw : g ≠ w.heap.size := by have := (World.ownsRow.lt H11.out.row g rfl).1; have := H11.out.o1; have := H11.out.o2; omega
          refine hK.out _ _ ⟨(o9 _ (by omega)).trans H11.out.l5, (World.cell?_of_block (a := ⟨g, j * 6 + 5, none⟩) (o9 g hgw)).trans hH.2⟩ (fun hH3 => ?_)
          clear hK K hH e9
          try simp only [Act.put, List.setIfInBounds_toArray, List.set_cons_zero, List.set_cons_succ, List.getElem_toArray, List.getElem_cons_zero, List.getElem_cons_succ]
          refine zqk 8 rfl hH3 ?_
          simp only [Act.put, List.setIfInBounds_toArray, List.set_cons_zero, List.set_cons_succ, List.getElem_toArray, List.getElem_cons_zero, List.getElem_cons_succ]
          refine zqk 9 rfl hH3 ?_
          simp only [Act.put, List.setIfInBounds_toArray, List.set_cons_zero, List.set_cons_succ, List.getElem_toArray, List.getElem_cons_zero, List.getElem_cons_succ]
          refine wpAnyH_done (by kernel_rfl) ?_ _
          go_wp2_with fail
          have y0 := l9.cell 0 _ rfl
          have y1 := l9.cell 1 _ rfl
          have y2 := l9.cell 2 _ rfl
          refine bodyPost_ret (by simp [results, Tryz.results6, go_sem, y0, y1, y2]; try rfl) rfl ?_
          exact psZ _ _ _ b9
        · simp only at hA
          rw [if_neg hE] at hA
          have hE2 : (fErr ⟨d.t, rp, rs⟩).1 = 0 := by simpa using hE
          have hPA : printA ⟨d.t, rp, rs⟩ = (printP ⟨d.t, rp, rs⟩, 0) := by unfold printA; rw [if_pos hE2]
          rw [hPA] at HPR
          simp only at HPR
          clear hE hPA
          have HTS : Hid ((printP ⟨d.t, rp, rs⟩).size ≤ 100000) := printP_size hE2
          have HPT : Hid (∀ w', Calls Tryz.prog 25 #[.string (printP ⟨d.t, rp, rs⟩), .string line] w' fun e w'' => e = .returned (.int .i64 (partF line.data.toList (printP ⟨d.t, rp, rs⟩).data.toList : Int)) ∧ Below w'.heap.size w' w'') := fun w' => by rw [partF_comm]; exact rdiffer_any _ line w' HTS.out (by omega)
          rw [hE2]
          generalize rErr2 ⟨d.t, rp, rs⟩ = E2 at *
          clear hE2 HTS HPF HND
          have hbe : (line.toList == (printP ⟨d.t, rp, rs⟩).toList) = ((printP ⟨d.t, rp, rs⟩).toList == line.toList) := by rw [Bool.eq_iff_iff]; simp only [beq_iff_eq]; exact ⟨Eq.symm, Eq.symm⟩
          rw [hbe] at hA
          clear hbe
          obtain ⟨T, hT⟩ : ∃ T, printP ⟨d.t, rp, rs⟩ = T := ⟨_, rfl⟩
          rw [hT] at hA HPR HPT
          clear hT
          have p0 := H10.out.lp.cell 0 _ rfl
          have p1 := H10.out.lp.cell 1 _ rfl
          have p2 := H10.out.lp.cell 2 _ rfl
          go_wp2_with fail
          refine (HPR.out _ H10.out).mono ?_
          rintro e w11 ⟨rfl, b11⟩
          have H11 : Hid _ := H10.out.up b11
          clear b11 HPR H10 p0 p1 p2
          cases hq : (T.toList == line.toList) with
          | false =>
            rw [hq] at hA
            rw [if_pos rfl] at hA
            subst hA
            go_upto_region 31 with fail
            refine wp_region_held_drew (S := fun w' : World => LB w' (w.heap.size + 1) 25 [.string ⟨#[]⟩, .int .i64 0, .slice none 0 0]) (by kernel_rfl) (H11.out.l5.kept (Below.drew (Below.refl _ _))) (fun hH => ?_)
            refine zql 0 rfl (yieldsIf_load_mid (by rfl) _ _ rfl _ _ rfl [.string ⟨#[]⟩, .int .i64 0, .slice none 0 0] _ (fun w' hSw => LB.range hSw) Tryz.underlying25 rfl infoPlan) hH ?_
            simp only [Act.put, List.setIfInBounds_toArray, List.set_cons_zero, List.set_cons_succ, List.getElem_toArray, List.getElem_cons_zero]
            refine zqk 1 rfl hH ?_
            simp only [Act.put, List.setIfInBounds_toArray, List.set_cons_zero, List.set_cons_succ, List.getElem_toArray, List.getElem_cons_zero, List.getElem_cons_succ]
            refine zqk 2 rfl hH ?_
            simp only [Act.put, List.setIfInBounds_toArray, List.set_cons_zero, List.set_cons_succ, List.getElem_toArray, List.getElem_cons_zero, List.getElem_cons_succ]
            refine wpAnyH_ready (rs := [3]) (by kernel_rfl) (by simp) ?_
            refine AllReadyH.cons rfl (fun K hK => ?_) AllReadyH.nil
            go_simp
            refine ((fun (_ : Below w11.heap.size w11 w11.drew) => HPT.out w11.drew) (Below.drew (Below.refl _ _))).mono ?_
            rintro e wq ⟨rfl, bq⟩
            have bq2 : Below w11.heap.size w11 wq := andThen (Below.drew (Below.refl _ _)) bq
            have HQ : Hid (LB wq w.heap.size 25 [.string ⟨#[]⟩, .int .i64 0, .slice none 0 0] ∧ LB wq (w.heap.size + 1) 25 [.string ⟨#[]⟩, .int .i64 0, .slice none 0 0] ∧ Below w.heap.size w wq) := ⟨H11.out.l2.kept bq2, H11.out.l5.kept bq2, andThen H11.out.bl bq2⟩
            refine hK.out _ _ HQ.out.2.1 (fun hH2 => ?_)
            clear hK K hH bq bq2
            try simp only [Act.put, List.setIfInBounds_toArray, List.set_cons_zero, List.set_cons_succ, List.getElem_toArray, List.getElem_cons_zero, List.getElem_cons_succ]
            have c0 := HQ.out.1.cell 0 _ rfl
            have f0 := HQ.out.1.free 0
            have c1 := HQ.out.1.cell 1 _ rfl
            have f1 := HQ.out.1.free 1
            have c2 := HQ.out.1.cell 2 _ rfl
            have f2 := HQ.out.1.free 2
            refine wpAnyH_ready (rs := [4]) (by kernel_rfl) (by simp) ?_
            refine AllReadyH.cons rfl (fun K hK => ?_) AllReadyH.nil
            go_simp
            obtain ⟨W9, e9, l9, b9, o9⟩ := set3 HQ.out.1 rfl (Nat.le_refl _) HQ.out.2.2 (.string ⟨#[]⟩) (.int .i64 0) (.slice none 0 0)
            rw [← e9]
            have k5 : LB W9 (w.heap.size + 1) 25 [.string ⟨#[]⟩, .int .i64 0, .slice none 0 0] := (o9 _ (by omega)).trans HQ.out.2.1
            refine hK.out _ _ k5 (fun hH3 => ?_)
            clear hK K hH2 e9
            try simp only [Act.put, List.setIfInBounds_toArray, List.set_cons_zero, List.set_cons_succ, List.getElem_toArray, List.getElem_cons_zero, List.getElem_cons_succ]
            refine zqk 5 rfl hH3 ?_
            simp only [Act.put, List.setIfInBounds_toArray, List.set_cons_zero, List.set_cons_succ, List.getElem_toArray, List.getElem_cons_zero, List.getElem_cons_succ]
            refine zqk 6 rfl hH3 ?_
            simp only [Act.put, List.setIfInBounds_toArray, List.set_cons_zero, List.set_cons_succ, List.getElem_toArray, List.getElem_cons_zero, List.getElem_cons_succ]
            refine wpAnyH_done (by kernel_rfl) ?_ _
            go_wp2_with fail
            have y0 := l9.cell 0 _ rfl
            have y1 := l9.cell 1 _ rfl
            have y2 := l9.cell 2 _ rfl
            refine bodyPost_ret (by simp [results, Tryz.results6, go_sem, y0, y1, y2]; try rfl) rfl ?_
            exact psZ _ _ _ b9
          | true =>
            rw [hq] at hA
            rw [if_neg (by decide)] at hA
            subst hA
            have p0 := H11.out.lp.cell 0 _ rfl
            have p1 := H11.out.lp.cell 1 _ rfl
            have p2 := H11.out.lp.cell 2 _ rfl
            have c0 := H11.out.l2.cell 0 _ rfl
            have f0 := H11.out.l2.free 0
            have c1 := H11.out.l2.cell 1 _ rfl
            have f1 := H11.out.l2.free 1
            have c2 := H11.out.l2.cell 2 _ rfl
            have f2 := H11.out.l2.free 2
            go_wp2_with fail
            obtain ⟨W9, e9, l9, b9, o9⟩ := set3 H11.out.l2 rfl (Nat.le_refl _) H11.out.bl (.string d.t) (.int .i64 rp) (.slice a5 l.length c5)
            rw [← e9]
            have y0 := l9.cell 0 _ rfl
            have y1 := l9.cell 1 _ rfl
            have y2 := l9.cell 2 _ rfl
            refine bodyPost_ret (by simp [results, Tryz.results6, go_sem, y0, y1, y2]; try rfl) rfl ?_
            have hrow : W9.ownsRow N 60 3 (.slice a5 l.length c5) rs.length (rs.flatMap stl) := ownsRow_same H11.out.st fun q hq => o9 q (by have := (World.ownsRow.lt H11.out.st q hq).1; have := H11.out.o1; have := H11.out.o2; have := H11.out.o3; omega)
            have hN : w.heap.size ≤ N := by have := H11.out.o1; have := H11.out.o2; have := H11.out.o3; omega
            exact ⟨_, rfl, ownsRow_weak hrow hN, b9⟩
end Go.Proofs.YtcnnpohnfoaceaaGreatDoor
