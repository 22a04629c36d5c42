/-
  ManifestOne: the law.
-/
import Derived.Test.YtfccimacloagiaaDoorMpb
namespace Go.Proofs.YtfccimacloagiaaDoor
open Go Go.RowKit
open Wb

theorem bs_take {w : World} {ao : Option Addr} {cap : Nat} {l : List Nat} (h : Bs w (.slice ao l.length cap) l) (n : Nat) (hn : n ≤ l.length) : Bs w (.slice ao n cap) (l.take n) := by
  obtain ⟨ao', cap', e, h1, h2, h3, hc⟩ := h.shape
  simp only [Value.slice.injEq] at e
  obtain ⟨rfl, _, rfl⟩ := e
  refine ⟨⟨ao, cap, by rw [List.length_take, Nat.min_eq_left hn], by rw [List.length_take]; omega, h2, h3, fun hne => ?_⟩, fun x hx => h.good x (List.mem_of_mem_take hx)⟩
  obtain ⟨b, off, e, hcell⟩ := hc (fun e => hne (by rw [e]; simp))
  refine ⟨b, off, e, fun j hj => ?_⟩
  rw [List.length_take] at hj
  rw [hcell j (by omega)]
  simp
theorem decM_zero (b : List Nat) (h : (decM b).2 ≠ 0) : (decM b).1 = zeroM := by
  unfold decM at h ⊢
  split
  · rfl
  · split
    · rfl
    · split
      · rfl
      · split
        · rfl
        · rename_i h1 h2 h3 h4
          rw [if_neg h1, if_neg h2, if_neg h3, if_neg h4] at h
          exact absurd rfl h
set_option maxRecDepth 100000 in
set_option maxHeartbeats 8000000 in
theorem mone_any (m : Mf) (v bw : Value) (b : List Nat) (w : World) (hT : Tab w) (h : SgsAt w v m.l) (hb : Bs w bw b) (ht : m.t ≤ 9223372036854775807) :
    Calls Tryd.prog 3 #[mfv m v, bw] w fun e w' => e = .returned (.bool true) ∧ Below w.heap.size w w' := by
  have HTB : Hid (∀ w', Below w.heap.size w w' → Tab w') := fun w' hb => hT.kept hb
  obtain ⟨ab, cb, rfl, hb1, hb2, hb3, _⟩ := hb.shape
  unfold maxLen at hb2
  have HBS : Hid (∀ w', Below w.heap.size w w' → Bs w' (.slice ab b.length cb) b) := fun w' h => hb.kept h
  have HCU : Hid (∀ w', Below w.heap.size w w' → Calls Tryd.prog 7 #[mfv m v] w' fun e w'' => ∃ v', e = .returned (mfv ⟨m.g, m.v, m.x, m.t, m.l.take 300⟩ v') ∧ (∀ w2, Below w.heap.size w w2 → SgsAt w2 v' (m.l.take 300)) ∧ Below w'.heap.size w' w'') := fun w' _ => cutSegs_any m v w w' h
  have HSM : Hid (∀ w', Calls Tryd.prog 9 #[] w' fun e w'' => ∃ v, e = .returned (.agg #[.int .i64 1, .int .i64 3, .int .i64 2, .int .i64 0, v]) ∧ SgsAt w'' v smallM.l ∧ Below w'.heap.size w' w'') := fun w' => small_any w'
  have HCS : Hid (∀ w' v, SgsAt w' v smallM.l → Calls Tryd.prog 8 #[.agg #[.int .i64 1, .int .i64 3, .int .i64 2, .int .i64 0, v]] w' fun e w'' => e = .returned (.int .i64 0) ∧ Below w'.heap.size w' w'') := fun w' v hs => by
    have h9 := check_any smallM v w' hs
    rw [small_ok] at h9
    exact h9
  obtain ⟨ao, cap, rfl, _, _, _⟩ := h
  obtain ⟨g, vv, x, t, l⟩ := m
  unfold mfv at HCU ⊢
  simp only at *
  generalize l.take 300 = lt at *
  have HMB : Hid (∀ w', Below (w.alloc (.cells #[.int .i64 g, .int .i64 vv, .int .i64 x, .int .i64 t, .slice ao l.length cap] 24)).heap.size (w.alloc (.cells #[.int .i64 g, .int .i64 vv, .int .i64 x, .int .i64 t, .slice ao l.length cap] 24)) w' → Mb w' w.heap.size ⟨g, vv, x, t, []⟩ (.slice ao l.length cap)) := fun w' h => (mb_new w ⟨g, vv, x, t, []⟩ _ 24).block (h.block _ (by rw [heap1]; omega))
  have HW0 : Hid (∀ w', Below (w.alloc (.cells #[.int .i64 g, .int .i64 vv, .int .i64 x, .int .i64 t, .slice ao l.length cap] 24)).heap.size (w.alloc (.cells #[.int .i64 g, .int .i64 vv, .int .i64 x, .int .i64 t, .slice ao l.length cap] 24)) w' → Below w.heap.size w w') := fun w' h => andThen (up0 w _) h
  have HOK : Hid (ok b) := hb.good
  clear hb hT
  go_enter Tryd.func3, Tryd.ntmps3
  go_wp2_with fail
  refine (HCU.out _ (up0 _ _)).mono ?_
  rintro e w1 ⟨v1, rfl, hs1, b1⟩
  obtain ⟨a1, c1, e1⟩ : ∃ a1, ∃ c1 : Nat, v1 = .slice a1 lt.length c1 := by
    obtain ⟨a1, c1, e, _⟩ := hs1 w (Below.refl _ _)
    exact ⟨a1, c1, e⟩
  subst e1
  have hm1 := HMB.out _ b1
  obtain ⟨r0, r1, r2, r3, r4⟩ := hm1.cells
  simp only at r0 r1 r2 r3 r4
  have z0 := hm1.frozen 0
  have z1 := hm1.frozen 1
  have z2 := hm1.frozen 2
  have z3 := hm1.frozen 3
  have z4 := hm1.frozen 4
  obtain ⟨W, hW⟩ : ∃ W, W = store5 w1 w.heap.size ⟨g, vv, x, t, lt⟩ (.slice a1 lt.length c1) := ⟨_, rfl⟩
  have hWM : Mb W w.heap.size ⟨g, vv, x, t, lt⟩ (.slice a1 lt.length c1) := by rw [hW]; exact hm1.store ⟨g, vv, x, t, lt⟩ _
  have hWB : Below w.heap.size w W := by rw [hW]; exact store5_below (HW0.out _ b1) (Nat.le_refl _) _ _
  have hWS : W.heap.size = w1.heap.size := by rw [hW]; simp [store5, World.setCell]
  have hWL : w.heap.size < W.heap.size := by
    have h9 := b1.size
    rw [heap1] at h9
    omega
  have hWG : SgsAt W (.slice a1 lt.length c1) lt := hs1 W hWB
  have HBX : Hid (∀ w', Below W.heap.size W w' → w'.cell? ⟨w.heap.size, 0, none⟩ = some (.int .i64 g) ∧ w'.cell? ⟨w.heap.size, 1, none⟩ = some (.int .i64 vv) ∧ w'.cell? ⟨w.heap.size, 2, none⟩ = some (.int .i64 x) ∧ w'.cell? ⟨w.heap.size, 3, none⟩ = some (.int .i64 t) ∧ w'.cell? ⟨w.heap.size, 4, none⟩ = some (.slice a1 lt.length c1)) := fun w' hb => (hWM.block (hb.block _ hWL)).cells
  have HBE : Hid (∀ w', Below W.heap.size W w' → Below w.heap.size w w') := fun w' hb => andThen hWB hb
  have HLT : Hid (∀ w', Below W.heap.size W w' → SgsAt w' (.slice a1 lt.length c1) lt) := fun w' hb => hWG.kept hb
  have HWE : Hid (W = (((((w1.setCell ⟨w.heap.size, 0, none⟩ (.int .i64 g)).setCell ⟨w.heap.size, 1, none⟩ (.int .i64 vv)).setCell ⟨w.heap.size, 2, none⟩ (.int .i64 x)).setCell ⟨w.heap.size, 3, none⟩ (.int .i64 t)).setCell ⟨w.heap.size, 4, none⟩ (.slice a1 lt.length c1))) := hW
  clear hm1 b1 hs1 HMB HCU hW hWM hWB hWS hWL hWG HW0
  by_cases h6 : 65536 < b.length
  · obtain ⟨bb, hbb⟩ : ∃ bb, bb = b.take 65536 := ⟨_, rfl⟩
    have HBB : Hid (∀ w', Below w.heap.size w w' → Bs w' (.slice ab 65536 cb) bb) := fun w' hb => by
      rw [hbb]
      exact bs_take (HBS.out _ hb) 65536 (by omega)
    have HBLN : Hid (bb.length ≤ 65536 ∧ ok bb) := by
      rw [hbb]
      exact ⟨by rw [List.length_take]; omega, fun x hx => HOK.out x (List.mem_of_mem_take hx)⟩
    rcases hrm : decM bb with ⟨rm, re⟩
    have HRM : Hid (re = 0 → chkM rm = 0 ∧ rm.t ≤ 9223372036854775807 ∧ encM rm = bb) := fun h0 => by
      have h9 := enc_dec bb HBLN.out.2 rm (by rw [hrm, h0])
      exact ⟨h9.1, h9.2.2, h9.2.1⟩
    have HRZ : Hid (re ≠ 0 → rm = zeroM) := fun h0 => by
      have h9 := decM_zero bb (by rw [hrm]; exact h0)
      rw [hrm] at h9
      exact h9
    have HDB : Hid (∀ w', Below W.heap.size W w' → Calls Tryd.prog 11 #[.slice ab 65536 cb] w' fun e w'' => ∃ sv, e = .returned (.tuple #[mfv rm sv, .int .i64 (re : Int)]) ∧ SgR w'.heap.size w'' sv rm.l ∧ Below w'.heap.size w' w'') := fun w' hb => by
      have h9 := decode_any _ bb w' (HTB.out _ (HBE.out _ hb)) (HBB.out _ (HBE.out _ hb)) (by have := HBLN.out.1; omega)
      rw [hrm] at h9
      exact h9
    clear hrm hbb HBS
    unfold mfv at HDB
    go_wp2_with fail
    rw [← HWE.out]
    clear HWE r0 r1 r2 r3 r4 z0 z1 z2 z3 z4
    refine (HSM.out W).mono ?_
    rintro e w2 ⟨vs, rfl, hss, b2⟩
    obtain ⟨aS, cs, es⟩ : ∃ aS, ∃ cs : Nat, vs = .slice aS 1 cs := by
      obtain ⟨aS, cs, e, _⟩ := hss
      exact ⟨aS, cs, e⟩
    subst es
    have HS2 : Hid (SgsAt w2 (.slice aS 1 cs) smallM.l) := hss
    clear hss
    go_wp2_with fail
    refine (HCS.out _ _ HS2.out).mono ?_
    rintro e w3 ⟨rfl, b3⟩
    have B3 := andThen b2 b3
    clear b2 b3 HS2
    obtain ⟨q0, q1, q2, q3, q4⟩ := HBX.out _ B3
    by_cases hc : chkM ⟨g, vv, x, t, lt⟩ = 0
    · have HEG : Hid (Calls Tryd.prog 10 #[.agg #[.int .i64 g, .int .i64 vv, .int .i64 x, .int .i64 t, .slice a1 lt.length c1]] w3 fun e w' => ∃ v', e = .returned (.tuple #[v', .int .i64 0]) ∧ Own w3.heap.size w' v' (encM ⟨g, vv, x, t, lt⟩) ∧ Below w3.heap.size w3 w') := encode_good ⟨g, vv, x, t, lt⟩ _ w3 (HTB.out _ (HBE.out _ B3)) (HLT.out _ B3) hc ht
      have HCK : Hid (∀ w', Below W.heap.size W w' → Calls Tryd.prog 8 #[.agg #[.int .i64 g, .int .i64 vv, .int .i64 x, .int .i64 t, .slice a1 lt.length c1]] w' fun e w'' => e = .returned (.int .i64 0) ∧ Below w'.heap.size w' w'') := fun w' hb => by
        have h9 := check_any ⟨g, vv, x, t, lt⟩ _ w' (HLT.out _ hb)
        rw [hc] at h9
        exact h9
      have HDC : Hid (∀ w' cv, Below W.heap.size W w' → Bs w' cv (encM ⟨g, vv, x, t, lt⟩) → Calls Tryd.prog 11 #[cv] w' fun e w'' => ∃ sv, e = .returned (.tuple #[mfv ⟨g, vv, x, t, lt⟩ sv, .int .i64 0]) ∧ SgR w'.heap.size w'' sv lt ∧ Below w'.heap.size w' w'') := fun w' cv hb hs => by
        have h9 := decode_any cv (encM ⟨g, vv, x, t, lt⟩) w' (HTB.out _ (HBE.out _ hb)) hs (by
          have := bodyM_len hc ht
          unfold encM
          rw [fr_length]
          have h8 := Wn.uint_len3 (bodyM ⟨g, vv, x, t, lt⟩).length (by omega)
          omega)
        rw [dec_enc _ hc ht] at h9
        exact h9
      have HSY : Hid (∀ w' sv, Below W.heap.size W w' → SgsAt w' sv lt → Calls Tryd.prog 12 #[mfv ⟨g, vv, x, t, lt⟩ sv, .agg #[.int .i64 g, .int .i64 vv, .int .i64 x, .int .i64 t, .slice a1 lt.length c1]] w' fun e w'' => e = .returned (.bool true) ∧ Below w'.heap.size w' w'') := fun w' sv hb hs => same_yes ⟨g, vv, x, t, lt⟩ sv _ w' hs (HLT.out _ hb)
      clear hc
      unfold mfv at HDC HSY
      simp only at HDC HSY
      generalize encM ⟨g, vv, x, t, lt⟩ = enc at *
      go_wp2_with fail
      refine HEG.out.mono ?_
      rintro e w4 ⟨v4, rfl, ho4, b4⟩
      obtain ⟨a4, n4, c4, e4⟩ := own_slice ho4
      subst e4
      have B4 := andThen B3 b4
      have HO4 : Hid (Own w3.heap.size w4 (.slice a4 n4 c4) enc) := ho4
      obtain ⟨s0, s1, s2, s3, s4⟩ := HBX.out _ B4
      clear q0 q1 q2 q3 q4 b4 HEG ho4
      go_wp2_with fail
      refine (HCK.out _ B4).mono ?_
      rintro e w5 ⟨rfl, b5⟩
      have B5 := andThen B4 b5
      have HO5 : Hid (Bs w5 (.slice a4 n4 c4) enc) := (HO4.out.kept b5).bs
      clear s0 s1 s2 s3 s4 b5 HCK HO4
      go_wp2_with fail
      refine (HDC.out _ _ B5 HO5.out).mono ?_
      rintro e w6 ⟨sv, rfl, hs6, b6⟩
      have B6 := andThen B5 b6
      obtain ⟨a6, c6, e6⟩ : ∃ a6, ∃ c6 : Nat, sv = .slice a6 lt.length c6 := by
        obtain ⟨a6, c6, e, _⟩ := hs6.at
        exact ⟨a6, c6, e⟩
      subst e6
      have HS6 : Hid (∀ o, SgsAt (w6.alloc o) (.slice a6 lt.length c6) lt ∧ Below W.heap.size W (w6.alloc o)) := fun o => ⟨(hs6.kept (up0 _ _)).at, up B6 o⟩
      have s0 := fun o => (HBX.out _ (up B6 o)).1
      have s1 := fun o => (HBX.out _ (up B6 o)).2.1
      have s2 := fun o => (HBX.out _ (up B6 o)).2.2.1
      have s3 := fun o => (HBX.out _ (up B6 o)).2.2.2.1
      have s4 := fun o => (HBX.out _ (up B6 o)).2.2.2.2
      clear hs6 b6 HDC HO5 B6
      go_wp2_with fail
      refine (HSY.out _ _ (HS6.out _).2 (HS6.out _).1).mono ?_
      rintro e w7 ⟨rfl, b7⟩
      have B7 := andThen (HS6.out _).2 b7
      clear s0 s1 s2 s3 s4 b7 HS6 HSY
      go_wp2_with fail
      refine (HDB.out _ B7).mono ?_
      rintro e wd ⟨sv2, rfl, hsd, bd⟩
      have Bd := andThen B7 bd
      obtain ⟨as2, cs2, es2⟩ : ∃ as2, ∃ cs2 : Nat, sv2 = .slice as2 rm.l.length cs2 := by
        obtain ⟨as2, cs2, e, _⟩ := hsd.at
        exact ⟨as2, cs2, e⟩
      subst es2
      have HSD : Hid (∀ o, SgsAt (wd.alloc o) (.slice as2 rm.l.length cs2) rm.l ∧ Below W.heap.size W (wd.alloc o)) := fun o => ⟨(hsd.kept (up0 _ _)).at, up Bd o⟩
      clear hsd bd B7
      by_cases hre : re = 0
      · subst hre
        obtain ⟨hrc, hrt, hre⟩ := HRM.out rfl
        have HEG : Hid (∀ w' sv, Below W.heap.size W w' → SgsAt w' sv rm.l → Calls Tryd.prog 10 #[mfv rm sv] w' fun e w'' => ∃ v', e = .returned (.tuple #[v', .int .i64 0]) ∧ Own w'.heap.size w'' v' bb ∧ Below w'.heap.size w' w'') := fun w' sv hb hs => by
          have h9 := encode_good rm sv w' (HTB.out _ (HBE.out _ hb)) hs hrc hrt
          rw [hre] at h9
          exact h9
        clear hrc hrt hre HRM
        obtain ⟨rg, rv, rx, rt, rl⟩ := rm
        simp only at *
        unfold mfv at *
        go_wp2_with fail
        refine (HEG.out _ _ (HSD.out _).2 (HSD.out _).1).mono ?_
        rintro e we ⟨v9, rfl, ho9, b9⟩
        have B9 := andThen (HSD.out _).2 b9
        obtain ⟨a9, n9, c9, e9⟩ := own_slice ho9
        subst e9
        have HSB : Hid (Calls Tryd.prog 13 #[(.slice ab 65536 cb), .slice a9 n9 c9] we fun e w'' => e = .returned (.bool true) ∧ Below we.heap.size we w'') := by
          have h9 := sameB_any (.slice ab 65536 cb) (.slice a9 n9 c9) bb bb we (HBB.out _ (HBE.out _ B9)) ho9.bs
          rw [decide_eq_true rfl] at h9
          exact h9
        clear ho9 b9 HSD HEG
        go_wp2_with fail
        refine HSB.out.mono ?_
        rintro e wf ⟨rfl, bf⟩
        have HB10 := HBE.out _ (andThen B9 bf)
        clear bf B9
        go_wp2
        go_ret
        exact ⟨rfl, HB10⟩
      · have hrz : ¬ (re : Int) = 0 := by omega
        have hr0 := HRZ.out hre
        subst hr0
        have HSY : Hid (∀ w', Below W.heap.size W w' → SgsAt w' (.slice as2 zeroM.l.length cs2) zeroM.l → Calls Tryd.prog 12 #[mfv zeroM (.slice as2 zeroM.l.length cs2), mfv zeroM (.slice none 0 0)] w' fun e w'' => e = .returned (.bool true) ∧ Below w'.heap.size w' w'') := fun w' _ hs => same_yes zeroM _ _ w' hs ⟨none, 0, rfl, Nat.le_refl _, Nat.zero_le _, fun k s hk => by simp [zeroM] at hk⟩
        clear HRM HRZ hre
        unfold mfv zeroM at *
        simp only [List.length_nil] at *
        go_wp2_with fail
        refine (HSY.out _ (HSD.out _).2 (HSD.out _).1).mono ?_
        rintro e we ⟨rfl, b9⟩
        have HB10 := HBE.out _ (andThen (HSD.out _).2 b9)
        clear HSD HSY b9
        go_wp2
        go_ret
        exact ⟨rfl, HB10⟩
    · have HEG : Hid (Calls Tryd.prog 10 #[.agg #[.int .i64 g, .int .i64 vv, .int .i64 x, .int .i64 t, .slice a1 lt.length c1]] w3 fun e w' => e = .returned (.tuple #[.slice none 0 0, .int .i64 (chkM ⟨g, vv, x, t, lt⟩ : Int)]) ∧ Below w3.heap.size w3 w') := encode_bad ⟨g, vv, x, t, lt⟩ _ w3 (HLT.out _ B3) hc
      have HCK : Hid (∀ w', Below W.heap.size W w' → Calls Tryd.prog 8 #[.agg #[.int .i64 g, .int .i64 vv, .int .i64 x, .int .i64 t, .slice a1 lt.length c1]] w' fun e w'' => e = .returned (.int .i64 (chkM ⟨g, vv, x, t, lt⟩ : Int)) ∧ Below w'.heap.size w' w'') := fun w' hb => check_any ⟨g, vv, x, t, lt⟩ _ w' (HLT.out _ hb)
      obtain ⟨ce, hce⟩ : ∃ ce : Int, ce = (chkM ⟨g, vv, x, t, lt⟩ : Int) := ⟨_, rfl⟩
      have hcz : ¬ ce = 0 := by omega
      rw [← hce] at HEG HCK
      clear hc hce
      go_wp2_with fail
      refine HEG.out.mono ?_
      rintro e w4 ⟨rfl, b4⟩
      have B4 := andThen B3 b4
      obtain ⟨s0, s1, s2, s3, s4⟩ := HBX.out _ B4
      clear q0 q1 q2 q3 q4 b4 HEG
      go_wp2_with fail
      refine (HCK.out _ B4).mono ?_
      rintro e w5 ⟨rfl, b5⟩
      have B5 := andThen B4 b5
      clear s0 s1 s2 s3 s4 b5 HCK
      go_wp2_with fail
      refine (HDB.out _ B5).mono ?_
      rintro e wd ⟨sv2, rfl, hsd, bd⟩
      have Bd := andThen B5 bd
      obtain ⟨as2, cs2, es2⟩ : ∃ as2, ∃ cs2 : Nat, sv2 = .slice as2 rm.l.length cs2 := by
        obtain ⟨as2, cs2, e, _⟩ := hsd.at
        exact ⟨as2, cs2, e⟩
      subst es2
      have HSD : Hid (∀ o, SgsAt (wd.alloc o) (.slice as2 rm.l.length cs2) rm.l ∧ Below W.heap.size W (wd.alloc o)) := fun o => ⟨(hsd.kept (up0 _ _)).at, up Bd o⟩
      clear hsd bd B5
      by_cases hre : re = 0
      · subst hre
        obtain ⟨hrc, hrt, hre⟩ := HRM.out rfl
        have HEG : Hid (∀ w' sv, Below W.heap.size W w' → SgsAt w' sv rm.l → Calls Tryd.prog 10 #[mfv rm sv] w' fun e w'' => ∃ v', e = .returned (.tuple #[v', .int .i64 0]) ∧ Own w'.heap.size w'' v' bb ∧ Below w'.heap.size w' w'') := fun w' sv hb hs => by
          have h9 := encode_good rm sv w' (HTB.out _ (HBE.out _ hb)) hs hrc hrt
          rw [hre] at h9
          exact h9
        clear hrc hrt hre HRM
        obtain ⟨rg, rv, rx, rt, rl⟩ := rm
        simp only at *
        unfold mfv at *
        go_wp2_with fail
        refine (HEG.out _ _ (HSD.out _).2 (HSD.out _).1).mono ?_
        rintro e we ⟨v9, rfl, ho9, b9⟩
        have B9 := andThen (HSD.out _).2 b9
        obtain ⟨a9, n9, c9, e9⟩ := own_slice ho9
        subst e9
        have HSB : Hid (Calls Tryd.prog 13 #[(.slice ab 65536 cb), .slice a9 n9 c9] we fun e w'' => e = .returned (.bool true) ∧ Below we.heap.size we w'') := by
          have h9 := sameB_any (.slice ab 65536 cb) (.slice a9 n9 c9) bb bb we (HBB.out _ (HBE.out _ B9)) ho9.bs
          rw [decide_eq_true rfl] at h9
          exact h9
        clear ho9 b9 HSD HEG
        go_wp2_with fail
        refine HSB.out.mono ?_
        rintro e wf ⟨rfl, bf⟩
        have HB10 := HBE.out _ (andThen B9 bf)
        clear bf B9
        go_wp2
        go_ret
        exact ⟨rfl, HB10⟩
      · have hrz : ¬ (re : Int) = 0 := by omega
        have hr0 := HRZ.out hre
        subst hr0
        have HSY : Hid (∀ w', Below W.heap.size W w' → SgsAt w' (.slice as2 zeroM.l.length cs2) zeroM.l → Calls Tryd.prog 12 #[mfv zeroM (.slice as2 zeroM.l.length cs2), mfv zeroM (.slice none 0 0)] w' fun e w'' => e = .returned (.bool true) ∧ Below w'.heap.size w' w'') := fun w' _ hs => same_yes zeroM _ _ w' hs ⟨none, 0, rfl, Nat.le_refl _, Nat.zero_le _, fun k s hk => by simp [zeroM] at hk⟩
        clear HRM HRZ hre
        unfold mfv zeroM at *
        simp only [List.length_nil] at *
        go_wp2_with fail
        refine (HSY.out _ (HSD.out _).2 (HSD.out _).1).mono ?_
        rintro e we ⟨rfl, b9⟩
        have HB10 := HBE.out _ (andThen (HSD.out _).2 b9)
        clear HSD HSY b9
        go_wp2
        go_ret
        exact ⟨rfl, HB10⟩
  · obtain ⟨bb, hbb⟩ : ∃ bb, bb = b := ⟨_, rfl⟩
    have HBB : Hid (∀ w', Below w.heap.size w w' → Bs w' (.slice ab b.length cb) bb) := fun w' hb => by
      rw [hbb]
      exact HBS.out _ hb
    have HBLN : Hid (bb.length ≤ 65536 ∧ ok bb) := by
      rw [hbb]
      exact ⟨by omega, HOK.out⟩
    rcases hrm : decM bb with ⟨rm, re⟩
    have HRM : Hid (re = 0 → chkM rm = 0 ∧ rm.t ≤ 9223372036854775807 ∧ encM rm = bb) := fun h0 => by
      have h9 := enc_dec bb HBLN.out.2 rm (by rw [hrm, h0])
      exact ⟨h9.1, h9.2.2, h9.2.1⟩
    have HRZ : Hid (re ≠ 0 → rm = zeroM) := fun h0 => by
      have h9 := decM_zero bb (by rw [hrm]; exact h0)
      rw [hrm] at h9
      exact h9
    have HDB : Hid (∀ w', Below W.heap.size W w' → Calls Tryd.prog 11 #[.slice ab b.length cb] w' fun e w'' => ∃ sv, e = .returned (.tuple #[mfv rm sv, .int .i64 (re : Int)]) ∧ SgR w'.heap.size w'' sv rm.l ∧ Below w'.heap.size w' w'') := fun w' hb => by
      have h9 := decode_any _ bb w' (HTB.out _ (HBE.out _ hb)) (HBB.out _ (HBE.out _ hb)) (by have := HBLN.out.1; omega)
      rw [hrm] at h9
      exact h9
    clear hrm hbb HBS
    unfold mfv at HDB
    go_wp2_with fail
    rw [← HWE.out]
    clear HWE r0 r1 r2 r3 r4 z0 z1 z2 z3 z4
    refine (HSM.out W).mono ?_
    rintro e w2 ⟨vs, rfl, hss, b2⟩
    obtain ⟨aS, cs, es⟩ : ∃ aS, ∃ cs : Nat, vs = .slice aS 1 cs := by
      obtain ⟨aS, cs, e, _⟩ := hss
      exact ⟨aS, cs, e⟩
    subst es
    have HS2 : Hid (SgsAt w2 (.slice aS 1 cs) smallM.l) := hss
    clear hss
    go_wp2_with fail
    refine (HCS.out _ _ HS2.out).mono ?_
    rintro e w3 ⟨rfl, b3⟩
    have B3 := andThen b2 b3
    clear b2 b3 HS2
    obtain ⟨q0, q1, q2, q3, q4⟩ := HBX.out _ B3
    by_cases hc : chkM ⟨g, vv, x, t, lt⟩ = 0
    · have HEG : Hid (Calls Tryd.prog 10 #[.agg #[.int .i64 g, .int .i64 vv, .int .i64 x, .int .i64 t, .slice a1 lt.length c1]] w3 fun e w' => ∃ v', e = .returned (.tuple #[v', .int .i64 0]) ∧ Own w3.heap.size w' v' (encM ⟨g, vv, x, t, lt⟩) ∧ Below w3.heap.size w3 w') := encode_good ⟨g, vv, x, t, lt⟩ _ w3 (HTB.out _ (HBE.out _ B3)) (HLT.out _ B3) hc ht
      have HCK : Hid (∀ w', Below W.heap.size W w' → Calls Tryd.prog 8 #[.agg #[.int .i64 g, .int .i64 vv, .int .i64 x, .int .i64 t, .slice a1 lt.length c1]] w' fun e w'' => e = .returned (.int .i64 0) ∧ Below w'.heap.size w' w'') := fun w' hb => by
        have h9 := check_any ⟨g, vv, x, t, lt⟩ _ w' (HLT.out _ hb)
        rw [hc] at h9
        exact h9
      have HDC : Hid (∀ w' cv, Below W.heap.size W w' → Bs w' cv (encM ⟨g, vv, x, t, lt⟩) → Calls Tryd.prog 11 #[cv] w' fun e w'' => ∃ sv, e = .returned (.tuple #[mfv ⟨g, vv, x, t, lt⟩ sv, .int .i64 0]) ∧ SgR w'.heap.size w'' sv lt ∧ Below w'.heap.size w' w'') := fun w' cv hb hs => by
        have h9 := decode_any cv (encM ⟨g, vv, x, t, lt⟩) w' (HTB.out _ (HBE.out _ hb)) hs (by
          have := bodyM_len hc ht
          unfold encM
          rw [fr_length]
          have h8 := Wn.uint_len3 (bodyM ⟨g, vv, x, t, lt⟩).length (by omega)
          omega)
        rw [dec_enc _ hc ht] at h9
        exact h9
      have HSY : Hid (∀ w' sv, Below W.heap.size W w' → SgsAt w' sv lt → Calls Tryd.prog 12 #[mfv ⟨g, vv, x, t, lt⟩ sv, .agg #[.int .i64 g, .int .i64 vv, .int .i64 x, .int .i64 t, .slice a1 lt.length c1]] w' fun e w'' => e = .returned (.bool true) ∧ Below w'.heap.size w' w'') := fun w' sv hb hs => same_yes ⟨g, vv, x, t, lt⟩ sv _ w' hs (HLT.out _ hb)
      clear hc
      unfold mfv at HDC HSY
      simp only at HDC HSY
      generalize encM ⟨g, vv, x, t, lt⟩ = enc at *
      go_wp2_with fail
      refine HEG.out.mono ?_
      rintro e w4 ⟨v4, rfl, ho4, b4⟩
      obtain ⟨a4, n4, c4, e4⟩ := own_slice ho4
      subst e4
      have B4 := andThen B3 b4
      have HO4 : Hid (Own w3.heap.size w4 (.slice a4 n4 c4) enc) := ho4
      obtain ⟨s0, s1, s2, s3, s4⟩ := HBX.out _ B4
      clear q0 q1 q2 q3 q4 b4 HEG ho4
      go_wp2_with fail
      refine (HCK.out _ B4).mono ?_
      rintro e w5 ⟨rfl, b5⟩
      have B5 := andThen B4 b5
      have HO5 : Hid (Bs w5 (.slice a4 n4 c4) enc) := (HO4.out.kept b5).bs
      clear s0 s1 s2 s3 s4 b5 HCK HO4
      go_wp2_with fail
      refine (HDC.out _ _ B5 HO5.out).mono ?_
      rintro e w6 ⟨sv, rfl, hs6, b6⟩
      have B6 := andThen B5 b6
      obtain ⟨a6, c6, e6⟩ : ∃ a6, ∃ c6 : Nat, sv = .slice a6 lt.length c6 := by
        obtain ⟨a6, c6, e, _⟩ := hs6.at
        exact ⟨a6, c6, e⟩
      subst e6
      have HS6 : Hid (∀ o, SgsAt (w6.alloc o) (.slice a6 lt.length c6) lt ∧ Below W.heap.size W (w6.alloc o)) := fun o => ⟨(hs6.kept (up0 _ _)).at, up B6 o⟩
      have s0 := fun o => (HBX.out _ (up B6 o)).1
      have s1 := fun o => (HBX.out _ (up B6 o)).2.1
      have s2 := fun o => (HBX.out _ (up B6 o)).2.2.1
      have s3 := fun o => (HBX.out _ (up B6 o)).2.2.2.1
      have s4 := fun o => (HBX.out _ (up B6 o)).2.2.2.2
      clear hs6 b6 HDC HO5 B6
      go_wp2_with fail
      refine (HSY.out _ _ (HS6.out _).2 (HS6.out _).1).mono ?_
      rintro e w7 ⟨rfl, b7⟩
      have B7 := andThen (HS6.out _).2 b7
      clear s0 s1 s2 s3 s4 b7 HS6 HSY
      go_wp2_with fail
      refine (HDB.out _ B7).mono ?_
      rintro e wd ⟨sv2, rfl, hsd, bd⟩
      have Bd := andThen B7 bd
      obtain ⟨as2, cs2, es2⟩ : ∃ as2, ∃ cs2 : Nat, sv2 = .slice as2 rm.l.length cs2 := by
        obtain ⟨as2, cs2, e, _⟩ := hsd.at
        exact ⟨as2, cs2, e⟩
      subst es2
      have HSD : Hid (∀ o, SgsAt (wd.alloc o) (.slice as2 rm.l.length cs2) rm.l ∧ Below W.heap.size W (wd.alloc o)) := fun o => ⟨(hsd.kept (up0 _ _)).at, up Bd o⟩
      clear hsd bd B7
      by_cases hre : re = 0
      · subst hre
        obtain ⟨hrc, hrt, hre⟩ := HRM.out rfl
        have HEG : Hid (∀ w' sv, Below W.heap.size W w' → SgsAt w' sv rm.l → Calls Tryd.prog 10 #[mfv rm sv] w' fun e w'' => ∃ v', e = .returned (.tuple #[v', .int .i64 0]) ∧ Own w'.heap.size w'' v' bb ∧ Below w'.heap.size w' w'') := fun w' sv hb hs => by
          have h9 := encode_good rm sv w' (HTB.out _ (HBE.out _ hb)) hs hrc hrt
          rw [hre] at h9
          exact h9
        clear hrc hrt hre HRM
        obtain ⟨rg, rv, rx, rt, rl⟩ := rm
        simp only at *
        unfold mfv at *
        go_wp2_with fail
        refine (HEG.out _ _ (HSD.out _).2 (HSD.out _).1).mono ?_
        rintro e we ⟨v9, rfl, ho9, b9⟩
        have B9 := andThen (HSD.out _).2 b9
        obtain ⟨a9, n9, c9, e9⟩ := own_slice ho9
        subst e9
        have HSB : Hid (Calls Tryd.prog 13 #[(.slice ab b.length cb), .slice a9 n9 c9] we fun e w'' => e = .returned (.bool true) ∧ Below we.heap.size we w'') := by
          have h9 := sameB_any (.slice ab b.length cb) (.slice a9 n9 c9) bb bb we (HBB.out _ (HBE.out _ B9)) ho9.bs
          rw [decide_eq_true rfl] at h9
          exact h9
        clear ho9 b9 HSD HEG
        go_wp2_with fail
        refine HSB.out.mono ?_
        rintro e wf ⟨rfl, bf⟩
        have HB10 := HBE.out _ (andThen B9 bf)
        clear bf B9
        go_wp2
        go_ret
        exact ⟨rfl, HB10⟩
      · have hrz : ¬ (re : Int) = 0 := by omega
        have hr0 := HRZ.out hre
        subst hr0
        have HSY : Hid (∀ w', Below W.heap.size W w' → SgsAt w' (.slice as2 zeroM.l.length cs2) zeroM.l → Calls Tryd.prog 12 #[mfv zeroM (.slice as2 zeroM.l.length cs2), mfv zeroM (.slice none 0 0)] w' fun e w'' => e = .returned (.bool true) ∧ Below w'.heap.size w' w'') := fun w' _ hs => same_yes zeroM _ _ w' hs ⟨none, 0, rfl, Nat.le_refl _, Nat.zero_le _, fun k s hk => by simp [zeroM] at hk⟩
        clear HRM HRZ hre
        unfold mfv zeroM at *
        simp only [List.length_nil] at *
        go_wp2_with fail
        refine (HSY.out _ (HSD.out _).2 (HSD.out _).1).mono ?_
        rintro e we ⟨rfl, b9⟩
        have HB10 := HBE.out _ (andThen (HSD.out _).2 b9)
        clear HSD HSY b9
        go_wp2
        go_ret
        exact ⟨rfl, HB10⟩
    · have HEG : Hid (Calls Tryd.prog 10 #[.agg #[.int .i64 g, .int .i64 vv, .int .i64 x, .int .i64 t, .slice a1 lt.length c1]] w3 fun e w' => e = .returned (.tuple #[.slice none 0 0, .int .i64 (chkM ⟨g, vv, x, t, lt⟩ : Int)]) ∧ Below w3.heap.size w3 w') := encode_bad ⟨g, vv, x, t, lt⟩ _ w3 (HLT.out _ B3) hc
      have HCK : Hid (∀ w', Below W.heap.size W w' → Calls Tryd.prog 8 #[.agg #[.int .i64 g, .int .i64 vv, .int .i64 x, .int .i64 t, .slice a1 lt.length c1]] w' fun e w'' => e = .returned (.int .i64 (chkM ⟨g, vv, x, t, lt⟩ : Int)) ∧ Below w'.heap.size w' w'') := fun w' hb => check_any ⟨g, vv, x, t, lt⟩ _ w' (HLT.out _ hb)
      obtain ⟨ce, hce⟩ : ∃ ce : Int, ce = (chkM ⟨g, vv, x, t, lt⟩ : Int) := ⟨_, rfl⟩
      have hcz : ¬ ce = 0 := by omega
      rw [← hce] at HEG HCK
      clear hc hce
      go_wp2_with fail
      refine HEG.out.mono ?_
      rintro e w4 ⟨rfl, b4⟩
      have B4 := andThen B3 b4
      obtain ⟨s0, s1, s2, s3, s4⟩ := HBX.out _ B4
      clear q0 q1 q2 q3 q4 b4 HEG
      go_wp2_with fail
      refine (HCK.out _ B4).mono ?_
      rintro e w5 ⟨rfl, b5⟩
      have B5 := andThen B4 b5
      clear s0 s1 s2 s3 s4 b5 HCK
      go_wp2_with fail
      refine (HDB.out _ B5).mono ?_
      rintro e wd ⟨sv2, rfl, hsd, bd⟩
      have Bd := andThen B5 bd
      obtain ⟨as2, cs2, es2⟩ : ∃ as2, ∃ cs2 : Nat, sv2 = .slice as2 rm.l.length cs2 := by
        obtain ⟨as2, cs2, e, _⟩ := hsd.at
        exact ⟨as2, cs2, e⟩
      subst es2
      have HSD : Hid (∀ o, SgsAt (wd.alloc o) (.slice as2 rm.l.length cs2) rm.l ∧ Below W.heap.size W (wd.alloc o)) := fun o => ⟨(hsd.kept (up0 _ _)).at, up Bd o⟩
      clear hsd bd B5
      by_cases hre : re = 0
      · subst hre
        obtain ⟨hrc, hrt, hre⟩ := HRM.out rfl
        have HEG : Hid (∀ w' sv, Below W.heap.size W w' → SgsAt w' sv rm.l → Calls Tryd.prog 10 #[mfv rm sv] w' fun e w'' => ∃ v', e = .returned (.tuple #[v', .int .i64 0]) ∧ Own w'.heap.size w'' v' bb ∧ Below w'.heap.size w' w'') := fun w' sv hb hs => by
          have h9 := encode_good rm sv w' (HTB.out _ (HBE.out _ hb)) hs hrc hrt
          rw [hre] at h9
          exact h9
        clear hrc hrt hre HRM
        obtain ⟨rg, rv, rx, rt, rl⟩ := rm
        simp only at *
        unfold mfv at *
        go_wp2_with fail
        refine (HEG.out _ _ (HSD.out _).2 (HSD.out _).1).mono ?_
        rintro e we ⟨v9, rfl, ho9, b9⟩
        have B9 := andThen (HSD.out _).2 b9
        obtain ⟨a9, n9, c9, e9⟩ := own_slice ho9
        subst e9
        have HSB : Hid (Calls Tryd.prog 13 #[(.slice ab b.length cb), .slice a9 n9 c9] we fun e w'' => e = .returned (.bool true) ∧ Below we.heap.size we w'') := by
          have h9 := sameB_any (.slice ab b.length cb) (.slice a9 n9 c9) bb bb we (HBB.out _ (HBE.out _ B9)) ho9.bs
          rw [decide_eq_true rfl] at h9
          exact h9
        clear ho9 b9 HSD HEG
        go_wp2_with fail
        refine HSB.out.mono ?_
        rintro e wf ⟨rfl, bf⟩
        have HB10 := HBE.out _ (andThen B9 bf)
        clear bf B9
        go_wp2
        go_ret
        exact ⟨rfl, HB10⟩
      · have hrz : ¬ (re : Int) = 0 := by omega
        have hr0 := HRZ.out hre
        subst hr0
        have HSY : Hid (∀ w', Below W.heap.size W w' → SgsAt w' (.slice as2 zeroM.l.length cs2) zeroM.l → Calls Tryd.prog 12 #[mfv zeroM (.slice as2 zeroM.l.length cs2), mfv zeroM (.slice none 0 0)] w' fun e w'' => e = .returned (.bool true) ∧ Below w'.heap.size w' w'') := fun w' _ hs => same_yes zeroM _ _ w' hs ⟨none, 0, rfl, Nat.le_refl _, Nat.zero_le _, fun k s hk => by simp [zeroM] at hk⟩
        clear HRM HRZ hre
        unfold mfv zeroM at *
        simp only [List.length_nil] at *
        go_wp2_with fail
        refine (HSY.out _ (HSD.out _).2 (HSD.out _).1).mono ?_
        rintro e we ⟨rfl, b9⟩
        have HB10 := HBE.out _ (andThen (HSD.out _).2 b9)
        clear HSD HSY b9
        go_wp2
        go_ret
        exact ⟨rfl, HB10⟩
theorem manifestOne_any (m : Mf) (v bw : Value) (b : List Nat) (w : World) (hT : Tab w) (h : SgsAt w v m.l ∧ m.t ≤ 9223372036854775807) (hb : Bs w bw b) :
    Calls Tryd.prog 3 #[mfv m v, bw] w fun e w' => e = .returned (.bool true) ∧ Below w.heap.size w w' := mone_any m v bw b w hT h.1 hb h.2
end Go.Proofs.YtfccimacloagiaaDoor
