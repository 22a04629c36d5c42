import Derived.Test.YtckhhkgemkklnaaDoorQSR
import Derived.Test.YtckhhkgemkklnaaDoorQSS
import Derived.Test.YtckhhkgemkklnaaDoorQST
import Derived.Test.YtckhhkgemkklnaaDoorQSU
import Derived.Test.YtckhhkgemkklnaaDoorQSV
import Derived.Test.YtckhhkgemkklnaaDoorQSW
import Derived.Test.YtckhhkgemkklnaaDoorQSI
/-
  SagaEnds ..: happy whole; what Begin and Apply answer of these records.
-/
namespace Go.Proofs.YtckhhkgemkklnaaDoor
open Go Go.RowKit
open Wb

theorem happy_any (S : Sg) (h : SH) (w : World) (k : SgAt w S h) (hT : Text.TabP 3 .i32 Text.Tx.lets w) (hK : KindsT w) (hnm : S.nm.size ≤ 140737488355000) (hc : chkS S = true) (he : S.x.ended = false) :
    Calls Tryd.prog 16 #[sv S h] w fun e w' => e = .returned (.tuple #[rv (happyP S).x (happyP S).nm (.slice none 0 0), .bool true]) ∧ Below w.heap.size w w' := by
  have hB := bnd_of S hc
  rcases happy_kinds S with h7 | ⟨h2 | h3, hp⟩ | ⟨h5 | h6, hp⟩
  · exact happy_7 S h w k hT hK hnm hc he h7
  · by_cases ht : S.x.tr < 1000
    · exact happy_2 S h w k hT hK hnm hc he h2 hp ht
    · exact happy_2b S h w k hT hK hnm hc he h2 hp (by omega)
  · exact happy_3 S h w k hT hK hnm hc he h3 hp
  · by_cases ht : S.x.tr < 1000
    · exact happy_5 S h w k hT hK hnm hc he h5 hp ht
    · exact happy_5b S h w k hT hK hnm hc he h5 hp (by omega)
  · exact happy_6 S h w k hT hK hnm hc he h6 hp
/-- a valid record of version 3 is lifted to itself -/
theorem up_v3 (r : Rec) (hv : V3 r) (h3 : r.x.v = 3) : upP 3 r = (0, r) := by
  have hc : chkR r = 0 := (v3_iff r h3).2 hv
  have hl : lckE 3 r = 0 := by unfold lckE; rw [if_neg (by simpa using hc), if_pos (by omega)]
  unfold upP
  rw [if_neg (by simpa using hl), if_neg (by omega), car33 r h3]
theorem apply_v3 (S : Sg) (r : Rec) (hc : chkS S = true) (hv : V3 r) (h3 : r.x.v = 3) (h0 : refP S.x r.x = 0) : applyP S r = (0, deedS S r) := by
  unfold applyP
  rw [up_v3 r hv h3, if_neg (by simp [hc]), if_neg (by simp), if_neg (by simpa using h0)]
theorem fit_v3 (r : Rec) (hv : V3 r) (hs : r.x.s ≤ 9223372036854775807) : r.x.fit := by
  obtain ⟨v1, v2, v3, vk⟩ := hv
  intro t h1 h9
  unfold Nums.tag
  obtain rfl | rfl | rfl | rfl | rfl | rfl | rfl | rfl | rfl : t = 1 ∨ t = 2 ∨ t = 3 ∨ t = 4 ∨ t = 5 ∨ t = 6 ∨ t = 7 ∨ t = 8 ∨ t = 9 := by omega
  all_goals
    simp
    omega
theorem id_of (S : Sg) (hc : chkS S = true) : 1 ≤ S.x.id ∧ S.x.id ≤ 9223372036854775807 := by
  obtain ⟨⟨_, b2, _⟩, _⟩ := (chkS_iff S).1 hc
  exact b2
theorem happy_v (S : Sg) : (happyP S).x.v = 3 ∧ (happyP S).x.s = S.x.id ∧ (happyP S).x.k = happyK S ∧ (happyP S).nm = ⟨#[]⟩ ∧ (happyP S).l = [] := ⟨rfl, rfl, rfl, rfl, rfl⟩
theorem happy_apply (S : Sg) (hc : chkS S = true) (he : S.x.ended = false) : applyP S (happyP S) = (0, deedS S (happyP S)) := by
  obtain ⟨hv, h0, _⟩ := happy_good S hc he
  exact apply_v3 S _ hc hv rfl h0
theorem happy_fit (S : Sg) (hc : chkS S = true) (he : S.x.ended = false) : (happyP S).x.fit := by
  obtain ⟨hv, h0, _⟩ := happy_good S hc he
  exact fit_v3 _ hv (id_of S hc).2
/-- one more record that succeeds -/
theorem happy_step (S : Sg) (hc : chkS S = true) (he : S.x.ended = false) : chkS (deedS S (happyP S)) = true ∧ (deedS S (happyP S)).x.cnt = S.x.cnt ∧ (deedS S (happyP S)).nm = S.nm ∧ ((deedS S (happyP S)).x.ended = true → left S = 1 ∧ (deedS S (happyP S)).x.ph = S.x.ph + 2) ∧ ((deedS S (happyP S)).x.ended = false → left (deedS S (happyP S)) + 1 = left S ∧ (deedS S (happyP S)).x.ph = S.x.ph) := by
  obtain ⟨hv, h0, h1, h2, h3, h4, h5⟩ := happy_good S hc he
  have hd := ended_deed S (happyP S) hv h0
  have hs := steps_deed S (happyP S) hc hv h0
  have hk : (happyP S).x.k = happyK S := rfl
  rw [hk] at hd
  refine ⟨chkS_deed S _ hc hv h0, hs.2.1, hs.2.2.2.2.1, fun e => ?_, fun e => ?_⟩
  · rw [hd] at e
    have e7 : happyK S = 7 := by simpa using e
    exact ⟨h3.2 e7, h5 e7⟩
  · rw [hd] at e
    have e7 : happyK S ≠ 7 := by simpa using e
    exact h4 e7
theorem first_v3 : V3 rec1 := by
  have hn : lab buy = 0 := by decide +kernel
  simp [V3, rec1, hn]
theorem first_begin : beginP rec1 = (0, sg1) := by
  unfold beginP
  rw [up_v3 rec1 first_v3 rfl]
  simp [rec1, sg1]
theorem first_happy : happyK sg1 = 2 := by decide
theorem first_fit : rec1.x.fit := fit_v3 _ first_v3 (by decide)
theorem cnt_of (S : Sg) (hc : chkS S = true) : 1 ≤ S.x.cnt ∧ S.x.cnt ≤ 32 ∧ 1 ≤ S.x.ph ∧ S.x.ph ≤ 4 := by
  obtain ⟨⟨_, _, b3, _⟩, hG⟩ := (chkS_iff S).1 hc
  refine ⟨b3.1, b3.2, ?_⟩
  rcases hG with ⟨c1, _⟩ | ⟨c1, _⟩ | ⟨c1, _⟩ | ⟨c1, _⟩ <;> omega
/-- the saga in the loop: the argument, or one in memory of its own -/
def KS (S : Sg) (h : SH) (G : Nat) (wr : World) (S' : Sg) (h' : SH) : Prop := (S' = S ∧ h' = h) ∨ ∃ n, G < n ∧ SgO n wr S' h'
theorem KS.at {w wr : World} {S S' : Sg} {h h' : SH} {G : Nat} (q : KS S h G wr S' h') (k : SgAt w S h) (b : Below w.heap.size w wr) : SgAt wr S' h' := by
  rcases q with ⟨rfl, rfl⟩ | ⟨n, _, o⟩
  · exact k.kept b
  · exact o.at
theorem KS.kept {wr wr' : World} {S S' : Sg} {h h' : SH} {G : Nat} (q : KS S h G wr S' h') (b : Below wr.heap.size wr wr') : KS S h G wr' S' h' := by
  rcases q with q | ⟨n, hn, o⟩
  · exact .inl q
  · exact .inr ⟨n, hn, o.kept b⟩
theorem KS.sets {wr : World} {S S' : Sg} {h h' : SH} {G : Nat} (q : KS S h G wr S' h') (g o : Nat) (vs : List Value) (hg : g ≤ G) : KS S h G (wr.setCells g o vs) S' h' := by
  rcases q with q | ⟨n, hn, q⟩
  · exact .inl q
  · exact .inr ⟨n, hn, q.sets g o vs (by omega)⟩
end Go.Proofs.YtckhhkgemkklnaaDoor

/-
  SagaEnds: the walk.
-/
namespace Go.Proofs.YtckhhkgemkklnaaDoor
open Go Go.RowKit
open Wb

theorem ck_none (S : Sg) (h : (ckE (chkS S) != 0) = true) : allowedP S = [] := by
  cases hc : chkS S with
  | true => rw [hc] at h; simp [ckE] at h
  | false => unfold allowedP; rw [if_pos (.inl hc)]
theorem ck_yes (S : Sg) (h : (ckE (chkS S) != 0) = false) : chkS S = true := by
  cases hc : chkS S with
  | true => rfl
  | false => rw [hc] at h; simp [ckE] at h
set_option maxRecDepth 100000 in
set_option maxHeartbeats 16000000 in
theorem sagaEnds_walk (S : Sg) (h : SH) (w : World) (k : SgAt w S h) (hT : STabs w) (hnm : S.nm.size ≤ 140737488355000) :
    Calls Tryd.prog 5 #[sv S h] w fun e w' => e = .returned (.bool true) ∧ Below w.heap.size w w' := by
  have HBE : Hid (∀ (d : Value) (w' : World), Below w.heap.size w w' → Bs w' d rec1.l → Calls Tryd.prog 8 #[rv rec1.x rec1.nm d] w' fun e w'' => ∃ h', e = .returned (.tuple #[sv sg1 h', .int .i64 0]) ∧ SgAt w'' sg1 h' ∧ Below w'.heap.size w' w'') := fun d w' hb' hd => by
    have e := begin_any rec1 d w' hd (hT.kept hb').e (by decide) first_fit
    rw [first_begin] at e
    exact e.mono fun e w'' ⟨h', e1, e2, e3⟩ => ⟨h', e1, e2.at, e3⟩
  have HHA : Hid (∀ (S' : Sg) (h' : SH) (w' : World), Below w.heap.size w w' → SgAt w' S' h' → chkS S' = true → S'.x.ended = false → S'.nm.size ≤ 140737488355000 → Calls Tryd.prog 16 #[sv S' h'] w' fun e w'' => e = .returned (.tuple #[rv (happyP S').x (happyP S').nm (.slice none 0 0), .bool true]) ∧ Below w'.heap.size w' w'') := fun S' h' w' hb' k' hc' he' hn' => happy_any S' h' w' k' (hT.kept hb').e.tabs.lets (hT.kept hb').k hn' hc' he'
  have HCK0 : ∀ w', Below w.heap.size w w' → Calls Tryd.prog 18 #[sv S h] w' fun e w'' => e = .returned (.int .i64 (ckE (chkS S))) ∧ Below w'.heap.size w' w'' := fun w' hb' => scheck_any S h w' (k.kept hb') (hT.kept hb').e.tabs.lets hnm
  have HFI : Hid (∀ (S' : Sg) (h' : SH) (w' : World), Below w.heap.size w w' → SgAt w' S' h' → S'.nm.size ≤ 140737488355000 → Calls Tryd.prog 12 #[sv S' h'] w' fun e w'' => e = .returned (.bool (chkS S' && S'.x.ended)) ∧ Below w'.heap.size w' w'') := fun S' h' w' hb' k' hn' => finished_any S' h' w' k' (hT.kept hb').e.tabs.lets hn'
  have HAL0 : ∀ w', Below w.heap.size w w' → allowedP S = [] → Calls Tryd.prog 14 #[sv S h] w' fun e w'' => ∃ a c, e = .returned (.slice a 0 c) ∧ Below w'.heap.size w' w'' := fun w' hb' h0 => by
    have e := allowed_any S h w' (k.kept hb') (hT.kept hb').e.tabs.lets (hT.kept hb').k hnm
    rw [h0] at e
    exact e.mono fun e w'' ⟨v, e1, ro, e2⟩ => by
      obtain ⟨a, c, rfl⟩ := ro.shape
      exact ⟨a, c, e1, e2⟩
  have HAP : Hid (∀ (S' : Sg) (h' : SH) (w' : World), Below w.heap.size w w' → SgAt w' S' h' → chkS S' = true → S'.x.ended = false → S'.nm.size ≤ 140737488355000 → Calls Tryd.prog 9 #[sv S' h', rv (happyP S').x (happyP S').nm (.slice none 0 0)] w' fun e w'' => ∃ h'', e = .returned (.tuple #[sv (deedS S' (happyP S')) h'', .int .i64 0]) ∧ SgO w'.heap.size w'' (deedS S' (happyP S')) h'' ∧ Below w'.heap.size w' w'') := fun S' h' w' hb' k' hc' he' hn' => by
    have e := apply_any S' h' (happyP S') (.slice none 0 0) w' k' (Bs.nil _) (hT.kept hb') hn' (by show (⟨#[]⟩ : ByteArray).size ≤ _; decide) (happy_fit S' hc' he')
    rw [happy_apply S' hc' he'] at e
    exact e
  have HSA : Hid (∀ (h1 h2 : SH) (w' : World), SgAt w' sg1 h1 → SgAt w' sg1 h2 → Calls Tryd.prog 17 #[sv sg1 h1, sv sg1 h2] w' fun e w'' => e = .returned (.bool true) ∧ Below w'.heap.size w' w'') := fun h1 h2 w' a b => same_yes sg1 h1 h2 w' a b rfl rfl
  have HFI0 : ∀ w', Below w.heap.size w w' → Calls Tryd.prog 12 #[sv S h] w' fun e w'' => e = .returned (.bool (chkS S && S.x.ended)) ∧ Below w'.heap.size w' w'' := fun w' hb' => HFI.out S h w' hb' (k.kept hb') hnm
  have HN1 : Hid ((ckE (chkS S) != 0) = true → allowedP S = []) := ck_none S
  have HN2 : Hid ((ckE (chkS S) != 0) = false → chkS S = true) := ck_yes S
  have HN3 : Hid ((chkS S && S.x.ended) = true → allowedP S = []) := fun e => by
    unfold allowedP
    simp at e
    rw [if_pos (.inr e.2)]
  have HKA : Hid (SgAt w S h) := k
  have HNM : Hid (S.nm.size ≤ 140737488355000) := hnm
  clear k hT hnm
  obtain ⟨z, hz⟩ : ∃ z, ckE (chkS S) = z := ⟨_, rfl⟩
  obtain ⟨f, hf⟩ : ∃ f, (chkS S && S.x.ended) = f := ⟨_, rfl⟩
  have HF : Hid ((chkS S && S.x.ended) = f) := hf
  rw [hz] at HCK0 HN1 HN2
  rw [hf] at HFI0 HN3
  clear hz hf
  obtain ⟨Z, hZ⟩ : ∃ Z, Z = zcl := ⟨_, rfl⟩
  obtain ⟨ZR, hZR⟩ : ∃ ZR, ZR = zrl := ⟨_, rfl⟩
  have HZ : Hid (Z = zcl) := hZ
  have HZR : Hid (ZR = zrl) := hZR
  have HZL : Hid (Z.length = 16) := by show _ = _; rw [hZ]; rfl
  have HZRL : Hid (ZR.length = 12) := by show _ = _; rw [hZR]; rfl
  obtain ⟨D, hD, hL, hE⟩ := sv_letter S h
  rw [hD]
  rw [hD] at HCK0 HAL0 HFI0
  have HCK : Hid _ := HCK0
  have HAL : Hid _ := HAL0
  have HFS : Hid _ := HFI0
  have HL : Hid _ := hL
  have HE : Hid (D = scl S h) := hE
  have HX : Hid (∀ t, LB (w.alloc (.cells D.toArray t)) w.heap.size t D ∧ Below w.heap.size w (w.alloc (.cells D.toArray t))) := fun t => ⟨lb_new w D t, up0 _ _⟩
  clear hZ hZR hD hL hE HCK0 HAL0 HFI0
  go_enter Tryd.func5, Tryd.ntmps5
  go_wp2_with fail
  refine (first_any _).mono ?_
  rintro e w1 ⟨a1, c1, h1, rfl, bs1, at1, b1⟩
  have H1 : Hid (LB w1 w.heap.size 28 D ∧ Bs w1 (.slice a1 rec1.l.length c1) rec1.l ∧ SgAt w1 sg1 h1 ∧ Below w.heap.size w w1) := ⟨(HX.out _).1.kept b1, bs1, at1, andThen (HX.out _).2 b1⟩
  clear b1 at1 bs1 HX
  obtain ⟨G1, hG1, hGL, hGE⟩ := rv_letter rec1.x rec1.nm (.slice a1 rec1.l.length c1)
  obtain ⟨D1, hD1, hDL, hDE⟩ := sv_letter sg1 h1
  rw [hG1, hD1]
  have HB1 : Hid (∀ w', Below w.heap.size w w' → Bs w' (.slice a1 rec1.l.length c1) rec1.l → Calls Tryd.prog 8 #[.agg G1.toArray] w' fun e w'' => ∃ h', e = .returned (.tuple #[sv sg1 h', .int .i64 0]) ∧ SgAt w'' sg1 h' ∧ Below w'.heap.size w' w'') := fun w' hb' hd => by
    have e := HBE.out _ w' hb' hd
    rw [hG1] at e
    exact e
  have HS1 : Hid (∀ (h2 : SH) w', SgAt w' sg1 h2 → SgAt w' sg1 h1 → Calls Tryd.prog 17 #[sv sg1 h2, .agg D1.toArray] w' fun e w'' => e = .returned (.bool true) ∧ Below w'.heap.size w' w'') := fun h2 w' a b => by
    have e := HSA.out h2 h1 w' a b
    rw [hD1] at e
    exact e
  have HGL : Hid _ := hGL
  have HDL : Hid _ := hDL
  have HG1 : Hid (∀ v ∈ G1, v.oneCell' = true) := by show ∀ v ∈ G1, _; rw [hGE]; exact rcE_one _ _ _ rfl
  have HD1 : Hid (∀ v ∈ D1, v.oneCell' = true) := by show ∀ v ∈ D1, _; rw [hDE]; exact scl_one _ _
  have HGZ : Hid (G1.length = ZR.length) := by show _ = _; rw [hGE, HZRL.out]; rfl
  have HDZ : Hid (D1.length = Z.length) := by show _ = _; rw [hDE, HZL.out]; rfl
  have HT1 : Hid (((w1.alloc (.cells ZR.toArray 25)).alloc (.cells Z.toArray 28)).there w1.heap.size 0 G1.toArray.size) := there_of (lb_new2 w1 ZR Z _ _).1 (by simpa using HGZ.out)
  have HT2 : Hid ((((w1.alloc (.cells ZR.toArray 25)).alloc (.cells Z.toArray 28)).setCells w1.heap.size 0 G1).there (w1.heap.size + 1) 0 D1.toArray.size) := there_of ((lb_new2 w1 ZR Z _ _).2.1.others _ _ _ (by omega)) (by simpa using HDZ.out)
  have H2 : Hid (∃ W2, W2 = (((w1.alloc (.cells ZR.toArray 25)).alloc (.cells Z.toArray 28)).setCells w1.heap.size 0 G1).setCells (w1.heap.size + 1) 0 D1 ∧ LB W2 w.heap.size 28 D ∧ LB W2 w1.heap.size 25 G1 ∧ LB W2 (w1.heap.size + 1) 28 D1 ∧ SgAt W2 sg1 h1 ∧ Bs W2 (.slice a1 rec1.l.length c1) rec1.l ∧ Below w.heap.size w W2) := by
    obtain ⟨q1, q2, q3⟩ := two_boxes w1 25 28 ZR Z G1 D1 HGZ.out HDZ.out
    exact ⟨_, rfl, H1.out.1.kept q3, q1, q2, H1.out.2.2.1.kept q3, H1.out.2.1.kept q3, andThen H1.out.2.2.2 q3⟩
  clear hG1 hGL hGE hD1 hDL hDE HBE H1 HSA
  go_wp2_with (first | (refine wpList_alloc_R HZR.out rfl rfl ?_) | (refine wpList_alloc_Z HZ.out rfl rfl ?_; (try simp only [heap_one])) | (refine wpList_store_mid rfl 25 (.tmp 3) (.tmp 14) rfl w1.heap.size 0 G1.toArray rfl rfl HT1.out (by simpa using HGL.out) (all_oneCell_toArray HG1.out) ?_; (rw [List.toList_toArray])) | (refine wpList_store_mid rfl 28 (.tmp 4) (.tmp 15) rfl (w1.heap.size + 1) 0 D1.toArray rfl rfl HT2.out (by simpa using HDL.out) (all_oneCell_toArray HD1.out) ?_; (obtain ⟨W2, hW2, hq⟩ := H2.out); (have H3 : Hid _ := hq); (rw [List.toList_toArray, ← hW2]); (clear hW2 hq H2 HT1 HT2)) | (refine wpList_load_mid rfl 25 _ rfl w1.heap.size 0 rfl G1 _ H3.out.2.1.range Tryd.underlying25 rfl HGL.out ?_) | fail)
  refine (HB1.out _ H3.out.2.2.2.2.2 H3.out.2.2.2.2.1).mono ?_
  rintro e w3 ⟨h3, rfl, at3, b3⟩
  have H4 : Hid (LB w3 w.heap.size 28 D ∧ LB w3 (w1.heap.size + 1) 28 D1 ∧ SgAt w3 sg1 h1 ∧ SgAt w3 sg1 h3 ∧ Below w.heap.size w w3) := ⟨H3.out.1.kept b3, H3.out.2.2.1.kept b3, H3.out.2.2.2.1.kept b3, at3, andThen H3.out.2.2.2.2.2 b3⟩
  obtain ⟨D3, hD3, hL3, hE3⟩ := sv_letter sg1 h3
  rw [hD3]
  have HL3 : Hid _ := hL3
  have H13 : Hid (∀ v ∈ D3, v.oneCell' = true) := by show ∀ v ∈ D3, _; rw [hE3]; exact scl_one _ _
  have HZ3 : Hid (D3.length = Z.length) := by show _ = _; rw [hE3, HZL.out]; rfl
  have HT3 : Hid ((w3.alloc (.cells Z.toArray 28)).there w3.heap.size 0 D3.toArray.size) := there_of (lb_new w3 Z _) (by simpa using HZ3.out)
  have HH3 : Hid (∀ w', Below w.heap.size w w' → SgAt w' sg1 h3 → Calls Tryd.prog 16 #[.agg D3.toArray] w' fun e w'' => e = .returned (.tuple #[rv (happyP sg1).x (happyP sg1).nm (.slice none 0 0), .bool true]) ∧ Below w'.heap.size w' w'') := fun w' hb' k' => by
    have e := HHA.out sg1 h3 w' hb' k' sg1_good.1 rfl (by decide)
    rw [hD3] at e
    exact e
  have HS3 : Hid (∀ w', SgAt w' sg1 h3 → SgAt w' sg1 h1 → Calls Tryd.prog 17 #[.agg D3.toArray, .agg D1.toArray] w' fun e w'' => e = .returned (.bool true) ∧ Below w'.heap.size w' w'') := fun w' a b => by
    have e := HS1.out h3 w' a b
    rw [hD3] at e
    exact e
  have H5 : Hid (∃ W4, W4 = (w3.alloc (.cells Z.toArray 28)).setCells w3.heap.size 0 D3 ∧ LB W4 w.heap.size 28 D ∧ LB W4 (w1.heap.size + 1) 28 D1 ∧ LB W4 w3.heap.size 28 D3 ∧ SgAt W4 sg1 h1 ∧ SgAt W4 sg1 h3 ∧ Below w.heap.size w W4) := by
    obtain ⟨q1, q3⟩ := one_box w3 28 Z D3 HZ3.out
    exact ⟨_, rfl, H4.out.1.kept q3, H4.out.2.1.kept q3, q1, H4.out.2.2.1.kept q3, H4.out.2.2.2.1.kept q3, andThen H4.out.2.2.2.2 q3⟩
  clear hD3 hL3 hE3 at3 b3 H3 H4 HB1 HS1 HGL HG1 HD1 HGZ HDZ
  go_wp2_with (first | (refine wpList_alloc_Z HZ.out rfl rfl ?_) | (refine wpList_store_mid rfl 28 (.tmp 5) (.tmp 19) rfl w3.heap.size 0 D3.toArray rfl rfl HT3.out (by simpa using HL3.out) (all_oneCell_toArray H13.out) ?_; (obtain ⟨W4, hW4, hq⟩ := H5.out); (have H6 : Hid _ := hq); (rw [List.toList_toArray, ← hW4]); (clear hW4 hq H5 HT3)) | (refine wpList_load_mid rfl 28 _ rfl w3.heap.size 0 rfl D3 _ H6.out.2.2.1.range Tryd.underlying28 rfl HL3.out ?_) | fail)
  refine (HH3.out _ H6.out.2.2.2.2.2 H6.out.2.2.2.2.1).mono ?_
  rintro e w5 ⟨rfl, b5⟩
  have H7 : Hid (LB w5 w.heap.size 28 D ∧ LB w5 (w1.heap.size + 1) 28 D1 ∧ LB w5 w3.heap.size 28 D3 ∧ SgAt w5 sg1 h1 ∧ SgAt w5 sg1 h3 ∧ Below w.heap.size w w5) := ⟨H6.out.1.kept b5, H6.out.2.1.kept b5, H6.out.2.2.1.kept b5, H6.out.2.2.2.1.kept b5, H6.out.2.2.2.2.1.kept b5, andThen H6.out.2.2.2.2.2 b5⟩
  obtain ⟨R, hR, hRL, hRE⟩ := rv_letter (happyP sg1).x (happyP sg1).nm (.slice none 0 0)
  rw [hR]
  have HRL : Hid _ := hRL
  have HRE : Hid (R = rcE (happyP sg1).x (happyP sg1).nm (.slice none 0 0)) := hRE
  have HR1 : Hid (∀ v ∈ R, v.oneCell' = true) := by show ∀ v ∈ R, _; rw [hRE]; exact rcE_one _ _ _ rfl
  have HRZ : Hid (R.length = ZR.length) := by show _ = _; rw [hRE, HZRL.out]; rfl
  have HT5 : Hid ((w5.alloc (.cells ZR.toArray 25)).there w5.heap.size 0 R.toArray.size) := there_of (lb_new w5 ZR _) (by simpa using HRZ.out)
  have H8 : Hid (∃ W6, W6 = (w5.alloc (.cells ZR.toArray 25)).setCells w5.heap.size 0 R ∧ LB W6 w.heap.size 28 D ∧ LB W6 (w1.heap.size + 1) 28 D1 ∧ LB W6 w3.heap.size 28 D3 ∧ LB W6 w5.heap.size 25 R ∧ SgAt W6 sg1 h1 ∧ SgAt W6 sg1 h3 ∧ Below w.heap.size w W6 ∧ w.heap.size < w5.heap.size) := by
    obtain ⟨q1, q3⟩ := one_box w5 25 ZR R HRZ.out
    exact ⟨_, rfl, H7.out.1.kept q3, H7.out.2.1.kept q3, H7.out.2.2.1.kept q3, q1, H7.out.2.2.2.1.kept q3, H7.out.2.2.2.2.1.kept q3, andThen H7.out.2.2.2.2.2 q3, H7.out.1.lt⟩
  clear hR hRL hRE b5 H6 H7 HH3
  go_wp2_with (first | (refine wpList_alloc_R HZR.out rfl rfl ?_) | (refine wpList_store_mid rfl 25 (.tmp 7) (.tmp 24) rfl w5.heap.size 0 R.toArray rfl rfl HT5.out (by simpa using HRL.out) (all_oneCell_toArray HR1.out) ?_; (obtain ⟨W6, hW6, hq⟩ := H8.out); (have H9 : Hid _ := hq); (rw [List.toList_toArray, ← hW6]); (clear hW6 hq H8 HT5)) | fail)
  refine (snum_any 0 _).mono ?_
  rintro e _ ⟨rfl, rfl⟩
  go_wp2_with (first | (refine wpList_load_mid rfl 28 _ rfl w3.heap.size 0 rfl D3 _ H9.out.2.2.1.range Tryd.underlying28 rfl HL3.out ?_) | (refine wpList_load_midG rfl 28 _ rfl w3.heap.size 0 rfl D3 _ H9.out.2.2.1.range Tryd.underlying28 rfl HL3.out ?_) | (refine wpList_load_mid rfl 28 _ rfl (w1.heap.size + 1) 0 rfl D1 _ H9.out.2.1.range Tryd.underlying28 rfl HDL.out ?_) | (refine wpList_load_midG rfl 28 _ rfl (w1.heap.size + 1) 0 rfl D1 _ H9.out.2.1.range Tryd.underlying28 rfl HDL.out ?_) | fail)
  refine (HS3.out _ H9.out.2.2.2.2.2.1 H9.out.2.2.2.2.1).mono ?_
  rintro e w7 ⟨rfl, b7⟩
  have HA : Hid (LB w7 w.heap.size 28 D ∧ LB w7 w5.heap.size 25 R ∧ Below w.heap.size w w7 ∧ w.heap.size < w5.heap.size) := ⟨H9.out.1.kept b7, H9.out.2.2.2.1.kept b7, andThen H9.out.2.2.2.2.2.2.1 b7, H9.out.2.2.2.2.2.2.2⟩
  have r1 := HA.out.2.1.cell 1 (.int .i64 2) (by rw [HRE.out]; exact congrArg (fun n : Int => some (Value.int .i64 n)) first_happy)
  clear b7 H9 HS3 HL3 H13 HZ3 HDL
  go_wp2_with (first | (refine wpList_load_mid rfl 28 _ rfl w.heap.size 0 rfl D _ HA.out.1.range Tryd.underlying28 rfl HL.out ?_) | (refine wpList_load_midG rfl 28 _ rfl w.heap.size 0 rfl D _ HA.out.1.range Tryd.underlying28 rfl HL.out ?_) | fail)
  refine (HCK.out _ HA.out.2.2.1).mono ?_
  rintro e w8 ⟨rfl, b8⟩
  have HB : Hid (LB w8 w.heap.size 28 D ∧ LB w8 w5.heap.size 25 R ∧ Below w.heap.size w w8 ∧ w.heap.size < w5.heap.size) := ⟨HA.out.1.kept b8, HA.out.2.1.kept b8, andThen HA.out.2.2.1 b8, HA.out.2.2.2⟩
  clear b8 HA HCK r1
  go_wp2_with fail
  refine (snum_any z _).mono ?_
  rintro e _ ⟨rfl, rfl⟩
  cases hz0 : (z != 0) with
  | true =>
    have HN : Hid (allowedP S = []) := HN1.out hz0
    go_wp2_with (first | (refine wpList_load_mid rfl 28 _ rfl w.heap.size 0 rfl D _ HB.out.1.range Tryd.underlying28 rfl HL.out ?_) | (refine wpList_load_midG rfl 28 _ rfl w.heap.size 0 rfl D _ HB.out.1.range Tryd.underlying28 rfl HL.out ?_) | fail)
    refine (HAL.out _ HB.out.2.2.1 HN.out).mono ?_
    rintro e w9 ⟨a9, c9, rfl, b9⟩
    have HC : Hid (Below w.heap.size w w9) := andThen HB.out.2.2.1 b9
    clear b9
    go_wp2
    go_ret
    exact ⟨rfl, HC.out⟩
  | false =>
    have HC0 : Hid (chkS S = true) := HN2.out hz0
    go_wp2_with (first | (refine wpList_load_mid rfl 28 _ rfl w.heap.size 0 rfl D _ HB.out.1.range Tryd.underlying28 rfl HL.out ?_) | (refine wpList_load_midG rfl 28 _ rfl w.heap.size 0 rfl D _ HB.out.1.range Tryd.underlying28 rfl HL.out ?_) | fail)
    refine (HFS.out _ HB.out.2.2.1).mono ?_
    rintro e w9 ⟨rfl, b9⟩
    have HC : Hid (LB w9 w.heap.size 28 D ∧ LB w9 w5.heap.size 25 R ∧ Below w.heap.size w w9 ∧ w.heap.size < w5.heap.size) := ⟨HB.out.1.kept b9, HB.out.2.1.kept b9, andThen HB.out.2.2.1 b9, HB.out.2.2.2⟩
    clear b9 HB HFS
    cases f with
    | true =>
      have HN : Hid (allowedP S = []) := HN3.out rfl
      go_wp2_with (first | (refine wpList_load_mid rfl 28 _ rfl w.heap.size 0 rfl D _ HC.out.1.range Tryd.underlying28 rfl HL.out ?_) | fail)
      refine (HAL.out _ HC.out.2.2.1 HN.out).mono ?_
      rintro e w10 ⟨a9, c9, rfl, b9⟩
      have HC2 : Hid (Below w.heap.size w w10) := andThen HC.out.2.2.1 b9
      clear b9
      go_wp2
      go_ret
      exact ⟨rfl, HC2.out⟩
    | false =>
      have HE0 : Hid (S.x.ended = false) := by
        show _ = _
        have h1 := HF.out
        rw [HC0.out] at h1
        simpa using h1
      have HBD : Hid (left S ≤ 2 * S.x.cnt.toNat + 1 ∧ 1 ≤ S.x.cnt ∧ S.x.cnt ≤ 32 ∧ 1 ≤ S.x.ph ∧ S.x.ph ≤ 4) := ⟨(happy_good S HC0.out HE0.out).2.2.1, cnt_of S HC0.out⟩
      have c7 := HC.out.1.cell 7 (.int .i64 S.x.ph) (by rw [HE.out]; rfl)
      have HRN : Hid (R.length = 12) := by show _ = _; rw [HRZ.out, HZRL.out]
      clear HN1 HN2 HN3 HF HAL HZ HZR hz0
      go_wp2
      clear c7
      go_loopw [6, 8, 11] (fun _ _ i wr => ∃ (j : Nat) (S' : Sg) (h' : SH) (Rr : List Value), i = .int .i64 (j : Int) ∧ j + left S' = left S ∧ (chkS S' = true ∧ S'.x.ended = false ∧ S'.x.ph = S.x.ph ∧ S'.x.cnt = S.x.cnt ∧ S'.nm = S.nm) ∧ LB wr w.heap.size 28 (scl S' h') ∧ Rr.length = 12 ∧ LB wr w5.heap.size 25 Rr ∧ KS S h w5.heap.size wr S' h' ∧ Below w.heap.size w wr) (fun _ _ i _ => 65 - (intOf i).toNat)
      case atStart => exact ⟨0, S, h, R, rfl, by omega, ⟨HC0.out, HE0.out, rfl, rfl, rfl⟩, by have e := HC.out.1; rw [HE.out] at e; exact e, HRN.out, HC.out.2.1, .inl ⟨rfl, rfl⟩, HC.out.2.2.1⟩
      case round =>
        obtain ⟨j, S', h', Rr, rfl, hj, hS', l1, hRr, l2, q, b⟩ := hrel
        obtain ⟨g1, g2, g3, g4, g5⟩ := happy_step S' hS'.1 hS'.2.1
        have g6 := (happy_good S' hS'.1 hS'.2.1).2.2.2.1
        obtain ⟨D', hD', hL', hE'⟩ := sv_letter S' h'
        obtain ⟨R', hR', hRL', hRE'⟩ := rv_letter (happyP S').x (happyP S').nm (.slice none 0 0)
        have hn' : S'.nm.size ≤ 140737488355000 := by rw [hS'.2.2.2.2]; exact HNM.out
        have HH' : Hid (∀ w', Below w.heap.size w w' → SgAt w' S' h' → Calls Tryd.prog 16 #[.agg D'.toArray] w' fun e w'' => e = .returned (.tuple #[.agg R'.toArray, .bool true]) ∧ Below w'.heap.size w' w'') := fun w' hb' k' => by
          have e := HHA.out S' h' w' hb' k' hS'.1 hS'.2.1 hn'
          rw [hD', hR'] at e
          exact e
        have HP' : Hid (∀ w', Below w.heap.size w w' → SgAt w' S' h' → Calls Tryd.prog 9 #[.agg D'.toArray, .agg R'.toArray] w' fun e w'' => ∃ h'', e = .returned (.tuple #[sv (deedS S' (happyP S')) h'', .int .i64 0]) ∧ SgO w'.heap.size w'' (deedS S' (happyP S')) h'' ∧ Below w'.heap.size w' w'') := fun w' hb' k' => by
          have e := HAP.out S' h' w' hb' k' hS'.1 hS'.2.1 hn'
          rw [hD', hR'] at e
          exact e
        rw [← hE'] at l1
        have c2 := l1.cell 2 (.int .i64 S.x.cnt) (by rw [hE', ← hS'.2.2.2.1]; rfl)
        have hbd := HBD.out
        have i1 : IntKind.i64.wrap (2 * S.x.cnt) = 2 * S.x.cnt := IntWalk.i64_in _ (by omega)
        have i2 : IntKind.i64.wrap (2 * S.x.cnt + 1) = 2 * S.x.cnt + 1 := IntWalk.i64_in _ (by omega)
        have d1 : decide ((j : Int) < 2 * S.x.cnt + 1) = true := by simp; omega
        have d2 : decide ((j : Int) < 65) = true := by simp; omega
        have hj65 : j < 65 := by omega
        have HL' : Hid _ := hL'
        have HRL' : Hid _ := hRL'
        have HR1' : Hid (∀ v ∈ R', v.oneCell' = true) := by show ∀ v ∈ R', _; rw [hRE']; exact rcE_one _ _ _ rfl
        have HRr : Hid (R'.length = Rr.length) := by show _ = _; rw [hRE', hRr]; rfl
        have HR12 : Hid (R'.length = 12) := by show _ = _; rw [hRE']; rfl
        have HI : Hid (LB wr w.heap.size 28 D' ∧ LB wr w5.heap.size 25 Rr ∧ KS S h w5.heap.size wr S' h' ∧ Below w.heap.size w wr) := ⟨l1, l2, q, b⟩
        have HG : Hid _ := And.intro g1 (And.intro g2 (And.intro g3 (And.intro g4 (And.intro g5 g6))))
        have HS' : Hid _ := hS'
        have HJ : Hid (j + left S' = left S) := hj
        have HE' : Hid (D' = scl S' h') := hE'
        clear hD' hL' hE' hR' hRL' hRE' hRr l1 l2 q b hn' hS' g1 g2 g3 g4 g5 g6 hj hbd
        go_wp2_with (first | (refine wpList_load_mid rfl 28 _ rfl w.heap.size 0 rfl D' _ HI.out.1.range Tryd.underlying28 rfl HL'.out ?_) | fail)
        refine (HH'.out _ HI.out.2.2.2 (HI.out.2.2.1.at HKA.out HI.out.2.2.2)).mono ?_
        rintro e x1 ⟨rfl, y1⟩
        have HI1 : Hid (LB x1 w.heap.size 28 D' ∧ LB x1 w5.heap.size 25 Rr ∧ KS S h w5.heap.size x1 S' h' ∧ Below w.heap.size w x1) := ⟨HI.out.1.kept y1, HI.out.2.1.kept y1, HI.out.2.2.1.kept y1, andThen HI.out.2.2.2 y1⟩
        have HTx : Hid (x1.there w5.heap.size 0 R'.toArray.size) := there_of HI1.out.2.1 (by simpa using HRr.out)
        have HI2 : Hid (∃ X2, X2 = x1.setCells w5.heap.size 0 R' ∧ LB X2 w.heap.size 28 D' ∧ LB X2 w5.heap.size 25 R' ∧ KS S h w5.heap.size X2 S' h' ∧ Below w.heap.size w X2 ∧ w5.heap.size < X2.heap.size) := ⟨_, rfl, HI1.out.1.others _ _ _ (by have := HC.out.2.2.2; omega), HI1.out.2.1.sets R' HRr.out, HI1.out.2.2.1.sets _ _ _ (Nat.le_refl _), below_cells (Nat.le_of_lt HC.out.2.2.2) _ 0 _ HI1.out.2.2.2, (HI1.out.2.1.sets R' HRr.out).lt⟩
        clear y1 HI HI1 HH' c2 d1 d2 i1 i2
        go_wp2_with (first | (refine wpList_store_mid rfl 25 (.tmp 7) (.tmp 74) rfl w5.heap.size 0 R'.toArray rfl rfl HTx.out (by simpa using HRL'.out) (all_oneCell_toArray HR1'.out) ?_; (obtain ⟨X2, hX2, hq⟩ := HI2.out); (have HI3 : Hid _ := hq); (rw [List.toList_toArray, ← hX2]); (clear hX2 hq HI2 HTx)) | (refine wpList_load_mid rfl 28 _ rfl w.heap.size 0 rfl D' _ HI3.out.1.range Tryd.underlying28 rfl HL'.out ?_) | (refine wpList_load_mid rfl 25 _ rfl w5.heap.size 0 rfl R' _ HI3.out.2.1.range Tryd.underlying25 rfl HRL'.out ?_) | fail)
        refine (HP'.out _ HI3.out.2.2.2.1 (HI3.out.2.2.1.at HKA.out HI3.out.2.2.2.1)).mono ?_
        rintro e x3 ⟨h'', rfl, o3, y3⟩
        obtain ⟨S'', hS''⟩ : ∃ S'', deedS S' (happyP S') = S'' := ⟨_, rfl⟩
        rw [hS''] at HG o3
        rw [hS'']
        obtain ⟨D'', hD'', hL'', hE''⟩ := sv_letter S'' h''
        rw [hD'']
        have HL'' : Hid _ := hL''
        have HE'' : Hid (D'' = scl S'' h'') := hE''
        have H1'' : Hid (∀ v ∈ D'', v.oneCell' = true) := by show ∀ v ∈ D'', _; rw [hE'']; exact scl_one _ _
        have HZ'' : Hid (D''.length = D'.length) := by show _ = _; rw [hE'', HE'.out]; rfl
        have HTy : Hid (x3.there w.heap.size 0 D''.toArray.size) := there_of (HI3.out.1.kept y3) (by simpa using HZ''.out)
        have HI4 : Hid (∃ X4, X4 = x3.setCells w.heap.size 0 D'' ∧ LB X4 w.heap.size 28 D'' ∧ LB X4 w5.heap.size 25 R' ∧ KS S h w5.heap.size X4 S'' h'' ∧ SgAt X4 S'' h'' ∧ Below w.heap.size w X4) := ⟨_, rfl, (HI3.out.1.kept y3).sets D'' HZ''.out, (HI3.out.2.1.kept y3).others _ _ _ (by have := HC.out.2.2.2; omega), .inr ⟨_, HI3.out.2.2.2.2, o3.sets _ _ _ (by have := HC.out.2.2.2; have := HI3.out.2.2.2.2; omega)⟩, (o3.sets _ _ _ (by have := HC.out.2.2.2; have := HI3.out.2.2.2.2; omega)).at, below_cells (Nat.le_refl _) _ 0 _ (andThen HI3.out.2.2.2.1 y3)⟩
        have HF'' : Hid (∀ w', Below w.heap.size w w' → SgAt w' S'' h'' → Calls Tryd.prog 12 #[.agg D''.toArray] w' fun e w'' => e = .returned (.bool S''.x.ended) ∧ Below w'.heap.size w' w'') := fun w' hb' k' => by
          have e := HFI.out S'' h'' w' hb' k' (by rw [HG.out.2.2.1, HS'.out.2.2.2.2]; exact HNM.out)
          rw [hD'', HG.out.1, Bool.true_and] at e
          exact e
        clear hS'' hD'' hL'' hE'' o3 y3 HP' HI3
        go_wp2_with (first | (refine wpList_store_mid rfl 28 (.tmp 1) (.tmp 82) rfl w.heap.size 0 D''.toArray rfl rfl HTy.out (by simpa using HL''.out) (all_oneCell_toArray H1''.out) ?_; (obtain ⟨X4, hX4, hq⟩ := HI4.out); (have HI5 : Hid _ := hq); (rw [List.toList_toArray, ← hX4]); (clear hX4 hq HI4 HTy)) | fail)
        refine (snum_any 0 _).mono ?_
        rintro e _ ⟨rfl, rfl⟩
        go_wp2_with (first | (refine wpList_load_mid rfl 28 _ rfl w.heap.size 0 rfl D'' _ HI5.out.1.range Tryd.underlying28 rfl HL''.out ?_) | fail)
        refine (HF''.out _ HI5.out.2.2.2.2 HI5.out.2.2.2.1).mono ?_
        rintro e x6 ⟨rfl, y6⟩
        have HI6 : Hid (LB x6 w.heap.size 28 D'' ∧ LB x6 w5.heap.size 25 R' ∧ KS S h w5.heap.size x6 S'' h'' ∧ Below w.heap.size w x6) := ⟨HI5.out.1.kept y6, HI5.out.2.1.kept y6, HI5.out.2.2.1.kept y6, andThen HI5.out.2.2.2.2 y6⟩
        clear y6 HI5 HF''
        cases hf'' : S''.x.ended with
        | true =>
          have c7 := HI6.out.1.cell 7 (.int .i64 (S.x.ph + 2)) (by rw [HE''.out, ← HS'.out.2.2.1, ← (HG.out.2.2.2.1 hf'').2]; rfl)
          have i3 : IntKind.i64.wrap (S.x.ph + 2) = S.x.ph + 2 := IntWalk.i64_in _ (by have := HBD.out; omega)
          have d3 : (S.x.ph + 2 == S.x.ph + 2) = true := by simp
          go_wp2
          go_ret
          exact ⟨rfl, HI6.out.2.2.2⟩
        | false =>
          have g7 := HG.out.2.2.2.2.1 hf''
          go_wp2
          go_roundw
          case rel => exact ⟨j + 1, S'', h'', R', by go_num, by have := HJ.out; omega, ⟨HG.out.1, hf'', g7.2.trans HS'.out.2.2.1, HG.out.2.1.trans HS'.out.2.2.2.1, HG.out.2.2.1.trans HS'.out.2.2.2.2⟩, by rw [← HE''.out]; exact HI6.out.1, HR12.out, HI6.out.2.1, HI6.out.2.2.1, HI6.out.2.2.2⟩
          case measure => simp [intOf]; omega
end Go.Proofs.YtckhhkgemkklnaaDoor
