import Derived.Deep.Slices
import Derived.Test.YtodcakplmoajiaaDoorGPF
import Derived.Test.YtodcakplmoajiaaDoorGSO
set_option maxRecDepth 100000
namespace Go.Proofs.YtodcakplmoajiaaDoor
open Go Go.RowKit
open Wb

def sgQ : Sg := ⟨⟨5, 1, 0, 0, 0, 1, 0, false, 0, 0, 0⟩, ⟨#[97]⟩, [7], [], [], []⟩
theorem sgQ_rec : V3 (begR pln1 5 [7]) := by
 have hn : lab ⟨#[97]⟩ = 0 := by decide +kernel
 simp [V3, begR, pln1, hn]
theorem sgQ_begin : beginP (begR pln1 5 [7]) = (0, sgQ) := by
 unfold beginP
 rw [up_v3 _ sgQ_rec rfl]
 simp [begR, sgQ, pln1]
theorem sgQ_fit : fitP pln1 sgQ = 0 := by decide +kernel
theorem sgQ_next : nextV pln1 sgQ = .agg (actl 1 5 0 1 ⟨#[98]⟩).toArray := by rfl
theorem pln1_fit : PFit pln1 := ⟨by decide, fun s hs => by simp [pln1] at hs; subst hs; decide, fun s hs => by simp [pln1] at hs; subst hs; decide⟩
structure SiI (w : World) (g : Nat) (wr : World) (k : Nat) (b : Bool) (T : Sg) (h' : SH) : Prop where
 bx : LB wr g 28 (scl T h')
 bel : Below w.heap.size w wr
 o : SgO w.heap.size wr T h'
 fit : fitP pln1 T = 0
 dir : T.x.ph = 1 ∨ T.x.ph = 3
 fin : b = true → T.x.ended = true ∧ k = 4
 go : b = false → k + (if T.x.ended then 0 else left T) = 3
theorem SiI.next {w wr w2 Y : World} {g : Nat} {T T2 : Sg} {h' h2 : SH} {k : Nat} {b2 : Bool} (q : SiI w g wr k false T h') (hg : w.heap.size ≤ g) (hb : Below wr.heap.size wr w2)
  (hT : (T.x.ended = true ∧ T2 = T ∧ h2 = h' ∧ b2 = true) ∨ (T.x.ended = false ∧ T2 = deedS T (turnR T []) ∧ b2 = false ∧ SgO wr.heap.size w2 T2 h2)) (hY : Y = w2.setCells g 0 (scl T2 h2)) : SiI w g Y (k + 1) b2 T2 h2 := by
 have z := q.bx.kept hb
 have bx2 : LB Y g 28 (scl T2 h2) := by rw [hY]; exact z.sets _ rfl
 have bel2 : Below w.heap.size w Y := by rw [hY]; exact below_cells hg _ 0 _ (andThen q.bel hb)
 have hgo := q.go rfl
 rcases hT with ⟨he, rfl, rfl, rfl⟩ | ⟨he, rfl, rfl, ho⟩
 ·refine ⟨bx2, bel2, by rw [hY]; exact (q.o.kept hb).oth z (by decide) (by decide) (Oth.sets _ _ _ _), q.fit, q.dir, fun _ => ⟨he, ?_⟩, (fun e => by cases e)⟩
  rw [he] at hgo
  simp at hgo
  omega
 ·have hc := (pfits_iff q.fit).2.1
  obtain ⟨v3, r0, _, g1, g2, g3, g4, g5, _⟩ := turn_good T [] hc he (by simp)
  have hd := ended_deed T _ v3 r0
  rw [he] at hgo
  simp only [Bool.false_eq_true, if_false] at hgo
  refine ⟨bx2, bel2, by rw [hY]; exact (ho.weak q.bel.size).oth z (by decide) (by decide) (Oth.sets _ _ _ _), turn_fits q.fit he (by simp), ?_, (fun e => by cases e), fun _ => ?_⟩
  ·by_cases h7 : (turnR T []).x.k = 7
   ·rw [g5 h7]
    unfold SN.ended at he
    rcases q.dir with h9 | h9
    ·rw [h9]; decide
    ·rw [h9] at he; simp at he
   ·rw [(g4 h7).2]; exact q.dir
  ·by_cases h7 : (turnR T []).x.k = 7
   ·rw [hd, decide_eq_true h7]
    have := g3.2 h7
    simp only [if_true]
    omega
   ·rw [hd, decide_eq_false h7]
    have := (g4 h7).1
    simp only [Bool.false_eq_true, if_false]
    omega
set_option maxHeartbeats 8000000 in
theorem psimple_any (w : World) (hT : STabs w) : Calls Tryd.prog 5 #[] w fun e w' => e = .returned (.bool true) ∧ Below w.heap.size w w' := by
 have HON : Hid (Calls Tryd.prog 15 #[] w fun e w' => ∃ g, e = .returned (plv pln1 (.slice (some ⟨g, 0, none⟩) 1 1)) ∧ LB w' g 75 (stl stp1) ∧ Below w.heap.size w w') := pone_any w
 have HBG : Hid (∀ (g : Nat) (d : Value) w', Below w.heap.size w w' → LB w' g 75 (stl stp1) → Bs w' d [7] → Calls Tryd.prog 10 #[plv pln1 (.slice (some ⟨g, 0, none⟩) 1 1), .int .i64 5, d] w' fun e w'' => ∃ h', e = .returned (.tuple #[sv sgQ h', .bool true]) ∧ SgO w'.heap.size w'' sgQ h' ∧ Below w'.heap.size w' w'') := fun g d w' hb hl hd => by
  have e := pbegun_any pln1 _ 5 d [7] w' (sts_of hl) (hT.kept hb) hd (by decide) (fit_v3 _ sgQ_rec (by decide)) (by rw [sgQ_begin])
  rw [sgQ_begin] at e
  exact e
 have HNX : Hid (∀ (g : Nat) (h' : SH) w', Below w.heap.size w w' → LB w' g 75 (stl stp1) → SgAt w' sgQ h' → Calls Tryd.prog 6 #[plv pln1 (.slice (some ⟨g, 0, none⟩) 1 1), sv sgQ h'] w' fun e w'' => e = .returned (.tuple #[.agg #[.int .i64 1, .int .i64 5, .int .i64 0, .int .i64 1, .string ⟨#[98]⟩], .int .i64 0]) ∧ Below w'.heap.size w' w'') := fun g h' w' hb hl hk => by
  have e := pnext_any pln1 _ sgQ h' w' ⟨sts_of hl, hk, (hT.kept hb).e.tabs.lets, pln1_fit, by decide⟩ sgQ_fit
  rw [sgQ_next] at e
  exact e
 have HNU : Hid (∀ w', Calls Tryd.prog 7 #[.int .i64 0] w' fun e w'' => e = .returned (.int .i64 0) ∧ w' = w'') := fun w' => pnum_any 0 w' (by decide) (by decide)
 have HTU : Hid (∀ (g : Nat) (T : Sg) (h' : SH) w', Below w.heap.size w w' → LB w' g 75 (stl stp1) → SgAt w' T h' → fitP pln1 T = 0 → Calls Tryd.prog 8 #[plv pln1 (.slice (some ⟨g, 0, none⟩) 1 1), sv T h', .agg #[.int .i64 1, .int .i64 0, .slice none 0 0]] w' fun e w'' => TuPost T h' [] w' e w'') := fun g T h' w' hb hl hk hf => pturn_any pln1 _ T h' (.slice none 0 0) [] w' ⟨sts_of hl, hk, (hT.kept hb).e.tabs.lets, pln1_fit, by rw [bytes_toListQ (pfits_iff hf).2.2.1]; decide⟩ (hT.kept hb) (Bs.nil w') (by simp) hf
 obtain ⟨Z, hZ⟩ : ∃ Z, Z = zcl := ⟨_, rfl⟩
 have HZ : Hid (Z = zcl) := hZ
 have HZL : Hid (Z.length = 16) := by show _ = _; rw [hZ]; rfl
 clear hZ hT
 go_enter Tryd.func5, Tryd.ntmps5
 go_wp2_with fail
 refine HON.out.mono ?_
 rintro e w1 ⟨gst, rfl, l1, b1⟩
 obtain ⟨C, hC, hM, hG⟩ := plv_letter pln1 (.slice (some ⟨gst, 0, none⟩) 1 1)
 rw [hC]
 have HC : Hid (plv pln1 (.slice (some ⟨gst, 0, none⟩) 1 1) = .agg C.toArray) := hC
 have HM : Hid _ := hM
 have HCO : Hid (C.length = 3 ∧ ∀ v ∈ C, v.oneCell' = true) := by
  rw [hG]
  refine ⟨rfl, fun v hv => ?_⟩
  simp only [plvl, List.mem_cons, List.not_mem_nil, or_false] at hv
  rcases hv with rfl | rfl | rfl <;> rfl
 have HT1 : Hid ((w1.alloc (.cells #[.string ⟨#[]⟩, .int .i64 0, .slice none 0 0] 24)).there w1.heap.size 0 C.toArray.size) := there_of (lb_new w1 [.string ⟨#[]⟩, .int .i64 0, .slice none 0 0] _) (by simp [HCO.out.1])
 have E1 : Hid (∃ Y, Y = (w1.alloc (.cells #[.string ⟨#[]⟩, .int .i64 0, .slice none 0 0] 24)).setCells w1.heap.size 0 C ∧ LB Y w1.heap.size 24 C ∧ LB Y gst 75 (stl stp1) ∧ Below w.heap.size w Y) := by
  obtain ⟨q1, q2⟩ := one_boxQ w1 24 [.string ⟨#[]⟩, .int .i64 0, .slice none 0 0] C HCO.out.1
  exact ⟨_, rfl, q1, l1.kept q2, andThen b1 q2⟩
 clear hC hM hG l1 b1 HON
 go_wp2_with (first | (refine wpList_store_mid rfl 24 (.tmp 1) (.tmp 8) rfl w1.heap.size 0 C.toArray rfl rfl HT1.out (by simpa using HM.out) (all_oneCell_toArray HCO.out.2) ?_; (obtain ⟨Y1, hY, hq⟩ := E1.out); (have H1 : Hid _ := hq); (rw [List.toList_toArray, ← hY]); (clear hY hq E1 HT1)) | (refine wpList_load_mid rfl 24 _ rfl w1.heap.size 0 rfl C _ H1.out.1.range Tryd.underlying24 rfl HM.out ?_) | fail)
 generalize w1.heap.size = gp at *
 obtain ⟨X, eX⟩ : ∃ X, X = Y1.alloc (.cells #[.int .u8 7] 5) := ⟨_, rfl⟩
 have H2 : Hid (LB X gp 24 C ∧ LB X gst 75 (stl stp1) ∧ Below w.heap.size w X ∧ Bs X (.slice (some ⟨Y1.heap.size, 0, none⟩) 1 1) [7]) := by
  rw [eX]
  exact ⟨H1.out.1.kept (up0 _ _), H1.out.2.1.kept (up0 _ _), andThen H1.out.2.2 (up0 _ _), Bs.one Y1 7 (by decide) 7 rfl⟩
 rw [← eX]
 clear eX H1
 generalize Y1.heap.size = g7b at *
 have HB2 : Hid (Calls Tryd.prog 10 #[.agg C.toArray, .int .i64 5, .slice (some ⟨g7b, 0, none⟩) 1 1] X fun e w'' => ∃ h', e = .returned (.tuple #[sv sgQ h', .bool true]) ∧ SgO X.heap.size w'' sgQ h' ∧ Below X.heap.size X w'') := by
  have e := HBG.out gst _ X H2.out.2.2.1 H2.out.2.1 H2.out.2.2.2
  rw [HC.out] at e
  exact e
 refine HB2.out.mono ?_
 rintro e w3 ⟨h3, rfl, o3, b3⟩
 obtain ⟨D3, hD, hL, hE⟩ := sv_letter sgQ h3
 rw [hD]
 have HD3 : Hid (sv sgQ h3 = .agg D3.toArray) := hD
 have HDL3 : Hid _ := hL
 have HDE3 : Hid (D3 = scl sgQ h3) := hE
 have HDO3 : Hid (∀ v ∈ D3, v.oneCell' = true) := by show ∀ v ∈ D3, _; rw [hE]; exact scl_one _ _
 have HDZ3 : Hid (D3.length = Z.length) := by show _ = _; rw [hE, HZL.out]; rfl
 have HT3 : Hid ((w3.alloc (.cells Z.toArray 28)).there w3.heap.size 0 D3.toArray.size) := there_of (lb_new w3 Z _) (by simpa using HDZ3.out)
 have E3 : Hid (∃ Y, Y = (w3.alloc (.cells Z.toArray 28)).setCells w3.heap.size 0 D3 ∧ LB Y gp 24 C ∧ LB Y gst 75 (stl stp1) ∧ Below w.heap.size w Y ∧ LB Y w3.heap.size 28 D3 ∧ SgO w.heap.size Y sgQ h3 ∧ w.heap.size ≤ w3.heap.size) := by
  obtain ⟨q1, q2⟩ := one_boxQ w3 28 Z D3 HDZ3.out
  have q3 := andThen b3 q2
  exact ⟨_, rfl, H2.out.1.kept q3, H2.out.2.1.kept q3, andThen H2.out.2.2.1 q3, q1, (o3.weak H2.out.2.2.1.size).kept q2, (andThen H2.out.2.2.1 b3).size⟩
 clear hD hL hE o3 b3 H2 HB2 HBG
 go_wp2_with (first | (refine wpList_alloc_Z HZ.out rfl rfl ?_) | (refine wpList_store_mid rfl 28 (.tmp 2) (.tmp 13) rfl w3.heap.size 0 D3.toArray rfl rfl HT3.out (by simpa using HDL3.out) (all_oneCell_toArray HDO3.out) ?_; (obtain ⟨Y3, hY, hq⟩ := E3.out); (have H3 : Hid _ := hq); (rw [List.toList_toArray, ← hY]); (clear hY hq E3 HT3)) | (refine wpList_load_mid rfl 24 _ rfl gp 0 rfl C _ H3.out.1.range Tryd.underlying24 rfl HM.out ?_) | (refine wpList_load_mid rfl 28 _ rfl w3.heap.size 0 rfl D3 _ H3.out.2.2.2.1.range Tryd.underlying28 rfl HDL3.out ?_) | fail)
 generalize w3.heap.size = gs at *
 have HN3 : Hid (Calls Tryd.prog 6 #[.agg C.toArray, .agg D3.toArray] Y3 fun e w'' => e = .returned (.tuple #[.agg #[.int .i64 1, .int .i64 5, .int .i64 0, .int .i64 1, .string ⟨#[98]⟩], .int .i64 0]) ∧ Below Y3.heap.size Y3 w'') := by
  have e := HNX.out gst h3 Y3 H3.out.2.2.1 H3.out.2.1 H3.out.2.2.2.2.1.at
  rw [HC.out, HD3.out] at e
  exact e
 refine HN3.out.mono ?_
 rintro e w4 ⟨rfl, b4⟩
 have HW4 : Hid (∀ o, SiI w gs (w4.alloc o) 0 false sgQ h3 ∧ LB (w4.alloc o) gp 24 C ∧ LB (w4.alloc o) gst 75 (stl stp1)) := fun o => by
  obtain ⟨z1, z2, z3, z4, z5, z6⟩ := H3.out
  have q := andThen b4 (up0 w4 o)
  refine ⟨⟨by rw [← HDE3.out]; exact z4.kept q, andThen z3 q, z5.kept q, sgQ_fit, .inl rfl, (fun e => by cases e), fun _ => by decide⟩, z1.kept q, z2.kept q⟩
 have HGS : Hid (w.heap.size ≤ gs) := H3.out.2.2.2.2.2
 clear b4 H3 HN3 HNX HD3 HDL3 HDE3 HDO3 HDZ3
 go_wp2_with fail
 refine (HNU.out _).mono ?_
 rintro e w5 ⟨rfl, rfl⟩
 go_wp2_with fail
 obtain ⟨V, eV⟩ : ∃ V, V = w4.alloc (.cells #[.int .i64 1, .int .i64 5, .int .i64 0, .int .i64 1, .string ⟨#[98]⟩] 31) := ⟨_, rfl⟩
 rw [← eV]
 have H5 : Hid (SiI w gs V 0 false sgQ h3 ∧ LB V gp 24 C ∧ LB V gst 75 (stl stp1)) := by rw [eV]; exact HW4.out _
 clear eV HW4
 go_loopw [7, 6, 3] (fun i en ok wr => ∃ (k : Nat) (b : Bool) (T : Sg) (h' : SH), i = .int .i64 (k : Int) ∧ en = .bool b ∧ ok = .bool true ∧ SiI w gs wr k b T h' ∧ LB wr gp 24 C ∧ LB wr gst 75 (stl stp1)) (fun i _ _ _ => 5 - (intOf i).toNat)
 case atStart => exact ⟨0, false, sgQ, h3, rfl, rfl, rfl, H5.out⟩
 case round =>
  obtain ⟨k, b, T, h', rfl, rfl, rfl, hI⟩ := hrel
  have HI : Hid (SiI w gs wr k b T h' ∧ LB wr gp 24 C ∧ LB wr gst 75 (stl stp1)) := hI
  clear hI H5
  obtain ⟨DT, hDT, hLT, hET⟩ := sv_letter T h'
  have HLT : Hid _ := hLT
  have HBX : Hid (LB wr gs 28 DT) := by show LB _ _ _ _; rw [hET]; exact HI.out.1.bx
  cases b with
  | false =>
   have hk : (k : Int) < 4 := by have h1 := HI.out.1.go rfl; omega
   have hk0 : (0 : Int) ≤ (k : Int) := by omega
   have HT5 : Hid (Calls Tryd.prog 8 #[.agg C.toArray, .agg DT.toArray, .agg #[.int .i64 1, .int .i64 0, .slice none 0 0]] wr fun e w'' => TuPost T h' [] wr e w'') := by
    have e := HTU.out gst T h' wr HI.out.1.bel HI.out.2.2 HI.out.1.o.at HI.out.1.fit
    rw [HC.out, hDT] at e
    exact e
   have HDL : Hid (DT.length = 16) := by show _ = _; rw [hET]; rfl
   clear hDT hLT hET
   go_wp2_with (first | (refine wpList_load_mid rfl 24 _ rfl gp 0 rfl C _ HI.out.2.1.range Tryd.underlying24 rfl HM.out ?_) | (refine wpList_load_mid rfl 28 _ rfl gs 0 rfl DT _ HBX.out.range Tryd.underlying28 rfl HLT.out ?_) | fail)
   refine HT5.out.mono ?_
   intro e w5 hq5
   obtain ⟨T2, h2, b2, rfl, b5, hT2⟩ := tu_cases hq5
   obtain ⟨D2, hD2, hL2, hE2⟩ := sv_letter T2 h2
   rw [hD2]
   have HL2 : Hid _ := hL2
   have HO2 : Hid (∀ v ∈ D2, v.oneCell' = true) := by show ∀ v ∈ D2, _; rw [hE2]; exact scl_one _ _
   have HT6 : Hid (w5.there gs 0 D2.toArray.size) := there_of (HBX.out.kept b5) (by rw [HDL.out, hE2]; rfl)
   have E6 : Hid (∃ Y, Y = w5.setCells gs 0 D2 ∧ SiI w gs Y (k + 1) b2 T2 h2 ∧ LB Y gp 24 C ∧ LB Y gst 75 (stl stp1)) := by
    have zc := HI.out.2.1.kept b5
    have zt := HI.out.2.2.kept b5
    have zb := HBX.out.kept b5
    exact ⟨_, rfl, HI.out.1.next HGS.out b5 hT2 (by rw [hE2]), zc.others _ _ _ (lb_ne zc zb (by decide)), zt.others _ _ _ (lb_ne zt zb (by decide))⟩
   clear hD2 hL2 hE2 hq5 hT2 b5 HT5
   go_wp2_with (first | (refine wpList_store_mid rfl 28 (.tmp 2) (.tmp 56) rfl gs 0 D2.toArray rfl rfl HT6.out (by simpa using HL2.out) (all_oneCell_toArray HO2.out) ?_; (obtain ⟨Y6, hY, hq⟩ := E6.out); (have H6 : Hid _ := hq); (rw [List.toList_toArray, ← hY]); (clear hY hq E6 HT6)) | fail)
   go_roundw
   case rel => exact ⟨k + 1, b2, T2, h2, by simp, rfl, rfl, H6.out⟩
   case measure => simp [intOf]; omega
  | true =>
   obtain ⟨he, rfl⟩ := HI.out.1.fin rfl
   have h3' : T.x.ph = 3 := by
    unfold SN.ended at he
    rcases HI.out.1.dir with h9 | h9
    ·rw [h9] at he; simp at he
    ·exact h9
   have c7 := HBX.out.cell 7 (.int .i64 3) (by rw [hET, ← h3']; rfl)
   clear hDT hLT hET he h3'
   go_wp2_with fail
   go_ret
   exact ⟨rfl, HI.out.1.bel⟩

end Go.Proofs.YtodcakplmoajiaaDoor
namespace Go.Proofs.YtodcakplmoajiaaDoor
open Go Go.RowKit Go.ChangeShapes Go.WideShapes Go.ChangeAt
open Wb

theorem cellsTSTEP : Tryd.prog.cellsOf 75 = 3 := by kernel_rfl
theorem cellsTPLAN : Tryd.prog.cellsOf 24 = 3 := by kernel_rfl
theorem cellsTSTEPS : Tryd.prog.cellsOf 22 = 1 := by kernel_rfl
theorem listedP {α : Type} {p : Nat → α → Prop} : ∀ n, (∀ k, k < n → ∃ a, p k a) → ∃ l : List α, l.length = n ∧ ∀ k a, l[k]? = some a → p k a
 | 0, _ => ⟨[], rfl, fun k a h => by simp at h⟩
 | n + 1, h => by
  obtain ⟨l, hl, hp⟩ := listedP n (fun k hk => h k (by omega))
  obtain ⟨a, ha⟩ := h n (by omega)
  refine ⟨l ++ [a], by simp [hl], fun k b hb => ?_⟩
  by_cases hk : k < n
  ·rw [List.getElem?_append_left (by omega)] at hb
   exact hp k b hb
  ·rw [List.getElem?_append_right (by omega)] at hb
   obtain rfl : k = n := by
    have := (List.getElem?_eq_some_iff.1 hb).1
    simp at this
    omega
   rw [hl] at hb
   simp at hb
   exact hb ▸ ha
theorem open_stp {H : Type} {enc : TypeId × Value → H} {W : World} {fuel : Nat} {cs : List Value} {d : DataW H} {p : List MemPlace} (hf : DataW.trod enc Tryd.prog W 0 (fun _ => true) true fuel 75 cs = some (d, p)) (hlen : cs.length = 3) (hw : ∀ n ∈ d.weights Tryd.prog 75, n ≤ reachBytes) :
  ∃ s : Stp, cs = stl s ∧ s.d.size ≤ 140737488355000 ∧ s.u.size ≤ 140737488355000 := by
 have hr := reachIs
 obtain ⟨xs, k', _, hxy, _, hxl, hfs⟩ := DataW.trod_struct Tryd.underlying75 hf
 match xs, hxl, cs, hlen with
 | [y0, y1, y2], _, [v0, v1, v2], _ =>
  have g0 := hfs 0 _ rfl
  have g1 := hfs 1 _ rfl
  have g2 := hfs 2 _ rfl
  simp [cellsTI, cellsTSTR] at g0 g1 g2
  simp only [Prod.mk.injEq] at hxy
  obtain ⟨z0, e0, q0, _⟩ := DataW.trod_string Tryd.underlying9 g0
  obtain ⟨z1, e1, q1, _⟩ := DataW.trod_string Tryd.underlying9 g1
  obtain ⟨z2, e2, _, _⟩ := DataW.trod_int Tryd.underlying3 g2
  have w0 : z0.size ≤ reachBytes := hw z0.size (by rw [hxy.1]; simp [DataW.weights, Tryd.underlying75, DataW.weightsEach, q0])
  have w1 : z1.size ≤ reachBytes := hw z1.size (by rw [hxy.1]; simp [DataW.weights, Tryd.underlying75, DataW.weightsEach, q1])
  simp only [List.cons.injEq, and_true] at e0 e1 e2
  exact ⟨⟨z0, z1, z2⟩, by simp only [e0, e1, e2, stl], by show z0.size ≤ _; omega, by show z1.size ≤ _; omega⟩
theorem open_steps {H : Type} {enc : TypeId × Value → H} {W : World} {fuel : Nat} {v : Value} {d : DataW H} {p : List MemPlace} (hf : DataW.trod enc Tryd.prog W 0 (fun _ => true) true fuel 22 [v] = some (d, p)) (hw : ∀ n ∈ d.weights Tryd.prog 22, n ≤ reachBytes) :
  ∃ ss, StsAt W v ss ∧ ∀ s ∈ ss, s.d.size ≤ 140737488355000 ∧ s.u.size ≤ 140737488355000 := by
 rcases Deep.open_slice Tryd.underlying22 hf with ⟨hcs, _⟩ | ⟨a, len0, cap0, m, n, D, Pl, hcs, _, hl, hm, hmm, hx, hel⟩
 ·simp at hcs
  subst hcs
  exact ⟨[], ⟨none, 0, rfl, by simp, by simp [maxLen], fun k s hk => by simp at hk⟩, fun s hs => nomatch hs⟩
 ·simp at hcs
  subst hcs
  simp only [Prod.mk.injEq] at hx
  have each : ∀ k, k < len0 → ∃ s : Stp, ∃ b off, a = ⟨b, off, none⟩ ∧ W.rangeAt b (off + k * 3) (stl s) ∧ s.d.size ≤ 140737488355000 ∧ s.u.size ≤ 140737488355000 := fun k hk => by
   have hkm : k < m := by rw [hmm]; simp; omega
   have hspot : a.spot = none := by
    obtain ⟨cs0, h10, _⟩ := hel 0 (by omega)
    rw [cellsTSTEP] at h10
    obtain ⟨_, hl0, hc0⟩ := World.cells?_some h10
    have r0 := hc0 0 (by omega)
    rw [List.getElem?_eq_getElem (show 0 < cs0.length by omega)] at r0
    simpa [Addr.add] using World.cell?_spot r0
   obtain ⟨cs', h1, h2⟩ := hel k hkm
   have hwk : ∀ n ∈ (D k).weights Tryd.prog 75, n ≤ reachBytes := fun n hn => hw n (by
    rw [hx.1]
    simp only [DataW.weights, Tryd.underlying22, List.mem_cons, List.mem_append]
    exact .inr (.inl (weightsAll_mem (List.mem_map.2 ⟨k, List.mem_range.2 hk, rfl⟩) hn)))
   rw [cellsTSTEP] at h1
   obtain ⟨_, hlen, hcell⟩ := World.cells?_some h1
   obtain ⟨s, e, hd, hu⟩ := open_stp h2 hlen hwk
   obtain ⟨b, off, spot⟩ := a
   obtain rfl : spot = none := hspot
   refine ⟨s, b, off, rfl, fun j u hu => ?_, hd, hu⟩
   rw [← e] at hu
   have hj : j < 3 := by have := (List.getElem?_eq_some_iff.1 hu).1; omega
   have := hcell j hj
   rw [Deep.add_add, Go.WideShapes.add_plain, ← Nat.add_assoc, hu] at this
   exact this
  obtain ⟨ss, hrl, hrs⟩ := listedP len0 each
  refine ⟨ss, ⟨some a, cap0, by rw [hrl], by omega, by omega, fun k s hs => ?_⟩, fun s hs => ?_⟩
  ·obtain ⟨b, off, e, h1, _⟩ := hrs k s hs
   exact ⟨b, off, by rw [e], h1⟩
  ·obtain ⟨k, hk, rfl⟩ := List.getElem_of_mem hs
   obtain ⟨_, _, _, _, h3, h4⟩ := hrs k _ (List.getElem?_eq_getElem hk)
   exact ⟨h3, h4⟩
theorem open_plan {H : Type} {enc : TypeId × Value → H} {W : World} {base : Nat} {v : Value} {d : DataW H} {p : List MemPlace} (hv : Value.okWide Tryd.prog W .any base 24 v)
  (h : DataW.Trod enc Tryd.prog W 0 (fun _ => true) true 24 v d p) (hw : ∀ n ∈ d.weights Tryd.prog 24, n ≤ reachBytes) : ∃ q u, v = plv q u ∧ StsAt W u q.ss ∧ PFit q := by
 have hr := reachIs
 obtain ⟨cs, rfl, hcs⟩ := okWide_struct Tryd.underlying24 hv
 rw [cellsTPLAN] at hcs
 obtain ⟨fuel, hf⟩ := h
 obtain ⟨xs, k', _, hxy, _, hxl, hfs⟩ := DataW.trod_struct Tryd.underlying24 hf
 have hlen : cs.toList.length = 3 := by simpa using hcs
 have hcells : Value.cells (.agg cs) = cs := rfl
 rw [hcells] at hfs
 obtain ⟨vs⟩ := cs
 simp only at hfs hlen
 match xs, hxl, vs, hlen with
 | [y0, y1, y2], _, [v0, v1, v2], _ =>
  have g0 := hfs 0 _ rfl
  have g1 := hfs 1 _ rfl
  have g2 := hfs 2 _ rfl
  simp [cellsTI, cellsTSTR, cellsTSTEPS] at g0 g1 g2
  simp only [Prod.mk.injEq] at hxy
  obtain ⟨z0, e0, q0, _⟩ := DataW.trod_string Tryd.underlying9 g0
  obtain ⟨z1, e1, _, _⟩ := DataW.trod_int Tryd.underlying3 g1
  have w0 : z0.size ≤ reachBytes := hw z0.size (by rw [hxy.1]; simp [DataW.weights, Tryd.underlying24, DataW.weightsEach, q0])
  have hw2 : ∀ n ∈ y2.1.weights Tryd.prog 22, n ≤ reachBytes := fun n hn => hw n (by
   rw [hxy.1]
   simp [DataW.weights, Tryd.underlying24, DataW.weightsEach, hn])
  obtain ⟨ss, hs1, hs2⟩ := open_steps g2 hw2
  simp only [List.cons.injEq, and_true] at e0 e1
  subst e0 e1
  exact ⟨⟨z0, z1, ss⟩, v2, rfl, hs1, ⟨by show z0.size ≤ _; omega, fun s hs => (hs2 s hs).1, fun s hs => (hs2 s hs).2⟩⟩
end Go.Proofs.YtodcakplmoajiaaDoor
