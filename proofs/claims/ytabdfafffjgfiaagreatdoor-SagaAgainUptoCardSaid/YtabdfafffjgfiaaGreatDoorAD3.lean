import Derived.Test.YtabdfafffjgfiaaGreatDoorAU1
import Derived.Test.YtabdfafffjgfiaaGreatDoorASX
import Derived.Test.YtabdfafffjgfiaaGreatDoorAD2
set_option maxRecDepth 100000
set_option maxHeartbeats 4000000
namespace Go.Proofs.YtabdfafffjgfiaaGreatDoor
open Go Go.RowKit
open Wb

theorem step_storeX {P : Program} {ops : Array Oper} {o : Oper} {a : Act} {w : World} {K : Act → World → Prop} {Q : Exit → Act → World → Prop} {E : Prop} (hgd : o.guard = none) (ty : TypeId) (x y : Operand) (ho : o.op = .store ty x y)
  (b f : Nat) (cells : Array Value) (hx : a.eval x = .pointer (some ⟨b, f, none⟩)) (hy : a.eval y = .agg cells) (ht : w.there b f cells.size) (hi : (P.info? ty).map (·.size) = some cells.size) (h1 : cells.all (·.oneCell') = true)
  (h : K (a.put o.dst undef) (w.setCells b f cells.toList)) : if Region.wanted o (yielded ops a.tmps) = true then Oper.wp P o a w K Q else E := by
 rw [if_pos (by simp [Region.wanted, hgd])]
 exact wp_store_mid ty x y ho b f cells hx hy ht hi h1 h
theorem rxbytes_any (v : Value) (l : List Nat) (w : World) (h : Bs w v l) (hlen : l.length ≤ 140737488355328) :
  Calls Tryz.prog 50 #[v] w fun e w' => ∃ a, ∃ c : Nat, e = .returned (.slice a l.length c) ∧ Own w.heap.size w' (.slice a l.length c) l ∧ Below w.heap.size w w' := by
 have hin := info5
 have HB : Hid (Bs w v l) := h
 obtain ⟨ao, cap, rfl, _⟩ := h.shape
 clear h
 go_enter Tryz.func50, Tryz.ntmps50
 go_wp2_with (at_builtin; refine wpList_append _ rfl (.tmp 4) (.tmp 5) 22 rfl w.heap.size hin Tryz.underlying22 _ [] rfl (Own.nil _ _) _ l rfl HB.out (by simp; omega) (Nat.le_refl _) ?_)
 intro v' w' ho hb _
 obtain ⟨a, c, rfl, _⟩ := ho.bs.shape
 have HO : Hid (Own w.heap.size w' (.slice a l.length c) l ∧ Below w.heap.size w w') := ⟨ho, hb⟩
 clear ho hb
 go_wp2
 go_ret
 exact ⟨_, _, rfl, HO.out.1, HO.out.2⟩
theorem bs_blocks {w w' : World} {d : Value} {l : List Nat} {g : Nat} (h : Bs w d l) (hb : ∀ b, b ≠ g → w'.heap[b]? = w.heap[b]?) (ho : Off g d l) : Bs w' d l := by
 obtain ⟨ao, cap, rfl, h1, h2, h3, h4⟩ := h.shape
 refine ⟨⟨ao, cap, rfl, h1, h2, h3, fun hne => ?_⟩, h.good⟩
 obtain ⟨b, off, rfl, hc⟩ := h4 hne
 refine ⟨b, off, rfl, fun j hj => ?_⟩
 rw [← hc j hj]
 exact World.cell?_of_block (hb b (ho hne b off _ _ rfl))
theorem rxthird_any (r : Rec) (d : Value) (w : World) (hb : Bs w d r.l) (hT : Tabs w) (hnm : r.nm.size ≤ 1048576) (hf : r.x.fit) : Calls Tryz.prog 76 #[rv r.x r.nm d] w fun e w' => ∃ ao, ∃ cap : Nat, e = .returned (rv (upP 3 r).2.x (upP 3 r).2.nm (.slice ao (upP 3 r).2.l.length cap)) ∧ Bs w' (.slice ao (upP 3 r).2.l.length cap) (upP 3 r).2.l ∧ Below w.heap.size w w' := by
 have HUP0 : ∀ w', Below w.heap.size w w' → Calls Tryz.prog 93 #[rv r.x r.nm d, .int .i64 3] w' fun e w'' => ∃ ad, ∃ cd : Nat, e = .returned (.tuple #[rv (upP 3 r).2.x (upP 3 r).2.nm (.slice ad (upP 3 r).2.l.length cd), .int .i64 (upP 3 r).1]) ∧ Bs w'' (.slice ad (upP 3 r).2.l.length cd) (upP 3 r).2.l ∧ (∀ g, g < w'.heap.size → Off g (.slice ad (upP 3 r).2.l.length cd) (upP 3 r).2.l) ∧ Below w'.heap.size w' w'' := fun w' hb' => r4up_any 3 r d w' (hb.kept hb') (hT.kept hb') hnm hf
 obtain ⟨z, hz⟩ : ∃ z, (upP 3 r).1 = z := ⟨_, rfl⟩
 obtain ⟨u, hu⟩ : ∃ u, (upP 3 r).2 = u := ⟨_, rfl⟩
 rw [hz, hu] at HUP0
 rw [hu]
 clear hb hT hnm hf hz hu
 obtain ⟨ZR, hZR⟩ : ∃ ZR, ZR = zrl := ⟨_, rfl⟩
 have HZR : Hid (ZR = zrl) := hZR
 have HZRL : Hid (ZR.length = 12) := by show _ = _; rw [hZR]; rfl
 obtain ⟨E, hD2, hL2, -⟩ := rv_letter r.x r.nm d
 rw [hD2]
 rw [hD2] at HUP0
 have HUP : Hid _ := HUP0
 have HL2 : Hid _ := hL2
 have HX : Hid (LB ((w.alloc (.cells E.toArray 37)).alloc (.cells ZR.toArray 37)) w.heap.size 37 E ∧ LB ((w.alloc (.cells E.toArray 37)).alloc (.cells ZR.toArray 37)) (w.heap.size + 1) 37 ZR ∧ Below w.heap.size w ((w.alloc (.cells E.toArray 37)).alloc (.cells ZR.toArray 37))) := lb_new2 w E ZR _ _
 clear hD2 hL2 HUP0 hZR
 go_enter Tryz.func76, Tryz.ntmps76
 go_wp2_with (first | (refine wpList_alloc_R HZR.out rfl rfl ?_; (try simp only [heap_one])) | (refine wpList_load_mid rfl 37 _ rfl w.heap.size 0 rfl E _ HX.out.1.range Tryz.underlying37 rfl HL2.out ?_) | fail)
 refine (HUP.out _ HX.out.2.2).mono ?_
 rintro e w2 ⟨ad, cd, rfl, ho2, hof, b2⟩
 have H2 : Hid (LB w2 (w.heap.size + 1) 37 ZR ∧ Bs w2 (.slice ad u.l.length cd) u.l ∧ Off (w.heap.size + 1) (.slice ad u.l.length cd) u.l ∧ Below w.heap.size w w2) := ⟨HX.out.2.1.kept b2, ho2, hof _ (by rw [heap_one, heap_one]; omega), andThen HX.out.2.2 b2⟩
 clear b2 ho2 hof HX HUP HL2
 obtain ⟨G, hG, hGL, hGE⟩ := rv_letter u.x u.nm (.slice ad u.l.length cd)
 rw [hG]
 have HGL : Hid _ := hGL
 have HG : Hid (rv u.x u.nm (.slice ad u.l.length cd) = .agg G.toArray) := hG
 have HG1 : Hid (∀ v ∈ G, v.oneCell' = true) := by show ∀ v ∈ G, _; rw [hGE]; exact rcE_one _ _ _ rfl
 have HGZ : Hid (G.length = ZR.length) := by show _ = _; rw [hGE, HZRL.out]; rfl
 have HTZ : Hid ((w2.alloc (.cells ZR.toArray 37)).there w2.heap.size 0 G.toArray.size) := there_of (lb_new w2 ZR _) (by simpa using HGZ.out)
 have H3 : Hid (∃ W3, W3 = (w2.alloc (.cells ZR.toArray 37)).setCells w2.heap.size 0 G ∧ LB W3 (w.heap.size + 1) 37 ZR ∧ Bs W3 (.slice ad u.l.length cd) u.l ∧ LB W3 w2.heap.size 37 G ∧ Below w.heap.size w W3) := by
  obtain ⟨q1, q2⟩ := one_boxR w2 37 ZR G HGZ.out
  exact ⟨_, rfl, H2.out.1.kept q2, H2.out.2.1.kept q2, q1, andThen H2.out.2.2.2 q2⟩
 have HOF : Hid (Off (w.heap.size + 1) (.slice ad u.l.length cd) u.l) := H2.out.2.2.1
 clear hG hGL hGE H2
 go_wp2_with (first | (refine wpList_alloc_R HZR.out rfl rfl ?_) | (refine wpList_store_mid rfl 37 (.tmp 3) (.tmp 8) rfl w2.heap.size 0 G.toArray rfl rfl HTZ.out (by simpa using HGL.out) (all_oneCell_toArray HG1.out) ?_; (obtain ⟨W3, hW3, hq⟩ := H3.out); (have H4 : Hid _ := hq); (rw [List.toList_toArray, ← hW3]); (clear hW3 hq H3 HTZ)) | (refine wpList_load_mid rfl 37 _ rfl w2.heap.size 0 rfl G _ H4.out.2.2.1.range Tryz.underlying37 rfl HGL.out ?_) | (refine wpList_store_mid rfl 37 (.tmp 2) (.tmp 10) rfl (w.heap.size + 1) 0 G.toArray rfl rfl (there_of H4.out.1 (by simpa using HGZ.out)) (by simpa using HGL.out) (all_oneCell_toArray HG1.out) ?_; (rw [List.toList_toArray])) | fail)
 have HR9 : Hid ((W3.setCells (w.heap.size + 1) 0 G).rangeAt (w.heap.size + 1) 0 G) := (H4.out.1.sets G HGZ.out).range
 refine bodyPost_ret (results_cell_mid rfl _ (W3.setCells (w.heap.size + 1) 0 G) (w.heap.size + 1) G _ rfl HR9.out Tryz.underlying37 rfl HGL.out) rfl ?_
 exact ⟨ad, cd, by rw [HG.out], bs_blocks H4.out.2.1 (fun b hb => cells_other _ _ _ _ _ hb) HOF.out, below_cells (by omega) _ 0 _ H4.out.2.2.2⟩
theorem begin_v3 (r : Rec) (hv : V3 r) (h3 : r.x.v = 3) (hk : r.x.k = 1) : beginP r = (0, ⟨⟨r.x.s, r.x.n, r.x.i, r.x.a, r.x.a, 1, 0, false, 0, 0, 0⟩, r.nm, r.l, [], [], []⟩) := by
 unfold beginP
 rw [up_v3 r hv h3, if_neg (by simp), if_neg (by simpa using hk)]
theorem rxbegin_ok (r : Rec) (d : Value) (w : World) (hb : Bs w d r.l) (hT : Tabs w) (hnm : r.nm.size ≤ 1048576) (hf : r.x.fit) (hv : V3 r) (h3 : r.x.v = 3) (hk : r.x.k = 1) : Calls Tryz.prog 55 #[rv r.x r.nm d] w fun e w' => ∃ h', e = .returned (.tuple #[sv (beginP r).2 h', .int .i64 (beginP r).1]) ∧ SgOwn w.heap.size w' (beginP r).2 h' ∧ Below w.heap.size w w' := by
 rw [begin_v3 r hv h3 hk]
 have HCK0 : ∀ w', Below w.heap.size w w' → Calls Tryz.prog 75 #[rv r.x r.nm d] w' fun e w'' => e = .returned (.int .i64 0) ∧ Below w'.heap.size w' w'' := fun w' hb' => by
  have e := refcheck_any r.x r.nm d r.l w' (hb.kept hb') (hT.kept hb').rlets (hT.kept hb').rows hf.c (by omega)
  rw [(v3_iff r h3).2 hv] at e
  exact e
 have HTH0 : ∀ w', Below w.heap.size w w' → Calls Tryz.prog 76 #[rv r.x r.nm d] w' fun e w'' => ∃ ao, ∃ cap : Nat, e = .returned (rv r.x r.nm (.slice ao r.l.length cap)) ∧ Bs w'' (.slice ao r.l.length cap) r.l ∧ Below w'.heap.size w' w'' := fun w' hb' => by
  have e := rxthird_any r d w' (hb.kept hb') (hT.kept hb') hnm hf
  rw [up_v3 r hv h3] at e
  exact e
 have hlen : r.l.length ≤ 16384 := by
  obtain ⟨_, _, _, h1 | h1 | h1 | h1 | h1⟩ := hv
  ·exact h1.2.2.2.2.2.2.2.2.2.2
  all_goals omega
 have HBY : Hid (∀ (v : Value) (w' : World), Bs w' v r.l → Calls Tryz.prog 50 #[v] w' fun e w'' => ∃ a, ∃ c : Nat, e = .returned (.slice a r.l.length c) ∧ Own w'.heap.size w'' (.slice a r.l.length c) r.l ∧ Below w'.heap.size w' w'') := fun v w' h1 => rxbytes_any v r.l w' h1 (by omega)
 obtain ⟨Z, hZ⟩ : ∃ Z, Z = zcl := ⟨_, rfl⟩
 obtain ⟨ZR, hZR⟩ : ∃ ZR, ZR = zrl := ⟨_, rfl⟩
 have HZ : Hid (Z = zcl) := hZ
 have HZR : Hid (ZR = zrl) := hZR
 have HZL : Hid (Z.length = 16) := by show _ = _; rw [hZ]; rfl
 have HZRL : Hid (ZR.length = 12) := by show _ = _; rw [hZR]; rfl
 obtain ⟨E, hD2, hL2, hE2⟩ := rv_letter r.x r.nm d
 rw [hD2] at HCK0 HTH0 ⊢
 have HCK : Hid _ := HCK0
 have HTH : Hid _ := HTH0
 have HL2 : Hid _ := hL2
 have HE2 : Hid (E = rcE r.x r.nm d) := hE2
 have HX : Hid (LB ((w.alloc (.cells E.toArray 37)).alloc (.cells Z.toArray 25)) w.heap.size 37 E ∧ LB ((w.alloc (.cells E.toArray 37)).alloc (.cells Z.toArray 25)) (w.heap.size + 1) 25 Z ∧ Below w.heap.size w ((w.alloc (.cells E.toArray 37)).alloc (.cells Z.toArray 25))) := lb_new2 w E Z _ _
 clear hD2 hL2 hE2 HCK0 HTH0 hZ hZR hb hT hnm hf hv h3 hlen
 go_enter Tryz.func55, Tryz.ntmps55
 go_wp2_with (first | (refine wpList_alloc_Z HZ.out rfl rfl ?_; (try simp only [heap_one])) | (refine wpList_load_mid rfl 37 _ rfl w.heap.size 0 rfl E _ HX.out.1.range Tryz.underlying37 rfl HL2.out ?_) | fail)
 refine (HCK.out _ HX.out.2.2).mono ?_
 rintro e w1 ⟨rfl, b1⟩
 have H1 : Hid (LB w1 w.heap.size 37 E ∧ LB w1 (w.heap.size + 1) 25 Z ∧ Below w.heap.size w w1) := ⟨HX.out.1.kept b1, HX.out.2.1.kept b1, andThen HX.out.2.2 b1⟩
 clear b1 HX HCK
 have r1 := H1.out.1.cell 1 (.int .i64 1) (by rw [HE2.out, ← hk]; rfl)
 go_wp2_with (first | (refine wpList_load_mid rfl 37 _ rfl w.heap.size 0 rfl E _ H1.out.1.range Tryz.underlying37 rfl HL2.out ?_) | fail)
 refine (HTH.out _ H1.out.2.2).mono ?_
 rintro e w2 ⟨a3, c3, rfl, bs2, b2⟩
 have H2 : Hid (LB w2 (w.heap.size + 1) 25 Z ∧ Bs w2 (.slice a3 r.l.length c3) r.l ∧ Below w.heap.size w w2) := ⟨H1.out.2.1.kept b2, bs2, andThen H1.out.2.2 b2⟩
 clear b2 bs2 H1 HTH r1 HL2 HE2
 obtain ⟨G, hG, hGL, hGE⟩ := rv_letter r.x r.nm (.slice a3 r.l.length c3)
 rw [hG]
 have HGL : Hid _ := hGL
 have HGE : Hid (G = rcE r.x r.nm (.slice a3 r.l.length c3)) := hGE
 have HG1 : Hid (∀ v ∈ G, v.oneCell' = true) := by show ∀ v ∈ G, _; rw [hGE]; exact rcE_one _ _ _ rfl
 have HGZ : Hid (G.length = ZR.length) := by show _ = _; rw [hGE, HZRL.out]; rfl
 have HTZ : Hid ((w2.alloc (.cells ZR.toArray 37)).there w2.heap.size 0 G.toArray.size) := there_of (lb_new w2 ZR _) (by simpa using HGZ.out)
 have H3 : Hid (∃ W3, W3 = (w2.alloc (.cells ZR.toArray 37)).setCells w2.heap.size 0 G ∧ LB W3 (w.heap.size + 1) 25 Z ∧ Bs W3 (.slice a3 r.l.length c3) r.l ∧ LB W3 w2.heap.size 37 G ∧ Below w.heap.size w W3) := by
  obtain ⟨q1, q2⟩ := one_boxR w2 37 ZR G HGZ.out
  exact ⟨_, rfl, H2.out.1.kept q2, H2.out.2.1.kept q2, q1, andThen H2.out.2.2 q2⟩
 have HGT : Hid (w.heap.size + 1 < w2.heap.size) := H2.out.1.lt
 clear hG hGL hGE H2
 go_wp2_with (first | (refine wpList_alloc_R HZR.out rfl rfl ?_) | (refine wpList_store_mid rfl 37 (.tmp 5) (.tmp 17) rfl w2.heap.size 0 G.toArray rfl rfl HTZ.out (by simpa using HGL.out) (all_oneCell_toArray HG1.out) ?_; (obtain ⟨W3, hW3, hq⟩ := H3.out); (have H4 : Hid _ := hq); (rw [List.toList_toArray, ← hW3]); (clear hW3 hq H3 HTZ)) | fail)
 generalize w2.heap.size = g at *
 have HCF : Hid (∀ w' : World, LB w' g 37 G → w'.cell? ⟨g, 2, none⟩ = some (.int .i64 r.x.s) ∧ w'.cell? ⟨g, 10, none⟩ = some (.string r.nm) ∧ w'.cell? ⟨g, 8, none⟩ = some (.int .i64 r.x.n) ∧ w'.cell? ⟨g, 9, none⟩ = some (.int .i64 r.x.i) ∧ w'.cell? ⟨g, 5, none⟩ = some (.int .i64 r.x.a) ∧ w'.cell? ⟨g, 11, none⟩ = some (.slice a3 r.l.length c3)) := fun w' L => ⟨L.cell 2 _ (by rw [HGE.out]; rfl), L.cell 10 _ (by rw [HGE.out]; rfl), L.cell 8 _ (by rw [HGE.out]; rfl), L.cell 9 _ (by rw [HGE.out]; rfl), L.cell 5 _ (by rw [HGE.out]; rfl), L.cell 11 _ (by rw [HGE.out]; rfl)⟩
 have H5 : Hid (LB W3.drew (w.heap.size + 1) 25 Z ∧ Bs W3.drew (.slice a3 r.l.length c3) r.l ∧ LB W3.drew g 37 G ∧ Below w.heap.size w W3.drew) := ⟨H4.out.1.kept (Below.drew (Below.refl _ _)), H4.out.2.1.kept (Below.drew (Below.refl _ _)), H4.out.2.2.1.kept (Below.drew (Below.refl _ _)), Below.drew H4.out.2.2.2⟩
 clear H4
 refine wp_region_held_drew (S := fun w' : World => w'.cell? ⟨g, 2, none⟩ = some (.int .i64 r.x.s) ∧ w'.cell? ⟨g, 10, none⟩ = some (.string r.nm) ∧ w'.cell? ⟨g, 8, none⟩ = some (.int .i64 r.x.n) ∧ w'.cell? ⟨g, 9, none⟩ = some (.int .i64 r.x.i) ∧ w'.cell? ⟨g, 5, none⟩ = some (.int .i64 r.x.a) ∧ w'.cell? ⟨g, 11, none⟩ = some (.slice a3 r.l.length c3)) (by kernel_rfl) (HCF.out _ H5.out.2.2.1) (fun hH => ?_)
 generalize W3.drew = V1 at *
 refine zqk 0 rfl hH ?_
 simp only [zq]
 refine zqk 1 rfl hH ?_
 simp only [zq]
 refine zqk 2 rfl hH ?_
 simp only [zq]
 refine zqk 3 rfl hH ?_
 simp only [zq]
 refine zqk 4 rfl hH ?_
 simp only [zq]
 refine zqk 5 rfl hH ?_
 simp only [zq]
 refine zqk 6 rfl hH ?_
 simp only [zq]
 refine zqk 7 rfl hH ?_
 simp only [zq]
 refine zqk 8 rfl hH ?_
 simp only [zq]
 refine zqk 9 rfl hH ?_
 simp only [zq]
 refine zqk 10 rfl hH ?_
 simp only [zq]
 refine zqk 11 rfl hH ?_
 simp only [zq]
 refine zqk 12 rfl hH ?_
 simp only [zq]
 refine zqk 13 rfl hH ?_
 simp only [zq]
 refine zqr 14 rfl (fun K hK => ?_)
 go_simp
 refine (HBY.out _ _ H5.out.2.1).mono ?_
 rintro e w4 ⟨a4, c4, rfl, o4, b4⟩
 have H6 : Hid (LB w4 (w.heap.size + 1) 25 Z ∧ LB w4 g 37 G ∧ Own (w.heap.size + 2) w4 (.slice a4 r.l.length c4) r.l ∧ Below w.heap.size w w4) := ⟨H5.out.1.kept b4, H5.out.2.2.1.kept b4, own_weak o4 (by have := H5.out.1.lt; omega), andThen H5.out.2.2.2 b4⟩
 refine hK.out _ _ (HCF.out _ H6.out.2.1) (fun hH2 => ?_)
 clear hK K hH
 have hH := hH2
 clear hH2
 clear b4 o4 H5
 obtain ⟨M, hM⟩ : ∃ M : List Value, [.int .i64 r.x.s, .string r.nm, .int .i64 r.x.n, .int .i64 r.x.i, .int .i64 r.x.a, .int .i64 r.x.a, .slice a4 r.l.length c4, .int .i64 1, .int .i64 0, .bool false, .int .i64 0, .slice none 0 0, .slice none 0 0, .int .i64 0, .int .i64 0, .slice none 0 0] = M := ⟨_, rfl⟩
 have HM : Hid (M = scl ⟨⟨r.x.s, r.x.n, r.x.i, r.x.a, r.x.a, 1, 0, false, 0, 0, 0⟩, r.nm, r.l, [], [], []⟩ ⟨a4, c4, none, 0, none, 0, none, 0⟩) := hM.symm
 have HMI : Hid ((Tryz.prog.info? 25).map (·.size) = some M.length) := by show _ = _; rw [HM.out]; exact infoSaga
 have HM1 : Hid (∀ v ∈ M, v.oneCell' = true) := by show ∀ v ∈ M, _; rw [HM.out]; exact scl_one _ _
 have HMZ : Hid (M.length = Z.length) := by show _ = _; rw [HM.out, HZL.out]; rfl
 refine zqk 15 rfl hH ?_
 simp only [zq]
 refine zqr 16 rfl (fun K hK => ?_)
 refine step_storeX rfl 25 (.tmp 2) (.tmp 33) rfl (w.heap.size + 1) 0 M.toArray rfl rfl (there_of H6.out.1 (by simpa using HMZ.out)) (by simpa using HMI.out) (all_oneCell_toArray HM1.out) ?_
 rw [List.toList_toArray]
 have HLG : Hid (LB (w4.setCells (w.heap.size + 1) 0 M) g 37 G) := H6.out.2.1.others _ _ _ (by have := HGT.out; omega)
 refine hK.out _ _ (HCF.out _ HLG.out) (fun hH2 => ?_)
 clear hK K hH
 have hH := hH2
 clear hH2
 refine zqk 17 rfl hH ?_
 simp only [zq]
 refine wpAnyH_done (by kernel_rfl) ?_ _
 clear hH hM
 go_wp2
 have HR9 : Hid ((w4.setCells (w.heap.size + 1) 0 M).rangeAt (w.heap.size + 1) 0 M) := (H6.out.1.sets M HMZ.out).range
 refine bodyPost_ret (results_cell_slot (p := 2) (s := 3) (ty := 25) rfl _ (w4.setCells (w.heap.size + 1) 0 M) (w.heap.size + 1) M _ rfl HR9.out Tryz.underlying25 rfl HMI.out) rfl ?_
 exact ⟨⟨a4, c4, none, 0, none, 0, none, 0⟩, by rw [HM.out]; rfl, ⟨own_weak (own_at H6.out.2.2.1 (w.heap.size + 1) 0 M (by omega)) (by omega), ownP_nil _ _, ownP_nil _ _, Own.nil _ _, fun g e => by simp [Value.ownBlock] at e⟩, below_cells (by omega) _ 0 _ H6.out.2.2.2⟩
theorem rxlight_2 (S : Sg) (h : SH) (x : Nums) (nm : ByteArray) (d : Value) (w : World) (hk : x.k = 2) : Calls Tryz.prog 96 #[sv S h, rv x nm d] w fun e w' => e = .returned (sv { S with x := { S.x with la := x.a, fl := true, tr := x.t } } h) ∧ Below w.heap.size w w' := by
 obtain ⟨Z, hZ⟩ : ∃ Z, Z = zcl := ⟨_, rfl⟩
 have HZ : Hid (Z = zcl) := hZ
 obtain ⟨D, hD, hL, hE⟩ := sv_letter S h
 obtain ⟨E, hD2, hL2, hE2⟩ := rv_letter x nm d
 obtain ⟨M, hM, hML, hME⟩ := sv_letter { S with x := { S.x with la := x.a, fl := true, tr := x.t } } h
 rw [hD, hD2, hM]
 have HML : Hid _ := hML
 have HE : Hid (D = scl S h) := hE
 have HE2 : Hid (E = rcE x nm d) := hE2
 have HME : Hid (((D.set 5 (.int .i64 x.a)).set 9 (.bool true)).set 10 (.int .i64 x.t) = M) := by show _ = _; rw [hE, hME]; rfl
 have HM1 : Hid (∀ v ∈ M, v.oneCell' = true) := by show ∀ v ∈ M, _; rw [hME]; exact scl_one _ _
 have HMZ : Hid (M.length = Z.length) := by show _ = _; rw [hME, hZ]; rfl
 have HX : Hid (LB (((w.alloc (.cells D.toArray 25)).alloc (.cells E.toArray 37)).alloc (.cells Z.toArray 25)) w.heap.size 25 D ∧ LB (((w.alloc (.cells D.toArray 25)).alloc (.cells E.toArray 37)).alloc (.cells Z.toArray 25)) (w.heap.size + 1) 37 E ∧ LB (((w.alloc (.cells D.toArray 25)).alloc (.cells E.toArray 37)).alloc (.cells Z.toArray 25)) (w.heap.size + 2) 25 Z ∧ Below w.heap.size w (((w.alloc (.cells D.toArray 25)).alloc (.cells E.toArray 37)).alloc (.cells Z.toArray 25))) := lb_new3 w D E Z _ _ _
 clear hD hL hE hD2 hL2 hE2 hM hML hME hZ
 go_enter Tryz.func96, Tryz.ntmps96
 go_wp2_with (first | (refine wpList_alloc_Z HZ.out rfl rfl ?_; (try simp only [heap_one]); (obtain ⟨W1, hW1⟩ : ∃ W1, ((w.alloc (.cells D.toArray 25)).alloc (.cells E.toArray 37)).alloc (.cells Z.toArray 25) = W1 := ⟨_, rfl⟩); (rw [hW1] at HX ⊢); (clear hW1); (have r5 := HX.out.2.1.cell 5 (.int .i64 x.a) (by rw [HE2.out]; rfl)); (have r1 := HX.out.2.1.cell 1 (.int .i64 2) (by rw [HE2.out, ← hk]; rfl)); (have r4 := HX.out.2.1.cell 4 (.int .i64 x.t) (by rw [HE2.out]; rfl)); (have c5 := HX.out.1.cell 5 (.int .i64 S.x.la) (by rw [HE.out]; rfl)); (have f5 := HX.out.1.free 5); (have c9 := HX.out.1.cell 9 (.bool S.x.fl) (by rw [HE.out]; rfl)); (have f9 := HX.out.1.free 9); (have c10 := HX.out.1.cell 10 (.int .i64 S.x.tr) (by rw [HE.out]; rfl)); (have f10 := HX.out.1.free 10)) | (obtain ⟨W2, hW2⟩ : ∃ W2, ((W1.setCell ⟨w.heap.size, 5, none⟩ (.int .i64 x.a)).setCell ⟨w.heap.size, 9, none⟩ (.bool true)).setCell ⟨w.heap.size, 10, none⟩ (.int .i64 x.t) = W2 := ⟨_, rfl⟩; (have H2 : Hid (LB W2 w.heap.size 25 M ∧ LB W2 (w.heap.size + 2) 25 Z ∧ Below w.heap.size w W2) := by rw [← hW2, ← HME.out]; exact ⟨((HX.out.1.set _ _).set _ _).set _ _, ((HX.out.2.2.1.other _ _ (show w.heap.size + 2 ≠ w.heap.size by omega)).other _ _ (show w.heap.size + 2 ≠ w.heap.size by omega)).other _ _ (show w.heap.size + 2 ≠ w.heap.size by omega), Below.setCell (Below.setCell (Below.setCell HX.out.2.2.2 (Nat.le_refl _) _) (Nat.le_refl _) _) (Nat.le_refl _) _⟩); (rw [hW2]); (clear hW2); (refine wpList_load_mid rfl 25 _ rfl w.heap.size 0 rfl M _ H2.out.1.range Tryz.underlying25 rfl HML.out ?_)) | (refine wpList_store_mid rfl 25 (.tmp 4) (.tmp 78) rfl (w.heap.size + 2) 0 M.toArray rfl rfl (there_of H2.out.2.1 (by simpa using HMZ.out)) (by simpa using HML.out) (all_oneCell_toArray HM1.out) ?_; (rw [List.toList_toArray])) | fail)
 have HR9 : Hid ((W2.setCells (w.heap.size + 2) 0 M).rangeAt (w.heap.size + 2) 0 M) := (H2.out.2.1.sets M HMZ.out).range
 refine bodyPost_ret (results_cell_mid rfl _ (W2.setCells (w.heap.size + 2) 0 M) (w.heap.size + 2) M _ rfl HR9.out Tryz.underlying25 rfl HML.out) rfl ?_
 exact ⟨rfl, below_cells (by omega) _ 0 _ H2.out.2.2⟩
theorem rxlight_5 (S : Sg) (h : SH) (x : Nums) (nm : ByteArray) (d : Value) (w : World) (hk : x.k = 5) : Calls Tryz.prog 96 #[sv S h, rv x nm d] w fun e w' => e = .returned (sv { S with x := { S.x with la := x.a, fl := true, tr := x.t } } h) ∧ Below w.heap.size w w' := by
 obtain ⟨Z, hZ⟩ : ∃ Z, Z = zcl := ⟨_, rfl⟩
 have HZ : Hid (Z = zcl) := hZ
 obtain ⟨D, hD, hL, hE⟩ := sv_letter S h
 obtain ⟨E, hD2, hL2, hE2⟩ := rv_letter x nm d
 obtain ⟨M, hM, hML, hME⟩ := sv_letter { S with x := { S.x with la := x.a, fl := true, tr := x.t } } h
 rw [hD, hD2, hM]
 have HML : Hid _ := hML
 have HE : Hid (D = scl S h) := hE
 have HE2 : Hid (E = rcE x nm d) := hE2
 have HME : Hid (((D.set 5 (.int .i64 x.a)).set 9 (.bool true)).set 10 (.int .i64 x.t) = M) := by show _ = _; rw [hE, hME]; rfl
 have HM1 : Hid (∀ v ∈ M, v.oneCell' = true) := by show ∀ v ∈ M, _; rw [hME]; exact scl_one _ _
 have HMZ : Hid (M.length = Z.length) := by show _ = _; rw [hME, hZ]; rfl
 have HX : Hid (LB (((w.alloc (.cells D.toArray 25)).alloc (.cells E.toArray 37)).alloc (.cells Z.toArray 25)) w.heap.size 25 D ∧ LB (((w.alloc (.cells D.toArray 25)).alloc (.cells E.toArray 37)).alloc (.cells Z.toArray 25)) (w.heap.size + 1) 37 E ∧ LB (((w.alloc (.cells D.toArray 25)).alloc (.cells E.toArray 37)).alloc (.cells Z.toArray 25)) (w.heap.size + 2) 25 Z ∧ Below w.heap.size w (((w.alloc (.cells D.toArray 25)).alloc (.cells E.toArray 37)).alloc (.cells Z.toArray 25))) := lb_new3 w D E Z _ _ _
 clear hD hL hE hD2 hL2 hE2 hM hML hME hZ
 go_enter Tryz.func96, Tryz.ntmps96
 go_wp2_with (first | (refine wpList_alloc_Z HZ.out rfl rfl ?_; (try simp only [heap_one]); (obtain ⟨W1, hW1⟩ : ∃ W1, ((w.alloc (.cells D.toArray 25)).alloc (.cells E.toArray 37)).alloc (.cells Z.toArray 25) = W1 := ⟨_, rfl⟩); (rw [hW1] at HX ⊢); (clear hW1); (have r5 := HX.out.2.1.cell 5 (.int .i64 x.a) (by rw [HE2.out]; rfl)); (have r1 := HX.out.2.1.cell 1 (.int .i64 5) (by rw [HE2.out, ← hk]; rfl)); (have r4 := HX.out.2.1.cell 4 (.int .i64 x.t) (by rw [HE2.out]; rfl)); (have c5 := HX.out.1.cell 5 (.int .i64 S.x.la) (by rw [HE.out]; rfl)); (have f5 := HX.out.1.free 5); (have c9 := HX.out.1.cell 9 (.bool S.x.fl) (by rw [HE.out]; rfl)); (have f9 := HX.out.1.free 9); (have c10 := HX.out.1.cell 10 (.int .i64 S.x.tr) (by rw [HE.out]; rfl)); (have f10 := HX.out.1.free 10)) | (obtain ⟨W2, hW2⟩ : ∃ W2, ((W1.setCell ⟨w.heap.size, 5, none⟩ (.int .i64 x.a)).setCell ⟨w.heap.size, 9, none⟩ (.bool true)).setCell ⟨w.heap.size, 10, none⟩ (.int .i64 x.t) = W2 := ⟨_, rfl⟩; (have H2 : Hid (LB W2 w.heap.size 25 M ∧ LB W2 (w.heap.size + 2) 25 Z ∧ Below w.heap.size w W2) := by rw [← hW2, ← HME.out]; exact ⟨((HX.out.1.set _ _).set _ _).set _ _, ((HX.out.2.2.1.other _ _ (show w.heap.size + 2 ≠ w.heap.size by omega)).other _ _ (show w.heap.size + 2 ≠ w.heap.size by omega)).other _ _ (show w.heap.size + 2 ≠ w.heap.size by omega), Below.setCell (Below.setCell (Below.setCell HX.out.2.2.2 (Nat.le_refl _) _) (Nat.le_refl _) _) (Nat.le_refl _) _⟩); (rw [hW2]); (clear hW2); (refine wpList_load_mid rfl 25 _ rfl w.heap.size 0 rfl M _ H2.out.1.range Tryz.underlying25 rfl HML.out ?_)) | (refine wpList_store_mid rfl 25 (.tmp 4) (.tmp 78) rfl (w.heap.size + 2) 0 M.toArray rfl rfl (there_of H2.out.2.1 (by simpa using HMZ.out)) (by simpa using HML.out) (all_oneCell_toArray HM1.out) ?_; (rw [List.toList_toArray])) | fail)
 have HR9 : Hid ((W2.setCells (w.heap.size + 2) 0 M).rangeAt (w.heap.size + 2) 0 M) := (H2.out.2.1.sets M HMZ.out).range
 refine bodyPost_ret (results_cell_mid rfl _ (W2.setCells (w.heap.size + 2) 0 M) (w.heap.size + 2) M _ rfl HR9.out Tryz.underlying25 rfl HML.out) rfl ?_
 exact ⟨rfl, below_cells (by omega) _ 0 _ H2.out.2.2⟩
theorem rxsized_y (S : Sg) (h : SH) (w : World) (hT : Text.TabP 5 .i64 Text.Tx.lets w) (hnm : S.nm.size ≤ 2000000) (hc : chkS S = true) (q : decide (0 < S.x.tr) = true) : Calls Tryz.prog 94 #[sv S h] w fun e w' => e = .returned (.bool true) ∧ Below w.heap.size w w' := by
 obtain ⟨g1, g2, g3, g4, g5, g6, g7, g8, _⟩ := good_nums S hc
 have HNA : Hid (∀ w', Below w.heap.size w w' → Calls Tryz.prog 112 #[.string S.nm] w' fun e w'' => ∃ z, e = .returned (.tuple #[.int .i64 0, .int .i64 z]) ∧ Below w'.heap.size w' w'') := fun w' hb => by
  have e := Text.rname_any S.nm w' hnm (hT.kept hb)
  rw [g1] at e
  exact e.mono fun e w'' ⟨h1, h2⟩ => ⟨_, h1, h2⟩
 have d1 : decide (S.x.id < 1) = false := by simp; omega
 have d2 : decide (S.x.cnt < 1) = false := by simp; omega
 have d3 : decide (32 < S.x.cnt) = false := by simp; omega
 have d4 : decide (S.x.tr < 0) = false := by simp; omega
 have d5 : decide (1000 < S.x.tr) = false := by simp; omega
 have d6 : decide (1 ≤ S.x.ph) = true := by simp; omega
 have d7 : decide (S.x.ph ≤ 4) = true := by simp; omega
 have d8 : decide ((S.outs.length : Int) ≤ 32) = true := by simp; omega
 have d9 : decide ((S.und.length : Int) ≤ 32) = true := by simp; omega
 obtain ⟨D, hD, hL, hE⟩ := sv_letter S h
 rw [hD]
 have HL : Hid _ := hL
 have HE : Hid (D = scl S h) := hE
 have HX : Hid (∀ t, (w.alloc (.cells D.toArray t)).rangeAt w.heap.size 0 D ∧ Below w.heap.size w (w.alloc (.cells D.toArray t))) := fun t => boxed w D t
 clear hD hL hE 
 have HX1 : Hid _ := HX.out 25
 clear HX hT hnm hc g1 g2 g3 g4 g5 g6 g7
 have c1 := range_cell HX1.out.1 1 (.string S.nm) (by rw [HE.out]; rfl)
 go_enter Tryz.func94, Tryz.ntmps94
 go_wp2_with fail
 refine (HNA.out _ HX1.out.2).mono ?_
 rintro e w1 ⟨z, rfl, b1⟩
 have H1 : Hid (w1.rangeAt w.heap.size 0 D ∧ Below w.heap.size w w1) := ⟨range_kept HX1.out.1 b1, andThen HX1.out.2 b1⟩
 clear b1 HX1 c1
 have c0 := range_cell H1.out.1 0 (.int .i64 S.x.id) (by rw [HE.out]; rfl)
 have c2 := range_cell H1.out.1 2 (.int .i64 S.x.cnt) (by rw [HE.out]; rfl)
 have c7 := range_cell H1.out.1 7 (.int .i64 S.x.ph) (by rw [HE.out]; rfl)
 have c10 := range_cell H1.out.1 10 (.int .i64 S.x.tr) (by rw [HE.out]; rfl)
 have c11 := range_cell H1.out.1 11 (.slice h.ao S.outs.length h.co) (by rw [HE.out]; rfl)
 have c12 := range_cell H1.out.1 12 (.slice h.au S.und.length h.cu) (by rw [HE.out]; rfl)
 go_wp2
 go_ret
 exact ⟨rfl, H1.out.2⟩
theorem rxsized_n (S : Sg) (h : SH) (w : World) (hT : Text.TabP 5 .i64 Text.Tx.lets w) (hnm : S.nm.size ≤ 2000000) (hc : chkS S = true) (q : decide (0 < S.x.tr) = false) : Calls Tryz.prog 94 #[sv S h] w fun e w' => e = .returned (.bool true) ∧ Below w.heap.size w w' := by
 obtain ⟨g1, g2, g3, g4, g5, g6, g7, g8, _⟩ := good_nums S hc
 have HNA : Hid (∀ w', Below w.heap.size w w' → Calls Tryz.prog 112 #[.string S.nm] w' fun e w'' => ∃ z, e = .returned (.tuple #[.int .i64 0, .int .i64 z]) ∧ Below w'.heap.size w' w'') := fun w' hb => by
  have e := Text.rname_any S.nm w' hnm (hT.kept hb)
  rw [g1] at e
  exact e.mono fun e w'' ⟨h1, h2⟩ => ⟨_, h1, h2⟩
 have d1 : decide (S.x.id < 1) = false := by simp; omega
 have d2 : decide (S.x.cnt < 1) = false := by simp; omega
 have d3 : decide (32 < S.x.cnt) = false := by simp; omega
 have d4 : decide (S.x.tr < 0) = false := by simp; omega
 have d5 : decide (1000 < S.x.tr) = false := by simp; omega
 have d6 : decide (1 ≤ S.x.ph) = true := by simp; omega
 have d7 : decide (S.x.ph ≤ 4) = true := by simp; omega
 have d8 : decide ((S.outs.length : Int) ≤ 32) = true := by simp; omega
 have d9 : decide ((S.und.length : Int) ≤ 32) = true := by simp; omega
 obtain ⟨D, hD, hL, hE⟩ := sv_letter S h
 rw [hD]
 have HL : Hid _ := hL
 have HE : Hid (D = scl S h) := hE
 have HX : Hid (∀ t, (w.alloc (.cells D.toArray t)).rangeAt w.heap.size 0 D ∧ Below w.heap.size w (w.alloc (.cells D.toArray t))) := fun t => boxed w D t
 clear hD hL hE 
 have HX1 : Hid _ := HX.out 25
 clear HX hT hnm hc g1 g2 g3 g4 g5 g6 g7
 have c1 := range_cell HX1.out.1 1 (.string S.nm) (by rw [HE.out]; rfl)
 go_enter Tryz.func94, Tryz.ntmps94
 go_wp2_with fail
 refine (HNA.out _ HX1.out.2).mono ?_
 rintro e w1 ⟨z, rfl, b1⟩
 have H1 : Hid (w1.rangeAt w.heap.size 0 D ∧ Below w.heap.size w w1) := ⟨range_kept HX1.out.1 b1, andThen HX1.out.2 b1⟩
 clear b1 HX1 c1
 have c0 := range_cell H1.out.1 0 (.int .i64 S.x.id) (by rw [HE.out]; rfl)
 have c2 := range_cell H1.out.1 2 (.int .i64 S.x.cnt) (by rw [HE.out]; rfl)
 have c7 := range_cell H1.out.1 7 (.int .i64 S.x.ph) (by rw [HE.out]; rfl)
 have c10 := range_cell H1.out.1 10 (.int .i64 S.x.tr) (by rw [HE.out]; rfl)
 have c11 := range_cell H1.out.1 11 (.slice h.ao S.outs.length h.co) (by rw [HE.out]; rfl)
 have c12 := range_cell H1.out.1 12 (.slice h.au S.und.length h.cu) (by rw [HE.out]; rfl)
 have c9 := range_cell H1.out.1 9 (.bool false) (by rw [HE.out, ← g8 (by simp at q; simp at d4; omega)]; rfl)
 go_wp2
 go_ret
 exact ⟨rfl, H1.out.2⟩
theorem rxsized_ok (S : Sg) (h : SH) (w : World) (hT : Text.TabP 5 .i64 Text.Tx.lets w) (hnm : S.nm.size ≤ 2000000) (hc : chkS S = true) : Calls Tryz.prog 94 #[sv S h] w fun e w' => e = .returned (.bool true) ∧ Below w.heap.size w w' := by
 cases q : decide (0 < S.x.tr) with
 | true => exact rxsized_y S h w hT hnm hc q
 | false => exact rxsized_n S h w hT hnm hc q
theorem noT (x : Nums) (h : x.t = 0) : { x with t := 0 } = x := by
 cases x
 simp only at h
 rw [h]
theorem rref_any (S : Sg) (h : SH) (r : Rec) (d : Value) (w : World) (hc : chkS S = true) (hv : V3 r) : Calls Tryz.prog 95 #[sv S h, rv r.x r.nm d] w fun e w' => e = .returned (.int .i64 (refP S.x r.x)) ∧ Below w.heap.size w w' := by
 obtain ⟨_, _, _, g4, g5, _, _, _, g9, g10, g11⟩ := good_nums S hc
 obtain ⟨_, _, _, h1 | h1 | h1 | h1 | h1⟩ := hv
 ·exact rref_1 S h r.x r.nm d w g5 g9 g10 g4 g11 h1.1
 ·rcases h1.1 with hk | hk
  ·exact rref_2 S h r.x r.nm d w g5 g9 g10 g4 g11 hk h1.2.2.2.2.2.1 (by omega)
  ·exact rref_5 S h r.x r.nm d w g5 g9 g10 g4 g11 hk h1.2.2.2.2.2.1 (by omega)
 ·rcases h1.1 with hk | hk
  ·have e := rref_3 S h r.x r.nm d w g5 g9 g10 g4 g11 hk h1.2.2.2.2.1
   rw [noT r.x h1.2.2.2.1] at e
   exact e
  ·have e := rref_6 S h r.x r.nm d w g5 g9 g10 g4 g11 hk h1.2.2.2.2.1
   rw [noT r.x h1.2.2.2.1] at e
   exact e
 ·have hl : r.x.l = 0 ∨ r.x.l = 1 := by omega
  rcases hl with hl | hl
  ·have e := rref_40 S h r.x r.nm d w g5 g9 g10 g4 g11 h1.1 hl
   rw [noT r.x h1.2.2.2.1] at e
   exact e
  ·have e := rref_41 S h r.x r.nm d w g5 g9 g10 g4 g11 h1.1 hl
   rw [noT r.x h1.2.2.2.1] at e
   exact e
 ·have e := rref_7 S h r.x r.nm d w g5 g9 g10 g4 g11 h1.1 h1.2.2.2.1
  rw [noT r.x h1.2.2.1] at e
  exact e
theorem rref_try (S : Sg) (h : SH) (x : Nums) (nm : ByteArray) (d : Value) (w : World) (hc : chkS S = true) (hk : 2 ≤ x.k ∧ x.k ≤ 7) (hl : x.l = 0) (ht : x.t ≠ 0) : Calls Tryz.prog 95 #[sv S h, rv x nm d] w fun e w' => e = .returned (.int .i64 (refP S.x (if x.k = 2 ∨ x.k = 5 then x else { x with t := 0 }))) ∧ Below w.heap.size w w' := by
 obtain ⟨_, _, _, g4, g5, _, _, _, g9, g10, g11⟩ := good_nums S hc
 have h1 : x.k = 2 ∨ x.k = 3 ∨ x.k = 4 ∨ x.k = 5 ∨ x.k = 6 ∨ x.k = 7 := by omega
 rcases h1 with h1 | h1 | h1 | h1 | h1 | h1
 ·rw [if_pos (.inl h1)]; exact rref_2 S h x nm d w g5 g9 g10 g4 g11 h1 hl ht
 ·rw [if_neg (by omega)]; exact rref_3 S h x nm d w g5 g9 g10 g4 g11 h1 hl
 ·rw [if_neg (by omega)]; exact rref_40 S h x nm d w g5 g9 g10 g4 g11 h1 hl
 ·rw [if_pos (.inr h1)]; exact rref_5 S h x nm d w g5 g9 g10 g4 g11 h1 hl ht
 ·rw [if_neg (by omega)]; exact rref_6 S h x nm d w g5 g9 g10 g4 g11 h1 hl
 ·rw [if_neg (by omega)]; exact rref_7 S h x nm d w g5 g9 g10 g4 g11 h1 hl
end Go.Proofs.YtabdfafffjgfiaaGreatDoor
