import Derived.Test.YtodcakplmoajiaaDoorGP8
set_option maxRecDepth 100000
set_option maxHeartbeats 8000000
namespace Go.Proofs.YtodcakplmoajiaaDoor
open Go Go.RowKit
open Wb

def landK (x : SN) : Int := if x.ph = 2 then 6 else 3
def lastW (p : Pln) (x : SN) : Int := if x.ph = 2 then 0 else if p.behind x.nx then 0 else 1
theorem planding_any (S : Sg) (h : SH) (w : World) : Calls Tryd.prog 31 #[sv S h] w fun e w' => e = .returned (.int .i64 (landK S.x)) ∧ Below w.heap.size w w' := by
 obtain ⟨D, hD, -, hE⟩ := sv_letter S h
 rw [hD]
 have HXW : Hid (Below w.heap.size w (w.alloc (.cells D.toArray 28))) := up0 _ _
 have c7 := (lb_new w D 28).cell 7 (.int .i64 S.x.ph) (by rw [hE]; rfl)
 clear hD hE
 unfold landK
 generalize S.x.ph = ph at *
 by_cases h2 : ph = 2
 ·subst h2
  go_enter Tryd.func31, Tryd.ntmps31
  go_wp2_with fail
  go_ret
  exact ⟨rfl, HXW.out⟩
 ·have e2 : (ph == 2) = false := by rw [beq_eq_false_iff_ne]; exact h2
  rw [if_neg h2]
  clear h2
  go_enter Tryd.func31, Tryd.ntmps31
  go_wp2_with fail
  go_ret
  exact ⟨rfl, HXW.out⟩
def triesT (p : Pln) (S : Sg) : Int := ((p.ss[S.x.turn.toNat]?).map (·.t)).getD 0
def ansLast (p : Pln) (S : Sg) (o : Int) : Int := if o = 1 then 0 else if o = 2 then (if S.x.tr < triesT p S then 0 else lastW p S.x) else lastW p S.x
def ansX (p : Pln) (S : Sg) (o c : Int) : Nums := ⟨3, if o = 1 then landK S.x else 4, S.x.id, S.x.turn, 0, 0, ansLast p S o, if o = 1 then 0 else c, 0, 0⟩
theorem results_cell_slot2 {P : Program} {fn : Func} {p s s2 : Tmp} {ty : TypeId} (h : fn.results = #[.cell p ty, .tmp s, .tmp s2]) (tmps : Array Value) (w : World) (g : Nat) (cs : List Value) (d : TypeDesc)
  (hp : tmps.getD p undef = .pointer (some ⟨g, 0, none⟩)) (hc : w.rangeAt g 0 cs) (hu : P.underlying ty = some d) (hd : d.isRow = true) (hi : (P.info? ty).map (·.size) = some cs.length) :
  (results fn tmps).run P w = .ok (.tuple #[.agg cs.toArray, tmps.getD s undef, tmps.getD s2 undef]) w := by
 have hp' : tmps[p]?.getD undef = .pointer (some ⟨g, 0, none⟩) := by simpa using hp
 simp [results, h, hp', asAddr, run_loadVar_mid w g 0 ty cs d hc hu hd hi]
theorem lb_new4 (w : World) (D E Z Y : List Value) (t t2 t3 t4 : TypeId) : LB ((((w.alloc (.cells D.toArray t)).alloc (.cells E.toArray t2)).alloc (.cells Z.toArray t3)).alloc (.cells Y.toArray t4)) (w.heap.size + 1 + 1 + 1) t4 Y := by
 have e := lb_new (((w.alloc (.cells D.toArray t)).alloc (.cells E.toArray t2)).alloc (.cells Z.toArray t3)) Y t4
 rw [heap_one, heap_one, heap_one] at e
 exact e
def anl (o c : Int) (d : Value) : List Value := [.int .i64 o, .int .i64 c, d]
def AnPost (p : Pln) (S : Sg) (o c : Int) (l : List Nat) (w : World) (e : Ending) (w' : World) : Prop := ∃ d', e = .returned (.tuple #[rv (ansX p S o c) ⟨#[]⟩ d', .bool true, .int .i64 0]) ∧ Own w.heap.size w' d' l ∧ Below w.heap.size w w'
theorem panswer_1 (p : Pln) (v : Value) (S : Sg) (h : SH) (c : Int) (d : Value) (l : List Nat) (w : World) (a : PA w p v S h) (hb : Bs w d l) (hlen : l.length ≤ 16384) (hf : fitP p S = 0) (hl : S.x.fl = true) : Calls Tryd.prog 22 #[plv p v, sv S h, .agg (anl 1 c d).toArray] w fun e w' => AnPost p S 1 c l w e w' := by
 have hc := (pfits_iff hf).2.1
 have HFI0 : ∀ w', Below w.heap.size w w' → Calls Tryd.prog 28 #[plv p v, sv S h] w' fun e w'' => e = .returned (.int .i64 0) ∧ Below w'.heap.size w' w'' := fun w' hb => by have e := pflight_any p v S h w' (a.kept hb); rw [flightP_ok hf hl] at e; exact e
 have HOT0 : ∀ w', Below w.heap.size w w' → Calls Tryd.prog 18 #[plv p v, sv S h] w' fun e w'' => e = .returned (.tuple #[.int .i64 S.x.turn, .string (nameT p S)]) ∧ Below w'.heap.size w' w'' := fun w' hb => ponturn_any p v S h w' (a.s.kept hb) hf (by rcases flight_deed hc hl with ⟨e, _⟩ | ⟨e, _⟩ <;> rw [e] <;> decide)
 have HLA0 : ∀ w', Calls Tryd.prog 31 #[sv S h] w' fun e w'' => e = .returned (.int .i64 (landK S.x)) ∧ Below w'.heap.size w' w'' := fun w' => planding_any S h w'
 have HCL : Hid (∀ w', Below w.heap.size w w' → Calls Tryd.prog 29 #[d] w' fun e w'' => ∃ d', e = .returned d' ∧ Own w'.heap.size w'' d' l ∧ Below w'.heap.size w' w'') := fun w' hb' => bclone_any d _ w' (hb.kept hb') (by omega)
 have HAX : Hid (∀ d' w', Own w.heap.size w' d' l → Below w.heap.size w w' → AnPost p S 1 c l w (.returned (.tuple #[.agg #[.int .i64 3, .int .i64 (landK S.x), .int .i64 S.x.id, .int .i64 S.x.turn, .int .i64 0, .int .i64 0, .int .i64 0, .int .i64 0, .int .i64 0, .int .i64 0, .string ⟨#[]⟩, d'], .bool true, .int .i64 0])) w') := fun d' w' h2 h3 => ⟨d', rfl, h2, h3⟩
 obtain ⟨ad, cd, ed, -⟩ := hb.shape
 subst ed
 generalize nameT p S = N at *
 generalize S.x.turn = U at *
 generalize landK S.x = Q at *
 generalize AnPost p S 1 c l w = POST at *
 clear a hf hc hl
 obtain ⟨C, hC, hM, hG⟩ := plv_letter p v
 obtain ⟨D, hD, hL, hE⟩ := sv_letter S h
 rw [hC, hD]
 try rw [hC] at HFI0
 try rw [hD] at HFI0
 try rw [hC] at HOT0
 try rw [hD] at HOT0
 try rw [hC] at HLA0
 try rw [hD] at HLA0
 have HFI : Hid _ := HFI0
 have HOT : Hid _ := HOT0
 have HLA : Hid _ := HLA0
 have HM : Hid _ := hM
 have HG : Hid (C = plvl p v) := hG
 have HL : Hid _ := hL
 have HE : Hid (D = scl S h) := hE
 clear hC hM hG hD hL hE HFI0 HOT0 HLA0
 have hl1 : ((l.length : Int) > 16384) = False := by simp; omega
 have hl2 : ¬ (16384 : Int) < (l.length : Int) := by omega
 go_enter Tryd.func22, Tryd.ntmps22
 go_upto_region 1 with fail
 obtain ⟨W, eW⟩ : ∃ W, W = (((w.alloc (.cells C.toArray 24)).alloc (.cells D.toArray 28)).alloc (.cells (anl 1 c (.slice ad l.length cd)).toArray 39)).alloc (.cells #[.int .i64 0, .int .i64 0, .int .i64 0, .int .i64 0, .int .i64 0, .int .i64 0, .int .i64 0, .int .i64 0, .int .i64 0, .int .i64 0, .string ⟨#[]⟩, .slice none 0 0] 50) := ⟨_, rfl⟩
 rw [← eW]
 have H0 : Hid (LB W w.heap.size 24 C ∧ LB W (w.heap.size + 1) 28 D ∧ Below w.heap.size w W ∧ LB W (w.heap.size + 1 + 1) 39 (anl 1 c (.slice ad l.length cd)) ∧ LB W (w.heap.size + 1 + 1 + 1) 50 [.int .i64 0, .int .i64 0, .int .i64 0, .int .i64 0, .int .i64 0, .int .i64 0, .int .i64 0, .int .i64 0, .int .i64 0, .int .i64 0, .string ⟨#[]⟩, .slice none 0 0]) := by
  obtain ⟨q1, q2, q3, q4⟩ := lb_new3 w C D (anl 1 c (.slice ad l.length cd)) 24 28 39
  rw [eW]
  exact ⟨q1.kept (up0 _ _), q2.kept (up0 _ _), andThen q4 (up0 _ _), q3.kept (up0 _ _), lb_new4 w C D _ _ _ _ _ _⟩
 clear eW
 generalize hg4 : w.heap.size + 1 + 1 + 1 = g4 at *
 generalize hg3 : w.heap.size + 1 + 1 = g3 at *
 have HG : Hid (w.heap.size ≤ g3 ∧ w.heap.size ≤ g4) := by constructor <;> omega
 clear hg3 hg4
 have a2 := H0.out.2.2.2.1.cell 2 _ rfl
 go_wp2_with (first | (refine wpList_load_mid rfl 24 _ rfl w.heap.size 0 rfl C _ H0.out.1.range Tryd.underlying24 rfl HM.out ?_) | (refine wpList_load_mid rfl 28 _ rfl (w.heap.size + 1) 0 rfl D _ H0.out.2.1.range Tryd.underlying28 rfl HL.out ?_) | (refine wpList_load_midG rfl 24 _ rfl w.heap.size 0 rfl C _ H0.out.1.range Tryd.underlying24 rfl HM.out ?_) | (refine wpList_load_midG rfl 28 _ rfl (w.heap.size + 1) 0 rfl D _ H0.out.2.1.range Tryd.underlying28 rfl HL.out ?_) | fail)
 refine (HFI.out _ H0.out.2.2.1).mono ?_
 rintro e w1 ⟨rfl, b1⟩
 have H1 : Hid (LB w1 w.heap.size 24 C ∧ LB w1 (w.heap.size + 1) 28 D ∧ Below w.heap.size w w1 ∧ LB w1 g3 39 (anl 1 c (.slice ad l.length cd)) ∧ LB w1 g4 50 [.int .i64 0, .int .i64 0, .int .i64 0, .int .i64 0, .int .i64 0, .int .i64 0, .int .i64 0, .int .i64 0, .int .i64 0, .int .i64 0, .string ⟨#[]⟩, .slice none 0 0]) := ⟨H0.out.1.kept b1, H0.out.2.1.kept b1, andThen H0.out.2.2.1 b1, H0.out.2.2.2.1.kept b1, H0.out.2.2.2.2.kept b1⟩
 clear b1 H0 HFI a2
 go_wp2_with (first | (refine wpList_load_mid rfl 24 _ rfl w.heap.size 0 rfl C _ H1.out.1.range Tryd.underlying24 rfl HM.out ?_) | (refine wpList_load_mid rfl 28 _ rfl (w.heap.size + 1) 0 rfl D _ H1.out.2.1.range Tryd.underlying28 rfl HL.out ?_) | (refine wpList_load_midG rfl 24 _ rfl w.heap.size 0 rfl C _ H1.out.1.range Tryd.underlying24 rfl HM.out ?_) | (refine wpList_load_midG rfl 28 _ rfl (w.heap.size + 1) 0 rfl D _ H1.out.2.1.range Tryd.underlying28 rfl HL.out ?_) | fail)
 refine (HOT.out _ H1.out.2.2.1).mono ?_
 rintro e w2 ⟨rfl, b2⟩
 have H2 : Hid (LB w2 w.heap.size 24 C ∧ LB w2 (w.heap.size + 1) 28 D ∧ Below w.heap.size w w2 ∧ LB w2 g3 39 (anl 1 c (.slice ad l.length cd)) ∧ LB w2 g4 50 [.int .i64 0, .int .i64 0, .int .i64 0, .int .i64 0, .int .i64 0, .int .i64 0, .int .i64 0, .int .i64 0, .int .i64 0, .int .i64 0, .string ⟨#[]⟩, .slice none 0 0]) := ⟨H1.out.1.kept b2, H1.out.2.1.kept b2, andThen H1.out.2.2.1 b2, H1.out.2.2.2.1.kept b2, H1.out.2.2.2.2.kept b2⟩
 clear b2 H1 HOT
 have c0 := H2.out.2.1.cell 0 (.int .i64 S.x.id) (by rw [HE.out]; rfl)
 have a0 := H2.out.2.2.2.1.cell 0 _ rfl
 have a1 := H2.out.2.2.2.1.cell 1 _ rfl
 go_upto_region 8 with fail
 obtain ⟨X, eX⟩ : ∃ X, X = w2.alloc (.cells #[.int .i64 3, .int .i64 4, .int .i64 S.x.id, .int .i64 U, .int .i64 0, .int .i64 0, .int .i64 0, .int .i64 c, .int .i64 0, .int .i64 0, .string ⟨#[]⟩, .slice none 0 0] 50) := ⟨_, rfl⟩
 have H3 : Hid ((LB X w.heap.size 24 C ∧ LB X (w.heap.size + 1) 28 D ∧ Below w.heap.size w X ∧ LB X g3 39 (anl 1 c (.slice ad l.length cd)) ∧ LB X g4 50 [.int .i64 0, .int .i64 0, .int .i64 0, .int .i64 0, .int .i64 0, .int .i64 0, .int .i64 0, .int .i64 0, .int .i64 0, .int .i64 0, .string ⟨#[]⟩, .slice none 0 0]) ∧ LB X w2.heap.size 50 [.int .i64 3, .int .i64 4, .int .i64 S.x.id, .int .i64 U, .int .i64 0, .int .i64 0, .int .i64 0, .int .i64 c, .int .i64 0, .int .i64 0, .string ⟨#[]⟩, .slice none 0 0] ∧ w.heap.size ≤ w2.heap.size ∧ w2.heap.size ≠ g4) := by
  obtain ⟨z1, z2, z3, z4, z5⟩ := H2.out
  have u0 := up0 w2 (.cells #[.int .i64 3, .int .i64 4, .int .i64 S.x.id, .int .i64 U, .int .i64 0, .int .i64 0, .int .i64 0, .int .i64 c, .int .i64 0, .int .i64 0, .string ⟨#[]⟩, .slice none 0 0] 50)
  rw [eX]
  exact ⟨⟨z1.kept u0, z2.kept u0, andThen z3 u0, z4.kept u0, z5.kept u0⟩, lb_new w2 _ _, z3.size, by have := z5.lt; omega⟩
 rw [← eX]
 clear eX H2 c0 a0 a1
 generalize w2.heap.size = gr at *
 have a0 := H3.out.1.2.2.2.1.cell 0 _ rfl
 go_wp2_with (first | (refine wpList_load_mid rfl 24 _ rfl w.heap.size 0 rfl C _ H3.out.1.1.range Tryd.underlying24 rfl HM.out ?_) | (refine wpList_load_mid rfl 28 _ rfl (w.heap.size + 1) 0 rfl D _ H3.out.1.2.1.range Tryd.underlying28 rfl HL.out ?_) | (refine wpList_load_midG rfl 24 _ rfl w.heap.size 0 rfl C _ H3.out.1.1.range Tryd.underlying24 rfl HM.out ?_) | (refine wpList_load_midG rfl 28 _ rfl (w.heap.size + 1) 0 rfl D _ H3.out.1.2.1.range Tryd.underlying28 rfl HL.out ?_) | fail)
 refine (HLA.out _).mono ?_
 rintro e w4 ⟨rfl, b4⟩
 have H4 : Hid ((LB w4 w.heap.size 24 C ∧ LB w4 (w.heap.size + 1) 28 D ∧ Below w.heap.size w w4 ∧ LB w4 g3 39 (anl 1 c (.slice ad l.length cd)) ∧ LB w4 g4 50 [.int .i64 0, .int .i64 0, .int .i64 0, .int .i64 0, .int .i64 0, .int .i64 0, .int .i64 0, .int .i64 0, .int .i64 0, .int .i64 0, .string ⟨#[]⟩, .slice none 0 0]) ∧ LB w4 gr 50 [.int .i64 3, .int .i64 4, .int .i64 S.x.id, .int .i64 U, .int .i64 0, .int .i64 0, .int .i64 0, .int .i64 c, .int .i64 0, .int .i64 0, .string ⟨#[]⟩, .slice none 0 0] ∧ w.heap.size ≤ gr ∧ gr ≠ g4) := by
  obtain ⟨⟨z1, z2, z3, z4, z5⟩, z6, z7, z8⟩ := H3.out
  exact ⟨⟨z1.kept b4, z2.kept b4, andThen z3 b4, z4.kept b4, z5.kept b4⟩, z6.kept b4, z7, z8⟩
 clear b4 H3 HLA a0
 have y1 := H4.out.2.1.cell 1 _ rfl
 have y7 := H4.out.2.1.cell 7 _ rfl
 have yf : ∀ j : Nat, w4.frozen? ⟨gr, j, none⟩ = false := fun j => H4.out.2.1.free j
 have a2 := H4.out.1.2.2.2.1.cell 2 _ rfl
 have hn3 : gr ≠ g3 := lb_ne H4.out.2.1 H4.out.1.2.2.2.1 (by decide)
 have hn3' : g3 ≠ gr := Ne.symm hn3
 go_upto_region 18 with fail
 obtain ⟨X, eX⟩ : ∃ X, X = (w4.setCell ⟨gr, 1, none⟩ (.int .i64 Q)).setCell ⟨gr, 7, none⟩ (.int .i64 0) := ⟨_, rfl⟩
 have H5 : Hid ((LB X w.heap.size 24 C ∧ LB X (w.heap.size + 1) 28 D ∧ Below w.heap.size w X ∧ LB X g3 39 (anl 1 c (.slice ad l.length cd)) ∧ LB X g4 50 [.int .i64 0, .int .i64 0, .int .i64 0, .int .i64 0, .int .i64 0, .int .i64 0, .int .i64 0, .int .i64 0, .int .i64 0, .int .i64 0, .string ⟨#[]⟩, .slice none 0 0]) ∧ LB X gr 50 [.int .i64 3, .int .i64 Q, .int .i64 S.x.id, .int .i64 U, .int .i64 0, .int .i64 0, .int .i64 0, .int .i64 0, .int .i64 0, .int .i64 0, .string ⟨#[]⟩, .slice none 0 0] ∧ w.heap.size ≤ gr ∧ gr ≠ g4) := by
  obtain ⟨⟨z1, z2, z3, z4, z5⟩, z6, z7, z8⟩ := H4.out
  have n1 := lb_ne z1 z6 (by decide)
  have n2 := lb_ne z2 z6 (by decide)
  have n3 := lb_ne z4 z6 (by decide)
  rw [eX]
  exact ⟨⟨(z1.other _ _ n1).other _ _ n1, (z2.other _ _ n2).other _ _ n2, (z3.setCell z7 _).setCell z7 _, (z4.other _ _ n3).other _ _ n3, (z5.other _ _ (Ne.symm z8)).other _ _ (Ne.symm z8)⟩, (z6.set 1 _).set 7 _, z7, z8⟩
 rw [← eX]
 clear eX H4 y1 y7 yf a2
 have a2 := H5.out.1.2.2.2.1.cell 2 _ rfl
 go_wp2_with fail
 refine (HCL.out _ H5.out.1.2.2.1).mono ?_
 rintro e w6 ⟨d6, rfl, o6, b6⟩
 obtain ⟨a6, c6, e6, -⟩ := o6.bs.shape
 subst e6
 have H6 : Hid ((LB w6 w.heap.size 24 C ∧ LB w6 (w.heap.size + 1) 28 D ∧ Below w.heap.size w w6 ∧ LB w6 g3 39 (anl 1 c (.slice ad l.length cd)) ∧ LB w6 g4 50 [.int .i64 0, .int .i64 0, .int .i64 0, .int .i64 0, .int .i64 0, .int .i64 0, .int .i64 0, .int .i64 0, .int .i64 0, .int .i64 0, .string ⟨#[]⟩, .slice none 0 0]) ∧ LB w6 gr 50 [.int .i64 3, .int .i64 Q, .int .i64 S.x.id, .int .i64 U, .int .i64 0, .int .i64 0, .int .i64 0, .int .i64 0, .int .i64 0, .int .i64 0, .string ⟨#[]⟩, .slice none 0 0] ∧ w.heap.size ≤ gr ∧ gr ≠ g4 ∧ Own w.heap.size w6 (.slice a6 l.length c6) l) := by
  obtain ⟨⟨z1, z2, z3, z4, z5⟩, z6, z7, z8⟩ := H5.out
  exact ⟨⟨z1.kept b6, z2.kept b6, andThen z3 b6, z4.kept b6, z5.kept b6⟩, z6.kept b6, z7, z8, own_weak o6 z3.size⟩
 clear b6 o6 H5 HCL a2
 have y11 := H6.out.2.1.cell 11 _ rfl
 have yf : ∀ j : Nat, w6.frozen? ⟨gr, j, none⟩ = false := fun j => H6.out.2.1.free j
 go_upto_region 19 with fail
 obtain ⟨X, eX⟩ : ∃ X, X = w6.setCell ⟨gr, 11, none⟩ (.slice a6 l.length c6) := ⟨_, rfl⟩
 have H7 : Hid (Below w.heap.size w X ∧ LB X gr 50 [.int .i64 3, .int .i64 Q, .int .i64 S.x.id, .int .i64 U, .int .i64 0, .int .i64 0, .int .i64 0, .int .i64 0, .int .i64 0, .int .i64 0, .string ⟨#[]⟩, .slice a6 l.length c6] ∧ LB X g4 50 [.int .i64 0, .int .i64 0, .int .i64 0, .int .i64 0, .int .i64 0, .int .i64 0, .int .i64 0, .int .i64 0, .int .i64 0, .int .i64 0, .string ⟨#[]⟩, .slice none 0 0] ∧ Own w.heap.size X (.slice a6 l.length c6) l) := by
  obtain ⟨⟨z1, z2, z3, z4, z5⟩, z6, z7, z8, z9⟩ := H6.out
  rw [eX]
  exact ⟨z3.setCell z7 _, z6.set 11 _, z5.other _ _ (Ne.symm z8), own_oth z9 z6 (by decide) (fun b hb _ => set_other w6 _ _ b hb)⟩
 rw [← eX]
 clear eX H6 y11 yf
 obtain ⟨M, hM⟩ : ∃ M : List Value, M = [.int .i64 3, .int .i64 Q, .int .i64 S.x.id, .int .i64 U, .int .i64 0, .int .i64 0, .int .i64 0, .int .i64 0, .int .i64 0, .int .i64 0, .string ⟨#[]⟩, .slice a6 l.length c6] := ⟨_, rfl⟩
 have HM1 : Hid (LB X gr 50 M ∧ (Tryd.prog.info? 50).map (·.size) = some M.length ∧ (∀ v ∈ M, v.oneCell' = true) ∧ M.length = 12) := by
  rw [hM]
  refine ⟨H7.out.2.1, infoRec, ?_, rfl⟩
  intro v hv
  simp only [List.mem_cons, List.not_mem_nil, or_false] at hv
  rcases hv with rfl | rfl | rfl | rfl | rfl | rfl | rfl | rfl | rfl | rfl | rfl | rfl <;> rfl
 have HT7 : Hid (X.there g4 0 M.toArray.size) := there_of H7.out.2.2.1 (by simp [HM1.out.2.2.2])
 have H8 : Hid (∀ Y, Y = X.setCells g4 0 M → LB Y g4 50 M ∧ POST (.returned (.tuple #[.agg M.toArray, .bool true, .int .i64 0])) Y) := fun Y hY => by
  rw [hY]
  refine ⟨H7.out.2.2.1.sets M HM1.out.2.2.2, ?_⟩
  rw [hM]
  exact HAX.out _ _ (own_oth H7.out.2.2.2 H7.out.2.2.1 (by decide) (Oth.sets _ _ _ _)) (below_cells HG.out.2 _ 0 _ H7.out.1)
 clear hM
 go_wp2_with (first | (refine wpList_load_mid rfl 50 _ rfl gr 0 rfl M _ HM1.out.1.range Tryd.underlying50 rfl HM1.out.2.1 ?_) | (refine wpList_store_mid rfl 50 (.tmp 6) (.tmp 70) rfl g4 0 M.toArray rfl rfl HT7.out (by simpa using HM1.out.2.1) (all_oneCell_toArray HM1.out.2.2.1) ?_; (rw [List.toList_toArray])) | fail)
 refine bodyPost_ret (results_cell_slot2 (p := 6) (s := 7) (s2 := 8) (ty := 50) rfl _ _ g4 M _ rfl (H8.out _ rfl).1.range Tryd.underlying50 rfl HM1.out.2.1) rfl ?_
 exact (H8.out _ rfl).2
theorem pnum_any (n : Int) (w : World) (_h1 : -9223372036854775808 ≤ n) (_h2 : n ≤ 9223372036854775807) : Calls Tryd.prog 7 #[.int .i64 n] w fun e w' => e = .returned (.int .i64 n) ∧ w = w' := by
 go_enter Tryd.func7, Tryd.ntmps7
 go_wp2
 go_ret
 exact ⟨rfl, rfl⟩
def recQ (K id st tr : Int) : Nums := if K = 1 then ⟨3, 2, id, st, tr, 0, 0, 0, 0, 0⟩ else if K = 3 then ⟨3, 5, id, st, tr, 0, 0, 0, 0, 0⟩ else if K = 5 then ⟨3, 7, id, 0, 0, 0, 0, 1, 0, 0⟩ else ⟨3, 7, id, 0, 0, 0, 0, 2, 0, 0⟩
theorem precord_1 (K id st tr : Int) (nm : ByteArray) (w : World) (hk : K = 1) : Calls Tryd.prog 20 #[.agg (actl K id st tr nm).toArray] w fun e w' => e = .returned (rv (recQ K id st tr) ⟨#[]⟩ (.slice none 0 0)) ∧ Below w.heap.size w w' := by
 subst hk
 have HR : Hid (rv (recQ 1 id st tr) ⟨#[]⟩ (.slice none 0 0) = .agg #[.int .i64 3, .int .i64 2, .int .i64 id, .int .i64 st, .int .i64 tr, .int .i64 0, .int .i64 0, .int .i64 0, .int .i64 0, .int .i64 0, .string ⟨#[]⟩, .slice none 0 0]) := rfl
 rw [HR.out]
 unfold actl
 go_enter Tryd.func20, Tryd.ntmps20
 go_upto_region 2 with fail
 obtain ⟨X, eX⟩ : ∃ X, X = (((w.alloc (.cells #[.int .i64 1, .int .i64 id, .int .i64 st, .int .i64 tr, .string nm] 31)).alloc (.cells #[.int .i64 0, .int .i64 0, .int .i64 0, .int .i64 0, .int .i64 0, .int .i64 0, .int .i64 0, .int .i64 0, .int .i64 0, .int .i64 0, .string ⟨#[]⟩, .slice none 0 0] 50)).alloc (.cells #[.int .i64 3, .int .i64 0, .int .i64 id, .int .i64 0, .int .i64 0, .int .i64 0, .int .i64 0, .int .i64 0, .int .i64 0, .int .i64 0, .string ⟨#[]⟩, .slice none 0 0] 50)) := ⟨_, rfl⟩
 have H0 : Hid (LB X w.heap.size 31 [.int .i64 1, .int .i64 id, .int .i64 st, .int .i64 tr, .string nm] ∧ LB X (w.heap.size + 1) 50 [.int .i64 0, .int .i64 0, .int .i64 0, .int .i64 0, .int .i64 0, .int .i64 0, .int .i64 0, .int .i64 0, .int .i64 0, .int .i64 0, .string ⟨#[]⟩, .slice none 0 0] ∧ LB X (w.heap.size + 1 + 1) 50 [.int .i64 3, .int .i64 0, .int .i64 id, .int .i64 0, .int .i64 0, .int .i64 0, .int .i64 0, .int .i64 0, .int .i64 0, .int .i64 0, .string ⟨#[]⟩, .slice none 0 0] ∧ Below w.heap.size w X) := by
  rw [eX]
  exact lb_new3 w [.int .i64 1, .int .i64 id, .int .i64 st, .int .i64 tr, .string nm] [.int .i64 0, .int .i64 0, .int .i64 0, .int .i64 0, .int .i64 0, .int .i64 0, .int .i64 0, .int .i64 0, .int .i64 0, .int .i64 0, .string ⟨#[]⟩, .slice none 0 0] [.int .i64 3, .int .i64 0, .int .i64 id, .int .i64 0, .int .i64 0, .int .i64 0, .int .i64 0, .int .i64 0, .int .i64 0, .int .i64 0, .string ⟨#[]⟩, .slice none 0 0] 31 50 50
 rw [← eX]
 clear eX
 generalize hg3 : w.heap.size + 1 + 1 = g3 at *
 generalize hg2 : w.heap.size + 1 = g2 at *
 have HG : Hid (w.heap.size ≤ g2 ∧ w.heap.size ≤ g3 ∧ g3 ≠ g2 ∧ w.heap.size ≠ g3) := by refine ⟨?_, ?_, ?_, ?_⟩ <;> omega
 have hn1 : g3 ≠ w.heap.size := Ne.symm HG.out.2.2.2
 clear hg2 hg3
 have a0 := H0.out.1.cell 0 _ rfl
 have a2 := H0.out.1.cell 2 _ rfl
 have a3 := H0.out.1.cell 3 _ rfl
 have y1 := H0.out.2.2.1.cell 1 _ rfl
 have y3 := H0.out.2.2.1.cell 3 _ rfl
 have y4 := H0.out.2.2.1.cell 4 _ rfl
 have y7 := H0.out.2.2.1.cell 7 _ rfl
 have yf : ∀ j : Nat, X.frozen? ⟨g3, j, none⟩ = false := fun j => H0.out.2.2.1.free j
 go_upto_region 16 with fail
 obtain ⟨Y, eY⟩ : ∃ Y, Y = (((X.setCell ⟨g3, 1, none⟩ (.int .i64 2)).setCell ⟨g3, 3, none⟩ (.int .i64 st)).setCell ⟨g3, 4, none⟩ (.int .i64 tr)) := ⟨_, rfl⟩
 obtain ⟨M, hM⟩ : ∃ M : List Value, M = [.int .i64 3, .int .i64 2, .int .i64 id, .int .i64 st, .int .i64 tr, .int .i64 0, .int .i64 0, .int .i64 0, .int .i64 0, .int .i64 0, .string ⟨#[]⟩, .slice none 0 0] := ⟨_, rfl⟩
 have HM1 : Hid (LB Y g3 50 M ∧ (Tryd.prog.info? 50).map (·.size) = some M.length ∧ (∀ v ∈ M, v.oneCell' = true) ∧ M.length = 12 ∧ LB Y g2 50 [.int .i64 0, .int .i64 0, .int .i64 0, .int .i64 0, .int .i64 0, .int .i64 0, .int .i64 0, .int .i64 0, .int .i64 0, .int .i64 0, .string ⟨#[]⟩, .slice none 0 0] ∧ Below w.heap.size w Y) := by
  obtain ⟨z1, z2, z3, z4⟩ := H0.out
  rw [eY, hM]
  refine ⟨(((z3.set 1 _).set 3 _).set 4 _), infoRec, ?_, rfl, (((z2.other _ _ (Ne.symm HG.out.2.2.1)).other _ _ (Ne.symm HG.out.2.2.1)).other _ _ (Ne.symm HG.out.2.2.1)), (((z4.setCell HG.out.2.1 _).setCell HG.out.2.1 _).setCell HG.out.2.1 _)⟩
  intro v hv
  simp only [List.mem_cons, List.not_mem_nil, or_false] at hv
  rcases hv with rfl | rfl | rfl | rfl | rfl | rfl | rfl | rfl | rfl | rfl | rfl | rfl <;> rfl
 have HMM : Hid ((.agg #[.int .i64 3, .int .i64 2, .int .i64 id, .int .i64 st, .int .i64 tr, .int .i64 0, .int .i64 0, .int .i64 0, .int .i64 0, .int .i64 0, .string ⟨#[]⟩, .slice none 0 0] : Value) = .agg M.toArray) := by show _ = _; rw [hM]
 rw [← eY]
 clear eY hM H0 a0 a2 a3 y1 y3 y4 y7 yf
 have HT7 : Hid (Y.there g2 0 M.toArray.size) := there_of HM1.out.2.2.2.2.1 (by simp [HM1.out.2.2.2.1])
 have H8 : Hid (∀ W, W = Y.setCells g2 0 M → LB W g2 50 M ∧ Below w.heap.size w W) := fun W hY => by
  rw [hY]
  exact ⟨HM1.out.2.2.2.2.1.sets M HM1.out.2.2.2.1, below_cells HG.out.1 _ 0 _ HM1.out.2.2.2.2.2⟩
 go_wp2_with (first | (refine wpList_load_mid rfl 50 _ rfl g3 0 rfl M _ HM1.out.1.range Tryd.underlying50 rfl HM1.out.2.1 ?_) | (refine wpList_store_mid rfl 50 (.tmp 2) (.tmp 29) rfl g2 0 M.toArray rfl rfl HT7.out (by simpa using HM1.out.2.1) (all_oneCell_toArray HM1.out.2.2.1) ?_; (rw [List.toList_toArray])) | fail)
 refine bodyPost_ret (results_cell_mid rfl _ (Y.setCells g2 0 M) g2 M _ rfl (H8.out _ rfl).1.range Tryd.underlying50 rfl HM1.out.2.1) rfl ?_
 exact ⟨by rw [HMM.out], (H8.out _ rfl).2⟩
theorem precord_3 (K id st tr : Int) (nm : ByteArray) (w : World) (hk : K = 3) : Calls Tryd.prog 20 #[.agg (actl K id st tr nm).toArray] w fun e w' => e = .returned (rv (recQ K id st tr) ⟨#[]⟩ (.slice none 0 0)) ∧ Below w.heap.size w w' := by
 subst hk
 have HR : Hid (rv (recQ 3 id st tr) ⟨#[]⟩ (.slice none 0 0) = .agg #[.int .i64 3, .int .i64 5, .int .i64 id, .int .i64 st, .int .i64 tr, .int .i64 0, .int .i64 0, .int .i64 0, .int .i64 0, .int .i64 0, .string ⟨#[]⟩, .slice none 0 0]) := rfl
 rw [HR.out]
 unfold actl
 go_enter Tryd.func20, Tryd.ntmps20
 go_upto_region 2 with fail
 obtain ⟨X, eX⟩ : ∃ X, X = (((w.alloc (.cells #[.int .i64 3, .int .i64 id, .int .i64 st, .int .i64 tr, .string nm] 31)).alloc (.cells #[.int .i64 0, .int .i64 0, .int .i64 0, .int .i64 0, .int .i64 0, .int .i64 0, .int .i64 0, .int .i64 0, .int .i64 0, .int .i64 0, .string ⟨#[]⟩, .slice none 0 0] 50)).alloc (.cells #[.int .i64 3, .int .i64 0, .int .i64 id, .int .i64 0, .int .i64 0, .int .i64 0, .int .i64 0, .int .i64 0, .int .i64 0, .int .i64 0, .string ⟨#[]⟩, .slice none 0 0] 50)) := ⟨_, rfl⟩
 have H0 : Hid (LB X w.heap.size 31 [.int .i64 3, .int .i64 id, .int .i64 st, .int .i64 tr, .string nm] ∧ LB X (w.heap.size + 1) 50 [.int .i64 0, .int .i64 0, .int .i64 0, .int .i64 0, .int .i64 0, .int .i64 0, .int .i64 0, .int .i64 0, .int .i64 0, .int .i64 0, .string ⟨#[]⟩, .slice none 0 0] ∧ LB X (w.heap.size + 1 + 1) 50 [.int .i64 3, .int .i64 0, .int .i64 id, .int .i64 0, .int .i64 0, .int .i64 0, .int .i64 0, .int .i64 0, .int .i64 0, .int .i64 0, .string ⟨#[]⟩, .slice none 0 0] ∧ Below w.heap.size w X) := by
  rw [eX]
  exact lb_new3 w [.int .i64 3, .int .i64 id, .int .i64 st, .int .i64 tr, .string nm] [.int .i64 0, .int .i64 0, .int .i64 0, .int .i64 0, .int .i64 0, .int .i64 0, .int .i64 0, .int .i64 0, .int .i64 0, .int .i64 0, .string ⟨#[]⟩, .slice none 0 0] [.int .i64 3, .int .i64 0, .int .i64 id, .int .i64 0, .int .i64 0, .int .i64 0, .int .i64 0, .int .i64 0, .int .i64 0, .int .i64 0, .string ⟨#[]⟩, .slice none 0 0] 31 50 50
 rw [← eX]
 clear eX
 generalize hg3 : w.heap.size + 1 + 1 = g3 at *
 generalize hg2 : w.heap.size + 1 = g2 at *
 have HG : Hid (w.heap.size ≤ g2 ∧ w.heap.size ≤ g3 ∧ g3 ≠ g2 ∧ w.heap.size ≠ g3) := by refine ⟨?_, ?_, ?_, ?_⟩ <;> omega
 have hn1 : g3 ≠ w.heap.size := Ne.symm HG.out.2.2.2
 clear hg2 hg3
 have a0 := H0.out.1.cell 0 _ rfl
 have a2 := H0.out.1.cell 2 _ rfl
 have a3 := H0.out.1.cell 3 _ rfl
 have y1 := H0.out.2.2.1.cell 1 _ rfl
 have y3 := H0.out.2.2.1.cell 3 _ rfl
 have y4 := H0.out.2.2.1.cell 4 _ rfl
 have y7 := H0.out.2.2.1.cell 7 _ rfl
 have yf : ∀ j : Nat, X.frozen? ⟨g3, j, none⟩ = false := fun j => H0.out.2.2.1.free j
 go_upto_region 16 with fail
 obtain ⟨Y, eY⟩ : ∃ Y, Y = (((X.setCell ⟨g3, 1, none⟩ (.int .i64 5)).setCell ⟨g3, 3, none⟩ (.int .i64 st)).setCell ⟨g3, 4, none⟩ (.int .i64 tr)) := ⟨_, rfl⟩
 obtain ⟨M, hM⟩ : ∃ M : List Value, M = [.int .i64 3, .int .i64 5, .int .i64 id, .int .i64 st, .int .i64 tr, .int .i64 0, .int .i64 0, .int .i64 0, .int .i64 0, .int .i64 0, .string ⟨#[]⟩, .slice none 0 0] := ⟨_, rfl⟩
 have HM1 : Hid (LB Y g3 50 M ∧ (Tryd.prog.info? 50).map (·.size) = some M.length ∧ (∀ v ∈ M, v.oneCell' = true) ∧ M.length = 12 ∧ LB Y g2 50 [.int .i64 0, .int .i64 0, .int .i64 0, .int .i64 0, .int .i64 0, .int .i64 0, .int .i64 0, .int .i64 0, .int .i64 0, .int .i64 0, .string ⟨#[]⟩, .slice none 0 0] ∧ Below w.heap.size w Y) := by
  obtain ⟨z1, z2, z3, z4⟩ := H0.out
  rw [eY, hM]
  refine ⟨(((z3.set 1 _).set 3 _).set 4 _), infoRec, ?_, rfl, (((z2.other _ _ (Ne.symm HG.out.2.2.1)).other _ _ (Ne.symm HG.out.2.2.1)).other _ _ (Ne.symm HG.out.2.2.1)), (((z4.setCell HG.out.2.1 _).setCell HG.out.2.1 _).setCell HG.out.2.1 _)⟩
  intro v hv
  simp only [List.mem_cons, List.not_mem_nil, or_false] at hv
  rcases hv with rfl | rfl | rfl | rfl | rfl | rfl | rfl | rfl | rfl | rfl | rfl | rfl <;> rfl
 have HMM : Hid ((.agg #[.int .i64 3, .int .i64 5, .int .i64 id, .int .i64 st, .int .i64 tr, .int .i64 0, .int .i64 0, .int .i64 0, .int .i64 0, .int .i64 0, .string ⟨#[]⟩, .slice none 0 0] : Value) = .agg M.toArray) := by show _ = _; rw [hM]
 rw [← eY]
 clear eY hM H0 a0 a2 a3 y1 y3 y4 y7 yf
 have HT7 : Hid (Y.there g2 0 M.toArray.size) := there_of HM1.out.2.2.2.2.1 (by simp [HM1.out.2.2.2.1])
 have H8 : Hid (∀ W, W = Y.setCells g2 0 M → LB W g2 50 M ∧ Below w.heap.size w W) := fun W hY => by
  rw [hY]
  exact ⟨HM1.out.2.2.2.2.1.sets M HM1.out.2.2.2.1, below_cells HG.out.1 _ 0 _ HM1.out.2.2.2.2.2⟩
 go_wp2_with (first | (refine wpList_load_mid rfl 50 _ rfl g3 0 rfl M _ HM1.out.1.range Tryd.underlying50 rfl HM1.out.2.1 ?_) | (refine wpList_store_mid rfl 50 (.tmp 2) (.tmp 29) rfl g2 0 M.toArray rfl rfl HT7.out (by simpa using HM1.out.2.1) (all_oneCell_toArray HM1.out.2.2.1) ?_; (rw [List.toList_toArray])) | fail)
 refine bodyPost_ret (results_cell_mid rfl _ (Y.setCells g2 0 M) g2 M _ rfl (H8.out _ rfl).1.range Tryd.underlying50 rfl HM1.out.2.1) rfl ?_
 exact ⟨by rw [HMM.out], (H8.out _ rfl).2⟩
theorem precord_5 (K id st tr : Int) (nm : ByteArray) (w : World) (hk : K = 5) : Calls Tryd.prog 20 #[.agg (actl K id st tr nm).toArray] w fun e w' => e = .returned (rv (recQ K id st tr) ⟨#[]⟩ (.slice none 0 0)) ∧ Below w.heap.size w w' := by
 subst hk
 have HR : Hid (rv (recQ 5 id st tr) ⟨#[]⟩ (.slice none 0 0) = .agg #[.int .i64 3, .int .i64 7, .int .i64 id, .int .i64 0, .int .i64 0, .int .i64 0, .int .i64 0, .int .i64 1, .int .i64 0, .int .i64 0, .string ⟨#[]⟩, .slice none 0 0]) := rfl
 rw [HR.out]
 unfold actl
 go_enter Tryd.func20, Tryd.ntmps20
 go_upto_region 2 with fail
 obtain ⟨X, eX⟩ : ∃ X, X = (((w.alloc (.cells #[.int .i64 5, .int .i64 id, .int .i64 st, .int .i64 tr, .string nm] 31)).alloc (.cells #[.int .i64 0, .int .i64 0, .int .i64 0, .int .i64 0, .int .i64 0, .int .i64 0, .int .i64 0, .int .i64 0, .int .i64 0, .int .i64 0, .string ⟨#[]⟩, .slice none 0 0] 50)).alloc (.cells #[.int .i64 3, .int .i64 0, .int .i64 id, .int .i64 0, .int .i64 0, .int .i64 0, .int .i64 0, .int .i64 0, .int .i64 0, .int .i64 0, .string ⟨#[]⟩, .slice none 0 0] 50)) := ⟨_, rfl⟩
 have H0 : Hid (LB X w.heap.size 31 [.int .i64 5, .int .i64 id, .int .i64 st, .int .i64 tr, .string nm] ∧ LB X (w.heap.size + 1) 50 [.int .i64 0, .int .i64 0, .int .i64 0, .int .i64 0, .int .i64 0, .int .i64 0, .int .i64 0, .int .i64 0, .int .i64 0, .int .i64 0, .string ⟨#[]⟩, .slice none 0 0] ∧ LB X (w.heap.size + 1 + 1) 50 [.int .i64 3, .int .i64 0, .int .i64 id, .int .i64 0, .int .i64 0, .int .i64 0, .int .i64 0, .int .i64 0, .int .i64 0, .int .i64 0, .string ⟨#[]⟩, .slice none 0 0] ∧ Below w.heap.size w X) := by
  rw [eX]
  exact lb_new3 w [.int .i64 5, .int .i64 id, .int .i64 st, .int .i64 tr, .string nm] [.int .i64 0, .int .i64 0, .int .i64 0, .int .i64 0, .int .i64 0, .int .i64 0, .int .i64 0, .int .i64 0, .int .i64 0, .int .i64 0, .string ⟨#[]⟩, .slice none 0 0] [.int .i64 3, .int .i64 0, .int .i64 id, .int .i64 0, .int .i64 0, .int .i64 0, .int .i64 0, .int .i64 0, .int .i64 0, .int .i64 0, .string ⟨#[]⟩, .slice none 0 0] 31 50 50
 rw [← eX]
 clear eX
 generalize hg3 : w.heap.size + 1 + 1 = g3 at *
 generalize hg2 : w.heap.size + 1 = g2 at *
 have HG : Hid (w.heap.size ≤ g2 ∧ w.heap.size ≤ g3 ∧ g3 ≠ g2 ∧ w.heap.size ≠ g3) := by refine ⟨?_, ?_, ?_, ?_⟩ <;> omega
 have hn1 : g3 ≠ w.heap.size := Ne.symm HG.out.2.2.2
 clear hg2 hg3
 have a0 := H0.out.1.cell 0 _ rfl
 have a2 := H0.out.1.cell 2 _ rfl
 have a3 := H0.out.1.cell 3 _ rfl
 have y1 := H0.out.2.2.1.cell 1 _ rfl
 have y3 := H0.out.2.2.1.cell 3 _ rfl
 have y4 := H0.out.2.2.1.cell 4 _ rfl
 have y7 := H0.out.2.2.1.cell 7 _ rfl
 have yf : ∀ j : Nat, X.frozen? ⟨g3, j, none⟩ = false := fun j => H0.out.2.2.1.free j
 go_upto_region 13 with fail
 obtain ⟨Y, eY⟩ : ∃ Y, Y = ((X.setCell ⟨g3, 1, none⟩ (.int .i64 7)).setCell ⟨g3, 7, none⟩ (.int .i64 1)) := ⟨_, rfl⟩
 obtain ⟨M, hM⟩ : ∃ M : List Value, M = [.int .i64 3, .int .i64 7, .int .i64 id, .int .i64 0, .int .i64 0, .int .i64 0, .int .i64 0, .int .i64 1, .int .i64 0, .int .i64 0, .string ⟨#[]⟩, .slice none 0 0] := ⟨_, rfl⟩
 have HM1 : Hid (LB Y g3 50 M ∧ (Tryd.prog.info? 50).map (·.size) = some M.length ∧ (∀ v ∈ M, v.oneCell' = true) ∧ M.length = 12 ∧ LB Y g2 50 [.int .i64 0, .int .i64 0, .int .i64 0, .int .i64 0, .int .i64 0, .int .i64 0, .int .i64 0, .int .i64 0, .int .i64 0, .int .i64 0, .string ⟨#[]⟩, .slice none 0 0] ∧ Below w.heap.size w Y) := by
  obtain ⟨z1, z2, z3, z4⟩ := H0.out
  rw [eY, hM]
  refine ⟨((z3.set 1 _).set 7 _), infoRec, ?_, rfl, ((z2.other _ _ (Ne.symm HG.out.2.2.1)).other _ _ (Ne.symm HG.out.2.2.1)), ((z4.setCell HG.out.2.1 _).setCell HG.out.2.1 _)⟩
  intro v hv
  simp only [List.mem_cons, List.not_mem_nil, or_false] at hv
  rcases hv with rfl | rfl | rfl | rfl | rfl | rfl | rfl | rfl | rfl | rfl | rfl | rfl <;> rfl
 have HMM : Hid ((.agg #[.int .i64 3, .int .i64 7, .int .i64 id, .int .i64 0, .int .i64 0, .int .i64 0, .int .i64 0, .int .i64 1, .int .i64 0, .int .i64 0, .string ⟨#[]⟩, .slice none 0 0] : Value) = .agg M.toArray) := by show _ = _; rw [hM]
 rw [← eY]
 clear eY hM H0 a0 a2 a3 y1 y3 y4 y7 yf
 have HT7 : Hid (Y.there g2 0 M.toArray.size) := there_of HM1.out.2.2.2.2.1 (by simp [HM1.out.2.2.2.1])
 have H8 : Hid (∀ W, W = Y.setCells g2 0 M → LB W g2 50 M ∧ Below w.heap.size w W) := fun W hY => by
  rw [hY]
  exact ⟨HM1.out.2.2.2.2.1.sets M HM1.out.2.2.2.1, below_cells HG.out.1 _ 0 _ HM1.out.2.2.2.2.2⟩
 go_wp2_with (first | (refine wpList_load_mid rfl 50 _ rfl g3 0 rfl M _ HM1.out.1.range Tryd.underlying50 rfl HM1.out.2.1 ?_) | (refine wpList_store_mid rfl 50 (.tmp 2) (.tmp 22) rfl g2 0 M.toArray rfl rfl HT7.out (by simpa using HM1.out.2.1) (all_oneCell_toArray HM1.out.2.2.1) ?_; (rw [List.toList_toArray])) | fail)
 refine bodyPost_ret (results_cell_mid rfl _ (Y.setCells g2 0 M) g2 M _ rfl (H8.out _ rfl).1.range Tryd.underlying50 rfl HM1.out.2.1) rfl ?_
 exact ⟨by rw [HMM.out], (H8.out _ rfl).2⟩
theorem precord_o (K id st tr : Int) (nm : ByteArray) (w : World) (h1 : K ≠ 1) (h3 : K ≠ 3) (h5 : K ≠ 5) : Calls Tryd.prog 20 #[.agg (actl K id st tr nm).toArray] w fun e w' => e = .returned (rv (recQ K id st tr) ⟨#[]⟩ (.slice none 0 0)) ∧ Below w.heap.size w w' := by
 have HR : Hid (rv (recQ K id st tr) ⟨#[]⟩ (.slice none 0 0) = .agg #[.int .i64 3, .int .i64 7, .int .i64 id, .int .i64 0, .int .i64 0, .int .i64 0, .int .i64 0, .int .i64 2, .int .i64 0, .int .i64 0, .string ⟨#[]⟩, .slice none 0 0]) := by show _ = _; unfold recQ; rw [if_neg h1, if_neg h3, if_neg h5]; rfl
 have e1 : (K == 1) = false := by rw [beq_eq_false_iff_ne]; exact h1
 have e3 : (K == 3) = false := by rw [beq_eq_false_iff_ne]; exact h3
 have e5 : (K == 5) = false := by rw [beq_eq_false_iff_ne]; exact h5
 clear h1 h3 h5
 rw [HR.out]
 unfold actl
 go_enter Tryd.func20, Tryd.ntmps20
 go_upto_region 2 with fail
 obtain ⟨X, eX⟩ : ∃ X, X = (((w.alloc (.cells #[.int .i64 K, .int .i64 id, .int .i64 st, .int .i64 tr, .string nm] 31)).alloc (.cells #[.int .i64 0, .int .i64 0, .int .i64 0, .int .i64 0, .int .i64 0, .int .i64 0, .int .i64 0, .int .i64 0, .int .i64 0, .int .i64 0, .string ⟨#[]⟩, .slice none 0 0] 50)).alloc (.cells #[.int .i64 3, .int .i64 0, .int .i64 id, .int .i64 0, .int .i64 0, .int .i64 0, .int .i64 0, .int .i64 0, .int .i64 0, .int .i64 0, .string ⟨#[]⟩, .slice none 0 0] 50)) := ⟨_, rfl⟩
 have H0 : Hid (LB X w.heap.size 31 [.int .i64 K, .int .i64 id, .int .i64 st, .int .i64 tr, .string nm] ∧ LB X (w.heap.size + 1) 50 [.int .i64 0, .int .i64 0, .int .i64 0, .int .i64 0, .int .i64 0, .int .i64 0, .int .i64 0, .int .i64 0, .int .i64 0, .int .i64 0, .string ⟨#[]⟩, .slice none 0 0] ∧ LB X (w.heap.size + 1 + 1) 50 [.int .i64 3, .int .i64 0, .int .i64 id, .int .i64 0, .int .i64 0, .int .i64 0, .int .i64 0, .int .i64 0, .int .i64 0, .int .i64 0, .string ⟨#[]⟩, .slice none 0 0] ∧ Below w.heap.size w X) := by
  rw [eX]
  exact lb_new3 w [.int .i64 K, .int .i64 id, .int .i64 st, .int .i64 tr, .string nm] [.int .i64 0, .int .i64 0, .int .i64 0, .int .i64 0, .int .i64 0, .int .i64 0, .int .i64 0, .int .i64 0, .int .i64 0, .int .i64 0, .string ⟨#[]⟩, .slice none 0 0] [.int .i64 3, .int .i64 0, .int .i64 id, .int .i64 0, .int .i64 0, .int .i64 0, .int .i64 0, .int .i64 0, .int .i64 0, .int .i64 0, .string ⟨#[]⟩, .slice none 0 0] 31 50 50
 rw [← eX]
 clear eX
 generalize hg3 : w.heap.size + 1 + 1 = g3 at *
 generalize hg2 : w.heap.size + 1 = g2 at *
 have HG : Hid (w.heap.size ≤ g2 ∧ w.heap.size ≤ g3 ∧ g3 ≠ g2 ∧ w.heap.size ≠ g3) := by refine ⟨?_, ?_, ?_, ?_⟩ <;> omega
 have hn1 : g3 ≠ w.heap.size := Ne.symm HG.out.2.2.2
 clear hg2 hg3
 have a0 := H0.out.1.cell 0 _ rfl
 have a2 := H0.out.1.cell 2 _ rfl
 have a3 := H0.out.1.cell 3 _ rfl
 have y1 := H0.out.2.2.1.cell 1 _ rfl
 have y3 := H0.out.2.2.1.cell 3 _ rfl
 have y4 := H0.out.2.2.1.cell 4 _ rfl
 have y7 := H0.out.2.2.1.cell 7 _ rfl
 have yf : ∀ j : Nat, X.frozen? ⟨g3, j, none⟩ = false := fun j => H0.out.2.2.1.free j
 go_upto_region 5 with fail
 obtain ⟨Y, eY⟩ : ∃ Y, Y = ((X.setCell ⟨g3, 1, none⟩ (.int .i64 7)).setCell ⟨g3, 7, none⟩ (.int .i64 2)) := ⟨_, rfl⟩
 obtain ⟨M, hM⟩ : ∃ M : List Value, M = [.int .i64 3, .int .i64 7, .int .i64 id, .int .i64 0, .int .i64 0, .int .i64 0, .int .i64 0, .int .i64 2, .int .i64 0, .int .i64 0, .string ⟨#[]⟩, .slice none 0 0] := ⟨_, rfl⟩
 have HM1 : Hid (LB Y g3 50 M ∧ (Tryd.prog.info? 50).map (·.size) = some M.length ∧ (∀ v ∈ M, v.oneCell' = true) ∧ M.length = 12 ∧ LB Y g2 50 [.int .i64 0, .int .i64 0, .int .i64 0, .int .i64 0, .int .i64 0, .int .i64 0, .int .i64 0, .int .i64 0, .int .i64 0, .int .i64 0, .string ⟨#[]⟩, .slice none 0 0] ∧ Below w.heap.size w Y) := by
  obtain ⟨z1, z2, z3, z4⟩ := H0.out
  rw [eY, hM]
  refine ⟨((z3.set 1 _).set 7 _), infoRec, ?_, rfl, ((z2.other _ _ (Ne.symm HG.out.2.2.1)).other _ _ (Ne.symm HG.out.2.2.1)), ((z4.setCell HG.out.2.1 _).setCell HG.out.2.1 _)⟩
  intro v hv
  simp only [List.mem_cons, List.not_mem_nil, or_false] at hv
  rcases hv with rfl | rfl | rfl | rfl | rfl | rfl | rfl | rfl | rfl | rfl | rfl | rfl <;> rfl
 have HMM : Hid ((.agg #[.int .i64 3, .int .i64 7, .int .i64 id, .int .i64 0, .int .i64 0, .int .i64 0, .int .i64 0, .int .i64 2, .int .i64 0, .int .i64 0, .string ⟨#[]⟩, .slice none 0 0] : Value) = .agg M.toArray) := by show _ = _; rw [hM]
 rw [← eY]
 clear eY hM H0 a0 a2 a3 y1 y3 y4 y7 yf
 have HT7 : Hid (Y.there g2 0 M.toArray.size) := there_of HM1.out.2.2.2.2.1 (by simp [HM1.out.2.2.2.1])
 have H8 : Hid (∀ W, W = Y.setCells g2 0 M → LB W g2 50 M ∧ Below w.heap.size w W) := fun W hY => by
  rw [hY]
  exact ⟨HM1.out.2.2.2.2.1.sets M HM1.out.2.2.2.1, below_cells HG.out.1 _ 0 _ HM1.out.2.2.2.2.2⟩
 go_wp2_with (first | (refine wpList_load_mid rfl 50 _ rfl g3 0 rfl M _ HM1.out.1.range Tryd.underlying50 rfl HM1.out.2.1 ?_) | (refine wpList_store_mid rfl 50 (.tmp 2) (.tmp 11) rfl g2 0 M.toArray rfl rfl HT7.out (by simpa using HM1.out.2.1) (all_oneCell_toArray HM1.out.2.2.1) ?_; (rw [List.toList_toArray])) | fail)
 refine bodyPost_ret (results_cell_mid rfl _ (Y.setCells g2 0 M) g2 M _ rfl (H8.out _ rfl).1.range Tryd.underlying50 rfl HM1.out.2.1) rfl ?_
 exact ⟨by rw [HMM.out], (H8.out _ rfl).2⟩
theorem precord_any (K id st tr : Int) (nm : ByteArray) (w : World) : Calls Tryd.prog 20 #[.agg (actl K id st tr nm).toArray] w fun e w' => e = .returned (rv (recQ K id st tr) ⟨#[]⟩ (.slice none 0 0)) ∧ Below w.heap.size w w' := by
 by_cases h1 : K = 1
 ·exact precord_1 K id st tr nm w h1
 by_cases h3 : K = 3
 ·exact precord_3 K id st tr nm w h3
 by_cases h5 : K = 5
 ·exact precord_5 K id st tr nm w h5
 exact precord_o K id st tr nm w h1 h3 h5
end Go.Proofs.YtodcakplmoajiaaDoor
