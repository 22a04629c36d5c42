import Derived.Test.YtabdfafffjgfiaaGreatDoorADF
import Derived.Test.YtabdfafffjgfiaaGreatDoorADE
namespace Go.Proofs.YtabdfafffjgfiaaGreatDoor
open Go Go.RowKit
open Wb

def FrS (w w' : World) : Prop := ∀ b, b < w.heap.size → (∀ cs z, w.heap[b]? ≠ some (.cells cs 22 z)) → w'.heap[b]? = w.heap[b]?
theorem FrS.below {w w' : World} (h : Below w.heap.size w w') : FrS w w' := fun b hb _ => h.block b hb
theorem FrS.of {B : Nat} {w w' : World} {v : Value} {vs : List Value} (hr : Row B w v vs) (h : FrB v.ownBlock w w') : FrS w w' := fun b hb hn => h b hb fun e => by
 obtain ⟨cs, z, h9⟩ := row_typed hr b e
 exact hn cs z h9
theorem own_frb {B : Nat} {w w' : World} {d v : Value} {l : List Nat} {vs : List Value} (h : Own B w d l) (hr : Row B w v vs) (hf : FrB v.ownBlock w w') : Own B w' d l := own_keptB h fun b e => hf b (own_block h b e).2 fun e2 => by
 obtain ⟨cs, z, h8⟩ := own_typed h b e
 obtain ⟨cs', z', h9⟩ := row_typed hr b e2
 rw [h8] at h9
 simp at h9
theorem ownp_frb {B : Nat} {w w' : World} {u v : Value} {ls : List (List Nat)} {vs : List Value} (h : OwnP B w u ls) (hr : Row B w v vs) (hne : ∀ g, u.ownBlock = some g → v.ownBlock ≠ some g) (hf : FrB v.ownBlock w w') : OwnP B w' u ls := by
 obtain ⟨us, r1, r2, r3⟩ := h
 exact ⟨us, row_kept2 r1 fun b e => hf b (row_block r1 b e).2 (hne b e), r2, fun j a b => own_frb (r3 j a b) hr hf⟩
theorem SgOwn.kept {B : Nat} {w w' : World} {S : Sg} {h : SH} (k : SgOwn B w S h) (hb : Below w.heap.size w w') : SgOwn B w' S h := ⟨k.inp.kept hb, k.outs.kept hb, k.und.kept hb, k.fail.kept hb, k.apart⟩
theorem SgOwn.weak {B B2 : Nat} {w : World} {S : Sg} {h : SH} (k : SgOwn B2 w S h) (hB : B ≤ B2) : SgOwn B w S h := ⟨own_weak k.inp hB, k.outs.weak hB, k.und.weak hB, own_weak k.fail hB, k.apart⟩
def LiPost (B : Nat) (S : Sg) (w : World) (e : Ending) (w' : World) : Prop := ∃ h', e = .returned (sv S h') ∧ SgOwn B w' S h' ∧ Below B w w' ∧ FrS w w'
theorem rxlight_any (S : Sg) (h : SH) (r : Rec) (d : Value) (w : World) (B : Nat) (k : SgOwn B w S h) (hB : B ≤ w.heap.size) (hb : Bs w d r.l) (hc : chkS S = true) (hv : V3 r) (h0 : refP S.x r.x = 0) :
  Calls Tryz.prog 96 #[sv S h, rv r.x r.nm d] w fun e w' => LiPost B (deedS S r) w e w' := by
 obtain ⟨_, _, _, _, g5, g6, g7, _, g9, _, _⟩ := good_nums S hc
 obtain ⟨z1, z2, z3, z4, z5, z6, z7, z8, z9, z10⟩ := ref_zero h0
 obtain ⟨_, _, _, h1 | h1 | h1 | h1 | h1⟩ := hv
 ·exact absurd h1.1 z2
 ·have hd : deedS S r = { S with x := { S.x with la := r.x.a, fl := true, tr := r.x.t } } := by unfold deedS; rw [if_pos h1.1]
  rw [hd]
  rcases h1.1 with hk | hk
  ·refine (rxlight_2 S h r.x r.nm d w hk).mono ?_
   rintro e w' ⟨rfl, b⟩
   have k' := k.kept b
   exact ⟨h, rfl, ⟨k'.inp, k'.outs, k'.und, k'.fail, k'.apart⟩, b.mono hB, FrS.below b⟩
  ·refine (rxlight_5 S h r.x r.nm d w hk).mono ?_
   rintro e w' ⟨rfl, b⟩
   have k' := k.kept b
   exact ⟨h, rfl, ⟨k'.inp, k'.outs, k'.und, k'.fail, k'.apart⟩, b.mono hB, FrS.below b⟩
 ·rcases h1.1 with hk | hk
  ·have hd : deedS S r = { S with x := { S.x with la := r.x.a, fl := false, tr := 0, nx := S.x.nx + 1 }, outs := S.outs ++ [r.l] } := by unfold deedS; rw [if_neg (by omega), if_pos hk]
   rw [hd]
   refine (rxlight_3 S h r.x r.nm d r.l w B k.outs hB hb (by omega) hk g9 (by omega)).mono ?_
   rintro e w' ⟨a, c, rfl, ho, b, fr, hat⟩
   obtain ⟨vs, hr, _⟩ := k.outs
   refine ⟨_, rfl, ⟨own_frb k.inp hr fr, by simpa using ho, ownp_frb k.und hr (fun g e e2 => k.apart g e2 e) fr, own_frb k.fail hr fr, fun g e e2 => ?_⟩, b, FrS.of hr fr⟩
   rcases hat g (by simpa using e) with h9 | h9
   ·exact k.apart g h9 e2
   ·have := (k.und.block g e2).2; omega
  ·have hd : deedS S r = { S with x := { S.x with la := r.x.a, fl := false, tr := 0, nx := S.x.nx - 1 }, und := S.und ++ [r.l] } := by unfold deedS; rw [if_neg (by omega), if_neg (by omega), if_neg (by omega), if_pos hk]
   rw [hd]
   refine (rxlight_6 S h r.x r.nm d r.l w B k.und hB hb (by omega) hk g9 (by omega)).mono ?_
   rintro e w' ⟨a, c, rfl, ho, b, fr, hat⟩
   obtain ⟨vs, hr, _⟩ := k.und
   refine ⟨_, rfl, ⟨own_frb k.inp hr fr, ownp_frb k.outs hr (fun g e e2 => k.apart g e e2) fr, by simpa using ho, own_frb k.fail hr fr, fun g e e2 => ?_⟩, b, FrS.of hr fr⟩
   rcases hat g (by simpa using e2) with h9 | h9
   ·exact k.apart g e h9
   ·have := (k.outs.block g e).2; omega
 ·have hl : r.x.l = 0 ∨ r.x.l = 1 := by omega
  rcases hl with hl | hl
  ·have hd : deedS S r = { S with x := { S.x with la := r.x.a, fl := false } } := by unfold deedS; rw [if_neg (by omega), if_neg (by omega), if_pos h1.1, if_pos hl]
   rw [hd]
   refine (rxlight_40 S h r.x r.nm d w h1.1 hl).mono ?_
   rintro e w' ⟨rfl, b⟩
   have k' := k.kept b
   exact ⟨h, rfl, ⟨k'.inp, k'.outs, k'.und, k'.fail, k'.apart⟩, b.mono hB, FrS.below b⟩
  ·have hd : deedS S r = { S with x := { S.x with la := r.x.a, fl := false, tr := 0, ph := 2, fs := r.x.p, fc := r.x.c }, fail := r.l } := by unfold deedS; rw [if_neg (by omega), if_neg (by omega), if_pos h1.1, if_neg (by omega)]
   rw [hd]
   refine (rxlight_41 S h r.x r.nm d r.l w hb (by omega) h1.1 hl).mono ?_
   rintro e w' ⟨a, c, rfl, ho, b⟩
   have k' := k.kept b
   exact ⟨_, rfl, ⟨k'.inp, k'.outs, k'.und, own_weak ho hB, k'.apart⟩, b.mono hB, FrS.below b⟩
 ·have hd : deedS S r = { S with x := { S.x with la := r.x.a, ph := if S.x.ph = 1 then 3 else 4 } } := by unfold deedS; rw [if_neg (by omega), if_neg (by omega), if_neg (by omega), if_neg (by omega)]
  rw [hd]
  have hf : S.x.fl = false := by rw [← z6, h1.1]; rfl
  have hp : 1 ≤ S.x.ph ∧ S.x.ph ≤ 2 := by
   unfold SN.ended at z3
   simp at z3
   omega
  refine (rxlight_7 S h r.x r.nm d w h1.1 hp hf).mono ?_
  rintro e w' ⟨rfl, b⟩
  have k' := k.kept b
  exact ⟨h, rfl, ⟨k'.inp, k'.outs, k'.und, k'.fail, k'.apart⟩, b.mono hB, FrS.below b⟩
theorem outL_len (S : Sg) : ∀ (r : List (List Nat)) (i : Nat), (outL S i r).length = 2 * r.length
 | [], _ => rfl
 | _ :: r, i => by simp only [outL, List.length_cons, outL_len S r (i + 1)]; omega
theorem undL_len (S : Sg) : ∀ (r : List (List Nat)) (p : Int), (undL S p r).length = 2 * r.length
 | [], _ => rfl
 | _ :: r, p => by simp only [undL, List.length_cons, undL_len S r (p - 1)]; omega
theorem trL_len (S : Sg) (kk p : Int) : ∀ (n m : Nat), (trL S kk p m n).length ≤ 2 * n
 | 0, _ => Nat.le_refl _
 | n + 1, m => by
  have := trL_len S kk p n (m + 1)
  rw [trR_step]
  split <;> (simp; omega)
theorem failL_len (S : Sg) : (failL S).length ≤ 2 + 2 * S.und.length := by
 unfold failL
 split
 ·simp
 ·simp [undL_len]; omega
theorem story_len (S : Sg) (h : chkS S = true) : (storyP S).length ≤ 3000 := by
 obtain ⟨_, _, _, q4, _, q1, q2, _⟩ := good_nums S h
 have h1 := failL_len S
 have h2 := trL_len S (trK S) S.x.turn S.x.tr.toNat 0
 have h3 : (endL S).length ≤ 1 := by unfold endL; split <;> simp
 simp only [storyP, storyT, List.length_cons, List.length_append, outL_len]
 omega
def LYb (w : World) (v : Value) (ps : List (Rec × Value)) (D : List Value) (q : Nat) (Q : Sg) (hq : SH) (wr : World) : Prop := LB wr q 25 (scl Q hq) ∧ OutT 0 wr v ps ∧ LB wr w.heap.size 25 D ∧ Below w.heap.size w wr ∧ w.heap.size < q
def LY (w : World) (v : Value) (ps : List (Rec × Value)) (D : List Value) (q : Nat) (Q : Sg) (hq : SH) (wr : World) : Prop := LYb w v ps D q Q hq wr ∧ SgOwn w.heap.size wr Q hq
theorem LY.kept {w wr wr' : World} {v : Value} {ps : List (Rec × Value)} {D : List Value} {q : Nat} {Q : Sg} {hq : SH} (k : LY w v ps D q Q hq wr) (b : Below wr.heap.size wr wr') : LY w v ps D q Q hq wr' := ⟨⟨k.1.1.kept b, k.1.2.1.kept b, k.1.2.2.1.kept b, andThen k.1.2.2.2.1 b, k.1.2.2.2.2⟩, k.2.kept b⟩
theorem lb_frs {w w' : World} {b : Nat} {ty : TypeId} {C : List Value} (L : LB w b ty C) (h : FrS w w') (ht : ty ≠ 22) : LB w' b ty C := (h b L.lt (fun cs z e => by
 rw [L] at e
 simp at e
 exact ht e.2.1)).trans L
theorem outt_frs {B : Nat} {w w' : World} {v : Value} {ps : List (Rec × Value)} (k : OutT B w v ps) (h : FrS w w') : OutT B w' v ps :=
 ⟨rrow_kept2 k.1 fun g e => h g (World.ownsRow.lt k.1 g e).2 (fun cs z e2 => by obtain ⟨cs', z', h9⟩ := rrow_typed k.1 g e; rw [h9] at e2; simp at e2),
  fun p hp => own_keptB (k.2 p hp) fun g e => h g (own_block (k.2 p hp) g e).2 (fun cs z e2 => by obtain ⟨cs', z', h9⟩ := own_typed (k.2 p hp) g e; rw [h9] at e2; simp at e2)⟩
theorem LYb.light {w wr wr' : World} {v : Value} {ps : List (Rec × Value)} {D : List Value} {q : Nat} {Q : Sg} {hq : SH} (k : LYb w v ps D q Q hq wr) (b : Below w.heap.size wr wr') (f : FrS wr wr') : LYb w v ps D q Q hq wr' := ⟨lb_frs k.1 f (by decide), outt_frs k.2.1 f, lb_frs k.2.2.1 f (by decide), k.2.2.2.1.trans b, k.2.2.2.2⟩
theorem sgown_oth {B : Nat} {w w' : World} {S : Sg} {h : SH} {g : Nat} {C : List Value} (k : SgOwn B w S h) (L : LB w g 25 C) (ho : Oth g w w') : SgOwn B w' S h := ⟨own_oth k.inp L (by decide) ho, ownp_oth k.outs L (by decide) (by decide) ho, ownp_oth k.und L (by decide) (by decide) ho, own_oth k.fail L (by decide) ho, k.apart⟩
theorem LYb.put {w wr : World} {v : Value} {ps : List (Rec × Value)} {D : List Value} {q : Nat} {Q Q2 : Sg} {hq h2 : SH} (k : LYb w v ps D q Q hq wr) (o : SgOwn w.heap.size wr Q2 h2) : LY w v ps D q Q2 h2 (wr.setCells q 0 (scl Q2 h2)) :=
 ⟨⟨k.1.sets _ rfl, k.2.1.but k.1 (by decide) (by decide) (Oth.sets _ _ _ _), k.2.2.1.others _ _ _ (by have := k.2.2.2.2; omega), below_cells (by have := k.2.2.2.2; omega) _ 0 _ k.2.2.2.1, k.2.2.2.2⟩, sgown_oth o k.1 (Oth.sets _ _ _ _)⟩
theorem LY.at {w wr : World} {v : Value} {ps : List (Rec × Value)} {D : List Value} {q : Nat} {Q : Sg} {hq : SH} (k : LY w v ps D q Q hq wr) : SgO 0 wr Q hq := SgO.weak ⟨k.2.inp, k.2.outs, k.2.und, k.2.fail⟩ (Nat.zero_le _)
set_option maxRecDepth 100000 in
set_option maxHeartbeats 8000000 in
theorem rxcheck_ok (S : Sg) (h : SH) (w : World) (k : SgAt w S h) (hT : Tabs w) (hnm : S.nm.size ≤ 1048576) (hc : chkS S = true) (hfc : -9223372036854775808 ≤ S.x.fc ∧ S.x.fc ≤ 9223372036854775807) :
  Calls Tryz.prog 77 #[sv S h] w fun e w' => e = .returned (.int .i64 0) ∧ Below w.heap.size w w' := by
 have HSZ0 : ∀ w', Below w.heap.size w w' → Calls Tryz.prog 94 #[sv S h] w' fun e w'' => e = .returned (.bool true) ∧ Below w'.heap.size w' w'' := fun w' hb => rxsized_ok S h w' (hT.kept hb).rlets (by omega) hc
 have HTO0 : ∀ w', Below w.heap.size w w' → Calls Tryz.prog 83 #[sv S h] w' fun e w'' => ∃ v ps, e = .returned v ∧ OutT w'.heap.size w'' v ps ∧ ps.map Prod.fst = storyP S ∧ Below w'.heap.size w' w'' := fun w' hb => rxtold_any S h w' (k.kept hb) hc
 have hlen := story_len S hc
 have HSM0 : ∀ (hq : SH) (w' : World), Below w.heap.size w w' → SgO 0 w' S hq → Calls Tryz.prog 25 #[sv S hq, sv S h] w' fun e w'' => e = .returned (.bool true) ∧ Below w'.heap.size w' w'' := fun hq w' hb k' => same_any S hq h w' k'.at (k.kept hb)
 have HTB : Hid (∀ w', Below w.heap.size w w' → Tabs w') := fun w' hb => hT.kept hb
 have HOK : Hid (ok S.inp) := k.inp.good
 have HQ0 : Hid (beginP (stB S) = (0, stO S S.x.beg 0) ∧ Leads (stO S S.x.beg 0) (storyT S) S ∧ chkS (stO S S.x.beg 0) = true) := by
  have e1 := begin_stB S hc
  have e2 := begin_good (stB S) HOK.out (v3_stB S hc).2 (by rw [e1])
  rw [e1] at e2
  exact ⟨e1, story_leads S hc hfc, e2.1⟩
 have HBE0 : Hid (∀ (d0 : Value) (w' : World), Below w.heap.size w w' → Bs w' d0 (stB S).l → Calls Tryz.prog 55 #[rv (stB S).x (stB S).nm d0] w' fun e w'' => ∃ h', e = .returned (.tuple #[sv (stO S S.x.beg 0) h', .int .i64 0]) ∧ SgOwn w.heap.size w'' (stO S S.x.beg 0) h' ∧ Below w'.heap.size w' w'') := fun d0 w' hb' hd => by
  have e := rxbegin_ok (stB S) d0 w' hd (HTB.out w' hb') hnm (v3_stB S hc).2 (v3_stB S hc).1 rfl rfl
  rw [HQ0.out.1] at e
  exact e.mono fun e w'' ⟨h9, q1, q2, q3⟩ => ⟨h9, q1, q2.weak hb'.size, q3⟩
 obtain ⟨Z, hZ⟩ : ∃ Z, Z = zcl := ⟨_, rfl⟩
 have HZ : Hid (Z = zcl) := hZ
 have HZL : Hid (Z.length = 16) := by show _ = _; rw [hZ]; rfl
 obtain ⟨D, hD, hL, hE⟩ := sv_letter S h
 rw [hD] at HSZ0 HTO0 ⊢
 have HSZ : Hid _ := HSZ0
 have HTO : Hid _ := HTO0
 have HSM : Hid (∀ (hq : SH) (DQ : List Value) (w' : World), sv S hq = .agg DQ.toArray → Below w.heap.size w w' → SgO 0 w' S hq → Calls Tryz.prog 25 #[.agg DQ.toArray, .agg D.toArray] w' fun e w'' => e = .returned (.bool true) ∧ Below w'.heap.size w' w'') := fun hq DQ w' e1 hb k' => by
  have e := HSM0 hq w' hb k'
  rw [e1, hD] at e
  exact e
 have HL : Hid _ := hL
 have HE : Hid (D = scl S h) := hE
 have HX1 : Hid (LB (w.alloc (.cells D.toArray 25)) w.heap.size 25 D ∧ Below w.heap.size w (w.alloc (.cells D.toArray 25))) := ⟨lb_new w D _, up0 _ _⟩
 clear hD hL hE hZ HSZ0 HTO0 HSM0 k hT hnm
 go_enter Tryz.func77, Tryz.ntmps77
 go_wp2_with (first | (refine wpList_load_mid rfl 25 _ rfl w.heap.size 0 rfl D _ HX1.out.1.range Tryz.underlying25 rfl HL.out ?_) | fail)
 refine (HSZ.out _ HX1.out.2).mono ?_
 rintro e w1 ⟨rfl, b1⟩
 have H1 : Hid (LB w1 w.heap.size 25 D ∧ Below w.heap.size w w1) := ⟨HX1.out.1.kept b1, andThen HX1.out.2 b1⟩
 clear b1 HX1 HSZ
 go_wp2_with (first | (refine wpList_load_mid rfl 25 _ rfl w.heap.size 0 rfl D _ H1.out.1.range Tryz.underlying25 rfl HL.out ?_) | fail)
 refine (HTO.out _ H1.out.2).mono ?_
 rintro e w5 ⟨v5, ps, rfl, ho, hm, b5⟩
 have hpl : ps.length = (storyP S).length := by rw [← hm]; simp
 have hps : 0 < ps.length := by rw [hpl]; exact Nat.succ_pos _
 have hpb : ps.length ≤ 3000 := by omega
 obtain ⟨ao, cap5, rfl, hk5⟩ := ho.at
 obtain ⟨g5, rfl, _, _⟩ := hk5 0 hps
 have HPS : Hid (ps.map Prod.fst = storyP S) := hm
 have H8 : Hid (LB w5 w.heap.size 25 D ∧ Below w.heap.size w w5 ∧ OutT 0 w5 (.slice (some ⟨g5, 0, none⟩) ps.length cap5) ps) := ⟨H1.out.1.kept b5, andThen H1.out.2 b5, ho.weak (Nat.zero_le _)⟩
 clear b5 H1 ho hm hk5 hpl HTO hlen
 have HAT : Hid (∀ wr, OutT 0 wr (.slice (some ⟨g5, 0, none⟩) ps.length cap5) ps → ∀ k (hk : k < ps.length), wr.rangeAt g5 (k * 12) (rcl ps[k]) ∧ Bs wr ps[k].2 ps[k].1.l) := fun wr ho k hk => by
  obtain ⟨ao, cap, e, h9⟩ := ho.at
  obtain ⟨g9, rfl, q1, q2⟩ := h9 k hk
  simp only [Value.slice.injEq, Option.some.injEq, Addr.mk.injEq] at e
  obtain ⟨⟨rfl, _⟩, _⟩ := e
  exact ⟨q1, q2⟩
 have hp0 : ps[0].1 = stB S := by have e := story_rec HPS.out 0 hps; simp [storyP] at e; exact e.symm
 obtain ⟨r0, d0, hrd⟩ : ∃ r0 d0, ps[0] = (r0, d0) := ⟨_, _, rfl⟩
 rw [hrd] at hp0
 obtain rfl : r0 = stB S := hp0
 have hat0 := HAT.out _ H8.out.2.2 0 hps
 rw [hrd] at hat0
 obtain ⟨R0, hR0, hR0L, hR0E⟩ := rv_letter (stB S).x (stB S).nm d0
 have HR0L : Hid _ := hR0L
 have HR0 : Hid (w5.rangeAt g5 0 R0 ∧ Bs w5 d0 (stB S).l) := ⟨by rw [hR0E]; have e := hat0.1; rw [Nat.zero_mul] at e; exact e, hat0.2⟩
 have HBE : Hid (∀ w', Below w.heap.size w w' → Bs w' d0 (stB S).l → Calls Tryz.prog 55 #[.agg R0.toArray] w' fun e w'' => ∃ h', e = .returned (.tuple #[sv (stO S S.x.beg 0) h', .int .i64 0]) ∧ SgOwn w.heap.size w'' (stO S S.x.beg 0) h' ∧ Below w'.heap.size w' w'') := fun w' hb' hd => by
  have e := HBE0.out d0 w' hb' hd
  rw [hR0] at e
  exact e
 clear hrd hat0 hR0 hR0L hR0E HBE0
 obtain ⟨Q0, hQ0⟩ : ∃ Q0, stO S S.x.beg 0 = Q0 := ⟨_, rfl⟩
 rw [hQ0] at HBE HQ0
 clear hQ0
 go_wp2_with (first | (refine wpList_load_mid rfl 37 _ rfl g5 0 rfl R0 _ HR0.out.1 Tryz.underlying37 rfl HR0L.out ?_) | fail)
 refine (HBE.out _ H8.out.2.1 HR0.out.2).mono ?_
 rintro e x1 ⟨h9, rfl, o9, b9⟩
 obtain ⟨D9, hD9, hL9, hE9⟩ := sv_letter Q0 h9
 rw [hD9]
 have HL9 : Hid _ := hL9
 have H19 : Hid (∀ v ∈ D9, v.oneCell' = true) := by show ∀ v ∈ D9, _; rw [hE9]; exact scl_one _ _
 have HZ9 : Hid (D9.length = Z.length) := by show _ = _; rw [hE9, HZL.out]; rfl
 have HT9 : Hid ((x1.alloc (.cells Z.toArray 25)).there x1.heap.size 0 D9.toArray.size) := there_of (lb_new x1 Z _) (by simpa using HZ9.out)
 have H9 : Hid (∃ X2, X2 = (x1.alloc (.cells Z.toArray 25)).setCells x1.heap.size 0 D9 ∧ LY w (.slice (some ⟨g5, 0, none⟩) ps.length cap5) ps D x1.heap.size Q0 h9 X2) := by
  obtain ⟨q1, q2⟩ := one_boxR x1 25 Z D9 HZ9.out
  exact ⟨_, rfl, ⟨by rw [← hE9]; exact q1, (H8.out.2.2.kept b9).kept q2, (H8.out.1.kept b9).kept q2, andThen (andThen H8.out.2.1 b9) q2, (H8.out.1.kept b9).lt⟩, o9.kept q2⟩
 clear hD9 hL9 hE9 o9 b9 H8 HR0 HBE
 go_wp2_with (first | (refine wpList_alloc_Z HZ.out rfl rfl ?_) | (refine wpList_store_mid rfl 25 (.tmp 5) (.tmp 21) rfl x1.heap.size 0 D9.toArray rfl rfl HT9.out (by simpa using HL9.out) (all_oneCell_toArray H19.out) ?_; (obtain ⟨X2, hX2, hq⟩ := H9.out); (have HA : Hid (LY w (.slice (some ⟨g5, 0, none⟩) ps.length cap5) ps D x1.heap.size Q0 h9 X2) := hq); (rw [List.toList_toArray, ← hX2]); (clear hX2 hq H9 HT9)) | fail)
 clear HL9 H19 HZ9
 generalize x1.heap.size = q at HA ⊢
 go_loopw [6, 7] (fun f i wr => ∃ (n : Nat) (Q : Sg) (hq : SH), f = .int .i64 0 ∧ i = .int .i64 (n : Int) ∧ 1 ≤ n ∧ n ≤ ps.length ∧ chkS Q = true ∧ Leads Q ((storyP S).drop n) S ∧ LY w (.slice (some ⟨g5, 0, none⟩) ps.length cap5) ps D q Q hq wr) (fun _ i _ => ps.length - (intOf i).toNat)
 case atStart => exact ⟨1, Q0, h9, rfl, rfl, Nat.le_refl _, hps, HQ0.out.2.2, HQ0.out.2.1, HA.out⟩
 case round =>
  obtain ⟨n, Q, hq, rfl, rfl, hn1, hn, hQ, hle, hw⟩ := hrel
  have HW : Hid (LY w (.slice (some ⟨g5, 0, none⟩) ps.length cap5) ps D q Q hq wr) := hw
  have HQ : Hid (chkS Q = true) := hQ
  have HLE : Hid (Leads Q ((storyP S).drop n) S) := hle
  clear hw hQ hle HA HQ0
  obtain ⟨DQ, hDQ, hDQL, hDQE⟩ := sv_letter Q hq
  by_cases hlt : n < ps.length
  ·obtain ⟨r1, d1, hrd⟩ : ∃ r1 d1, ps[n] = (r1, d1) := ⟨_, _, rfl⟩
   have hdr := story_rec HPS.out n hlt
   rw [hrd] at hdr
   have hst := play_step Q S r1 _ HQ.out (by have e := HLE.out; rw [hdr] at e; exact e)
   obtain ⟨R1, hR1, hR1L, hR1E⟩ := rv_letter r1.x r1.nm d1
   have HR1L : Hid _ := hR1L
   have HDQL : Hid _ := hDQL
   have HDQE : Hid (DQ = scl Q hq) := hDQE
   have HRW : Hid (∀ wx, LYb w (.slice (some ⟨g5, 0, none⟩) ps.length cap5) ps D q Q hq wx → wx.rangeAt g5 (n * 12) R1 ∧ Bs wx d1 r1.l) := fun wx k => by
    have e := HAT.out wx k.2.1 n hlt
    rw [hrd] at e
    rw [hR1E]
    exact e
   obtain ⟨Q2, hQ2⟩ : ∃ Q2, deedS Q r1 = Q2 := ⟨_, rfl⟩
   have HCK : Hid (∀ w', Below w.heap.size w w' → Bs w' d1 r1.l → Calls Tryz.prog 75 #[.agg R1.toArray] w' fun e w'' => e = .returned (.int .i64 0) ∧ Below w'.heap.size w' w'') := fun w' hb' hd => by
    have e := refcheck_any r1.x r1.nm d1 r1.l w' hd (HTB.out w' hb').rlets (HTB.out w' hb').rows hst.2.2.2.2.2.1.c (by have := hst.2.2.2.2.1; omega)
    rw [(v3_iff r1 hst.2.1).2 hst.1, hR1] at e
    exact e
   have HRF : Hid (∀ w', Calls Tryz.prog 95 #[.agg DQ.toArray, .agg R1.toArray] w' fun e w'' => e = .returned (.int .i64 0) ∧ Below w'.heap.size w' w'') := fun w' => by
    have e := rref_any Q hq r1 d1 w' HQ.out hst.1
    rw [hst.2.2.1, hDQ, hR1] at e
    exact e
   have HLQ : Hid (∀ w', LY w (.slice (some ⟨g5, 0, none⟩) ps.length cap5) ps D q Q hq w' → Bs w' d1 r1.l → Calls Tryz.prog 96 #[.agg DQ.toArray, .agg R1.toArray] w' fun e w'' => LiPost w.heap.size Q2 w' e w'') := fun w' k' hd => by
    have e := rxlight_any Q hq r1 d1 w' w.heap.size k'.2 k'.1.2.2.2.1.size hd HQ.out hst.1 hst.2.2.1
    rw [hDQ, hR1, hQ2] at e
    exact e
   have HQ2 : Hid (chkS Q2 = true ∧ Leads Q2 ((storyP S).drop (n + 1)) S) := by
    rw [← hQ2]
    exact ⟨hst.2.2.2.1, hst.2.2.2.2.2.2⟩
   have HRWw : Hid _ := HRW.out _ HW.out.1
   clear hrd hdr hst hR1 hR1L hR1E hDQ hDQL hDQE hQ2
   go_wp2_with (first | (refine wpList_load_mid rfl 37 _ rfl g5 (n * 12) rfl R1 _ HRWw.out.1 Tryz.underlying37 rfl HR1L.out ?_) | fail)
   refine (HCK.out _ HW.out.1.2.2.2.1 HRWw.out.2).mono ?_
   rintro e y1 ⟨rfl, b1⟩
   have HY1 : Hid (LY w (.slice (some ⟨g5, 0, none⟩) ps.length cap5) ps D q Q hq y1) := HW.out.kept b1
   clear b1 HW HRWw HCK
   go_wp2
   have HV : Hid (LY w (.slice (some ⟨g5, 0, none⟩) ps.length cap5) ps D q Q hq y1.drew) := HY1.out.kept (Below.drew (Below.refl _ _))
   have HVR : Hid (y1.drew.rangeAt q 0 DQ ∧ y1.drew.rangeAt g5 (n * 12) R1) := ⟨by rw [HDQE.out]; exact HV.out.1.1.range, (HRW.out _ HV.out.1).1⟩
   clear HY1
   refine wp_region_held_drew (S := fun w' : World => w'.rangeAt q 0 DQ ∧ w'.rangeAt g5 (n * 12) R1) (by kernel_rfl) HVR.out (fun hH => ?_)
   generalize y1.drew = V1 at *
   refine zql 0 rfl (yieldsIf_load_mid (by rfl) _ _ rfl _ _ rfl DQ _ (fun w' hSw => hSw.1) Tryz.underlying25 rfl HDQL.out) hH ?_
   simp only [zq]
   refine zqk 1 rfl hH ?_
   simp only [zq]
   refine zqk 2 rfl hH ?_
   simp only [zq]
   refine zqk 3 rfl hH ?_
   simp only [zq]
   refine zql 4 rfl (yieldsIf_load_mid (by rfl) _ _ rfl _ _ rfl R1 _ (fun w' hSw => hSw.2) Tryz.underlying37 rfl HR1L.out) hH ?_
   simp only [zq]
   refine zqr 5 rfl (fun K hK => ?_)
   go_simp
   refine (HRF.out _).mono ?_
   rintro e y2 ⟨rfl, b2⟩
   have HV2 : Hid (LY w (.slice (some ⟨g5, 0, none⟩) ps.length cap5) ps D q Q hq y2) := HV.out.kept b2
   refine hK.out _ _ ⟨by rw [HDQE.out]; exact HV2.out.1.1.range, (HRW.out _ HV2.out.1).1⟩ (fun hH2 => ?_)
   clear hK K hH
   have hH := hH2
   clear hH2
   clear b2
   refine zqk 6 rfl hH ?_
   simp only [zq]
   refine wpAnyH_done (by kernel_rfl) ?_ _
   clear hH HV HVR HRF
   go_wp2
   have HV3 : Hid (LY w (.slice (some ⟨g5, 0, none⟩) ps.length cap5) ps D q Q hq y2.drew) := HV2.out.kept (Below.drew (Below.refl _ _))
   have HVR3 : Hid (y2.drew.rangeAt g5 (n * 12) R1 ∧ Bs y2.drew d1 r1.l) := HRW.out _ HV3.out.1
   clear HV2
   refine wp_region_held_drew (S := fun w' : World => w'.rangeAt g5 (n * 12) R1) (by kernel_rfl) HVR3.out.1 (fun hH => ?_)
   generalize y2.drew = V2 at *
   refine zqk 1 rfl hH ?_
   simp only [zq]
   refine zqk 2 rfl hH ?_
   simp only [zq]
   refine zqk 3 rfl hH ?_
   simp only [zq]
   refine zql 4 rfl (yieldsIf_load_mid (by rfl) _ _ rfl _ _ rfl R1 _ (fun w' hSw => hSw) Tryz.underlying37 rfl HR1L.out) hH ?_
   simp only [zq]
   refine zqr 0 rfl (fun K hK => ?_)
   refine step_load rfl 25 _ rfl q 0 rfl DQ _ (by rw [HDQE.out]; exact HV3.out.1.1.range) Tryz.underlying25 rfl HDQL.out ?_
   refine hK.out _ _ HVR3.out.1 (fun hH2 => ?_)
   clear hK K hH
   have hH := hH2
   clear hH2
   simp only [zq]
   refine zqr 5 rfl (fun K hK => ?_)
   go_simp
   refine (HLQ.out _ HV3.out HVR3.out.2).mono ?_
   rintro e x2 ⟨h2, rfl, o2, b2, f2⟩
   have HV4 : Hid (LYb w (.slice (some ⟨g5, 0, none⟩) ps.length cap5) ps D q Q hq x2) := HV3.out.1.light b2 f2
   have HP : Hid (LY w (.slice (some ⟨g5, 0, none⟩) ps.length cap5) ps D q Q2 h2 (x2.setCells q 0 (scl Q2 h2))) := HV4.out.put o2
   have HPR : Hid ((x2.setCells q 0 (scl Q2 h2)).rangeAt g5 (n * 12) R1) := by
    obtain ⟨q1, _⟩ := HRW.out _ HV4.out
    intro j u hu
    have hne : g5 ≠ q := by
     rintro rfl
     obtain ⟨cs, z, h8⟩ := rrow_typed HV4.out.2.1.1 g5 rfl
     rw [HV4.out.1] at h8
     simp at h8
    have h9 := q1 j u hu
    rw [← h9]
    exact World.cell?_of_block (cells_other q _ 0 x2 g5 hne)
   obtain ⟨D2, hD2, hL2, hE2⟩ := sv_letter Q2 h2
   rw [hD2]
   have HL2x : Hid _ := hL2
   have HE2x : Hid (D2 = scl Q2 h2) := hE2
   have H12 : Hid (∀ v ∈ D2, v.oneCell' = true) := by show ∀ v ∈ D2, _; rw [hE2]; exact scl_one _ _
   have HT2 : Hid (x2.there q 0 D2.toArray.size) := there_of HV4.out.1 (by rw [hE2]; rfl)
   clear hD2 hL2 hE2 o2
   refine hK.out _ _ (HRW.out _ HV4.out).1 (fun hH2 => ?_)
   clear hK K hH
   have hH := hH2
   clear hH2
   clear b2 f2
   refine zqr 6 rfl (fun K hK => ?_)
   refine step_storeX rfl 25 (.tmp 5) (.tmp 54) rfl q 0 D2.toArray rfl rfl HT2.out (by simpa using HL2x.out) (all_oneCell_toArray H12.out) ?_
   rw [List.toList_toArray, HE2x.out]
   refine hK.out _ _ HPR.out (fun hH2 => ?_)
   clear hK K hH
   have hH := hH2
   clear hH2
   simp only [Act.put, zq4, zq5, zq6]
   refine wpAnyH_done (by kernel_rfl) ?_ _
   clear hH HV3 HVR3 HV4 HLQ HRW HT2 HPR
   go_wp2
   go_roundw
   case rel => exact ⟨n + 1, Q2, h2, rfl, by go_num, by omega, by omega, HQ2.out.1, HQ2.out.2, HP.out⟩
   case measure => simp [intOf]; omega
  ·obtain rfl : n = ps.length := by omega
   have hend : (storyP S).drop ps.length = [] := by rw [← HPS.out]; simp
   have hQS : Q = S := by have e := HLE.out; rw [hend] at e; exact e
   subst hQS
   have HSMq : Hid (∀ w', Below w.heap.size w w' → SgO 0 w' Q hq → Calls Tryz.prog 25 #[.agg DQ.toArray, .agg D.toArray] w' fun e w'' => e = .returned (.bool true) ∧ Below w'.heap.size w' w'') := fun w' hb' k' => HSM.out hq DQ w' hDQ hb' k'
   have HDQw : Hid (wr.rangeAt q 0 DQ) := by show wr.rangeAt q 0 DQ; rw [hDQE]; exact HW.out.1.1.range
   have HDQL : Hid _ := hDQL
   clear HLE hend HPS HAT hDQ hDQL hDQE
   go_wp2_with (first | (refine wpList_load_mid rfl 25 _ rfl q 0 rfl DQ _ HDQw.out Tryz.underlying25 rfl HDQL.out ?_) | (refine wpList_load_mid rfl 25 _ rfl w.heap.size 0 rfl D _ HW.out.1.2.2.1.range Tryz.underlying25 rfl HL.out ?_) | fail)
   refine (HSMq.out _ HW.out.1.2.2.2.1 HW.out.at).mono ?_
   rintro e y1 ⟨rfl, b1⟩
   have H7 : Hid (Below w.heap.size w y1) := andThen HW.out.1.2.2.2.1 b1
   clear b1
   go_wp2
   go_ret
   exact ⟨rfl, H7.out⟩
end Go.Proofs.YtabdfafffjgfiaaGreatDoor
