import Derived.Laws.AppendOwnNone
import Derived.Deep.RegionWith
import Derived.Deep.CutRange
import Derived.RegionTactic
import Derived.Test.YtgmkjcfdpiinpaaGreatDoorVS6
set_option maxRecDepth 100000
set_option maxHeartbeats 2000000
namespace Go.Proofs.YtgmkjcfdpiinpaaGreatDoor
open Go Go.RowKit
open Wb

theorem cloneAll_any (v : Value) (ls : List (List Nat)) (w : World) (k : Ps w v ls) (hn : ls.length ≤ 5000000000) (hl : ∀ l ∈ ls, l.length ≤ 140737488355000) :
  Calls Tryz.prog 60 #[v] w fun e w' => ∃ v', e = .returned v' ∧ OwnP w.heap.size w' v' ls ∧ Below w.heap.size w w' := by
 have HIN : Hid ((Tryz.prog.info? 26).map (fun i => (i.zero, i.size, i.bytes)) = some (some (.slice none 0 0), 1, 24)) := info22
 have HK : Hid (∀ w', Below w.heap.size w w' → Ps w' v ls) := fun w' hb => k.kept hb
 obtain ⟨ao, cap, rfl, hm, hc⟩ := k.shape
 clear k hc hm
 go_enter Tryz.func60, Tryz.ntmps60
 generalize hnl : Value.slice none 0 0 = nl
 have HNL : Hid (Value.slice none 0 0 = nl) := hnl
 clear hnl
 go_wp2
 go_loopw [3, 5, 8] (fun o _ i wr => ∃ k : Nat, k ≤ ls.length ∧ i = .int .i64 (k : Int) ∧ OwnP w.heap.size wr o (ls.take k) ∧ Below w.heap.size w wr) (fun _ _ i _ => ls.length - (intOf i).toNat)
 case atStart => exact ⟨0, Nat.zero_le _, rfl, by rw [← HNL.out, List.take_zero]; exact OwnP.nil _ _, Below.refl _ _⟩
 case round =>
  obtain ⟨k, hk, rfl, ho, hbel⟩ := hrel
  by_cases hlt : k < ls.length
  ·obtain ⟨ao2, cap2, e2, _, hc⟩ := (HK.out _ hbel).shape
   obtain ⟨b, off, rfl, hcell⟩ := hc (List.ne_nil_of_length_pos (by omega))
   simp only [Value.slice.injEq, true_and] at e2
   obtain ⟨rfl, -⟩ := e2
   obtain ⟨vj, h1, h2⟩ := hcell k hlt
   have hlk : ls[k].length ≤ 140737488355000 := hl _ (List.getElem_mem hlt)
   have HT : Hid (ls.take (k + 1) = ls.take k ++ [ls[k]]) := List.take_succ_eq_append_getElem hlt
   have HOP : Hid (∃ vs : List Value, Row w.heap.size wr u3 vs ∧ vs.length = (ls.take k).length ∧ ∀ j (h : j < vs.length) (h2 : j < (ls.take k).length), Own w.heap.size wr vs[j] (ls.take k)[j]) := ho
   obtain ⟨ak, ck, rfl, _⟩ := h2.shape
   have HB2 : Hid (Bs wr (.slice ak ls[k].length ck) ls[k]) := h2
   have HBEL : Hid (Below w.heap.size w wr) := hbel
   clear h2 hcell hc ho hbel
   generalize ls[k] = y at *
   go_wp2_with fail
   refine (bclone_any _ y _ HB2.out hlk).mono ?_
   rintro e w1 ⟨v1, rfl, ho1, b1⟩
   obtain ⟨a1, c1, rfl, _⟩ := ho1.bs.shape
   obtain ⟨vs, hr, hvl, hve⟩ := HOP.out
   have HR : Hid (Row w.heap.size (w1.alloc (.cells #[.slice a1 y.length c1] 26)) u3 vs) := (hr.kept b1).kept (up0 _ _)
   have HE : Hid (∀ j (h : j < vs.length) (h2 : j < (ls.take k).length), Own w.heap.size (w1.alloc (.cells #[.slice a1 y.length c1] 26)) vs[j] (ls.take k)[j]) := fun j h h2 => ((hve j h h2).kept b1).alloc _
   have HU : Hid (Own w.heap.size (w1.alloc (.cells #[.slice a1 y.length c1] 26)) (.slice a1 y.length c1) y) := (own_weak ho1 HBEL.out.size).alloc _
   have HBW : Hid (Below w.heap.size w (w1.alloc (.cells #[.slice a1 y.length c1] 26))) := up (andThen HBEL.out b1) _
   have HCE : Hid ((w1.alloc (.cells #[.slice a1 y.length c1] 26)).cell? ⟨w1.heap.size, 0, none⟩ = some (.slice a1 y.length c1)) := by
    show _ = _
    rw [World.cell?_alloc_new]; rfl
   have hvn : vs.length ≤ 5000000000 := by rw [hvl]; simp; omega
   have HVL : Hid (vs.length = (ls.take k).length) := hvl
   clear hr hve hvl ho1 b1 HB2 HOP hlk
   go_wp2_with (at_builtin; refine wpList_push _ rfl (.tmp 12) (.tmp 15) 29 rfl w.heap.size HIN.out Tryz.underlying29 _ vs rfl HR.out w1.heap.size (.slice a1 y.length c1) rfl HCE.out rfl hvn HBW.out.size ?_)
   intro v' w' hrow hb' hg
   have HN : Hid (OwnP w.heap.size w' v' (ls.take (k + 1)) ∧ Below w.heap.size w w') := by
    refine ⟨?_, HBW.out.trans hb'⟩
    rw [HT.out]
    exact OwnP.push HR.out HVL.out HE.out HU.out hrow hg
   clear hrow hb' hg HR HE HU HBW HCE HVL hvn HT HBEL
   go_wp2
   go_roundw
   case rel => exact ⟨k + 1, by omega, by go_num, HN.out.1, HN.out.2⟩
   case measure => simp [intOf]; omega
  ·obtain rfl : k = ls.length := by omega
   have HN : Hid (OwnP w.heap.size wr u3 ls ∧ Below w.heap.size w wr) := ⟨by rw [List.take_length] at ho; exact ho, hbel⟩
   clear ho hbel
   go_wp2
   go_ret
   exact ⟨_, rfl, HN.out.1, HN.out.2⟩
theorem sclone_any (S : Sg) (h : SH) (w : World) (k : SgAt w S h) (hl : Light S) :
  Calls Tryz.prog 32 #[sv S h] w fun e w' => ∃ h', e = .returned (sv S h') ∧ SgOwn w.heap.size w' S h' ∧ Below w.heap.size w w' := by
 have HK : Hid (∀ w', Below w.heap.size w w' → SgAt w' S h) := fun w' hb => k.kept hb
 have HCI : Hid (∀ w', Below w.heap.size w w' → Calls Tryz.prog 47 #[.slice h.ai S.inp.length h.ci] w' fun e w'' => ∃ a, ∃ c : Nat, e = .returned (.slice a S.inp.length c) ∧ Own w'.heap.size w'' (.slice a S.inp.length c) S.inp ∧ Below w'.heap.size w' w'') := fun w' hb => (bclone_any _ S.inp w' (k.kept hb).inp hl.inp).mono fun e w'' ⟨v, he, ho, hb'⟩ => by
  obtain ⟨a, c, rfl, _⟩ := ho.bs.shape
  exact ⟨a, c, he, ho, hb'⟩
 have HCF : Hid (∀ w', Below w.heap.size w w' → Calls Tryz.prog 47 #[.slice h.af S.fail.length h.cf] w' fun e w'' => ∃ a, ∃ c : Nat, e = .returned (.slice a S.fail.length c) ∧ Own w'.heap.size w'' (.slice a S.fail.length c) S.fail ∧ Below w'.heap.size w' w'') := fun w' hb => (bclone_any _ S.fail w' (k.kept hb).fail hl.fail).mono fun e w'' ⟨v, he, ho, hb'⟩ => by
  obtain ⟨a, c, rfl, _⟩ := ho.bs.shape
  exact ⟨a, c, he, ho, hb'⟩
 have HCO : Hid (∀ w', Below w.heap.size w w' → Calls Tryz.prog 60 #[.slice h.ao S.outs.length h.co] w' fun e w'' => ∃ a, ∃ c : Nat, e = .returned (.slice a S.outs.length c) ∧ OwnP w'.heap.size w'' (.slice a S.outs.length c) S.outs ∧ Below w'.heap.size w' w'') := fun w' hb => (cloneAll_any _ S.outs w' (k.kept hb).outs hl.outs hl.eachO).mono fun e w'' ⟨v, he, ho, hb'⟩ => by
  obtain ⟨a, c, rfl⟩ := ho.shape
  exact ⟨a, c, he, ho, hb'⟩
 have HCU : Hid (∀ w', Below w.heap.size w w' → Calls Tryz.prog 60 #[.slice h.au S.und.length h.cu] w' fun e w'' => ∃ a, ∃ c : Nat, e = .returned (.slice a S.und.length c) ∧ OwnP w'.heap.size w'' (.slice a S.und.length c) S.und ∧ Below w'.heap.size w' w'') := fun w' hb => (cloneAll_any _ S.und w' (k.kept hb).und hl.und hl.eachU).mono fun e w'' ⟨v, he, ho, hb'⟩ => by
  obtain ⟨a, c, rfl⟩ := ho.shape
  exact ⟨a, c, he, ho, hb'⟩
 clear k hl
 obtain ⟨D, hD, hL, hE⟩ := sv_letter S h
 rw [hD]
 have HL : Hid _ := hL
 have HE : Hid (D = scl S h) := hE
 have HX : Hid (∀ t t2, LB ((w.alloc (.cells D.toArray t)).alloc (.cells zcl.toArray t2)) w.heap.size t D ∧ LB ((w.alloc (.cells D.toArray t)).alloc (.cells zcl.toArray t2)) (w.heap.size + 1) t2 zcl ∧ Below w.heap.size w ((w.alloc (.cells D.toArray t)).alloc (.cells zcl.toArray t2))) := fun t t2 => lb_new2 w D zcl t t2
 clear hD hL hE
 go_enter Tryz.func32, Tryz.ntmps32
 go_wp2
 have HW : Hid _ := HX.out 31 31
 unfold zcl at HW
 clear HX
 generalize (w.alloc (.cells D.toArray 31)).alloc _ = W0 at HW ⊢
 obtain ⟨L1, L2, B0⟩ := HW.out
 clear HW
 have H0 : Hid (LB W0 w.heap.size 31 D ∧ LB W0 (w.heap.size + 1) 31 zcl ∧ Below w.heap.size w W0) := ⟨L1, L2, B0⟩
 go_cut [5, 8] from 3 to 10 (fun s1 s2 wx => ∃ a1 c1 a2 c2, s1 = .slice a1 S.inp.length c1 ∧ s2 = .slice a2 S.fail.length c2 ∧ LB wx w.heap.size 31 ((D.set 6 s1).set 15 s2) ∧ LB wx (w.heap.size + 1) 31 zcl ∧ Own (w.heap.size + 2) wx s1 S.inp ∧ Own (w.heap.size + 2) wx s2 S.fail ∧ Below w.heap.size w wx)
 case first =>
  have FIN : Hid (∀ (a1 : Option Addr) (c1 : Nat) (a2 : Option Addr) (c2 : Nat) (w2 : World), (LB w2 w.heap.size 31 D ∧ LB w2 (w.heap.size + 1) 31 zcl ∧ Below w.heap.size w w2) → (Own (w.heap.size + 2) w2 (.slice a1 S.inp.length c1) S.inp ∧ Own (w.heap.size + 2) w2 (.slice a2 S.fail.length c2) S.fail) →
    ∃ b1 d1 b2 d2, Value.slice a1 S.inp.length c1 = .slice b1 S.inp.length d1 ∧ Value.slice a2 S.fail.length c2 = .slice b2 S.fail.length d2 ∧ LB ((w2.setCell ⟨w.heap.size, 6, none⟩ (.slice a1 S.inp.length c1)).setCell ⟨w.heap.size, 15, none⟩ (.slice a2 S.fail.length c2)) w.heap.size 31 ((D.set 6 (.slice a1 S.inp.length c1)).set 15 (.slice a2 S.fail.length c2)) ∧ LB ((w2.setCell ⟨w.heap.size, 6, none⟩ (.slice a1 S.inp.length c1)).setCell ⟨w.heap.size, 15, none⟩ (.slice a2 S.fail.length c2)) (w.heap.size + 1) 31 zcl ∧ Own (w.heap.size + 2) ((w2.setCell ⟨w.heap.size, 6, none⟩ (.slice a1 S.inp.length c1)).setCell ⟨w.heap.size, 15, none⟩ (.slice a2 S.fail.length c2)) (.slice a1 S.inp.length c1) S.inp ∧ Own (w.heap.size + 2) ((w2.setCell ⟨w.heap.size, 6, none⟩ (.slice a1 S.inp.length c1)).setCell ⟨w.heap.size, 15, none⟩ (.slice a2 S.fail.length c2)) (.slice a2 S.fail.length c2) S.fail ∧ Below w.heap.size w ((w2.setCell ⟨w.heap.size, 6, none⟩ (.slice a1 S.inp.length c1)).setCell ⟨w.heap.size, 15, none⟩ (.slice a2 S.fail.length c2))) :=
   fun a1 c1 a2 c2 w2 ⟨x1, x2, x3⟩ ⟨y1, y2⟩ => ⟨a1, c1, a2, c2, rfl, rfl, (x1.set _ _).set _ _, (x2.other _ _ (show w.heap.size + 1 ≠ w.heap.size by omega)).other _ _ (show w.heap.size + 1 ≠ w.heap.size by omega), own_set (own_set y1 _ _ (show w.heap.size < w.heap.size + 2 by omega)) _ _ (show w.heap.size < w.heap.size + 2 by omega), own_set (own_set y2 _ _ (show w.heap.size < w.heap.size + 2 by omega)) _ _ (show w.heap.size < w.heap.size + 2 by omega), Below.setCell (Below.setCell x3 (Nat.le_refl _) _) (Nat.le_refl _) _⟩
  refine wp_region_held_drew (S := fun _ => True) (by kernel_rfl) trivial (fun hH => ?_)
  have H1 : Hid (LB W0.drew w.heap.size 31 D ∧ LB W0.drew (w.heap.size + 1) 31 zcl ∧ Below w.heap.size w W0.drew) := ⟨L1.kept (Below.drew (Below.refl _ _)), L2.kept (Below.drew (Below.refl _ _)), Below.drew B0⟩
  generalize W0.drew = W1 at *
  have cA := H1.out.1.cell 6 (.slice h.ai S.inp.length h.ci) (by rw [HE.out]; rfl)
  have cB := H1.out.1.cell 15 (.slice h.af S.fail.length h.cf) (by rw [HE.out]; rfl)
  refine zqk 0 rfl hH ?_
  simp only [zq]
  refine zqk 3 rfl hH ?_
  simp only [zq]
  refine wpAnyH_ready (rs := [1, 4]) (by kernel_rfl) (by simp) ?_
  refine AllReadyH.cons rfl (fun K hK => ?_) ?_
  ·skip
   go_simp
   refine hK.out _ _ trivial (fun _ => ?_)
   clear hK K
   refine wpAnyH_ready (rs := [2, 4]) (by kernel_rfl) (by simp) ?_
   refine AllReadyH.cons rfl (fun K hK => ?_) ?_
   ·skip
    go_simp
    refine (HCI.out _ H1.out.2.2).mono ?_
    rintro e w1 ⟨a1, c1, rfl, o1, b1⟩
    have H2 : Hid (LB w1 w.heap.size 31 D ∧ LB w1 (w.heap.size + 1) 31 zcl ∧ Below w.heap.size w w1) := ⟨H1.out.1.kept b1, H1.out.2.1.kept b1, andThen H1.out.2.2 b1⟩
    have HO1 : Hid (Own (w.heap.size + 2) w1 (.slice a1 S.inp.length c1) S.inp) := own_weak o1 H1.out.2.1.lt
    have cB := H2.out.1.cell 15 (.slice h.af S.fail.length h.cf) (by rw [HE.out]; rfl)
    refine hK.out _ _ trivial (fun _ => ?_)
    clear hK K cA o1
    refine zqr 4 rfl (fun K hK => ?_)
    go_simp
    refine hK.out _ _ trivial (fun _ => ?_)
    clear hK K
    refine zqk 6 rfl hH ?_
    simp only [zq]
    refine zqr 5 rfl (fun K hK => ?_)
    go_simp
    refine (HCF.out _ H2.out.2.2).mono ?_
    rintro e w2 ⟨a2, c2, rfl, o2, b2⟩
    have H3 : Hid (LB w2 w.heap.size 31 D ∧ LB w2 (w.heap.size + 1) 31 zcl ∧ Below w.heap.size w w2) := ⟨H2.out.1.kept b2, H2.out.2.1.kept b2, andThen H2.out.2.2 b2⟩
    have HO2 : Hid (Own (w.heap.size + 2) w2 (.slice a1 S.inp.length c1) S.inp ∧ Own (w.heap.size + 2) w2 (.slice a2 S.fail.length c2) S.fail) := ⟨HO1.out.kept b2, own_weak o2 (Nat.le_trans H2.out.2.1.lt (Nat.le_refl _))⟩
    have cA := H3.out.1.cell 6 (.slice h.ai S.inp.length h.ci) (by rw [HE.out]; rfl)
    have cB2 := H3.out.1.cell 15 (.slice h.af S.fail.length h.cf) (by rw [HE.out]; rfl)
    have fA := H3.out.1.free 6
    have fB := H3.out.1.free 15
    refine hK.out _ _ trivial (fun _ => ?_)
    clear hK K
    refine zqr 7 rfl (fun K hK => ?_)
    go_simp
    refine hK.out _ _ trivial (fun _ => ?_)
    clear hK K
    refine zqk 8 rfl hH ?_
    simp only [zq]
    refine zqr 9 rfl (fun K hK => ?_)
    go_simp
    refine hK.out _ _ trivial (fun _ => ?_)
    clear hK K
    refine wpAnyH_done (by kernel_rfl) ?_ _
    go_wp2_with fail
    go_meet
    exact FIN.out a1 c1 a2 c2 w2 H3.out HO2.out
   ·refine AllReadyH.cons rfl (fun K hK => ?_) AllReadyH.nil
    go_simp
    refine hK.out _ _ trivial (fun _ => ?_)
    clear hK K
    refine zqr 2 rfl (fun K hK => ?_)
    go_simp
    refine (HCI.out _ H1.out.2.2).mono ?_
    rintro e w1 ⟨a1, c1, rfl, o1, b1⟩
    have H2 : Hid (LB w1 w.heap.size 31 D ∧ LB w1 (w.heap.size + 1) 31 zcl ∧ Below w.heap.size w w1) := ⟨H1.out.1.kept b1, H1.out.2.1.kept b1, andThen H1.out.2.2 b1⟩
    have HO1 : Hid (Own (w.heap.size + 2) w1 (.slice a1 S.inp.length c1) S.inp) := own_weak o1 H1.out.2.1.lt
    have cB := H2.out.1.cell 15 (.slice h.af S.fail.length h.cf) (by rw [HE.out]; rfl)
    refine hK.out _ _ trivial (fun _ => ?_)
    clear hK K cA o1
    refine zqk 6 rfl hH ?_
    simp only [zq]
    refine zqr 5 rfl (fun K hK => ?_)
    go_simp
    refine (HCF.out _ H2.out.2.2).mono ?_
    rintro e w2 ⟨a2, c2, rfl, o2, b2⟩
    have H3 : Hid (LB w2 w.heap.size 31 D ∧ LB w2 (w.heap.size + 1) 31 zcl ∧ Below w.heap.size w w2) := ⟨H2.out.1.kept b2, H2.out.2.1.kept b2, andThen H2.out.2.2 b2⟩
    have HO2 : Hid (Own (w.heap.size + 2) w2 (.slice a1 S.inp.length c1) S.inp ∧ Own (w.heap.size + 2) w2 (.slice a2 S.fail.length c2) S.fail) := ⟨HO1.out.kept b2, own_weak o2 (Nat.le_trans H2.out.2.1.lt (Nat.le_refl _))⟩
    have cA := H3.out.1.cell 6 (.slice h.ai S.inp.length h.ci) (by rw [HE.out]; rfl)
    have cB2 := H3.out.1.cell 15 (.slice h.af S.fail.length h.cf) (by rw [HE.out]; rfl)
    have fA := H3.out.1.free 6
    have fB := H3.out.1.free 15
    refine hK.out _ _ trivial (fun _ => ?_)
    clear hK K
    refine zqr 7 rfl (fun K hK => ?_)
    go_simp
    refine hK.out _ _ trivial (fun _ => ?_)
    clear hK K
    refine zqk 8 rfl hH ?_
    simp only [zq]
    refine zqr 9 rfl (fun K hK => ?_)
    go_simp
    refine hK.out _ _ trivial (fun _ => ?_)
    clear hK K
    refine wpAnyH_done (by kernel_rfl) ?_ _
    go_wp2_with fail
    go_meet
    exact FIN.out a1 c1 a2 c2 w2 H3.out HO2.out
  ·refine AllReadyH.cons rfl (fun K hK => ?_) AllReadyH.nil
   go_simp
   refine hK.out _ _ trivial (fun _ => ?_)
   clear hK K
   refine zqr 1 rfl (fun K hK => ?_)
   go_simp
   refine hK.out _ _ trivial (fun _ => ?_)
   clear hK K
   refine zqr 2 rfl (fun K hK => ?_)
   go_simp
   refine (HCI.out _ H1.out.2.2).mono ?_
   rintro e w1 ⟨a1, c1, rfl, o1, b1⟩
   have H2 : Hid (LB w1 w.heap.size 31 D ∧ LB w1 (w.heap.size + 1) 31 zcl ∧ Below w.heap.size w w1) := ⟨H1.out.1.kept b1, H1.out.2.1.kept b1, andThen H1.out.2.2 b1⟩
   have HO1 : Hid (Own (w.heap.size + 2) w1 (.slice a1 S.inp.length c1) S.inp) := own_weak o1 H1.out.2.1.lt
   have cB := H2.out.1.cell 15 (.slice h.af S.fail.length h.cf) (by rw [HE.out]; rfl)
   refine hK.out _ _ trivial (fun _ => ?_)
   clear hK K cA o1
   refine zqk 6 rfl hH ?_
   simp only [zq]
   refine zqr 5 rfl (fun K hK => ?_)
   go_simp
   refine (HCF.out _ H2.out.2.2).mono ?_
   rintro e w2 ⟨a2, c2, rfl, o2, b2⟩
   have H3 : Hid (LB w2 w.heap.size 31 D ∧ LB w2 (w.heap.size + 1) 31 zcl ∧ Below w.heap.size w w2) := ⟨H2.out.1.kept b2, H2.out.2.1.kept b2, andThen H2.out.2.2 b2⟩
   have HO2 : Hid (Own (w.heap.size + 2) w2 (.slice a1 S.inp.length c1) S.inp ∧ Own (w.heap.size + 2) w2 (.slice a2 S.fail.length c2) S.fail) := ⟨HO1.out.kept b2, own_weak o2 (Nat.le_trans H2.out.2.1.lt (Nat.le_refl _))⟩
   have cA := H3.out.1.cell 6 (.slice h.ai S.inp.length h.ci) (by rw [HE.out]; rfl)
   have cB2 := H3.out.1.cell 15 (.slice h.af S.fail.length h.cf) (by rw [HE.out]; rfl)
   have fA := H3.out.1.free 6
   have fB := H3.out.1.free 15
   refine hK.out _ _ trivial (fun _ => ?_)
   clear hK K
   refine zqr 7 rfl (fun K hK => ?_)
   go_simp
   refine hK.out _ _ trivial (fun _ => ?_)
   clear hK K
   refine zqk 8 rfl hH ?_
   simp only [zq]
   refine zqr 9 rfl (fun K hK => ?_)
   go_simp
   refine hK.out _ _ trivial (fun _ => ?_)
   clear hK K
   refine wpAnyH_done (by kernel_rfl) ?_ _
   go_wp2_with fail
   go_meet
   exact FIN.out a1 c1 a2 c2 w2 H3.out HO2.out
 case rest =>
  obtain ⟨ai, ci, af, cf, rfl, rfl, l1, l2, oi, of1, b⟩ := hcut
  obtain ⟨D2, hD2⟩ : ∃ D2, (D.set 6 (.slice ai S.inp.length ci)).set 15 (.slice af S.fail.length cf) = D2 := ⟨_, rfl⟩
  rw [hD2] at l1
  have HE2 : Hid (D2 = scl S ⟨ai, ci, h.ao, h.co, h.au, h.cu, af, cf⟩) := by show _ = _; rw [← hD2, HE.out]; rfl
  clear hD2 H0 L1 L2 B0 HCI HCF HK
  generalize wc = W2 at *
  go_wp2
  go_cut [13, 16] from 11 to 18 (fun s1 s2 wx => ∃ a1 c1 a2 c2, s1 = .slice a1 S.outs.length c1 ∧ s2 = .slice a2 S.und.length c2 ∧ LB wx w.heap.size 31 ((D2.set 11 s1).set 12 s2) ∧ LB wx (w.heap.size + 1) 31 zcl ∧ Own (w.heap.size + 2) wx (.slice ai S.inp.length ci) S.inp ∧ Own (w.heap.size + 2) wx (.slice af S.fail.length cf) S.fail ∧ OwnP (w.heap.size + 2) wx s1 S.outs ∧ OwnP (w.heap.size + 2) wx s2 S.und ∧ (∀ g, s1.ownBlock = some g → s2.ownBlock ≠ some g) ∧ Below w.heap.size w wx)
  case first =>
   have FIN : Hid (∀ (a1 : Option Addr) (c1 : Nat) (a2 : Option Addr) (c2 : Nat) (w2 : World), (LB w2 w.heap.size 31 D2 ∧ LB w2 (w.heap.size + 1) 31 zcl ∧ Own (w.heap.size + 2) w2 (.slice ai S.inp.length ci) S.inp ∧ Own (w.heap.size + 2) w2 (.slice af S.fail.length cf) S.fail ∧ Below w.heap.size w w2) → (OwnP (w.heap.size + 2) w2 (.slice a1 S.outs.length c1) S.outs ∧ OwnP (w.heap.size + 2) w2 (.slice a2 S.und.length c2) S.und ∧ ∀ g, (Value.slice a1 S.outs.length c1).ownBlock = some g → (Value.slice a2 S.und.length c2).ownBlock ≠ some g) → ∃ b1 d1 b2 d2, Value.slice a1 S.outs.length c1 = .slice b1 S.outs.length d1 ∧ Value.slice a2 S.und.length c2 = .slice b2 S.und.length d2 ∧ LB ((w2.setCell ⟨w.heap.size, 11, none⟩ (.slice a1 S.outs.length c1)).setCell ⟨w.heap.size, 12, none⟩ (.slice a2 S.und.length c2)) w.heap.size 31 ((D2.set 11 (Value.slice a1 S.outs.length c1)).set 12 (Value.slice a2 S.und.length c2)) ∧ LB ((w2.setCell ⟨w.heap.size, 11, none⟩ (.slice a1 S.outs.length c1)).setCell ⟨w.heap.size, 12, none⟩ (.slice a2 S.und.length c2)) (w.heap.size + 1) 31 zcl ∧ Own (w.heap.size + 2) ((w2.setCell ⟨w.heap.size, 11, none⟩ (.slice a1 S.outs.length c1)).setCell ⟨w.heap.size, 12, none⟩ (.slice a2 S.und.length c2)) (.slice ai S.inp.length ci) S.inp ∧ Own (w.heap.size + 2) ((w2.setCell ⟨w.heap.size, 11, none⟩ (.slice a1 S.outs.length c1)).setCell ⟨w.heap.size, 12, none⟩ (.slice a2 S.und.length c2)) (.slice af S.fail.length cf) S.fail ∧ OwnP (w.heap.size + 2) ((w2.setCell ⟨w.heap.size, 11, none⟩ (.slice a1 S.outs.length c1)).setCell ⟨w.heap.size, 12, none⟩ (.slice a2 S.und.length c2)) (Value.slice a1 S.outs.length c1) S.outs ∧ OwnP (w.heap.size + 2) ((w2.setCell ⟨w.heap.size, 11, none⟩ (.slice a1 S.outs.length c1)).setCell ⟨w.heap.size, 12, none⟩ (.slice a2 S.und.length c2)) (Value.slice a2 S.und.length c2) S.und ∧ (∀ g, (Value.slice a1 S.outs.length c1).ownBlock = some g → (Value.slice a2 S.und.length c2).ownBlock ≠ some g) ∧ Below w.heap.size w ((w2.setCell ⟨w.heap.size, 11, none⟩ (.slice a1 S.outs.length c1)).setCell ⟨w.heap.size, 12, none⟩ (.slice a2 S.und.length c2))) :=
    fun a1 c1 a2 c2 w2 ⟨x1, x2, x3, x4, x5⟩ ⟨y1, y2, y3⟩ => ⟨a1, c1, a2, c2, rfl, rfl, (x1.set _ _).set _ _, (x2.other _ _ (show w.heap.size + 1 ≠ w.heap.size by omega)).other _ _ (show w.heap.size + 1 ≠ w.heap.size by omega), own_set (own_set x3 _ _ (show w.heap.size < w.heap.size + 2 by omega)) _ _ (show w.heap.size < w.heap.size + 2 by omega), own_set (own_set x4 _ _ (show w.heap.size < w.heap.size + 2 by omega)) _ _ (show w.heap.size < w.heap.size + 2 by omega), (y1.setB _ _ (show w.heap.size < w.heap.size + 2 by omega)).setB _ _ (show w.heap.size < w.heap.size + 2 by omega), (y2.setB _ _ (show w.heap.size < w.heap.size + 2 by omega)).setB _ _ (show w.heap.size < w.heap.size + 2 by omega), y3, Below.setCell (Below.setCell x5 (Nat.le_refl _) _) (Nat.le_refl _) _⟩
   refine wp_region_held_drew (S := fun _ => True) (by kernel_rfl) trivial (fun hH => ?_)
   have H1 : Hid (LB W2.drew w.heap.size 31 D2 ∧ LB W2.drew (w.heap.size + 1) 31 zcl ∧ Own (w.heap.size + 2) W2.drew (.slice ai S.inp.length ci) S.inp ∧ Own (w.heap.size + 2) W2.drew (.slice af S.fail.length cf) S.fail ∧ Below w.heap.size w W2.drew) := ⟨l1.kept (Below.drew (Below.refl _ _)), l2.kept (Below.drew (Below.refl _ _)), oi.kept (Below.drew (Below.refl _ _)), of1.kept (Below.drew (Below.refl _ _)), Below.drew b⟩
   generalize W2.drew = W1 at *
   have cA := H1.out.1.cell 11 (.slice h.ao S.outs.length h.co) (by rw [HE2.out]; rfl)
   have cB := H1.out.1.cell 12 (.slice h.au S.und.length h.cu) (by rw [HE2.out]; rfl)
   refine zqk 0 rfl hH ?_
   simp only [zq]
   refine zqk 3 rfl hH ?_
   simp only [zq]
   refine wpAnyH_ready (rs := [1, 4]) (by kernel_rfl) (by simp) ?_
   refine AllReadyH.cons rfl (fun K hK => ?_) ?_
   ·skip
    go_simp
    refine hK.out _ _ trivial (fun _ => ?_)
    clear hK K
    refine wpAnyH_ready (rs := [2, 4]) (by kernel_rfl) (by simp) ?_
    refine AllReadyH.cons rfl (fun K hK => ?_) ?_
    ·skip
     go_simp
     refine (HCO.out _ H1.out.2.2.2.2).mono ?_
     rintro e w1 ⟨a1, c1, rfl, o1, b1⟩
     have H2 : Hid (LB w1 w.heap.size 31 D2 ∧ LB w1 (w.heap.size + 1) 31 zcl ∧ Own (w.heap.size + 2) w1 (.slice ai S.inp.length ci) S.inp ∧ Own (w.heap.size + 2) w1 (.slice af S.fail.length cf) S.fail ∧ Below w.heap.size w w1) := ⟨H1.out.1.kept b1, H1.out.2.1.kept b1, H1.out.2.2.1.kept b1, H1.out.2.2.2.1.kept b1, andThen H1.out.2.2.2.2 b1⟩
     have HO1 : Hid (OwnP (w.heap.size + 2) w1 (.slice a1 S.outs.length c1) S.outs) := OwnP.weak o1 H1.out.2.1.lt
     have cB := H2.out.1.cell 12 (.slice h.au S.und.length h.cu) (by rw [HE2.out]; rfl)
     refine hK.out _ _ trivial (fun _ => ?_)
     clear hK K cA o1
     refine zqr 4 rfl (fun K hK => ?_)
     go_simp
     refine hK.out _ _ trivial (fun _ => ?_)
     clear hK K
     refine zqk 6 rfl hH ?_
     simp only [zq]
     refine zqr 5 rfl (fun K hK => ?_)
     go_simp
     refine (HCU.out _ H2.out.2.2.2.2).mono ?_
     rintro e w2 ⟨a2, c2, rfl, o2, b2⟩
     have H3 : Hid (LB w2 w.heap.size 31 D2 ∧ LB w2 (w.heap.size + 1) 31 zcl ∧ Own (w.heap.size + 2) w2 (.slice ai S.inp.length ci) S.inp ∧ Own (w.heap.size + 2) w2 (.slice af S.fail.length cf) S.fail ∧ Below w.heap.size w w2) := ⟨H2.out.1.kept b2, H2.out.2.1.kept b2, H2.out.2.2.1.kept b2, H2.out.2.2.2.1.kept b2, andThen H2.out.2.2.2.2 b2⟩
     have HO2 : Hid (OwnP (w.heap.size + 2) w2 (.slice a1 S.outs.length c1) S.outs ∧ OwnP (w.heap.size + 2) w2 (.slice a2 S.und.length c2) S.und ∧ ∀ g, (Value.slice a1 S.outs.length c1).ownBlock = some g → (Value.slice a2 S.und.length c2).ownBlock ≠ some g) := ⟨HO1.out.kept b2, OwnP.weak o2 (Nat.le_trans H2.out.2.1.lt (Nat.le_refl _)), fun g e e2 => absurd (HO1.out.block g e).2 (Nat.not_lt.2 (o2.block g e2).1)⟩
     have cA := H3.out.1.cell 11 (.slice h.ao S.outs.length h.co) (by rw [HE2.out]; rfl)
     have cB2 := H3.out.1.cell 12 (.slice h.au S.und.length h.cu) (by rw [HE2.out]; rfl)
     have fA := H3.out.1.free 11
     have fB := H3.out.1.free 12
     refine hK.out _ _ trivial (fun _ => ?_)
     clear hK K
     refine zqr 7 rfl (fun K hK => ?_)
     go_simp
     refine hK.out _ _ trivial (fun _ => ?_)
     clear hK K
     refine zqk 8 rfl hH ?_
     simp only [zq]
     refine zqr 9 rfl (fun K hK => ?_)
     go_simp
     refine hK.out _ _ trivial (fun _ => ?_)
     clear hK K
     refine wpAnyH_done (by kernel_rfl) ?_ _
     go_wp2_with fail
     go_meet
     exact FIN.out a1 c1 a2 c2 w2 H3.out HO2.out
    ·refine AllReadyH.cons rfl (fun K hK => ?_) AllReadyH.nil
     go_simp
     refine hK.out _ _ trivial (fun _ => ?_)
     clear hK K
     refine zqr 2 rfl (fun K hK => ?_)
     go_simp
     refine (HCO.out _ H1.out.2.2.2.2).mono ?_
     rintro e w1 ⟨a1, c1, rfl, o1, b1⟩
     have H2 : Hid (LB w1 w.heap.size 31 D2 ∧ LB w1 (w.heap.size + 1) 31 zcl ∧ Own (w.heap.size + 2) w1 (.slice ai S.inp.length ci) S.inp ∧ Own (w.heap.size + 2) w1 (.slice af S.fail.length cf) S.fail ∧ Below w.heap.size w w1) := ⟨H1.out.1.kept b1, H1.out.2.1.kept b1, H1.out.2.2.1.kept b1, H1.out.2.2.2.1.kept b1, andThen H1.out.2.2.2.2 b1⟩
     have HO1 : Hid (OwnP (w.heap.size + 2) w1 (.slice a1 S.outs.length c1) S.outs) := OwnP.weak o1 H1.out.2.1.lt
     have cB := H2.out.1.cell 12 (.slice h.au S.und.length h.cu) (by rw [HE2.out]; rfl)
     refine hK.out _ _ trivial (fun _ => ?_)
     clear hK K cA o1
     refine zqk 6 rfl hH ?_
     simp only [zq]
     refine zqr 5 rfl (fun K hK => ?_)
     go_simp
     refine (HCU.out _ H2.out.2.2.2.2).mono ?_
     rintro e w2 ⟨a2, c2, rfl, o2, b2⟩
     have H3 : Hid (LB w2 w.heap.size 31 D2 ∧ LB w2 (w.heap.size + 1) 31 zcl ∧ Own (w.heap.size + 2) w2 (.slice ai S.inp.length ci) S.inp ∧ Own (w.heap.size + 2) w2 (.slice af S.fail.length cf) S.fail ∧ Below w.heap.size w w2) := ⟨H2.out.1.kept b2, H2.out.2.1.kept b2, H2.out.2.2.1.kept b2, H2.out.2.2.2.1.kept b2, andThen H2.out.2.2.2.2 b2⟩
     have HO2 : Hid (OwnP (w.heap.size + 2) w2 (.slice a1 S.outs.length c1) S.outs ∧ OwnP (w.heap.size + 2) w2 (.slice a2 S.und.length c2) S.und ∧ ∀ g, (Value.slice a1 S.outs.length c1).ownBlock = some g → (Value.slice a2 S.und.length c2).ownBlock ≠ some g) := ⟨HO1.out.kept b2, OwnP.weak o2 (Nat.le_trans H2.out.2.1.lt (Nat.le_refl _)), fun g e e2 => absurd (HO1.out.block g e).2 (Nat.not_lt.2 (o2.block g e2).1)⟩
     have cA := H3.out.1.cell 11 (.slice h.ao S.outs.length h.co) (by rw [HE2.out]; rfl)
     have cB2 := H3.out.1.cell 12 (.slice h.au S.und.length h.cu) (by rw [HE2.out]; rfl)
     have fA := H3.out.1.free 11
     have fB := H3.out.1.free 12
     refine hK.out _ _ trivial (fun _ => ?_)
     clear hK K
     refine zqr 7 rfl (fun K hK => ?_)
     go_simp
     refine hK.out _ _ trivial (fun _ => ?_)
     clear hK K
     refine zqk 8 rfl hH ?_
     simp only [zq]
     refine zqr 9 rfl (fun K hK => ?_)
     go_simp
     refine hK.out _ _ trivial (fun _ => ?_)
     clear hK K
     refine wpAnyH_done (by kernel_rfl) ?_ _
     go_wp2_with fail
     go_meet
     exact FIN.out a1 c1 a2 c2 w2 H3.out HO2.out
   ·refine AllReadyH.cons rfl (fun K hK => ?_) AllReadyH.nil
    go_simp
    refine hK.out _ _ trivial (fun _ => ?_)
    clear hK K
    refine zqr 1 rfl (fun K hK => ?_)
    go_simp
    refine hK.out _ _ trivial (fun _ => ?_)
    clear hK K
    refine zqr 2 rfl (fun K hK => ?_)
    go_simp
    refine (HCO.out _ H1.out.2.2.2.2).mono ?_
    rintro e w1 ⟨a1, c1, rfl, o1, b1⟩
    have H2 : Hid (LB w1 w.heap.size 31 D2 ∧ LB w1 (w.heap.size + 1) 31 zcl ∧ Own (w.heap.size + 2) w1 (.slice ai S.inp.length ci) S.inp ∧ Own (w.heap.size + 2) w1 (.slice af S.fail.length cf) S.fail ∧ Below w.heap.size w w1) := ⟨H1.out.1.kept b1, H1.out.2.1.kept b1, H1.out.2.2.1.kept b1, H1.out.2.2.2.1.kept b1, andThen H1.out.2.2.2.2 b1⟩
    have HO1 : Hid (OwnP (w.heap.size + 2) w1 (.slice a1 S.outs.length c1) S.outs) := OwnP.weak o1 H1.out.2.1.lt
    have cB := H2.out.1.cell 12 (.slice h.au S.und.length h.cu) (by rw [HE2.out]; rfl)
    refine hK.out _ _ trivial (fun _ => ?_)
    clear hK K cA o1
    refine zqk 6 rfl hH ?_
    simp only [zq]
    refine zqr 5 rfl (fun K hK => ?_)
    go_simp
    refine (HCU.out _ H2.out.2.2.2.2).mono ?_
    rintro e w2 ⟨a2, c2, rfl, o2, b2⟩
    have H3 : Hid (LB w2 w.heap.size 31 D2 ∧ LB w2 (w.heap.size + 1) 31 zcl ∧ Own (w.heap.size + 2) w2 (.slice ai S.inp.length ci) S.inp ∧ Own (w.heap.size + 2) w2 (.slice af S.fail.length cf) S.fail ∧ Below w.heap.size w w2) := ⟨H2.out.1.kept b2, H2.out.2.1.kept b2, H2.out.2.2.1.kept b2, H2.out.2.2.2.1.kept b2, andThen H2.out.2.2.2.2 b2⟩
    have HO2 : Hid (OwnP (w.heap.size + 2) w2 (.slice a1 S.outs.length c1) S.outs ∧ OwnP (w.heap.size + 2) w2 (.slice a2 S.und.length c2) S.und ∧ ∀ g, (Value.slice a1 S.outs.length c1).ownBlock = some g → (Value.slice a2 S.und.length c2).ownBlock ≠ some g) := ⟨HO1.out.kept b2, OwnP.weak o2 (Nat.le_trans H2.out.2.1.lt (Nat.le_refl _)), fun g e e2 => absurd (HO1.out.block g e).2 (Nat.not_lt.2 (o2.block g e2).1)⟩
    have cA := H3.out.1.cell 11 (.slice h.ao S.outs.length h.co) (by rw [HE2.out]; rfl)
    have cB2 := H3.out.1.cell 12 (.slice h.au S.und.length h.cu) (by rw [HE2.out]; rfl)
    have fA := H3.out.1.free 11
    have fB := H3.out.1.free 12
    refine hK.out _ _ trivial (fun _ => ?_)
    clear hK K
    refine zqr 7 rfl (fun K hK => ?_)
    go_simp
    refine hK.out _ _ trivial (fun _ => ?_)
    clear hK K
    refine zqk 8 rfl hH ?_
    simp only [zq]
    refine zqr 9 rfl (fun K hK => ?_)
    go_simp
    refine hK.out _ _ trivial (fun _ => ?_)
    clear hK K
    refine wpAnyH_done (by kernel_rfl) ?_ _
    go_wp2_with fail
    go_meet
    exact FIN.out a1 c1 a2 c2 w2 H3.out HO2.out
  case rest =>
   obtain ⟨a3, c3, a4, c4, rfl, rfl, l3, l4, oi3, of3, oo3, ou3, ap3, b3⟩ := hcut
   obtain ⟨D3, hD3⟩ : ∃ D3, (D2.set 11 (.slice a3 S.outs.length c3)).set 12 (.slice a4 S.und.length c4) = D3 := ⟨_, rfl⟩
   rw [hD3] at l3
   have HE3 : Hid (D3 = scl S ⟨ai, ci, a3, c3, a4, c4, af, cf⟩) := by show _ = _; rw [← hD3, HE2.out]; rfl
   have HL3 : Hid ((Tryz.prog.info? 31).map (·.size) = some D3.length) := by show _ = _; rw [HE3.out]; exact infoSaga
   have H1C : Hid (∀ v ∈ D3, v.oneCell' = true) := by show ∀ v ∈ D3, _; rw [HE3.out]; exact scl_one _ _
   have HLZ : Hid (D3.length = zcl.length) := by show _ = _; rw [HE3.out]; rfl
   clear hD3 HE HE2 l1 l2 oi of1 b HCO HCU HL
   generalize wc = W3 at *
   have HF : Hid (SgOwn w.heap.size (W3.setCells (w.heap.size + 1) 0 D3) S ⟨ai, ci, a3, c3, a4, c4, af, cf⟩ ∧ Below w.heap.size w (W3.setCells (w.heap.size + 1) 0 D3)) :=
    ⟨⟨own_weak (B2 := w.heap.size + 2) (Own.cells oi3 (w.heap.size + 1) 0 D3 (by omega)) (by omega), (oo3.setsB _ _ _ (by omega)).weak (by omega), (ou3.setsB _ _ _ (by omega)).weak (by omega), own_weak (B2 := w.heap.size + 2) (Own.cells of3 (w.heap.size + 1) 0 D3 (by omega)) (by omega), ap3⟩, below_cells (by omega) _ 0 _ b3⟩
   have HR3 : Hid (W3.rangeAt w.heap.size 0 D3) := l3.range
   have HT4 : Hid (W3.there (w.heap.size + 1) 0 D3.toArray.size) := by have e := l4.there; rw [← HLZ.out] at e; show W3.there _ _ _; simpa using e
   have HR5 : Hid ((W3.setCells (w.heap.size + 1) 0 D3).rangeAt (w.heap.size + 1) 0 D3) := (l4.sets D3 HLZ.out).range
   clear l3 l4 oi3 of3 oo3 ou3 ap3 b3 HLZ
   go_wp2_with (first | (refine wpList_load_mid rfl 31 _ rfl w.heap.size 0 rfl D3 _ HR3.out Tryz.underlying31 rfl HL3.out ?_) | (refine wpList_store_mid rfl 31 (.tmp 2) (.tmp 19) rfl (w.heap.size + 1) 0 D3.toArray rfl rfl HT4.out (by simpa using HL3.out) (all_oneCell_toArray H1C.out) ?_))
   refine bodyPost_ret (results_cell_mid rfl _ (W3.setCells (w.heap.size + 1) 0 D3) (w.heap.size + 1) D3 _ rfl HR5.out Tryz.underlying31 rfl HL3.out) rfl ?_
   exact ⟨⟨ai, ci, a3, c3, a4, c4, af, cf⟩, by rw [HE3.out]; rfl, HF.out.1, HF.out.2⟩
theorem lb_rec (w : World) (g : Nat) (t t2 : TypeId) (C E : List Value) (L : LB w g t C) : LB (w.alloc (.cells E.toArray t2)) g t C ∧ LB (w.alloc (.cells E.toArray t2)) w.heap.size t2 E ∧ Below w.heap.size w (w.alloc (.cells E.toArray t2)) := ⟨L.kept (up0 _ _), lb_new _ _ _, up0 _ _⟩
end Go.Proofs.YtgmkjcfdpiinpaaGreatDoor

