/-
  WireLent: the law's walk.
-/
import Derived.Test.YtppgijgmhjfdfaaDoorWl2
import Derived.Deep.CutRange
import Derived.Deep.Light
namespace Go.Proofs.YtppgijgmhjfdfaaDoor
open Go Go.RowKit
open Wb
set_option maxRecDepth 100000 in
set_option maxHeartbeats 4000000 in
theorem wlent_any (va vb : Value) (la lb : List (List Nat)) (w : World) (hT : Tab w) (ha : Ps w va la) (hb : Ps w vb lb)
    (ca : ∀ j (h : j < la.length), la[j].length ≤ 140737488355328) (cb : ∀ j (h : j < lb.length), lb[j].length ≤ 140737488355328) (ka : ∀ ao n cap, va = .slice ao n cap → n ≤ cap) (kb : ∀ ao n cap, vb = .slice ao n cap → n ≤ cap) :
    Calls Tryd.prog 4 #[va, vb] w fun e w' => e = .returned (.bool true) ∧ Below w.heap.size w w' := by
  have hin := info5
  have hib := info22
  have HLA : Hid (Calls Tryd.prog 5 #[va] w fun e w' => LtPost w la e w') := lightW_any va la w ha ca ka
  have HLB : Hid (Calls Tryd.prog 5 #[vb] w fun e w' => LtPost w lb e w') := lightW_any vb lb w hb cb kb
  have HT : Hid (∀ w', Below w.heap.size w w' → Tab w') := fun w' hb => hT.kept hb
  obtain ⟨aa, ka', rfl, _⟩ := ha.shape
  obtain ⟨ab, kb', rfl, _⟩ := hb.shape
  clear ha hb ca cb ka kb hT
  go_enter Tryd.func4, Tryd.ntmps4
  go_wp2_with fail
  refine HLA.out.mono ?_
  rintro e w0 ⟨v1, k1, rfl, _, hf1, h51, hp1, rfl⟩
  go_wp2_with fail
  refine HLB.out.mono ?_
  rintro e w1 ⟨v2, k2, rfl, _, hf2, h52, hp2, rfl⟩
  generalize la.take k1 = A at *
  generalize lb.take k2 = B at *
  have HFA : Hid (∀ j, ((A.take j).flatMap frU).length ≤ 5000000) := fun j => by
    have h1 := flatF_len (A.take j)
    have h2 := flat_le A j
    have h4 : (A.take j).length ≤ A.length := List.length_take_le' j A
    omega
  have HFB : Hid (∀ j, ((B.take j).flatMap frU).length ≤ 5000000) := fun j => by
    have h1 := flatF_len (B.take j)
    have h2 := flat_le B j
    have h4 : (B.take j).length ≤ B.length := List.length_take_le' j B
    omega
  obtain ⟨a1, c1, rfl, hm1, hc1⟩ := hp1.shape
  obtain ⟨a2, c2, rfl, hm2, hc2⟩ := hp2.shape
  unfold maxLen at hm1 hm2
  have HC1 : Hid (∀ j (h : j < A.length), ∃ b off aj, ∃ cj : Nat, a1 = some ⟨b, off, none⟩ ∧ ∀ w', Below w1.heap.size w1 w' → w'.cell? ⟨b, off + j, none⟩ = some (.slice aj A[j].length cj) ∧ Bs w' (.slice aj A[j].length cj) A[j]) := fun j hj => by
    obtain ⟨b, off, e, hcell⟩ := hc1 (List.ne_nil_of_length_pos (by omega))
    obtain ⟨vj, h1, h2⟩ := hcell j hj
    obtain ⟨aj, cj, rfl, _⟩ := h2.shape
    exact ⟨b, off, aj, cj, e, fun w' hb' => ⟨(hb'.cell (p := ⟨b, off + j, none⟩) (World.block_lt_of_cell? _ _ h1)).trans h1, h2.kept hb'⟩⟩
  have HC2 : Hid (∀ j (h : j < B.length), ∃ b off aj, ∃ cj : Nat, a2 = some ⟨b, off, none⟩ ∧ ∀ w', Below w1.heap.size w1 w' → w'.cell? ⟨b, off + j, none⟩ = some (.slice aj B[j].length cj) ∧ Bs w' (.slice aj B[j].length cj) B[j]) := fun j hj => by
    obtain ⟨b, off, e, hcell⟩ := hc2 (List.ne_nil_of_length_pos (by omega))
    obtain ⟨vj, h1, h2⟩ := hcell j hj
    obtain ⟨aj, cj, rfl, _⟩ := h2.shape
    exact ⟨b, off, aj, cj, e, fun w' hb' => ⟨(hb'.cell (p := ⟨b, off + j, none⟩) (World.block_lt_of_cell? _ _ h1)).trans h1, h2.kept hb'⟩⟩
  obtain ⟨gT, hgT⟩ : ∃ gT, gT = w1.heap.size := ⟨_, rfl⟩
  have HS1 : Hid (At2 (w1.alloc (.cells #[.slice none 0 0, .slice none 0 0] 34)) gT (.slice none 0 0) (.slice none 0 0) ∧ Below w1.heap.size w1 (w1.alloc (.cells #[.slice none 0 0, .slice none 0 0] 34)) ∧ gT + 1 ≤ (w1.alloc (.cells #[.slice none 0 0, .slice none 0 0] 34)).heap.size) := ⟨by rw [hgT]; exact at2_new _ _ _ _, up0 _ _, by rw [heap_one, hgT]; exact Nat.le_refl _⟩
  clear hp1 hp2 hc1 hc2 HLA HLB hf1 hf2
  have hgt1 : w1.heap.size ≤ gT := by omega
  go_wp2
  rw [← hgT]
  clear hgT
  go_loopw [6] (fun i wr => ∃ (j : Nat) (b0 : Value), j ≤ A.length ∧ i = .int .i64 (j : Int) ∧ At2 wr gT b0 (.slice none 0 0) ∧ Own (gT + 1) wr b0 ((A.take j).flatMap frU) ∧ Below w1.heap.size w1 wr ∧ gT + 1 ≤ wr.heap.size) (fun i _ => A.length - (intOf i).toNat)
  case atStart => exact ⟨0, _, Nat.zero_le _, rfl, HS1.out.1, Own.nil _ _, HS1.out.2.1, HS1.out.2.2⟩
  case round =>
    obtain ⟨j, b0, hj, rfl, hat, ho, hbel, hgs⟩ := hrel
    clear HS1
    by_cases hlt : j < A.length
    · obtain ⟨b, off, aj, cj, rfl, hcb⟩ := HC1.out j hlt
      have HM : Hid ((A.take (j + 1)).flatMap frU = (A.take j).flatMap frU ++ frU A[j]) := flat_snoc frU A j hlt
      generalize A[j] = x at *
      obtain ⟨q0, hx0⟩ := hcb wr hbel
      have hal := HFA.out j
      have hxl := (frU_len x).1
      clear hcb HC1 HC2 HFA HFB
      generalize (A.take j).flatMap frU = m at *
      go_wp2_with fail
      refine (frameU_any _ x _ ((HT.out _ hbel).kept (up0 _ _)) (ps1 _ _ rfl _ hx0)).mono ?_
      rintro e w4 ⟨a4, n4, c4, er, rfl, rfl, ho4, b4'⟩
      have b4 := andThen (up0 _ _) b4'
      have hat4 := hat.kept b4 (by omega)
      have hl0 := hat4.c0
      have HO : Hid (Own (gT + 1) w4 b0 m ∧ Bs w4 (.slice a4 (frU x).length c4) (frU x) ∧ At2 w4 gT b0 (.slice none 0 0)) := ⟨ho.kept b4, ho4.bs, hat4⟩
      have B4 := andThen hbel b4
      have hs4 : gT + 1 ≤ w4.heap.size := Nat.le_trans hgs b4.size
      clear ho4 b4' q0 hx0 ho b4 hat4 hat
      generalize frU x = f at *
      go_wp2_with (at_builtin; refine wpList_append _ rfl (.tmp 49) (.tmp 50) 25 rfl (gT + 1) hin Tryd.underlying25 _ m rfl HO.out.1 _ f rfl HO.out.2.1 (by omega) hs4 ?_)
      intro v5 w5 ho5 b5 _
      obtain ⟨a5, n5, c5, rfl⟩ := own_slice ho5
      have hat5 := HO.out.2.2.kept b5 (by omega)
      have hl5 := hat5.c0
      have hf5 := hat5.frozen 0
      have R : Hid (At2 (w5.setCell ⟨gT, 0, none⟩ (.slice a5 n5 c5)) gT (.slice a5 n5 c5) (.slice none 0 0) ∧ Own (gT + 1) (w5.setCell ⟨gT, 0, none⟩ (.slice a5 n5 c5)) (.slice a5 n5 c5) ((A.take (j + 1)).flatMap frU) ∧ Below w1.heap.size w1 (w5.setCell ⟨gT, 0, none⟩ (.slice a5 n5 c5)) ∧ gT + 1 ≤ (w5.setCell ⟨gT, 0, none⟩ (.slice a5 n5 c5)).heap.size) := by
        have hsz : (w5.setCell ⟨gT, 0, none⟩ (.slice a5 n5 c5)).heap.size = w5.heap.size := by simp [World.setCell]
        refine ⟨hat5.put0 (.slice a5 n5 c5), own_set (by rw [HM.out]; exact ho5) gT 0 (.slice a5 n5 c5) (by omega), (B4.trans (b5.mono (by omega))).setCell (p := ⟨gT, 0, none⟩) hgt1 (.slice a5 n5 c5), by rw [hsz]; exact Nat.le_trans hs4 b5.size⟩
      clear ho5 b5 HO B4 HM hbel hat5
      go_wp2
      go_roundw
      case rel => exact ⟨j + 1, (.slice a5 n5 c5), by omega, by go_num, R.out.1, R.out.2.1, R.out.2.2.1, R.out.2.2.2⟩
      case measure => simp [intOf]; omega
    · obtain rfl : j = A.length := by omega
      rw [List.take_length] at ho
      have hA0 := HFA.out A.length
      rw [List.take_length] at hA0
      clear HC1 HFA
      generalize A.flatMap frU = T0 at *
      generalize wr = wb at *
      have HB0 : Hid (∀ g, b0.ownBlock = some g → gT + 1 ≤ g ∧ g < wb.heap.size) := fun g hg => World.ownsRow.lt ho.row g hg
      have HS1 : Hid (At2 wb gT b0 (.slice none 0 0) ∧ Own (gT + 1) wb b0 T0 ∧ Below w1.heap.size w1 wb) := ⟨hat, ho, hbel⟩
      clear hat ho hbel
      go_wp2
      go_loopw [9] (fun i wr => ∃ (j : Nat) (b1 : Value), j ≤ B.length ∧ i = .int .i64 (j : Int) ∧ At2 wr gT b0 b1 ∧ Own (gT + 1) wr b0 T0 ∧ Own wb.heap.size wr b1 ((B.take j).flatMap frU) ∧ Below w1.heap.size w1 wr ∧ wb.heap.size ≤ wr.heap.size) (fun i _ => B.length - (intOf i).toNat)
      case atStart => exact ⟨0, _, Nat.zero_le _, rfl, HS1.out.1, HS1.out.2.1, Own.nil _ _, HS1.out.2.2, Nat.le_refl _⟩
      case round =>
        obtain ⟨j, b1, hj, rfl, hat, ho0, ho, hbel, hgs2⟩ := hrel
        clear HS1
        by_cases hlt : j < B.length
        · obtain ⟨b, off, aj, cj, rfl, hcb⟩ := HC2.out j hlt
          have HM : Hid ((B.take (j + 1)).flatMap frU = (B.take j).flatMap frU ++ frU B[j]) := flat_snoc frU B j hlt
          generalize B[j] = x at *
          obtain ⟨q0, hx0⟩ := hcb wr hbel
          have hal := HFB.out j
          have hxl := (frU_len x).1
          clear hcb HC2 HFB
          generalize (B.take j).flatMap frU = m at *
          go_wp2_with fail
          refine (frameU_any _ x _ ((HT.out _ hbel).kept (up0 _ _)) (ps1 _ _ rfl _ hx0)).mono ?_
          rintro e w4 ⟨a4, n4, c4, er, rfl, rfl, ho4, b4'⟩
          have b4 := andThen (up0 _ _) b4'
          have hat4 := hat.kept b4 (by omega)
          have hl0 := hat4.c1
          have HO : Hid (Own wb.heap.size w4 b1 m ∧ Bs w4 (.slice a4 (frU x).length c4) (frU x) ∧ At2 w4 gT b0 b1 ∧ Own (gT + 1) w4 b0 T0) := ⟨ho.kept b4, ho4.bs, hat4, ho0.kept b4⟩
          have B4 := andThen hbel b4
          have hs4 : wb.heap.size ≤ w4.heap.size := Nat.le_trans hgs2 b4.size
          clear ho4 b4' q0 hx0 ho b4 hat4 hat ho0
          generalize frU x = f at *
          go_wp2_with (at_builtin; refine wpList_append _ rfl (.tmp 69) (.tmp 70) 25 rfl wb.heap.size hin Tryd.underlying25 _ m rfl HO.out.1 _ f rfl HO.out.2.1 (by omega) hs4 ?_)
          intro v5 w5 ho5 b5 _
          obtain ⟨a5, n5, c5, rfl⟩ := own_slice ho5
          have hat5 := HO.out.2.2.1.kept b5 (by omega)
          have hl5 := hat5.c1
          have hf5 := hat5.frozen 1
          have R : Hid (At2 (w5.setCell ⟨gT, 1, none⟩ (.slice a5 n5 c5)) gT b0 (.slice a5 n5 c5) ∧ Own (gT + 1) (w5.setCell ⟨gT, 1, none⟩ (.slice a5 n5 c5)) b0 T0 ∧ Own wb.heap.size (w5.setCell ⟨gT, 1, none⟩ (.slice a5 n5 c5)) (.slice a5 n5 c5) ((B.take (j + 1)).flatMap frU) ∧ Below w1.heap.size w1 (w5.setCell ⟨gT, 1, none⟩ (.slice a5 n5 c5)) ∧ wb.heap.size ≤ (w5.setCell ⟨gT, 1, none⟩ (.slice a5 n5 c5)).heap.size) := by
            have hsz : (w5.setCell ⟨gT, 1, none⟩ (.slice a5 n5 c5)).heap.size = w5.heap.size := by simp [World.setCell]
            refine ⟨hat5.put1 (.slice a5 n5 c5), own_set (own_kept2 HO.out.2.2.2 fun g hg => b5.block g (HB0.out g hg).2) gT 1 (.slice a5 n5 c5) (by omega), own_set (by rw [HM.out]; exact ho5) gT 1 (.slice a5 n5 c5) (by omega), (B4.trans (b5.mono (by omega))).setCell (p := ⟨gT, 1, none⟩) hgt1 (.slice a5 n5 c5), by rw [hsz]; exact Nat.le_trans hs4 b5.size⟩
          clear ho5 b5 HO B4 HM hbel hat5
          go_wp2
          go_roundw
          case rel => exact ⟨j + 1, (.slice a5 n5 c5), by omega, by go_num, R.out.1, R.out.2.1, R.out.2.2.1, R.out.2.2.2.1, R.out.2.2.2.2⟩
          case measure => simp [intOf]; omega
        · obtain rfl : j = B.length := by omega
          rw [List.take_length] at ho
          have hB0 := HFB.out B.length
          rw [List.take_length] at hB0
          clear HC2 HFB HB0
          generalize B.flatMap frU = T1 at *
          generalize wr = w3 at *
          obtain ⟨ab0, cb0, rfl, _⟩ := ho0.bs.shape
          obtain ⟨ab1, cb1, rfl, _⟩ := ho.bs.shape
          obtain ⟨gW, hgW⟩ : ∃ gW, gW = w3.heap.size := ⟨_, rfl⟩
          have hgTW : gT < gW := by omega
          have HGW : Hid (gW = w3.heap.size) := hgW
          obtain ⟨w4, hw4⟩ : ∃ w4, w4 = w3.alloc (.cells #[.slice none 0 0, .slice none 0 0] 35) := ⟨_, rfl⟩
          have HTX : Hid (∀ w', Agr gT gW w3 w' → At2 w' gT (.slice ab0 T0.length cb0) (.slice ab1 T1.length cb1) ∧ Bs w' (.slice ab0 T0.length cb0) T0 ∧ Bs w' (.slice ab1 T1.length cb1) T1) := fun w' h => ⟨hat.agr h (Nat.le_refl _) hgTW, (own_agr ho0 h (by omega) (by omega)).bs, (own_agr ho h (by omega) (by omega)).bs⟩
          have HA4 : Hid (Agr gT gW w3 w4) := by rw [hw4]; exact (Agr.refl _ _ _).below (up0 _ _) (by omega)
          have haw4 : At2 w4 gW (.slice none 0 0) (.slice none 0 0) := by rw [hw4, hgW]; exact at2_new _ _ _ _
          have hs4 : w4.heap.size = gW + 1 := by rw [hw4, heap_one, hgW]
          have B4 : Below w1.heap.size w1 w4 := by rw [hw4]; exact up hbel _
          have HW4 : Hid (w4 = w3.alloc (.cells #[.slice none 0 0, .slice none 0 0] 35)) := hw4
          have hl40 := (HTX.out _ HA4.out).1.c0
          clear hat ho0 ho hbel hgs2 hw4 hgW hgs hlt hj
          go_wp2_with (rw [← HW4.out, ← HGW.out])
          refine (rrfs_any _ T0 0 (T0.length + 1) _ (HTX.out _ HA4.out).2.1 (by omega) (by omega) (by omega) (by omega) (by omega)).mono ?_
          rintro e w5 ⟨v0, rfl, hP0, b5⟩
          have HV0 : Hid (∀ w', Agr (gW + 1) w5.heap.size w5 w' → Ps w' v0 (rfs (T0.length + 1) T0 0).1) := fun w' h => (ownP_frame hP0 (fun g h1 h2 => h g (by omega) h2)).ps
          obtain ⟨av0, nv0, cv0, rfl⟩ := ownP_slice hP0
          have haw5 := haw4.kept b5 (by omega)
          have HA5 : Hid (Agr gT gW w3 (w5.setCell ⟨gW, 0, none⟩ (.slice av0 nv0 cv0))) := (HA4.out.below b5 (by omega)).set _ (.inl (Nat.le_refl _))
          have hw50 := haw5.c0
          have hf50 := haw5.frozen 0
          have HW5 : Hid (At2 (w5.setCell ⟨gW, 0, none⟩ (.slice av0 nv0 cv0)) gW (.slice av0 nv0 cv0) (.slice none 0 0)) := haw5.put0 _
          have hl51 := (HTX.out _ HA5.out).1.c1
          have hs5 : gW + 1 ≤ w5.heap.size := by rw [← hs4]; exact b5.size
          have B5 : Below w1.heap.size w1 (w5.setCell ⟨gW, 0, none⟩ (.slice av0 nv0 cv0)) := (andThen B4 b5).setCell (p := ⟨gW, 0, none⟩) (by show w1.heap.size ≤ gW; omega) _
          clear HA4 hP0 b5 haw5 hl40 haw4 B4
          go_wp2_with fail
          refine (rrfs_any _ T1 0 (T1.length + 1) _ (HTX.out _ HA5.out).2.2 (by omega) (by omega) (by omega) (by omega) (by omega)).mono ?_
          rintro e w6 ⟨v1, rfl, hP1, b6⟩
          have b6' : Below w5.heap.size (w5.setCell ⟨gW, 0, none⟩ (.slice av0 nv0 cv0)) w6 := by rw [set_size] at b6; exact b6
          rw [set_size] at hP1
          have HV1 : Hid (∀ w', Agr w5.heap.size w6.heap.size w6 w' → Ps w' v1 (rfs (T1.length + 1) T1 0).1) := fun w' h => (ownP_frame hP1 h).ps
          obtain ⟨av1, nv1, cv1, rfl⟩ := ownP_slice hP1
          have haw6 := HW5.out.kept b6' (by omega)
          have HA6 : Hid (Agr gT gW w3 (w6.setCell ⟨gW, 1, none⟩ (.slice av1 nv1 cv1)) ∧ Agr (gW + 1) w5.heap.size w5 (w6.setCell ⟨gW, 1, none⟩ (.slice av1 nv1 cv1)) ∧ Agr w5.heap.size w6.heap.size w6 (w6.setCell ⟨gW, 1, none⟩ (.slice av1 nv1 cv1)) ∧ At2 (w6.setCell ⟨gW, 1, none⟩ (.slice av1 nv1 cv1)) gW (.slice av0 nv0 cv0) (.slice av1 nv1 cv1)) :=
            ⟨(HA5.out.below b6' (by omega)).set _ (.inl (Nat.le_refl _)), ((((Agr.refl _ _ _).set _ (.inr (by omega))).below b6' (Nat.le_refl _))).set _ (.inr (by omega)), (Agr.refl _ _ _).set _ (.inr (by omega)), haw6.put1 _⟩
          have hw61 := haw6.c1
          have hf61 := haw6.frozen 1
          have hs6 : w5.heap.size ≤ w6.heap.size := by have := b6'.size; rw [set_size] at this; exact this
          have B6 : Below w1.heap.size w1 (w6.setCell ⟨gW, 1, none⟩ (.slice av1 nv1 cv1)) := (andThen B5 b6).setCell (p := ⟨gW, 1, none⟩) (by show w1.heap.size ≤ gW; omega) _
          clear HA5 HW5 hP1 b6 b6' haw6 hl51 B5 hw50 hf50
          obtain ⟨gY, hgY⟩ : ∃ gY, gY = w6.heap.size := ⟨_, rfl⟩
          obtain ⟨w7, hw7⟩ : ∃ w7, w7 = (w6.setCell ⟨gW, 1, none⟩ (.slice av1 nv1 cv1)).alloc (.cells #[.int .i64 0, .int .i64 0, .int .i64 1, .int .i64 1, .int .i64 0, .int .i64 1] 38) := ⟨_, rfl⟩
          have hs7 : w7.heap.size = gY + 1 := by rw [hw7, heap_one, set_size, hgY]
          have hgy : gT < gY ∧ gW < gY := by omega
          have HY : Hid (∀ w', Below w7.heap.size w7 w' → ∀ k, k < 6 → wq k < 2 ∧ w'.cell? ⟨gY, k, none⟩ = some (.int .i64 (wq k : Int))) := fun w' hb k hk => by
            have hc : w7.heap[gY]? = some (.cells #[.int .i64 0, .int .i64 0, .int .i64 1, .int .i64 1, .int .i64 0, .int .i64 1] 38) := by
              rw [hw7, hgY, ← set_size w6 ⟨gW, 1, none⟩ (.slice av1 nv1 cv1)]
              exact heap_new _ _
            have hc' : w'.heap[gY]? = some (.cells #[.int .i64 0, .int .i64 0, .int .i64 1, .int .i64 1, .int .i64 0, .int .i64 1] 38) := (hb.block gY (by omega)).trans hc
            obtain rfl | rfl | rfl | rfl | rfl | rfl : k = 0 ∨ k = 1 ∨ k = 2 ∨ k = 3 ∨ k = 4 ∨ k = 5 := by omega
            all_goals exact ⟨by decide, by unfold World.cell?; rw [hc']; rfl⟩
          obtain ⟨RQ, hRQ⟩ : ∃ RQ : Nat → List (List Nat), RQ = fun q => if q = 0 then (rfs (T0.length + 1) T0 0).1 else (rfs (T1.length + 1) T1 0).1 := ⟨_, rfl⟩
          have B7 : Below w1.heap.size w1 w7 := by rw [hw7]; exact up B6 _
          have HA7 : Hid (∀ w', Below w7.heap.size w7 w' → Agr gT gW w3 w' ∧ Agr (gW + 1) w5.heap.size w5 w' ∧ Agr w5.heap.size w6.heap.size w6 w' ∧ At2 w' gW (.slice av0 nv0 cv0) (.slice av1 nv1 cv1)) := fun w' hb => by
            have hb2 : Below gY (w6.setCell ⟨gW, 1, none⟩ (.slice av1 nv1 cv1)) w' := by
              have h1 : Below gY (w6.setCell ⟨gW, 1, none⟩ (.slice av1 nv1 cv1)) w7 := by rw [hw7]; exact (up0 _ _).mono (by rw [set_size, hgY]; exact Nat.le_refl _)
              exact h1.trans (hb.mono (by omega))
            exact ⟨HA6.out.1.below hb2 (by omega), HA6.out.2.1.below hb2 (by omega), HA6.out.2.2.1.below hb2 (by omega), HA6.out.2.2.2.kept hb2 (by omega)⟩
          have HQ : Hid (∀ q, q < 2 → ∃ a, ∃ n c : Nat, ∃ a', ∃ n' c' : Nat, ∀ w', Below w7.heap.size w7 w' → w'.cell? ⟨gT, q, none⟩ = some (.slice a n c) ∧ w'.cell? ⟨gW, q, none⟩ = some (.slice a' n' c') ∧ Ps w' (.slice a' n' c') (RQ q) ∧ Calls Tryd.prog 15 #[.slice a n c, .int .i64 0] w' fun e w'' => ∃ a3 n3 c3, ∃ ps q3, e = .returned (.tuple #[.slice a3 n3 c3, q3]) ∧ Ans w'.heap.size w'' (.slice a3 n3 c3) ps ∧ ps.map Prod.snd = RQ q ∧ Below w'.heap.size w' w'') := fun q hq => by
            have hcall : ∀ v T w', Tab w' → Bs w' v T → T.length ≤ 5000000 → Calls Tryd.prog 15 #[v, .int .i64 0] w' fun e w'' => ∃ a3 n3 c3, ∃ ps q3, e = .returned (.tuple #[.slice a3 n3 c3, q3]) ∧ Ans w'.heap.size w'' (.slice a3 n3 c3) ps ∧ ps.map Prod.snd = (rfs (T.length + 1) T 0).1 ∧ Below w'.heap.size w' w'' := fun v T w' ht hb hl => (readFramesA_any v T 0 (T.length + 1) w' ht hb (by omega) (by omega) (by omega) (by omega) (by omega)).mono fun e w'' ⟨v', ps, he, ha, hm, hb'⟩ => by
              obtain ⟨a3, c3, e3, _⟩ := row_slice ha.row
              subst e3
              exact ⟨a3, _, c3, ps, _, he, ha, hm, hb'⟩
            obtain rfl | rfl : q = 0 ∨ q = 1 := by omega
            · refine ⟨ab0, T0.length, cb0, av0, nv0, cv0, fun w' hb => ?_⟩
              obtain ⟨h1, h2, h3, h4⟩ := HA7.out w' hb
              refine ⟨(HTX.out _ h1).1.c0, h4.c0, ?_, ?_⟩
              · rw [hRQ]; exact HV0.out _ h2
              · rw [hRQ]; exact hcall _ T0 w' (HT.out _ (andThen B7 hb)) (HTX.out _ h1).2.1 hA0
            · refine ⟨ab1, T1.length, cb1, av1, nv1, cv1, fun w' hb => ?_⟩
              obtain ⟨h1, h2, h3, h4⟩ := HA7.out w' hb
              refine ⟨(HTX.out _ h1).1.c1, h4.c1, ?_, ?_⟩
              · rw [hRQ]; exact HV1.out _ h3
              · rw [hRQ]; exact hcall _ T1 w' (HT.out _ (andThen B7 hb)) (HTX.out _ h1).2.2 hB0
          have HRL : Hid (∀ q, (RQ q).length ≤ 5000001) := fun q => by
            rw [hRQ]
            show (if q = 0 then (rfs (T0.length + 1) T0 0).1 else (rfs (T1.length + 1) T1 0).1).length ≤ 5000001
            split
            · have := rfs_len (T0.length + 1) T0 0; omega
            · have := rfs_len (T1.length + 1) T1 0; omega
          have HBW : Hid (∀ w', Below w7.heap.size w7 w' → Below w1.heap.size w1 w') := fun w' hb => andThen B7 hb
          have HW7 : Hid (w7 = (w6.setCell ⟨gW, 1, none⟩ (.slice av1 nv1 cv1)).alloc (.cells #[.int .i64 0, .int .i64 0, .int .i64 1, .int .i64 1, .int .i64 0, .int .i64 1] 38) ∧ gY = w6.heap.size) := ⟨hw7, hgY⟩
          clear HA6 HA7 HV0 HV1 HTX hRQ hw7 hgY B7 B6 HT hs7 hs4 hgy
          go_wp2
          rw [← HW7.out.1, ← HW7.out.2]
          clear HW7
          go_loopw [14, 15] (fun o k wr => ∃ (vs : List Value) (P : Nat → List (Value × List Nat)), vs.length ≤ 6 ∧ k = .int .i64 (vs.length : Int) ∧ LA w7.heap.size wr o vs P RQ ∧ Below w7.heap.size w7 wr) (fun _ k _ => 6 - (intOf k).toNat)
          case atStart => exact ⟨[], fun _ => [], Nat.zero_le _, rfl, LA.nil _ _ _ _, Below.refl _ _⟩
          case round =>
            obtain ⟨vs, P, hvl, rfl, hLA, hbel⟩ := hrel
            by_cases hlt : vs.length < 6
            · obtain ⟨hq2, hy0⟩ := HY.out wr hbel vs.length hlt
              obtain ⟨a, n, c, a', n', c', hq⟩ := HQ.out (wq vs.length) hq2
              obtain ⟨ht0, _, _, hcall⟩ := hq wr hbel
              have hsz := hbel.size
              have hlt2 : ∀ (i : Nat) (u : Value), vs[i]? = some u → ∀ g, u.ownBlock = some g → g < wr.heap.size := fun i u hu g hg => (World.ownsRow.lt (hLA.each i u hu).1.row g hg).2
              have HC : Hid (Calls Tryd.prog 15 #[.slice a n c, .int .i64 0] wr fun e w'' => ∃ a3 n3 c3, ∃ ps q3, e = .returned (.tuple #[.slice a3 n3 c3, q3]) ∧ Ans wr.heap.size w'' (.slice a3 n3 c3) ps ∧ ps.map Prod.snd = RQ (wq vs.length) ∧ Below wr.heap.size wr w'') := hcall
              have HLT2 : Hid (∀ (i : Nat) (u : Value), vs[i]? = some u → ∀ g, u.ownBlock = some g → g < wr.heap.size) := hlt2
              have HEQ : Hid (∃ q, q = wq vs.length) := ⟨_, rfl⟩
              obtain ⟨q, hq9⟩ := HEQ.out
              have HQQ : Hid (q = wq vs.length) := hq9
              rw [← hq9] at hy0 ht0 hq2
              have hqi : (q : Int) < 2 := by omega
              clear hq hcall hlt2 hq9
              go_wp2_with fail
              refine HC.out.mono ?_
              rintro e w8 ⟨a3, n3, c3, ps, q3, rfl, hA8, hm8, b8⟩
              have HX : Hid (∀ o, LA w7.heap.size (w8.alloc o) u14 vs P RQ ∧ Ans wr.heap.size (w8.alloc o) (.slice a3 n3 c3) ps) := fun o => ⟨(hLA.kept b8).kept (up0 _ _), hA8.kept (up0 _ _)⟩
              have HC8 : Hid (∀ t, (w8.alloc (.cells #[.slice a3 n3 c3] t)).cell? ⟨w8.heap.size, 0, none⟩ = some (.slice a3 n3 c3)) := fun t => World.cell?_alloc_new w8 _ _ 0
              have B8 := andThen hbel b8
              have hs8 := B8.size
              have hss := infoTSS
              clear hA8 b8 hLA hy0 ht0
              go_wp2_with (at_builtin; refine wpList_append_views _ rfl (.tmp 101) (.tmp 103) 23 39 rfl w7.heap.size hss Tryd.underlying39 _ vs rfl (HX.out _).1.row w8.heap.size (.slice a3 n3 c3) rfl (HC8.out _) rfl (by omega) (by simp; omega) ?_)
              intro v9 w9 hr9 hg9 _ _
              have R : Hid (LA w7.heap.size w9 v9 (vs ++ [.slice a3 n3 c3]) (fun i => if i = vs.length then ps else P i) RQ ∧ Below w7.heap.size w7 w9) := ⟨(HX.out _).1.more (HX.out _).2 hm8 hsz HLT2.out hr9 hg9, (up B8 _).trans (grown_below (HX.out _).1.row hg9 (by simp; omega))⟩
              clear hr9 hg9 HX HC8 B8 hbel HC HLT2 HQQ
              go_wp2
              go_roundw
              case rel => exact ⟨_, _, by simp; omega, by simp, R.out.1, R.out.2⟩
              case measure => simp [intOf]; omega
            · have h6 : vs.length = 6 := by omega
              obtain ⟨gL, cL, eL, hcL1, hcL2, hgL, hcl⟩ := row_cell hLA.row (by omega)
              unfold maxLen at hcL2
              rw [h6] at eL hcL1
              subst eL
              generalize wr = wA at *
              have HLA : Hid (LA w7.heap.size wA (.slice (some ⟨gL, 0, none⟩) 6 cL) vs P RQ) := hLA
              have HVS : Hid (∀ j, j < 6 → ∃ a, ∃ n c : Nat, vs[j]? = some (.slice a n c) ∧ n = (P j).length) := fun j hj => by
                have hj' : vs[j]? = some vs[j] := List.getElem?_eq_getElem (by omega)
                obtain ⟨a, c, e, _⟩ := row_slice (hLA.each j _ hj').1.row
                exact ⟨a, _, c, by rw [hj', e], rfl⟩
              have HCL : Hid (∀ w', Below wA.heap.size wA w' → ∀ (k : Nat) (x : Value), vs[k]? = some x → w'.cell? ⟨gL, k, none⟩ = some x) := fun w' hb k x hx => (hb.cell (p := ⟨gL, k, none⟩) hgL).trans (hcl k x hx)
              have HBA : Hid (∀ w', Below wA.heap.size wA w' → Below w7.heap.size w7 w') := fun w' hb => andThen hbel hb
              have H6 : Hid (vs.length = 6) := h6
              rw [h6]
              rw [show ((6 : Nat) : Int) = (6 : Int) from rfl]
              clear hLA hcl hbel h6 hvl hlt
              go_wp2
              go_loopw [18] (fun k wr => ∃ j : Nat, j ≤ 6 ∧ k = .int .i64 (j : Int) ∧ Below wA.heap.size wA wr) (fun k _ => 6 - (intOf k).toNat)
              case atStart => exact ⟨0, Nat.zero_le _, rfl, Below.refl _ _⟩
              case round =>
                obtain ⟨j, hj, rfl, hbel⟩ := hrel
                by_cases hlt : j < 6
                · obtain ⟨aj, nj, cj, hvj, hnj⟩ := HVS.out j hlt
                  obtain ⟨hq2, hy9⟩ := HY.out _ (HBA.out _ hbel) j hlt
                  obtain ⟨a, n, c, a', n', c', hq⟩ := HQ.out (wq j) hq2
                  obtain ⟨q, hq9⟩ : ∃ q, q = wq j := ⟨_, rfl⟩
                  rw [← hq9] at hq hq2
                  have HQJ : Hid (q = wq j) := hq9
                  have HCE : Hid (∀ w', Below wA.heap.size wA w' → w'.cell? ⟨gL, j, none⟩ = some (.slice aj nj cj) ∧ w'.cell? ⟨gY, j, none⟩ = some (.int .i64 (q : Int)) ∧ w'.cell? ⟨gW, q, none⟩ = some (.slice a' n' c')) := fun w' hb => ⟨HCL.out _ hb _ _ hvj, by rw [hq9]; exact (HY.out _ (HBA.out _ hb) j hlt).2, (hq _ (HBA.out _ hb)).2.1⟩
                  have HSA : Hid (∀ w', Below wA.heap.size wA w' → Calls Tryd.prog 10 #[.slice aj nj cj, .slice a' n' c'] w' fun e w'' => e = .returned (.bool true) ∧ Below w'.heap.size w' w'') := fun w' hb => by
                    have h1 := (((HLA.out.kept hb).each j _ hvj).1).ps
                    rw [((HLA.out.kept hb).each j _ hvj).2, ← hq9] at h1
                    exact sameAll_yes _ _ (RQ q) w' h1 (hq _ (HBA.out _ hb)).2.2.1
                  obtain ⟨x1, x2, x3⟩ := HCE.out _ hbel
                  have hqi : (q : Int) < 2 := by omega
                  clear hq hq9 hvj hnj hy9
                  go_upto_region 26 with fail
                  go_cut [119] from 105 to 119 (fun s wx => s = .bool false ∧ Below wA.heap.size wA wx)
                  case first =>
                    go_region_held (fun w' => w'.cell? ⟨gL, j, none⟩ = some (.slice aj nj cj) ∧ w'.cell? ⟨gY, j, none⟩ = some (.int .i64 (q : Int)) ∧ w'.cell? ⟨gW, q, none⟩ = some (.slice a' n' c')) (first | (exact HCE.out _ (Below.drew hbel)) | (exact HCE.out _ (andThen (Below.drew hbel) hb')) | go_keep)
                      (first | (go_at_call 10; refine (HSA.out _ ?_).mono ?_; (exact Below.drew hbel); rintro e w' ⟨rfl, hb'⟩))
                    have hb2 : Below wA.heap.size wA w' := andThen (Below.drew hbel) hb'
                    go_wp2_with fail
                    go_meet
                    exact ⟨rfl, hb2⟩
                  case rest =>
                    obtain ⟨rfl, hb2⟩ := hcut
                    clear hbel HCE HSA x1 x2 x3 HQJ
                    go_wp2
                    go_roundw
                    case rel =>
                      exact ⟨j + 1, by omega, by go_num, hb2⟩
                    case measure => simp [intOf]; omega
                · obtain rfl : j = 6 := by omega
                  rw [show ((6 : Nat) : Int) = (6 : Int) from rfl]
                  generalize wr = wB at *
                  obtain ⟨n, hn⟩ : ∃ n : Nat → Nat, n = fun j => (P j).length := ⟨_, rfl⟩
                  have HSS : Hid (SS w7.heap.size w7 wB (.slice (some ⟨gL, 0, none⟩) 6 cL) vs (fun j => (P j).map Prod.fst) n 0 0) := by
                    rw [hn]
                    exact (HLA.out.kept hbel).ss w7 (HBA.out _ hbel) (HBA.out _ hbel).size
                  have HVN : Hid (∀ j, j < 6 → ∃ a, ∃ c : Nat, vs[j]? = some (.slice a (n j) c) ∧ n j ≤ 5000001 ∧ n j ≤ c ∧ c ≤ 9223372036854775807) := fun j hj => by
                    obtain ⟨a, m, c, h1, h2⟩ := HVS.out j hj
                    have h3 := (HLA.out.each j _ h1).2
                    have h4 := congrArg List.length h3
                    rw [List.length_map] at h4
                    have h5 := HRL.out (wq j)
                    obtain ⟨a9, c9, e9, k1, k2⟩ := row_slice (HLA.out.each j _ h1).1.row
                    simp only [Value.slice.injEq] at e9
                    unfold maxLen at k2
                    refine ⟨a, c, ?_, ?_, ?_, ?_⟩
                    · rw [h1, hn, h2]
                    · rw [hn]; show (P j).length ≤ 5000001; omega
                    · rw [hn]; show (P j).length ≤ c; omega
                    · omega
                  have HCK : Hid (∀ w' X k i, SS w7.heap.size w7 w' (.slice (some ⟨gL, 0, none⟩) 6 cL) vs X n k i → ∀ (j : Nat) (x : Value), vs[j]? = some x → w'.cell? ⟨gL, j, none⟩ = some x) := fun w' X k i h j x hx => by
                    have hr := h.row
                    rw [H6.out] at hr
                    rw [World.ownsRow.cellAt hr j (by have := (List.getElem?_eq_some_iff.1 hx).1; rw [H6.out] at this; omega)]
                    exact hx
                  clear HLA HCL HVS HBA hbel hn hgL
                  go_wp2
                  go_loopw [19] (fun kk wr => ∃ (k : Nat) (X : Nat → List Value), k ≤ 6 ∧ kk = .int .i64 (k : Int) ∧ SS w7.heap.size w7 wr (.slice (some ⟨gL, 0, none⟩) 6 cL) vs X n k 0) (fun kk _ => 6 - (intOf kk).toNat)
                  case atStart => exact ⟨0, _, Nat.zero_le _, rfl, HSS.out⟩
                  case round =>
                    obtain ⟨k, X, hk, rfl, hS⟩ := hrel
                    clear HSS
                    by_cases hlt : k < 6
                    · obtain ⟨ak, ck, hvk, hnk, hck1, hck2⟩ := HVN.out k hlt
                      have HX : Hid (SS w7.heap.size w7 wr (.slice (some ⟨gL, 0, none⟩) 6 cL) vs X n k 0) := hS
                      have HVK : Hid (vs[k]? = some (.slice ak (n k) ck)) := hvk
                      have hki : (k : Int) < 6 := by omega
                      clear hS hvk
                      go_wp2
                      go_loopw [20] (fun ii wx => ∃ (i : Nat) (X : Nat → List Value), i ≤ n k ∧ ii = .int .i64 (i : Int) ∧ SS w7.heap.size w7 wx (.slice (some ⟨gL, 0, none⟩) 6 cL) vs X n k i) (fun ii _ => n k - (intOf ii).toNat)
                      case atStart => exact ⟨0, X, Nat.zero_le _, rfl, HX.out⟩
                      case round =>
                        obtain ⟨i, X, hi, rfl, hS⟩ := hrel
                        clear HX
                        have c0 := HCK.out _ _ _ _ hS _ _ HVK.out
                        by_cases hli : i < n k
                        · have hbk := hS.base k _ HVK.out
                          obtain ⟨g, rfl⟩ : ∃ g, ak = some ⟨g, 0, none⟩ := by
                            rcases hbk.2 with ⟨e, h1⟩ | ⟨g, cap, cur, e, _⟩
                            · rw [hS.lens k] at h1; omega
                            · simp only [Value.slice.injEq] at e
                              exact ⟨g, e.1⟩
                          rw [hS.lens k] at hbk
                          obtain ⟨y, hy⟩ : ∃ y, (X k)[i]? = some y := ⟨(X k)[i]'(by rw [hS.lens k]; exact hli), List.getElem?_eq_getElem _⟩
                          have hcy : wr.cell? ⟨g, i, none⟩ = some y := by rw [World.ownsRow.cellAt hbk i (by omega)]; exact hy
                          have hfz := row_frozen hbk i
                          have hca : ∀ o, (wr.alloc o).cell? ⟨g, i, none⟩ = some y := fun o => ((up0 wr o).cell (p := ⟨g, i, none⟩) (World.block_lt_of_cell? _ _ hcy)).trans hcy
                          have hfa : ∀ o, (wr.alloc o).frozen? ⟨g, i, none⟩ = false := fun o => ((up0 wr o).frozen (p := ⟨g, i, none⟩) (World.block_lt_of_cell? _ _ hcy)).trans hfz
                          have HR : Hid (∀ z : Int, z = ((11 + k : Nat) : Int) → SS w7.heap.size w7 ((wr.alloc (.cells #[.int .u8 z] 5)).setCell ⟨g, i, none⟩ (.slice (some ⟨wr.heap.size, 0, none⟩) 1 1)) (.slice (some ⟨gL, 0, none⟩) 6 cL) vs (fun j => if j = k then (X k).set i (.slice (some ⟨wr.heap.size, 0, none⟩) 1 1) else X j) n k (i + 1)) := fun z hz => by
                            subst hz
                            exact (hS.kept (up0 _ _)).put HVK.out _ (Own.lit wr [11 + k] (by intro q hq; simp at hq; omega) hS.hB (by simp [maxLen]) _ rfl)
                          clear hS hbk hy hcy hfz
                          go_wp2
                          go_roundw
                          case rel => exact ⟨i + 1, _, by omega, by go_num, HR.out _ (by omega)⟩
                          case measure => simp [intOf]; omega
                        · obtain rfl : i = n k := by omega
                          have HN : Hid (SS w7.heap.size w7 wr (.slice (some ⟨gL, 0, none⟩) 6 cL) vs X n (k + 1) 0) := hS.next
                          clear hS
                          go_wp2
                          go_roundw
                          case rel => exact ⟨k + 1, X, by omega, by go_num, HN.out⟩
                          case measure => simp [intOf]; omega
                    · obtain rfl : k = 6 := by omega
                      rw [show ((6 : Nat) : Int) = (6 : Int) from rfl]
                      generalize wr = wC at *
                      have HGG : Hid (GG w7.heap.size w7 wC (.slice (some ⟨gL, 0, none⟩) 6 cL) vs X n [] (fun _ => []) (.slice none 0 0)) := GG.start hS
                      clear hS
                      have hss := infoTSS
                      go_wp2
                      go_loopw [21, 22] (fun m kk wr => ∃ (gs : List Value) (Y : Nat → List Value), gs.length ≤ 6 ∧ kk = .int .i64 (gs.length : Int) ∧ GG w7.heap.size w7 wr (.slice (some ⟨gL, 0, none⟩) 6 cL) vs X n gs Y m) (fun _ kk _ => 6 - (intOf kk).toNat)
                      case atStart => exact ⟨[], _, Nat.zero_le _, rfl, HGG.out⟩
                      case round =>
                        obtain ⟨gs, Y, hgl, rfl, hG⟩ := hrel
                        clear HGG
                        by_cases hlt : gs.length < 6
                        · obtain ⟨k, hk⟩ : ∃ k, gs.length = k := ⟨_, rfl⟩
                          rw [hk] at hlt ⊢
                          obtain ⟨ak, ck, hvk, hnk, hck1, hck2⟩ := HVN.out k hlt
                          have HK : Hid (gs.length = k) := hk
                          have HVK : Hid (vs[k]? = some (.slice ak (n k) ck)) := hvk
                          have c0 := HCK.out _ _ _ _ hG.ss _ _ hvk
                          have HX : Hid (GW w7.heap.size w7 wr wr (.slice (some ⟨gL, 0, none⟩) 6 cL) vs X n gs Y u21 k (.slice ak (n k) ck) []) := GW.start hG hvk
                          have hki : (k : Int) < 6 := by omega
                          generalize wr = ws at *
                          clear hG hvk hk hgl
                          go_wp2
                          go_loopw [23] (fun gv wx => ∃ ys : List Value, ys.length ≤ 70 ∧ GW w7.heap.size w7 ws wx (.slice (some ⟨gL, 0, none⟩) 6 cL) vs X n gs Y u21 k gv ys) (fun gv _ => n k + 70 - lenV gv)
                          case atStart => exact ⟨[], by simp, HX.out⟩
                          case round =>
                            obtain ⟨ys, hyl, hW⟩ := hrel
                            clear HX c0
                            have c0 := HCK.out _ _ _ _ hW.gg.ss _ _ HVK.out
                            have hxl : (X k ++ ys).length = n k + ys.length := by rw [List.length_append, hW.gg.ss.lens]
                            obtain ⟨ag, cg, eg, _⟩ := row_slice hW.own
                            rw [hxl] at eg
                            subst eg
                            obtain ⟨q, hq⟩ : ∃ q, ys.length = q := ⟨_, rfl⟩
                            rw [hq] at hyl hxl hW ⊢
                            have HQL : Hid (ys.length = q ∧ (X k ++ ys).length = n k + q) := ⟨hq, hxl⟩
                            clear hq hxl
                            by_cases hlq : q < 70
                            · have HY2 : Hid (∀ (z : Int) (o2 : Obj), z = ((11 + k : Nat) : Int) → GW w7.heap.size w7 ws ((wr.alloc (.cells #[.int .u8 z] 5)).alloc o2) (.slice (some ⟨gL, 0, none⟩) 6 cL) vs X n gs Y u21 k (.slice ag (n k + q) cg) ys ∧ Own w7.heap.size ((wr.alloc (.cells #[.int .u8 z] 5)).alloc o2) (.slice (some ⟨wr.heap.size, 0, none⟩) 1 1) [11 + k] ∧ w7.heap.size ≤ ((wr.alloc (.cells #[.int .u8 z] 5)).alloc o2).heap.size) := fun z o2 hz => by
                                subst hz
                                have h1 := (hW.kept (up0 _ (.cells #[.int .u8 ((11 + k : Nat) : Int)] 5))).kept (up0 _ o2)
                                exact ⟨h1, (Own.lit wr [11 + k] (by intro q hq; simp at hq; omega) hW.gg.ss.hB (by simp [maxLen]) _ rfl).kept (up0 _ _), h1.gg.ss.hB⟩
                              have HL5 : Hid ((X k ++ ys).length ≤ 5000000000) := by show _ ≤ _; rw [HQL.out.2]; omega
                              have HLX : Hid (∀ N, N = (X k ++ ys).length ∨ N = (X k).length + ys.length → (X k).length ≤ N) := fun N hN => by
                                have := @List.length_append _ (X k) ys
                                omega
                              have HCC : Hid (∀ (z : Int) (t : TypeId), ((wr.alloc (.cells #[.int .u8 z] 5)).alloc (.cells #[.slice (some ⟨wr.heap.size, 0, none⟩) 1 1] t)).cell? ⟨wr.heap.size + 1, 0, none⟩ = some (.slice (some ⟨wr.heap.size, 0, none⟩) 1 1)) := fun z t => by
                                have h9 := World.cell?_alloc_new (wr.alloc (.cells #[.int .u8 z] 5)) #[.slice (some ⟨wr.heap.size, 0, none⟩) 1 1] t 0
                                rw [heap_one] at h9
                                exact h9
                              have HR : Hid (∀ (z : Int) (o2 : Obj) (w' : World) (g' : Value) (N : Nat), z = ((11 + k : Nat) : Int) → RowIs w7.heap.size 25 w' g' (X k ++ (ys ++ [.slice (some ⟨wr.heap.size, 0, none⟩) 1 1])) → ((wr.alloc (.cells #[.int .u8 z] 5)).alloc o2).grownBy w' (Value.slice ag (n k + q) cg).ownBlock → (g'.ownBlock = (Value.slice ag (n k + q) cg).ownBlock ∨ g'.ownBlock = some (wr.heap.size + 1 + 1)) → Views w7.heap.size 25 ((wr.alloc (.cells #[.int .u8 z] 5)).alloc o2) w' N → (X k).length ≤ N → GW w7.heap.size w7 ws w' (.slice (some ⟨gL, 0, none⟩) 6 cL) vs X n gs Y u21 k g' (ys ++ [.slice (some ⟨wr.heap.size, 0, none⟩) 1 1]) ∧ lenV g' = n k + (q + 1)) := fun z o2 w' g' N hz h1 h2 h3 h4 h5 => by
                                have hp := (HY2.out z o2 hz).1.push (Nat.le_of_eq HK.out) (HY2.out z o2 hz).2.1 h1 h2 (by rw [heap_one, heap_one]; exact h3) h4 h5
                                refine ⟨hp, ?_⟩
                                obtain ⟨a9, c9, e9, _⟩ := row_slice hp.own
                                rw [e9]
                                show (X k ++ (ys ++ [_])).length = _
                                have := @List.length_append _ (X k) ys
                                have := HQL.out
                                simp only [List.length_append, List.length_cons, List.length_nil]
                                omega
                              clear hW
                              go_wp2_with (at_builtin; refine wpList_append_views _ rfl (.tmp 160) (.tmp 165) 25 23 rfl w7.heap.size hib Tryd.underlying23 _ (X k ++ ys) rfl (HY2.out _ _ (by omega)).1.own (wr.heap.size + 1) (.slice (some ⟨wr.heap.size, 0, none⟩) 1 1) rfl (HCC.out _ _) rfl HL5.out (HY2.out _ _ (by omega)).2.2 ?_)
                              intro g' w' hr' hg' hat' hv'
                              have R : Hid (GW w7.heap.size w7 ws w' (.slice (some ⟨gL, 0, none⟩) 6 cL) vs X n gs Y u21 k g' (ys ++ [.slice (some ⟨wr.heap.size, 0, none⟩) 1 1]) ∧ lenV g' = n k + (q + 1)) := HR.out _ _ _ _ _ (by omega) hr' hg' hat' hv' (HLX.out _ (by simp))
                              clear hr' hg' hat' hv' HY2 HR HL5 HLX HCC
                              go_wp2
                              go_roundw
                              case rel =>
                                first
                                  | exact ⟨ys ++ [.slice (some ⟨wr.heap.size, 0, none⟩) 1 1], by rw [List.length_append, HQL.out.1]; simp; omega, R.out.1⟩
                                  | (repeat apply Exists.intro
                                     exact ⟨⟨ys ++ [.slice (some ⟨wr.heap.size, 0, none⟩) 1 1], by rw [List.length_append, HQL.out.1]; simp; omega, R.out.1⟩, rfl⟩)
                              case measure => rw [R.out.2]; simp [lenV]; omega
                            · obtain rfl : q = 70 := by omega
                              have HW3 : Hid (∀ o, GW w7.heap.size w7 ws (wr.alloc o) (.slice (some ⟨gL, 0, none⟩) 6 cL) vs X n gs Y u21 k (.slice ag (n k + 70) cg) ys) := fun o => hW.kept (up0 _ _)
                              have hgs6 : gs.length ≤ 5000000000 := by have := HK.out; omega
                              clear hW
                              go_wp2_with (at_builtin; refine wpList_append_views _ rfl (.tmp 167) (.tmp 169) 23 39 rfl w7.heap.size hss Tryd.underlying39 _ gs rfl (HW3.out _).gg.more _ (.slice ag (n k + 70) cg) rfl (World.cell?_alloc_new wr _ _ 0) rfl hgs6 (HW3.out _).gg.ss.hB ?_)
                              intro m' w' hr' hg' hat' _
                              have R : Hid (GG w7.heap.size w7 w' (.slice (some ⟨gL, 0, none⟩) 6 cL) vs X n (gs ++ [.slice ag (n k + 70) cg]) (fun i => if i = k then X k ++ ys else Y i) m' ∧ (gs ++ [Value.slice ag (n k + 70) cg]).length = k + 1) := ⟨(HW3.out _).done HK.out hlt HQL.out.1 hr' hg' (by rw [heap_one]; exact hat'), by rw [List.length_append, HK.out]; rfl⟩
                              clear hr' hg' hat' HW3
                              go_wp2
                              go_roundw
                              case rel =>
                                first
                                  | exact ⟨_, _, by rw [R.out.2]; omega, by rw [R.out.2]; go_num, R.out.1⟩
                                  | (repeat apply Exists.intro
                                     exact ⟨⟨_, _, by rw [R.out.2]; omega, by rw [R.out.2]; go_num, R.out.1⟩, rfl⟩)
                              case measure => simp [intOf]; omega
                        · have h6g : gs.length = 6 := by omega
                          rw [h6g]
                          rw [show ((6 : Nat) : Int) = (6 : Int) from rfl]
                          have hmr := hG.more
                          obtain ⟨gM, cM, eM, hM1, hM2, hM3, hM4⟩ := row_cell hmr (by omega)
                          rw [h6g] at eM hM1
                          unfold maxLen at hM2
                          subst eM
                          generalize wr = wD at *
                          have HG : Hid (∀ w', Below wD.heap.size wD w' → GG w7.heap.size w7 w' (.slice (some ⟨gL, 0, none⟩) 6 cL) vs X n gs Y (.slice (some ⟨gM, 0, none⟩) 6 cM)) := fun w' hb => hG.kept hb
                          have H6G : Hid (gs.length = 6) := h6g
                          have HBD : Hid (∀ w', Below wD.heap.size wD w' → Below w7.heap.size w7 w') := fun w' hb => hG.ss.bel.trans (hb.mono hG.ss.hB)
                          clear hG hmr hM3 hM4 h6g hgl hlt
                          go_wp2
                          go_loopw [24] (fun kk wr => ∃ k : Nat, k ≤ 2 ∧ kk = .int .i64 (k : Int) ∧ Below wD.heap.size wD wr) (fun kk _ => 2 - (intOf kk).toNat)
                          case atStart => exact ⟨0, Nat.zero_le _, rfl, Below.refl _ _⟩
                          case round =>
                            obtain ⟨k, hk, rfl, hbel⟩ := hrel
                            by_cases hlt : k < 2
                            · obtain ⟨a, n1, c, a', n', c', hq⟩ := HQ.out k hlt
                              have hki : (k : Int) < 2 := by omega
                              have x1 := (hq _ (HBD.out _ hbel)).1
                              have HCA : Hid (Calls Tryd.prog 15 #[.slice a n1 c, .int .i64 0] wr fun e w'' => ∃ a3 n3 c3, ∃ ps q3, e = .returned (.tuple #[.slice a3 n3 c3, q3]) ∧ Ans wr.heap.size w'' (.slice a3 n3 c3) ps ∧ ps.map Prod.snd = RQ k ∧ Below wr.heap.size wr w'') := (hq _ (HBD.out _ hbel)).2.2.2
                              have HQK : Hid (∀ w', Below wD.heap.size wD w' → w'.cell? ⟨gW, k, none⟩ = some (.slice a' n' c') ∧ Ps w' (.slice a' n' c') (RQ k)) := fun w' hb => ⟨(hq _ (HBD.out _ hb)).2.1, (hq _ (HBD.out _ hb)).2.2.1⟩
                              clear hq
                              go_wp2_with fail
                              refine HCA.out.mono ?_
                              rintro e w8 ⟨a3, n3, c3, ps, q3, rfl, hA8, hm8, b8⟩
                              have B8 := andThen hbel b8
                              have x2 := (HQK.out _ B8).1
                              have HSA : Hid (Calls Tryd.prog 10 #[.slice a3 n3 c3, .slice a' n' c'] w8 fun e w'' => e = .returned (.bool true) ∧ Below w8.heap.size w8 w'') := sameAll_yes _ _ (RQ k) w8 (by rw [← hm8]; exact hA8.ps) (HQK.out _ B8).2
                              clear hA8 hm8 HCA HQK b8 x1
                              go_wp2_with fail
                              refine HSA.out.mono ?_
                              rintro e w9 ⟨rfl, b9⟩
                              have B9 := andThen B8 b9
                              clear HSA B8 b9 hbel x2
                              go_wp2
                              go_roundw
                              case rel => exact ⟨k + 1, by omega, by go_num, B9⟩
                              case measure => simp [intOf]; omega
                            · obtain rfl : k = 2 := by omega
                              rw [show ((2 : Nat) : Int) = (2 : Int) from rfl]
                              generalize wr = wE at *
                              have HGE : Hid (∀ w', Below wE.heap.size wE w' → Below wD.heap.size wD w') := fun w' hb => andThen hbel hb
                              clear hbel
                              go_wp2
                              go_loopw [27] (fun kk wr => ∃ k : Nat, k ≤ 6 ∧ kk = .int .i64 (k : Int) ∧ Below wE.heap.size wE wr) (fun kk _ => 6 - (intOf kk).toNat)
                              case atStart => exact ⟨0, Nat.zero_le _, rfl, Below.refl _ _⟩
                              case round =>
                                obtain ⟨k, hk, rfl, hbel⟩ := hrel
                                by_cases hlt : k < 6
                                · obtain ⟨ak, ck, hvk, hnk, hck1, hck2⟩ := HVN.out k hlt
                                  have hki : (k : Int) < 6 := by omega
                                  obtain ⟨G, hGk⟩ : ∃ G, gs[k]? = some G := ⟨gs[k]'(by rw [H6G.out]; exact hlt), List.getElem?_eq_getElem _⟩
                                  have HGK : Hid (gs[k]? = some G ∧ vs[k]? = some (.slice ak (n k) ck)) := ⟨hGk, hvk⟩
                                  have hv0 := ((HG.out _ (HGE.out _ (Below.refl _ _))).view k G hGk)
                                  obtain ⟨gG, cG, yG, eG, hG1, hG2, _, _⟩ := row_get (i := 0) hv0.1 (by rw [hv0.2.1]; omega)
                                  rw [hv0.2.1] at eG hG1
                                  unfold maxLen at hG2
                                  subst eG
                                  have HCM : Hid (∀ w', Below wE.heap.size wE w' → w'.cell? ⟨gM, k, none⟩ = some (.slice (some ⟨gG, 0, none⟩) (n k + 70) cG) ∧ w'.cell? ⟨gL, k, none⟩ = some (.slice ak (n k) ck)) := fun w' hb => by
                                    have hg := HG.out _ (HGE.out _ hb)
                                    refine ⟨?_, HCK.out _ _ _ _ hg.ss _ _ HGK.out.2⟩
                                    have hr := hg.more
                                    rw [H6G.out] at hr
                                    rw [World.ownsRow.cellAt hr k (by omega)]
                                    exact HGK.out.1
                                  have HCI : Hid (∀ w' i, Below wE.heap.size wE w' → i < n k + 70 → ∃ a, ∃ m c : Nat, w'.cell? ⟨gG, i, none⟩ = some (.slice a m c) ∧ Bs w' (.slice a m c) [11 + k]) := fun w' i hb hi => by
                                    obtain ⟨h1, h2, h3⟩ := (HG.out _ (HGE.out _ hb)).view k _ HGK.out.1
                                    obtain ⟨g, c, x, e, _, _, hx, hc⟩ := row_get (i := i) h1 (by rw [h2]; exact hi)
                                    simp only [Value.slice.injEq, Option.some.injEq, Addr.mk.injEq, and_true] at e
                                    obtain ⟨rfl, _, rfl⟩ := e
                                    have ho := h3 x (List.mem_of_getElem? hx)
                                    obtain ⟨a, m, c', rfl⟩ := own_slice ho
                                    exact ⟨a, m, c', hc, ho.bs⟩
                                  have HCX : Hid (∀ w' i, Below wE.heap.size wE w' → i < n k → ∃ g a, ∃ m c : Nat, ak = some ⟨g, 0, none⟩ ∧ w'.cell? ⟨g, i, none⟩ = some (.slice a m c) ∧ Bs w' (.slice a m c) [11 + k]) := fun w' i hb hi => by
                                    have hs := (HG.out _ (HGE.out _ hb)).ss
                                    obtain ⟨g, c, x, e, _, _, hx, hc⟩ := row_get (i := i) (hs.base k _ HGK.out.2) (by rw [hs.lens]; exact hi)
                                    simp only [Value.slice.injEq] at e
                                    have ho := hs.mark k i x (.inl hlt) hx
                                    obtain ⟨a, m, c', rfl⟩ := own_slice ho
                                    exact ⟨g, a, m, c', e.1, hc, ho.bs⟩
                                  have HB0 : Hid (Below wE.heap.size wE wr) := hbel
                                  clear hv0 hGk hvk hbel
                                  go_wp2
                                  go_loopw [28] (fun ii wx => ∃ i : Nat, i ≤ n k + 70 ∧ ii = .int .i64 (i : Int) ∧ Below wE.heap.size wE wx) (fun ii _ => n k + 70 - (intOf ii).toNat)
                                  case atStart => exact ⟨0, Nat.zero_le _, rfl, HB0.out⟩
                                  case round =>
                                    obtain ⟨i, hi, rfl, hbel⟩ := hrel
                                    obtain ⟨m1, m2⟩ := HCM.out _ hbel
                                    by_cases hli : i < n k + 70
                                    · obtain ⟨ay, my, cy, y1, y2⟩ := HCI.out _ i hbel hli
                                      have HY1 : Hid (Bs wr (.slice ay my cy) [11 + k]) := y2
                                      clear y2 HB0
                                      by_cases hin2 : i < n k
                                      · go_wp2_with fail
                                        refine (sameMark _ _ _ _ k _ HY1.out (by omega) hlt).mono ?_
                                        rintro e w8 ⟨rfl, b8⟩
                                        have B8 := andThen hbel b8
                                        obtain ⟨n1, n2⟩ := HCM.out _ B8
                                        obtain ⟨gK, ax, mx, cx, rfl, z1, z2⟩ := HCX.out _ i B8 hin2
                                        have HZ : Hid (Bs w8 (.slice ax mx cx) [11 + k]) := z2
                                        clear z2 m1 m2 y1 HY1 b8
                                        go_wp2_with fail
                                        refine (sameMark _ _ _ _ k _ HZ.out (by omega) hlt).mono ?_
                                        rintro e w9 ⟨rfl, b9⟩
                                        have B9 := andThen B8 b9
                                        clear HZ B8 b9 hbel n1 n2 z1
                                        go_wp2
                                        go_roundw
                                        case rel => exact ⟨i + 1, by omega, by go_num, B9⟩
                                        case measure => simp [intOf]; omega
                                      · go_wp2_with fail
                                        refine (sameMark _ _ _ _ k _ HY1.out (by omega) hlt).mono ?_
                                        rintro e w8 ⟨rfl, b8⟩
                                        have B8 := andThen hbel b8
                                        obtain ⟨n1, n2⟩ := HCM.out _ B8
                                        clear m1 m2 y1 HY1 b8
                                        go_wp2
                                        go_roundw
                                        case rel => exact ⟨i + 1, by omega, by go_num, B8⟩
                                        case measure => simp [intOf]; omega
                                    · obtain rfl : i = n k + 70 := by omega
                                      clear HB0
                                      go_wp2
                                      go_roundw
                                      case rel => exact ⟨k + 1, by omega, by go_num, hbel⟩
                                      case measure => simp [intOf]; omega
                                · obtain rfl : k = 6 := by omega
                                  have HB1 : Hid (Below w1.heap.size w1 wr) := HBW.out _ (HBD.out _ (HGE.out _ hbel))
                                  clear hbel
                                  go_wp2_with fail
                                  refine (started_any _).mono ?_
                                  rintro e w9 ⟨rfl, b9⟩
                                  have B9 := andThen HB1.out b9
                                  clear HB1 b9
                                  go_wp2
                                  go_ret
                                  exact ⟨rfl, B9⟩
theorem wireLent_any (va : Value) (la : List (List Nat)) (vb : Value) (lb : List (List Nat)) (w : World) (hT : Tab w) (ha : Ps w va la) (hb : Ps w vb lb) (ca : ∀ j (h : j < la.length), la[j].length ≤ 140737488355328) (ka : ∀ ao n cap, va = .slice ao n cap → n ≤ cap) (cb : ∀ j (h : j < lb.length), lb[j].length ≤ 140737488355328) (kb : ∀ ao n cap, vb = .slice ao n cap → n ≤ cap) :
    Calls Tryd.prog 4 #[va, vb] w fun e w' => e = .returned (.bool true) ∧ Below w.heap.size w w' := wlent_any va vb la lb w hT ha hb ca cb ka kb
end Go.Proofs.YtppgijgmhjfdfaaDoor
