import Derived.Test.YtenhaogheilmoaaDoorQV9
import Derived.Test.YtenhaogheilmoaaDoorQE1
/-
  Package archive: Pack of valid records that are not too long.
-/
namespace Go.Proofs.YtenhaogheilmoaaDoor
open Go Go.RowKit
open Wb

theorem rcs_snoc (rs : List Rec) (k : Nat) (r : Rec) (h : rs[k]? = some r) : Ar.rcs recC (rs.take (k + 1)) = Ar.rcs recC (rs.take k) ++ fr (Ar.rcb recC r) := by
  rw [List.take_add_one, h]
  unfold Ar.rcs
  rw [Option.toList_some, List.flatMap_append, List.flatMap_singleton]
theorem rcs_take_len (rs : List Rec) (k : Nat) : (Ar.rcs recC (rs.take k)).length ≤ (Ar.rcs recC rs).length := by
  conv => rhs; rw [← List.take_append_drop k rs]
  unfold Ar.rcs
  rw [List.flatMap_append, List.length_append]
  omega
theorem pack_len (top : Nat) (rs : List Rec) (k : Nat) : (Ar.hd ++ Ar.fst top rs.length ++ Ar.rcs recC (rs.take k)).length ≤ (Ar.pack recC top rs).length := by
  have := rcs_take_len rs k
  unfold Ar.pack Ar.fore
  simp only [List.length_append]
  omega
set_option maxRecDepth 100000 in
set_option maxHeartbeats 16000000 in
theorem arpack_ok (top : Nat) (rs : List Rec) (v : Value) (w : World) (h : RecsAt w v rs) (hg : ∀ r ∈ rs, r.good) (htop : top ≤ 9223372036854775807) (hn : rs.length ≤ 10000000) (hlen : (Ar.pack recC top rs).length ≤ 8388608) (hT : Tab w) (hT2 : Text.TabP 3 .i32 Text.Tx.lets w) (hG : TagsT w) :
    Calls Tryd.prog 7 #[.agg #[.int .i64 (top : Int), v]] w fun e w' => ∃ a c, ∃ m : Nat, e = .returned (.tuple #[.slice a m c, .int .i64 0]) ∧ Own w.heap.size w' (.slice a m c) (Ar.pack recC top rs) ∧ Below w.heap.size w w' := by
  have hin := info5
  have HIR : Hid ((Tryd.prog.info? 44).map (·.size) = some 12) := infoRec
  have HRS : Hid (∀ w', Below w.heap.size w w' → RecsAt w' v rs) := fun w' hb => h.kept hb
  have HGE : Hid (∀ r ∈ rs, r.good) := hg
  have HTB : Hid (∀ w', Below w.heap.size w w' → Tab w' ∧ Text.TabP 3 .i32 Text.Tx.lets w' ∧ TagsT w') := fun w' hb => ⟨hT.kept hb, hT2.kept hb, hG.kept hb⟩
  have HLN : Hid (∀ k, (Ar.hd ++ Ar.fst top rs.length ++ Ar.rcs recC (rs.take k)).length ≤ 8388608) := fun k => Nat.le_trans (pack_len top rs k) hlen
  have HLE : Hid ((Ar.pack recC top rs).length ≤ 8388608) := hlen
  have HT9 : Hid (top < 18446744073709551616 ∧ rs.length < 18446744073709551616) := ⟨by omega, by omega⟩
  obtain ⟨ao, cap, rfl, hm, _⟩ := h
  unfold maxLen at hm
  have hd0 : ((top : Int) < 0) = False := by simp
  have hwt : IntKind.u64.wrap (top : Int) = (top : Int) := IntWalk.u64_in _ (by omega)
  have hwn : IntKind.u64.wrap (rs.length : Int) = (rs.length : Int) := IntWalk.u64_in _ (by omega)
  have HW0 : Hid (∀ W, W = w.alloc (.cells #[.int .i64 (top : Int), .slice ao rs.length cap] 30) → LB W w.heap.size 30 [.int .i64 (top : Int), .slice ao rs.length cap] ∧ Below w.heap.size w W) := fun W e => by
    subst e
    exact ⟨lb_new _ _ _, up0 _ _⟩
  clear hg hlen hT hT2 hG
  go_enter Tryd.func7, Tryd.ntmps7
  go_upto_region 3 with fail
  obtain ⟨W0, hW0⟩ : ∃ W0, W0 = w.alloc (.cells #[.int .i64 (top : Int), .slice ao rs.length cap] 30) := ⟨_, rfl⟩
  have HX0 : Hid (LB W0 w.heap.size 30 [.int .i64 (top : Int), .slice ao rs.length cap] ∧ Below w.heap.size w W0) := HW0.out _ hW0
  rw [← hW0]
  clear hW0 HW0
  have hb1 := HX0.out.1.cell 1 _ rfl
  go_wp2_with fail
  clear hb1
  go_loopw [17] (fun i wr => ∃ k : Nat, k ≤ rs.length ∧ i = .int .i64 (k : Int) ∧ Below W0.heap.size W0 wr) (fun i _ => rs.length - (intOf i).toNat)
  case atStart => exact ⟨0, Nat.zero_le _, rfl, Below.refl _ _⟩
  case round =>
    obtain ⟨k, hk, rfl, hbel⟩ := hrel
    by_cases hlt : k < rs.length
    · obtain ⟨r, hr⟩ : ∃ r, rs[k]? = some r := ⟨rs[k], List.getElem?_eq_getElem hlt⟩
      have hbw : Below w.heap.size w wr := HX0.out.2.trans (hbel.mono HX0.out.2.size)
      obtain ⟨ao', cap', e', _, hcr⟩ := HRS.out _ hbw
      simp only [Value.slice.injEq] at e'
      obtain ⟨rfl, _, rfl⟩ := e'
      obtain ⟨b, off, d, rfl, hrg, hbs⟩ := hcr k r hr
      have hgr := HGE.out r (List.mem_of_getElem? hr)
      have HCK : Hid (∀ W, Below wr.heap.size wr W → Calls Tryd.prog 15 #[rv r.x r.nm d] W fun e w' => e = .returned (.int .i64 0) ∧ Below W.heap.size W w') := fun W hW => (check_any r.x r.nm d r.l W (hbs.kept hW) (HTB.out _ (andThen hbw hW)).2.1 (HTB.out _ (andThen hbw hW)).2.2 (by have := hgr.short; omega)).mono fun e w' ⟨he, hb⟩ => ⟨by rw [he, hgr.1], hb⟩
      obtain ⟨ar, cr, rfl, _⟩ := hbs.shape
      have HR0 : Hid (wr.rangeAt b (off + k * 12) [.int .i64 r.x.v, .int .i64 r.x.k, .int .i64 r.x.s, .int .i64 r.x.p, .int .i64 r.x.t, .int .i64 r.x.a, .int .i64 r.x.l, .int .i64 r.x.c, .int .i64 r.x.n, .int .i64 r.x.i, .string r.nm, .slice ar r.l.length cr]) := hrg
      have HR1 : Hid ((wr.alloc (.cells #[.int .i64 r.x.v, .int .i64 r.x.k, .int .i64 r.x.s, .int .i64 r.x.p, .int .i64 r.x.t, .int .i64 r.x.a, .int .i64 r.x.l, .int .i64 r.x.c, .int .i64 r.x.n, .int .i64 r.x.i, .string r.nm, .slice ar r.l.length cr] 44)).rangeAt wr.heap.size 0 [.int .i64 r.x.v, .int .i64 r.x.k, .int .i64 r.x.s, .int .i64 r.x.p, .int .i64 r.x.t, .int .i64 r.x.a, .int .i64 r.x.l, .int .i64 r.x.c, .int .i64 r.x.n, .int .i64 r.x.i, .string r.nm, .slice ar r.l.length cr]) := new_range wr #[.int .i64 r.x.v, .int .i64 r.x.k, .int .i64 r.x.s, .int .i64 r.x.p, .int .i64 r.x.t, .int .i64 r.x.a, .int .i64 r.x.l, .int .i64 r.x.c, .int .i64 r.x.n, .int .i64 r.x.i, .string r.nm, .slice ar r.l.length cr]
      have HBL : Hid (Below W0.heap.size W0 wr) := hbel
      clear hcr hrg hbs hbel hr hgr hbw
      unfold rv at *
      go_wp2_with (first
        | (refine wpList_load_mid rfl 44 _ rfl b (off + k * 12) rfl [.int .i64 r.x.v, .int .i64 r.x.k, .int .i64 r.x.s, .int .i64 r.x.p, .int .i64 r.x.t, .int .i64 r.x.a, .int .i64 r.x.l, .int .i64 r.x.c, .int .i64 r.x.n, .int .i64 r.x.i, .string r.nm, .slice ar r.l.length cr] _ HR0.out Tryd.underlying44 rfl HIR.out ?_)
        | (refine wpList_load_mid rfl 44 _ rfl wr.heap.size 0 rfl [.int .i64 r.x.v, .int .i64 r.x.k, .int .i64 r.x.s, .int .i64 r.x.p, .int .i64 r.x.t, .int .i64 r.x.a, .int .i64 r.x.l, .int .i64 r.x.c, .int .i64 r.x.n, .int .i64 r.x.i, .string r.nm, .slice ar r.l.length cr] _ HR1.out Tryd.underlying44 rfl HIR.out ?_))
      refine (HCK.out _ (up0 _ _)).mono ?_
      rintro e w1 ⟨rfl, b1⟩
      have HB2 : Hid (Below W0.heap.size W0 w1) := andThen (up HBL.out _) b1
      clear b1 HCK HR0 HR1 HBL
      go_wp2_with fail
      go_roundw
      case rel => exact ⟨k + 1, by omega, by go_num, HB2.out⟩
      case measure => simp [intOf]; omega
    · obtain rfl : k = rs.length := by omega
      obtain ⟨w1, hw1⟩ : ∃ x, x = wr := ⟨_, rfl⟩
      subst hw1
      have HB1 : Hid (Below W0.heap.size W0 w1) := hbel
      have HT1 : Hid (Tab w1) := (HTB.out _ (HX0.out.2.trans (hbel.mono HX0.out.2.size))).1
      have HS : Hid (∀ W, Below w1.heap.size w1 W → W.cell? ⟨w.heap.size, 0, none⟩ = some (.int .i64 (top : Int)) ∧ W.cell? ⟨w.heap.size, 1, none⟩ = some (.slice ao rs.length cap)) := fun W hW => ⟨((HX0.out.1.kept HB1.out).kept hW).cell 0 _ rfl, ((HX0.out.1.kept HB1.out).kept hW).cell 1 _ rfl⟩
      clear hbel hk hlt
      go_upto_region 10 with fail
      go_cut [7] from 27 to 40 (fun s7 wx => ∃ a c, ∃ m : Nat, s7 = .slice a m c ∧ Own W0.heap.size wx (.slice a m c) (Ar.hd ++ Ar.fst top rs.length) ∧ Below W0.heap.size W0 wx)
      case first =>
        have hd9 := Below.drew (Below.refl w1.heap.size w1)
        refine wp_region_held_drew (S := fun W : World => W.cell? ⟨w.heap.size, 0, none⟩ = some (.int .i64 (top : Int)) ∧ W.cell? ⟨w.heap.size, 1, none⟩ = some (.slice ao rs.length cap)) (by kernel_rfl) (HS.out _ hd9) (fun hH => ?_)
        have st : PS 0 0 w1 top rs.length w1.drew 0 (.slice none 0 0) (.slice none 0 0) (.slice none 0 0) (.slice none 0 0) := ⟨hd9, trivial, trivial⟩
        obtain ⟨WW, hWW⟩ : ∃ x, x = w1.drew := ⟨_, rfl⟩
        rw [← hWW] at st hH ⊢
        clear hWW hd9
        refine zqk 2 rfl hH ?_
        simp only [Act.put, List.setIfInBounds_toArray, List.set_cons_zero, List.set_cons_succ, List.getElem_toArray, List.getElem_cons_zero, List.getElem_cons_succ]
        refine zqk 3 rfl hH ?_
        simp only [Act.put, List.setIfInBounds_toArray, List.set_cons_zero, List.set_cons_succ, List.getElem_toArray, List.getElem_cons_zero, List.getElem_cons_succ]
        refine zqk 4 rfl hH ?_
        simp only [Act.put, List.setIfInBounds_toArray, List.set_cons_zero, List.set_cons_succ, List.getElem_toArray, List.getElem_cons_zero, List.getElem_cons_succ]
        refine zqk 6 rfl hH ?_
        simp only [Act.put, List.setIfInBounds_toArray, List.set_cons_zero, List.set_cons_succ, List.getElem_toArray, List.getElem_cons_zero, List.getElem_cons_succ]
        refine zqk 7 rfl hH ?_
        simp only [Act.put, List.setIfInBounds_toArray, List.set_cons_zero, List.set_cons_succ, List.getElem_toArray, List.getElem_cons_zero, List.getElem_cons_succ]
        refine zqk 8 rfl hH ?_
        simp only [Act.put, List.setIfInBounds_toArray, List.set_cons_zero, List.set_cons_succ, List.getElem_toArray, List.getElem_cons_zero, List.getElem_cons_succ]
        refine zqk 9 rfl hH ?_
        simp only [Act.put, List.setIfInBounds_toArray, List.set_cons_zero, List.set_cons_succ, List.getElem_toArray, List.getElem_cons_zero, List.getElem_cons_succ]
        refine wpAnyH_ready (rs := [0, 5]) (by kernel_rfl) (by simp) ?_
        refine AllReadyH.cons rfl (fun K hK => ?_) (AllReadyH.cons rfl (fun K hK => ?_) AllReadyH.nil)
        · refine step_made rfl rfl st ?_
          intro WW gA st
          refine hK.out _ _ (HS.out _ st.b) (fun hH => ?_)
          clear hK K
          simp only [Act.put, List.setIfInBounds_toArray, List.set_cons_zero, List.set_cons_succ, List.getElem_toArray, List.getElem_cons_zero]
          refine wpAnyH_ready (rs := [1, 5]) (by kernel_rfl) (by simp) ?_
          refine AllReadyH.cons rfl (fun K hK => ?_) (AllReadyH.cons rfl (fun K hK => ?_) AllReadyH.nil)
          · refine step_marked rfl rfl rfl st ?_
            intro WW st
            refine hK.out _ _ (HS.out _ st.b) (fun hH => ?_)
            clear hK K
            simp only [Act.put, List.setIfInBounds_toArray, List.set_cons_zero, List.set_cons_succ, List.getElem_toArray, List.getElem_cons_zero, List.getElem_cons_succ]
            refine wpAnyH_ready (rs := [5]) (by kernel_rfl) (by simp) ?_
            refine AllReadyH.cons rfl (fun K hK => ?_) AllReadyH.nil
            refine step_num1 rfl rfl rfl st HT9.out.1 ?_
            intro WW a0 c0 m0 st
            refine hK.out _ _ (HS.out _ st.b) (fun hH => ?_)
            clear hK K
            simp only [Act.put, List.setIfInBounds_toArray, List.set_cons_zero, List.set_cons_succ, List.getElem_toArray, List.getElem_cons_zero, List.getElem_cons_succ]
            refine wpAnyH_ready (rs := [10]) (by kernel_rfl) (by simp) ?_
            refine AllReadyH.cons rfl (fun K hK => ?_) AllReadyH.nil
            refine step_num2 rfl rfl rfl st HT9.out.2 ?_
            intro WW a1 c1 m1 st
            refine hK.out _ _ (HS.out _ st.b) (fun hH => ?_)
            clear hK K
            simp only [Act.put, List.setIfInBounds_toArray, List.set_cons_zero, List.set_cons_succ, List.getElem_toArray, List.getElem_cons_zero, List.getElem_cons_succ]
            refine wpAnyH_ready (rs := [11]) (by kernel_rfl) (by simp) ?_
            refine AllReadyH.cons rfl (fun K hK => ?_) AllReadyH.nil
            refine step_both rfl rfl rfl rfl st ?_
            intro WW gP st
            refine hK.out _ _ (HS.out _ st.b) (fun hH => ?_)
            clear hK K
            simp only [Act.put, List.setIfInBounds_toArray, List.set_cons_zero, List.set_cons_succ, List.getElem_toArray, List.getElem_cons_zero, List.getElem_cons_succ]
            refine wpAnyH_ready (rs := [12]) (by kernel_rfl) (by simp) ?_
            refine AllReadyH.cons rfl (fun K hK => ?_) AllReadyH.nil
            refine step_framed rfl rfl rfl st HT1.out HT9.out.1 HT9.out.2 ?_
            intro WW a3 c3 m3 st
            refine hK.out _ _ (HS.out _ st.b) (fun hH => ?_)
            clear hK K
            simp only [Act.put, List.setIfInBounds_toArray, List.set_cons_zero, List.set_cons_succ, List.getElem_toArray, List.getElem_cons_zero, List.getElem_cons_succ]
            refine zqr 13 rfl (fun K hK => ?_)
            refine step_head rfl (.tmp 28) (.tmp 39) rfl st rfl rfl HT9.out.1 HT9.out.2 ?_
            intro W7 a7 c7 m7 o7 b7
            refine hK.out _ _ (HS.out _ b7) (fun hH => ?_)
            simp only [Act.put, List.setIfInBounds_toArray, List.set_cons_zero, List.set_cons_succ, List.getElem_toArray, List.getElem_cons_zero, List.getElem_cons_succ]
            refine zqk 14 rfl hH ?_
            simp only [Act.put, List.setIfInBounds_toArray, List.set_cons_zero, List.set_cons_succ, List.getElem_toArray, List.getElem_cons_zero, List.getElem_cons_succ]
            refine wpAnyH_done (by kernel_rfl) ?_ _
            have H7 : Hid (Own W0.heap.size W7 (.slice a7 m7 c7) (Ar.hd ++ Ar.fst top rs.length) ∧ Below W0.heap.size W0 W7) := ⟨own_weak o7 HB1.out.size, HB1.out.trans (b7.mono HB1.out.size)⟩
            clear st hK K hH o7 b7
            go_wp2_with fail
            go_meet
            exact ⟨_, _, _, rfl, H7.out.1, H7.out.2⟩
          · refine step_num1 rfl rfl rfl st HT9.out.1 ?_
            intro WW a0 c0 m0 st
            refine hK.out _ _ (HS.out _ st.b) (fun hH => ?_)
            clear hK K
            simp only [Act.put, List.setIfInBounds_toArray, List.set_cons_zero, List.set_cons_succ, List.getElem_toArray, List.getElem_cons_zero, List.getElem_cons_succ]
            refine wpAnyH_ready (rs := [1, 10]) (by kernel_rfl) (by simp) ?_
            refine AllReadyH.cons rfl (fun K hK => ?_) (AllReadyH.cons rfl (fun K hK => ?_) AllReadyH.nil)
            · refine step_marked rfl rfl rfl st ?_
              intro WW st
              refine hK.out _ _ (HS.out _ st.b) (fun hH => ?_)
              clear hK K
              simp only [Act.put, List.setIfInBounds_toArray, List.set_cons_zero, List.set_cons_succ, List.getElem_toArray, List.getElem_cons_zero, List.getElem_cons_succ]
              refine wpAnyH_ready (rs := [10]) (by kernel_rfl) (by simp) ?_
              refine AllReadyH.cons rfl (fun K hK => ?_) AllReadyH.nil
              refine step_num2 rfl rfl rfl st HT9.out.2 ?_
              intro WW a1 c1 m1 st
              refine hK.out _ _ (HS.out _ st.b) (fun hH => ?_)
              clear hK K
              simp only [Act.put, List.setIfInBounds_toArray, List.set_cons_zero, List.set_cons_succ, List.getElem_toArray, List.getElem_cons_zero, List.getElem_cons_succ]
              refine wpAnyH_ready (rs := [11]) (by kernel_rfl) (by simp) ?_
              refine AllReadyH.cons rfl (fun K hK => ?_) AllReadyH.nil
              refine step_both rfl rfl rfl rfl st ?_
              intro WW gP st
              refine hK.out _ _ (HS.out _ st.b) (fun hH => ?_)
              clear hK K
              simp only [Act.put, List.setIfInBounds_toArray, List.set_cons_zero, List.set_cons_succ, List.getElem_toArray, List.getElem_cons_zero, List.getElem_cons_succ]
              refine wpAnyH_ready (rs := [12]) (by kernel_rfl) (by simp) ?_
              refine AllReadyH.cons rfl (fun K hK => ?_) AllReadyH.nil
              refine step_framed rfl rfl rfl st HT1.out HT9.out.1 HT9.out.2 ?_
              intro WW a3 c3 m3 st
              refine hK.out _ _ (HS.out _ st.b) (fun hH => ?_)
              clear hK K
              simp only [Act.put, List.setIfInBounds_toArray, List.set_cons_zero, List.set_cons_succ, List.getElem_toArray, List.getElem_cons_zero, List.getElem_cons_succ]
              refine zqr 13 rfl (fun K hK => ?_)
              refine step_head rfl (.tmp 28) (.tmp 39) rfl st rfl rfl HT9.out.1 HT9.out.2 ?_
              intro W7 a7 c7 m7 o7 b7
              refine hK.out _ _ (HS.out _ b7) (fun hH => ?_)
              simp only [Act.put, List.setIfInBounds_toArray, List.set_cons_zero, List.set_cons_succ, List.getElem_toArray, List.getElem_cons_zero, List.getElem_cons_succ]
              refine zqk 14 rfl hH ?_
              simp only [Act.put, List.setIfInBounds_toArray, List.set_cons_zero, List.set_cons_succ, List.getElem_toArray, List.getElem_cons_zero, List.getElem_cons_succ]
              refine wpAnyH_done (by kernel_rfl) ?_ _
              have H7 : Hid (Own W0.heap.size W7 (.slice a7 m7 c7) (Ar.hd ++ Ar.fst top rs.length) ∧ Below W0.heap.size W0 W7) := ⟨own_weak o7 HB1.out.size, HB1.out.trans (b7.mono HB1.out.size)⟩
              clear st hK K hH o7 b7
              go_wp2_with fail
              go_meet
              exact ⟨_, _, _, rfl, H7.out.1, H7.out.2⟩
            · refine step_num2 rfl rfl rfl st HT9.out.2 ?_
              intro WW a1 c1 m1 st
              refine hK.out _ _ (HS.out _ st.b) (fun hH => ?_)
              clear hK K
              simp only [Act.put, List.setIfInBounds_toArray, List.set_cons_zero, List.set_cons_succ, List.getElem_toArray, List.getElem_cons_zero, List.getElem_cons_succ]
              refine wpAnyH_ready (rs := [1, 11]) (by kernel_rfl) (by simp) ?_
              refine AllReadyH.cons rfl (fun K hK => ?_) (AllReadyH.cons rfl (fun K hK => ?_) AllReadyH.nil)
              · refine step_marked rfl rfl rfl st ?_
                intro WW st
                refine hK.out _ _ (HS.out _ st.b) (fun hH => ?_)
                clear hK K
                simp only [Act.put, List.setIfInBounds_toArray, List.set_cons_zero, List.set_cons_succ, List.getElem_toArray, List.getElem_cons_zero, List.getElem_cons_succ]
                refine wpAnyH_ready (rs := [11]) (by kernel_rfl) (by simp) ?_
                refine AllReadyH.cons rfl (fun K hK => ?_) AllReadyH.nil
                refine step_both rfl rfl rfl rfl st ?_
                intro WW gP st
                refine hK.out _ _ (HS.out _ st.b) (fun hH => ?_)
                clear hK K
                simp only [Act.put, List.setIfInBounds_toArray, List.set_cons_zero, List.set_cons_succ, List.getElem_toArray, List.getElem_cons_zero, List.getElem_cons_succ]
                refine wpAnyH_ready (rs := [12]) (by kernel_rfl) (by simp) ?_
                refine AllReadyH.cons rfl (fun K hK => ?_) AllReadyH.nil
                refine step_framed rfl rfl rfl st HT1.out HT9.out.1 HT9.out.2 ?_
                intro WW a3 c3 m3 st
                refine hK.out _ _ (HS.out _ st.b) (fun hH => ?_)
                clear hK K
                simp only [Act.put, List.setIfInBounds_toArray, List.set_cons_zero, List.set_cons_succ, List.getElem_toArray, List.getElem_cons_zero, List.getElem_cons_succ]
                refine zqr 13 rfl (fun K hK => ?_)
                refine step_head rfl (.tmp 28) (.tmp 39) rfl st rfl rfl HT9.out.1 HT9.out.2 ?_
                intro W7 a7 c7 m7 o7 b7
                refine hK.out _ _ (HS.out _ b7) (fun hH => ?_)
                simp only [Act.put, List.setIfInBounds_toArray, List.set_cons_zero, List.set_cons_succ, List.getElem_toArray, List.getElem_cons_zero, List.getElem_cons_succ]
                refine zqk 14 rfl hH ?_
                simp only [Act.put, List.setIfInBounds_toArray, List.set_cons_zero, List.set_cons_succ, List.getElem_toArray, List.getElem_cons_zero, List.getElem_cons_succ]
                refine wpAnyH_done (by kernel_rfl) ?_ _
                have H7 : Hid (Own W0.heap.size W7 (.slice a7 m7 c7) (Ar.hd ++ Ar.fst top rs.length) ∧ Below W0.heap.size W0 W7) := ⟨own_weak o7 HB1.out.size, HB1.out.trans (b7.mono HB1.out.size)⟩
                clear st hK K hH o7 b7
                go_wp2_with fail
                go_meet
                exact ⟨_, _, _, rfl, H7.out.1, H7.out.2⟩
              · refine step_both rfl rfl rfl rfl st ?_
                intro WW gP st
                refine hK.out _ _ (HS.out _ st.b) (fun hH => ?_)
                clear hK K
                simp only [Act.put, List.setIfInBounds_toArray, List.set_cons_zero, List.set_cons_succ, List.getElem_toArray, List.getElem_cons_zero, List.getElem_cons_succ]
                refine wpAnyH_ready (rs := [1, 12]) (by kernel_rfl) (by simp) ?_
                refine AllReadyH.cons rfl (fun K hK => ?_) (AllReadyH.cons rfl (fun K hK => ?_) AllReadyH.nil)
                · refine step_marked rfl rfl rfl st ?_
                  intro WW st
                  refine hK.out _ _ (HS.out _ st.b) (fun hH => ?_)
                  clear hK K
                  simp only [Act.put, List.setIfInBounds_toArray, List.set_cons_zero, List.set_cons_succ, List.getElem_toArray, List.getElem_cons_zero, List.getElem_cons_succ]
                  refine wpAnyH_ready (rs := [12]) (by kernel_rfl) (by simp) ?_
                  refine AllReadyH.cons rfl (fun K hK => ?_) AllReadyH.nil
                  refine step_framed rfl rfl rfl st HT1.out HT9.out.1 HT9.out.2 ?_
                  intro WW a3 c3 m3 st
                  refine hK.out _ _ (HS.out _ st.b) (fun hH => ?_)
                  clear hK K
                  simp only [Act.put, List.setIfInBounds_toArray, List.set_cons_zero, List.set_cons_succ, List.getElem_toArray, List.getElem_cons_zero, List.getElem_cons_succ]
                  refine zqr 13 rfl (fun K hK => ?_)
                  refine step_head rfl (.tmp 28) (.tmp 39) rfl st rfl rfl HT9.out.1 HT9.out.2 ?_
                  intro W7 a7 c7 m7 o7 b7
                  refine hK.out _ _ (HS.out _ b7) (fun hH => ?_)
                  simp only [Act.put, List.setIfInBounds_toArray, List.set_cons_zero, List.set_cons_succ, List.getElem_toArray, List.getElem_cons_zero, List.getElem_cons_succ]
                  refine zqk 14 rfl hH ?_
                  simp only [Act.put, List.setIfInBounds_toArray, List.set_cons_zero, List.set_cons_succ, List.getElem_toArray, List.getElem_cons_zero, List.getElem_cons_succ]
                  refine wpAnyH_done (by kernel_rfl) ?_ _
                  have H7 : Hid (Own W0.heap.size W7 (.slice a7 m7 c7) (Ar.hd ++ Ar.fst top rs.length) ∧ Below W0.heap.size W0 W7) := ⟨own_weak o7 HB1.out.size, HB1.out.trans (b7.mono HB1.out.size)⟩
                  clear st hK K hH o7 b7
                  go_wp2_with fail
                  go_meet
                  exact ⟨_, _, _, rfl, H7.out.1, H7.out.2⟩
                · refine step_framed rfl rfl rfl st HT1.out HT9.out.1 HT9.out.2 ?_
                  intro WW a3 c3 m3 st
                  refine hK.out _ _ (HS.out _ st.b) (fun hH => ?_)
                  clear hK K
                  simp only [Act.put, List.setIfInBounds_toArray, List.set_cons_zero, List.set_cons_succ, List.getElem_toArray, List.getElem_cons_zero, List.getElem_cons_succ]
                  refine wpAnyH_ready (rs := [1]) (by kernel_rfl) (by simp) ?_
                  refine AllReadyH.cons rfl (fun K hK => ?_) AllReadyH.nil
                  refine step_marked rfl rfl rfl st ?_
                  intro WW st
                  refine hK.out _ _ (HS.out _ st.b) (fun hH => ?_)
                  clear hK K
                  simp only [Act.put, List.setIfInBounds_toArray, List.set_cons_zero, List.set_cons_succ, List.getElem_toArray, List.getElem_cons_zero, List.getElem_cons_succ]
                  refine zqr 13 rfl (fun K hK => ?_)
                  refine step_head rfl (.tmp 28) (.tmp 39) rfl st rfl rfl HT9.out.1 HT9.out.2 ?_
                  intro W7 a7 c7 m7 o7 b7
                  refine hK.out _ _ (HS.out _ b7) (fun hH => ?_)
                  simp only [Act.put, List.setIfInBounds_toArray, List.set_cons_zero, List.set_cons_succ, List.getElem_toArray, List.getElem_cons_zero, List.getElem_cons_succ]
                  refine zqk 14 rfl hH ?_
                  simp only [Act.put, List.setIfInBounds_toArray, List.set_cons_zero, List.set_cons_succ, List.getElem_toArray, List.getElem_cons_zero, List.getElem_cons_succ]
                  refine wpAnyH_done (by kernel_rfl) ?_ _
                  have H7 : Hid (Own W0.heap.size W7 (.slice a7 m7 c7) (Ar.hd ++ Ar.fst top rs.length) ∧ Below W0.heap.size W0 W7) := ⟨own_weak o7 HB1.out.size, HB1.out.trans (b7.mono HB1.out.size)⟩
                  clear st hK K hH o7 b7
                  go_wp2_with fail
                  go_meet
                  exact ⟨_, _, _, rfl, H7.out.1, H7.out.2⟩
        · refine step_num1 rfl rfl rfl st HT9.out.1 ?_
          intro WW a0 c0 m0 st
          refine hK.out _ _ (HS.out _ st.b) (fun hH => ?_)
          clear hK K
          simp only [Act.put, List.setIfInBounds_toArray, List.set_cons_zero, List.set_cons_succ, List.getElem_toArray, List.getElem_cons_zero, List.getElem_cons_succ]
          refine wpAnyH_ready (rs := [0, 10]) (by kernel_rfl) (by simp) ?_
          refine AllReadyH.cons rfl (fun K hK => ?_) (AllReadyH.cons rfl (fun K hK => ?_) AllReadyH.nil)
          · refine step_made rfl rfl st ?_
            intro WW gA st
            refine hK.out _ _ (HS.out _ st.b) (fun hH => ?_)
            clear hK K
            simp only [Act.put, List.setIfInBounds_toArray, List.set_cons_zero, List.set_cons_succ, List.getElem_toArray, List.getElem_cons_zero]
            refine wpAnyH_ready (rs := [1, 10]) (by kernel_rfl) (by simp) ?_
            refine AllReadyH.cons rfl (fun K hK => ?_) (AllReadyH.cons rfl (fun K hK => ?_) AllReadyH.nil)
            · refine step_marked rfl rfl rfl st ?_
              intro WW st
              refine hK.out _ _ (HS.out _ st.b) (fun hH => ?_)
              clear hK K
              simp only [Act.put, List.setIfInBounds_toArray, List.set_cons_zero, List.set_cons_succ, List.getElem_toArray, List.getElem_cons_zero, List.getElem_cons_succ]
              refine wpAnyH_ready (rs := [10]) (by kernel_rfl) (by simp) ?_
              refine AllReadyH.cons rfl (fun K hK => ?_) AllReadyH.nil
              refine step_num2 rfl rfl rfl st HT9.out.2 ?_
              intro WW a1 c1 m1 st
              refine hK.out _ _ (HS.out _ st.b) (fun hH => ?_)
              clear hK K
              simp only [Act.put, List.setIfInBounds_toArray, List.set_cons_zero, List.set_cons_succ, List.getElem_toArray, List.getElem_cons_zero, List.getElem_cons_succ]
              refine wpAnyH_ready (rs := [11]) (by kernel_rfl) (by simp) ?_
              refine AllReadyH.cons rfl (fun K hK => ?_) AllReadyH.nil
              refine step_both rfl rfl rfl rfl st ?_
              intro WW gP st
              refine hK.out _ _ (HS.out _ st.b) (fun hH => ?_)
              clear hK K
              simp only [Act.put, List.setIfInBounds_toArray, List.set_cons_zero, List.set_cons_succ, List.getElem_toArray, List.getElem_cons_zero, List.getElem_cons_succ]
              refine wpAnyH_ready (rs := [12]) (by kernel_rfl) (by simp) ?_
              refine AllReadyH.cons rfl (fun K hK => ?_) AllReadyH.nil
              refine step_framed rfl rfl rfl st HT1.out HT9.out.1 HT9.out.2 ?_
              intro WW a3 c3 m3 st
              refine hK.out _ _ (HS.out _ st.b) (fun hH => ?_)
              clear hK K
              simp only [Act.put, List.setIfInBounds_toArray, List.set_cons_zero, List.set_cons_succ, List.getElem_toArray, List.getElem_cons_zero, List.getElem_cons_succ]
              refine zqr 13 rfl (fun K hK => ?_)
              refine step_head rfl (.tmp 28) (.tmp 39) rfl st rfl rfl HT9.out.1 HT9.out.2 ?_
              intro W7 a7 c7 m7 o7 b7
              refine hK.out _ _ (HS.out _ b7) (fun hH => ?_)
              simp only [Act.put, List.setIfInBounds_toArray, List.set_cons_zero, List.set_cons_succ, List.getElem_toArray, List.getElem_cons_zero, List.getElem_cons_succ]
              refine zqk 14 rfl hH ?_
              simp only [Act.put, List.setIfInBounds_toArray, List.set_cons_zero, List.set_cons_succ, List.getElem_toArray, List.getElem_cons_zero, List.getElem_cons_succ]
              refine wpAnyH_done (by kernel_rfl) ?_ _
              have H7 : Hid (Own W0.heap.size W7 (.slice a7 m7 c7) (Ar.hd ++ Ar.fst top rs.length) ∧ Below W0.heap.size W0 W7) := ⟨own_weak o7 HB1.out.size, HB1.out.trans (b7.mono HB1.out.size)⟩
              clear st hK K hH o7 b7
              go_wp2_with fail
              go_meet
              exact ⟨_, _, _, rfl, H7.out.1, H7.out.2⟩
            · refine step_num2 rfl rfl rfl st HT9.out.2 ?_
              intro WW a1 c1 m1 st
              refine hK.out _ _ (HS.out _ st.b) (fun hH => ?_)
              clear hK K
              simp only [Act.put, List.setIfInBounds_toArray, List.set_cons_zero, List.set_cons_succ, List.getElem_toArray, List.getElem_cons_zero, List.getElem_cons_succ]
              refine wpAnyH_ready (rs := [1, 11]) (by kernel_rfl) (by simp) ?_
              refine AllReadyH.cons rfl (fun K hK => ?_) (AllReadyH.cons rfl (fun K hK => ?_) AllReadyH.nil)
              · refine step_marked rfl rfl rfl st ?_
                intro WW st
                refine hK.out _ _ (HS.out _ st.b) (fun hH => ?_)
                clear hK K
                simp only [Act.put, List.setIfInBounds_toArray, List.set_cons_zero, List.set_cons_succ, List.getElem_toArray, List.getElem_cons_zero, List.getElem_cons_succ]
                refine wpAnyH_ready (rs := [11]) (by kernel_rfl) (by simp) ?_
                refine AllReadyH.cons rfl (fun K hK => ?_) AllReadyH.nil
                refine step_both rfl rfl rfl rfl st ?_
                intro WW gP st
                refine hK.out _ _ (HS.out _ st.b) (fun hH => ?_)
                clear hK K
                simp only [Act.put, List.setIfInBounds_toArray, List.set_cons_zero, List.set_cons_succ, List.getElem_toArray, List.getElem_cons_zero, List.getElem_cons_succ]
                refine wpAnyH_ready (rs := [12]) (by kernel_rfl) (by simp) ?_
                refine AllReadyH.cons rfl (fun K hK => ?_) AllReadyH.nil
                refine step_framed rfl rfl rfl st HT1.out HT9.out.1 HT9.out.2 ?_
                intro WW a3 c3 m3 st
                refine hK.out _ _ (HS.out _ st.b) (fun hH => ?_)
                clear hK K
                simp only [Act.put, List.setIfInBounds_toArray, List.set_cons_zero, List.set_cons_succ, List.getElem_toArray, List.getElem_cons_zero, List.getElem_cons_succ]
                refine zqr 13 rfl (fun K hK => ?_)
                refine step_head rfl (.tmp 28) (.tmp 39) rfl st rfl rfl HT9.out.1 HT9.out.2 ?_
                intro W7 a7 c7 m7 o7 b7
                refine hK.out _ _ (HS.out _ b7) (fun hH => ?_)
                simp only [Act.put, List.setIfInBounds_toArray, List.set_cons_zero, List.set_cons_succ, List.getElem_toArray, List.getElem_cons_zero, List.getElem_cons_succ]
                refine zqk 14 rfl hH ?_
                simp only [Act.put, List.setIfInBounds_toArray, List.set_cons_zero, List.set_cons_succ, List.getElem_toArray, List.getElem_cons_zero, List.getElem_cons_succ]
                refine wpAnyH_done (by kernel_rfl) ?_ _
                have H7 : Hid (Own W0.heap.size W7 (.slice a7 m7 c7) (Ar.hd ++ Ar.fst top rs.length) ∧ Below W0.heap.size W0 W7) := ⟨own_weak o7 HB1.out.size, HB1.out.trans (b7.mono HB1.out.size)⟩
                clear st hK K hH o7 b7
                go_wp2_with fail
                go_meet
                exact ⟨_, _, _, rfl, H7.out.1, H7.out.2⟩
              · refine step_both rfl rfl rfl rfl st ?_
                intro WW gP st
                refine hK.out _ _ (HS.out _ st.b) (fun hH => ?_)
                clear hK K
                simp only [Act.put, List.setIfInBounds_toArray, List.set_cons_zero, List.set_cons_succ, List.getElem_toArray, List.getElem_cons_zero, List.getElem_cons_succ]
                refine wpAnyH_ready (rs := [1, 12]) (by kernel_rfl) (by simp) ?_
                refine AllReadyH.cons rfl (fun K hK => ?_) (AllReadyH.cons rfl (fun K hK => ?_) AllReadyH.nil)
                · refine step_marked rfl rfl rfl st ?_
                  intro WW st
                  refine hK.out _ _ (HS.out _ st.b) (fun hH => ?_)
                  clear hK K
                  simp only [Act.put, List.setIfInBounds_toArray, List.set_cons_zero, List.set_cons_succ, List.getElem_toArray, List.getElem_cons_zero, List.getElem_cons_succ]
                  refine wpAnyH_ready (rs := [12]) (by kernel_rfl) (by simp) ?_
                  refine AllReadyH.cons rfl (fun K hK => ?_) AllReadyH.nil
                  refine step_framed rfl rfl rfl st HT1.out HT9.out.1 HT9.out.2 ?_
                  intro WW a3 c3 m3 st
                  refine hK.out _ _ (HS.out _ st.b) (fun hH => ?_)
                  clear hK K
                  simp only [Act.put, List.setIfInBounds_toArray, List.set_cons_zero, List.set_cons_succ, List.getElem_toArray, List.getElem_cons_zero, List.getElem_cons_succ]
                  refine zqr 13 rfl (fun K hK => ?_)
                  refine step_head rfl (.tmp 28) (.tmp 39) rfl st rfl rfl HT9.out.1 HT9.out.2 ?_
                  intro W7 a7 c7 m7 o7 b7
                  refine hK.out _ _ (HS.out _ b7) (fun hH => ?_)
                  simp only [Act.put, List.setIfInBounds_toArray, List.set_cons_zero, List.set_cons_succ, List.getElem_toArray, List.getElem_cons_zero, List.getElem_cons_succ]
                  refine zqk 14 rfl hH ?_
                  simp only [Act.put, List.setIfInBounds_toArray, List.set_cons_zero, List.set_cons_succ, List.getElem_toArray, List.getElem_cons_zero, List.getElem_cons_succ]
                  refine wpAnyH_done (by kernel_rfl) ?_ _
                  have H7 : Hid (Own W0.heap.size W7 (.slice a7 m7 c7) (Ar.hd ++ Ar.fst top rs.length) ∧ Below W0.heap.size W0 W7) := ⟨own_weak o7 HB1.out.size, HB1.out.trans (b7.mono HB1.out.size)⟩
                  clear st hK K hH o7 b7
                  go_wp2_with fail
                  go_meet
                  exact ⟨_, _, _, rfl, H7.out.1, H7.out.2⟩
                · refine step_framed rfl rfl rfl st HT1.out HT9.out.1 HT9.out.2 ?_
                  intro WW a3 c3 m3 st
                  refine hK.out _ _ (HS.out _ st.b) (fun hH => ?_)
                  clear hK K
                  simp only [Act.put, List.setIfInBounds_toArray, List.set_cons_zero, List.set_cons_succ, List.getElem_toArray, List.getElem_cons_zero, List.getElem_cons_succ]
                  refine wpAnyH_ready (rs := [1]) (by kernel_rfl) (by simp) ?_
                  refine AllReadyH.cons rfl (fun K hK => ?_) AllReadyH.nil
                  refine step_marked rfl rfl rfl st ?_
                  intro WW st
                  refine hK.out _ _ (HS.out _ st.b) (fun hH => ?_)
                  clear hK K
                  simp only [Act.put, List.setIfInBounds_toArray, List.set_cons_zero, List.set_cons_succ, List.getElem_toArray, List.getElem_cons_zero, List.getElem_cons_succ]
                  refine zqr 13 rfl (fun K hK => ?_)
                  refine step_head rfl (.tmp 28) (.tmp 39) rfl st rfl rfl HT9.out.1 HT9.out.2 ?_
                  intro W7 a7 c7 m7 o7 b7
                  refine hK.out _ _ (HS.out _ b7) (fun hH => ?_)
                  simp only [Act.put, List.setIfInBounds_toArray, List.set_cons_zero, List.set_cons_succ, List.getElem_toArray, List.getElem_cons_zero, List.getElem_cons_succ]
                  refine zqk 14 rfl hH ?_
                  simp only [Act.put, List.setIfInBounds_toArray, List.set_cons_zero, List.set_cons_succ, List.getElem_toArray, List.getElem_cons_zero, List.getElem_cons_succ]
                  refine wpAnyH_done (by kernel_rfl) ?_ _
                  have H7 : Hid (Own W0.heap.size W7 (.slice a7 m7 c7) (Ar.hd ++ Ar.fst top rs.length) ∧ Below W0.heap.size W0 W7) := ⟨own_weak o7 HB1.out.size, HB1.out.trans (b7.mono HB1.out.size)⟩
                  clear st hK K hH o7 b7
                  go_wp2_with fail
                  go_meet
                  exact ⟨_, _, _, rfl, H7.out.1, H7.out.2⟩
          · refine step_num2 rfl rfl rfl st HT9.out.2 ?_
            intro WW a1 c1 m1 st
            refine hK.out _ _ (HS.out _ st.b) (fun hH => ?_)
            clear hK K
            simp only [Act.put, List.setIfInBounds_toArray, List.set_cons_zero, List.set_cons_succ, List.getElem_toArray, List.getElem_cons_zero, List.getElem_cons_succ]
            refine wpAnyH_ready (rs := [0, 11]) (by kernel_rfl) (by simp) ?_
            refine AllReadyH.cons rfl (fun K hK => ?_) (AllReadyH.cons rfl (fun K hK => ?_) AllReadyH.nil)
            · refine step_made rfl rfl st ?_
              intro WW gA st
              refine hK.out _ _ (HS.out _ st.b) (fun hH => ?_)
              clear hK K
              simp only [Act.put, List.setIfInBounds_toArray, List.set_cons_zero, List.set_cons_succ, List.getElem_toArray, List.getElem_cons_zero]
              refine wpAnyH_ready (rs := [1, 11]) (by kernel_rfl) (by simp) ?_
              refine AllReadyH.cons rfl (fun K hK => ?_) (AllReadyH.cons rfl (fun K hK => ?_) AllReadyH.nil)
              · refine step_marked rfl rfl rfl st ?_
                intro WW st
                refine hK.out _ _ (HS.out _ st.b) (fun hH => ?_)
                clear hK K
                simp only [Act.put, List.setIfInBounds_toArray, List.set_cons_zero, List.set_cons_succ, List.getElem_toArray, List.getElem_cons_zero, List.getElem_cons_succ]
                refine wpAnyH_ready (rs := [11]) (by kernel_rfl) (by simp) ?_
                refine AllReadyH.cons rfl (fun K hK => ?_) AllReadyH.nil
                refine step_both rfl rfl rfl rfl st ?_
                intro WW gP st
                refine hK.out _ _ (HS.out _ st.b) (fun hH => ?_)
                clear hK K
                simp only [Act.put, List.setIfInBounds_toArray, List.set_cons_zero, List.set_cons_succ, List.getElem_toArray, List.getElem_cons_zero, List.getElem_cons_succ]
                refine wpAnyH_ready (rs := [12]) (by kernel_rfl) (by simp) ?_
                refine AllReadyH.cons rfl (fun K hK => ?_) AllReadyH.nil
                refine step_framed rfl rfl rfl st HT1.out HT9.out.1 HT9.out.2 ?_
                intro WW a3 c3 m3 st
                refine hK.out _ _ (HS.out _ st.b) (fun hH => ?_)
                clear hK K
                simp only [Act.put, List.setIfInBounds_toArray, List.set_cons_zero, List.set_cons_succ, List.getElem_toArray, List.getElem_cons_zero, List.getElem_cons_succ]
                refine zqr 13 rfl (fun K hK => ?_)
                refine step_head rfl (.tmp 28) (.tmp 39) rfl st rfl rfl HT9.out.1 HT9.out.2 ?_
                intro W7 a7 c7 m7 o7 b7
                refine hK.out _ _ (HS.out _ b7) (fun hH => ?_)
                simp only [Act.put, List.setIfInBounds_toArray, List.set_cons_zero, List.set_cons_succ, List.getElem_toArray, List.getElem_cons_zero, List.getElem_cons_succ]
                refine zqk 14 rfl hH ?_
                simp only [Act.put, List.setIfInBounds_toArray, List.set_cons_zero, List.set_cons_succ, List.getElem_toArray, List.getElem_cons_zero, List.getElem_cons_succ]
                refine wpAnyH_done (by kernel_rfl) ?_ _
                have H7 : Hid (Own W0.heap.size W7 (.slice a7 m7 c7) (Ar.hd ++ Ar.fst top rs.length) ∧ Below W0.heap.size W0 W7) := ⟨own_weak o7 HB1.out.size, HB1.out.trans (b7.mono HB1.out.size)⟩
                clear st hK K hH o7 b7
                go_wp2_with fail
                go_meet
                exact ⟨_, _, _, rfl, H7.out.1, H7.out.2⟩
              · refine step_both rfl rfl rfl rfl st ?_
                intro WW gP st
                refine hK.out _ _ (HS.out _ st.b) (fun hH => ?_)
                clear hK K
                simp only [Act.put, List.setIfInBounds_toArray, List.set_cons_zero, List.set_cons_succ, List.getElem_toArray, List.getElem_cons_zero, List.getElem_cons_succ]
                refine wpAnyH_ready (rs := [1, 12]) (by kernel_rfl) (by simp) ?_
                refine AllReadyH.cons rfl (fun K hK => ?_) (AllReadyH.cons rfl (fun K hK => ?_) AllReadyH.nil)
                · refine step_marked rfl rfl rfl st ?_
                  intro WW st
                  refine hK.out _ _ (HS.out _ st.b) (fun hH => ?_)
                  clear hK K
                  simp only [Act.put, List.setIfInBounds_toArray, List.set_cons_zero, List.set_cons_succ, List.getElem_toArray, List.getElem_cons_zero, List.getElem_cons_succ]
                  refine wpAnyH_ready (rs := [12]) (by kernel_rfl) (by simp) ?_
                  refine AllReadyH.cons rfl (fun K hK => ?_) AllReadyH.nil
                  refine step_framed rfl rfl rfl st HT1.out HT9.out.1 HT9.out.2 ?_
                  intro WW a3 c3 m3 st
                  refine hK.out _ _ (HS.out _ st.b) (fun hH => ?_)
                  clear hK K
                  simp only [Act.put, List.setIfInBounds_toArray, List.set_cons_zero, List.set_cons_succ, List.getElem_toArray, List.getElem_cons_zero, List.getElem_cons_succ]
                  refine zqr 13 rfl (fun K hK => ?_)
                  refine step_head rfl (.tmp 28) (.tmp 39) rfl st rfl rfl HT9.out.1 HT9.out.2 ?_
                  intro W7 a7 c7 m7 o7 b7
                  refine hK.out _ _ (HS.out _ b7) (fun hH => ?_)
                  simp only [Act.put, List.setIfInBounds_toArray, List.set_cons_zero, List.set_cons_succ, List.getElem_toArray, List.getElem_cons_zero, List.getElem_cons_succ]
                  refine zqk 14 rfl hH ?_
                  simp only [Act.put, List.setIfInBounds_toArray, List.set_cons_zero, List.set_cons_succ, List.getElem_toArray, List.getElem_cons_zero, List.getElem_cons_succ]
                  refine wpAnyH_done (by kernel_rfl) ?_ _
                  have H7 : Hid (Own W0.heap.size W7 (.slice a7 m7 c7) (Ar.hd ++ Ar.fst top rs.length) ∧ Below W0.heap.size W0 W7) := ⟨own_weak o7 HB1.out.size, HB1.out.trans (b7.mono HB1.out.size)⟩
                  clear st hK K hH o7 b7
                  go_wp2_with fail
                  go_meet
                  exact ⟨_, _, _, rfl, H7.out.1, H7.out.2⟩
                · refine step_framed rfl rfl rfl st HT1.out HT9.out.1 HT9.out.2 ?_
                  intro WW a3 c3 m3 st
                  refine hK.out _ _ (HS.out _ st.b) (fun hH => ?_)
                  clear hK K
                  simp only [Act.put, List.setIfInBounds_toArray, List.set_cons_zero, List.set_cons_succ, List.getElem_toArray, List.getElem_cons_zero, List.getElem_cons_succ]
                  refine wpAnyH_ready (rs := [1]) (by kernel_rfl) (by simp) ?_
                  refine AllReadyH.cons rfl (fun K hK => ?_) AllReadyH.nil
                  refine step_marked rfl rfl rfl st ?_
                  intro WW st
                  refine hK.out _ _ (HS.out _ st.b) (fun hH => ?_)
                  clear hK K
                  simp only [Act.put, List.setIfInBounds_toArray, List.set_cons_zero, List.set_cons_succ, List.getElem_toArray, List.getElem_cons_zero, List.getElem_cons_succ]
                  refine zqr 13 rfl (fun K hK => ?_)
                  refine step_head rfl (.tmp 28) (.tmp 39) rfl st rfl rfl HT9.out.1 HT9.out.2 ?_
                  intro W7 a7 c7 m7 o7 b7
                  refine hK.out _ _ (HS.out _ b7) (fun hH => ?_)
                  simp only [Act.put, List.setIfInBounds_toArray, List.set_cons_zero, List.set_cons_succ, List.getElem_toArray, List.getElem_cons_zero, List.getElem_cons_succ]
                  refine zqk 14 rfl hH ?_
                  simp only [Act.put, List.setIfInBounds_toArray, List.set_cons_zero, List.set_cons_succ, List.getElem_toArray, List.getElem_cons_zero, List.getElem_cons_succ]
                  refine wpAnyH_done (by kernel_rfl) ?_ _
                  have H7 : Hid (Own W0.heap.size W7 (.slice a7 m7 c7) (Ar.hd ++ Ar.fst top rs.length) ∧ Below W0.heap.size W0 W7) := ⟨own_weak o7 HB1.out.size, HB1.out.trans (b7.mono HB1.out.size)⟩
                  clear st hK K hH o7 b7
                  go_wp2_with fail
                  go_meet
                  exact ⟨_, _, _, rfl, H7.out.1, H7.out.2⟩
            · refine step_both rfl rfl rfl rfl st ?_
              intro WW gP st
              refine hK.out _ _ (HS.out _ st.b) (fun hH => ?_)
              clear hK K
              simp only [Act.put, List.setIfInBounds_toArray, List.set_cons_zero, List.set_cons_succ, List.getElem_toArray, List.getElem_cons_zero, List.getElem_cons_succ]
              refine wpAnyH_ready (rs := [0, 12]) (by kernel_rfl) (by simp) ?_
              refine AllReadyH.cons rfl (fun K hK => ?_) (AllReadyH.cons rfl (fun K hK => ?_) AllReadyH.nil)
              · refine step_made rfl rfl st ?_
                intro WW gA st
                refine hK.out _ _ (HS.out _ st.b) (fun hH => ?_)
                clear hK K
                simp only [Act.put, List.setIfInBounds_toArray, List.set_cons_zero, List.set_cons_succ, List.getElem_toArray, List.getElem_cons_zero]
                refine wpAnyH_ready (rs := [1, 12]) (by kernel_rfl) (by simp) ?_
                refine AllReadyH.cons rfl (fun K hK => ?_) (AllReadyH.cons rfl (fun K hK => ?_) AllReadyH.nil)
                · refine step_marked rfl rfl rfl st ?_
                  intro WW st
                  refine hK.out _ _ (HS.out _ st.b) (fun hH => ?_)
                  clear hK K
                  simp only [Act.put, List.setIfInBounds_toArray, List.set_cons_zero, List.set_cons_succ, List.getElem_toArray, List.getElem_cons_zero, List.getElem_cons_succ]
                  refine wpAnyH_ready (rs := [12]) (by kernel_rfl) (by simp) ?_
                  refine AllReadyH.cons rfl (fun K hK => ?_) AllReadyH.nil
                  refine step_framed rfl rfl rfl st HT1.out HT9.out.1 HT9.out.2 ?_
                  intro WW a3 c3 m3 st
                  refine hK.out _ _ (HS.out _ st.b) (fun hH => ?_)
                  clear hK K
                  simp only [Act.put, List.setIfInBounds_toArray, List.set_cons_zero, List.set_cons_succ, List.getElem_toArray, List.getElem_cons_zero, List.getElem_cons_succ]
                  refine zqr 13 rfl (fun K hK => ?_)
                  refine step_head rfl (.tmp 28) (.tmp 39) rfl st rfl rfl HT9.out.1 HT9.out.2 ?_
                  intro W7 a7 c7 m7 o7 b7
                  refine hK.out _ _ (HS.out _ b7) (fun hH => ?_)
                  simp only [Act.put, List.setIfInBounds_toArray, List.set_cons_zero, List.set_cons_succ, List.getElem_toArray, List.getElem_cons_zero, List.getElem_cons_succ]
                  refine zqk 14 rfl hH ?_
                  simp only [Act.put, List.setIfInBounds_toArray, List.set_cons_zero, List.set_cons_succ, List.getElem_toArray, List.getElem_cons_zero, List.getElem_cons_succ]
                  refine wpAnyH_done (by kernel_rfl) ?_ _
                  have H7 : Hid (Own W0.heap.size W7 (.slice a7 m7 c7) (Ar.hd ++ Ar.fst top rs.length) ∧ Below W0.heap.size W0 W7) := ⟨own_weak o7 HB1.out.size, HB1.out.trans (b7.mono HB1.out.size)⟩
                  clear st hK K hH o7 b7
                  go_wp2_with fail
                  go_meet
                  exact ⟨_, _, _, rfl, H7.out.1, H7.out.2⟩
                · refine step_framed rfl rfl rfl st HT1.out HT9.out.1 HT9.out.2 ?_
                  intro WW a3 c3 m3 st
                  refine hK.out _ _ (HS.out _ st.b) (fun hH => ?_)
                  clear hK K
                  simp only [Act.put, List.setIfInBounds_toArray, List.set_cons_zero, List.set_cons_succ, List.getElem_toArray, List.getElem_cons_zero, List.getElem_cons_succ]
                  refine wpAnyH_ready (rs := [1]) (by kernel_rfl) (by simp) ?_
                  refine AllReadyH.cons rfl (fun K hK => ?_) AllReadyH.nil
                  refine step_marked rfl rfl rfl st ?_
                  intro WW st
                  refine hK.out _ _ (HS.out _ st.b) (fun hH => ?_)
                  clear hK K
                  simp only [Act.put, List.setIfInBounds_toArray, List.set_cons_zero, List.set_cons_succ, List.getElem_toArray, List.getElem_cons_zero, List.getElem_cons_succ]
                  refine zqr 13 rfl (fun K hK => ?_)
                  refine step_head rfl (.tmp 28) (.tmp 39) rfl st rfl rfl HT9.out.1 HT9.out.2 ?_
                  intro W7 a7 c7 m7 o7 b7
                  refine hK.out _ _ (HS.out _ b7) (fun hH => ?_)
                  simp only [Act.put, List.setIfInBounds_toArray, List.set_cons_zero, List.set_cons_succ, List.getElem_toArray, List.getElem_cons_zero, List.getElem_cons_succ]
                  refine zqk 14 rfl hH ?_
                  simp only [Act.put, List.setIfInBounds_toArray, List.set_cons_zero, List.set_cons_succ, List.getElem_toArray, List.getElem_cons_zero, List.getElem_cons_succ]
                  refine wpAnyH_done (by kernel_rfl) ?_ _
                  have H7 : Hid (Own W0.heap.size W7 (.slice a7 m7 c7) (Ar.hd ++ Ar.fst top rs.length) ∧ Below W0.heap.size W0 W7) := ⟨own_weak o7 HB1.out.size, HB1.out.trans (b7.mono HB1.out.size)⟩
                  clear st hK K hH o7 b7
                  go_wp2_with fail
                  go_meet
                  exact ⟨_, _, _, rfl, H7.out.1, H7.out.2⟩
              · refine step_framed rfl rfl rfl st HT1.out HT9.out.1 HT9.out.2 ?_
                intro WW a3 c3 m3 st
                refine hK.out _ _ (HS.out _ st.b) (fun hH => ?_)
                clear hK K
                simp only [Act.put, List.setIfInBounds_toArray, List.set_cons_zero, List.set_cons_succ, List.getElem_toArray, List.getElem_cons_zero, List.getElem_cons_succ]
                refine wpAnyH_ready (rs := [0]) (by kernel_rfl) (by simp) ?_
                refine AllReadyH.cons rfl (fun K hK => ?_) AllReadyH.nil
                refine step_made rfl rfl st ?_
                intro WW gA st
                refine hK.out _ _ (HS.out _ st.b) (fun hH => ?_)
                clear hK K
                simp only [Act.put, List.setIfInBounds_toArray, List.set_cons_zero, List.set_cons_succ, List.getElem_toArray, List.getElem_cons_zero]
                refine wpAnyH_ready (rs := [1]) (by kernel_rfl) (by simp) ?_
                refine AllReadyH.cons rfl (fun K hK => ?_) AllReadyH.nil
                refine step_marked rfl rfl rfl st ?_
                intro WW st
                refine hK.out _ _ (HS.out _ st.b) (fun hH => ?_)
                clear hK K
                simp only [Act.put, List.setIfInBounds_toArray, List.set_cons_zero, List.set_cons_succ, List.getElem_toArray, List.getElem_cons_zero, List.getElem_cons_succ]
                refine zqr 13 rfl (fun K hK => ?_)
                refine step_head rfl (.tmp 28) (.tmp 39) rfl st rfl rfl HT9.out.1 HT9.out.2 ?_
                intro W7 a7 c7 m7 o7 b7
                refine hK.out _ _ (HS.out _ b7) (fun hH => ?_)
                simp only [Act.put, List.setIfInBounds_toArray, List.set_cons_zero, List.set_cons_succ, List.getElem_toArray, List.getElem_cons_zero, List.getElem_cons_succ]
                refine zqk 14 rfl hH ?_
                simp only [Act.put, List.setIfInBounds_toArray, List.set_cons_zero, List.set_cons_succ, List.getElem_toArray, List.getElem_cons_zero, List.getElem_cons_succ]
                refine wpAnyH_done (by kernel_rfl) ?_ _
                have H7 : Hid (Own W0.heap.size W7 (.slice a7 m7 c7) (Ar.hd ++ Ar.fst top rs.length) ∧ Below W0.heap.size W0 W7) := ⟨own_weak o7 HB1.out.size, HB1.out.trans (b7.mono HB1.out.size)⟩
                clear st hK K hH o7 b7
                go_wp2_with fail
                go_meet
                exact ⟨_, _, _, rfl, H7.out.1, H7.out.2⟩
      case rest =>
        obtain ⟨a7, c7, m7, rfl, o7, b7⟩ := hcut
        have hb1 := (HX0.out.1.kept b7).cell 1 _ rfl
        have HO7 : Hid (Own W0.heap.size wc (.slice a7 m7 c7) (Ar.hd ++ Ar.fst top rs.length ++ Ar.rcs recC (rs.take 0)) ∧ Below W0.heap.size W0 wc) := ⟨by rw [show Ar.rcs recC (rs.take 0) = [] from rfl, List.append_nil]; exact o7, b7⟩
        clear o7 b7 HS HT1 HB1
        go_wp2_with fail
        go_loopw [7, 44] (fun o i wr => ∃ (k m : Nat) (a : Option Addr) (c : Nat), k ≤ rs.length ∧ o = .slice a m c ∧ i = .int .i64 (k : Int) ∧ Own W0.heap.size wr (.slice a m c) (Ar.hd ++ Ar.fst top rs.length ++ Ar.rcs recC (rs.take k)) ∧ Below W0.heap.size W0 wr) (fun _ i _ => rs.length - (intOf i).toNat)
        case atStart => exact ⟨0, m7, a7, c7, Nat.zero_le _, rfl, rfl, HO7.out.1, HO7.out.2⟩
        case round =>
          clear HO7 hb1
          obtain ⟨k, m, a, c, hk, rfl, rfl, ho, hbel⟩ := hrel
          have hle := HLN.out k
          obtain ⟨L, hL⟩ : ∃ L, Ar.hd ++ Ar.fst top rs.length ++ Ar.rcs recC (rs.take k) = L := ⟨_, rfl⟩
          rw [hL] at ho hle
          have hml : m = L.length := by
            obtain ⟨_, _, e, -⟩ := ho.bs.shape
            simp only [Value.slice.injEq] at e
            exact e.2.1
          have hdm : ((8388608 : Int) < (m : Int)) = False := by simp; omega
          have HL : Hid (Ar.hd ++ Ar.fst top rs.length ++ Ar.rcs recC (rs.take k) = L ∧ m = L.length ∧ L.length ≤ 8388608) := ⟨hL, hml, hle⟩
          clear hL hml hle
          by_cases hlt : k < rs.length
          · obtain ⟨r, hr⟩ : ∃ r, rs[k]? = some r := ⟨rs[k], List.getElem?_eq_getElem hlt⟩
            have hbw : Below w.heap.size w wr := HX0.out.2.trans (hbel.mono HX0.out.2.size)
            obtain ⟨ao', cap', e', _, hcr⟩ := HRS.out _ hbw
            simp only [Value.slice.injEq] at e'
            obtain ⟨rfl, _, rfl⟩ := e'
            obtain ⟨b, off, d, rfl, hrg, hbs⟩ := hcr k r hr
            have hgr := HGE.out r (List.mem_of_getElem? hr)
            have HFM : Hid (∀ W, Below wr.heap.size wr W → Calls Tryd.prog 18 #[rv r.x r.nm d] W fun e w' => ∃ a2 c2, ∃ m2 : Nat, e = .returned (.slice a2 m2 c2) ∧ Own W.heap.size w' (.slice a2 m2 c2) (fr (Ar.rcb recC r)) ∧ Below W.heap.size W w') := fun W hW => (arrecf_any r.x r.nm d r.l r.x.v.toNat W (hbs.kept hW) (HTB.out _ (andThen hbw hW)).2.1 (HTB.out _ (andThen hbw hW)).2.2 (HTB.out _ (andThen hbw hW)).1 (by have := hgr.short; omega) hgr.short.2 hgr.nice (by have := hgr.v; omega) (by have := hgr.v; omega) hgr.1 (by have := hgr.len; omega)).mono fun e w' ⟨v', he, o, b⟩ => by
              obtain ⟨a2, c2, rfl, -⟩ := o.bs.shape
              exact ⟨a2, c2, _, he, o, b⟩
            obtain ⟨ar, cr, rfl, _⟩ := hbs.shape
            have HR0 : Hid (wr.rangeAt b (off + k * 12) [.int .i64 r.x.v, .int .i64 r.x.k, .int .i64 r.x.s, .int .i64 r.x.p, .int .i64 r.x.t, .int .i64 r.x.a, .int .i64 r.x.l, .int .i64 r.x.c, .int .i64 r.x.n, .int .i64 r.x.i, .string r.nm, .slice ar r.l.length cr]) := hrg
            have HR1 : Hid ((wr.alloc (.cells #[.int .i64 r.x.v, .int .i64 r.x.k, .int .i64 r.x.s, .int .i64 r.x.p, .int .i64 r.x.t, .int .i64 r.x.a, .int .i64 r.x.l, .int .i64 r.x.c, .int .i64 r.x.n, .int .i64 r.x.i, .string r.nm, .slice ar r.l.length cr] 44)).rangeAt wr.heap.size 0 [.int .i64 r.x.v, .int .i64 r.x.k, .int .i64 r.x.s, .int .i64 r.x.p, .int .i64 r.x.t, .int .i64 r.x.a, .int .i64 r.x.l, .int .i64 r.x.c, .int .i64 r.x.n, .int .i64 r.x.i, .string r.nm, .slice ar r.l.length cr]) := new_range wr #[.int .i64 r.x.v, .int .i64 r.x.k, .int .i64 r.x.s, .int .i64 r.x.p, .int .i64 r.x.t, .int .i64 r.x.a, .int .i64 r.x.l, .int .i64 r.x.c, .int .i64 r.x.n, .int .i64 r.x.i, .string r.nm, .slice ar r.l.length cr]
            have HBL : Hid (Own W0.heap.size wr (.slice a m c) L ∧ Below W0.heap.size W0 wr) := ⟨ho, hbel⟩
            have HTK : Hid (Ar.rcs recC (rs.take (k + 1)) = Ar.rcs recC (rs.take k) ++ fr (Ar.rcb recC r)) := rcs_snoc rs k r hr
            have HFL : Hid ((fr (Ar.rcb recC r)).length ≤ 200000) := by
              have e1 := hgr.len
              show (fr _).length ≤ _
              rw [fr_length]
              have e2 : (Ar.rcb recC r).length = (enc r.x r.nm r.l).length + 2 := rfl
              have e3 := Wn.uint_len10 (Ar.rcb recC r).length (by omega)
              omega
            clear hcr hrg hbs hbel hr hgr hbw ho
            unfold rv at *
            go_wp2_with (first
              | (refine wpList_load_mid rfl 44 _ rfl b (off + k * 12) rfl [.int .i64 r.x.v, .int .i64 r.x.k, .int .i64 r.x.s, .int .i64 r.x.p, .int .i64 r.x.t, .int .i64 r.x.a, .int .i64 r.x.l, .int .i64 r.x.c, .int .i64 r.x.n, .int .i64 r.x.i, .string r.nm, .slice ar r.l.length cr] _ HR0.out Tryd.underlying44 rfl HIR.out ?_)
              | (refine wpList_load_mid rfl 44 _ rfl wr.heap.size 0 rfl [.int .i64 r.x.v, .int .i64 r.x.k, .int .i64 r.x.s, .int .i64 r.x.p, .int .i64 r.x.t, .int .i64 r.x.a, .int .i64 r.x.l, .int .i64 r.x.c, .int .i64 r.x.n, .int .i64 r.x.i, .string r.nm, .slice ar r.l.length cr] _ HR1.out Tryd.underlying44 rfl HIR.out ?_))
            refine (HFM.out _ (up0 _ _)).mono ?_
            rintro e w2 ⟨a2, c2, m2, rfl, o2, b2⟩
            have HB2 : Hid (Own W0.heap.size w2 (.slice a m c) L ∧ Bs w2 (.slice a2 m2 c2) (fr (Ar.rcb recC r)) ∧ Below W0.heap.size W0 w2 ∧ W0.heap.size ≤ w2.heap.size) := ⟨(HBL.out.1.alloc _).kept b2, o2.bs, andThen (up HBL.out.2 _) b2, (andThen (up HBL.out.2 _) b2).size⟩
            clear b2 o2 HFM HR0 HR1 HBL
            go_wp2_with (at_builtin; refine wpList_append _ rfl (.tmp 51) (.tmp 53) 25 rfl W0.heap.size hin Tryd.underlying25 _ L rfl HB2.out.1 _ (fr (Ar.rcb recC r)) rfl HB2.out.2.1 (by have := HL.out.2.2; have := HFL.out; omega) HB2.out.2.2.2 ?_)
            intro v3 w3 o3 b3 _
            obtain ⟨a3, c3, rfl, -⟩ := o3.bs.shape
            have HB3 : Hid (Own W0.heap.size w3 (.slice a3 (L ++ fr (Ar.rcb recC r)).length c3) (Ar.hd ++ Ar.fst top rs.length ++ Ar.rcs recC (rs.take (k + 1))) ∧ Below W0.heap.size W0 w3) := ⟨by rw [HTK.out, ← List.append_assoc, HL.out.1]; exact o3, HB2.out.2.2.1.trans b3⟩
            generalize (L ++ fr (Ar.rcb recC r)).length = m3 at *
            clear o3 b3 HB2 HL HTK HFL
            go_wp2_with fail
            go_roundw
            case rel => exact ⟨k + 1, m3, a3, c3, by omega, rfl, by go_num, HB3.out.1, HB3.out.2⟩
            case measure => simp [intOf]; omega
          · obtain rfl : k = rs.length := by omega
            have HLF : Hid (L = Ar.fore recC top rs) := by
              show L = _
              rw [← HL.out.1, List.take_length]
              rfl
            have hbw : Below w.heap.size w wr := HX0.out.2.trans (hbel.mono HX0.out.2.size)
            have HSU : Hid (Calls Tryd.prog 19 #[.slice a m c] wr fun e w' => e = .returned (.agg (s4v (Wm.crc L)).toArray) ∧ Below wr.heap.size wr w') := arsum_any _ L wr (HTB.out _ hbw).1 ho.bs
            have HBL : Hid (Own W0.heap.size wr (.slice a m c) L ∧ Below W0.heap.size W0 wr) := ⟨ho, hbel⟩
            clear ho hbel hbw
            go_wp2_with fail
            refine HSU.out.mono ?_
            rintro e w5 ⟨rfl, b5⟩
            have L5 := lb_new w5 (s4v (Wm.crc L)) 50
            have HB5 : Hid (Own W0.heap.size w5 (.slice a m c) L ∧ Below W0.heap.size W0 w5) := ⟨HBL.out.1.kept b5, andThen HBL.out.2 b5⟩
            have H6 : Hid (∀ W, W = (w5.alloc (.cells (s4v (Wm.crc L)).toArray 50)).alloc (.cells #[.slice (some ⟨w5.heap.size, 0, none⟩) 4 4] 25) → Own W0.heap.size W (.slice a m c) L ∧ Below W0.heap.size W0 W ∧ Calls Tryd.prog 16 #[.int .u8 69, .slice (some ⟨w5.heap.size + 1, 0, none⟩) 1 1] W fun e w' => ∃ a2 c2, ∃ m2 : Nat, e = .returned (.slice a2 m2 c2) ∧ Own W.heap.size w' (.slice a2 m2 c2) (Ar.lst L) ∧ Below W.heap.size W w') := fun W hW => by
              subst hW
              have hP := ps1 (w5.alloc (.cells (s4v (Wm.crc L)).toArray 50)) (w5.heap.size + 1) (by rw [heap_one]) 25 (bs_s4 L5)
              have hbb := up (up HB5.out.2 (.cells (s4v (Wm.crc L)).toArray 50)) (.cells #[.slice (some ⟨w5.heap.size, 0, none⟩) 4 4] 25)
              refine ⟨(HB5.out.1.alloc _).alloc _, hbb, ?_⟩
              have hfl : [le4 (Wm.crc L)].flatten = le4 (Wm.crc L) := by simp
              have e := arframe_any 69 (by omega) _ _ _ (HTB.out _ (HX0.out.2.trans (hbb.mono HX0.out.2.size))).1 hP (by simp) (by simp) (by rw [hfl, Ar.le4_len]; omega)
              rw [hfl] at e
              exact e.mono fun e w' ⟨v', he, o, b⟩ => by
                obtain ⟨a2, c2, rfl, -⟩ := o.bs.shape
                exact ⟨a2, c2, _, he, o, b⟩
            have HLL : Hid ((Ar.lst L).length ≤ 100) := by
              show (fr _).length ≤ _
              rw [fr_length]
              have e3 := Wn.uint_len10 (69 :: le4 (Wm.crc L)).length (by simp [Ar.le4_len])
              simp only [List.length_cons, Ar.le4_len] at *
              omega
            clear b5 L5 HSU HBL
            generalize Wm.crc L = s at *
            simp only [s4v] at H6 ⊢
            go_wp2_with fail
            obtain ⟨h61, h62, h63⟩ := H6.out _ rfl
            have H7 : Hid (Own W0.heap.size ((w5.alloc (.cells #[.int .u8 ((s : Int) % 256), .int .u8 ((s : Int) / 256 % 256), .int .u8 ((s : Int) / 65536 % 256), .int .u8 ((s : Int) / 16777216 % 256)] 50)).alloc (.cells #[.slice (some ⟨w5.heap.size, 0, none⟩) 4 4] 25)) (.slice a m c) L ∧ Below W0.heap.size W0 ((w5.alloc (.cells #[.int .u8 ((s : Int) % 256), .int .u8 ((s : Int) / 256 % 256), .int .u8 ((s : Int) / 65536 % 256), .int .u8 ((s : Int) / 16777216 % 256)] 50)).alloc (.cells #[.slice (some ⟨w5.heap.size, 0, none⟩) 4 4] 25))) := ⟨h61, h62⟩
            refine h63.mono ?_
            rintro e w6 ⟨a2, c2, m2, rfl, o2, b2⟩
            have HB6 : Hid (Own W0.heap.size w6 (.slice a m c) L ∧ Bs w6 (.slice a2 m2 c2) (Ar.lst L) ∧ Below W0.heap.size W0 w6 ∧ W0.heap.size ≤ w6.heap.size) := ⟨H7.out.1.kept b2, o2.bs, andThen H7.out.2 b2, (andThen H7.out.2 b2).size⟩
            clear h61 h62 h63 H6 H7 o2 b2 HB5
            go_wp2_with (at_builtin; refine wpList_append _ rfl (.tmp 58) (.tmp 61) 25 rfl W0.heap.size hin Tryd.underlying25 _ L rfl HB6.out.1 _ (Ar.lst L) rfl HB6.out.2.1 (by have := HL.out.2.2; have := HLL.out; omega) HB6.out.2.2.2 ?_)
            intro v8 w8 o8 b8 _
            have HPK : Hid (L ++ Ar.lst L = Ar.pack recC top rs) := by
              show _ = _
              rw [HLF.out]
              rfl
            rw [HPK.out] at o8
            obtain ⟨a8, c8, rfl, -⟩ := o8.bs.shape
            have HB8 : Hid (Own w.heap.size w8 (.slice a8 (Ar.pack recC top rs).length c8) (Ar.pack recC top rs) ∧ Below w.heap.size w w8) := ⟨own_weak o8 HX0.out.2.size, HX0.out.2.trans ((HB6.out.2.2.1.trans b8).mono HX0.out.2.size)⟩
            have hle8 := HLE.out
            generalize (Ar.pack recC top rs).length = m8 at *
            have hd8 : ((8388608 : Int) < (m8 : Int)) = False := by simp; omega
            clear o8 b8 HB6 HPK hle8
            go_wp2_with fail
            refine bodyPost_ret (by simp [results, Tryd.results7, go_sem]; try rfl) rfl ?_
            exact ⟨_, _, _, rfl, HB8.out.1, HB8.out.2⟩
end Go.Proofs.YtenhaogheilmoaaDoor
