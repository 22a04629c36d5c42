import Derived.Test.YtceokpklcfmadaaQE1
/-
  IndexWrites: Bytes.take.
-/
namespace Go.Proofs.Ytceokpklcfmadaa
open Go Go.RowKit
open Wb

/-- what take leaves -/
def BtPost (B gK : Nat) (vl vm lv : Value) (rows : List (Value × Nat × Nat)) (n : Nat) (w w' : World) : Prop := ∃ vl' vm' v33 v38 v41 m, Bk B w' gK vl' vm' (rows ++ newR n m lv v33 v38 v41) ∧ NewB w lv v33 ∧ NewB w lv v38 ∧ NewB w lv v41 ∧ NewB w vl vl' ∧ NewB w vm vm' ∧ FrK w w' (TkF gK vl vm lv)
theorem FT.done {w1 : World} {B gK n m : Nat} {lv vl vm : Value} {rows : List (Value × Nat × Nat)} {v33 v38 v41 v43 vm' : Value} {W W0 W5 : World} (hf : FT w1 B gK n m lv vl vm rows v43 v33 v38 v41 v43 W) (hk : Bk B w1 gK vl vm rows) (hm : ∀ g, vm.ownBlock = some g → lv.ownBlock ≠ some g) (h0 : Below W.heap.size W W0) (o5 : Wb.Own B W5 vm' (rows.map (·.2.2) ++ [m, m, m, m])) (g5 : W0.grownBy W5 vm.ownBlock) (b5 : vm'.ownBlock = vm.ownBlock ∨ vm'.ownBlock = some W0.heap.size) :
    LB W5 gK 94 [v43, vm] ∧ Bk B (W5.setCell ⟨gK, 1, none⟩ vm') gK v43 vm' (rows ++ newR n m lv v33 v38 v41) ∧ FrK w1 (W5.setCell ⟨gK, 1, none⟩ vm') (TkF gK vl vm lv) ∧ NewB w1 vm vm' := by
  have hmt : ∀ g, vm.ownBlock = some g → ∃ cs z, W0.heap[g]? = some (.cells cs 5 z) := fun g e => own_typed (hf.marks.kept h0) g e
  have hbx : LB W0 gK 94 [v43, vm] := hf.box.kept h0
  have hL5 : LB W5 gK 94 [v43, vm] := by
    refine (g5.block gK hbx.lt fun e => ?_).trans hbx
    obtain ⟨cur, z, h9⟩ := hmt gK e.symm
    have hb := hbx
    unfold LB at hb
    rw [hb] at h9
    simp at h9
  have hsz : W0.heap.size ≤ W5.heap.size := g5.size
  have hmk : ∀ r ∈ rows ++ newR n m lv v33 v38 v41, ∀ g, r.1.ownBlock = some g → vm.ownBlock ≠ some g := fun r hr g e => by
    rcases List.mem_append.1 hr with hr | hr
    · exact hk.apart r hr g e
    · have h9 : ∀ v, NewB w1 lv v → v.ownBlock = some g → vm.ownBlock ≠ some g := fun v hv e9 e8 => by
        rcases hv with h1 | h1
        · exact hm g e8 (h1.symm.trans e9)
        · have := h1 g e9
          have := (own_block hk.marks g e8).2
          omega
      simp only [newR, List.mem_cons, List.not_mem_nil, or_false] at hr
      rcases hr with rfl | rfl | rfl | rfl
      · exact h9 _ (.inl rfl) e
      · exact h9 _ hf.n33 e
      · exact h9 _ hf.n38 e
      · exact h9 _ hf.n41 e
  have hb5 := hL5
  unfold LB at hb5
  refine ⟨hL5, ⟨hL5.set 1 _, ?_, ?_, ?_, ?_⟩, ?_, ?_⟩
  · have h1 := Mg.row_kept hf.lists h0
    have e : (rows ++ newR n m lv v33 v38 v41).length = rows.length + 4 := by simp [newR]
    rw [e, List.map_append]
    refine Mg.row_block (w := W5) (Mg.row_block h1 fun g eg => g5.block g (World.ownsRow.lt h1 g eg).2 fun e2 => ?_) fun g eg => set_other _ _ _ _ ?_
    · obtain ⟨cur, z, h9⟩ := hmt g e2.symm
      obtain ⟨cur2, h8⟩ := Mg.row_type h1 g eg
      rw [h8] at h9
      simp at h9
    · rintro rfl
      obtain ⟨cur2, h8⟩ := Mg.row_type (Mg.row_block (w' := W5) h1 fun g eg => g5.block g (World.ownsRow.lt h1 g eg).2 fun e2 => by
        obtain ⟨cur, z, h9⟩ := hmt g e2.symm
        obtain ⟨cur2, h8⟩ := Mg.row_type h1 g eg
        rw [h8] at h9
        simp at h9) _ eg
      rw [hb5] at h8
      simp at h8
  · rw [List.map_append]
    refine own_keptB o5 fun g eg => set_other _ _ _ _ ?_
    rintro rfl
    obtain ⟨cs, z, h9⟩ := own_typed o5 _ eg
    rw [hb5] at h9
    simp at h9
  · intro r hr
    have h1 := Mg.row_kept (hf.rws r hr) h0
    have h2 : Mg.Mk 5 (mv r.2.2) B W5 r.1 r.2.1 := Mg.row_block h1 fun g eg => g5.block g (World.ownsRow.lt h1 g eg).2 fun e2 => hmk r hr g eg e2.symm
    refine Mg.row_block h2 fun g eg => set_other _ _ _ _ ?_
    rintro rfl
    obtain ⟨cur, h9⟩ := Mg.row_type h2 _ eg
    rw [hb5] at h9
    simp at h9
  · intro r hr g eg e2
    rcases b5 with e | e
    · exact hmk r hr g eg (e.symm.trans e2)
    · have e9 := Option.some.inj (e.symm.trans e2)
      have h1 := (World.ownsRow.lt (Mg.row_kept (hf.rws r hr) h0) g eg).2
      omega
  · refine ((hf.fr.trans (FrK.of (F := TkF gK vl vm lv) (b := none) ⟨h0.os, h0.tape, h0.output, h0.size, fun k hk _ => h0.block k hk⟩ fun k _ e => by cases e) fun k _ e => e).trans (FrK.of (F := TkF gK vl vm lv) g5 fun k _ e => .inr (.inr (.inl e))) fun k _ e => e).trans (FrK.set _ _ _ (.inl rfl)) fun k _ e => e
  · rcases b5 with e | e
    · exact .inl e
    · refine .inr fun g eg => ?_
      have e9 := Option.some.inj (e.symm.trans eg)
      have := hf.fr.size
      have := h0.size
      omega
set_option maxRecDepth 100000 in
set_option maxHeartbeats 16000000 in
theorem ixtakeb_any (B gK : Nat) (vl vm lv : Value) (rows : List (Value × Nat × Nat)) (L : List Nat) (w : World) (h : Bk B w gK vl vm rows) (ho : Wb.Own B w lv L) (hL0 : L.length ≤ 9000000) (hn : rows.length ≤ 20) (hB : B ≤ w.heap.size) (ha : ∀ r ∈ rows, ∀ g, r.1.ownBlock = some g → lv.ownBlock ≠ some g) (hm : ∀ g, vm.ownBlock = some g → lv.ownBlock ≠ some g) :
    Calls Try.prog 45 #[.pointer (some ⟨gK, 0, none⟩), lv] w fun e w' => e = .returned (.tuple #[]) ∧ BtPost B gK vl vm lv rows L.length w w' := by
  have hin := info5
  obtain ⟨av, cv, rfl, hv1, hv2⟩ := Mg.row_shape ho.row
  obtain ⟨al, cl, rfl, hl1, hl2⟩ := Mg.row_shape h.lists
  obtain ⟨am, cm, em, hm1, hm2⟩ := Mg.row_shape h.marks.row
  rw [List.length_map] at em hm1
  subst em
  unfold maxLen at hv2 hl2 hm2
  obtain ⟨n, hnL⟩ : ∃ n, n = L.length := ⟨_, rfl⟩
  rw [← hnL] at hL0 hv1 ha hm ⊢
  have hL : n ≤ 9000000 := hL0
  obtain ⟨m, hmq⟩ : ∃ m, m = 224 + rows.length := ⟨_, rfl⟩
  have hmq1 : (224 : Int) + (rows.length : Int) = (m : Int) := by omega
  have hm256 : m < 256 := by omega
  have hwm : IntKind.u8.wrap (m : Int) = (m : Int) := IntWalk.u8_in _ (by omega)
  clear hmq
  have HLN : Hid (n = L.length ∧ (bv L).length = n * (mv m).length) := ⟨hnL, by rw [bv_length, hnL]; simp [mv]⟩
  have HK0 : Hid (Bk B w gK (.slice al rows.length cl) (.slice am rows.length cm) rows) := h
  have HA : Hid ((∀ r ∈ rows, ∀ g, r.1.ownBlock = some g → (Value.slice av n cv).ownBlock ≠ some g) ∧ (∀ g, (Value.slice am rows.length cm).ownBlock = some g → (Value.slice av n cv).ownBlock ≠ some g)) := ⟨ha, hm⟩
  have HO0 : Hid (w.ownsRow B 5 (mv m).length (.slice av n cv) n (Mg.fil (mv m) (bv L) 0)) := by
    show w.ownsRow B 5 (mv m).length (.slice av n cv) n (Mg.fil (mv m) (bv L) 0)
    rw [Mg.fil_zero, hnL]
    exact ho.row
  have HM0 : Hid (w.ownsRow B 5 1 (.slice av L.length cv) L.length (bv L)) := ho.row
  rw [← hnL] at HM0
  have x0 := h.box.cell 0 _ rfl
  have HB : Hid (B ≤ w.heap.size) := hB
  clear h ho ha hm hnL hL0 hB
  go_enter Try.func45, Try.ntmps45
  go_wp2_with fail
  clear x0
  go_loopw [5] (fun i wr => ∃ k : Nat, k ≤ n ∧ i = .int .i64 (k : Int) ∧ wr.ownsRow B 5 (mv m).length (.slice av n cv) n (Mg.fil (mv m) (bv L) k) ∧ w.grownBy wr (Value.slice av n cv).ownBlock) (fun i _ => n - (intOf i).toNat)
  case atStart => exact ⟨0, Nat.zero_le _, rfl, HO0.out, World.grownBy.refl _ _⟩
  case round =>
    clear HO0
    obtain ⟨k, hk, rfl, hrow, hgr⟩ := hrel
    by_cases hlt : k < n
    · obtain ⟨g, rfl, hth, hrow2, hgr2, -⟩ := Mg.fill_step (mv_ok m).1 HLN.out.2 hrow hlt
      have e1 : k * (mv m).length = k := by simp [mv]
      rw [e1] at hth hrow2 hgr2
      obtain ⟨u0, hu0⟩ := Option.isSome_iff_exists.1 (hth 0 (mv_ok m).1).1
      have f0 : wr.frozen? ⟨g, k, none⟩ = false := (hth 0 (mv_ok m).1).2
      have e2 : wr.setCells g k (mv m) = wr.setCell ⟨g, k, none⟩ (.int .u8 (m : Int)) := rfl
      rw [e2] at hrow2 hgr2
      have hu1 : wr.cell? ⟨g, k, none⟩ = some u0 := hu0
      have HR : Hid ((wr.setCell ⟨g, k, none⟩ (.int .u8 (m : Int))).ownsRow B 5 (mv m).length (.slice (some ⟨g, 0, none⟩) n cv) n (Mg.fil (mv m) (bv L) (k + 1)) ∧ w.grownBy (wr.setCell ⟨g, k, none⟩ (.int .u8 (m : Int))) (Value.slice (some ⟨g, 0, none⟩) n cv).ownBlock) := ⟨hrow2, grown_on hgr hgr2 (.inl rfl)⟩
      clear hrow hgr hth hrow2 hgr2 e1 e2 hu0
      go_wp2_with fail
      go_roundw
      case rel => exact ⟨k + 1, by omega, by go_num, HR.out.1, HR.out.2⟩
      case measure => simp [intOf]; omega
    · obtain rfl : n = k := by omega
      obtain ⟨w1, hw1⟩ : ∃ x, x = wr := ⟨_, rfl⟩
      subst hw1
      rw [Mg.fil_end _ _ _ HLN.out.2] at hrow
      have HG : Hid (w.grownBy w1 (Value.slice av n cv).ownBlock) := hgr
      have HK1 : Hid (Bk B w1 gK (.slice al rows.length cl) (.slice am rows.length cm) rows) := HK0.out.other (fun g e => by
        obtain ⟨cur, h9⟩ := Mg.row_type HM0.out g e
        exact ⟨cur, h9⟩) HA.out.1 HA.out.2 hgr
      have HM : Hid (Mg.Mk 5 (mv m) B w1 (.slice av n cv) n) := hrow
      have HBW : Hid (B ≤ w1.heap.size) := Nat.le_trans HB.out hgr.size
      clear hrow hgr hk hlt
      go_upto_region 5 with fail
      go_cut [1] from 23 to 47 (fun s1 wx => s1 = .slice av n cv ∧ ∃ v33 v38 v41 b9 m9 c9, FT w1 B gK n m (.slice av n cv) (.slice al rows.length cl) (.slice am rows.length cm) rows (.slice b9 m9 c9) v33 v38 v41 (.slice b9 m9 c9) wx)
      case first =>
        have hd9 : w1.grownBy w1.drew (Value.slice av n cv).ownBlock := ⟨rfl, rfl, rfl, Nat.le_refl _, fun _ _ _ => rfl⟩
        refine wp_region_held_drew (S := fun _ : World => True) (by kernel_rfl) trivial (fun hH => ?_)
        have st : PT w1 B gK n m (.slice av n cv) (.slice al rows.length cl) (.slice am rows.length cm) 0 0 0 0 w1.drew 0 0 0 0 (.slice none 0 0) (.slice none 0 0) (.slice none 0 0) := ⟨HBW.out, HM.out, hd9, fun _ _ hu => hu, HK1.out.box, trivial, trivial, trivial, trivial⟩
        obtain ⟨WW, hWW⟩ : ∃ x, x = w1.drew := ⟨_, rfl⟩
        rw [← hWW] at st ⊢
        clear hWW hd9
        refine zqk 0 rfl trivial ?_
        simp only [Act.put, zq1, zq2, zq3, zq4, zq5]
        refine zqk 1 rfl trivial ?_
        simp only [Act.put, zq1, zq2, zq3, zq4, zq5, zq6]
        refine zqk 2 rfl trivial ?_
        simp only [Act.put, zq1, zq2, zq3, zq4, zq5, zq6]
        refine zqk 3 rfl trivial ?_
        simp only [Act.put, zq1, zq2, zq3, zq4, zq5, zq6]
        refine zqk 5 rfl trivial ?_
        simp only [Act.put, zq1, zq2, zq3, zq4, zq5, zq6]
        refine zqk 6 rfl trivial ?_
        simp only [Act.put, zq1, zq2, zq3, zq4, zq5, zq6]
        refine zqk 7 rfl trivial ?_
        simp only [Act.put, zq1, zq2, zq3, zq4, zq5, zq6]
        refine zqk 10 rfl trivial ?_
        simp only [Act.put, zq1, zq2, zq3, zq4, zq5, zq6]
        refine zqk 11 rfl trivial ?_
        simp only [Act.put, zq1, zq2, zq3, zq4, zq5, zq6]
        refine zqk 12 rfl trivial ?_
        simp only [Act.put, zq1, zq2, zq3, zq4, zq5, zq6]
        refine zqk 15 rfl trivial ?_
        simp only [Act.put, zq1, zq2, zq3, zq4, zq5, zq6]
        refine zqk 16 rfl trivial ?_
        simp only [Act.put, zq1, zq2, zq3, zq4, zq5, zq6]
        refine zqk 17 rfl trivial ?_
        simp only [Act.put, zq1, zq2, zq3, zq4, zq5, zq6]
        refine zqk 18 rfl trivial ?_
        simp only [Act.put, zq1, zq2, zq3, zq4, zq5, zq6]
        refine zqm (S := fun W : World => W.cell? ⟨gK, 0, none⟩ = some (.slice al rows.length cl)) 4 22 rfl (Or.inl ⟨by rfl, by intro w9 h9; (try dsimp only at h9); go_simp; all_goals rfl⟩) (st.box.cell 0 _ rfl) ?_
        simp only [Act.put, zq1, zq2, zq3, zq4, zq5, zq6]
        refine wpAnyL_ready (rs := [8, 13, 19]) (by kernel_rfl) (by simp) rfl ?_
        refine AllReadyL.cons rfl (fun K hK => ?_) (AllReadyL.cons rfl (fun K hK => ?_) (AllReadyL.cons rfl (fun K hK => ?_) AllReadyL.nil))
        ·refine st_one rfl rfl rfl st ?_
         intro WW g32 st
         refine hK.out _ _ (st.box.cell 0 _ rfl) fun _ => ?_
         clear hK K
         simp only [Act.put, zq1, zq2, zq3, zq4, zq5, zq6]
         refine wpAnyL_ready (rs := [9, 13, 19]) (by kernel_rfl) (by simp) rfl ?_
         refine AllReadyL.cons rfl (fun K hK => ?_) (AllReadyL.cons rfl (fun K hK => ?_) (AllReadyL.cons rfl (fun K hK => ?_) AllReadyL.nil))
         ·refine st_app1 rfl (.tmp 29) (.tmp 31) rfl rfl rfl hL st ?_
          intro WW b33 c33 st
          refine hK.out _ _ (st.box.cell 0 _ rfl) fun _ => ?_
          clear hK K
          simp only [Act.put, zq1, zq2, zq3, zq4, zq5, zq6]
          refine wpAnyL_ready (rs := [13, 19]) (by kernel_rfl) (by simp) rfl ?_
          refine AllReadyL.cons rfl (fun K hK => ?_) (AllReadyL.cons rfl (fun K hK => ?_) AllReadyL.nil)
          ·refine st_two rfl rfl rfl rfl st ?_
           intro WW g37 st
           refine hK.out _ _ (st.box.cell 0 _ rfl) fun _ => ?_
           clear hK K
           simp only [Act.put, zq1, zq2, zq3, zq4, zq5, zq6]
           refine wpAnyL_ready (rs := [14, 19]) (by kernel_rfl) (by simp) rfl ?_
           refine AllReadyL.cons rfl (fun K hK => ?_) (AllReadyL.cons rfl (fun K hK => ?_) AllReadyL.nil)
           ·refine st_app2 rfl (.tmp 33) (.tmp 36) rfl rfl rfl hL st ?_
            intro WW b38 c38 st
            refine hK.out _ _ (st.box.cell 0 _ rfl) fun _ => ?_
            clear hK K
            simp only [Act.put, zq1, zq2, zq3, zq4, zq5, zq6]
            refine wpAnyL_ready (rs := [19]) (by kernel_rfl) (by simp) rfl ?_
            refine AllReadyL.cons rfl (fun K hK => ?_) AllReadyL.nil
            refine st_three rfl rfl rfl rfl rfl st ?_
            intro WW g3 st
            refine hK.out _ _ (st.box.cell 0 _ rfl) fun _ => ?_
            clear hK K
            simp only [Act.put, zq1, zq2, zq3, zq4, zq5, zq6]
            refine wpAnyL_ready (rs := [20]) (by kernel_rfl) (by simp) rfl ?_
            refine AllReadyL.cons rfl (fun K hK => ?_) AllReadyL.nil
            refine st_app3 rfl (.tmp 38) (.tmp 42) rfl rfl rfl hL st ?_
            intro WW b41 c41 st
            refine hK.out _ _ (st.box.cell 0 _ rfl) fun _ => ?_
            clear hK K
            simp only [Act.put, zq1, zq2, zq3, zq4, zq5, zq6]
            refine wpAnyL_ready (rs := [21]) (by kernel_rfl) (by simp) rfl ?_
            refine AllReadyL.cons rfl (fun K hK => ?_) AllReadyL.nil
            refine st_four rfl rfl rfl rfl rfl rfl st ?_
            intro WW g42 st
            refine hK.out _ _ (st.box.cell 0 _ rfl) fun _ => ?_
            clear hK K
            simp only [Act.put, zq1, zq2, zq3, zq4, zq5, zq6]
            refine wpAnyL_last (by kernel_rfl) ?_
            refine zqr 22 rfl (fun K hK => ?_)
            refine st_appL rfl (.tmp 27) (.tmp 44) rfl rfl rfl st HK1.out HA.out.1 HA.out.2 (by omega) ?_
            intro W7 b9 c9 m9 ft
            refine hK.out _ _ trivial fun _ => ?_
            simp only [Act.put, zq1, zq2, zq3, zq4, zq5, zq6]
            clear hK K st
            refine zqk 23 rfl trivial ?_
            simp only [Act.put, zq1, zq2, zq3, zq4, zq5, zq6]
            refine zqk 24 rfl trivial ?_
            simp only [Act.put, zq1, zq2, zq3, zq4, zq5, zq6]
            refine zqr 25 rfl (fun K hK => ?_)
            refine st_storeL rfl rfl rfl rfl ft ?_
            intro W8 ft8
            refine hK.out _ _ trivial fun _ => ?_
            simp only [Act.put, zq4, zq5, zq6]
            clear hK K ft
            have H8 : Hid _ := ft8
            clear ft8
            refine wpAnyH_done (by kernel_rfl) ?_ _
            go_wp2_with fail
            go_meet
            exact ⟨rfl, _, _, _, _, _, _, H8.out⟩
           ·refine st_three rfl rfl rfl rfl rfl st ?_
            intro WW g3 st
            refine hK.out _ _ (st.box.cell 0 _ rfl) fun _ => ?_
            clear hK K
            simp only [Act.put, zq1, zq2, zq3, zq4, zq5, zq6]
            refine wpAnyL_ready (rs := [14]) (by kernel_rfl) (by simp) rfl ?_
            refine AllReadyL.cons rfl (fun K hK => ?_) AllReadyL.nil
            refine st_app2 rfl (.tmp 33) (.tmp 36) rfl rfl rfl hL st ?_
            intro WW b38 c38 st
            refine hK.out _ _ (st.box.cell 0 _ rfl) fun _ => ?_
            clear hK K
            simp only [Act.put, zq1, zq2, zq3, zq4, zq5, zq6]
            refine wpAnyL_ready (rs := [20]) (by kernel_rfl) (by simp) rfl ?_
            refine AllReadyL.cons rfl (fun K hK => ?_) AllReadyL.nil
            refine st_app3 rfl (.tmp 38) (.tmp 42) rfl rfl rfl hL st ?_
            intro WW b41 c41 st
            refine hK.out _ _ (st.box.cell 0 _ rfl) fun _ => ?_
            clear hK K
            simp only [Act.put, zq1, zq2, zq3, zq4, zq5, zq6]
            refine wpAnyL_ready (rs := [21]) (by kernel_rfl) (by simp) rfl ?_
            refine AllReadyL.cons rfl (fun K hK => ?_) AllReadyL.nil
            refine st_four rfl rfl rfl rfl rfl rfl st ?_
            intro WW g42 st
            refine hK.out _ _ (st.box.cell 0 _ rfl) fun _ => ?_
            clear hK K
            simp only [Act.put, zq1, zq2, zq3, zq4, zq5, zq6]
            refine wpAnyL_last (by kernel_rfl) ?_
            refine zqr 22 rfl (fun K hK => ?_)
            refine st_appL rfl (.tmp 27) (.tmp 44) rfl rfl rfl st HK1.out HA.out.1 HA.out.2 (by omega) ?_
            intro W7 b9 c9 m9 ft
            refine hK.out _ _ trivial fun _ => ?_
            simp only [Act.put, zq1, zq2, zq3, zq4, zq5, zq6]
            clear hK K st
            refine zqk 23 rfl trivial ?_
            simp only [Act.put, zq1, zq2, zq3, zq4, zq5, zq6]
            refine zqk 24 rfl trivial ?_
            simp only [Act.put, zq1, zq2, zq3, zq4, zq5, zq6]
            refine zqr 25 rfl (fun K hK => ?_)
            refine st_storeL rfl rfl rfl rfl ft ?_
            intro W8 ft8
            refine hK.out _ _ trivial fun _ => ?_
            simp only [Act.put, zq4, zq5, zq6]
            clear hK K ft
            have H8 : Hid _ := ft8
            clear ft8
            refine wpAnyH_done (by kernel_rfl) ?_ _
            go_wp2_with fail
            go_meet
            exact ⟨rfl, _, _, _, _, _, _, H8.out⟩
          ·refine st_three rfl rfl rfl rfl rfl st ?_
           intro WW g3 st
           refine hK.out _ _ (st.box.cell 0 _ rfl) fun _ => ?_
           clear hK K
           simp only [Act.put, zq1, zq2, zq3, zq4, zq5, zq6]
           refine wpAnyL_ready (rs := [13]) (by kernel_rfl) (by simp) rfl ?_
           refine AllReadyL.cons rfl (fun K hK => ?_) AllReadyL.nil
           refine st_two rfl rfl rfl rfl st ?_
           intro WW g37 st
           refine hK.out _ _ (st.box.cell 0 _ rfl) fun _ => ?_
           clear hK K
           simp only [Act.put, zq1, zq2, zq3, zq4, zq5, zq6]
           refine wpAnyL_ready (rs := [14]) (by kernel_rfl) (by simp) rfl ?_
           refine AllReadyL.cons rfl (fun K hK => ?_) AllReadyL.nil
           refine st_app2 rfl (.tmp 33) (.tmp 36) rfl rfl rfl hL st ?_
           intro WW b38 c38 st
           refine hK.out _ _ (st.box.cell 0 _ rfl) fun _ => ?_
           clear hK K
           simp only [Act.put, zq1, zq2, zq3, zq4, zq5, zq6]
           refine wpAnyL_ready (rs := [20]) (by kernel_rfl) (by simp) rfl ?_
           refine AllReadyL.cons rfl (fun K hK => ?_) AllReadyL.nil
           refine st_app3 rfl (.tmp 38) (.tmp 42) rfl rfl rfl hL st ?_
           intro WW b41 c41 st
           refine hK.out _ _ (st.box.cell 0 _ rfl) fun _ => ?_
           clear hK K
           simp only [Act.put, zq1, zq2, zq3, zq4, zq5, zq6]
           refine wpAnyL_ready (rs := [21]) (by kernel_rfl) (by simp) rfl ?_
           refine AllReadyL.cons rfl (fun K hK => ?_) AllReadyL.nil
           refine st_four rfl rfl rfl rfl rfl rfl st ?_
           intro WW g42 st
           refine hK.out _ _ (st.box.cell 0 _ rfl) fun _ => ?_
           clear hK K
           simp only [Act.put, zq1, zq2, zq3, zq4, zq5, zq6]
           refine wpAnyL_last (by kernel_rfl) ?_
           refine zqr 22 rfl (fun K hK => ?_)
           refine st_appL rfl (.tmp 27) (.tmp 44) rfl rfl rfl st HK1.out HA.out.1 HA.out.2 (by omega) ?_
           intro W7 b9 c9 m9 ft
           refine hK.out _ _ trivial fun _ => ?_
           simp only [Act.put, zq1, zq2, zq3, zq4, zq5, zq6]
           clear hK K st
           refine zqk 23 rfl trivial ?_
           simp only [Act.put, zq1, zq2, zq3, zq4, zq5, zq6]
           refine zqk 24 rfl trivial ?_
           simp only [Act.put, zq1, zq2, zq3, zq4, zq5, zq6]
           refine zqr 25 rfl (fun K hK => ?_)
           refine st_storeL rfl rfl rfl rfl ft ?_
           intro W8 ft8
           refine hK.out _ _ trivial fun _ => ?_
           simp only [Act.put, zq4, zq5, zq6]
           clear hK K ft
           have H8 : Hid _ := ft8
           clear ft8
           refine wpAnyH_done (by kernel_rfl) ?_ _
           go_wp2_with fail
           go_meet
           exact ⟨rfl, _, _, _, _, _, _, H8.out⟩
         ·refine st_two rfl rfl rfl rfl st ?_
          intro WW g37 st
          refine hK.out _ _ (st.box.cell 0 _ rfl) fun _ => ?_
          clear hK K
          simp only [Act.put, zq1, zq2, zq3, zq4, zq5, zq6]
          refine wpAnyL_ready (rs := [9, 19]) (by kernel_rfl) (by simp) rfl ?_
          refine AllReadyL.cons rfl (fun K hK => ?_) (AllReadyL.cons rfl (fun K hK => ?_) AllReadyL.nil)
          ·refine st_app1 rfl (.tmp 29) (.tmp 31) rfl rfl rfl hL st ?_
           intro WW b33 c33 st
           refine hK.out _ _ (st.box.cell 0 _ rfl) fun _ => ?_
           clear hK K
           simp only [Act.put, zq1, zq2, zq3, zq4, zq5, zq6]
           refine wpAnyL_ready (rs := [14, 19]) (by kernel_rfl) (by simp) rfl ?_
           refine AllReadyL.cons rfl (fun K hK => ?_) (AllReadyL.cons rfl (fun K hK => ?_) AllReadyL.nil)
           ·refine st_app2 rfl (.tmp 33) (.tmp 36) rfl rfl rfl hL st ?_
            intro WW b38 c38 st
            refine hK.out _ _ (st.box.cell 0 _ rfl) fun _ => ?_
            clear hK K
            simp only [Act.put, zq1, zq2, zq3, zq4, zq5, zq6]
            refine wpAnyL_ready (rs := [19]) (by kernel_rfl) (by simp) rfl ?_
            refine AllReadyL.cons rfl (fun K hK => ?_) AllReadyL.nil
            refine st_three rfl rfl rfl rfl rfl st ?_
            intro WW g3 st
            refine hK.out _ _ (st.box.cell 0 _ rfl) fun _ => ?_
            clear hK K
            simp only [Act.put, zq1, zq2, zq3, zq4, zq5, zq6]
            refine wpAnyL_ready (rs := [20]) (by kernel_rfl) (by simp) rfl ?_
            refine AllReadyL.cons rfl (fun K hK => ?_) AllReadyL.nil
            refine st_app3 rfl (.tmp 38) (.tmp 42) rfl rfl rfl hL st ?_
            intro WW b41 c41 st
            refine hK.out _ _ (st.box.cell 0 _ rfl) fun _ => ?_
            clear hK K
            simp only [Act.put, zq1, zq2, zq3, zq4, zq5, zq6]
            refine wpAnyL_ready (rs := [21]) (by kernel_rfl) (by simp) rfl ?_
            refine AllReadyL.cons rfl (fun K hK => ?_) AllReadyL.nil
            refine st_four rfl rfl rfl rfl rfl rfl st ?_
            intro WW g42 st
            refine hK.out _ _ (st.box.cell 0 _ rfl) fun _ => ?_
            clear hK K
            simp only [Act.put, zq1, zq2, zq3, zq4, zq5, zq6]
            refine wpAnyL_last (by kernel_rfl) ?_
            refine zqr 22 rfl (fun K hK => ?_)
            refine st_appL rfl (.tmp 27) (.tmp 44) rfl rfl rfl st HK1.out HA.out.1 HA.out.2 (by omega) ?_
            intro W7 b9 c9 m9 ft
            refine hK.out _ _ trivial fun _ => ?_
            simp only [Act.put, zq1, zq2, zq3, zq4, zq5, zq6]
            clear hK K st
            refine zqk 23 rfl trivial ?_
            simp only [Act.put, zq1, zq2, zq3, zq4, zq5, zq6]
            refine zqk 24 rfl trivial ?_
            simp only [Act.put, zq1, zq2, zq3, zq4, zq5, zq6]
            refine zqr 25 rfl (fun K hK => ?_)
            refine st_storeL rfl rfl rfl rfl ft ?_
            intro W8 ft8
            refine hK.out _ _ trivial fun _ => ?_
            simp only [Act.put, zq4, zq5, zq6]
            clear hK K ft
            have H8 : Hid _ := ft8
            clear ft8
            refine wpAnyH_done (by kernel_rfl) ?_ _
            go_wp2_with fail
            go_meet
            exact ⟨rfl, _, _, _, _, _, _, H8.out⟩
           ·refine st_three rfl rfl rfl rfl rfl st ?_
            intro WW g3 st
            refine hK.out _ _ (st.box.cell 0 _ rfl) fun _ => ?_
            clear hK K
            simp only [Act.put, zq1, zq2, zq3, zq4, zq5, zq6]
            refine wpAnyL_ready (rs := [14]) (by kernel_rfl) (by simp) rfl ?_
            refine AllReadyL.cons rfl (fun K hK => ?_) AllReadyL.nil
            refine st_app2 rfl (.tmp 33) (.tmp 36) rfl rfl rfl hL st ?_
            intro WW b38 c38 st
            refine hK.out _ _ (st.box.cell 0 _ rfl) fun _ => ?_
            clear hK K
            simp only [Act.put, zq1, zq2, zq3, zq4, zq5, zq6]
            refine wpAnyL_ready (rs := [20]) (by kernel_rfl) (by simp) rfl ?_
            refine AllReadyL.cons rfl (fun K hK => ?_) AllReadyL.nil
            refine st_app3 rfl (.tmp 38) (.tmp 42) rfl rfl rfl hL st ?_
            intro WW b41 c41 st
            refine hK.out _ _ (st.box.cell 0 _ rfl) fun _ => ?_
            clear hK K
            simp only [Act.put, zq1, zq2, zq3, zq4, zq5, zq6]
            refine wpAnyL_ready (rs := [21]) (by kernel_rfl) (by simp) rfl ?_
            refine AllReadyL.cons rfl (fun K hK => ?_) AllReadyL.nil
            refine st_four rfl rfl rfl rfl rfl rfl st ?_
            intro WW g42 st
            refine hK.out _ _ (st.box.cell 0 _ rfl) fun _ => ?_
            clear hK K
            simp only [Act.put, zq1, zq2, zq3, zq4, zq5, zq6]
            refine wpAnyL_last (by kernel_rfl) ?_
            refine zqr 22 rfl (fun K hK => ?_)
            refine st_appL rfl (.tmp 27) (.tmp 44) rfl rfl rfl st HK1.out HA.out.1 HA.out.2 (by omega) ?_
            intro W7 b9 c9 m9 ft
            refine hK.out _ _ trivial fun _ => ?_
            simp only [Act.put, zq1, zq2, zq3, zq4, zq5, zq6]
            clear hK K st
            refine zqk 23 rfl trivial ?_
            simp only [Act.put, zq1, zq2, zq3, zq4, zq5, zq6]
            refine zqk 24 rfl trivial ?_
            simp only [Act.put, zq1, zq2, zq3, zq4, zq5, zq6]
            refine zqr 25 rfl (fun K hK => ?_)
            refine st_storeL rfl rfl rfl rfl ft ?_
            intro W8 ft8
            refine hK.out _ _ trivial fun _ => ?_
            simp only [Act.put, zq4, zq5, zq6]
            clear hK K ft
            have H8 : Hid _ := ft8
            clear ft8
            refine wpAnyH_done (by kernel_rfl) ?_ _
            go_wp2_with fail
            go_meet
            exact ⟨rfl, _, _, _, _, _, _, H8.out⟩
          ·refine st_three rfl rfl rfl rfl rfl st ?_
           intro WW g3 st
           refine hK.out _ _ (st.box.cell 0 _ rfl) fun _ => ?_
           clear hK K
           simp only [Act.put, zq1, zq2, zq3, zq4, zq5, zq6]
           refine wpAnyL_ready (rs := [9]) (by kernel_rfl) (by simp) rfl ?_
           refine AllReadyL.cons rfl (fun K hK => ?_) AllReadyL.nil
           refine st_app1 rfl (.tmp 29) (.tmp 31) rfl rfl rfl hL st ?_
           intro WW b33 c33 st
           refine hK.out _ _ (st.box.cell 0 _ rfl) fun _ => ?_
           clear hK K
           simp only [Act.put, zq1, zq2, zq3, zq4, zq5, zq6]
           refine wpAnyL_ready (rs := [14]) (by kernel_rfl) (by simp) rfl ?_
           refine AllReadyL.cons rfl (fun K hK => ?_) AllReadyL.nil
           refine st_app2 rfl (.tmp 33) (.tmp 36) rfl rfl rfl hL st ?_
           intro WW b38 c38 st
           refine hK.out _ _ (st.box.cell 0 _ rfl) fun _ => ?_
           clear hK K
           simp only [Act.put, zq1, zq2, zq3, zq4, zq5, zq6]
           refine wpAnyL_ready (rs := [20]) (by kernel_rfl) (by simp) rfl ?_
           refine AllReadyL.cons rfl (fun K hK => ?_) AllReadyL.nil
           refine st_app3 rfl (.tmp 38) (.tmp 42) rfl rfl rfl hL st ?_
           intro WW b41 c41 st
           refine hK.out _ _ (st.box.cell 0 _ rfl) fun _ => ?_
           clear hK K
           simp only [Act.put, zq1, zq2, zq3, zq4, zq5, zq6]
           refine wpAnyL_ready (rs := [21]) (by kernel_rfl) (by simp) rfl ?_
           refine AllReadyL.cons rfl (fun K hK => ?_) AllReadyL.nil
           refine st_four rfl rfl rfl rfl rfl rfl st ?_
           intro WW g42 st
           refine hK.out _ _ (st.box.cell 0 _ rfl) fun _ => ?_
           clear hK K
           simp only [Act.put, zq1, zq2, zq3, zq4, zq5, zq6]
           refine wpAnyL_last (by kernel_rfl) ?_
           refine zqr 22 rfl (fun K hK => ?_)
           refine st_appL rfl (.tmp 27) (.tmp 44) rfl rfl rfl st HK1.out HA.out.1 HA.out.2 (by omega) ?_
           intro W7 b9 c9 m9 ft
           refine hK.out _ _ trivial fun _ => ?_
           simp only [Act.put, zq1, zq2, zq3, zq4, zq5, zq6]
           clear hK K st
           refine zqk 23 rfl trivial ?_
           simp only [Act.put, zq1, zq2, zq3, zq4, zq5, zq6]
           refine zqk 24 rfl trivial ?_
           simp only [Act.put, zq1, zq2, zq3, zq4, zq5, zq6]
           refine zqr 25 rfl (fun K hK => ?_)
           refine st_storeL rfl rfl rfl rfl ft ?_
           intro W8 ft8
           refine hK.out _ _ trivial fun _ => ?_
           simp only [Act.put, zq4, zq5, zq6]
           clear hK K ft
           have H8 : Hid _ := ft8
           clear ft8
           refine wpAnyH_done (by kernel_rfl) ?_ _
           go_wp2_with fail
           go_meet
           exact ⟨rfl, _, _, _, _, _, _, H8.out⟩
         ·refine st_three rfl rfl rfl rfl rfl st ?_
          intro WW g3 st
          refine hK.out _ _ (st.box.cell 0 _ rfl) fun _ => ?_
          clear hK K
          simp only [Act.put, zq1, zq2, zq3, zq4, zq5, zq6]
          refine wpAnyL_ready (rs := [9, 13]) (by kernel_rfl) (by simp) rfl ?_
          refine AllReadyL.cons rfl (fun K hK => ?_) (AllReadyL.cons rfl (fun K hK => ?_) AllReadyL.nil)
          ·refine st_app1 rfl (.tmp 29) (.tmp 31) rfl rfl rfl hL st ?_
           intro WW b33 c33 st
           refine hK.out _ _ (st.box.cell 0 _ rfl) fun _ => ?_
           clear hK K
           simp only [Act.put, zq1, zq2, zq3, zq4, zq5, zq6]
           refine wpAnyL_ready (rs := [13]) (by kernel_rfl) (by simp) rfl ?_
           refine AllReadyL.cons rfl (fun K hK => ?_) AllReadyL.nil
           refine st_two rfl rfl rfl rfl st ?_
           intro WW g37 st
           refine hK.out _ _ (st.box.cell 0 _ rfl) fun _ => ?_
           clear hK K
           simp only [Act.put, zq1, zq2, zq3, zq4, zq5, zq6]
           refine wpAnyL_ready (rs := [14]) (by kernel_rfl) (by simp) rfl ?_
           refine AllReadyL.cons rfl (fun K hK => ?_) AllReadyL.nil
           refine st_app2 rfl (.tmp 33) (.tmp 36) rfl rfl rfl hL st ?_
           intro WW b38 c38 st
           refine hK.out _ _ (st.box.cell 0 _ rfl) fun _ => ?_
           clear hK K
           simp only [Act.put, zq1, zq2, zq3, zq4, zq5, zq6]
           refine wpAnyL_ready (rs := [20]) (by kernel_rfl) (by simp) rfl ?_
           refine AllReadyL.cons rfl (fun K hK => ?_) AllReadyL.nil
           refine st_app3 rfl (.tmp 38) (.tmp 42) rfl rfl rfl hL st ?_
           intro WW b41 c41 st
           refine hK.out _ _ (st.box.cell 0 _ rfl) fun _ => ?_
           clear hK K
           simp only [Act.put, zq1, zq2, zq3, zq4, zq5, zq6]
           refine wpAnyL_ready (rs := [21]) (by kernel_rfl) (by simp) rfl ?_
           refine AllReadyL.cons rfl (fun K hK => ?_) AllReadyL.nil
           refine st_four rfl rfl rfl rfl rfl rfl st ?_
           intro WW g42 st
           refine hK.out _ _ (st.box.cell 0 _ rfl) fun _ => ?_
           clear hK K
           simp only [Act.put, zq1, zq2, zq3, zq4, zq5, zq6]
           refine wpAnyL_last (by kernel_rfl) ?_
           refine zqr 22 rfl (fun K hK => ?_)
           refine st_appL rfl (.tmp 27) (.tmp 44) rfl rfl rfl st HK1.out HA.out.1 HA.out.2 (by omega) ?_
           intro W7 b9 c9 m9 ft
           refine hK.out _ _ trivial fun _ => ?_
           simp only [Act.put, zq1, zq2, zq3, zq4, zq5, zq6]
           clear hK K st
           refine zqk 23 rfl trivial ?_
           simp only [Act.put, zq1, zq2, zq3, zq4, zq5, zq6]
           refine zqk 24 rfl trivial ?_
           simp only [Act.put, zq1, zq2, zq3, zq4, zq5, zq6]
           refine zqr 25 rfl (fun K hK => ?_)
           refine st_storeL rfl rfl rfl rfl ft ?_
           intro W8 ft8
           refine hK.out _ _ trivial fun _ => ?_
           simp only [Act.put, zq4, zq5, zq6]
           clear hK K ft
           have H8 : Hid _ := ft8
           clear ft8
           refine wpAnyH_done (by kernel_rfl) ?_ _
           go_wp2_with fail
           go_meet
           exact ⟨rfl, _, _, _, _, _, _, H8.out⟩
          ·refine st_two rfl rfl rfl rfl st ?_
           intro WW g37 st
           refine hK.out _ _ (st.box.cell 0 _ rfl) fun _ => ?_
           clear hK K
           simp only [Act.put, zq1, zq2, zq3, zq4, zq5, zq6]
           refine wpAnyL_ready (rs := [9]) (by kernel_rfl) (by simp) rfl ?_
           refine AllReadyL.cons rfl (fun K hK => ?_) AllReadyL.nil
           refine st_app1 rfl (.tmp 29) (.tmp 31) rfl rfl rfl hL st ?_
           intro WW b33 c33 st
           refine hK.out _ _ (st.box.cell 0 _ rfl) fun _ => ?_
           clear hK K
           simp only [Act.put, zq1, zq2, zq3, zq4, zq5, zq6]
           refine wpAnyL_ready (rs := [14]) (by kernel_rfl) (by simp) rfl ?_
           refine AllReadyL.cons rfl (fun K hK => ?_) AllReadyL.nil
           refine st_app2 rfl (.tmp 33) (.tmp 36) rfl rfl rfl hL st ?_
           intro WW b38 c38 st
           refine hK.out _ _ (st.box.cell 0 _ rfl) fun _ => ?_
           clear hK K
           simp only [Act.put, zq1, zq2, zq3, zq4, zq5, zq6]
           refine wpAnyL_ready (rs := [20]) (by kernel_rfl) (by simp) rfl ?_
           refine AllReadyL.cons rfl (fun K hK => ?_) AllReadyL.nil
           refine st_app3 rfl (.tmp 38) (.tmp 42) rfl rfl rfl hL st ?_
           intro WW b41 c41 st
           refine hK.out _ _ (st.box.cell 0 _ rfl) fun _ => ?_
           clear hK K
           simp only [Act.put, zq1, zq2, zq3, zq4, zq5, zq6]
           refine wpAnyL_ready (rs := [21]) (by kernel_rfl) (by simp) rfl ?_
           refine AllReadyL.cons rfl (fun K hK => ?_) AllReadyL.nil
           refine st_four rfl rfl rfl rfl rfl rfl st ?_
           intro WW g42 st
           refine hK.out _ _ (st.box.cell 0 _ rfl) fun _ => ?_
           clear hK K
           simp only [Act.put, zq1, zq2, zq3, zq4, zq5, zq6]
           refine wpAnyL_last (by kernel_rfl) ?_
           refine zqr 22 rfl (fun K hK => ?_)
           refine st_appL rfl (.tmp 27) (.tmp 44) rfl rfl rfl st HK1.out HA.out.1 HA.out.2 (by omega) ?_
           intro W7 b9 c9 m9 ft
           refine hK.out _ _ trivial fun _ => ?_
           simp only [Act.put, zq1, zq2, zq3, zq4, zq5, zq6]
           clear hK K st
           refine zqk 23 rfl trivial ?_
           simp only [Act.put, zq1, zq2, zq3, zq4, zq5, zq6]
           refine zqk 24 rfl trivial ?_
           simp only [Act.put, zq1, zq2, zq3, zq4, zq5, zq6]
           refine zqr 25 rfl (fun K hK => ?_)
           refine st_storeL rfl rfl rfl rfl ft ?_
           intro W8 ft8
           refine hK.out _ _ trivial fun _ => ?_
           simp only [Act.put, zq4, zq5, zq6]
           clear hK K ft
           have H8 : Hid _ := ft8
           clear ft8
           refine wpAnyH_done (by kernel_rfl) ?_ _
           go_wp2_with fail
           go_meet
           exact ⟨rfl, _, _, _, _, _, _, H8.out⟩
        ·refine st_two rfl rfl rfl rfl st ?_
         intro WW g37 st
         refine hK.out _ _ (st.box.cell 0 _ rfl) fun _ => ?_
         clear hK K
         simp only [Act.put, zq1, zq2, zq3, zq4, zq5, zq6]
         refine wpAnyL_ready (rs := [8, 19]) (by kernel_rfl) (by simp) rfl ?_
         refine AllReadyL.cons rfl (fun K hK => ?_) (AllReadyL.cons rfl (fun K hK => ?_) AllReadyL.nil)
         ·refine st_one rfl rfl rfl st ?_
          intro WW g32 st
          refine hK.out _ _ (st.box.cell 0 _ rfl) fun _ => ?_
          clear hK K
          simp only [Act.put, zq1, zq2, zq3, zq4, zq5, zq6]
          refine wpAnyL_ready (rs := [9, 19]) (by kernel_rfl) (by simp) rfl ?_
          refine AllReadyL.cons rfl (fun K hK => ?_) (AllReadyL.cons rfl (fun K hK => ?_) AllReadyL.nil)
          ·refine st_app1 rfl (.tmp 29) (.tmp 31) rfl rfl rfl hL st ?_
           intro WW b33 c33 st
           refine hK.out _ _ (st.box.cell 0 _ rfl) fun _ => ?_
           clear hK K
           simp only [Act.put, zq1, zq2, zq3, zq4, zq5, zq6]
           refine wpAnyL_ready (rs := [14, 19]) (by kernel_rfl) (by simp) rfl ?_
           refine AllReadyL.cons rfl (fun K hK => ?_) (AllReadyL.cons rfl (fun K hK => ?_) AllReadyL.nil)
           ·refine st_app2 rfl (.tmp 33) (.tmp 36) rfl rfl rfl hL st ?_
            intro WW b38 c38 st
            refine hK.out _ _ (st.box.cell 0 _ rfl) fun _ => ?_
            clear hK K
            simp only [Act.put, zq1, zq2, zq3, zq4, zq5, zq6]
            refine wpAnyL_ready (rs := [19]) (by kernel_rfl) (by simp) rfl ?_
            refine AllReadyL.cons rfl (fun K hK => ?_) AllReadyL.nil
            refine st_three rfl rfl rfl rfl rfl st ?_
            intro WW g3 st
            refine hK.out _ _ (st.box.cell 0 _ rfl) fun _ => ?_
            clear hK K
            simp only [Act.put, zq1, zq2, zq3, zq4, zq5, zq6]
            refine wpAnyL_ready (rs := [20]) (by kernel_rfl) (by simp) rfl ?_
            refine AllReadyL.cons rfl (fun K hK => ?_) AllReadyL.nil
            refine st_app3 rfl (.tmp 38) (.tmp 42) rfl rfl rfl hL st ?_
            intro WW b41 c41 st
            refine hK.out _ _ (st.box.cell 0 _ rfl) fun _ => ?_
            clear hK K
            simp only [Act.put, zq1, zq2, zq3, zq4, zq5, zq6]
            refine wpAnyL_ready (rs := [21]) (by kernel_rfl) (by simp) rfl ?_
            refine AllReadyL.cons rfl (fun K hK => ?_) AllReadyL.nil
            refine st_four rfl rfl rfl rfl rfl rfl st ?_
            intro WW g42 st
            refine hK.out _ _ (st.box.cell 0 _ rfl) fun _ => ?_
            clear hK K
            simp only [Act.put, zq1, zq2, zq3, zq4, zq5, zq6]
            refine wpAnyL_last (by kernel_rfl) ?_
            refine zqr 22 rfl (fun K hK => ?_)
            refine st_appL rfl (.tmp 27) (.tmp 44) rfl rfl rfl st HK1.out HA.out.1 HA.out.2 (by omega) ?_
            intro W7 b9 c9 m9 ft
            refine hK.out _ _ trivial fun _ => ?_
            simp only [Act.put, zq1, zq2, zq3, zq4, zq5, zq6]
            clear hK K st
            refine zqk 23 rfl trivial ?_
            simp only [Act.put, zq1, zq2, zq3, zq4, zq5, zq6]
            refine zqk 24 rfl trivial ?_
            simp only [Act.put, zq1, zq2, zq3, zq4, zq5, zq6]
            refine zqr 25 rfl (fun K hK => ?_)
            refine st_storeL rfl rfl rfl rfl ft ?_
            intro W8 ft8
            refine hK.out _ _ trivial fun _ => ?_
            simp only [Act.put, zq4, zq5, zq6]
            clear hK K ft
            have H8 : Hid _ := ft8
            clear ft8
            refine wpAnyH_done (by kernel_rfl) ?_ _
            go_wp2_with fail
            go_meet
            exact ⟨rfl, _, _, _, _, _, _, H8.out⟩
           ·refine st_three rfl rfl rfl rfl rfl st ?_
            intro WW g3 st
            refine hK.out _ _ (st.box.cell 0 _ rfl) fun _ => ?_
            clear hK K
            simp only [Act.put, zq1, zq2, zq3, zq4, zq5, zq6]
            refine wpAnyL_ready (rs := [14]) (by kernel_rfl) (by simp) rfl ?_
            refine AllReadyL.cons rfl (fun K hK => ?_) AllReadyL.nil
            refine st_app2 rfl (.tmp 33) (.tmp 36) rfl rfl rfl hL st ?_
            intro WW b38 c38 st
            refine hK.out _ _ (st.box.cell 0 _ rfl) fun _ => ?_
            clear hK K
            simp only [Act.put, zq1, zq2, zq3, zq4, zq5, zq6]
            refine wpAnyL_ready (rs := [20]) (by kernel_rfl) (by simp) rfl ?_
            refine AllReadyL.cons rfl (fun K hK => ?_) AllReadyL.nil
            refine st_app3 rfl (.tmp 38) (.tmp 42) rfl rfl rfl hL st ?_
            intro WW b41 c41 st
            refine hK.out _ _ (st.box.cell 0 _ rfl) fun _ => ?_
            clear hK K
            simp only [Act.put, zq1, zq2, zq3, zq4, zq5, zq6]
            refine wpAnyL_ready (rs := [21]) (by kernel_rfl) (by simp) rfl ?_
            refine AllReadyL.cons rfl (fun K hK => ?_) AllReadyL.nil
            refine st_four rfl rfl rfl rfl rfl rfl st ?_
            intro WW g42 st
            refine hK.out _ _ (st.box.cell 0 _ rfl) fun _ => ?_
            clear hK K
            simp only [Act.put, zq1, zq2, zq3, zq4, zq5, zq6]
            refine wpAnyL_last (by kernel_rfl) ?_
            refine zqr 22 rfl (fun K hK => ?_)
            refine st_appL rfl (.tmp 27) (.tmp 44) rfl rfl rfl st HK1.out HA.out.1 HA.out.2 (by omega) ?_
            intro W7 b9 c9 m9 ft
            refine hK.out _ _ trivial fun _ => ?_
            simp only [Act.put, zq1, zq2, zq3, zq4, zq5, zq6]
            clear hK K st
            refine zqk 23 rfl trivial ?_
            simp only [Act.put, zq1, zq2, zq3, zq4, zq5, zq6]
            refine zqk 24 rfl trivial ?_
            simp only [Act.put, zq1, zq2, zq3, zq4, zq5, zq6]
            refine zqr 25 rfl (fun K hK => ?_)
            refine st_storeL rfl rfl rfl rfl ft ?_
            intro W8 ft8
            refine hK.out _ _ trivial fun _ => ?_
            simp only [Act.put, zq4, zq5, zq6]
            clear hK K ft
            have H8 : Hid _ := ft8
            clear ft8
            refine wpAnyH_done (by kernel_rfl) ?_ _
            go_wp2_with fail
            go_meet
            exact ⟨rfl, _, _, _, _, _, _, H8.out⟩
          ·refine st_three rfl rfl rfl rfl rfl st ?_
           intro WW g3 st
           refine hK.out _ _ (st.box.cell 0 _ rfl) fun _ => ?_
           clear hK K
           simp only [Act.put, zq1, zq2, zq3, zq4, zq5, zq6]
           refine wpAnyL_ready (rs := [9]) (by kernel_rfl) (by simp) rfl ?_
           refine AllReadyL.cons rfl (fun K hK => ?_) AllReadyL.nil
           refine st_app1 rfl (.tmp 29) (.tmp 31) rfl rfl rfl hL st ?_
           intro WW b33 c33 st
           refine hK.out _ _ (st.box.cell 0 _ rfl) fun _ => ?_
           clear hK K
           simp only [Act.put, zq1, zq2, zq3, zq4, zq5, zq6]
           refine wpAnyL_ready (rs := [14]) (by kernel_rfl) (by simp) rfl ?_
           refine AllReadyL.cons rfl (fun K hK => ?_) AllReadyL.nil
           refine st_app2 rfl (.tmp 33) (.tmp 36) rfl rfl rfl hL st ?_
           intro WW b38 c38 st
           refine hK.out _ _ (st.box.cell 0 _ rfl) fun _ => ?_
           clear hK K
           simp only [Act.put, zq1, zq2, zq3, zq4, zq5, zq6]
           refine wpAnyL_ready (rs := [20]) (by kernel_rfl) (by simp) rfl ?_
           refine AllReadyL.cons rfl (fun K hK => ?_) AllReadyL.nil
           refine st_app3 rfl (.tmp 38) (.tmp 42) rfl rfl rfl hL st ?_
           intro WW b41 c41 st
           refine hK.out _ _ (st.box.cell 0 _ rfl) fun _ => ?_
           clear hK K
           simp only [Act.put, zq1, zq2, zq3, zq4, zq5, zq6]
           refine wpAnyL_ready (rs := [21]) (by kernel_rfl) (by simp) rfl ?_
           refine AllReadyL.cons rfl (fun K hK => ?_) AllReadyL.nil
           refine st_four rfl rfl rfl rfl rfl rfl st ?_
           intro WW g42 st
           refine hK.out _ _ (st.box.cell 0 _ rfl) fun _ => ?_
           clear hK K
           simp only [Act.put, zq1, zq2, zq3, zq4, zq5, zq6]
           refine wpAnyL_last (by kernel_rfl) ?_
           refine zqr 22 rfl (fun K hK => ?_)
           refine st_appL rfl (.tmp 27) (.tmp 44) rfl rfl rfl st HK1.out HA.out.1 HA.out.2 (by omega) ?_
           intro W7 b9 c9 m9 ft
           refine hK.out _ _ trivial fun _ => ?_
           simp only [Act.put, zq1, zq2, zq3, zq4, zq5, zq6]
           clear hK K st
           refine zqk 23 rfl trivial ?_
           simp only [Act.put, zq1, zq2, zq3, zq4, zq5, zq6]
           refine zqk 24 rfl trivial ?_
           simp only [Act.put, zq1, zq2, zq3, zq4, zq5, zq6]
           refine zqr 25 rfl (fun K hK => ?_)
           refine st_storeL rfl rfl rfl rfl ft ?_
           intro W8 ft8
           refine hK.out _ _ trivial fun _ => ?_
           simp only [Act.put, zq4, zq5, zq6]
           clear hK K ft
           have H8 : Hid _ := ft8
           clear ft8
           refine wpAnyH_done (by kernel_rfl) ?_ _
           go_wp2_with fail
           go_meet
           exact ⟨rfl, _, _, _, _, _, _, H8.out⟩
         ·refine st_three rfl rfl rfl rfl rfl st ?_
          intro WW g3 st
          refine hK.out _ _ (st.box.cell 0 _ rfl) fun _ => ?_
          clear hK K
          simp only [Act.put, zq1, zq2, zq3, zq4, zq5, zq6]
          refine wpAnyL_ready (rs := [8]) (by kernel_rfl) (by simp) rfl ?_
          refine AllReadyL.cons rfl (fun K hK => ?_) AllReadyL.nil
          refine st_one rfl rfl rfl st ?_
          intro WW g32 st
          refine hK.out _ _ (st.box.cell 0 _ rfl) fun _ => ?_
          clear hK K
          simp only [Act.put, zq1, zq2, zq3, zq4, zq5, zq6]
          refine wpAnyL_ready (rs := [9]) (by kernel_rfl) (by simp) rfl ?_
          refine AllReadyL.cons rfl (fun K hK => ?_) AllReadyL.nil
          refine st_app1 rfl (.tmp 29) (.tmp 31) rfl rfl rfl hL st ?_
          intro WW b33 c33 st
          refine hK.out _ _ (st.box.cell 0 _ rfl) fun _ => ?_
          clear hK K
          simp only [Act.put, zq1, zq2, zq3, zq4, zq5, zq6]
          refine wpAnyL_ready (rs := [14]) (by kernel_rfl) (by simp) rfl ?_
          refine AllReadyL.cons rfl (fun K hK => ?_) AllReadyL.nil
          refine st_app2 rfl (.tmp 33) (.tmp 36) rfl rfl rfl hL st ?_
          intro WW b38 c38 st
          refine hK.out _ _ (st.box.cell 0 _ rfl) fun _ => ?_
          clear hK K
          simp only [Act.put, zq1, zq2, zq3, zq4, zq5, zq6]
          refine wpAnyL_ready (rs := [20]) (by kernel_rfl) (by simp) rfl ?_
          refine AllReadyL.cons rfl (fun K hK => ?_) AllReadyL.nil
          refine st_app3 rfl (.tmp 38) (.tmp 42) rfl rfl rfl hL st ?_
          intro WW b41 c41 st
          refine hK.out _ _ (st.box.cell 0 _ rfl) fun _ => ?_
          clear hK K
          simp only [Act.put, zq1, zq2, zq3, zq4, zq5, zq6]
          refine wpAnyL_ready (rs := [21]) (by kernel_rfl) (by simp) rfl ?_
          refine AllReadyL.cons rfl (fun K hK => ?_) AllReadyL.nil
          refine st_four rfl rfl rfl rfl rfl rfl st ?_
          intro WW g42 st
          refine hK.out _ _ (st.box.cell 0 _ rfl) fun _ => ?_
          clear hK K
          simp only [Act.put, zq1, zq2, zq3, zq4, zq5, zq6]
          refine wpAnyL_last (by kernel_rfl) ?_
          refine zqr 22 rfl (fun K hK => ?_)
          refine st_appL rfl (.tmp 27) (.tmp 44) rfl rfl rfl st HK1.out HA.out.1 HA.out.2 (by omega) ?_
          intro W7 b9 c9 m9 ft
          refine hK.out _ _ trivial fun _ => ?_
          simp only [Act.put, zq1, zq2, zq3, zq4, zq5, zq6]
          clear hK K st
          refine zqk 23 rfl trivial ?_
          simp only [Act.put, zq1, zq2, zq3, zq4, zq5, zq6]
          refine zqk 24 rfl trivial ?_
          simp only [Act.put, zq1, zq2, zq3, zq4, zq5, zq6]
          refine zqr 25 rfl (fun K hK => ?_)
          refine st_storeL rfl rfl rfl rfl ft ?_
          intro W8 ft8
          refine hK.out _ _ trivial fun _ => ?_
          simp only [Act.put, zq4, zq5, zq6]
          clear hK K ft
          have H8 : Hid _ := ft8
          clear ft8
          refine wpAnyH_done (by kernel_rfl) ?_ _
          go_wp2_with fail
          go_meet
          exact ⟨rfl, _, _, _, _, _, _, H8.out⟩
        ·refine st_three rfl rfl rfl rfl rfl st ?_
         intro WW g3 st
         refine hK.out _ _ (st.box.cell 0 _ rfl) fun _ => ?_
         clear hK K
         simp only [Act.put, zq1, zq2, zq3, zq4, zq5, zq6]
         refine wpAnyL_ready (rs := [8, 13]) (by kernel_rfl) (by simp) rfl ?_
         refine AllReadyL.cons rfl (fun K hK => ?_) (AllReadyL.cons rfl (fun K hK => ?_) AllReadyL.nil)
         ·refine st_one rfl rfl rfl st ?_
          intro WW g32 st
          refine hK.out _ _ (st.box.cell 0 _ rfl) fun _ => ?_
          clear hK K
          simp only [Act.put, zq1, zq2, zq3, zq4, zq5, zq6]
          refine wpAnyL_ready (rs := [9, 13]) (by kernel_rfl) (by simp) rfl ?_
          refine AllReadyL.cons rfl (fun K hK => ?_) (AllReadyL.cons rfl (fun K hK => ?_) AllReadyL.nil)
          ·refine st_app1 rfl (.tmp 29) (.tmp 31) rfl rfl rfl hL st ?_
           intro WW b33 c33 st
           refine hK.out _ _ (st.box.cell 0 _ rfl) fun _ => ?_
           clear hK K
           simp only [Act.put, zq1, zq2, zq3, zq4, zq5, zq6]
           refine wpAnyL_ready (rs := [13]) (by kernel_rfl) (by simp) rfl ?_
           refine AllReadyL.cons rfl (fun K hK => ?_) AllReadyL.nil
           refine st_two rfl rfl rfl rfl st ?_
           intro WW g37 st
           refine hK.out _ _ (st.box.cell 0 _ rfl) fun _ => ?_
           clear hK K
           simp only [Act.put, zq1, zq2, zq3, zq4, zq5, zq6]
           refine wpAnyL_ready (rs := [14]) (by kernel_rfl) (by simp) rfl ?_
           refine AllReadyL.cons rfl (fun K hK => ?_) AllReadyL.nil
           refine st_app2 rfl (.tmp 33) (.tmp 36) rfl rfl rfl hL st ?_
           intro WW b38 c38 st
           refine hK.out _ _ (st.box.cell 0 _ rfl) fun _ => ?_
           clear hK K
           simp only [Act.put, zq1, zq2, zq3, zq4, zq5, zq6]
           refine wpAnyL_ready (rs := [20]) (by kernel_rfl) (by simp) rfl ?_
           refine AllReadyL.cons rfl (fun K hK => ?_) AllReadyL.nil
           refine st_app3 rfl (.tmp 38) (.tmp 42) rfl rfl rfl hL st ?_
           intro WW b41 c41 st
           refine hK.out _ _ (st.box.cell 0 _ rfl) fun _ => ?_
           clear hK K
           simp only [Act.put, zq1, zq2, zq3, zq4, zq5, zq6]
           refine wpAnyL_ready (rs := [21]) (by kernel_rfl) (by simp) rfl ?_
           refine AllReadyL.cons rfl (fun K hK => ?_) AllReadyL.nil
           refine st_four rfl rfl rfl rfl rfl rfl st ?_
           intro WW g42 st
           refine hK.out _ _ (st.box.cell 0 _ rfl) fun _ => ?_
           clear hK K
           simp only [Act.put, zq1, zq2, zq3, zq4, zq5, zq6]
           refine wpAnyL_last (by kernel_rfl) ?_
           refine zqr 22 rfl (fun K hK => ?_)
           refine st_appL rfl (.tmp 27) (.tmp 44) rfl rfl rfl st HK1.out HA.out.1 HA.out.2 (by omega) ?_
           intro W7 b9 c9 m9 ft
           refine hK.out _ _ trivial fun _ => ?_
           simp only [Act.put, zq1, zq2, zq3, zq4, zq5, zq6]
           clear hK K st
           refine zqk 23 rfl trivial ?_
           simp only [Act.put, zq1, zq2, zq3, zq4, zq5, zq6]
           refine zqk 24 rfl trivial ?_
           simp only [Act.put, zq1, zq2, zq3, zq4, zq5, zq6]
           refine zqr 25 rfl (fun K hK => ?_)
           refine st_storeL rfl rfl rfl rfl ft ?_
           intro W8 ft8
           refine hK.out _ _ trivial fun _ => ?_
           simp only [Act.put, zq4, zq5, zq6]
           clear hK K ft
           have H8 : Hid _ := ft8
           clear ft8
           refine wpAnyH_done (by kernel_rfl) ?_ _
           go_wp2_with fail
           go_meet
           exact ⟨rfl, _, _, _, _, _, _, H8.out⟩
          ·refine st_two rfl rfl rfl rfl st ?_
           intro WW g37 st
           refine hK.out _ _ (st.box.cell 0 _ rfl) fun _ => ?_
           clear hK K
           simp only [Act.put, zq1, zq2, zq3, zq4, zq5, zq6]
           refine wpAnyL_ready (rs := [9]) (by kernel_rfl) (by simp) rfl ?_
           refine AllReadyL.cons rfl (fun K hK => ?_) AllReadyL.nil
           refine st_app1 rfl (.tmp 29) (.tmp 31) rfl rfl rfl hL st ?_
           intro WW b33 c33 st
           refine hK.out _ _ (st.box.cell 0 _ rfl) fun _ => ?_
           clear hK K
           simp only [Act.put, zq1, zq2, zq3, zq4, zq5, zq6]
           refine wpAnyL_ready (rs := [14]) (by kernel_rfl) (by simp) rfl ?_
           refine AllReadyL.cons rfl (fun K hK => ?_) AllReadyL.nil
           refine st_app2 rfl (.tmp 33) (.tmp 36) rfl rfl rfl hL st ?_
           intro WW b38 c38 st
           refine hK.out _ _ (st.box.cell 0 _ rfl) fun _ => ?_
           clear hK K
           simp only [Act.put, zq1, zq2, zq3, zq4, zq5, zq6]
           refine wpAnyL_ready (rs := [20]) (by kernel_rfl) (by simp) rfl ?_
           refine AllReadyL.cons rfl (fun K hK => ?_) AllReadyL.nil
           refine st_app3 rfl (.tmp 38) (.tmp 42) rfl rfl rfl hL st ?_
           intro WW b41 c41 st
           refine hK.out _ _ (st.box.cell 0 _ rfl) fun _ => ?_
           clear hK K
           simp only [Act.put, zq1, zq2, zq3, zq4, zq5, zq6]
           refine wpAnyL_ready (rs := [21]) (by kernel_rfl) (by simp) rfl ?_
           refine AllReadyL.cons rfl (fun K hK => ?_) AllReadyL.nil
           refine st_four rfl rfl rfl rfl rfl rfl st ?_
           intro WW g42 st
           refine hK.out _ _ (st.box.cell 0 _ rfl) fun _ => ?_
           clear hK K
           simp only [Act.put, zq1, zq2, zq3, zq4, zq5, zq6]
           refine wpAnyL_last (by kernel_rfl) ?_
           refine zqr 22 rfl (fun K hK => ?_)
           refine st_appL rfl (.tmp 27) (.tmp 44) rfl rfl rfl st HK1.out HA.out.1 HA.out.2 (by omega) ?_
           intro W7 b9 c9 m9 ft
           refine hK.out _ _ trivial fun _ => ?_
           simp only [Act.put, zq1, zq2, zq3, zq4, zq5, zq6]
           clear hK K st
           refine zqk 23 rfl trivial ?_
           simp only [Act.put, zq1, zq2, zq3, zq4, zq5, zq6]
           refine zqk 24 rfl trivial ?_
           simp only [Act.put, zq1, zq2, zq3, zq4, zq5, zq6]
           refine zqr 25 rfl (fun K hK => ?_)
           refine st_storeL rfl rfl rfl rfl ft ?_
           intro W8 ft8
           refine hK.out _ _ trivial fun _ => ?_
           simp only [Act.put, zq4, zq5, zq6]
           clear hK K ft
           have H8 : Hid _ := ft8
           clear ft8
           refine wpAnyH_done (by kernel_rfl) ?_ _
           go_wp2_with fail
           go_meet
           exact ⟨rfl, _, _, _, _, _, _, H8.out⟩
         ·refine st_two rfl rfl rfl rfl st ?_
          intro WW g37 st
          refine hK.out _ _ (st.box.cell 0 _ rfl) fun _ => ?_
          clear hK K
          simp only [Act.put, zq1, zq2, zq3, zq4, zq5, zq6]
          refine wpAnyL_ready (rs := [8]) (by kernel_rfl) (by simp) rfl ?_
          refine AllReadyL.cons rfl (fun K hK => ?_) AllReadyL.nil
          refine st_one rfl rfl rfl st ?_
          intro WW g32 st
          refine hK.out _ _ (st.box.cell 0 _ rfl) fun _ => ?_
          clear hK K
          simp only [Act.put, zq1, zq2, zq3, zq4, zq5, zq6]
          refine wpAnyL_ready (rs := [9]) (by kernel_rfl) (by simp) rfl ?_
          refine AllReadyL.cons rfl (fun K hK => ?_) AllReadyL.nil
          refine st_app1 rfl (.tmp 29) (.tmp 31) rfl rfl rfl hL st ?_
          intro WW b33 c33 st
          refine hK.out _ _ (st.box.cell 0 _ rfl) fun _ => ?_
          clear hK K
          simp only [Act.put, zq1, zq2, zq3, zq4, zq5, zq6]
          refine wpAnyL_ready (rs := [14]) (by kernel_rfl) (by simp) rfl ?_
          refine AllReadyL.cons rfl (fun K hK => ?_) AllReadyL.nil
          refine st_app2 rfl (.tmp 33) (.tmp 36) rfl rfl rfl hL st ?_
          intro WW b38 c38 st
          refine hK.out _ _ (st.box.cell 0 _ rfl) fun _ => ?_
          clear hK K
          simp only [Act.put, zq1, zq2, zq3, zq4, zq5, zq6]
          refine wpAnyL_ready (rs := [20]) (by kernel_rfl) (by simp) rfl ?_
          refine AllReadyL.cons rfl (fun K hK => ?_) AllReadyL.nil
          refine st_app3 rfl (.tmp 38) (.tmp 42) rfl rfl rfl hL st ?_
          intro WW b41 c41 st
          refine hK.out _ _ (st.box.cell 0 _ rfl) fun _ => ?_
          clear hK K
          simp only [Act.put, zq1, zq2, zq3, zq4, zq5, zq6]
          refine wpAnyL_ready (rs := [21]) (by kernel_rfl) (by simp) rfl ?_
          refine AllReadyL.cons rfl (fun K hK => ?_) AllReadyL.nil
          refine st_four rfl rfl rfl rfl rfl rfl st ?_
          intro WW g42 st
          refine hK.out _ _ (st.box.cell 0 _ rfl) fun _ => ?_
          clear hK K
          simp only [Act.put, zq1, zq2, zq3, zq4, zq5, zq6]
          refine wpAnyL_last (by kernel_rfl) ?_
          refine zqr 22 rfl (fun K hK => ?_)
          refine st_appL rfl (.tmp 27) (.tmp 44) rfl rfl rfl st HK1.out HA.out.1 HA.out.2 (by omega) ?_
          intro W7 b9 c9 m9 ft
          refine hK.out _ _ trivial fun _ => ?_
          simp only [Act.put, zq1, zq2, zq3, zq4, zq5, zq6]
          clear hK K st
          refine zqk 23 rfl trivial ?_
          simp only [Act.put, zq1, zq2, zq3, zq4, zq5, zq6]
          refine zqk 24 rfl trivial ?_
          simp only [Act.put, zq1, zq2, zq3, zq4, zq5, zq6]
          refine zqr 25 rfl (fun K hK => ?_)
          refine st_storeL rfl rfl rfl rfl ft ?_
          intro W8 ft8
          refine hK.out _ _ trivial fun _ => ?_
          simp only [Act.put, zq4, zq5, zq6]
          clear hK K ft
          have H8 : Hid _ := ft8
          clear ft8
          refine wpAnyH_done (by kernel_rfl) ?_ _
          go_wp2_with fail
          go_meet
          exact ⟨rfl, _, _, _, _, _, _, H8.out⟩
      case rest =>
        obtain ⟨rfl, v33, v38, v41, b9, m9, c9, ft⟩ := hcut
        have x1 := ft.box.cell 1 _ rfl
        have HF : Hid (FT w1 B gK n m (.slice av n cv) (.slice al rows.length cl) (.slice am rows.length cm) rows (.slice b9 m9 c9) v33 v38 v41 (.slice b9 m9 c9) wc) := ft
        have HX : Hid (∀ W, W = wc.alloc (.cells #[.int .u8 (m : Int), .int .u8 (m : Int), .int .u8 (m : Int), .int .u8 (m : Int)] 5) → Wb.Own B W (.slice am rows.length cm) (rows.map (·.2.2)) ∧ W.rangeAt wc.heap.size 0 (bv [m, m, m, m]) ∧ Below wc.heap.size wc W ∧ B ≤ W.heap.size) := fun W e => by
          subst e
          exact ⟨ft.marks.alloc _, (lb_new wc (bv [m, m, m, m]) 5).range, up0 _ _, Nat.le_trans HBW.out (Nat.le_trans ft.fr.size (up0 _ _).size)⟩
        have HOK : Hid (ok [m, m, m, m]) := by
          show ok [m, m, m, m]
          intro x hx
          simp at hx
          omega
        clear ft
        go_wp2_with (at_builtin; refine wpList_app_at _ rfl (.tmp 52) (.tmp 57) 44 rfl B hin Try.underlying44 (.slice am rows.length cm) (rows.map (·.2.2)) rfl (HX.out _ rfl).1 wc.heap.size 4 4 [m, m, m, m] rfl rfl (HX.out _ rfl).2.1 HOK.out (by rw [List.length_map]; omega) (HX.out _ rfl).2.2.2 ?_)
        intro vm' W5 o5 g5 b5
        obtain ⟨a5, c5, m5, e5⟩ : ∃ a5, ∃ c5 m5 : Nat, vm' = .slice a5 m5 c5 := by obtain ⟨a2, c2, e, -⟩ := Mg.row_shape o5.row; exact ⟨a2, c2, _, e⟩
        subst e5
        obtain ⟨L5, K5, F5, N5⟩ := HF.out.done HK1.out HA.out.2 (HX.out _ rfl).2.2.1 o5 g5 (by rw [heap_one]; exact b5)
        have y1 := L5.cell 1 _ rfl
        have z1 := L5.free 1
        have HD : Hid (BtPost B gK (.slice al rows.length cl) (.slice am rows.length cm) (.slice av n cv) rows n w (W5.setCell ⟨gK, 1, none⟩ (.slice a5 m5 c5))) := by
          have hs := HG.out.size
          have nb : ∀ x v, NewB w1 x v → NewB w x v := fun x v h => by
            rcases h with h | h
            · exact .inl h
            · exact .inr fun g e => Nat.le_trans hs (h g e)
          exact ⟨_, _, v33, v38, v41, m, K5, nb _ _ HF.out.n33, nb _ _ HF.out.n38, nb _ _ HF.out.n41, nb _ _ HF.out.n43, nb _ _ N5, (FrK.of HG.out fun k _ e => .inr (.inr (.inr e))).trans F5 fun k _ e => e⟩
        clear o5 g5 b5 L5 K5 F5 N5 HF HX HOK x1
        go_wp2_with fail
        go_returns
        exact ⟨rfl, HD.out⟩
end Go.Proofs.Ytceokpklcfmadaa
