/-
  Package disk: SyncDir.
-/
import Derived.Test.YtjepeeopjjnglaaDkb
namespace Go.Proofs.Ytjepeeopjjnglaa
open Go Go.RowKit Go.ChangeShapes Go.Maps Go.Sort Go.Shelf
open Wb
attribute [local go_sem] map_eql_some map_eql_none run_mkmap

/-- while the names are ranged over -/
structure SDI (B g r b n : Nat) (w : World) (S3 : Dk.DS) (M3 : Mm) (left : Lit → Bool) (cnt : Nat) (t : Int) (W : World) : Prop where
  dm : DM B W g { S3 with taken := t } M3
  rg : W.ranges Try.prog 9 fpR b r n (Dk.dm S3.nm) left cnt
  su : t + (Dk.lsum S3.nm S3.fo left : Int) = (Dk.tot S3.nm S3.fo : Int)
  t0 : 0 ≤ t
  fr : IFr w W (fun q => q = g ∨ q = r)
  nr : ∀ q, Ft g S3 M3 q → q ≠ r
theorem grownBy_set1 (W : World) (B : Nat) (v : Value) : W.grownBy (W.setCell ⟨B, 1, none⟩ v) (some B) := ⟨rfl, rfl, rfl, by simp [World.setCell], fun i _ hi => set_other _ _ _ _ fun e => hi (by rw [e])⟩
theorem SDI.step {B g r b n : Nat} {w : World} {S3 : Dk.DS} {M3 : Mm} {left : Lit → Bool} {cnt : Nat} {t : Int} {W : World} (h : SDI B g r b n w S3 M3 left cnt t W) (hs : Dk.rising S3.nm ∧ (∀ p ∈ S3.nm, p.2 ∈ S3.ids) ∧ Dk.tot S3.nm S3.fo ≤ 1000000000000 ∧ M3.mn = some b) {x : List UInt8} {f cnt1 : Nat} {w1 : World} (hx : NXF b r n S3.nm left cnt W x f cnt1 w1) :
    SDI B g r b n w S3 M3 (fun z => left z && !z.sameKey (.string x)) cnt1 (t + ((S3.fo f).data.length : Int)) (w1.drew.setCell ⟨g, 1, none⟩ (.int .i64 (t + ((S3.fo f).data.length : Int)))) ∧ DM B w1.drew g { S3 with taken := t } M3 ∧ f ∈ S3.ids ∧ (IntKind.i64.wrap (t + ((S3.fo f).data.length : Int)) = t + ((S3.fo f).data.length : Int)) := by
  have hm := Dk.get_mem hx.gt
  have hsum := Dk.lsum_step S3.fo left x f hx.lx S3.nm hs.1 hm
  have hsu := h.su
  have ht0 := h.t0
  have d1 : DM B w1 g { S3 with taken := t } M3 := h.dm.blk fun q hq => hx.gr.block q (h.dm.ft hq).2 fun e => h.nr q hq (Option.some.inj e)
  have d2 := d1.kept (drew_bel w1)
  have r2 : w1.drew.ranges Try.prog 9 fpR b r n (Dk.dm S3.nm) (fun z => left z && !z.sameKey (.string x)) cnt1 := hx.rg.kept (grown_none (drew_bel w1) none) (by simp) (by simp)
  have hbg : b ≠ g := fun e => d1.gne.1 (by rw [← e]; exact hs.2.2.2)
  have hrg : r ≠ g := fun e => h.nr g (.inl rfl) e.symm
  refine ⟨⟨d2.num 1 _ _ rfl rfl rfl rfl rfl rfl, r2.kept (grownBy_set1 _ g _) (fun e => hbg (Option.some.inj e)) (fun e => hrg (Option.some.inj e)), by omega, by omega, ?_, h.nr⟩, d2, hs.2.1 _ hm, IntWalk.i64_in _ (by have := hs.2.2.1; omega)⟩
  refine (h.fr.trans (IFr.of (F := fun q => q = g ∨ q = r) hx.gr fun k _ e => .inr (Option.some.inj e).symm) fun _ _ e => e).trans ((IFr.kept (drew_bel w1)).trans (ifr_set _ g 1 _) fun _ _ e => e) fun _ _ e => .inl e
set_option maxRecDepth 100000 in
set_option maxHeartbeats 8000000 in
theorem dksyncdir_any (B g : Nat) (S : Dk.DS) (M : Mm) (w : World) (h : DM B w g S M) (hB : B ≤ w.heap.size) (hl : S.armed = true → 0 ≤ S.left ∧ S.left ≤ 9223372036854775807) (hid : ∀ p ∈ S.nm, p.2 ∈ S.ids) (htt : Dk.tot S.nm S.fo ≤ 1000000000000) :
    Calls Try.prog 37 #[.pointer (some ⟨g, 0, none⟩)] w fun e w' => e = .returned (.int .i64 (Dk.sdE S)) ∧ DPost B g S M w (Dk.sd S) w' := by
  have H0 : Hid (DM B w g S M) := h
  have HB : Hid (B ≤ w.heap.size) := hB
  have HI : Hid ((∀ p ∈ S.nm, p.2 ∈ S.ids) ∧ Dk.tot S.nm S.fo ≤ 1000000000000) := ⟨hid, htt⟩
  have cA := dkask_any B g S M (.slice none 0 0) [] w h ⟨none, 0, rfl, Nat.le_refl _, by unfold maxLen; omega, fun e => absurd rfl e⟩ (by simp)
  have cT := dkcount_any B g S M w h hl
  rw [List.map_nil] at cA
  clear h hB hl hid htt
  by_cases ha : Dk.askE S [] = 0
  · have HA : Hid (Dk.askE S [] = 0) := ha
    rw [ha] at cA
    clear ha
    go_enter Try.func37, Try.ntmps37
    go_wp2_with fail
    refine cA.mono ?_
    rintro e w' ⟨rfl, rfl⟩
    go_wp2_with fail
    refine cT.mono ?_
    rintro e W2 ⟨rfl, d2, f2⟩
    have HD2 : Hid (DM B W2 g (Dk.cnt S).2 M ∧ IFr w' W2 (Ft g S M)) := ⟨d2, f2.mono fun _ e => .inl e⟩
    clear d2 f2 cA cT
    by_cases hc0 : (Dk.cnt S).1 = 0
    · have HSE : Hid (Dk.sdE S = 0) := by
        show Dk.sdE S = 0
        unfold Dk.sdE
        rw [if_pos HA.out]
        exact hc0
      have HC0 : Hid ((Dk.cnt S).1 = 0) := hc0
      rw [hc0]
      clear hc0
      have x2 := HD2.out.1.box.cell 2 _ rfl
      have HCL : Hid (Calls Try.prog 55 #[.map M.mn] W2 fun e w' => ∃ m', e = .returned (.map m') ∧ MpA w' m' (Dk.cnt S).2.nm ∧ (∀ b, m' = some b → W2.heap.size ≤ b) ∧ Below W2.heap.size W2 w') := dkclone_any M.mn _ W2 HD2.out.1.nm
      go_wp2_with fail
      refine HCL.out.mono ?_
      rintro e W3 ⟨m', rfl, hm3, hn3, b3⟩
      have hB2 : B ≤ W2.heap.size := Nat.le_trans HB.out HD2.out.2.size
      have k3 := HD2.out.1.last hB2 b3 hm3 hn3
      have d3 := HD2.out.1.kept b3
      have y3 := d3.box.cell 3 _ rfl
      have g3 := d3.box.free 3
      have y4 := k3.1.box.cell 4 _ rfl
      have g4 := k3.1.box.free 4
      have k4 := k3.1.nochg
      have y1 := k4.box.cell 1 _ rfl
      have g1 := k4.box.free 1
      have k5 := k4.num 1 (.int .i64 0) { (Dk.cnt S).2 with la := (Dk.cnt S).2.nm, ch := [], taken := 0 } rfl rfl rfl rfl rfl rfl
      have HK5 : Hid (DM B (((W3.setCell ⟨g, 3, none⟩ (.map m')).setCell ⟨g, 4, none⟩ (.slice none 0 0)).setCell ⟨g, 1, none⟩ (.int .i64 0)) g { (Dk.cnt S).2 with la := (Dk.cnt S).2.nm, ch := [], taken := 0 } { M with ml := m', vc := .slice none 0 0 } ∧ IFr w' (((W3.setCell ⟨g, 3, none⟩ (.map m')).setCell ⟨g, 4, none⟩ (.slice none 0 0)).setCell ⟨g, 1, none⟩ (.int .i64 0)) (Ft g S M) ∧ ∀ q, Ft g { (Dk.cnt S).2 with la := (Dk.cnt S).2.nm, ch := [], taken := 0 } { M with ml := m', vc := .slice none 0 0 } q → Ft g S M q ∨ w'.heap.size ≤ q) := ⟨k5, ((HD2.out.2.trans k3.2.1 fun _ _ e => ft_cnt e).trans (ifr_set _ g 4 _) fun _ _ e => .inl e).trans (ifr_set _ g 1 _) fun _ _ e => .inl e, fun q hq => by
        rcases k3.2.2 q (ft_nochg hq) with e | e
        · exact .inl (ft_cnt e)
        · exact .inr (Nat.le_trans HD2.out.2.size e)⟩
      clear k3 k4 k5 d3 hm3 hn3 b3 x2 HCL hB2
      go_upto_region 10 with fail
      obtain ⟨W5, hW5⟩ : ∃ W, W = ((W3.setCell ⟨g, 3, none⟩ (.map m')).setCell ⟨g, 4, none⟩ (.slice none 0 0)).setCell ⟨g, 1, none⟩ (.int .i64 0) := ⟨_, rfl⟩
      rw [← hW5] at HK5 ⊢
      clear hW5 y3 g3 y4 g4 y1 g1
      obtain ⟨S3, hS3⟩ : ∃ S3 : Dk.DS, S3 = { (Dk.cnt S).2 with la := (Dk.cnt S).2.nm, ch := [], taken := 0 } := ⟨_, rfl⟩
      obtain ⟨M3, hM3⟩ : ∃ M3 : Mm, M3 = { M with ml := m', vc := .slice none 0 0 } := ⟨_, rfl⟩
      have hmm : M3.mn = M.mn := by rw [hM3]
      rw [← hS3, ← hM3] at HK5
      have HS3 : Hid (S3.nm = S.nm ∧ S3.fo = S.fo ∧ S3.ids = S.ids ∧ ∀ t : Int, { S3 with taken := t } = { (Dk.cnt S).2 with la := S.nm, ch := [], taken := t }) := by
        subst hS3
        exact ⟨Dk.cnt_nm S, Dk.cnt_fo S, Dk.cnt_ids S, fun t => by simp only [Dk.cnt_nm]⟩
      have HT0 : Hid (S3.taken = 0) := by rw [hS3]; exact rfl
      have HFN : Hid (∀ W, DM B W g { S3 with taken := (Dk.tot S.nm S.fo : Int) } M3 → IFr w' W (Ft g S M) → DPost B g S M w' (Dk.sd S) W) := fun W h1 h2 => by
        have e9 : Dk.sd S = { S3 with taken := (Dk.tot S.nm S.fo : Int) } := by
          unfold Dk.sd
          rw [if_pos HA.out, if_pos HC0.out, HS3.out.2.2.2]
        rw [e9]
        exact ⟨M3, h1, h2, fun q hq => HK5.out.2.2 q hq⟩
      clear hS3 hM3
      have z2 := HK5.out.1.box.cell 2 _ rfl
      cases hmn : M3.mn with
      | none =>
        have hnm : S3.nm = [] := by
          rcases HK5.out.1.nm.2 with ⟨-, e⟩ | ⟨b, e, -⟩
          · exact e
          · rw [hmn] at e
            cases e
        rw [hmn] at z2
        have HFIN : Hid (DPost B g S M w' (Dk.sd S) (W5.alloc (.mapIter none 0 #[] 0))) := by
          refine HFN.out _ ?_ (HK5.out.2.1.trans (IFr.kept (F := Ft g S M) (up0 _ _)) fun _ _ e => e)
          have e8 : Dk.tot S.nm S.fo = 0 := by
            rw [← HS3.out.1, hnm]
            rfl
          rw [e8]
          have e7 : { S3 with taken := ((0 : Nat) : Int) } = S3 := by
            have h9 := HT0.out
            cases S3
            simp only at h9
            simp [h9]
          rw [e7]
          exact HK5.out.1.kept (up0 _ _)
        have hrg := run_range_nilMap (P := Try.prog) W5 79 9 85 Try.underlying79
        have hnx : ∀ ty, (Instr.next (.pointer (some ⟨W5.heap.size, 0, none⟩)) false ty).run Try.prog (W5.alloc (.mapIter none 0 #[] 0)) = _ := fun ty => run_next_nilMap _ ty 0 0 #[]
        clear hmn hnm hmm
        go_wp2_with fail
        refine wp_loop_rounds 1 ?_
        rw [rounds_succ]
        go_wp2_with fail
        go_returns
        rw [HSE.out]
        exact ⟨rfl, HFIN.out⟩
      | some b =>
        rw [hmn] at z2
        have HOW : Hid (W5.ownsMap Try.prog 9 fpR b S3.nm.length (Dk.dm S3.nm)) := by
          rcases HK5.out.1.nm.2 with ⟨e, -⟩ | ⟨b', e, h9⟩
          · rw [hmn] at e
            cases e
          · rw [hmn] at e
            obtain rfl := Option.some.inj e
            exact h9
        have HST : Hid (Dk.rising S3.nm ∧ (∀ p ∈ S3.nm, p.2 ∈ S3.ids) ∧ Dk.tot S3.nm S3.fo ≤ 1000000000000 ∧ M3.mn = some b) := ⟨HK5.out.1.nm.1, by rw [HS3.out.1, HS3.out.2.2.1]; exact HI.out.1, by rw [HS3.out.1, HS3.out.2.1]; exact HI.out.2, hmn⟩
        clear hmn hmm
        go_wp2_with (at_range; refine wpList_range_own _ rfl _ 79 rfl 9 85 lawS Try.underlying79 _ b S3.nm.length _ rfl HOW.out ?_; intro w0 hrg0 hg0 hs0)
        try go_frame
        obtain ⟨r, hr⟩ : ∃ r, r = W5.heap.size := ⟨_, rfl⟩
        rw [← hr] at hrg0 ⊢
        obtain ⟨n, hn⟩ : ∃ n, n = S3.nm.length := ⟨_, rfl⟩
        rw [← hn] at hrg0
        have HBW : Hid (Below W5.heap.size W5 w0) := ⟨hg0.os, hg0.tape, hg0.output, hg0.size, fun k hk => hg0.block k hk (by simp)⟩
        have HI0 : Hid (SDI B g r b n W5 S3 M3 (Maps.has (Dk.dm S3.nm)) (Maps.size (Dk.dm S3.nm)) 0 w0) := by
          refine ⟨?_, hrg0, by rw [Dk.lsum_all]; omega, by omega, IFr.kept HBW.out, fun q hq e => ?_⟩
          · have e7 : { S3 with taken := (0 : Int) } = S3 := by
              have h9 := HT0.out
              cases S3
              simp only at h9
              simp [h9]
            rw [e7]
            exact HK5.out.1.kept HBW.out
          · have := (HK5.out.1.ft hq).2
            omega
        have HRW : Hid (w'.heap.size ≤ r) := by rw [hr]; exact HK5.out.2.1.size
        have HFIN : Hid (∀ left cnt t W, SDI B g r b n W5 S3 M3 left cnt t W → Left0 left → DPost B g S M w' (Dk.sd S) W) := fun left cnt t W hI hl => by
          have e1 : t = (Dk.tot S.nm S.fo : Int) := by
            have h9 := hI.su
            rw [Dk.lsum_none _ _ _ hl, HS3.out.1, HS3.out.2.1] at h9
            omega
          refine HFN.out W ?_ (HK5.out.2.1.trans hI.fr fun k hk e => ?_)
          · rw [← e1]
            exact hI.dm
          · rcases e with e | e
            · exact .inl e
            · have := HRW.out
              omega
        clear hrg0 hg0 hs0 hr hn z2
        try go_wp2_with fail
        go_loopw [6] (fun _ wr => ∃ (left : Lit → Bool) (cnt : Nat) (t : Int), SDI B g r b n W5 S3 M3 left cnt t wr) (fun _ wr => wr.rangeLeft b r)
        case atStart => exact ⟨_, _, _, HI0.out⟩
        case round =>
          clear HI0
          obtain ⟨left, cnt, t, hI⟩ := hrel
          have HH : Hid (SDI B g r b n W5 S3 M3 left cnt t wr) := hI
          clear hI
          go_wp2_with (at_next; refine wpList_nextF _ rfl _ rfl b r n S3.nm left cnt rfl HH.out.rg ?_ ?_)
          · intro hl0
            have HE : Hid (Left0 left) := hl0
            have HF : Hid (DPost B g S M w' (Dk.sd S) wr) := HFIN.out left cnt t wr HH.out hl0
            clear hl0
            go_wp2_with fail
            go_returns
            rw [HSE.out]
            exact ⟨rfl, HF.out⟩
          · intro x f cnt1 w1 hnx
            have HX : Hid (SDI B g r b n W5 S3 M3 (fun z => left z && !z.sameKey (.string x)) cnt1 (t + ((S3.fo f).data.length : Int)) (w1.drew.setCell ⟨g, 1, none⟩ (.int .i64 (t + ((S3.fo f).data.length : Int)))) ∧ DM B w1.drew g { S3 with taken := t } M3 ∧ f ∈ S3.ids ∧ (IntKind.i64.wrap (t + ((S3.fo f).data.length : Int)) = t + ((S3.fo f).data.length : Int))) := HH.out.step HST.out hnx
            have hen := hnx.en
            have HM : Hid (cnt1 < cnt ∧ wr.rangeLeft b r = cnt) := ⟨hnx.lt, HH.out.rg.left_eq⟩
            clear hnx
            obtain ⟨a1, c1, hdv, -⟩ := Mg.row_shape (HX.out.2.1.fd f HX.out.2.2.1).row
            have fb := HX.out.2.1.fb f HX.out.2.2.1
            rw [hdv] at fb
            simp only at fb hdv
            have x1 := HX.out.2.1.box.cell 1 _ rfl
            have g1 := HX.out.2.1.box.free 1
            simp only at x1
            have hwr := HX.out.2.2.2
            obtain ⟨Wz, hWz⟩ : ∃ W, W = w1.drew := ⟨_, rfl⟩
            have fb3 : LB (w1.drew.setCell ⟨g, 1, none⟩ (.int .i64 (t + ((S3.fo f).data.length : Int)))) f 84 [.slice a1 (S3.fo f).data.length c1, .int .i64 ((S3.fo f).syn : Int)] := by
              have h9 := HX.out.1.dm.fb f HX.out.2.2.1
              rw [hdv] at h9
              exact h9
            rw [← hWz] at fb x1 g1 HX fb3
            have hS0 := fb.cell 0 _ rfl
            have hS3 := fb3.cell 0 _ rfl
            clear hdv fb fb3
            go_upto_region 13 with fail
            refine wp_region_held_drew (S := fun W : World => W.cell? ⟨f, 0, none⟩ = some (.slice a1 (S3.fo f).data.length c1)) (by kernel_rfl) (by rw [← hWz]; exact hS0) (fun _ => ?_)
            rw [← hWz]
            clear hWz hen
            refine zqk 0 rfl hS0 ?_
            simp only [Act.put, zq1, zq2, zq3, zq4, zq5]
            refine zqk 1 rfl hS0 ?_
            simp only [Act.put, zq1, zq2, zq3, zq4, zq5, zq6]
            refine zqk 2 rfl hS0 ?_
            simp only [Act.put, zq1, zq2, zq3, zq4, zq5, zq6]
            refine zqk 4 rfl hS0 ?_
            simp only [Act.put, zq1, zq2, zq3, zq4, zq5, zq6]
            refine zqk 5 rfl hS0 ?_
            simp only [Act.put, zq1, zq2, zq3, zq4, zq5, zq6]
            refine zqk 6 rfl hS0 ?_
            simp only [Act.put, zq1, zq2, zq3, zq4, zq5, zq6]
            refine zqk 7 rfl hS0 ?_
            simp only [Act.put, zq1, zq2, zq3, zq4, zq5, zq6]
            refine zqk 8 rfl hS0 ?_
            simp only [Act.put, zq1, zq2, zq3, zq4, zq5, zq6]
            refine zqr 3 rfl (fun K hK => ?_)
            go_simp
            refine hK.out _ _ hS0 fun _ => ?_
            try simp only [Act.put, zq1, zq2, zq3, zq4, zq5, zq6]
            clear hK K
            refine zqk 9 rfl hS0 ?_
            simp only [Act.put, zq1, zq2, zq3, zq4, zq5, zq6]
            refine zqk 10 rfl hS0 ?_
            simp only [Act.put, zq1, zq2, zq3, zq4, zq5, zq6]
            refine zqk 11 rfl hS0 ?_
            simp only [Act.put, zq1, zq2, zq3, zq4, zq5, zq6]
            refine zqr 12 rfl (fun K hK => ?_)
            go_simp
            refine hK.out _ _ hS3 fun _ => ?_
            try simp only [Act.put, zq1, zq2, zq3, zq4, zq5, zq6]
            clear hK K
            refine wpAnyH_done (by kernel_rfl) ?_ _
            clear hS0 hS3 x1 g1
            go_wp2_with fail
            go_roundw
            case rel => exact ⟨_, _, _, HX.out.1⟩
            case measure =>
              rw [HX.out.1.rg.left_eq, HM.out.2]
              exact HM.out.1
    · obtain ⟨ce, hce⟩ : ∃ ce, ce = (Dk.cnt S).1 := ⟨_, rfl⟩
      have HE : Hid (Dk.sdE S = ce ∧ Dk.sd S = (Dk.cnt S).2) := by
        refine ⟨?_, ?_⟩
        · unfold Dk.sdE
          rw [if_pos HA.out, hce]
        · unfold Dk.sd
          rw [if_pos HA.out, if_neg hc0]
      rw [← hce] at hc0 ⊢
      have hd : (ce != 0) = true := by simp only [bne_iff_ne, ne_eq]; exact hc0
      clear hc0 hce
      go_wp2_with fail
      go_returns
      refine ⟨?_, ?_⟩
      · rw [HE.out.1]
        rfl
      · rw [HE.out.2]
        exact DPost.cnt HD2.out.2 HD2.out.1
  · obtain ⟨ae, hae⟩ : ∃ ae, ae = Dk.askE S [] := ⟨_, rfl⟩
    have HE : Hid (Dk.sdE S = ae ∧ Dk.sd S = S) := by
      refine ⟨?_, ?_⟩
      · unfold Dk.sdE
        rw [if_neg ha, hae]
      · unfold Dk.sd
        rw [if_neg ha]
    rw [← hae] at cA ha
    have hd : (ae != 0) = true := by simp only [bne_iff_ne, ne_eq]; exact ha
    clear hae ha cT
    go_enter Try.func37, Try.ntmps37
    go_wp2_with fail
    refine cA.mono ?_
    rintro e w' ⟨rfl, rfl⟩
    go_wp2_with fail
    go_returns
    refine ⟨?_, ?_⟩
    · rw [HE.out.1]
      rfl
    · rw [HE.out.2]
      exact DPost.same H0.out (Below.refl _ _)
end Go.Proofs.Ytjepeeopjjnglaa
