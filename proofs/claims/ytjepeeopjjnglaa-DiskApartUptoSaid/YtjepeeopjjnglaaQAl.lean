import Derived.Test.YtjepeeopjjnglaaQAk
import Derived.Test.YtjepeeopjjnglaaQAa
import Derived.Test.YtjepeeopjjnglaaQAe
import Derived.Test.YtjepeeopjjnglaaQA7
/-
  DiskApart: the walk.
-/
namespace Go.Proofs.Ytjepeeopjjnglaa
open Go Go.RowKit Go.ChangeShapes
open Wb
open Rd
open Cb (Bo Fr Cl)
set_option maxRecDepth 100000 in
set_option maxHeartbeats 32000000 in
theorem diskApart_walk (q : Int) (vs : Value) (n : Nat) (keep : Int) (cv : Value) (cs : List (Int × Int)) (w : World) (hs : OpS w vs n) (_hn : n ≤ 1048576) (hc : CtS w cv cs) :
    Calls Try.prog 3 #[.int .i64 q, vs, .int .i64 keep, cv] w fun e w' => e = .returned (.bool true) ∧ Below w.heap.size w w' := by
  obtain ⟨sa, sc, hve, hs1, hs2, hs3⟩ := hs
  subst hve
  have HS : Hid (∀ k, k < n → ∃ b off o, sa = some ⟨b, off, none⟩ ∧ (∀ i x, (opc o)[i]? = some x → w.cell? ⟨b, off + k * 8 + i, none⟩ = some x) ∧ OpOk w o) := hs3
  obtain ⟨p0, hp0⟩ : ∃ p, p = Dk.proper q := ⟨_, rfl⟩
  have hp0b : 16 ≤ p0 ∧ p0 ≤ 4194304 := by
    rw [hp0]
    unfold Dk.proper
    split <;> omega
  have HPC : Hid (Calls Try.prog 9 #[.int .i64 q] w fun e w' => e = .returned (.int .i64 p0) ∧ w' = w) := by
    rw [hp0]
    exact dlproper_any q w
  obtain ⟨pq, hpq⟩ : ∃ p, p = min p0 65536 := ⟨_, rfl⟩
  have hpb : 16 ≤ pq ∧ pq ≤ 65536 := by rw [hpq]; omega
  have HPQ : Hid (16 ≤ pq ∧ pq ≤ 65536 ∧ pq = min p0 65536) := ⟨hpb.1, hpb.2, hpq⟩
  have HRD : Hid (Calls Try.prog 10 #[.int .i64 pq] w fun e w' => ∃ g f M, e = .returned (.pointer (some ⟨g, 0, none⟩)) ∧ DM w.heap.size w' g (Dk.rdy pq f) M ∧ Below w.heap.size w w') := dlready_any pq w ⟨HPQ.out.1, by have := HPQ.out.2.1; omega⟩
  unfold maxLen at hs2
  have HCV : Hid (CtS w cv cs) := hc
  clear hs3 hc hp0 hpq
  go_enter Try.func3, Try.ntmps3
  go_wp2_with fail
  refine HPC.out.mono ?_
  rintro e w' ⟨rfl, rfl⟩
  go_wp2_with fail
  rw [show min p0 65536 = pq from HPQ.out.2.2.symm]
  refine HRD.out.mono ?_
  rintro e W1 ⟨g, f, M1, rfl, d1, b1⟩
  have H3 : Hid (DM w'.heap.size W1 g (Dk.rdy pq f) M1 ∧ Below w'.heap.size w' W1) := ⟨d1, b1⟩
  clear d1 b1 HPC HRD hp0b
  go_wp2_with fail
  obtain ⟨w0, hw0⟩ : ∃ x, x = w' := ⟨_, rfl⟩
  subst hw0
  go_loopw [10, 11, 12, 13, 14, 15, 16] (fun u10 u11 u12 u13 u14 u15 i wr => ∃ (k : Nat) (M : Mm) (S : Dk.DS) (Sx : List SE) (Bx : List BE) (Nx : List NE) (O : Nat → Nat), (k ≤ n ∧ k ≤ 40) ∧ i = .int .i64 (k : Int) ∧ DM w0.heap.size wr g S M ∧ Dk.WF S (k + 2) ∧ _root_.Go.Proofs.Ytjepeeopjjnglaa.En (Ft g S M) wr w0.heap.size wr.heap.size Sx Bx Nx O ∧ Rs w0.heap.size wr [u10, u11, u12, u13, u14, u15] [(31, Sx.map SE.v), (31, Sx.map SE.w), (30, Bx.map BE.v), (30, Bx.map BE.w), (41, Nx.map NE.v), (41, Nx.map NE.w)] ∧ (Sx.length ≤ 4 * k ∧ Bx.length ≤ 2 * k ∧ Nx.length = Bx.length) ∧ Below w0.heap.size w0 wr) (fun _ _ _ _ _ _ i _ => n - (intOf i).toNat)
  case atStart => exact ⟨0, M1, _, [], [], [], fun _ => 0, ⟨Nat.zero_le _, Nat.zero_le _⟩, rfl, H3.out.1, (Dk.wf4 pq f ⟨HPQ.out.1, by have := HPQ.out.2.1; omega⟩).mono (by omega), _root_.Go.Proofs.Ytjepeeopjjnglaa.En.nil _ _ _ _, Rs.nil _ _, ⟨Nat.zero_le _, Nat.zero_le _, rfl⟩, H3.out.2⟩
  case round =>
    obtain ⟨k, M, S, Sx, Bx, Nx, O, ⟨hk, hk40⟩, rfl, hdm, hwf, hen, hrs, hln, hb⟩ := hrel
    obtain ⟨a10, c10, e10, -⟩ := hrs.at_ 0 u10 31 (Sx.map SE.v) rfl rfl
    obtain ⟨a11, c11, e11, -⟩ := hrs.at_ 1 u11 31 (Sx.map SE.w) rfl rfl
    obtain ⟨a12, c12, e12, -⟩ := hrs.at_ 2 u12 30 (Bx.map BE.v) rfl rfl
    obtain ⟨a13, c13, e13, -⟩ := hrs.at_ 3 u13 30 (Bx.map BE.w) rfl rfl
    obtain ⟨a14, c14, e14, -⟩ := hrs.at_ 4 u14 41 (Nx.map NE.v) rfl rfl
    obtain ⟨a15, c15, e15, -⟩ := hrs.at_ 5 u15 41 (Nx.map NE.w) rfl rfl
    rw [List.length_map] at e10 e11 e12 e13 e14 e15
    subst e10 e11 e12 e13 e14 e15
    obtain ⟨nS, hnS⟩ : ∃ m, m = Sx.length := ⟨_, rfl⟩
    obtain ⟨nB, hnB⟩ : ∃ m, m = Bx.length := ⟨_, rfl⟩
    obtain ⟨nN, hnN⟩ : ∃ m, m = Nx.length := ⟨_, rfl⟩
    rw [← hnS, ← hnB, ← hnN] at hrs ⊢
    have HNN : Hid (nS = Sx.length ∧ nB = Bx.length ∧ nN = Nx.length) := ⟨hnS, hnB, hnN⟩
    have HD : Hid (DM w0.heap.size wr g S M ∧ Below w0.heap.size w0 wr) := ⟨hdm, hb⟩
    have HW : Hid (Dk.WF S (k + 2) ∧ (Sx.length ≤ 4 * k ∧ Bx.length ≤ 2 * k ∧ Nx.length = Bx.length)) := ⟨hwf, hln⟩
    have HEN : Hid (_root_.Go.Proofs.Ytjepeeopjjnglaa.En (Ft g S M) wr w0.heap.size wr.heap.size Sx Bx Nx O) := hen
    have HRS : Hid (Rs w0.heap.size wr [.slice a10 nS c10, .slice a11 nS c11, .slice a12 nB c12, .slice a13 nB c13, .slice a14 nN c14, .slice a15 nN c15] [(31, Sx.map SE.v), (31, Sx.map SE.w), (30, Bx.map BE.v), (30, Bx.map BE.w), (41, Nx.map NE.v), (41, Nx.map NE.w)]) := hrs
    clear hdm hwf hb H3 hen hrs hln hnS hnB hnN
    by_cases hlt : k < n ∧ k < 40
    · have t1 : ((k : Int) < (n : Int)) = True := eq_true (by omega)
      have t2 : ((k : Int) < 40) = True := eq_true (by omega)
      have hkn : k < n := hlt.1
      obtain ⟨b, off, o, hsa, hcell, hok⟩ := HS.out k hlt.1
      subst hsa
      have key : ∀ i x, (opc o)[i]? = some x → wr.cell? ⟨b, off + k * 8 + i, none⟩ = some x := fun i x hx => (HD.out.2.cell (p := ⟨b, _, none⟩) (World.block_lt_of_cell? _ _ (hcell i x hx))).trans (hcell i x hx)
      have r0 := key 0 _ rfl
      have r1 := key 1 _ rfl
      have r2 := key 2 _ rfl
      have r3 := key 3 _ rfl
      have r4 := key 4 _ rfl
      have r5 := key 5 _ rfl
      have r6 := key 6 _ rfl
      have r7 := key 7 _ rfl
      simp only [Nat.add_zero] at r0
      have HOK : Hid (OpOk w0 o) := hok
      have hk39 : k ≤ 39 := by omega
      clear hcell hok key
      go_upto_region 15 with fail
      have bw := up0 wr (.cells (opc o).toArray 33)
      have lw := lb_new wr (opc o) 33
      unfold opc at bw
      obtain ⟨p, hp⟩ : ∃ p, p = wr.heap.size := ⟨_, rfl⟩
      obtain ⟨Wp, hWp⟩ : ∃ W, W = wr.alloc (.cells #[.int .i64 o.k, .bool o.two, .string o.a, .string o.b, .int .i64 o.n, .slice o.da o.data.length o.dc, .slice o.ca o.cs.length o.cc, .slice o.fa o.fn o.fc] 33) := ⟨_, rfl⟩
      have lp : LB Wp p 33 (opc o) := by rw [hWp, hp]; exact lw
      have bp : Below wr.heap.size wr Wp := by rw [hWp]; exact bw
      rw [← hWp, ← hp]
      have HLP : Hid (∀ W : World, Wp.heap[p]? = W.heap[p]? → LB W p 33 (opc o)) := fun W hW => by
        unfold LB at lp ⊢
        rw [← hW]
        exact lp
      have HP : Hid (DM w0.heap.size Wp g S M ∧ Below w0.heap.size w0 Wp ∧ p < Wp.heap.size ∧ (∀ q, Ft g S M q → q < p) ∧ Below wr.heap.size wr Wp ∧ p = wr.heap.size) := ⟨HD.out.1.kept bp, andThen HD.out.2 bp, by unfold LB at lp; exact (Array.getElem?_eq_some_iff.1 lp).1, fun q hq => by rw [hp]; exact (HD.out.1.ft hq).2, bp, hp⟩
      clear r0 r1 r2 r3 r4 r5 r6 r7 lw bw lp bp hWp hp
      have lb := HLP.out Wp rfl
      have r0 := lb.cell 0 _ rfl
      have r1 := lb.cell 1 _ rfl
      have r2 := lb.cell 2 _ rfl
      have r3 := lb.cell 3 _ rfl
      have r4 := lb.cell 4 _ rfl
      have r5 := lb.cell 5 _ rfl
      have r6 := lb.cell 6 _ rfl
      have r7 := lb.cell 7 _ rfl
      clear lb
      have HCH : Hid (Calls Try.prog 11 #[.agg #[.int .i64 o.k, .bool o.two, .string o.a, .string o.b, .int .i64 o.n, .slice o.da o.data.length o.dc, .slice o.ca o.cs.length o.cc, .slice o.fa o.fn o.fc]] Wp fun e w' => e = .returned (.bool (Dk.chg o)) ∧ Below Wp.heap.size Wp w') := dlchanging_any o Wp
      cases hch : Dk.chg o with
      | true =>
        rw [hch] at HCH
        clear hch
        go_wp2_with fail
        refine HCH.out.mono ?_
        rintro e Wk ⟨rfl, bi⟩
        have HK : Hid (Below Wp.heap.size Wp Wk) := bi
        clear bi HCH r0 r1 r2 r3 r4 r5 r6 r7
        have lb := HLP.out Wk (HK.out.block p HP.out.2.2.1).symm
        have r5 := lb.cell 5 _ rfl
        have z5 := lb.free 5
        clear lb
        obtain ⟨o2, ho2⟩ : ∃ o2 : Rop, o2 = { o with data := o.data.take 70000 } := ⟨_, rfl⟩
        have HO2 : Hid (o2 = { o with data := o.data.take 70000 }) := ho2
        clear ho2
        have hdc : o.data.length ≤ o.dc ∧ o.dc ≤ maxLen := by
          obtain ⟨a9, c9, e9, q1, q2, -⟩ := HOK.out.2.1.shape
          simp only [Value.slice.injEq] at e9
          rw [e9.2.2]
          exact ⟨q1, q2⟩
        unfold maxLen at hdc
        obtain ⟨D, hD⟩ : ∃ D : Bool, D = decide ((70000 : Int) < (o.data.length : Int)) := ⟨_, rfl⟩
        have HDD : Hid (D = decide ((70000 : Int) < (o.data.length : Int))) := hD
        have HDC : Hid (o.data.length ≤ o.dc ∧ o.dc ≤ 9223372036854775807) := ⟨hdc.1, by have := hdc.2; omega⟩
        clear hdc
        go_upto_if 60 with fail
        rw [← hD]
        clear hD
        go_cut [] from 61 to 64 (fun wx => LB wx p 33 (opc o2) ∧ Fr Wk wx (· = p) ∧ wx.heap.size = Wk.heap.size)
        case first =>
          cases D with
          | true =>
            have HBG : Hid (70000 < o.data.length) := by
              have h9 := of_decide_eq_true HDD.out.symm
              show 70000 < o.data.length
              omega
            have t4 : (70000 : Int) ≤ (o.dc : Int) := by have := HBG.out; have := HDC.out.1; omega
            go_wp2_with fail
            all_goals go_meet
            all_goals refine ⟨?_, Cb.fr_set _ _ _ _, by simp⟩
            all_goals (
              have h9 := (HLP.out Wk (HK.out.block p HP.out.2.2.1).symm).set 5 (.slice o.da 70000 o.dc)
              have e9 : (opc o).set 5 (.slice o.da 70000 o.dc) = opc o2 := by
                rw [HO2.out]
                unfold opc
                show _ = [_, _, _, _, _, Value.slice o.da (o.data.take 70000).length o.dc, _, _]
                rw [List.length_take, Nat.min_eq_left (by have := HBG.out; omega)]
                rfl
              rw [e9] at h9
              exact h9)
          | false =>
            have HBG : Hid (o.data.length ≤ 70000) := by
              have h9 := of_decide_eq_false HDD.out.symm
              show o.data.length ≤ 70000
              omega
            go_wp2_with fail
            all_goals go_meet
            all_goals refine ⟨?_, Fr.refl _ _, rfl⟩
            all_goals (
              have h9 := HLP.out Wk (HK.out.block p HP.out.2.2.1).symm
              have e9 : opc o = opc o2 := by
                rw [HO2.out]
                unfold opc
                show _ = [_, _, _, _, _, Value.slice o.da (o.data.take 70000).length o.dc, _, _]
                rw [List.take_of_length_le HBG.out]
              rw [e9] at h9
              exact h9)
        case rest =>
          obtain ⟨hlb, hfr, hsz⟩ := hcut
          have HOK2 : Hid (OpOk w0 o2) := by
            rw [HO2.out]
            refine ⟨HOK.out.1, ?_, HOK.out.2.2⟩
            have h9 := bs_take HOK.out.2.1 (min 70000 o.data.length) (Nat.min_le_right _ _)
            show Bs w0 (.slice o.da (o.data.take 70000).length o.dc) (o.data.take 70000)
            rw [List.length_take]
            have e9 : o.data.take (min 70000 o.data.length) = o.data.take 70000 := by
              rw [← List.take_take, List.take_length]
            rw [e9] at h9
            exact h9
          have HOA : Hid (o2.a = o.a) := by rw [HO2.out]; rfl
          have HQ : Hid (LB wc p 33 (opc o2) ∧ DM w0.heap.size wc g S M ∧ Below w0.heap.size w0 wc ∧ Below wr.heap.size wr wc ∧ p < wc.heap.size) := by
            have hbk : Below wr.heap.size wr wc := (andThen HP.out.2.2.2.2.1 HK.out).trans (hfr.below (Nat.le_trans HP.out.2.2.2.2.1.size HK.out.size) fun q e => by rw [e, HP.out.2.2.2.2.2]; exact Nat.le_refl _)
            exact ⟨hlb, HD.out.1.kept hbk, andThen HD.out.2 hbk, hbk, by rw [hsz]; exact Nat.lt_of_lt_of_le HP.out.2.2.1 HK.out.size⟩
          clear hlb hfr hsz r5 z5
          have lb := HQ.out.1
          have r0 := lb.cell 0 _ rfl
          have r1 := lb.cell 1 _ rfl
          have r2 := lb.cell 2 _ rfl
          have r3 := lb.cell 3 _ rfl
          have r4 := lb.cell 4 _ rfl
          have r5 := lb.cell 5 _ rfl
          have r6 := lb.cell 6 _ rfl
          have r7 := lb.cell 7 _ rfl
          clear lb
          have HDO : Hid (Calls Try.prog 12 #[.pointer (some ⟨g, 0, none⟩), .agg #[.int .i64 o2.k, .bool o2.two, .string o2.a, .string o2.b, .int .i64 o2.n, .slice o2.da o2.data.length o2.dc, .slice o2.ca o2.cs.length o2.cc, .slice o2.fa o2.fn o2.fc]] wc fun e w' => ∃ f E, wc.heap.size ≤ f ∧ e = .returned (.int .i64 E) ∧ DPost w0.heap.size g S M wc (Dk.doS S o2 f) w') := (dldo_any _ g S M (k + 2) o2 wc HQ.out.2.1 HQ.out.2.2.1.size HW.out.1 (by omega) HOK2.out.1.1 HOK2.out.1.2 (HOK2.out.2.1.kept HQ.out.2.2.1) (fun hne q x e => Bs.old HOK2.out.2.1 hne q x e)).mono fun e w' ⟨f, h1, h2, h3⟩ => ⟨f, _, h1, h2, h3⟩
          go_wp2_with fail
          refine HDO.out.mono ?_
          rintro e Wl ⟨f9, E, hf9, rfl, hp9⟩
          have hpl : LB Wl p 33 (opc o2) := by
            obtain ⟨M', -, h2, -⟩ := hp9
            unfold LB at *
            rw [h2.block p HQ.out.2.2.2.2 (fun e => by have := HP.out.2.2.2.1 p e; omega)]
            exact HQ.out.1
          have hfr9 : f9 ∉ S.ids := fun e => by
            have h8 := (HQ.out.2.1.ft (q := f9) (.inr (.inr (.inr (.inr ⟨f9, e, .inl rfl⟩))))).2
            omega
          obtain ⟨S2, hS2⟩ : ∃ X, X = Dk.doS S o2 f9 := ⟨_, rfl⟩
          have HW2 : Hid (Dk.WF S2 (k + 1 + 2) ∧ k + 1 + 2 ≤ 42) := by
            rw [hS2]
            exact ⟨HW.out.1.do o2 f9 hfr9, by omega⟩
          obtain ⟨M2, dm2, fr2, ft2⟩ := hp9
          rw [← hS2] at dm2 ft2
          have HL : Hid (LB Wl p 33 (opc o2) ∧ DM w0.heap.size Wl g S2 M2 ∧ Below w0.heap.size w0 Wl ∧ _root_.Go.Proofs.Ytjepeeopjjnglaa.En (Ft g S2 M2) Wl w0.heap.size Wl.heap.size Sx Bx Nx O ∧ Rs w0.heap.size Wl [.slice a10 nS c10, .slice a11 nS c11, .slice a12 nB c12, .slice a13 nB c13, .slice a14 nN c14, .slice a15 nN c15] [(31, Sx.map SE.v), (31, Sx.map SE.w), (30, Bx.map BE.v), (30, Bx.map BE.w), (41, Nx.map NE.v), (41, Nx.map NE.w)]) := by
            have h1 := (((HEN.out.kept HQ.out.2.2.2.1).turn (F' := fun q => Ft g S M q ∨ Ft g S2 M2 q) (fun q e => e.elim .inl (fun e => ft2 q e))).kp (fun q hq hn _ => fr2.block q hq fun e => hn (.inl e) : Kp (fun q => Ft g S M q ∨ Ft g S2 M2 q) wc Wl)).turn (F' := Ft g S2 M2) (fun q e => .inl (.inr e))
            have h2 := HRS.out.kept HQ.out.2.2.2.1
            refine ⟨hpl, dm2, HQ.out.2.2.1.trans (fr2.below _ HQ.out.2.2.1.size fun q hq => (HQ.out.2.1.ft hq).1), h1.up (Nat.le_trans HQ.out.2.2.2.1.size fr2.size), h2.blk fun q hq hc => fr2.block q hq fun e => HQ.out.2.1.tys e hc⟩
          have HN4 : Hid (k + 1 + 2 ≤ 400000000) := (show k + 1 + 2 ≤ 400000000 by omega)
          have HSZ : Hid (o2.a.size ≤ maxLen) := HOK2.out.1.1
          clear r0 r1 r2 r3 r4 r5 r6 r7 HDO fr2 ft2 dm2 hpl hfr9 hf9 hS2 HQ HLP HDD HDC HO2
          -- Files, Files
          have HF1 : Hid (Calls Try.prog 13 #[.pointer (some ⟨g, 0, none⟩)] Wl fun e w' => ∃ a m c xs, e = .returned (.slice a m c) ∧ FOA Wl.heap.size w' (.slice a m c) xs ∧ (xs.map fun x => (x.1, x.2.2)) = Dk.files S2 ∧ Below Wl.heap.size Wl w') := (dkfilesA_wf _ g S2 M2 _ Wl HL.out.2.1 HW2.out.1 HN4.out).mono fun e w' ⟨v, xs, h1, h2, h3, h4⟩ => by
            obtain ⟨a, c, e9, -⟩ := Mg.row_shape h2.fo.row
            exact ⟨a, _, c, xs, by rw [h1, e9], by rw [← e9]; exact h2, h3, h4⟩
          go_wp2_with fail
          refine HF1.out.mono ?_
          rintro e V1 ⟨a1, m1, c1, x1, rfl, f1, g1, b1⟩
          have HX1 : Hid (FOA Wl.heap.size V1 (.slice a1 m1 c1) x1 ∧ (x1.map fun x => (x.1, x.2.2)) = Dk.files S2 ∧ Below Wl.heap.size Wl V1 ∧ Below Wl.heap.size Wl V1) := ⟨f1, g1, b1, b1⟩
          clear f1 g1 b1 HF1
          have HF2 : Hid (Calls Try.prog 13 #[.pointer (some ⟨g, 0, none⟩)] V1 fun e w' => ∃ a m c xs, e = .returned (.slice a m c) ∧ FOA V1.heap.size w' (.slice a m c) xs ∧ (xs.map fun x => (x.1, x.2.2)) = Dk.files S2 ∧ Below V1.heap.size V1 w') := (dkfilesA_wf _ g S2 M2 _ V1 (HL.out.2.1.kept HX1.out.2.2.2) HW2.out.1 HN4.out).mono fun e w' ⟨v, xs, h1, h2, h3, h4⟩ => by
            obtain ⟨a, c, e9, -⟩ := Mg.row_shape h2.fo.row
            exact ⟨a, _, c, xs, by rw [h1, e9], by rw [← e9]; exact h2, h3, h4⟩
          go_wp2_with fail
          refine HF2.out.mono ?_
          rintro e V2 ⟨a2, m2, c2, x2, rfl, f2, g2, b2⟩
          have HX2 : Hid (FOA V1.heap.size V2 (.slice a2 m2 c2) x2 ∧ (x2.map fun x => (x.1, x.2.2)) = Dk.files S2 ∧ Below V1.heap.size V1 V2 ∧ Below Wl.heap.size Wl V2) := ⟨f2, g2, b2, andThen HX1.out.2.2.2 b2⟩
          clear f2 g2 b2 HF2
          -- Crash, Crash
          have HF3 : Hid (Calls Try.prog 14 #[.pointer (some ⟨g, 0, none⟩), .int .i64 keep, cv] V2 fun e w' => ∃ a m c xs, e = .returned (.slice a m c) ∧ FOA V2.heap.size w' (.slice a m c) xs ∧ (xs.map fun x => (x.1, x.2.2)) = Dk.crash S2 keep cs ∧ Below V2.heap.size V2 w') := (dkcrashA_wf _ g S2 M2 _ keep cv cs V2 (HL.out.2.1.kept HX2.out.2.2.2) (HCV.out.kept (andThen HL.out.2.2.1 HX2.out.2.2.2)) HW2.out.1 HN4.out).mono fun e w' ⟨v, xs, h1, h2, h3, h4⟩ => by
            obtain ⟨a, c, e9, -⟩ := Mg.row_shape h2.fo.row
            exact ⟨a, _, c, xs, by rw [h1, e9], by rw [← e9]; exact h2, h3, h4⟩
          go_wp2_with fail
          refine HF3.out.mono ?_
          rintro e V3 ⟨a3, m3, c3, x3, rfl, f3, g3, b3⟩
          have HX3 : Hid (FOA V2.heap.size V3 (.slice a3 m3 c3) x3 ∧ (x3.map fun x => (x.1, x.2.2)) = Dk.crash S2 keep cs ∧ Below V2.heap.size V2 V3 ∧ Below Wl.heap.size Wl V3) := ⟨f3, g3, b3, andThen HX2.out.2.2.2 b3⟩
          clear f3 g3 b3 HF3
          have HF4 : Hid (Calls Try.prog 14 #[.pointer (some ⟨g, 0, none⟩), .int .i64 keep, cv] V3 fun e w' => ∃ a m c xs, e = .returned (.slice a m c) ∧ FOA V3.heap.size w' (.slice a m c) xs ∧ (xs.map fun x => (x.1, x.2.2)) = Dk.crash S2 keep cs ∧ Below V3.heap.size V3 w') := (dkcrashA_wf _ g S2 M2 _ keep cv cs V3 (HL.out.2.1.kept HX3.out.2.2.2) (HCV.out.kept (andThen HL.out.2.2.1 HX3.out.2.2.2)) HW2.out.1 HN4.out).mono fun e w' ⟨v, xs, h1, h2, h3, h4⟩ => by
            obtain ⟨a, c, e9, -⟩ := Mg.row_shape h2.fo.row
            exact ⟨a, _, c, xs, by rw [h1, e9], by rw [← e9]; exact h2, h3, h4⟩
          go_wp2_with fail
          refine HF4.out.mono ?_
          rintro e V4 ⟨a4, m4, c4, x4, rfl, f4, g4, b4⟩
          have HX4 : Hid (FOA V3.heap.size V4 (.slice a4 m4 c4) x4 ∧ (x4.map fun x => (x.1, x.2.2)) = Dk.crash S2 keep cs ∧ Below V3.heap.size V3 V4 ∧ Below Wl.heap.size Wl V4) := ⟨f4, g4, b4, andThen HX3.out.2.2.2 b4⟩
          clear f4 g4 b4 HF4
          -- Read, Read
          obtain ⟨eR, heR⟩ : ∃ x, x = (Dk.findE S2 o2.a.data.toList).1 := ⟨_, rfl⟩
          obtain ⟨dR, hdR⟩ : ∃ x, x = Dk.rdD S2 o2.a.data.toList := ⟨_, rfl⟩
          obtain ⟨lR, hlR⟩ : ∃ x, x = Dk.lst S2 := ⟨_, rfl⟩
          obtain ⟨nm, hnm⟩ : ∃ x, x = lR.length := ⟨_, rfl⟩
          have HER : Hid (eR = (Dk.findE S2 o2.a.data.toList).1 ∧ dR = Dk.rdD S2 o2.a.data.toList ∧ lR = Dk.lst S2 ∧ nm = lR.length) := ⟨heR, hdR, hlR, hnm⟩
          clear heR hdR hlR hnm
          have r2 := (HL.out.1.kept HX4.out.2.2.2).cell 2 _ rfl
          have HF5 : Hid (Calls Try.prog 15 #[.pointer (some ⟨g, 0, none⟩), .string o2.a] V4 fun e w' => ∃ a m c, e = .returned (.tuple #[.slice a m c, .int .i64 eR]) ∧ Own V4.heap.size w' (.slice a m c) dR ∧ Below V4.heap.size V4 w') := by
            rw [HER.out.1, HER.out.2.1]
            exact (dkread_any _ g S2 M2 o2.a V4 (HL.out.2.1.kept HX4.out.2.2.2) HSZ.out HW2.out.1.ids (fun f hf => by have := (HW2.out.1.fl f hf).2; omega)).mono fun e w' ⟨v, h1, h2, h3⟩ => by
              obtain ⟨a, c, e9, -⟩ := Mg.row_shape h2.row
              exact ⟨a, _, c, by rw [h1, e9], by rw [← e9]; exact h2, h3⟩
          go_wp2_with fail
          refine HF5.out.mono ?_
          rintro e V5 ⟨a5, m5, c5, rfl, f5, b5⟩
          have HX5 : Hid (Own V4.heap.size V5 (.slice a5 m5 c5) dR ∧ Below V4.heap.size V4 V5 ∧ Below Wl.heap.size Wl V5) := ⟨f5, b5, andThen HX4.out.2.2.2 b5⟩
          clear f5 b5 HF5 r2
          have r2 := (HL.out.1.kept HX5.out.2.2).cell 2 _ rfl
          have HF6 : Hid (Calls Try.prog 15 #[.pointer (some ⟨g, 0, none⟩), .string o2.a] V5 fun e w' => ∃ a m c, e = .returned (.tuple #[.slice a m c, .int .i64 eR]) ∧ Own V5.heap.size w' (.slice a m c) dR ∧ Below V5.heap.size V5 w') := by
            rw [HER.out.1, HER.out.2.1]
            exact (dkread_any _ g S2 M2 o2.a V5 (HL.out.2.1.kept HX5.out.2.2) HSZ.out HW2.out.1.ids (fun f hf => by have := (HW2.out.1.fl f hf).2; omega)).mono fun e w' ⟨v, h1, h2, h3⟩ => by
              obtain ⟨a, c, e9, -⟩ := Mg.row_shape h2.row
              exact ⟨a, _, c, by rw [h1, e9], by rw [← e9]; exact h2, h3⟩
          go_wp2_with fail
          refine HF6.out.mono ?_
          rintro e V6 ⟨a6, m6, c6, rfl, f6, b6⟩
          have HX6 : Hid (Own V5.heap.size V6 (.slice a6 m6 c6) dR ∧ Below V5.heap.size V5 V6 ∧ Below Wl.heap.size Wl V6) := ⟨f6, b6, andThen HX5.out.2.2 b6⟩
          clear f6 b6 HF6 r2
          -- List, List
          have HF7 : Hid (Calls Try.prog 16 #[.pointer (some ⟨g, 0, none⟩)] V6 fun e w' => ∃ a c, e = .returned (.slice a nm c) ∧ w'.ownsRow V6.heap.size 9 1 (.slice a nm c) lR.length (lR.flatMap enN) ∧ Below V6.heap.size V6 w') := by
            rw [HER.out.2.2.2]
            rw [HER.out.2.2.1]
            exact (dklist_any _ g S2 M2 V6 (HL.out.2.1.kept HX6.out.2.2) (by have := HW2.out.1.n1; have := HN4.out; omega)).mono fun e w' ⟨v, h1, h2, h3⟩ => by
              obtain ⟨a, c, e9, -⟩ := Mg.row_shape h2
              rw [map_enS] at h2
              exact ⟨a, c, by rw [h1, e9], by rw [← e9]; exact h2, h3⟩
          go_wp2_with fail
          refine HF7.out.mono ?_
          rintro e V7 ⟨a7, c7, rfl, f7, b7⟩
          have HX7 : Hid (V7.ownsRow V6.heap.size 9 1 (.slice a7 nm c7) lR.length (lR.flatMap enN) ∧ Below V6.heap.size V6 V7 ∧ Below Wl.heap.size Wl V7) := ⟨f7, b7, andThen HX6.out.2.2 b7⟩
          clear f7 b7 HF7
          have HF8 : Hid (Calls Try.prog 16 #[.pointer (some ⟨g, 0, none⟩)] V7 fun e w' => ∃ a c, e = .returned (.slice a nm c) ∧ w'.ownsRow V7.heap.size 9 1 (.slice a nm c) lR.length (lR.flatMap enN) ∧ Below V7.heap.size V7 w') := by
            rw [HER.out.2.2.2]
            rw [HER.out.2.2.1]
            exact (dklist_any _ g S2 M2 V7 (HL.out.2.1.kept HX7.out.2.2) (by have := HW2.out.1.n1; have := HN4.out; omega)).mono fun e w' ⟨v, h1, h2, h3⟩ => by
              obtain ⟨a, c, e9, -⟩ := Mg.row_shape h2
              rw [map_enS] at h2
              exact ⟨a, c, by rw [h1, e9], by rw [← e9]; exact h2, h3⟩
          go_wp2_with fail
          refine HF8.out.mono ?_
          rintro e V8 ⟨a8, c8, rfl, f8, b8⟩
          have HX8 : Hid (V8.ownsRow V7.heap.size 9 1 (.slice a8 nm c8) lR.length (lR.flatMap enN) ∧ Below V7.heap.size V7 V8 ∧ Below Wl.heap.size Wl V8) := ⟨f8, b8, andThen HX7.out.2.2 b8⟩
          clear f8 b8 HF8
          have BV7 : Below V7.heap.size V7 V8 := HX8.out.2.1
          have BV6 : Below V6.heap.size V6 V8 := andThen HX7.out.2.1 BV7
          have BV5 : Below V5.heap.size V5 V8 := andThen HX6.out.2.1 BV6
          have BV4 : Below V4.heap.size V4 V8 := andThen HX5.out.2.1 BV5
          have BV3 : Below V3.heap.size V3 V8 := andThen HX4.out.2.2.1 BV4
          have BV2 : Below V2.heap.size V2 V8 := andThen HX3.out.2.2.1 BV3
          have BV1 : Below V1.heap.size V1 V8 := andThen HX2.out.2.2.1 BV2
          have H8 : Hid ((FOA Wl.heap.size V8 (.slice a1 m1 c1) x1 ∧ FOA V1.heap.size V8 (.slice a2 m2 c2) x2 ∧ FOA V2.heap.size V8 (.slice a3 m3 c3) x3 ∧ FOA V3.heap.size V8 (.slice a4 m4 c4) x4) ∧ (Own V4.heap.size V8 (.slice a5 m5 c5) dR ∧ Own V5.heap.size V8 (.slice a6 m6 c6) dR) ∧ V8.ownsRow V6.heap.size 9 1 (.slice a7 nm c7) lR.length (lR.flatMap enN) ∧ V8.ownsRow V7.heap.size 9 1 (.slice a8 nm c8) lR.length (lR.flatMap enN)) := ⟨⟨HX1.out.1.kept BV1, HX2.out.1.kept BV2, HX3.out.1.kept BV3, HX4.out.1.kept BV4⟩, ⟨HX5.out.1.kept BV5, HX6.out.1.kept BV6⟩, Mg.row_kept HX7.out.1 BV7, HX8.out.1⟩
          clear BV1 BV2 BV3 BV4 BV5 BV6 BV7
          have hFL : ∀ (W : World) (a : Value) (xs : List FX) (fs : List (List UInt8 × List Nat)), FA W a xs → (xs.map fun x => (x.1, x.2.2)) = fs → Fls (Fq a xs) W a fs := fun W a xs fs h e => by rw [← e]; exact h.fls
          have HL1 : Hid (Calls Try.prog 17 #[.slice a1 m1 c1, .slice a2 m2 c2] V8 fun e w' => e = .returned (.bool true) ∧ Below V8.heap.size V8 w') := dlfalike_yes _ _ _ _ (Dk.files S2) _ (hFL _ _ _ _ H8.out.1.1.fa HX1.out.2.1) (hFL _ _ _ _ H8.out.1.2.1.fa HX2.out.2.1)
          have HL2 : Hid (∀ W, Below V8.heap.size V8 W → Calls Try.prog 17 #[.slice a3 m3 c3, .slice a4 m4 c4] W fun e w' => e = .returned (.bool true) ∧ Below W.heap.size W w') := fun W hW => dlfalike_yes _ _ _ _ (Dk.crash S2 keep cs) _ (hFL _ _ _ _ (H8.out.1.2.2.1.fa.kept hW) HX3.out.2.1) (hFL _ _ _ _ (H8.out.1.2.2.2.fa.kept hW) HX4.out.2.1)
          have HL3 : Hid (∀ W, Below V8.heap.size V8 W → Calls Try.prog 19 #[.slice a5 m5 c5, .slice a6 m6 c6] W fun e w' => e = .returned (.bool true) ∧ Below W.heap.size W w') := fun W hW => dlalike_yes _ _ dR _ (H8.out.2.1.1.bs.kept hW) (H8.out.2.1.2.bs.kept hW)
          have q0 : ((nm : Int) != (nm : Int)) = false := by simp
          have q1 : (eR != eR) = false := by simp
          have HFS : Hid (((Dk.files S2).length ≤ 5000 ∧ ∀ y ∈ Dk.files S2, y.2.length ≤ 4194304) ∧ (Dk.crash S2 keep cs).length ≤ 5000 ∧ ∀ y ∈ Dk.crash S2 keep cs, y.2.length ≤ 4194304) := by
            refine ⟨⟨?_, fun y hy => ?_⟩, ?_, fun y hy => ?_⟩
            · unfold Dk.files
              rw [List.length_map]
              have := HW2.out.1.n1
              have := HW2.out.2
              omega
            · unfold Dk.files at hy
              obtain ⟨p, hp, rfl⟩ := List.mem_map.1 hy
              exact (HW2.out.1.fl _ (HW2.out.1.ids p hp)).2
            · rw [Dk.crash_rows]
              have := Dk.lvN_len HW2.out.1 keep
              have := HW2.out.2
              omega
            · obtain ⟨j, hj, rfl⟩ := List.getElem_of_mem hy
              unfold Dk.crash Dk.crL at hj ⊢
              rw [List.getElem_mapIdx]
              rw [List.length_mapIdx] at hj
              have h9 := HW2.out.1.fl _ (HW2.out.1.left keep _ (List.getElem_mem hj)).1
              have h8 := Dk.lv_len (S2.fo ((Dk.lvN S2 keep)[j]).2) (cs.getD j (0, 0)) h9.1
              exact Nat.le_trans h8 h9.2
          clear hFL
          go_wp2_with fail
          refine HL1.out.mono ?_
          rintro e X1 ⟨rfl, bx1⟩
          have HLb : Hid (Calls Try.prog 17 #[.slice a3 m3 c3, .slice a4 m4 c4] X1 fun e w' => e = .returned (.bool true) ∧ Below X1.heap.size X1 w') := HL2.out X1 bx1
          have HB1 : Hid (Below V8.heap.size V8 X1) := bx1
          clear bx1 HL1 HL2
          go_wp2_with fail
          refine HLb.out.mono ?_
          rintro e X2 ⟨rfl, bx2⟩
          have HLc : Hid (Calls Try.prog 19 #[.slice a5 m5 c5, .slice a6 m6 c6] X2 fun e w' => e = .returned (.bool true) ∧ Below X2.heap.size X2 w') := HL3.out X2 (andThen HB1.out bx2)
          have HB2 : Hid (Below V8.heap.size V8 X2) := andThen HB1.out bx2
          clear bx2 HL3 HLb
          go_wp2_with fail
          refine (dlnum_any _ _).mono ?_
          rintro e W ⟨rfl, rfl⟩
          go_wp2_with fail
          refine (dlnum_any _ _).mono ?_
          rintro e W2 ⟨rfl, rfl⟩
          go_wp2_with fail
          refine HLc.out.mono ?_
          rintro e X3 ⟨rfl, bx3⟩
          have HT0 : Hid (Ts [V8, Wl] X3 w0 g S2 M2 [.slice a10 nS c10, .slice a11 nS c11, .slice a12 nB c12, .slice a13 nB c13, .slice a14 nN c14, .slice a15 nN c15] [(31, Sx.map SE.v), (31, Sx.map SE.w), (30, Bx.map BE.v), (30, Bx.map BE.w), (41, Nx.map NE.v), (41, Nx.map NE.w)]) := by
            have h1 : Ts [Wl] Wl w0 g S2 M2 [.slice a10 nS c10, .slice a11 nS c11, .slice a12 nB c12, .slice a13 nB c13, .slice a14 nN c14, .slice a15 nN c15] [(31, Sx.map SE.v), (31, Sx.map SE.w), (30, Bx.map BE.v), (30, Bx.map BE.w), (41, Nx.map NE.v), (41, Nx.map NE.w)] := ⟨fun v hv => by rw [List.mem_singleton.1 hv]; exact ⟨fun _ _ _ _ => rfl, Nat.le_refl _⟩, HL.out.2.2.2.2, HL.out.2.1, HL.out.2.2.1⟩
            have h2 := (h1.call HX8.out.2.2).mark.call (andThen HB2.out bx3)
            exact h2
          clear bx3 HLc HB1 HB2 q0 q1
          have HLN : Hid (nS = Sx.length ∧ nB = Bx.length ∧ nN = Nx.length) := HNN.out
          have HLQ : Hid (nS ≤ 1000 ∧ nB ≤ 1000 ∧ nN ≤ 1000) := ⟨by rw [HNN.out.1]; have := HW.out.2.1; omega, by rw [HNN.out.2.1]; have := HW.out.2.2.1; omega, by rw [HNN.out.2.2, HW.out.2.2.2]; have := HW.out.2.2.1; omega⟩
          go_upto_region 29 with fail
          obtain ⟨y0, Y0, hr0, ts0, p0, d0, e0⟩ := HT0.out.app 0 _ 31 (Sx.map SE.v) rfl rfl 27 infFS Try.underlying27 (.inl rfl) [.slice a1 m1 c1, .slice a2 m2 c2, .slice a3 m3 c3, .slice a4 m4 c4] (fun u hu => by
            simp only [List.mem_cons, List.not_mem_nil, or_false] at hu
            rcases hu with rfl | rfl | rfl | rfl <;> rfl) 4 rfl (by rw [List.length_map, ← HLN.out.1]; have := HLQ.out; omega)
          rw [List.length_map, ← HLN.out.1] at e0
          subst e0
          have HT1 : Hid (Ts [V8, Wl] Y0 w0 g S2 M2 [(.slice p0 (nS + 4) d0), (.slice a11 nS c11), (.slice a12 nB c12), (.slice a13 nB c13), (.slice a14 nN c14), (.slice a15 nN c15)] [(31, Sx.map SE.v ++ [.slice a1 m1 c1, .slice a2 m2 c2, .slice a3 m3 c3, .slice a4 m4 c4]), (31, Sx.map SE.w), (30, Bx.map BE.v), (30, Bx.map BE.w), (41, Nx.map NE.v), (41, Nx.map NE.w)]) := ts0
          clear ts0
          go_wp2_with (at_builtin; refine wpList_appRun rfl (.tmp 128) (.tmp 133) 27 rfl rfl rfl hr0 ?_)
          clear hr0
          have HC1 : Hid (Calls Try.prog 20 #[.slice a1 m1 c1] Y0 fun e w' => ∃ a m c ys, e = .returned (.slice a m c) ∧ FO Y0.heap.size w' (.slice a m c) ys ∧ (ys.map fun x => (x.1, x.2.2)) = Dk.files S2 ∧ Below Y0.heap.size Y0 w') := (dlcopies_any _ _ (Dk.files S2) Y0 (by
            have h9 := (H8.out.1.1.fa.kp (HT1.out.kp V8 (by simp)).1 (fun _ _ h => h)).fls
            rw [HX1.out.2.1] at h9
            exact h9) (Nat.le_trans HFS.out.1.1 (by omega)) (fun y hy => Nat.le_trans (HFS.out.1.2 y hy) (by omega))).mono fun e w' ⟨v, ys, h1, h2, h3, h4⟩ => by
            obtain ⟨a, c, e9, -⟩ := Mg.row_shape h2.row
            exact ⟨a, _, c, ys, by rw [h1, e9], by rw [← e9]; exact h2, h3, h4⟩
          go_wp2_with fail
          refine HC1.out.mono ?_
          rintro e Z1 ⟨i1, j1, k1, z1, rfl, f1, g1, b1⟩
          have HZ1 : Hid (FO Y0.heap.size Z1 (.slice i1 j1 k1) z1 ∧ (z1.map fun x => (x.1, x.2.2)) = Dk.files S2) := ⟨f1, g1⟩
          have HT2 : Hid (Ts [Z1, V8, Wl] Z1 w0 g S2 M2 [(.slice p0 (nS + 4) d0), (.slice a11 nS c11), (.slice a12 nB c12), (.slice a13 nB c13), (.slice a14 nN c14), (.slice a15 nN c15)] [(31, Sx.map SE.v ++ [.slice a1 m1 c1, .slice a2 m2 c2, .slice a3 m3 c3, .slice a4 m4 c4]), (31, Sx.map SE.w), (30, Bx.map BE.v), (30, Bx.map BE.w), (41, Nx.map NE.v), (41, Nx.map NE.w)]) := (HT1.out.call b1).mark
          clear f1 g1 b1 HC1
          have HC2 : Hid (Calls Try.prog 20 #[.slice a2 m2 c2] Z1 fun e w' => ∃ a m c ys, e = .returned (.slice a m c) ∧ FO Z1.heap.size w' (.slice a m c) ys ∧ (ys.map fun x => (x.1, x.2.2)) = Dk.files S2 ∧ Below Z1.heap.size Z1 w') := (dlcopies_any _ _ (Dk.files S2) Z1 (by
            have h9 := (H8.out.1.2.1.fa.kp (HT2.out.kp V8 (by simp)).1 (fun _ _ h => h)).fls
            rw [HX2.out.2.1] at h9
            exact h9) (Nat.le_trans HFS.out.1.1 (by omega)) (fun y hy => Nat.le_trans (HFS.out.1.2 y hy) (by omega))).mono fun e w' ⟨v, ys, h1, h2, h3, h4⟩ => by
            obtain ⟨a, c, e9, -⟩ := Mg.row_shape h2.row
            exact ⟨a, _, c, ys, by rw [h1, e9], by rw [← e9]; exact h2, h3, h4⟩
          go_wp2_with fail
          refine HC2.out.mono ?_
          rintro e Z2 ⟨i2, j2, k2, z2, rfl, f2, g2, b2⟩
          have HZ2 : Hid (FO Z1.heap.size Z2 (.slice i2 j2 k2) z2 ∧ (z2.map fun x => (x.1, x.2.2)) = Dk.files S2) := ⟨f2, g2⟩
          have HT3 : Hid (Ts [Z2, Z1, V8, Wl] Z2 w0 g S2 M2 [(.slice p0 (nS + 4) d0), (.slice a11 nS c11), (.slice a12 nB c12), (.slice a13 nB c13), (.slice a14 nN c14), (.slice a15 nN c15)] [(31, Sx.map SE.v ++ [.slice a1 m1 c1, .slice a2 m2 c2, .slice a3 m3 c3, .slice a4 m4 c4]), (31, Sx.map SE.w), (30, Bx.map BE.v), (30, Bx.map BE.w), (41, Nx.map NE.v), (41, Nx.map NE.w)]) := (HT2.out.call b2).mark
          clear f2 g2 b2 HC2
          have HC3 : Hid (Calls Try.prog 20 #[.slice a3 m3 c3] Z2 fun e w' => ∃ a m c ys, e = .returned (.slice a m c) ∧ FO Z2.heap.size w' (.slice a m c) ys ∧ (ys.map fun x => (x.1, x.2.2)) = Dk.crash S2 keep cs ∧ Below Z2.heap.size Z2 w') := (dlcopies_any _ _ (Dk.crash S2 keep cs) Z2 (by
            have h9 := (H8.out.1.2.2.1.fa.kp (HT3.out.kp V8 (by simp)).1 (fun _ _ h => h)).fls
            rw [HX3.out.2.1] at h9
            exact h9) (Nat.le_trans HFS.out.2.1 (by omega)) (fun y hy => Nat.le_trans (HFS.out.2.2 y hy) (by omega))).mono fun e w' ⟨v, ys, h1, h2, h3, h4⟩ => by
            obtain ⟨a, c, e9, -⟩ := Mg.row_shape h2.row
            exact ⟨a, _, c, ys, by rw [h1, e9], by rw [← e9]; exact h2, h3, h4⟩
          go_wp2_with fail
          refine HC3.out.mono ?_
          rintro e Z3 ⟨i3, j3, k3, z3, rfl, f3, g3, b3⟩
          have HZ3 : Hid (FO Z2.heap.size Z3 (.slice i3 j3 k3) z3 ∧ (z3.map fun x => (x.1, x.2.2)) = Dk.crash S2 keep cs) := ⟨f3, g3⟩
          have HT4 : Hid (Ts [Z3, Z2, Z1, V8, Wl] Z3 w0 g S2 M2 [(.slice p0 (nS + 4) d0), (.slice a11 nS c11), (.slice a12 nB c12), (.slice a13 nB c13), (.slice a14 nN c14), (.slice a15 nN c15)] [(31, Sx.map SE.v ++ [.slice a1 m1 c1, .slice a2 m2 c2, .slice a3 m3 c3, .slice a4 m4 c4]), (31, Sx.map SE.w), (30, Bx.map BE.v), (30, Bx.map BE.w), (41, Nx.map NE.v), (41, Nx.map NE.w)]) := (HT3.out.call b3).mark
          clear f3 g3 b3 HC3
          have HC4 : Hid (Calls Try.prog 20 #[.slice a4 m4 c4] Z3 fun e w' => ∃ a m c ys, e = .returned (.slice a m c) ∧ FO Z3.heap.size w' (.slice a m c) ys ∧ (ys.map fun x => (x.1, x.2.2)) = Dk.crash S2 keep cs ∧ Below Z3.heap.size Z3 w') := (dlcopies_any _ _ (Dk.crash S2 keep cs) Z3 (by
            have h9 := (H8.out.1.2.2.2.fa.kp (HT4.out.kp V8 (by simp)).1 (fun _ _ h => h)).fls
            rw [HX4.out.2.1] at h9
            exact h9) (Nat.le_trans HFS.out.2.1 (by omega)) (fun y hy => Nat.le_trans (HFS.out.2.2 y hy) (by omega))).mono fun e w' ⟨v, ys, h1, h2, h3, h4⟩ => by
            obtain ⟨a, c, e9, -⟩ := Mg.row_shape h2.row
            exact ⟨a, _, c, ys, by rw [h1, e9], by rw [← e9]; exact h2, h3, h4⟩
          go_wp2_with fail
          refine HC4.out.mono ?_
          rintro e Z4 ⟨i4, j4, k4, z4, rfl, f4, g4, b4⟩
          have HZ4 : Hid (FO Z3.heap.size Z4 (.slice i4 j4 k4) z4 ∧ (z4.map fun x => (x.1, x.2.2)) = Dk.crash S2 keep cs) := ⟨f4, g4⟩
          have HT5 : Hid (Ts [Z4, Z3, Z2, Z1, V8, Wl] Z4 w0 g S2 M2 [(.slice p0 (nS + 4) d0), (.slice a11 nS c11), (.slice a12 nB c12), (.slice a13 nB c13), (.slice a14 nN c14), (.slice a15 nN c15)] [(31, Sx.map SE.v ++ [.slice a1 m1 c1, .slice a2 m2 c2, .slice a3 m3 c3, .slice a4 m4 c4]), (31, Sx.map SE.w), (30, Bx.map BE.v), (30, Bx.map BE.w), (41, Nx.map NE.v), (41, Nx.map NE.w)]) := (HT4.out.call b4).mark
          clear f4 g4 b4 HC4
          obtain ⟨y1, Y1, hr1, ts1, p1, d1, e1⟩ := HT5.out.app 1 _ 31 (Sx.map SE.w) rfl rfl 27 infFS Try.underlying27 (.inl rfl) [.slice i1 j1 k1, .slice i2 j2 k2, .slice i3 j3 k3, .slice i4 j4 k4] (fun u hu => by
            simp only [List.mem_cons, List.not_mem_nil, or_false] at hu
            rcases hu with rfl | rfl | rfl | rfl <;> rfl) 4 rfl (by rw [List.length_map, ← HLN.out.1]; have := HLQ.out; omega)
          rw [List.length_map, ← HLN.out.1] at e1
          subst e1
          have HT6 : Hid (Ts [Z4, Z3, Z2, Z1, V8, Wl] Y1 w0 g S2 M2 [(.slice p0 (nS + 4) d0), (.slice p1 (nS + 4) d1), (.slice a12 nB c12), (.slice a13 nB c13), (.slice a14 nN c14), (.slice a15 nN c15)] [(31, Sx.map SE.v ++ [.slice a1 m1 c1, .slice a2 m2 c2, .slice a3 m3 c3, .slice a4 m4 c4]), (31, Sx.map SE.w ++ [.slice i1 j1 k1, .slice i2 j2 k2, .slice i3 j3 k3, .slice i4 j4 k4]), (30, Bx.map BE.v), (30, Bx.map BE.w), (41, Nx.map NE.v), (41, Nx.map NE.w)]) := ts1
          clear ts1
          obtain ⟨y2, Y2, hr2, ts2, p2, d2, e2⟩ := HT6.out.app 2 _ 30 (Bx.map BE.v) rfl rfl 28 infBS Try.underlying28 (.inr (.inl rfl)) [.slice a5 m5 c5, .slice a6 m6 c6] (fun u hu => by
            simp only [List.mem_cons, List.not_mem_nil, or_false] at hu
            rcases hu with rfl | rfl <;> rfl) 2 rfl (by rw [List.length_map, ← HLN.out.2.1]; have := HLQ.out; omega)
          rw [List.length_map, ← HLN.out.2.1] at e2
          subst e2
          have HT7 : Hid (Ts [Z4, Z3, Z2, Z1, V8, Wl] Y2 w0 g S2 M2 [(.slice p0 (nS + 4) d0), (.slice p1 (nS + 4) d1), (.slice p2 (nB + 2) d2), (.slice a13 nB c13), (.slice a14 nN c14), (.slice a15 nN c15)] [(31, Sx.map SE.v ++ [.slice a1 m1 c1, .slice a2 m2 c2, .slice a3 m3 c3, .slice a4 m4 c4]), (31, Sx.map SE.w ++ [.slice i1 j1 k1, .slice i2 j2 k2, .slice i3 j3 k3, .slice i4 j4 k4]), (30, Bx.map BE.v ++ [.slice a5 m5 c5, .slice a6 m6 c6]), (30, Bx.map BE.w), (41, Nx.map NE.v), (41, Nx.map NE.w)]) := ts2
          clear ts2
          go_wp2_with (at_builtin; first | refine wpList_appRun rfl (.tmp 135) (.tmp 144) 27 rfl rfl rfl hr1 ?_ | refine wpList_appRun rfl (.tmp 146) (.tmp 149) 28 rfl rfl rfl hr2 ?_)
          clear hr1 hr2
          have HDR : Hid (dR.length ≤ 4194304) := by
            show dR.length ≤ _
            rw [HER.out.2.1]
            unfold Dk.rdD
            split
            · rename_i hf
              exact (HW2.out.1.fl _ (HW2.out.1.ids _ (Dk.get_mem (Dk.find_some hf).1))).2
            · simp
          have HC5 : Hid (Calls Try.prog 21 #[.slice a5 m5 c5] Y2 fun e w' => ∃ a m c, e = .returned (.slice a m c) ∧ Own Y2.heap.size w' (.slice a m c) dR ∧ Below Y2.heap.size Y2 w') := (dlcopied_any _ dR Y2 (Own.kp H8.out.2.1.1 (HT7.out.kp V8 (by simp)).1 (fun _ _ h => h)).bs (Nat.le_trans HDR.out (by omega))).mono fun e w' ⟨v, h1, h2, h3⟩ => by
            obtain ⟨a, c, e9, -⟩ := Mg.row_shape h2.row
            exact ⟨a, _, c, by rw [h1, e9], by rw [← e9]; exact h2, h3⟩
          go_wp2_with fail
          refine HC5.out.mono ?_
          rintro e Z5 ⟨i5, j5, k5, rfl, f5, b5⟩
          have HZ5 : Hid (Own Y2.heap.size Z5 (.slice i5 j5 k5) dR) := f5
          have HT8 : Hid (Ts [Z5, Z4, Z3, Z2, Z1, V8, Wl] Z5 w0 g S2 M2 [(.slice p0 (nS + 4) d0), (.slice p1 (nS + 4) d1), (.slice p2 (nB + 2) d2), (.slice a13 nB c13), (.slice a14 nN c14), (.slice a15 nN c15)] [(31, Sx.map SE.v ++ [.slice a1 m1 c1, .slice a2 m2 c2, .slice a3 m3 c3, .slice a4 m4 c4]), (31, Sx.map SE.w ++ [.slice i1 j1 k1, .slice i2 j2 k2, .slice i3 j3 k3, .slice i4 j4 k4]), (30, Bx.map BE.v ++ [.slice a5 m5 c5, .slice a6 m6 c6]), (30, Bx.map BE.w), (41, Nx.map NE.v), (41, Nx.map NE.w)]) := (HT7.out.call b5).mark
          clear f5 b5 HC5
          have HC6 : Hid (Calls Try.prog 21 #[.slice a6 m6 c6] Z5 fun e w' => ∃ a m c, e = .returned (.slice a m c) ∧ Own Z5.heap.size w' (.slice a m c) dR ∧ Below Z5.heap.size Z5 w') := (dlcopied_any _ dR Z5 (Own.kp H8.out.2.1.2 (HT8.out.kp V8 (by simp)).1 (fun _ _ h => h)).bs (Nat.le_trans HDR.out (by omega))).mono fun e w' ⟨v, h1, h2, h3⟩ => by
            obtain ⟨a, c, e9, -⟩ := Mg.row_shape h2.row
            exact ⟨a, _, c, by rw [h1, e9], by rw [← e9]; exact h2, h3⟩
          go_wp2_with fail
          refine HC6.out.mono ?_
          rintro e Z6 ⟨i6, j6, k6, rfl, f6, b6⟩
          have HZ6 : Hid (Own Z5.heap.size Z6 (.slice i6 j6 k6) dR) := f6
          have HT9 : Hid (Ts [Z6, Z5, Z4, Z3, Z2, Z1, V8, Wl] Z6 w0 g S2 M2 [(.slice p0 (nS + 4) d0), (.slice p1 (nS + 4) d1), (.slice p2 (nB + 2) d2), (.slice a13 nB c13), (.slice a14 nN c14), (.slice a15 nN c15)] [(31, Sx.map SE.v ++ [.slice a1 m1 c1, .slice a2 m2 c2, .slice a3 m3 c3, .slice a4 m4 c4]), (31, Sx.map SE.w ++ [.slice i1 j1 k1, .slice i2 j2 k2, .slice i3 j3 k3, .slice i4 j4 k4]), (30, Bx.map BE.v ++ [.slice a5 m5 c5, .slice a6 m6 c6]), (30, Bx.map BE.w), (41, Nx.map NE.v), (41, Nx.map NE.w)]) := (HT8.out.call b6).mark
          clear f6 b6 HC6
          obtain ⟨y3, Y3, hr3, ts3, p3, d3, e3⟩ := HT9.out.app 3 _ 30 (Bx.map BE.w) rfl rfl 28 infBS Try.underlying28 (.inr (.inl rfl)) [.slice i5 j5 k5, .slice i6 j6 k6] (fun u hu => by
            simp only [List.mem_cons, List.not_mem_nil, or_false] at hu
            rcases hu with rfl | rfl <;> rfl) 2 rfl (by rw [List.length_map, ← HLN.out.2.1]; have := HLQ.out; omega)
          rw [List.length_map, ← HLN.out.2.1] at e3
          subst e3
          have HT10 : Hid (Ts [Z6, Z5, Z4, Z3, Z2, Z1, V8, Wl] Y3 w0 g S2 M2 [(.slice p0 (nS + 4) d0), (.slice p1 (nS + 4) d1), (.slice p2 (nB + 2) d2), (.slice p3 (nB + 2) d3), (.slice a14 nN c14), (.slice a15 nN c15)] [(31, Sx.map SE.v ++ [.slice a1 m1 c1, .slice a2 m2 c2, .slice a3 m3 c3, .slice a4 m4 c4]), (31, Sx.map SE.w ++ [.slice i1 j1 k1, .slice i2 j2 k2, .slice i3 j3 k3, .slice i4 j4 k4]), (30, Bx.map BE.v ++ [.slice a5 m5 c5, .slice a6 m6 c6]), (30, Bx.map BE.w ++ [.slice i5 j5 k5, .slice i6 j6 k6]), (41, Nx.map NE.v), (41, Nx.map NE.w)]) := ts3
          clear ts3
          obtain ⟨y4, Y4, hr4, ts4, p4, d4, e4⟩ := HT10.out.app 4 _ 41 (Nx.map NE.v) rfl rfl 29 infSS Try.underlying29 (.inr (.inr rfl)) [.slice a7 nm c7, .slice a8 nm c8] (fun u hu => by
            simp only [List.mem_cons, List.not_mem_nil, or_false] at hu
            rcases hu with rfl | rfl <;> rfl) 2 rfl (by rw [List.length_map, ← HLN.out.2.2]; have := HLQ.out; omega)
          rw [List.length_map, ← HLN.out.2.2] at e4
          subst e4
          have HT11 : Hid (Ts [Z6, Z5, Z4, Z3, Z2, Z1, V8, Wl] Y4 w0 g S2 M2 [(.slice p0 (nS + 4) d0), (.slice p1 (nS + 4) d1), (.slice p2 (nB + 2) d2), (.slice p3 (nB + 2) d3), (.slice p4 (nN + 2) d4), (.slice a15 nN c15)] [(31, Sx.map SE.v ++ [.slice a1 m1 c1, .slice a2 m2 c2, .slice a3 m3 c3, .slice a4 m4 c4]), (31, Sx.map SE.w ++ [.slice i1 j1 k1, .slice i2 j2 k2, .slice i3 j3 k3, .slice i4 j4 k4]), (30, Bx.map BE.v ++ [.slice a5 m5 c5, .slice a6 m6 c6]), (30, Bx.map BE.w ++ [.slice i5 j5 k5, .slice i6 j6 k6]), (41, Nx.map NE.v ++ [.slice a7 nm c7, .slice a8 nm c8]), (41, Nx.map NE.w)]) := ts4
          clear ts4
          have HNM : Hid (nm ≤ 1000) := by
            show nm ≤ _
            rw [HER.out.2.2.2, HER.out.2.2.1]
            have h8 := HW2.out.1.n1
            have h9 := HW2.out.2
            unfold Dk.lst
            split
            · simp
            · rw [List.length_map]
              omega
          obtain ⟨i7, k7, Z7, hq7, f7, b7⟩ := namesCopy Y4 a7 nm c7 lR (kp_row (.inr (.inr rfl)) H8.out.2.2.1 (HT11.out.kp V8 (by simp)).1 (fun _ _ h => h)) HER.out.2.2.2.symm (by have := HNM.out; omega)
          have HZ7 : Hid (Z7.ownsRow Y4.heap.size 9 1 (.slice i7 nm k7) lR.length (lR.flatMap enN)) := f7
          have HT12 : Hid (Ts [Z7, Z6, Z5, Z4, Z3, Z2, Z1, V8, Wl] Z7 w0 g S2 M2 [(.slice p0 (nS + 4) d0), (.slice p1 (nS + 4) d1), (.slice p2 (nB + 2) d2), (.slice p3 (nB + 2) d3), (.slice p4 (nN + 2) d4), (.slice a15 nN c15)] [(31, Sx.map SE.v ++ [.slice a1 m1 c1, .slice a2 m2 c2, .slice a3 m3 c3, .slice a4 m4 c4]), (31, Sx.map SE.w ++ [.slice i1 j1 k1, .slice i2 j2 k2, .slice i3 j3 k3, .slice i4 j4 k4]), (30, Bx.map BE.v ++ [.slice a5 m5 c5, .slice a6 m6 c6]), (30, Bx.map BE.w ++ [.slice i5 j5 k5, .slice i6 j6 k6]), (41, Nx.map NE.v ++ [.slice a7 nm c7, .slice a8 nm c8]), (41, Nx.map NE.w)]) := (HT11.out.call b7).mark
          clear f7 b7
          obtain ⟨i8, k8, Z8, hq8, f8, b8⟩ := namesCopy Z7 a7 nm c7 lR (kp_row (.inr (.inr rfl)) H8.out.2.2.1 (HT12.out.kp V8 (by simp)).1 (fun _ _ h => h)) HER.out.2.2.2.symm (by have := HNM.out; omega)
          have HZ8 : Hid (Z8.ownsRow Z7.heap.size 9 1 (.slice i8 nm k8) lR.length (lR.flatMap enN)) := f8
          have HT13 : Hid (Ts [Z8, Z7, Z6, Z5, Z4, Z3, Z2, Z1, V8, Wl] Z8 w0 g S2 M2 [(.slice p0 (nS + 4) d0), (.slice p1 (nS + 4) d1), (.slice p2 (nB + 2) d2), (.slice p3 (nB + 2) d3), (.slice p4 (nN + 2) d4), (.slice a15 nN c15)] [(31, Sx.map SE.v ++ [.slice a1 m1 c1, .slice a2 m2 c2, .slice a3 m3 c3, .slice a4 m4 c4]), (31, Sx.map SE.w ++ [.slice i1 j1 k1, .slice i2 j2 k2, .slice i3 j3 k3, .slice i4 j4 k4]), (30, Bx.map BE.v ++ [.slice a5 m5 c5, .slice a6 m6 c6]), (30, Bx.map BE.w ++ [.slice i5 j5 k5, .slice i6 j6 k6]), (41, Nx.map NE.v ++ [.slice a7 nm c7, .slice a8 nm c8]), (41, Nx.map NE.w)]) := (HT12.out.call b8).mark
          clear f8 b8
          obtain ⟨y5, Y5, hr5, ts5, p5, d5, e5⟩ := HT13.out.app 5 _ 41 (Nx.map NE.w) rfl rfl 29 infSS Try.underlying29 (.inr (.inr rfl)) [.slice i7 nm k7, .slice i8 nm k8] (fun u hu => by
            simp only [List.mem_cons, List.not_mem_nil, or_false] at hu
            rcases hu with rfl | rfl <;> rfl) 2 rfl (by rw [List.length_map, ← HLN.out.2.2]; have := HLQ.out; omega)
          rw [List.length_map, ← HLN.out.2.2] at e5
          subst e5
          have HT14 : Hid (Ts [Z8, Z7, Z6, Z5, Z4, Z3, Z2, Z1, V8, Wl] Y5 w0 g S2 M2 [(.slice p0 (nS + 4) d0), (.slice p1 (nS + 4) d1), (.slice p2 (nB + 2) d2), (.slice p3 (nB + 2) d3), (.slice p4 (nN + 2) d4), (.slice p5 (nN + 2) d5)] [(31, Sx.map SE.v ++ [.slice a1 m1 c1, .slice a2 m2 c2, .slice a3 m3 c3, .slice a4 m4 c4]), (31, Sx.map SE.w ++ [.slice i1 j1 k1, .slice i2 j2 k2, .slice i3 j3 k3, .slice i4 j4 k4]), (30, Bx.map BE.v ++ [.slice a5 m5 c5, .slice a6 m6 c6]), (30, Bx.map BE.w ++ [.slice i5 j5 k5, .slice i6 j6 k6]), (41, Nx.map NE.v ++ [.slice a7 nm c7, .slice a8 nm c8]), (41, Nx.map NE.w ++ [.slice i7 nm k7, .slice i8 nm k8])]) := ts5
          clear ts5
          go_wp2_with (at_builtin; first | refine wpList_appRun rfl (.tmp 151) (.tmp 156) 28 rfl rfl rfl hr3 ?_ | refine wpList_appRun rfl (.tmp 158) (.tmp 161) 29 rfl rfl rfl hr4 ?_ | refine wpList_appRun rfl (.tmp 164) (.tmp 165) 41 rfl rfl rfl hq7 ?_ | refine wpList_appRun rfl (.tmp 167) (.tmp 168) 41 rfl rfl rfl hq8 ?_ | refine wpList_appRun rfl (.tmp 163) (.tmp 170) 29 rfl rfl rfl hr5 ?_)
          clear hr3 hr4 hq7 hq8 hr5
          have HEND : Hid (∃ O', _root_.Go.Proofs.Ytjepeeopjjnglaa.En (Ft g S2 M2) Y5 w0.heap.size Y5.heap.size (Sx ++ [⟨.slice a1 m1 c1, .slice i1 j1 k1, x1, z1⟩, ⟨.slice a2 m2 c2, .slice i2 j2 k2, x2, z2⟩, ⟨.slice a3 m3 c3, .slice i3 j3 k3, x3, z3⟩, ⟨.slice a4 m4 c4, .slice i4 j4 k4, x4, z4⟩]) (Bx ++ [⟨.slice a5 m5 c5, .slice i5 j5 k5, dR⟩, ⟨.slice a6 m6 c6, .slice i6 j6 k6, dR⟩]) (Nx ++ [⟨.slice a7 nm c7, .slice i7 nm k7, lR⟩, ⟨.slice a8 nm c8, .slice i8 nm k8, lR⟩]) O') := by
            have hk8 := (HT14.out.kp V8 (by simp)).1
            have hF : ∀ q, Ft g S2 M2 q → q < Wl.heap.size := fun q e => (HL.out.2.1.ft e).2
            have hBl := HL.out.2.2.1.size
            have e0 := HL.out.2.2.2.1.kp ((HT14.out.kp Wl (by simp)).1.of (Ft g S2 M2))
            obtain ⟨O1, e1⟩ := en_s e0 H8.out.1.1 (fun q hq => HX1.out.1.fa.lt hq) hk8 HZ1.out.1 (HT14.out.kp Z1 (by simp)).1 hF (Nat.le_refl _) (HT1.out.kp Wl (by simp)).2 (hBl) HX1.out.2.2.1.size HX1.out.2.1 HZ1.out.2 HFS.out.1
            obtain ⟨O2, e2⟩ := en_s e1 H8.out.1.2.1 (fun q hq => HX2.out.1.fa.lt hq) hk8 HZ2.out.1 (HT14.out.kp Z2 (by simp)).1 hF (HX1.out.2.2.2.size) (HT2.out.kp Wl (by simp)).2 (Nat.le_trans hBl HX1.out.2.2.2.size) HX2.out.2.2.1.size HX2.out.2.1 HZ2.out.2 HFS.out.1
            obtain ⟨O3, e3⟩ := en_s e2 H8.out.1.2.2.1 (fun q hq => HX3.out.1.fa.lt hq) hk8 HZ3.out.1 (HT14.out.kp Z3 (by simp)).1 hF (HX2.out.2.2.2.size) (HT3.out.kp Wl (by simp)).2 (Nat.le_trans hBl HX2.out.2.2.2.size) HX3.out.2.2.1.size HX3.out.2.1 HZ3.out.2 HFS.out.2
            obtain ⟨O4, e4⟩ := en_s e3 H8.out.1.2.2.2 (fun q hq => HX4.out.1.fa.lt hq) hk8 HZ4.out.1 (HT14.out.kp Z4 (by simp)).1 hF (HX3.out.2.2.2.size) (HT4.out.kp Wl (by simp)).2 (Nat.le_trans hBl HX3.out.2.2.2.size) HX4.out.2.2.1.size HX4.out.2.1 HZ4.out.2 HFS.out.2
            obtain ⟨O5, e5⟩ := en_b e4 H8.out.2.1.1 (fun q hq => (World.ownsRow.lt HX5.out.1.row q hq).2) hk8 HZ5.out (HT14.out.kp Z5 (by simp)).1 hF (HX4.out.2.2.2.size) (HT7.out.kp Wl (by simp)).2 (Nat.le_trans hBl HX4.out.2.2.2.size) HX5.out.2.1.size HDR.out
            obtain ⟨O6, e6⟩ := en_b e5 H8.out.2.1.2 (fun q hq => (World.ownsRow.lt HX6.out.1.row q hq).2) hk8 HZ6.out (HT14.out.kp Z6 (by simp)).1 hF (HX5.out.2.2.size) (HT8.out.kp Wl (by simp)).2 (Nat.le_trans hBl HX5.out.2.2.size) HX6.out.2.1.size HDR.out
            obtain ⟨O7, e7⟩ := en_n e6 H8.out.2.2.1 (fun q hq => (World.ownsRow.lt HX7.out.1 q hq).2) hk8 HZ7.out (HT14.out.kp Z7 (by simp)).1 hF (HX6.out.2.2.size) (HT11.out.kp Wl (by simp)).2 (Nat.le_trans hBl HX6.out.2.2.size) HX7.out.2.1.size (by rw [← HER.out.2.2.2]; exact HNM.out)
            obtain ⟨O8, e8⟩ := en_n e7 H8.out.2.2.2 (fun q hq => (World.ownsRow.lt HX8.out.1 q hq).2) hk8 HZ8.out (HT14.out.kp Z8 (by simp)).1 hF (HX7.out.2.2.size) (HT12.out.kp Wl (by simp)).2 (Nat.le_trans hBl HX7.out.2.2.size) HX8.out.2.1.size (by rw [← HER.out.2.2.2]; exact HNM.out)
            have e9 := e8.up (HT14.out.kp V8 (by simp)).2
            simp only [List.append_assoc, List.cons_append, List.nil_append] at e9
            exact ⟨_, e9⟩
          go_roundw
          case rel =>
            obtain ⟨O', hE⟩ := HEND.out
            refine ⟨k + 1, M2, S2, _, _, _, O', ⟨by omega, by omega⟩, by go_num, HT14.out.dm, HW2.out.1, hE, ?_, ⟨?_, ?_, ?_⟩, HT14.out.be⟩
            · simp only [List.map_append, List.map_cons, List.map_nil]
              exact HT14.out.rs
            · have := HW.out.2.1
              simp only [List.length_append, List.length_cons, List.length_nil]
              omega
            · have := HW.out.2.2.1
              simp only [List.length_append, List.length_cons, List.length_nil]
              omega
            · have := HW.out.2.2.2
              simp only [List.length_append, List.length_cons, List.length_nil]
              omega
          case measure => simp [intOf]; omega
      | false =>
        rw [hch] at HCH
        clear hch
        go_wp2_with fail
        refine HCH.out.mono ?_
        rintro e Wi ⟨rfl, bi⟩
        have HI : Hid (Below wr.heap.size wr Wi ∧ DM w0.heap.size Wi g S M) := ⟨andThen HP.out.2.2.2.2.1 bi, HP.out.1.kept bi⟩
        clear bi HCH r0 r1 r2 r3 r4 r5 r6 r7
        go_wp2_with fail
        go_roundw
        case rel => exact ⟨k + 1, M, S, Sx, Bx, Nx, O, ⟨by omega, by omega⟩, by go_num, HI.out.2, HW.out.1.mono (by omega), (HEN.out.kept HI.out.1).up HI.out.1.size, HRS.out.kept HI.out.1, ⟨by have := HW.out.2.1; omega, by have := HW.out.2.2.1; omega, HW.out.2.2.2⟩, andThen HD.out.2 HI.out.1⟩
        case measure => simp [intOf]; omega
    · have hd : Hid (¬ (k < n ∧ k < 40)) := hlt
      by_cases h1 : k < n
      · have t1 : ((k : Int) < (n : Int)) = True := eq_true (by omega)
        have t2 : ((k : Int) < 40) = False := eq_false (by omega)
        clear hlt h1
        have HNQ : Hid (nS ≤ 160 ∧ nB ≤ 80 ∧ nN = nB) := ⟨by rw [HNN.out.1]; have := HW.out.2.1; omega, by rw [HNN.out.2.1]; have := HW.out.2.2.1; omega, by rw [HNN.out.2.2, HNN.out.2.1]; exact HW.out.2.2.2⟩
        have hns9 : nS ≤ 160 := HNQ.out.1
        have hnb9 : nB ≤ 80 := HNQ.out.2.1
        obtain ⟨wr0, hwr0⟩ : ∃ x, x = wr := ⟨_, rfl⟩
        subst hwr0
        obtain ⟨E0, hE0⟩ : ∃ W, W = wr0.alloc (.cells #[.slice none 0 0, .slice none 0 0, .slice none 0 0, .slice none 0 0, .slice none 0 0, .slice none 0 0, .slice none 0 0, .slice none 0 0, .slice none 0 0] 50) := ⟨_, rfl⟩
        obtain ⟨gb, hgb⟩ : ∃ x, x = wr0.heap.size := ⟨_, rfl⟩
        have HE0 : Hid (Bk w0.heap.size E0 (fun _ => none) gb [.slice none 0 0, .slice none 0 0, .slice none 0 0, .slice none 0 0, .slice none 0 0, .slice none 0 0, .slice none 0 0, .slice none 0 0, .slice none 0 0] [] [] [] [] [] [] ∧ _root_.Go.Proofs.Ytjepeeopjjnglaa.En (Ft g S M) E0 w0.heap.size wr0.heap.size Sx Bx Nx O ∧ Rs w0.heap.size E0 [.slice a10 nS c10, .slice a11 nS c11, .slice a12 nB c12, .slice a13 nB c13, .slice a14 nN c14, .slice a15 nN c15] [(31, Sx.map SE.v), (31, Sx.map SE.w), (30, Bx.map BE.v), (30, Bx.map BE.w), (41, Nx.map NE.v), (41, Nx.map NE.w)] ∧ Below w0.heap.size w0 E0 ∧ gb < E0.heap.size ∧ gb = wr0.heap.size ∧ Below wr0.heap.size wr0 E0) := by
          have b9 := up0 wr0 (.cells #[.slice none 0 0, .slice none 0 0, .slice none 0 0, .slice none 0 0, .slice none 0 0, .slice none 0 0, .slice none 0 0, .slice none 0 0, .slice none 0 0] 50)
          rw [hE0, hgb]
          exact ⟨bk_new wr0 _ HD.out.2.size, HEN.out.kept b9, HRS.out.kept b9, andThen HD.out.2 b9, by simp, rfl, b9⟩
        -- said and want
        have HS2 : Hid (∀ W, Below E0.heap.size E0 W → ∀ (j : Nat) (x : SE), Sx[j]? = some x → (∃ b1 b2, a10 = some ⟨b1, 0, none⟩ ∧ a11 = some ⟨b2, 0, none⟩ ∧ W.cell? ⟨b1, j, none⟩ = some x.v ∧ W.cell? ⟨b2, j, none⟩ = some x.w) ∧ ∀ d, Calls Try.prog 17 #[x.v, x.w] (W.drewN d) fun e w' => e = .returned (.bool true) ∧ ∃ m, w' = (W.drewN d).drewN m) := fun W hW j x hx => by
          have hr := HE0.out.2.2.1.kept hW
          obtain ⟨q1, q2, e1, -, -, h1⟩ := hr.at_ 0 _ 31 (Sx.map SE.v) rfl rfl
          obtain ⟨q3, q4, e2, -, -, h2⟩ := hr.at_ 1 _ 31 (Sx.map SE.w) rfl rfl
          simp only [Value.slice.injEq] at e1 e2
          obtain ⟨b1, u1, u2⟩ := h1 j x.v (by rw [List.getElem?_map, hx]; rfl)
          obtain ⟨b2, u3, u4⟩ := h2 j x.w (by rw [List.getElem?_map, hx]; rfl)
          refine ⟨⟨b1, b2, e1.1.trans u1, e2.1.trans u3, u2, u4⟩, fun d => ?_⟩
          obtain ⟨k1, k2, k3, -⟩ := HE0.out.2.1.s x (List.mem_of_getElem? hx)
          have hd : Below E0.heap.size E0 (W.drewN d) := bel_drewN hW d
          have f2 := (k2.kept hd).fls
          rw [k3] at f2
          exact dlfalikeQ_yes _ _ _ _ _ _ (k1.kept hd).fls f2
        have HB2 : Hid (∀ W, Below E0.heap.size E0 W → ∀ (j : Nat) (x : BE) (y : NE), Bx[j]? = some x → Nx[j]? = some y → (∃ b1 b2 b3 b4, a12 = some ⟨b1, 0, none⟩ ∧ a13 = some ⟨b2, 0, none⟩ ∧ a14 = some ⟨b3, 0, none⟩ ∧ a15 = some ⟨b4, 0, none⟩ ∧ W.cell? ⟨b1, j, none⟩ = some x.v ∧ W.cell? ⟨b2, j, none⟩ = some x.w ∧ W.cell? ⟨b3, j, none⟩ = some y.v ∧ W.cell? ⟨b4, j, none⟩ = some y.w) ∧ (∀ d, Calls Try.prog 19 #[x.v, x.w] (W.drewN d) fun e w' => e = .returned (.bool true) ∧ ∃ m, w' = (W.drewN d).drewN m) ∧ ∀ d, Calls Try.prog 22 #[y.v, y.w] (W.drewN d) fun e w' => e = .returned (.bool true) ∧ ∃ m, w' = (W.drewN d).drewN m) := fun W hW j x y hx hy => by
          have hr := HE0.out.2.2.1.kept hW
          obtain ⟨q1, q2, e1, -, -, h1⟩ := hr.at_ 2 _ 30 (Bx.map BE.v) rfl rfl
          obtain ⟨q3, q4, e2, -, -, h2⟩ := hr.at_ 3 _ 30 (Bx.map BE.w) rfl rfl
          obtain ⟨q5, q6, e3, -, -, h3⟩ := hr.at_ 4 _ 41 (Nx.map NE.v) rfl rfl
          obtain ⟨q7, q8, e4, -, -, h4⟩ := hr.at_ 5 _ 41 (Nx.map NE.w) rfl rfl
          simp only [Value.slice.injEq] at e1 e2 e3 e4
          obtain ⟨b1, u1, u2⟩ := h1 j x.v (by rw [List.getElem?_map, hx]; rfl)
          obtain ⟨b2, u3, u4⟩ := h2 j x.w (by rw [List.getElem?_map, hx]; rfl)
          obtain ⟨b3, u5, u6⟩ := h3 j y.v (by rw [List.getElem?_map, hy]; rfl)
          obtain ⟨b4, u7, u8⟩ := h4 j y.w (by rw [List.getElem?_map, hy]; rfl)
          obtain ⟨k1, k2, -⟩ := HE0.out.2.1.b x (List.mem_of_getElem? hx)
          obtain ⟨k3, k4, -⟩ := HE0.out.2.1.n y (List.mem_of_getElem? hy)
          exact ⟨⟨b1, b2, b3, b4, e1.1.trans u1, e2.1.trans u3, e3.1.trans u5, e4.1.trans u7, u2, u4, u6, u8⟩, fun d => dlalikeQ_yes _ _ _ _ (k1.bs.kept (bel_drewN hW d)) (k2.bs.kept (bel_drewN hW d)), fun d => dlnalikeQ_yes _ _ _ _ _ _ (Mg.row_kept k3 (bel_drewN hW d)) (Mg.row_kept k4 (bel_drewN hW d))⟩
        go_upto_region 36 with fail
        rw [← hE0, ← hgb]
        clear hE0 hgb
        go_wp2_with fail
        go_loopw [29] (fun i wr => ∃ j : Nat, j ≤ nS ∧ i = .int .i64 (j : Int) ∧ Below E0.heap.size E0 wr) (fun i _ => nS - (intOf i).toNat)
        case atStart => exact ⟨0, Nat.zero_le _, rfl, Below.refl _ _⟩
        case round =>
          obtain ⟨j, hj, rfl, hb2⟩ := hrel
          have HBJ : Hid (Below E0.heap.size E0 wr) := hb2
          clear hb2
          by_cases hjl : j < nS
          · obtain ⟨x, hx⟩ : ∃ x, Sx[j]? = some x := ⟨Sx[j]'(by rw [← HNN.out.1]; exact hjl), List.getElem?_eq_getElem _⟩
            obtain ⟨⟨b1, b2, rfl, rfl, u1, u2⟩, hq⟩ := HS2.out wr HBJ.out j x hx
            have HQ : Hid (∀ d, Calls Try.prog 17 #[x.v, x.w] (wr.drewN d) fun e w' => e = .returned (.bool true) ∧ ∃ m, w' = (wr.drewN d).drewN m) := hq
            generalize x.v = xv at *
            generalize x.w = xw at *
            clear hq hx
            go_wp2_with fail
            go_quiet (first | (go_at_call 17; refine Calls.quiet_of (HQ.out _)))
            go_wp2_with fail
            go_roundw
            case rel => exact ⟨j + 1, by omega, by go_num, bel_drewN HBJ.out _⟩
            case measure => simp [intOf]; omega
          · obtain ⟨E1, hE1⟩ : ∃ x, x = wr := ⟨_, rfl⟩
            have HE1 : Hid (Below E0.heap.size E0 E1) := by rw [hE1]; exact HBJ.out
            rw [← hE1]
            clear hE1 HBJ HS2
            go_wp2_with fail
            go_loopw [30] (fun i wr => ∃ j : Nat, j ≤ nB ∧ i = .int .i64 (j : Int) ∧ Below E0.heap.size E0 wr) (fun i _ => nB - (intOf i).toNat)
            case atStart => exact ⟨0, Nat.zero_le _, rfl, HE1.out⟩
            case round =>
              obtain ⟨j, hj, rfl, hb2⟩ := hrel
              have HBJ : Hid (Below E0.heap.size E0 wr) := hb2
              clear hb2
              by_cases hjl : j < nB
              · obtain ⟨x, hx⟩ : ∃ x, Bx[j]? = some x := ⟨Bx[j]'(by rw [← HNN.out.2.1]; exact hjl), List.getElem?_eq_getElem _⟩
                have hjn : j < nN := by have := HNQ.out.2.2; omega
                obtain ⟨y, hy⟩ : ∃ y, Nx[j]? = some y := ⟨Nx[j]'(by rw [← HNN.out.2.2]; exact hjn), List.getElem?_eq_getElem _⟩
                obtain ⟨⟨b1, b2, b3, b4, rfl, rfl, rfl, rfl, u1, u2, u3, u4⟩, hq, hq2⟩ := HB2.out wr HBJ.out j x y hx hy
                have HQ : Hid (∀ d, Calls Try.prog 19 #[x.v, x.w] (wr.drewN d) fun e w' => e = .returned (.bool true) ∧ ∃ m, w' = (wr.drewN d).drewN m) := hq
                have HQ2 : Hid (∀ d, Calls Try.prog 22 #[y.v, y.w] (wr.drewN d) fun e w' => e = .returned (.bool true) ∧ ∃ m, w' = (wr.drewN d).drewN m) := hq2
                generalize x.v = xv at *
                generalize x.w = xw at *
                generalize y.v = yv at *
                generalize y.w = yw at *
                clear hq hq2 hx hy
                go_wp2_with fail
                go_quiet (first | (go_at_call 19; refine Calls.quiet_of (HQ.out _)) | (go_at_call 22; refine Calls.quiet_of (HQ2.out _)))
                go_wp2_with fail
                go_roundw
                case rel => exact ⟨j + 1, by omega, by go_num, bel_drewN HBJ.out _⟩
                case measure => simp [intOf]; omega
              · obtain ⟨E2, hE2⟩ : ∃ x, x = wr := ⟨_, rfl⟩
                have HE2 : Hid (Below E0.heap.size E0 E2) := by rw [hE2]; exact HBJ.out
                rw [← hE2]
                clear hE2 HBJ HB2
                have hpd0 : Pd wr0 w0.heap.size Sx Bx Nx (.slice a10 nS c10) (.slice a12 nB c12) (.slice a14 nN c14) 0 0 0 := ⟨fun i x _ hx => (HEN.out.s x (List.mem_of_getElem? hx)).1, fun i x _ hx => (HEN.out.b x (List.mem_of_getElem? hx)).1, fun i x _ hx => (HEN.out.n x (List.mem_of_getElem? hx)).1, HRS.out.rows 0 _ _ rfl rfl, HRS.out.rows 2 _ _ rfl rfl, HRS.out.rows 4 _ _ rfl rfl⟩
                have HM0 : Hid (Bk w0.heap.size E2 (fun _ => none) gb [.slice none 0 0, .slice none 0 0, .slice none 0 0, .slice none 0 0, .slice none 0 0, .slice none 0 0, .slice none 0 0, .slice none 0 0, .slice none 0 0] [] [] [] [] [] [] ∧ Pd E2 w0.heap.size Sx Bx Nx (.slice a10 nS c10) (.slice a12 nB c12) (.slice a14 nN c14) 0 0 0 ∧ Out E2 (fun _ => none) gb [.slice none 0 0, .slice none 0 0, .slice none 0 0, .slice none 0 0, .slice none 0 0, .slice none 0 0, .slice none 0 0, .slice none 0 0, .slice none 0 0] (Pq Sx Bx Nx (.slice a10 nS c10) (.slice a12 nB c12) (.slice a14 nN c14) 0 0 0) ∧ Below w0.heap.size w0 E2) := by
                  have hbe : Below wr0.heap.size wr0 E2 := andThen HE0.out.2.2.2.2.2.2 HE2.out
                  refine ⟨HE0.out.1.kept HE2.out, hpd0.kept hbe, fun q hq => ⟨Nat.lt_of_lt_of_le (hpd0.lt hq) hbe.size, rfl, fun e => ?_⟩, andThen HE0.out.2.2.2.1 HE2.out⟩
                  have h9 := hpd0.lt hq
                  rcases e with e | ⟨v, hv, e⟩
                  · rw [e, HE0.out.2.2.2.2.2.1] at h9
                    omega
                  · have hv2 : v = .slice none 0 0 := by simpa using hv
                    rw [hv2] at e
                    cases e
                have HBD : Hid ((∀ x ∈ Sx, (∀ q, Fq x.v x.xs q → w0.heap.size ≤ q) ∧ x.xs.length ≤ 5000 ∧ ∀ y ∈ x.xs, y.2.2.length ≤ 5000000) ∧ (∀ x ∈ Bx, x.l.length ≤ 5000000) ∧ ∀ x ∈ Nx, x.l.length ≤ 5000000) := ⟨fun x hx => (HEN.out.s x hx).2.2.2.2, fun x hx => (HEN.out.b x hx).2.2.2, fun x hx => (HEN.out.n x hx).2.2.2⟩
                clear hpd0
                go_wp2_with fail
                go_loopw [31] (fun i wr => ∃ (j : Nat) (C : Nat → Option Cl) (V : List Value) (l f : List Cb.En), j ≤ nS ∧ i = .int .i64 (j : Int) ∧ Bk w0.heap.size wr C gb V l f [] [] [] [] ∧ (f.length = j ∧ l.length ≤ j * 5000) ∧ Pd wr w0.heap.size Sx Bx Nx (.slice a10 nS c10) (.slice a12 nB c12) (.slice a14 nN c14) j 0 0 ∧ Out wr C gb V (Pq Sx Bx Nx (.slice a10 nS c10) (.slice a12 nB c12) (.slice a14 nN c14) j 0 0) ∧ Below w0.heap.size w0 wr) (fun i _ => nS - (intOf i).toNat)
                case atStart => exact ⟨0, _, _, [], [], Nat.zero_le _, rfl, HM0.out.1, ⟨rfl, Nat.zero_le _⟩, HM0.out.2.1, HM0.out.2.2.1, HM0.out.2.2.2⟩
                case round =>
                  obtain ⟨j, C, V, l, f, hj, rfl, hbk, hlf, hpd, hou, hbl⟩ := hrel
                  have HG : Hid (Bk w0.heap.size wr C gb V l f [] [] [] [] ∧ (f.length = j ∧ l.length ≤ j * 5000) ∧ Pd wr w0.heap.size Sx Bx Nx (.slice a10 nS c10) (.slice a12 nB c12) (.slice a14 nN c14) j 0 0 ∧ Out wr C gb V (Pq Sx Bx Nx (.slice a10 nS c10) (.slice a12 nB c12) (.slice a14 nN c14) j 0 0) ∧ Below w0.heap.size w0 wr) := ⟨hbk, hlf, hpd, hou, hbl⟩
                  clear hbk hlf hpd hou hbl
                  by_cases hjl : j < nS
                  · have hjs : j < Sx.length := by rw [← HNN.out.1]; exact hjl
                    obtain ⟨x, hx⟩ : ∃ x, Sx[j]? = some x := ⟨Sx[j], List.getElem?_eq_getElem hjs⟩
                    have hxm := List.mem_of_getElem? hx
                    obtain ⟨b1, hb1, u1⟩ : ∃ b1, a10 = some ⟨b1, 0, none⟩ ∧ wr.cell? ⟨b1, j, none⟩ = some x.v := by
                      exact row_get SE.v HG.out.2.2.1.rs hx
                    have hbd := HBD.out.1 x hxm
                    have HSP : Hid (Calls Try.prog 23 #[.pointer (some ⟨gb, 0, none⟩), x.v] wr fun e w' => e = .returned (.tuple #[]) ∧ ∃ C' V' l' mk, Bk w0.heap.size w' C' gb V' (l ++ l') (f ++ [(x.v, x.xs.length, mk)]) [] [] [] [] ∧ l'.length = x.xs.length ∧ St wr w' C C' gb V V' (Fq x.v x.xs)) := dlspoils_any w0.heap.size gb C V l f [] [] [] [] x.v x.xs wr HG.out.1 (HG.out.2.2.1.s j x (Nat.le_refl _) hx) hbd.2.1 hbd.2.2 (by have := HG.out.2.1.2; have := hbd.2.1; have : j * 5000 ≤ 160 * 5000 := Nat.mul_le_mul_right _ (by omega); omega) (by rw [HG.out.2.1.1]; omega) (fun q e => HG.out.2.2.2.1 q (.inl ⟨j, x, Nat.le_refl _, hx, e⟩)) hbd.1 HG.out.2.2.2.2.size
                    have HX : Hid (Sx[j]? = some x ∧ x.xs.length ≤ 5000 ∧ ∀ q, Fq x.v x.xs q → w0.heap.size ≤ q) := ⟨hx, hbd.2.1, hbd.1⟩
                    subst hb1
                    obtain ⟨xv, hxv⟩ : ∃ v, v = x.v := ⟨_, rfl⟩
                    have HXV : Hid (xv = x.v) := hxv
                    rw [← hxv] at u1 HSP
                    clear hxv hbd hx hxm
                    go_wp2_with fail
                    refine HSP.out.mono ?_
                    rintro e Wk ⟨rfl, C2, V2, l2, mk, bk2, hl2, st2⟩
                    rw [HXV.out] at bk2 st2
                    have HK : Hid (Bk w0.heap.size Wk C2 gb V2 (l ++ l2) (f ++ [(x.v, x.xs.length, mk)]) [] [] [] [] ∧ ((f ++ [(x.v, x.xs.length, mk)]).length = j + 1 ∧ (l ++ l2).length ≤ (j + 1) * 5000) ∧ Pd Wk w0.heap.size Sx Bx Nx (.slice (some ⟨b1, 0, none⟩) nS c10) (.slice a12 nB c12) (.slice a14 nN c14) (j + 1) 0 0 ∧ Out Wk C2 gb V2 (Pq Sx Bx Nx (.slice (some ⟨b1, 0, none⟩) nS c10) (.slice a12 nB c12) (.slice a14 nN c14) (j + 1) 0 0) ∧ Below w0.heap.size w0 Wk) := by
                      have hp1 := HG.out.2.2.1
                      obtain ⟨q1, q2⟩ := st2.same (fun q hq => HG.out.2.2.2.1 q (Pq.less (Nat.le_succ _) (Nat.le_refl _) (Nat.le_refl _) hq) : Out wr C gb V (Pq Sx Bx Nx (.slice (some ⟨b1, 0, none⟩) nS c10) (.slice a12 nB c12) (.slice a14 nN c14) (j + 1) 0 0)) fun q hq => hp1.dS HEN.out HX.out.1 hq
                      refine ⟨bk2, ⟨by rw [List.length_append, HG.out.2.1.1]; rfl, ?_⟩, (hp1.less (Nat.le_succ _) (Nat.le_refl _) (Nat.le_refl _)).blk q1, q2, HG.out.2.2.2.2.trans (st2.fr.below HG.out.2.2.2.2.size fun q hq => ?_)⟩
                      · rw [List.length_append, hl2, Nat.add_mul]
                        have := HG.out.2.1.2
                        have := HX.out.2.1
                        omega
                      · rcases hq with e | e | e
                        · exact (HG.out.1.bm.lt e).1
                        · exact HG.out.1.low q e
                        · exact HX.out.2.2 q e
                    clear bk2 hl2 st2 HSP u1
                    go_wp2_with fail
                    go_roundw
                    case rel => exact ⟨j + 1, C2, V2, _, _, by omega, by go_num, HK.out⟩
                    case measure => simp [intOf]; omega
                  · obtain rfl : j = nS := by omega
                    obtain ⟨E3, hE3⟩ : ∃ x, x = wr := ⟨_, rfl⟩
                    obtain ⟨CF, hCF⟩ : ∃ x, x = C := ⟨_, rfl⟩
                    obtain ⟨VF, hVF⟩ : ∃ x, x = V := ⟨_, rfl⟩
                    obtain ⟨lF, hlF⟩ : ∃ x, x = l := ⟨_, rfl⟩
                    obtain ⟨fF, hfF⟩ : ∃ x, x = f := ⟨_, rfl⟩
                    have HM1 : Hid (Bk w0.heap.size E3 CF gb VF lF fF [] [] [] [] ∧ (fF.length = j ∧ lF.length ≤ j * 5000) ∧ Pd E3 w0.heap.size Sx Bx Nx (.slice a10 j c10) (.slice a12 nB c12) (.slice a14 nN c14) j 0 0 ∧ Out E3 CF gb VF (Pq Sx Bx Nx (.slice a10 j c10) (.slice a12 nB c12) (.slice a14 nN c14) j 0 0) ∧ Below w0.heap.size w0 E3) := by
                      rw [hE3, hCF, hVF, hlF, hfF]
                      exact HG.out
                    rw [← hE3]
                    clear hE3 hCF hVF hlF hfF HG HM0
                    go_wp2_with fail
                    go_loopw [32] (fun i wr => ∃ (m : Nat) (C : Nat → Option Cl) (V : List Value) (l n : List Cb.En), m ≤ nB ∧ i = .int .i64 (m : Int) ∧ Bk w0.heap.size wr C gb V l fF n [] [] [] ∧ (n.length = m ∧ l.length ≤ 800000 + m) ∧ Pd wr w0.heap.size Sx Bx Nx (.slice a10 j c10) (.slice a12 nB c12) (.slice a14 nN c14) j m m ∧ Out wr C gb V (Pq Sx Bx Nx (.slice a10 j c10) (.slice a12 nB c12) (.slice a14 nN c14) j m m) ∧ Below w0.heap.size w0 wr) (fun i _ => nB - (intOf i).toNat)
                    case atStart => exact ⟨0, CF, VF, lF, [], Nat.zero_le _, rfl, HM1.out.1, ⟨rfl, by have := HM1.out.2.1.2; have : j * 5000 ≤ 160 * 5000 := Nat.mul_le_mul_right _ (by omega); omega⟩, HM1.out.2.2⟩
                    case round =>
                      obtain ⟨m, C, V, l, n9, hm, rfl, hbk, hlf, hpd, hou, hbl⟩ := hrel
                      have HG : Hid (Bk w0.heap.size wr C gb V l fF n9 [] [] [] ∧ (n9.length = m ∧ l.length ≤ 800000 + m) ∧ Pd wr w0.heap.size Sx Bx Nx (.slice a10 j c10) (.slice a12 nB c12) (.slice a14 nN c14) j m m ∧ Out wr C gb V (Pq Sx Bx Nx (.slice a10 j c10) (.slice a12 nB c12) (.slice a14 nN c14) j m m) ∧ Below w0.heap.size w0 wr) := ⟨hbk, hlf, hpd, hou, hbl⟩
                      clear hbk hlf hpd hou hbl
                      by_cases hml : m < nB
                      · have hmn9 : m < nN := by have := HNQ.out.2.2; omega
                        have hmb : m < Bx.length := by rw [← HNN.out.2.1]; exact hml
                        have hmn : m < Nx.length := by rw [← HNN.out.2.2]; have := HNQ.out.2.2; omega
                        obtain ⟨x, hx⟩ : ∃ x, Bx[m]? = some x := ⟨Bx[m], List.getElem?_eq_getElem hmb⟩
                        obtain ⟨y, hy⟩ : ∃ y, Nx[m]? = some y := ⟨Nx[m], List.getElem?_eq_getElem hmn⟩
                        have HCL : Hid (∀ (W : World) (p1 p2 p3 : Nat), Pd W w0.heap.size Sx Bx Nx (.slice a10 j c10) (.slice a12 nB c12) (.slice a14 nN c14) p1 p2 p3 → (∃ b1, a12 = some ⟨b1, 0, none⟩ ∧ W.cell? ⟨b1, m, none⟩ = some x.v) ∧ ∃ b2, a14 = some ⟨b2, 0, none⟩ ∧ W.cell? ⟨b2, m, none⟩ = some y.v) := fun W p1 p2 p3 hP => by
                          exact ⟨row_get BE.v hP.rb hx, row_get NE.v hP.rn hy⟩
                        have HXY : Hid (Bx[m]? = some x ∧ Nx[m]? = some y ∧ x.l.length ≤ 5000000 ∧ y.l.length ≤ 5000000) := ⟨hx, hy, HBD.out.2.1 x (List.mem_of_getElem? hx), HBD.out.2.2 y (List.mem_of_getElem? hy)⟩
                        have hob := HG.out.2.2.1.b m x (Nat.le_refl _) hx
                        have HKP : Hid (Calls Try.prog 24 #[.pointer (some ⟨gb, 0, none⟩), x.v] wr fun e w' => e = .returned (.tuple #[]) ∧ ∃ C' V' mk, Bk w0.heap.size w' C' gb V' (l ++ [(x.v, x.l.length, mk)]) fF n9 [] [] [] ∧ St wr w' C C' gb V V' fun q => x.v.ownBlock = some q) := dlkeep_any w0.heap.size gb C V l fF n9 [] [] [] x.v _ _ wr HG.out.1 (row_low hob.row (Nat.zero_le _)) HXY.out.2.2.1 (by have := HG.out.2.1.2; omega) (fun q e => HG.out.2.2.2.1 q (.inr (.inl ⟨m, x, Nat.le_refl _, hx, e⟩))) (fun q e => (World.ownsRow.lt hob.row q e).1) HG.out.2.2.2.2.size
                        obtain ⟨⟨b1, hb1, u1⟩, b2, hb2, -⟩ := HCL.out wr _ _ _ HG.out.2.2.1
                        subst hb1 hb2
                        obtain ⟨xv, hxv⟩ : ∃ v, v = x.v := ⟨_, rfl⟩
                        have HXV : Hid (xv = x.v) := hxv
                        rw [← hxv] at u1 HKP
                        clear hxv hob hx hy
                        go_wp2_with fail
                        refine HKP.out.mono ?_
                        rintro e Wk ⟨rfl, C2, V2, mk, bk2, st2⟩
                        rw [HXV.out] at bk2 st2
                        have HK : Hid (Bk w0.heap.size Wk C2 gb V2 (l ++ [(x.v, x.l.length, mk)]) fF n9 [] [] [] ∧ Pd Wk w0.heap.size Sx Bx Nx (.slice a10 j c10) (.slice (some ⟨b1, 0, none⟩) nB c12) (.slice (some ⟨b2, 0, none⟩) nN c14) j (m + 1) m ∧ Out Wk C2 gb V2 (Pq Sx Bx Nx (.slice a10 j c10) (.slice (some ⟨b1, 0, none⟩) nB c12) (.slice (some ⟨b2, 0, none⟩) nN c14) j (m + 1) m) ∧ Below w0.heap.size w0 Wk) := by
                          have hp1 := HG.out.2.2.1
                          obtain ⟨q1, q2⟩ := st2.same (fun q hq => HG.out.2.2.2.1 q (Pq.less (Nat.le_refl _) (Nat.le_succ _) (Nat.le_refl _) hq) : Out wr C gb V (Pq Sx Bx Nx (.slice a10 j c10) (.slice (some ⟨b1, 0, none⟩) nB c12) (.slice (some ⟨b2, 0, none⟩) nN c14) j (m + 1) m)) fun q hq => hp1.dB HEN.out HXY.out.1 hq
                          refine ⟨bk2, (hp1.less (Nat.le_refl _) (Nat.le_succ _) (Nat.le_refl _)).blk q1, q2, HG.out.2.2.2.2.trans (st2.fr.below HG.out.2.2.2.2.size fun q hq => ?_)⟩
                          rcases hq with e | e | e
                          · exact (HG.out.1.bm.lt e).1
                          · exact HG.out.1.low q e
                          · exact (World.ownsRow.lt (hp1.b m x (Nat.le_refl _) HXY.out.1).row q e).1
                        obtain ⟨-, b3, hb3, u2⟩ := HCL.out Wk _ _ _ HK.out.2.1
                        simp only [Option.some.injEq, Addr.mk.injEq, and_true] at hb3
                        subst hb3
                        have hon := HK.out.2.1.n m y (Nat.le_refl _) HXY.out.2.1
                        have HWI : Hid (Calls Try.prog 25 #[.pointer (some ⟨gb, 0, none⟩), y.v] Wk fun e w' => e = .returned (.tuple #[]) ∧ ∃ C' V' mk2, Bk w0.heap.size w' C' gb V' (l ++ [(x.v, x.l.length, mk)]) fF (n9 ++ [(y.v, y.l.length, mk2)]) [] [] [] ∧ St Wk w' C2 C' gb V2 V' fun q => y.v.ownBlock = some q) := dlwipes_any w0.heap.size gb C2 V2 _ fF n9 [] [] [] y.v _ _ Wk HK.out.1 (row_low hon (Nat.zero_le _)) HXY.out.2.2.2 (by rw [HG.out.2.1.1]; omega) (fun q e => HK.out.2.2.1 q (.inr (.inr (.inl ⟨m, y, Nat.le_refl _, HXY.out.2.1, e⟩)))) (fun q e => (World.ownsRow.lt hon q e).1) HK.out.2.2.2.size
                        obtain ⟨yv, hyv⟩ : ∃ v, v = y.v := ⟨_, rfl⟩
                        have HYV : Hid (yv = y.v) := hyv
                        rw [← hyv] at u2 HWI
                        clear hyv hon bk2 st2 HKP u1
                        go_wp2_with fail
                        refine HWI.out.mono ?_
                        rintro e Wm ⟨rfl, C3, V3, mk2, bk3, st3⟩
                        rw [HYV.out] at bk3 st3
                        have HK2 : Hid (Bk w0.heap.size Wm C3 gb V3 (l ++ [(x.v, x.l.length, mk)]) fF (n9 ++ [(y.v, y.l.length, mk2)]) [] [] [] ∧ ((n9 ++ [(y.v, y.l.length, mk2)]).length = m + 1 ∧ (l ++ [(x.v, x.l.length, mk)]).length ≤ 800000 + (m + 1)) ∧ Pd Wm w0.heap.size Sx Bx Nx (.slice a10 j c10) (.slice (some ⟨b1, 0, none⟩) nB c12) (.slice (some ⟨b2, 0, none⟩) nN c14) j (m + 1) (m + 1) ∧ Out Wm C3 gb V3 (Pq Sx Bx Nx (.slice a10 j c10) (.slice (some ⟨b1, 0, none⟩) nB c12) (.slice (some ⟨b2, 0, none⟩) nN c14) j (m + 1) (m + 1)) ∧ Below w0.heap.size w0 Wm) := by
                          have hp1 := HK.out.2.1
                          obtain ⟨q1, q2⟩ := st3.same (fun q hq => HK.out.2.2.1 q (Pq.less (Nat.le_refl _) (Nat.le_refl _) (Nat.le_succ _) hq) : Out Wk C2 gb V2 (Pq Sx Bx Nx (.slice a10 j c10) (.slice (some ⟨b1, 0, none⟩) nB c12) (.slice (some ⟨b2, 0, none⟩) nN c14) j (m + 1) (m + 1))) fun q hq => hp1.dN HEN.out HXY.out.2.1 hq
                          refine ⟨bk3, ⟨by rw [List.length_append, HG.out.2.1.1]; rfl, by rw [List.length_append]; have := HG.out.2.1.2; simp only [List.length_singleton]; omega⟩, (hp1.less (Nat.le_refl _) (Nat.le_refl _) (Nat.le_succ _)).blk q1, q2, HK.out.2.2.2.trans (st3.fr.below HK.out.2.2.2.size fun q hq => ?_)⟩
                          rcases hq with e | e | e
                          · exact (HK.out.1.bm.lt e).1
                          · exact HK.out.1.low q e
                          · exact (World.ownsRow.lt (hp1.n m y (Nat.le_refl _) HXY.out.2.1) q e).1
                        clear bk3 st3 HWI u2
                        go_wp2_with fail
                        go_roundw
                        case rel => exact ⟨m + 1, C3, V3, _, _, by omega, by go_num, HK2.out⟩
                        case measure => simp [intOf]; omega
                      · have hln := HG.out.2.1
                        have hlf := HM1.out.2.1.1
                        have HGR : Hid (Calls Try.prog 26 #[.pointer (some ⟨gb, 0, none⟩)] wr fun e w' => e = .returned (.tuple #[]) ∧ ∃ C' V' lh' fh' nh', Bk w0.heap.size w' C' gb V' l fF n9 lh' fh' nh' ∧ lh'.length = l.length ∧ fh'.length = fF.length ∧ nh'.length = n9.length ∧ St wr w' C C' gb V V' (fun _ => False)) := dlgrow_any w0.heap.size gb C V l fF n9 [] [] [] wr HG.out.1 (by omega) (by omega) (by omega) HG.out.2.2.2.2.size
                        have HLS : Hid (l.length ≤ 1000000 ∧ fF.length ≤ 1000000 ∧ n9.length ≤ 1000000) := ⟨by omega, by omega, by omega⟩
                        clear hln hlf
                        go_wp2_with fail
                        refine HGR.out.mono ?_
                        rintro e Wg ⟨rfl, C2, V2, lh2, fh2, nh2, bk2, e1, e2, e3, st2⟩
                        have HZ : Hid (Below w0.heap.size w0 Wg) := HG.out.2.2.2.2.trans (st2.fr.below HG.out.2.2.2.2.size fun q hq => by
                          rcases hq with e | e | e
                          · exact (HG.out.1.bm.lt e).1
                          · exact HG.out.1.low q e
                          · exact e.elim)
                        have HST : Hid (Calls Try.prog 27 #[.pointer (some ⟨gb, 0, none⟩)] Wg fun e w' => e = .returned (.bool true) ∧ Below Wg.heap.size Wg w') := dlstands_any w0.heap.size gb C2 V2 l fF n9 lh2 fh2 nh2 Wg bk2 HLS.out.1 HLS.out.2.1 HLS.out.2.2 e1 e2 e3
                        clear bk2 e1 e2 e3 st2 HGR
                        go_wp2_with fail
                        refine HST.out.mono ?_
                        rintro e Wz ⟨rfl, bz⟩
                        have HZ2 : Hid (Below w0.heap.size w0 Wz) := andThen HZ.out bz
                        clear bz HST
                        go_wp2_with fail
                        go_returns
                        exact ⟨rfl, HZ2.out⟩
      · have t1 : ((k : Int) < (n : Int)) = False := eq_false (by omega)
        clear hlt h1
        have HNQ : Hid (nS ≤ 160 ∧ nB ≤ 80 ∧ nN = nB) := ⟨by rw [HNN.out.1]; have := HW.out.2.1; omega, by rw [HNN.out.2.1]; have := HW.out.2.2.1; omega, by rw [HNN.out.2.2, HNN.out.2.1]; exact HW.out.2.2.2⟩
        have hns9 : nS ≤ 160 := HNQ.out.1
        have hnb9 : nB ≤ 80 := HNQ.out.2.1
        obtain ⟨wr0, hwr0⟩ : ∃ x, x = wr := ⟨_, rfl⟩
        subst hwr0
        obtain ⟨E0, hE0⟩ : ∃ W, W = wr0.alloc (.cells #[.slice none 0 0, .slice none 0 0, .slice none 0 0, .slice none 0 0, .slice none 0 0, .slice none 0 0, .slice none 0 0, .slice none 0 0, .slice none 0 0] 50) := ⟨_, rfl⟩
        obtain ⟨gb, hgb⟩ : ∃ x, x = wr0.heap.size := ⟨_, rfl⟩
        have HE0 : Hid (Bk w0.heap.size E0 (fun _ => none) gb [.slice none 0 0, .slice none 0 0, .slice none 0 0, .slice none 0 0, .slice none 0 0, .slice none 0 0, .slice none 0 0, .slice none 0 0, .slice none 0 0] [] [] [] [] [] [] ∧ _root_.Go.Proofs.Ytjepeeopjjnglaa.En (Ft g S M) E0 w0.heap.size wr0.heap.size Sx Bx Nx O ∧ Rs w0.heap.size E0 [.slice a10 nS c10, .slice a11 nS c11, .slice a12 nB c12, .slice a13 nB c13, .slice a14 nN c14, .slice a15 nN c15] [(31, Sx.map SE.v), (31, Sx.map SE.w), (30, Bx.map BE.v), (30, Bx.map BE.w), (41, Nx.map NE.v), (41, Nx.map NE.w)] ∧ Below w0.heap.size w0 E0 ∧ gb < E0.heap.size ∧ gb = wr0.heap.size ∧ Below wr0.heap.size wr0 E0) := by
          have b9 := up0 wr0 (.cells #[.slice none 0 0, .slice none 0 0, .slice none 0 0, .slice none 0 0, .slice none 0 0, .slice none 0 0, .slice none 0 0, .slice none 0 0, .slice none 0 0] 50)
          rw [hE0, hgb]
          exact ⟨bk_new wr0 _ HD.out.2.size, HEN.out.kept b9, HRS.out.kept b9, andThen HD.out.2 b9, by simp, rfl, b9⟩
        -- said and want
        have HS2 : Hid (∀ W, Below E0.heap.size E0 W → ∀ (j : Nat) (x : SE), Sx[j]? = some x → (∃ b1 b2, a10 = some ⟨b1, 0, none⟩ ∧ a11 = some ⟨b2, 0, none⟩ ∧ W.cell? ⟨b1, j, none⟩ = some x.v ∧ W.cell? ⟨b2, j, none⟩ = some x.w) ∧ ∀ d, Calls Try.prog 17 #[x.v, x.w] (W.drewN d) fun e w' => e = .returned (.bool true) ∧ ∃ m, w' = (W.drewN d).drewN m) := fun W hW j x hx => by
          have hr := HE0.out.2.2.1.kept hW
          obtain ⟨q1, q2, e1, -, -, h1⟩ := hr.at_ 0 _ 31 (Sx.map SE.v) rfl rfl
          obtain ⟨q3, q4, e2, -, -, h2⟩ := hr.at_ 1 _ 31 (Sx.map SE.w) rfl rfl
          simp only [Value.slice.injEq] at e1 e2
          obtain ⟨b1, u1, u2⟩ := h1 j x.v (by rw [List.getElem?_map, hx]; rfl)
          obtain ⟨b2, u3, u4⟩ := h2 j x.w (by rw [List.getElem?_map, hx]; rfl)
          refine ⟨⟨b1, b2, e1.1.trans u1, e2.1.trans u3, u2, u4⟩, fun d => ?_⟩
          obtain ⟨k1, k2, k3, -⟩ := HE0.out.2.1.s x (List.mem_of_getElem? hx)
          have hd : Below E0.heap.size E0 (W.drewN d) := bel_drewN hW d
          have f2 := (k2.kept hd).fls
          rw [k3] at f2
          exact dlfalikeQ_yes _ _ _ _ _ _ (k1.kept hd).fls f2
        have HB2 : Hid (∀ W, Below E0.heap.size E0 W → ∀ (j : Nat) (x : BE) (y : NE), Bx[j]? = some x → Nx[j]? = some y → (∃ b1 b2 b3 b4, a12 = some ⟨b1, 0, none⟩ ∧ a13 = some ⟨b2, 0, none⟩ ∧ a14 = some ⟨b3, 0, none⟩ ∧ a15 = some ⟨b4, 0, none⟩ ∧ W.cell? ⟨b1, j, none⟩ = some x.v ∧ W.cell? ⟨b2, j, none⟩ = some x.w ∧ W.cell? ⟨b3, j, none⟩ = some y.v ∧ W.cell? ⟨b4, j, none⟩ = some y.w) ∧ (∀ d, Calls Try.prog 19 #[x.v, x.w] (W.drewN d) fun e w' => e = .returned (.bool true) ∧ ∃ m, w' = (W.drewN d).drewN m) ∧ ∀ d, Calls Try.prog 22 #[y.v, y.w] (W.drewN d) fun e w' => e = .returned (.bool true) ∧ ∃ m, w' = (W.drewN d).drewN m) := fun W hW j x y hx hy => by
          have hr := HE0.out.2.2.1.kept hW
          obtain ⟨q1, q2, e1, -, -, h1⟩ := hr.at_ 2 _ 30 (Bx.map BE.v) rfl rfl
          obtain ⟨q3, q4, e2, -, -, h2⟩ := hr.at_ 3 _ 30 (Bx.map BE.w) rfl rfl
          obtain ⟨q5, q6, e3, -, -, h3⟩ := hr.at_ 4 _ 41 (Nx.map NE.v) rfl rfl
          obtain ⟨q7, q8, e4, -, -, h4⟩ := hr.at_ 5 _ 41 (Nx.map NE.w) rfl rfl
          simp only [Value.slice.injEq] at e1 e2 e3 e4
          obtain ⟨b1, u1, u2⟩ := h1 j x.v (by rw [List.getElem?_map, hx]; rfl)
          obtain ⟨b2, u3, u4⟩ := h2 j x.w (by rw [List.getElem?_map, hx]; rfl)
          obtain ⟨b3, u5, u6⟩ := h3 j y.v (by rw [List.getElem?_map, hy]; rfl)
          obtain ⟨b4, u7, u8⟩ := h4 j y.w (by rw [List.getElem?_map, hy]; rfl)
          obtain ⟨k1, k2, -⟩ := HE0.out.2.1.b x (List.mem_of_getElem? hx)
          obtain ⟨k3, k4, -⟩ := HE0.out.2.1.n y (List.mem_of_getElem? hy)
          exact ⟨⟨b1, b2, b3, b4, e1.1.trans u1, e2.1.trans u3, e3.1.trans u5, e4.1.trans u7, u2, u4, u6, u8⟩, fun d => dlalikeQ_yes _ _ _ _ (k1.bs.kept (bel_drewN hW d)) (k2.bs.kept (bel_drewN hW d)), fun d => dlnalikeQ_yes _ _ _ _ _ _ (Mg.row_kept k3 (bel_drewN hW d)) (Mg.row_kept k4 (bel_drewN hW d))⟩
        go_upto_region 36 with fail
        rw [← hE0, ← hgb]
        clear hE0 hgb
        go_wp2_with fail
        go_loopw [29] (fun i wr => ∃ j : Nat, j ≤ nS ∧ i = .int .i64 (j : Int) ∧ Below E0.heap.size E0 wr) (fun i _ => nS - (intOf i).toNat)
        case atStart => exact ⟨0, Nat.zero_le _, rfl, Below.refl _ _⟩
        case round =>
          obtain ⟨j, hj, rfl, hb2⟩ := hrel
          have HBJ : Hid (Below E0.heap.size E0 wr) := hb2
          clear hb2
          by_cases hjl : j < nS
          · obtain ⟨x, hx⟩ : ∃ x, Sx[j]? = some x := ⟨Sx[j]'(by rw [← HNN.out.1]; exact hjl), List.getElem?_eq_getElem _⟩
            obtain ⟨⟨b1, b2, rfl, rfl, u1, u2⟩, hq⟩ := HS2.out wr HBJ.out j x hx
            have HQ : Hid (∀ d, Calls Try.prog 17 #[x.v, x.w] (wr.drewN d) fun e w' => e = .returned (.bool true) ∧ ∃ m, w' = (wr.drewN d).drewN m) := hq
            generalize x.v = xv at *
            generalize x.w = xw at *
            clear hq hx
            go_wp2_with fail
            go_quiet (first | (go_at_call 17; refine Calls.quiet_of (HQ.out _)))
            go_wp2_with fail
            go_roundw
            case rel => exact ⟨j + 1, by omega, by go_num, bel_drewN HBJ.out _⟩
            case measure => simp [intOf]; omega
          · obtain ⟨E1, hE1⟩ : ∃ x, x = wr := ⟨_, rfl⟩
            have HE1 : Hid (Below E0.heap.size E0 E1) := by rw [hE1]; exact HBJ.out
            rw [← hE1]
            clear hE1 HBJ HS2
            go_wp2_with fail
            go_loopw [30] (fun i wr => ∃ j : Nat, j ≤ nB ∧ i = .int .i64 (j : Int) ∧ Below E0.heap.size E0 wr) (fun i _ => nB - (intOf i).toNat)
            case atStart => exact ⟨0, Nat.zero_le _, rfl, HE1.out⟩
            case round =>
              obtain ⟨j, hj, rfl, hb2⟩ := hrel
              have HBJ : Hid (Below E0.heap.size E0 wr) := hb2
              clear hb2
              by_cases hjl : j < nB
              · obtain ⟨x, hx⟩ : ∃ x, Bx[j]? = some x := ⟨Bx[j]'(by rw [← HNN.out.2.1]; exact hjl), List.getElem?_eq_getElem _⟩
                have hjn : j < nN := by have := HNQ.out.2.2; omega
                obtain ⟨y, hy⟩ : ∃ y, Nx[j]? = some y := ⟨Nx[j]'(by rw [← HNN.out.2.2]; exact hjn), List.getElem?_eq_getElem _⟩
                obtain ⟨⟨b1, b2, b3, b4, rfl, rfl, rfl, rfl, u1, u2, u3, u4⟩, hq, hq2⟩ := HB2.out wr HBJ.out j x y hx hy
                have HQ : Hid (∀ d, Calls Try.prog 19 #[x.v, x.w] (wr.drewN d) fun e w' => e = .returned (.bool true) ∧ ∃ m, w' = (wr.drewN d).drewN m) := hq
                have HQ2 : Hid (∀ d, Calls Try.prog 22 #[y.v, y.w] (wr.drewN d) fun e w' => e = .returned (.bool true) ∧ ∃ m, w' = (wr.drewN d).drewN m) := hq2
                generalize x.v = xv at *
                generalize x.w = xw at *
                generalize y.v = yv at *
                generalize y.w = yw at *
                clear hq hq2 hx hy
                go_wp2_with fail
                go_quiet (first | (go_at_call 19; refine Calls.quiet_of (HQ.out _)) | (go_at_call 22; refine Calls.quiet_of (HQ2.out _)))
                go_wp2_with fail
                go_roundw
                case rel => exact ⟨j + 1, by omega, by go_num, bel_drewN HBJ.out _⟩
                case measure => simp [intOf]; omega
              · obtain ⟨E2, hE2⟩ : ∃ x, x = wr := ⟨_, rfl⟩
                have HE2 : Hid (Below E0.heap.size E0 E2) := by rw [hE2]; exact HBJ.out
                rw [← hE2]
                clear hE2 HBJ HB2
                have hpd0 : Pd wr0 w0.heap.size Sx Bx Nx (.slice a10 nS c10) (.slice a12 nB c12) (.slice a14 nN c14) 0 0 0 := ⟨fun i x _ hx => (HEN.out.s x (List.mem_of_getElem? hx)).1, fun i x _ hx => (HEN.out.b x (List.mem_of_getElem? hx)).1, fun i x _ hx => (HEN.out.n x (List.mem_of_getElem? hx)).1, HRS.out.rows 0 _ _ rfl rfl, HRS.out.rows 2 _ _ rfl rfl, HRS.out.rows 4 _ _ rfl rfl⟩
                have HM0 : Hid (Bk w0.heap.size E2 (fun _ => none) gb [.slice none 0 0, .slice none 0 0, .slice none 0 0, .slice none 0 0, .slice none 0 0, .slice none 0 0, .slice none 0 0, .slice none 0 0, .slice none 0 0] [] [] [] [] [] [] ∧ Pd E2 w0.heap.size Sx Bx Nx (.slice a10 nS c10) (.slice a12 nB c12) (.slice a14 nN c14) 0 0 0 ∧ Out E2 (fun _ => none) gb [.slice none 0 0, .slice none 0 0, .slice none 0 0, .slice none 0 0, .slice none 0 0, .slice none 0 0, .slice none 0 0, .slice none 0 0, .slice none 0 0] (Pq Sx Bx Nx (.slice a10 nS c10) (.slice a12 nB c12) (.slice a14 nN c14) 0 0 0) ∧ Below w0.heap.size w0 E2) := by
                  have hbe : Below wr0.heap.size wr0 E2 := andThen HE0.out.2.2.2.2.2.2 HE2.out
                  refine ⟨HE0.out.1.kept HE2.out, hpd0.kept hbe, fun q hq => ⟨Nat.lt_of_lt_of_le (hpd0.lt hq) hbe.size, rfl, fun e => ?_⟩, andThen HE0.out.2.2.2.1 HE2.out⟩
                  have h9 := hpd0.lt hq
                  rcases e with e | ⟨v, hv, e⟩
                  · rw [e, HE0.out.2.2.2.2.2.1] at h9
                    omega
                  · have hv2 : v = .slice none 0 0 := by simpa using hv
                    rw [hv2] at e
                    cases e
                have HBD : Hid ((∀ x ∈ Sx, (∀ q, Fq x.v x.xs q → w0.heap.size ≤ q) ∧ x.xs.length ≤ 5000 ∧ ∀ y ∈ x.xs, y.2.2.length ≤ 5000000) ∧ (∀ x ∈ Bx, x.l.length ≤ 5000000) ∧ ∀ x ∈ Nx, x.l.length ≤ 5000000) := ⟨fun x hx => (HEN.out.s x hx).2.2.2.2, fun x hx => (HEN.out.b x hx).2.2.2, fun x hx => (HEN.out.n x hx).2.2.2⟩
                clear hpd0
                go_wp2_with fail
                go_loopw [31] (fun i wr => ∃ (j : Nat) (C : Nat → Option Cl) (V : List Value) (l f : List Cb.En), j ≤ nS ∧ i = .int .i64 (j : Int) ∧ Bk w0.heap.size wr C gb V l f [] [] [] [] ∧ (f.length = j ∧ l.length ≤ j * 5000) ∧ Pd wr w0.heap.size Sx Bx Nx (.slice a10 nS c10) (.slice a12 nB c12) (.slice a14 nN c14) j 0 0 ∧ Out wr C gb V (Pq Sx Bx Nx (.slice a10 nS c10) (.slice a12 nB c12) (.slice a14 nN c14) j 0 0) ∧ Below w0.heap.size w0 wr) (fun i _ => nS - (intOf i).toNat)
                case atStart => exact ⟨0, _, _, [], [], Nat.zero_le _, rfl, HM0.out.1, ⟨rfl, Nat.zero_le _⟩, HM0.out.2.1, HM0.out.2.2.1, HM0.out.2.2.2⟩
                case round =>
                  obtain ⟨j, C, V, l, f, hj, rfl, hbk, hlf, hpd, hou, hbl⟩ := hrel
                  have HG : Hid (Bk w0.heap.size wr C gb V l f [] [] [] [] ∧ (f.length = j ∧ l.length ≤ j * 5000) ∧ Pd wr w0.heap.size Sx Bx Nx (.slice a10 nS c10) (.slice a12 nB c12) (.slice a14 nN c14) j 0 0 ∧ Out wr C gb V (Pq Sx Bx Nx (.slice a10 nS c10) (.slice a12 nB c12) (.slice a14 nN c14) j 0 0) ∧ Below w0.heap.size w0 wr) := ⟨hbk, hlf, hpd, hou, hbl⟩
                  clear hbk hlf hpd hou hbl
                  by_cases hjl : j < nS
                  · have hjs : j < Sx.length := by rw [← HNN.out.1]; exact hjl
                    obtain ⟨x, hx⟩ : ∃ x, Sx[j]? = some x := ⟨Sx[j], List.getElem?_eq_getElem hjs⟩
                    have hxm := List.mem_of_getElem? hx
                    obtain ⟨b1, hb1, u1⟩ : ∃ b1, a10 = some ⟨b1, 0, none⟩ ∧ wr.cell? ⟨b1, j, none⟩ = some x.v := by
                      exact row_get SE.v HG.out.2.2.1.rs hx
                    have hbd := HBD.out.1 x hxm
                    have HSP : Hid (Calls Try.prog 23 #[.pointer (some ⟨gb, 0, none⟩), x.v] wr fun e w' => e = .returned (.tuple #[]) ∧ ∃ C' V' l' mk, Bk w0.heap.size w' C' gb V' (l ++ l') (f ++ [(x.v, x.xs.length, mk)]) [] [] [] [] ∧ l'.length = x.xs.length ∧ St wr w' C C' gb V V' (Fq x.v x.xs)) := dlspoils_any w0.heap.size gb C V l f [] [] [] [] x.v x.xs wr HG.out.1 (HG.out.2.2.1.s j x (Nat.le_refl _) hx) hbd.2.1 hbd.2.2 (by have := HG.out.2.1.2; have := hbd.2.1; have : j * 5000 ≤ 160 * 5000 := Nat.mul_le_mul_right _ (by omega); omega) (by rw [HG.out.2.1.1]; omega) (fun q e => HG.out.2.2.2.1 q (.inl ⟨j, x, Nat.le_refl _, hx, e⟩)) hbd.1 HG.out.2.2.2.2.size
                    have HX : Hid (Sx[j]? = some x ∧ x.xs.length ≤ 5000 ∧ ∀ q, Fq x.v x.xs q → w0.heap.size ≤ q) := ⟨hx, hbd.2.1, hbd.1⟩
                    subst hb1
                    obtain ⟨xv, hxv⟩ : ∃ v, v = x.v := ⟨_, rfl⟩
                    have HXV : Hid (xv = x.v) := hxv
                    rw [← hxv] at u1 HSP
                    clear hxv hbd hx hxm
                    go_wp2_with fail
                    refine HSP.out.mono ?_
                    rintro e Wk ⟨rfl, C2, V2, l2, mk, bk2, hl2, st2⟩
                    rw [HXV.out] at bk2 st2
                    have HK : Hid (Bk w0.heap.size Wk C2 gb V2 (l ++ l2) (f ++ [(x.v, x.xs.length, mk)]) [] [] [] [] ∧ ((f ++ [(x.v, x.xs.length, mk)]).length = j + 1 ∧ (l ++ l2).length ≤ (j + 1) * 5000) ∧ Pd Wk w0.heap.size Sx Bx Nx (.slice (some ⟨b1, 0, none⟩) nS c10) (.slice a12 nB c12) (.slice a14 nN c14) (j + 1) 0 0 ∧ Out Wk C2 gb V2 (Pq Sx Bx Nx (.slice (some ⟨b1, 0, none⟩) nS c10) (.slice a12 nB c12) (.slice a14 nN c14) (j + 1) 0 0) ∧ Below w0.heap.size w0 Wk) := by
                      have hp1 := HG.out.2.2.1
                      obtain ⟨q1, q2⟩ := st2.same (fun q hq => HG.out.2.2.2.1 q (Pq.less (Nat.le_succ _) (Nat.le_refl _) (Nat.le_refl _) hq) : Out wr C gb V (Pq Sx Bx Nx (.slice (some ⟨b1, 0, none⟩) nS c10) (.slice a12 nB c12) (.slice a14 nN c14) (j + 1) 0 0)) fun q hq => hp1.dS HEN.out HX.out.1 hq
                      refine ⟨bk2, ⟨by rw [List.length_append, HG.out.2.1.1]; rfl, ?_⟩, (hp1.less (Nat.le_succ _) (Nat.le_refl _) (Nat.le_refl _)).blk q1, q2, HG.out.2.2.2.2.trans (st2.fr.below HG.out.2.2.2.2.size fun q hq => ?_)⟩
                      · rw [List.length_append, hl2, Nat.add_mul]
                        have := HG.out.2.1.2
                        have := HX.out.2.1
                        omega
                      · rcases hq with e | e | e
                        · exact (HG.out.1.bm.lt e).1
                        · exact HG.out.1.low q e
                        · exact HX.out.2.2 q e
                    clear bk2 hl2 st2 HSP u1
                    go_wp2_with fail
                    go_roundw
                    case rel => exact ⟨j + 1, C2, V2, _, _, by omega, by go_num, HK.out⟩
                    case measure => simp [intOf]; omega
                  · obtain rfl : j = nS := by omega
                    obtain ⟨E3, hE3⟩ : ∃ x, x = wr := ⟨_, rfl⟩
                    obtain ⟨CF, hCF⟩ : ∃ x, x = C := ⟨_, rfl⟩
                    obtain ⟨VF, hVF⟩ : ∃ x, x = V := ⟨_, rfl⟩
                    obtain ⟨lF, hlF⟩ : ∃ x, x = l := ⟨_, rfl⟩
                    obtain ⟨fF, hfF⟩ : ∃ x, x = f := ⟨_, rfl⟩
                    have HM1 : Hid (Bk w0.heap.size E3 CF gb VF lF fF [] [] [] [] ∧ (fF.length = j ∧ lF.length ≤ j * 5000) ∧ Pd E3 w0.heap.size Sx Bx Nx (.slice a10 j c10) (.slice a12 nB c12) (.slice a14 nN c14) j 0 0 ∧ Out E3 CF gb VF (Pq Sx Bx Nx (.slice a10 j c10) (.slice a12 nB c12) (.slice a14 nN c14) j 0 0) ∧ Below w0.heap.size w0 E3) := by
                      rw [hE3, hCF, hVF, hlF, hfF]
                      exact HG.out
                    rw [← hE3]
                    clear hE3 hCF hVF hlF hfF HG HM0
                    go_wp2_with fail
                    go_loopw [32] (fun i wr => ∃ (m : Nat) (C : Nat → Option Cl) (V : List Value) (l n : List Cb.En), m ≤ nB ∧ i = .int .i64 (m : Int) ∧ Bk w0.heap.size wr C gb V l fF n [] [] [] ∧ (n.length = m ∧ l.length ≤ 800000 + m) ∧ Pd wr w0.heap.size Sx Bx Nx (.slice a10 j c10) (.slice a12 nB c12) (.slice a14 nN c14) j m m ∧ Out wr C gb V (Pq Sx Bx Nx (.slice a10 j c10) (.slice a12 nB c12) (.slice a14 nN c14) j m m) ∧ Below w0.heap.size w0 wr) (fun i _ => nB - (intOf i).toNat)
                    case atStart => exact ⟨0, CF, VF, lF, [], Nat.zero_le _, rfl, HM1.out.1, ⟨rfl, by have := HM1.out.2.1.2; have : j * 5000 ≤ 160 * 5000 := Nat.mul_le_mul_right _ (by omega); omega⟩, HM1.out.2.2⟩
                    case round =>
                      obtain ⟨m, C, V, l, n9, hm, rfl, hbk, hlf, hpd, hou, hbl⟩ := hrel
                      have HG : Hid (Bk w0.heap.size wr C gb V l fF n9 [] [] [] ∧ (n9.length = m ∧ l.length ≤ 800000 + m) ∧ Pd wr w0.heap.size Sx Bx Nx (.slice a10 j c10) (.slice a12 nB c12) (.slice a14 nN c14) j m m ∧ Out wr C gb V (Pq Sx Bx Nx (.slice a10 j c10) (.slice a12 nB c12) (.slice a14 nN c14) j m m) ∧ Below w0.heap.size w0 wr) := ⟨hbk, hlf, hpd, hou, hbl⟩
                      clear hbk hlf hpd hou hbl
                      by_cases hml : m < nB
                      · have hmn9 : m < nN := by have := HNQ.out.2.2; omega
                        have hmb : m < Bx.length := by rw [← HNN.out.2.1]; exact hml
                        have hmn : m < Nx.length := by rw [← HNN.out.2.2]; have := HNQ.out.2.2; omega
                        obtain ⟨x, hx⟩ : ∃ x, Bx[m]? = some x := ⟨Bx[m], List.getElem?_eq_getElem hmb⟩
                        obtain ⟨y, hy⟩ : ∃ y, Nx[m]? = some y := ⟨Nx[m], List.getElem?_eq_getElem hmn⟩
                        have HCL : Hid (∀ (W : World) (p1 p2 p3 : Nat), Pd W w0.heap.size Sx Bx Nx (.slice a10 j c10) (.slice a12 nB c12) (.slice a14 nN c14) p1 p2 p3 → (∃ b1, a12 = some ⟨b1, 0, none⟩ ∧ W.cell? ⟨b1, m, none⟩ = some x.v) ∧ ∃ b2, a14 = some ⟨b2, 0, none⟩ ∧ W.cell? ⟨b2, m, none⟩ = some y.v) := fun W p1 p2 p3 hP => by
                          exact ⟨row_get BE.v hP.rb hx, row_get NE.v hP.rn hy⟩
                        have HXY : Hid (Bx[m]? = some x ∧ Nx[m]? = some y ∧ x.l.length ≤ 5000000 ∧ y.l.length ≤ 5000000) := ⟨hx, hy, HBD.out.2.1 x (List.mem_of_getElem? hx), HBD.out.2.2 y (List.mem_of_getElem? hy)⟩
                        have hob := HG.out.2.2.1.b m x (Nat.le_refl _) hx
                        have HKP : Hid (Calls Try.prog 24 #[.pointer (some ⟨gb, 0, none⟩), x.v] wr fun e w' => e = .returned (.tuple #[]) ∧ ∃ C' V' mk, Bk w0.heap.size w' C' gb V' (l ++ [(x.v, x.l.length, mk)]) fF n9 [] [] [] ∧ St wr w' C C' gb V V' fun q => x.v.ownBlock = some q) := dlkeep_any w0.heap.size gb C V l fF n9 [] [] [] x.v _ _ wr HG.out.1 (row_low hob.row (Nat.zero_le _)) HXY.out.2.2.1 (by have := HG.out.2.1.2; omega) (fun q e => HG.out.2.2.2.1 q (.inr (.inl ⟨m, x, Nat.le_refl _, hx, e⟩))) (fun q e => (World.ownsRow.lt hob.row q e).1) HG.out.2.2.2.2.size
                        obtain ⟨⟨b1, hb1, u1⟩, b2, hb2, -⟩ := HCL.out wr _ _ _ HG.out.2.2.1
                        subst hb1 hb2
                        obtain ⟨xv, hxv⟩ : ∃ v, v = x.v := ⟨_, rfl⟩
                        have HXV : Hid (xv = x.v) := hxv
                        rw [← hxv] at u1 HKP
                        clear hxv hob hx hy
                        go_wp2_with fail
                        refine HKP.out.mono ?_
                        rintro e Wk ⟨rfl, C2, V2, mk, bk2, st2⟩
                        rw [HXV.out] at bk2 st2
                        have HK : Hid (Bk w0.heap.size Wk C2 gb V2 (l ++ [(x.v, x.l.length, mk)]) fF n9 [] [] [] ∧ Pd Wk w0.heap.size Sx Bx Nx (.slice a10 j c10) (.slice (some ⟨b1, 0, none⟩) nB c12) (.slice (some ⟨b2, 0, none⟩) nN c14) j (m + 1) m ∧ Out Wk C2 gb V2 (Pq Sx Bx Nx (.slice a10 j c10) (.slice (some ⟨b1, 0, none⟩) nB c12) (.slice (some ⟨b2, 0, none⟩) nN c14) j (m + 1) m) ∧ Below w0.heap.size w0 Wk) := by
                          have hp1 := HG.out.2.2.1
                          obtain ⟨q1, q2⟩ := st2.same (fun q hq => HG.out.2.2.2.1 q (Pq.less (Nat.le_refl _) (Nat.le_succ _) (Nat.le_refl _) hq) : Out wr C gb V (Pq Sx Bx Nx (.slice a10 j c10) (.slice (some ⟨b1, 0, none⟩) nB c12) (.slice (some ⟨b2, 0, none⟩) nN c14) j (m + 1) m)) fun q hq => hp1.dB HEN.out HXY.out.1 hq
                          refine ⟨bk2, (hp1.less (Nat.le_refl _) (Nat.le_succ _) (Nat.le_refl _)).blk q1, q2, HG.out.2.2.2.2.trans (st2.fr.below HG.out.2.2.2.2.size fun q hq => ?_)⟩
                          rcases hq with e | e | e
                          · exact (HG.out.1.bm.lt e).1
                          · exact HG.out.1.low q e
                          · exact (World.ownsRow.lt (hp1.b m x (Nat.le_refl _) HXY.out.1).row q e).1
                        obtain ⟨-, b3, hb3, u2⟩ := HCL.out Wk _ _ _ HK.out.2.1
                        simp only [Option.some.injEq, Addr.mk.injEq, and_true] at hb3
                        subst hb3
                        have hon := HK.out.2.1.n m y (Nat.le_refl _) HXY.out.2.1
                        have HWI : Hid (Calls Try.prog 25 #[.pointer (some ⟨gb, 0, none⟩), y.v] Wk fun e w' => e = .returned (.tuple #[]) ∧ ∃ C' V' mk2, Bk w0.heap.size w' C' gb V' (l ++ [(x.v, x.l.length, mk)]) fF (n9 ++ [(y.v, y.l.length, mk2)]) [] [] [] ∧ St Wk w' C2 C' gb V2 V' fun q => y.v.ownBlock = some q) := dlwipes_any w0.heap.size gb C2 V2 _ fF n9 [] [] [] y.v _ _ Wk HK.out.1 (row_low hon (Nat.zero_le _)) HXY.out.2.2.2 (by rw [HG.out.2.1.1]; omega) (fun q e => HK.out.2.2.1 q (.inr (.inr (.inl ⟨m, y, Nat.le_refl _, HXY.out.2.1, e⟩)))) (fun q e => (World.ownsRow.lt hon q e).1) HK.out.2.2.2.size
                        obtain ⟨yv, hyv⟩ : ∃ v, v = y.v := ⟨_, rfl⟩
                        have HYV : Hid (yv = y.v) := hyv
                        rw [← hyv] at u2 HWI
                        clear hyv hon bk2 st2 HKP u1
                        go_wp2_with fail
                        refine HWI.out.mono ?_
                        rintro e Wm ⟨rfl, C3, V3, mk2, bk3, st3⟩
                        rw [HYV.out] at bk3 st3
                        have HK2 : Hid (Bk w0.heap.size Wm C3 gb V3 (l ++ [(x.v, x.l.length, mk)]) fF (n9 ++ [(y.v, y.l.length, mk2)]) [] [] [] ∧ ((n9 ++ [(y.v, y.l.length, mk2)]).length = m + 1 ∧ (l ++ [(x.v, x.l.length, mk)]).length ≤ 800000 + (m + 1)) ∧ Pd Wm w0.heap.size Sx Bx Nx (.slice a10 j c10) (.slice (some ⟨b1, 0, none⟩) nB c12) (.slice (some ⟨b2, 0, none⟩) nN c14) j (m + 1) (m + 1) ∧ Out Wm C3 gb V3 (Pq Sx Bx Nx (.slice a10 j c10) (.slice (some ⟨b1, 0, none⟩) nB c12) (.slice (some ⟨b2, 0, none⟩) nN c14) j (m + 1) (m + 1)) ∧ Below w0.heap.size w0 Wm) := by
                          have hp1 := HK.out.2.1
                          obtain ⟨q1, q2⟩ := st3.same (fun q hq => HK.out.2.2.1 q (Pq.less (Nat.le_refl _) (Nat.le_refl _) (Nat.le_succ _) hq) : Out Wk C2 gb V2 (Pq Sx Bx Nx (.slice a10 j c10) (.slice (some ⟨b1, 0, none⟩) nB c12) (.slice (some ⟨b2, 0, none⟩) nN c14) j (m + 1) (m + 1))) fun q hq => hp1.dN HEN.out HXY.out.2.1 hq
                          refine ⟨bk3, ⟨by rw [List.length_append, HG.out.2.1.1]; rfl, by rw [List.length_append]; have := HG.out.2.1.2; simp only [List.length_singleton]; omega⟩, (hp1.less (Nat.le_refl _) (Nat.le_refl _) (Nat.le_succ _)).blk q1, q2, HK.out.2.2.2.trans (st3.fr.below HK.out.2.2.2.size fun q hq => ?_)⟩
                          rcases hq with e | e | e
                          · exact (HK.out.1.bm.lt e).1
                          · exact HK.out.1.low q e
                          · exact (World.ownsRow.lt (hp1.n m y (Nat.le_refl _) HXY.out.2.1) q e).1
                        clear bk3 st3 HWI u2
                        go_wp2_with fail
                        go_roundw
                        case rel => exact ⟨m + 1, C3, V3, _, _, by omega, by go_num, HK2.out⟩
                        case measure => simp [intOf]; omega
                      · have hln := HG.out.2.1
                        have hlf := HM1.out.2.1.1
                        have HGR : Hid (Calls Try.prog 26 #[.pointer (some ⟨gb, 0, none⟩)] wr fun e w' => e = .returned (.tuple #[]) ∧ ∃ C' V' lh' fh' nh', Bk w0.heap.size w' C' gb V' l fF n9 lh' fh' nh' ∧ lh'.length = l.length ∧ fh'.length = fF.length ∧ nh'.length = n9.length ∧ St wr w' C C' gb V V' (fun _ => False)) := dlgrow_any w0.heap.size gb C V l fF n9 [] [] [] wr HG.out.1 (by omega) (by omega) (by omega) HG.out.2.2.2.2.size
                        have HLS : Hid (l.length ≤ 1000000 ∧ fF.length ≤ 1000000 ∧ n9.length ≤ 1000000) := ⟨by omega, by omega, by omega⟩
                        clear hln hlf
                        go_wp2_with fail
                        refine HGR.out.mono ?_
                        rintro e Wg ⟨rfl, C2, V2, lh2, fh2, nh2, bk2, e1, e2, e3, st2⟩
                        have HZ : Hid (Below w0.heap.size w0 Wg) := HG.out.2.2.2.2.trans (st2.fr.below HG.out.2.2.2.2.size fun q hq => by
                          rcases hq with e | e | e
                          · exact (HG.out.1.bm.lt e).1
                          · exact HG.out.1.low q e
                          · exact e.elim)
                        have HST : Hid (Calls Try.prog 27 #[.pointer (some ⟨gb, 0, none⟩)] Wg fun e w' => e = .returned (.bool true) ∧ Below Wg.heap.size Wg w') := dlstands_any w0.heap.size gb C2 V2 l fF n9 lh2 fh2 nh2 Wg bk2 HLS.out.1 HLS.out.2.1 HLS.out.2.2 e1 e2 e3
                        clear bk2 e1 e2 e3 st2 HGR
                        go_wp2_with fail
                        refine HST.out.mono ?_
                        rintro e Wz ⟨rfl, bz⟩
                        have HZ2 : Hid (Below w0.heap.size w0 Wz) := andThen HZ.out bz
                        clear bz HST
                        go_wp2_with fail
                        go_returns
                        exact ⟨rfl, HZ2.out⟩
end Go.Proofs.Ytjepeeopjjnglaa
