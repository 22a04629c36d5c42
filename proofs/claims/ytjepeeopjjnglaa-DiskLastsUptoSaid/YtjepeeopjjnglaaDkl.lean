/-
  DiskStays: the walk.
-/
import Derived.Test.YtjepeeopjjnglaaDkk
namespace Go.Proofs.Ytjepeeopjjnglaa
open Go Go.RowKit Go.ChangeShapes
open Wb

namespace Dk
section
variable {S : DS}
theorem cnt_un (h : S.armed = false) : cnt S = (0, S) := by simp [cnt, h]
/-- an operation that is refused changes nothing -/
theorem do_ref (h : S.armed = false) (o : Rop) (f : Nat) (he : doE S o ≠ 0) : doS S o f = S := by
  unfold doE at he
  unfold doS
  split
  · rename_i hk
    rw [if_pos hk] at he
    unfold crt
    rw [if_neg]
    rintro ⟨h1, h2⟩
    apply he
    unfold crtE
    rw [if_pos h1, h2, cnt_un h]
    rfl
  rename_i hk1
  rw [if_neg hk1] at he
  split
  · rename_i hk
    rw [if_pos hk] at he
    unfold app
    rw [if_neg]
    rintro ⟨h1, h2⟩
    apply he
    unfold appE
    rw [if_pos h1, if_neg h2, cnt_un h]
  rename_i hk2
  rw [if_neg hk2] at he
  split
  · rename_i hk
    rw [if_pos hk] at he
    unfold syn
    rw [if_neg]
    intro h1
    apply he
    unfold synE
    rw [if_pos h1, cnt_un h]
  rename_i hk3
  rw [if_neg hk3] at he
  split
  · rename_i hk
    rw [if_pos hk] at he
    unfold tru
    rw [if_neg]
    rintro ⟨h1, h2⟩
    apply he
    unfold truE
    rw [if_pos h1, if_neg (by rw [h2]; simp), cnt_un h]
  rename_i hk4
  rw [if_neg hk4] at he
  split
  · rename_i hk
    rw [if_pos hk] at he
    unfold ren
    rw [if_neg]
    rintro ⟨h1, h2⟩
    apply he
    unfold renE synE
    rw [if_pos h1, if_pos h2, cnt_un h]
  rename_i hk5
  rw [if_neg hk5] at he
  split
  · rename_i hk
    rw [if_pos hk] at he
    unfold rem
    rw [if_neg]
    intro h1
    apply he
    unfold synE
    rw [if_pos h1, cnt_un h]
  rename_i hk6
  rw [if_neg hk6] at he
  unfold sd
  rw [if_neg]
  intro h1
  apply he
  unfold sdE
  rw [if_pos h1, cnt_un h]
/-- a disk that is not armed stays so -/
theorem do_arm (h : S.armed = false) (o : Rop) (f : Nat) : (doS S o f).armed = false := by
  unfold doS crt app syn tru ren rem sd mk
  rw [cnt_un h]
  repeat' split
  all_goals exact h
end
end Dk
/-- an operation's names and bytes -/
def OpOk (w : World) (o : Rop) : Prop := (o.a.size ≤ maxLen ∧ o.b.size ≤ maxLen) ∧ Bs w (.slice o.da o.data.length o.dc) o.data ∧ CtS w (.slice o.ca o.cs.length o.cc) o.cs ∧ o.n ≤ 9223372036854775807
/-- operations to be read -/
def OpS (w : World) (v : Value) (n : Nat) : Prop := ∃ a c, v = .slice a n c ∧ n ≤ c ∧ c ≤ maxLen ∧ ∀ k, k < n → ∃ b off o, a = some ⟨b, off, none⟩ ∧ (∀ i x, (opc o)[i]? = some x → w.cell? ⟨b, off + k * 8 + i, none⟩ = some x) ∧ OpOk w o
theorem OpOk.kept {w w' : World} {o : Rop} (h : OpOk w o) (hb : Below w.heap.size w w') : OpOk w' o := ⟨h.1, h.2.1.kept hb, h.2.2.1.kept hb, h.2.2.2⟩
theorem Bs.old {w : World} {a : Option Addr} {c : Nat} {l : List Nat} (h : Bs w (.slice a l.length c) l) (hne : l ≠ []) (q x : Nat) (e : a = some ⟨q, x, none⟩) : q < w.heap.size := by
  subst e
  exact h.lt (List.length_pos_iff.2 hne)
set_option maxRecDepth 100000 in
set_option maxHeartbeats 16000000 in
theorem diskStays_walk (q : Int) (vs : Value) (n : Nat) (keep : Int) (cv : Value) (cs : List (Int × Int)) (w : World) (hs : OpS w vs n) (hn : n ≤ 1048576) (hc : CtS w cv cs) :
    Calls Try.prog 5 #[.int .i64 q, vs, .int .i64 keep, cv] w fun e w' => e = .returned (.bool true) ∧ Below w.heap.size w w' := by
  obtain ⟨sa, sc, hve, hs1, hs2, hs3⟩ := hs
  subst hve
  have HS : Hid (∀ k, k < n → ∃ b off o, sa = some ⟨b, off, none⟩ ∧ (∀ i x, (opc o)[i]? = some x → w.cell? ⟨b, off + k * 8 + i, none⟩ = some x) ∧ OpOk w o) := hs3
  have HCV : Hid (CtS w cv cs) := hc
  obtain ⟨pq, hpq⟩ : ∃ p, p = Dk.proper q := ⟨_, rfl⟩
  have HPQ : Hid (16 ≤ pq ∧ pq ≤ 4194304) := by
    rw [hpq]
    unfold Dk.proper
    show 16 ≤ _ ∧ _ ≤ _
    split <;> omega
  have HPC : Hid (Calls Try.prog 9 #[.int .i64 q] w fun e w' => e = .returned (.int .i64 pq) ∧ w' = w) := by
    rw [hpq]
    exact dlproper_any q w
  have HRD : Hid (Calls Try.prog 10 #[.int .i64 pq] w fun e w' => ∃ g f M, e = .returned (.pointer (some ⟨g, 0, none⟩)) ∧ DM w.heap.size w' g (Dk.rdy pq f) M ∧ Below w.heap.size w w') := dlready_any pq w HPQ.out
  unfold maxLen at hs2
  clear hs3 hc hpq
  go_enter Try.func5, Try.ntmps5
  go_wp2_with fail
  refine HPC.out.mono ?_
  rintro e w' ⟨rfl, rfl⟩
  go_wp2_with fail
  refine HRD.out.mono ?_
  rintro e W1 ⟨g, f, M1, rfl, d1, b1⟩
  have HC1 : Hid (Calls Try.prog 30 #[.pointer (some ⟨g, 0, none⟩), .string ⟨#[122]⟩] W1 fun e W => ∃ M, e = .returned (.int .i64 62) ∧ DM w'.heap.size W g (Dk.rdy pq f) M ∧ Below w'.heap.size w' W) := (dkcreate_any _ g _ _ ⟨#[122]⟩ W1 d1 b1.size (by decide) (fun e => by cases e) (show 1 ≤ 1000000000 by omega) (Nat.zero_le _)).mono fun e W ⟨k, _, h2, h3⟩ => by
    obtain ⟨M', h4, h5, -⟩ := h3.out d1 b1.size
    exact ⟨M', h2, h4, b1.trans h5⟩
  clear d1 b1 HPC HRD
  go_wp2_with fail
  refine HC1.out.mono ?_
  rintro e W2 ⟨M2, rfl, d2, b2⟩
  have HC2 : Hid (Calls Try.prog 31 #[.pointer (some ⟨g, 0, none⟩), .string ⟨#[121]⟩] W2 fun e W => ∃ M, e = .returned (.int .i64 63) ∧ DM w'.heap.size W g (Dk.rdy pq f) M ∧ Below w'.heap.size w' W) := (dkremove_any _ g _ _ ⟨#[121]⟩ W2 d2 b2.size (by decide) (fun e => by cases e) (Dk.wf4 pq f HPQ.out).ids (by decide) (show 1 ≤ 1000000000 by omega) (Nat.zero_le _)).mono fun e W ⟨h2, h3⟩ => by
    obtain ⟨M', h4, h5, -⟩ := h3.out d2 b2.size
    exact ⟨M', h2, h4, b2.trans h5⟩
  clear d2 b2 HC1
  go_wp2_with fail
  refine (dlnum_any _ _).mono ?_
  rintro e W ⟨rfl, rfl⟩
  go_wp2_with fail
  refine HC2.out.mono ?_
  rintro e W3 ⟨M3, rfl, d3, b3⟩
  have H3 : Hid (DM w'.heap.size W3 g (Dk.rdy pq f) M3 ∧ Below w'.heap.size w' W3) := ⟨d3, b3⟩
  clear d3 b3 HC2
  go_wp2_with fail
  refine (dlnum_any _ _).mono ?_
  rintro e W ⟨rfl, rfl⟩
  go_wp2_with fail
  obtain ⟨w0, hw0⟩ : ∃ x, x = w' := ⟨_, rfl⟩
  subst hw0
  go_loopw [10] (fun i wr => ∃ (k : Nat) (M : Mm) (S : Dk.DS), k ≤ n ∧ i = .int .i64 (k : Int) ∧ DM w0.heap.size wr g S M ∧ Dk.WF S (k + 2) ∧ S.armed = false ∧ Below w0.heap.size w0 wr) (fun i _ => n - (intOf i).toNat)
  case atStart => exact ⟨0, M3, _, Nat.zero_le _, rfl, H3.out.1, (Dk.wf4 pq f HPQ.out).mono (by omega), rfl, H3.out.2⟩
  case round =>
    obtain ⟨k, M, S, hk, rfl, hdm, hwf, har, hb⟩ := hrel
    have HD : Hid (DM w0.heap.size wr g S M ∧ Below w0.heap.size w0 wr) := ⟨hdm, hb⟩
    have HW : Hid (Dk.WF S (k + 2) ∧ S.armed = false ∧ True ∧ k + 2 ≤ 400000000) := ⟨hwf, har, trivial, by omega⟩
    clear hdm hwf har hb H3
    by_cases hlt : k < n
    · obtain ⟨b, off, o, hsa, hcell, hok⟩ := HS.out k hlt
      subst hsa
      have key : ∀ i x, (opc o)[i]? = some x → wr.cell? ⟨b, off + k * 8 + i, none⟩ = some x := fun i x hx => (HD.out.2.cell (p := ⟨b, _, none⟩) (World.block_lt_of_cell? _ _ (hcell i x hx))).trans (hcell i x hx)
      have r0 := key 0 _ rfl
      have r1 := key 1 _ rfl
      have r2 := key 2 _ rfl
      have r3 := key 3 _ rfl
      have r4 := key 4 _ rfl
      have r5 := key 5 _ rfl
      have r6 := key 6 _ rfl
      have r7 := key 7 _ rfl
      simp only [Nat.add_zero] at r0
      have HOK : Hid (OpOk w0 o) := hok
      clear hcell hok key
      go_upto_region 9 with fail
      have bw := up0 wr (.cells (opc o).toArray 33)
      have lw := lb_new wr (opc o) 33
      unfold opc at bw
      obtain ⟨p, hp⟩ : ∃ p, p = wr.heap.size := ⟨_, rfl⟩
      obtain ⟨Wp, hWp⟩ : ∃ W, W = wr.alloc (.cells #[.int .i64 o.k, .bool o.two, .string o.a, .string o.b, .int .i64 o.n, .slice o.da o.data.length o.dc, .slice o.ca o.cs.length o.cc, .slice o.fa o.fn o.fc] 33) := ⟨_, rfl⟩
      have lp : LB Wp p 33 (opc o) := by rw [hWp, hp]; exact lw
      have bp : Below wr.heap.size wr Wp := by rw [hWp]; exact bw
      rw [← hWp, ← hp]
      have HLP : Hid (∀ W, Below Wp.heap.size Wp W → W.cell? ⟨p, 0, none⟩ = some (.int .i64 o.k) ∧ W.cell? ⟨p, 1, none⟩ = some (.bool o.two) ∧ W.cell? ⟨p, 2, none⟩ = some (.string o.a) ∧ W.cell? ⟨p, 3, none⟩ = some (.string o.b) ∧ W.cell? ⟨p, 4, none⟩ = some (.int .i64 o.n) ∧ W.cell? ⟨p, 5, none⟩ = some (.slice o.da o.data.length o.dc) ∧ W.cell? ⟨p, 6, none⟩ = some (.slice o.ca o.cs.length o.cc) ∧ W.cell? ⟨p, 7, none⟩ = some (.slice o.fa o.fn o.fc)) := fun W hW => by
        have l9 := lp.kept hW
        exact ⟨l9.cell 0 _ rfl, l9.cell 1 _ rfl, l9.cell 2 _ rfl, l9.cell 3 _ rfl, l9.cell 4 _ rfl, l9.cell 5 _ rfl, l9.cell 6 _ rfl, l9.cell 7 _ rfl⟩
      have HP : Hid (DM w0.heap.size Wp g S M ∧ Below w0.heap.size w0 Wp) := ⟨HD.out.1.kept bp, andThen HD.out.2 bp⟩
      have HDF : Hid (Calls Try.prog 13 #[.pointer (some ⟨g, 0, none⟩)] Wp fun e w' => ∃ v, e = .returned v ∧ Fls (Wp.heap.size ≤ ·) w' v (Dk.files S) ∧ Below Wp.heap.size Wp w') := dkfiles_wf _ g S M _ Wp HP.out.1 HW.out.1 HW.out.2.2.2
      clear r0 r1 r2 r3 r4 r5 r6 r7 lw bw lp bp hWp hp
      go_wp2_with fail
      refine HDF.out.mono ?_
      rintro e Wf ⟨v12, rfl, f12, bf⟩
      have HF12 : Hid (Fls (Wp.heap.size ≤ ·) Wf v12 (Dk.files S) ∧ Below Wp.heap.size Wp Wf) := ⟨f12, bf⟩
      have HDG : Hid (Calls Try.prog 14 #[.pointer (some ⟨g, 0, none⟩), .int .i64 keep, cv] Wf fun e w' => ∃ v, e = .returned v ∧ Fls (Wf.heap.size ≤ ·) w' v (Dk.crash S keep cs) ∧ Below Wf.heap.size Wf w') := dkcrash_wf _ g S M _ keep cv cs Wf (HP.out.1.kept bf) (HCV.out.kept (andThen HP.out.2 bf)) HW.out.1 HW.out.2.2.2
      clear f12 bf HDF
      go_wp2_with fail
      refine HDG.out.mono ?_
      rintro e Wg ⟨v13, rfl, f13, bg⟩
      have HG : Hid (Fls (Wp.heap.size ≤ ·) Wg v12 (Dk.files S) ∧ Fls (Wp.heap.size ≤ ·) Wg v13 (Dk.crash S keep cs) ∧ Below Wp.heap.size Wp Wg) := ⟨HF12.out.1.kept bg, f13.mono fun x hx => Nat.le_trans HF12.out.2.size hx, andThen HF12.out.2 bg⟩
      obtain ⟨fr, hfr⟩ : ∃ x, x = Dk.free S := ⟨_, rfl⟩
      have HFE : Hid (fr = Dk.free S) := hfr
      have HFR : Hid (Calls Try.prog 28 #[.pointer (some ⟨g, 0, none⟩)] Wg fun e w' => e = .returned (.int .i64 fr) ∧ Below Wg.heap.size Wg w') := by
        rw [HFE.out]
        exact dkfree_any _ g S M Wg (HP.out.1.kept HG.out.2.2) ⟨HW.out.1.t0, HW.out.1.tk, HW.out.1.q⟩
      clear f13 bg HDG HF12 hfr
      go_wp2_with fail
      refine HFR.out.mono ?_
      rintro e Wh ⟨rfl, bh⟩
      have HH : Hid (Fls (Wp.heap.size ≤ ·) Wh v12 (Dk.files S) ∧ Fls (Wp.heap.size ≤ ·) Wh v13 (Dk.crash S keep cs) ∧ Below Wp.heap.size Wp Wh) := ⟨HG.out.1.kept bh, HG.out.2.1.kept bh, andThen HG.out.2.2 bh⟩
      clear bh HG HFR
      obtain ⟨r0, r1, r2, r3, r4, r5, r6, r7⟩ := HLP.out Wh HH.out.2.2
      have HCH : Hid (Calls Try.prog 11 #[.agg #[.int .i64 o.k, .bool o.two, .string o.a, .string o.b, .int .i64 o.n, .slice o.da o.data.length o.dc, .slice o.ca o.cs.length o.cc, .slice o.fa o.fn o.fc]] Wh fun e w' => e = .returned (.bool (Dk.chg o)) ∧ Below Wh.heap.size Wh w') := dlchanging_any o Wh
      cases hch : Dk.chg o with
      | true =>
        rw [hch] at HCH
        clear hch
        go_wp2_with fail
        refine HCH.out.mono ?_
        rintro e Wi ⟨rfl, bi⟩
        have HI : Hid (Fls (Wp.heap.size ≤ ·) Wi v12 (Dk.files S) ∧ Fls (Wp.heap.size ≤ ·) Wi v13 (Dk.crash S keep cs) ∧ Below Wp.heap.size Wp Wi) := ⟨HH.out.1.kept bi, HH.out.2.1.kept bi, andThen HH.out.2.2 bi⟩
        clear bi HCH HH r0 r1 r2 r3 r4 r5 r6 r7
        obtain ⟨r0, r1, r2, r3, r4, r5, r6, r7⟩ := HLP.out Wi HI.out.2.2
        obtain ⟨E, hE⟩ : ∃ E, E = Dk.doE S o := ⟨_, rfl⟩
        have HE : Hid (E = Dk.doE S o) := hE
        have HDO : Hid (Calls Try.prog 12 #[.pointer (some ⟨g, 0, none⟩), .agg #[.int .i64 o.k, .bool o.two, .string o.a, .string o.b, .int .i64 o.n, .slice o.da o.data.length o.dc, .slice o.ca o.cs.length o.cc, .slice o.fa o.fn o.fc]] Wi fun e w' => ∃ f, Wi.heap.size ≤ f ∧ e = .returned (.int .i64 E) ∧ DPost w0.heap.size g S M Wi (Dk.doS S o f) w') := by
          rw [HE.out]
          exact dldo_any _ g S M (k + 2) o Wi (HP.out.1.kept HI.out.2.2) (Nat.le_trans HP.out.2.size HI.out.2.2.size) HW.out.1 (by omega) HOK.out.1.1 HOK.out.1.2 (HOK.out.2.1.kept (andThen HP.out.2 HI.out.2.2)) (fun hne q x e => Bs.old HOK.out.2.1 hne q x e)
        clear hE
        go_wp2_with fail
        refine HDO.out.mono ?_
        rintro e Wj ⟨f9, hf9, rfl, hp9⟩
        by_cases hE0 : E = 0
        · have HJ : Hid (∃ M', DM w0.heap.size Wj g (Dk.doS S o f9) M' ∧ Dk.WF (Dk.doS S o f9) (k + 1 + 2) ∧ (Dk.doS S o f9).armed = false ∧ Below w0.heap.size w0 Wj) := by
            have d9 := HP.out.1.kept HI.out.2.2
            obtain ⟨M', h1, h2, -⟩ := hp9.out d9 (Nat.le_trans HP.out.2.size HI.out.2.2.size)
            exact ⟨M', h1, HW.out.1.do o f9 fun e => by
              have h8 := (d9.ft (q := f9) (.inr (.inr (.inr (.inr ⟨f9, e, .inl rfl⟩))))).2
              omega, Dk.do_arm HW.out.2.1 o f9, (andThen HP.out.2 HI.out.2.2).trans h2⟩
          subst hE0
          clear hp9 HDO r0 r1 r2 r3 r4 r5 r6 r7
          go_wp2_with fail
          go_roundw
          case rel =>
            obtain ⟨M', h1, h2, h3, h4⟩ := HJ.out
            exact ⟨k + 1, M', _, by omega, by go_num, h1, h2, h3, h4⟩
          case measure => simp [intOf]; omega
        · have hS9 : Dk.doS S o f9 = S := Dk.do_ref HW.out.2.1 o f9 (by rw [← HE.out]; exact hE0)
          rw [hS9] at hp9
          obtain ⟨Mx, dx, fx, -⟩ := hp9
          have HX : Hid (DM w0.heap.size Wj g S Mx ∧ Below w0.heap.size w0 Wj ∧ Fls (Wp.heap.size ≤ ·) Wj v12 (Dk.files S) ∧ Fls (Wp.heap.size ≤ ·) Wj v13 (Dk.crash S keep cs)) := by
            have d9 := HP.out.1.kept HI.out.2.2
            have hbl : ∀ q, Wp.heap.size ≤ q → q < Wi.heap.size → Wj.heap[q]? = Wi.heap[q]? := fun q h1 h2 => fx.block q h2 fun e => by
              have h8 := (HP.out.1.ft e).2
              omega
            exact ⟨dx, (andThen HP.out.2 HI.out.2.2).trans (fx.below _ (Nat.le_trans HP.out.2.size HI.out.2.2.size) fun q hq => (d9.ft hq).1), HI.out.1.blk hbl, HI.out.2.1.blk hbl⟩
          have e0 : (E != 0) = true := by simpa using hE0
          clear dx fx HDO hE0 hS9 HE r0 r1 r2 r3 r4 r5 r6 r7 hf9
          have HDT : Hid (Calls Try.prog 13 #[.pointer (some ⟨g, 0, none⟩)] Wj fun e w' => ∃ v, e = .returned v ∧ Fls (Wj.heap.size ≤ ·) w' v (Dk.files S) ∧ Below Wj.heap.size Wj w') := dkfiles_wf _ g S Mx _ Wj HX.out.1 HW.out.1 HW.out.2.2.2
          go_wp2_with fail
          refine HDT.out.mono ?_
          rintro e Wa ⟨va, rfl, fa, ba⟩
          have HAL : Hid (Calls Try.prog 17 #[va, v12] Wa fun e w' => e = .returned (.bool true) ∧ Below Wa.heap.size Wa w') := dlfalike_yes _ _ _ _ _ _ fa (HX.out.2.2.1.kept ba)
          have HBa : Hid (Below Wj.heap.size Wj Wa) := ba
          clear fa ba HDT
          go_wp2_with fail
          refine HAL.out.mono ?_
          rintro e Wb ⟨rfl, bb⟩
          have HBb : Hid (Below Wj.heap.size Wj Wb) := andThen HBa.out bb
          have HDC : Hid (Calls Try.prog 14 #[.pointer (some ⟨g, 0, none⟩), .int .i64 keep, cv] Wb fun e w' => ∃ v, e = .returned v ∧ Fls (Wb.heap.size ≤ ·) w' v (Dk.crash S keep cs) ∧ Below Wb.heap.size Wb w') := dkcrash_wf _ g S Mx _ keep cv cs Wb (HX.out.1.kept HBb.out) (HCV.out.kept (andThen HX.out.2.1 HBb.out)) HW.out.1 HW.out.2.2.2
          clear bb HAL HBa
          go_wp2_with fail
          refine HDC.out.mono ?_
          rintro e Wc ⟨vc, rfl, fc, bc⟩
          have HBc : Hid (Below Wj.heap.size Wj Wc) := andThen HBb.out bc
          have HAM : Hid (Calls Try.prog 17 #[vc, v13] Wc fun e w' => e = .returned (.bool true) ∧ Below Wc.heap.size Wc w') := dlfalike_yes _ _ _ _ _ _ fc (HX.out.2.2.2.kept HBc.out)
          clear fc bc HDC HBb
          go_wp2_with fail
          refine HAM.out.mono ?_
          rintro e Wd ⟨rfl, bd⟩
          have HBd : Hid (Below Wj.heap.size Wj Wd) := andThen HBc.out bd
          have HFR2 : Hid (Calls Try.prog 28 #[.pointer (some ⟨g, 0, none⟩)] Wd fun e w' => e = .returned (.int .i64 fr) ∧ Below Wd.heap.size Wd w') := by
            rw [HFE.out]
            exact dkfree_any _ g S Mx Wd (HX.out.1.kept HBd.out) ⟨HW.out.1.t0, HW.out.1.tk, HW.out.1.q⟩
          clear bd HAM HBc
          go_wp2_with fail
          refine HFR2.out.mono ?_
          rintro e We ⟨rfl, be⟩
          have HBe : Hid (Below Wj.heap.size Wj We) := andThen HBd.out be
          clear be HFR2 HBd
          go_wp2_with fail
          go_roundw
          case rel => exact ⟨k + 1, Mx, S, by omega, by go_num, HX.out.1.kept HBe.out, HW.out.1.mono (by omega), HW.out.2.1, andThen HX.out.2.1 HBe.out⟩
          case measure => simp [intOf]; omega
      | false =>
        rw [hch] at HCH
        clear hch
        by_cases hk8 : o.k = 8
        · rw [hk8] at r0
          go_wp2_with fail
          rw [hk8] at HCH
          refine HCH.out.mono ?_
          rintro e Wi ⟨rfl, bi⟩
          have HI : Hid (Fls (Wp.heap.size ≤ ·) Wi v12 (Dk.files S) ∧ Fls (Wp.heap.size ≤ ·) Wi v13 (Dk.crash S keep cs) ∧ Below Wp.heap.size Wp Wi) := ⟨HH.out.1.kept bi, HH.out.2.1.kept bi, andThen HH.out.2.2 bi⟩
          clear bi HCH HH r0 r1 r2 r3 r4 r5 r6 r7
          obtain ⟨r0, -, r2, -⟩ := HLP.out Wi HI.out.2.2
          rw [hk8] at r0
          have HRE : Hid (Calls Try.prog 15 #[.pointer (some ⟨g, 0, none⟩), .string o.a] Wi fun e w' => ∃ v, e = .returned (.tuple #[v, .int .i64 (Dk.findE S o.a.data.toList).1]) ∧ Below Wi.heap.size Wi w') := (dkread_any _ g S M o.a Wi (HP.out.1.kept HI.out.2.2) HOK.out.1.1 HW.out.1.ids (fun f hf => by have := (HW.out.1.fl f hf).2; omega)).mono fun e w' ⟨v, h1, _, h3⟩ => ⟨v, h1, h3⟩
          go_wp2_with fail
          refine HRE.out.mono ?_
          rintro e Wr ⟨vr, rfl, br⟩
          have HRR : Hid (Below Wi.heap.size Wi Wr) := br
          have HLI : Hid (Calls Try.prog 16 #[.pointer (some ⟨g, 0, none⟩)] Wr fun e w' => ∃ v, e = .returned v ∧ Below Wr.heap.size Wr w') := (dklist_any _ g S M Wr (HP.out.1.kept (andThen HI.out.2.2 br)) (by have := HW.out.1.n1; omega)).mono fun e w' ⟨v, h1, _, h3⟩ => ⟨v, h1, h3⟩
          clear br HRE
          go_wp2_with fail
          refine HLI.out.mono ?_
          rintro e Wj ⟨vl, rfl, bl⟩
          have bb9 := andThen HRR.out bl
          obtain ⟨Mx, hMx⟩ : ∃ x, x = M := ⟨_, rfl⟩
          have HX : Hid (DM w0.heap.size Wj g S Mx ∧ Below w0.heap.size w0 Wj ∧ Fls (Wp.heap.size ≤ ·) Wj v12 (Dk.files S) ∧ Fls (Wp.heap.size ≤ ·) Wj v13 (Dk.crash S keep cs)) := by
            rw [hMx]
            exact ⟨HP.out.1.kept (andThen HI.out.2.2 bb9), andThen HP.out.2 (andThen HI.out.2.2 bb9), HI.out.1.kept bb9, HI.out.2.1.kept bb9⟩
          clear bl bb9 HLI HRR r0 r2 hMx
          have HDT : Hid (Calls Try.prog 13 #[.pointer (some ⟨g, 0, none⟩)] Wj fun e w' => ∃ v, e = .returned v ∧ Fls (Wj.heap.size ≤ ·) w' v (Dk.files S) ∧ Below Wj.heap.size Wj w') := dkfiles_wf _ g S Mx _ Wj HX.out.1 HW.out.1 HW.out.2.2.2
          go_wp2_with fail
          refine HDT.out.mono ?_
          rintro e Wa ⟨va, rfl, fa, ba⟩
          have HAL : Hid (Calls Try.prog 17 #[va, v12] Wa fun e w' => e = .returned (.bool true) ∧ Below Wa.heap.size Wa w') := dlfalike_yes _ _ _ _ _ _ fa (HX.out.2.2.1.kept ba)
          have HBa : Hid (Below Wj.heap.size Wj Wa) := ba
          clear fa ba HDT
          go_wp2_with fail
          refine HAL.out.mono ?_
          rintro e Wb ⟨rfl, bb⟩
          have HBb : Hid (Below Wj.heap.size Wj Wb) := andThen HBa.out bb
          have HDC : Hid (Calls Try.prog 14 #[.pointer (some ⟨g, 0, none⟩), .int .i64 keep, cv] Wb fun e w' => ∃ v, e = .returned v ∧ Fls (Wb.heap.size ≤ ·) w' v (Dk.crash S keep cs) ∧ Below Wb.heap.size Wb w') := dkcrash_wf _ g S Mx _ keep cv cs Wb (HX.out.1.kept HBb.out) (HCV.out.kept (andThen HX.out.2.1 HBb.out)) HW.out.1 HW.out.2.2.2
          clear bb HAL HBa
          go_wp2_with fail
          refine HDC.out.mono ?_
          rintro e Wc ⟨vc, rfl, fc, bc⟩
          have HBc : Hid (Below Wj.heap.size Wj Wc) := andThen HBb.out bc
          have HAM : Hid (Calls Try.prog 17 #[vc, v13] Wc fun e w' => e = .returned (.bool true) ∧ Below Wc.heap.size Wc w') := dlfalike_yes _ _ _ _ _ _ fc (HX.out.2.2.2.kept HBc.out)
          clear fc bc HDC HBb
          go_wp2_with fail
          refine HAM.out.mono ?_
          rintro e Wd ⟨rfl, bd⟩
          have HBd : Hid (Below Wj.heap.size Wj Wd) := andThen HBc.out bd
          have HFR2 : Hid (Calls Try.prog 28 #[.pointer (some ⟨g, 0, none⟩)] Wd fun e w' => e = .returned (.int .i64 fr) ∧ Below Wd.heap.size Wd w') := by
            rw [HFE.out]
            exact dkfree_any _ g S Mx Wd (HX.out.1.kept HBd.out) ⟨HW.out.1.t0, HW.out.1.tk, HW.out.1.q⟩
          clear bd HAM HBc
          go_wp2_with fail
          refine HFR2.out.mono ?_
          rintro e We ⟨rfl, be⟩
          have HBe : Hid (Below Wj.heap.size Wj We) := andThen HBd.out be
          clear be HFR2 HBd
          go_wp2_with fail
          go_roundw
          case rel => exact ⟨k + 1, Mx, S, by omega, by go_num, HX.out.1.kept HBe.out, HW.out.1.mono (by omega), HW.out.2.1, andThen HX.out.2.1 HBe.out⟩
          case measure => simp [intOf]; omega
        · go_wp2_with fail
          refine HCH.out.mono ?_
          rintro e Wj ⟨rfl, bb9⟩
          obtain ⟨Mx, hMx⟩ : ∃ x, x = M := ⟨_, rfl⟩
          have HX : Hid (DM w0.heap.size Wj g S Mx ∧ Below w0.heap.size w0 Wj ∧ Fls (Wp.heap.size ≤ ·) Wj v12 (Dk.files S) ∧ Fls (Wp.heap.size ≤ ·) Wj v13 (Dk.crash S keep cs)) := by
            rw [hMx]
            exact ⟨HP.out.1.kept (andThen HH.out.2.2 bb9), andThen HP.out.2 (andThen HH.out.2.2 bb9), HH.out.1.kept bb9, HH.out.2.1.kept bb9⟩
          have e8 : (o.k == 8) = false := by simpa using hk8
          have r0j := (HLP.out Wj (andThen HH.out.2.2 bb9)).1
          clear bb9 HCH hMx r0 r1 r2 r3 r4 r5 r6 r7 hk8
          have HDT : Hid (Calls Try.prog 13 #[.pointer (some ⟨g, 0, none⟩)] Wj fun e w' => ∃ v, e = .returned v ∧ Fls (Wj.heap.size ≤ ·) w' v (Dk.files S) ∧ Below Wj.heap.size Wj w') := dkfiles_wf _ g S Mx _ Wj HX.out.1 HW.out.1 HW.out.2.2.2
          go_wp2_with fail
          refine HDT.out.mono ?_
          rintro e Wa ⟨va, rfl, fa, ba⟩
          have HAL : Hid (Calls Try.prog 17 #[va, v12] Wa fun e w' => e = .returned (.bool true) ∧ Below Wa.heap.size Wa w') := dlfalike_yes _ _ _ _ _ _ fa (HX.out.2.2.1.kept ba)
          have HBa : Hid (Below Wj.heap.size Wj Wa) := ba
          clear fa ba HDT
          go_wp2_with fail
          refine HAL.out.mono ?_
          rintro e Wb ⟨rfl, bb⟩
          have HBb : Hid (Below Wj.heap.size Wj Wb) := andThen HBa.out bb
          have HDC : Hid (Calls Try.prog 14 #[.pointer (some ⟨g, 0, none⟩), .int .i64 keep, cv] Wb fun e w' => ∃ v, e = .returned v ∧ Fls (Wb.heap.size ≤ ·) w' v (Dk.crash S keep cs) ∧ Below Wb.heap.size Wb w') := dkcrash_wf _ g S Mx _ keep cv cs Wb (HX.out.1.kept HBb.out) (HCV.out.kept (andThen HX.out.2.1 HBb.out)) HW.out.1 HW.out.2.2.2
          clear bb HAL HBa
          go_wp2_with fail
          refine HDC.out.mono ?_
          rintro e Wc ⟨vc, rfl, fc, bc⟩
          have HBc : Hid (Below Wj.heap.size Wj Wc) := andThen HBb.out bc
          have HAM : Hid (Calls Try.prog 17 #[vc, v13] Wc fun e w' => e = .returned (.bool true) ∧ Below Wc.heap.size Wc w') := dlfalike_yes _ _ _ _ _ _ fc (HX.out.2.2.2.kept HBc.out)
          clear fc bc HDC HBb
          go_wp2_with fail
          refine HAM.out.mono ?_
          rintro e Wd ⟨rfl, bd⟩
          have HBd : Hid (Below Wj.heap.size Wj Wd) := andThen HBc.out bd
          have HFR2 : Hid (Calls Try.prog 28 #[.pointer (some ⟨g, 0, none⟩)] Wd fun e w' => e = .returned (.int .i64 fr) ∧ Below Wd.heap.size Wd w') := by
            rw [HFE.out]
            exact dkfree_any _ g S Mx Wd (HX.out.1.kept HBd.out) ⟨HW.out.1.t0, HW.out.1.tk, HW.out.1.q⟩
          clear bd HAM HBc
          go_wp2_with fail
          refine HFR2.out.mono ?_
          rintro e We ⟨rfl, be⟩
          have HBe : Hid (Below Wj.heap.size Wj We) := andThen HBd.out be
          clear be HFR2 HBd
          go_wp2_with fail
          go_roundw
          case rel => exact ⟨k + 1, Mx, S, by omega, by go_num, HX.out.1.kept HBe.out, HW.out.1.mono (by omega), HW.out.2.1, andThen HX.out.2.1 HBe.out⟩
          case measure => simp [intOf]; omega
    · go_wp2_with fail
      go_returns
      exact ⟨rfl, HD.out.2⟩
end Go.Proofs.Ytjepeeopjjnglaa
