import Derived.Test.YtjepeeopjjnglaaQAd
/-
  DiskLeaves: the walk.
-/
namespace Go.Proofs.Ytjepeeopjjnglaa
open Go Go.RowKit Go.ChangeShapes
open Wb

namespace Dk
theorem rising_lvF : ∀ (cs : List Ch) (l : Nm), rising l → rising (lvF cs l)
  | [], _, h => h
  | c :: r, l, h => by
    show rising (lvF r (c.app l))
    refine rising_lvF r _ ?_
    unfold Ch.app
    split
    · exact rising_del h _
    · exact rising_put (rising_del h _) _ _
theorem mapIdx_sum {α β : Type} (len : β → Nat) (m : α → Nat) : ∀ (l : List α) (g : Nat → α → β), (∀ k, ∀ p ∈ l, len (g k p) ≤ m p) → ((l.mapIdx g).map len).sum ≤ (l.map m).sum
  | [], _, _ => by simp
  | x :: r, g, h => by
    rw [List.mapIdx_cons, List.map_cons, List.map_cons, List.sum_cons, List.sum_cons]
    have h1 := h 0 x (List.mem_cons_self ..)
    have h2 := mapIdx_sum len m r (fun i => g (i + 1)) fun k p hp => h (k + 1) p (List.mem_cons_of_mem _ hp)
    omega
section
variable {S : DS} {N : Nat}
theorem mapIdx_pw {α β : Type} {R : α → α → Prop} {Q : β → β → Prop} : ∀ (l : List α) (g : Nat → α → β), (∀ j k p q, R p q → Q (g j p) (g k q)) → l.Pairwise R → (l.mapIdx g).Pairwise Q
  | [], _, _, _ => by simp
  | x :: r, g, h, hp => by
    have h2 := List.pairwise_cons.1 hp
    rw [List.mapIdx_cons]
    refine List.pairwise_cons.2 ⟨fun y hy => ?_, mapIdx_pw r _ (fun j k p q => h (j + 1) (k + 1) p q) h2.2⟩
    obtain ⟨i, hi, rfl⟩ := List.getElem_of_mem hy
    rw [List.getElem_mapIdx]
    exact h 0 _ _ _ (h2.1 _ (List.getElem_mem _))
/-- what a crash leaves may be loaded -/
theorem crash_gd (hW : WF S N) (hla : rising S.la) (keep : Int) (cs : List (Int × Int)) : Gd (crash S keep cs) := by
  refine ⟨fun x hx => ?_, ?_⟩
  · obtain ⟨i, hi, rfl⟩ := List.getElem_of_mem hx
    unfold crash crL at hi ⊢
    rw [List.getElem_mapIdx]
    exact (hW.left keep _ (List.getElem_mem _)).2
  · exact mapIdx_pw (lvN S keep) _ (fun _ _ _ _ h => h) (rising_lvF _ _ hla)
theorem crash_len (hW : WF S N) (hG : WG S) (keep : Int) (cs : List (Int × Int)) : (flen (crash S keep cs) : Int) ≤ S.quota := by
  obtain ⟨L, l1, l2, l3, l4⟩ := hG.live
  have hp := l4 (lvK S keep)
  have h1 : flen (crash S keep cs) ≤ fsum S.fo ((lvN S keep).map (·.2)) := by
    unfold flen crash crL fsum
    rw [List.map_map]
    exact mapIdx_sum _ _ (lvN S keep) _ fun k p hp => lv_len _ _ (hW.fl _ (hW.left keep p hp).1).1
  have h2 : fsum S.fo ((lvN S keep).map (·.2)) ≤ fsum S.fo L := fsum_sub _ _ _ hp.1 fun f hf => by
    obtain ⟨p, hp2, rfl⟩ := List.mem_map.1 hf
    exact hp.2 p hp2
  have h3 := hW.tk
  omega
theorem crash_rows (keep : Int) (cs : List (Int × Int)) : (crash S keep cs).length = (lvN S keep).length := by
  unfold crash crL
  rw [List.length_mapIdx]
theorem lvN_len (hW : WF S N) (keep : Int) : (lvN S keep).length ≤ N + N := by
  have h9 := lvF_len (S.ch.take (lvK S keep)) S.la
  have := hW.n2
  have := hW.n3
  rw [List.length_take] at h9
  show (lvF _ _).length ≤ _
  omega
theorem files_ri (hnm : rising S.nm) : (files S).Pairwise fun x y => bytesBefore x.1 y.1 = true := by
  unfold files
  exact List.pairwise_map.2 hnm
/-- a crash that leaves all -/
theorem crash_all (hW : WF S N) (hG : WG S) (hN : N ≤ 400000000) : crash S 1099511627776 (List.replicate (files S).length (4194304, 0)) = files S := by
  have hk : lvN S 1099511627776 = S.nm := by
    have h1 : lvK S 1099511627776 = S.ch.length := by
      have := hW.n3
      unfold lvK wth
      omega
    unfold lvN
    rw [h1, List.take_of_length_le (Nat.le_refl _), hG.nmE]
  have hfl : (files S).length = S.nm.length := by unfold files; rw [List.length_map]
  unfold crash crL
  rw [hk]
  refine List.ext_getElem (by rw [List.length_mapIdx, hfl]) fun i h1 h2 => ?_
  have hi : i < (files S).length := h2
  have hi2 : i < S.nm.length := by omega
  have hat : (files S)[i]'hi = ((S.nm[i]'hi2).1, (S.fo (S.nm[i]'hi2).2).data) := by simp [files]
  have e : (List.replicate (files S).length ((4194304, 0) : Int × Int)).getD i (0, 0) = (4194304, 0) := by
    rw [List.getD_eq_getElem?_getD, List.getElem?_replicate, if_pos hi]
    rfl
  have hf := hW.fl _ (hW.ids _ (List.getElem_mem hi2))
  rw [List.getElem_mapIdx, hat, e, lv_all _ _ _ hf.1 (by have := hf.2; omega)]
end
end Dk
end Go.Proofs.Ytjepeeopjjnglaa

/-
  DiskLeaves: the walk.
-/
namespace Go.Proofs.Ytjepeeopjjnglaa
open Go Go.RowKit Go.ChangeShapes
open Wb

namespace Dk
theorem do_quota (S : DS) (o : Rop) (f : Nat) : (doS S o f).quota = S.quota := by
  unfold doS crt app syn tru ren rem sd mk
  repeat' split
  all_goals first | rfl | exact (cnt_same S).1
theorem arm_quota (S : DS) (n : Int) : (arm S n).quota = S.quota := by
  unfold arm
  split <;> rfl
theorem wg4 (q : Int) (f : Nat) (hq : 16 ≤ q ∧ q ≤ 4194304) : WG (rdy q f) := by
  rw [← (z5 q f).2, ← (z4 q f).2, ← (z2 q f hq.1).2, ← (z1 q f).2]
  exact ((((WG.new q).crt Z f (by simp [new])).app Z [7]).syn Z).sd
end Dk
set_option maxRecDepth 100000 in
set_option maxHeartbeats 16000000 in
theorem diskLeaves_walk (q : Int) (vs : Value) (n : Nat) (keep : Int) (cv : Value) (cs : List (Int × Int)) (w : World) (hs : OpS w vs n) (hn : n ≤ 1048576) (hc : CtS w cv cs) :
    Calls Try.prog 6 #[.int .i64 q, vs, .int .i64 keep, cv] w fun e w' => e = .returned (.bool true) ∧ Below w.heap.size w w' := by
  obtain ⟨sa, sc, hve, hs1, hs2, hs3⟩ := hs
  subst hve
  have HS : Hid (∀ k, k < n → ∃ b off o, sa = some ⟨b, off, none⟩ ∧ (∀ i x, (opc o)[i]? = some x → w.cell? ⟨b, off + k * 8 + i, none⟩ = some x) ∧ OpOk w o) := hs3
  obtain ⟨pq, hpq⟩ : ∃ p, p = Dk.proper q := ⟨_, rfl⟩
  have hpb : 16 ≤ pq ∧ pq ≤ 4194304 := by
    rw [hpq]
    unfold Dk.proper
    split <;> omega
  have HPQ : Hid (16 ≤ pq ∧ pq ≤ 4194304) := hpb
  have HPC : Hid (Calls Try.prog 9 #[.int .i64 q] w fun e w' => e = .returned (.int .i64 pq) ∧ w' = w) := by
    rw [hpq]
    exact dlproper_any q w
  have HRD : Hid (Calls Try.prog 10 #[.int .i64 pq] w fun e w' => ∃ g f M, e = .returned (.pointer (some ⟨g, 0, none⟩)) ∧ DM w.heap.size w' g (Dk.rdy pq f) M ∧ Below w.heap.size w w') := dlready_any pq w HPQ.out
  unfold maxLen at hs2
  have HCV : Hid (CtS w cv cs) := hc
  clear hs3 hpq hc
  go_enter Try.func6, Try.ntmps6
  go_wp2_with fail
  refine HPC.out.mono ?_
  rintro e w' ⟨rfl, rfl⟩
  go_wp2_with fail
  refine HRD.out.mono ?_
  rintro e W1 ⟨g, f, M1, rfl, d1, b1⟩
  have H3 : Hid (DM w'.heap.size W1 g (Dk.rdy pq f) M1 ∧ Below w'.heap.size w' W1) := ⟨d1, b1⟩
  clear d1 b1 HPC HRD
  go_wp2_with fail
  obtain ⟨w0, hw0⟩ : ∃ x, x = w' := ⟨_, rfl⟩
  subst hw0
  go_loopw [10] (fun i wr => ∃ (k : Nat) (M : Mm) (S : Dk.DS), k ≤ n ∧ i = .int .i64 (k : Int) ∧ DM w0.heap.size wr g S M ∧ Dk.WF S (k + 2) ∧ Dk.WG S ∧ S.quota = pq ∧ Below w0.heap.size w0 wr) (fun i _ => n - (intOf i).toNat)
  case atStart => exact ⟨0, M1, _, Nat.zero_le _, rfl, H3.out.1, (Dk.wf4 pq f HPQ.out).mono (by omega), Dk.wg4 pq f HPQ.out, rfl, H3.out.2⟩
  case round =>
    obtain ⟨k, M, S, hk, rfl, hdm, hwf, hwg, hqt, hb⟩ := hrel
    have HD : Hid (DM w0.heap.size wr g S M ∧ Below w0.heap.size w0 wr) := ⟨hdm, hb⟩
    have HW : Hid (Dk.WF S (k + 2) ∧ Dk.WG S ∧ S.quota = pq) := ⟨hwf, hwg, hqt⟩
    clear hdm hwf hwg hb H3 hqt
    by_cases hlt : k < n
    · obtain ⟨b, off, o, hsa, hcell, hok⟩ := HS.out k hlt
      subst hsa
      have key : ∀ i x, (opc o)[i]? = some x → wr.cell? ⟨b, off + k * 8 + i, none⟩ = some x := fun i x hx => (HD.out.2.cell (p := ⟨b, _, none⟩) (World.block_lt_of_cell? _ _ (hcell i x hx))).trans (hcell i x hx)
      have r0 := key 0 _ rfl
      have r1 := key 1 _ rfl
      have r2 := key 2 _ rfl
      have r3 := key 3 _ rfl
      have r4 := key 4 _ rfl
      have r5 := key 5 _ rfl
      have r6 := key 6 _ rfl
      have r7 := key 7 _ rfl
      simp only [Nat.add_zero] at r0
      have HOK : Hid (OpOk w0 o) := hok
      clear hcell hok key
      go_upto_region 9 with fail
      have bw := up0 wr (.cells (opc o).toArray 33)
      have lw := lb_new wr (opc o) 33
      unfold opc at bw
      obtain ⟨p, hp⟩ : ∃ p, p = wr.heap.size := ⟨_, rfl⟩
      obtain ⟨Wp, hWp⟩ : ∃ W, W = wr.alloc (.cells #[.int .i64 o.k, .bool o.two, .string o.a, .string o.b, .int .i64 o.n, .slice o.da o.data.length o.dc, .slice o.ca o.cs.length o.cc, .slice o.fa o.fn o.fc] 33) := ⟨_, rfl⟩
      have lp : LB Wp p 33 (opc o) := by rw [hWp, hp]; exact lw
      have bp : Below wr.heap.size wr Wp := by rw [hWp]; exact bw
      rw [← hWp, ← hp]
      have HLP : Hid (∀ W : World, Wp.heap[p]? = W.heap[p]? → W.cell? ⟨p, 0, none⟩ = some (.int .i64 o.k) ∧ W.cell? ⟨p, 1, none⟩ = some (.bool o.two) ∧ W.cell? ⟨p, 2, none⟩ = some (.string o.a) ∧ W.cell? ⟨p, 3, none⟩ = some (.string o.b) ∧ W.cell? ⟨p, 4, none⟩ = some (.int .i64 o.n) ∧ W.cell? ⟨p, 5, none⟩ = some (.slice o.da o.data.length o.dc) ∧ W.cell? ⟨p, 6, none⟩ = some (.slice o.ca o.cs.length o.cc) ∧ W.cell? ⟨p, 7, none⟩ = some (.slice o.fa o.fn o.fc)) := fun W hW => by
        have l9 : LB W p 33 (opc o) := by
          unfold LB at lp ⊢
          rw [← hW]
          exact lp
        exact ⟨l9.cell 0 _ rfl, l9.cell 1 _ rfl, l9.cell 2 _ rfl, l9.cell 3 _ rfl, l9.cell 4 _ rfl, l9.cell 5 _ rfl, l9.cell 6 _ rfl, l9.cell 7 _ rfl⟩
      have HP : Hid (DM w0.heap.size Wp g S M ∧ Below w0.heap.size w0 Wp ∧ p < Wp.heap.size ∧ ∀ q, Ft g S M q → q < p) := ⟨HD.out.1.kept bp, andThen HD.out.2 bp, by unfold LB at lp; exact (Array.getElem?_eq_some_iff.1 lp).1, fun q hq => by rw [hp]; exact (HD.out.1.ft hq).2⟩
      clear r0 r1 r2 r3 r4 r5 r6 r7 lw bw lp bp hWp hp
      obtain ⟨r0, r1, r2, r3, r4, r5, r6, r7⟩ := HLP.out Wp rfl
      have HCH : Hid (Calls Try.prog 11 #[.agg #[.int .i64 o.k, .bool o.two, .string o.a, .string o.b, .int .i64 o.n, .slice o.da o.data.length o.dc, .slice o.ca o.cs.length o.cc, .slice o.fa o.fn o.fc]] Wp fun e w' => e = .returned (.bool (Dk.chg o)) ∧ Below Wp.heap.size Wp w') := dlchanging_any o Wp
      have HOV : Hid (opv o = .agg #[.int .i64 o.k, .bool o.two, .string o.a, .string o.b, .int .i64 o.n, .slice o.da o.data.length o.dc, .slice o.ca o.cs.length o.cc, .slice o.fa o.fn o.fc]) := rfl
      cases hch : Dk.chg o with
      | true =>
        rw [hch] at HCH
        have HCK : Hid (1 ≤ o.k ∧ o.k ≤ 7) := by
          unfold Dk.chg at hch
          rw [Bool.and_eq_true] at hch
          exact ⟨of_decide_eq_true hch.1, of_decide_eq_true hch.2⟩
        have x12 : (o.k == 12) = false := by
          have h9 := HCK.out.2
          rw [beq_eq_false_iff_ne]
          omega
        have x14 : (o.k != 14) = true := by
          have h9 := HCK.out.2
          rw [bne_iff_ne]
          omega
        clear hch
        go_wp2_with fail
        refine HCH.out.mono ?_
        rintro e Wk ⟨rfl, bi⟩
        have HK : Hid (Below Wp.heap.size Wp Wk) := bi
        clear bi HCH r0 r1 r2 r3 r4 r5 r6 r7
        obtain ⟨r0, r1, r2, r3, r4, r5, r6, r7⟩ := HLP.out Wk (HK.out.block p HP.out.2.2.1).symm
        have HDO : Hid (Calls Try.prog 12 #[.pointer (some ⟨g, 0, none⟩), .agg #[.int .i64 o.k, .bool o.two, .string o.a, .string o.b, .int .i64 o.n, .slice o.da o.data.length o.dc, .slice o.ca o.cs.length o.cc, .slice o.fa o.fn o.fc]] Wk fun e w' => ∃ f E, Wk.heap.size ≤ f ∧ e = .returned (.int .i64 E) ∧ DPost w0.heap.size g S M Wk (Dk.doS S o f) w') := (dldo_any _ g S M (k + 2) o Wk (HP.out.1.kept HK.out) (Nat.le_trans HP.out.2.1.size HK.out.size) HW.out.1 (by omega) HOK.out.1.1 HOK.out.1.2 (HOK.out.2.1.kept (andThen HP.out.2.1 HK.out)) (fun hne q x e => Bs.old HOK.out.2.1 hne q x e)).mono fun e w' ⟨f, h1, h2, h3⟩ => ⟨f, _, h1, h2, h3⟩
        go_wp2_with fail
        refine HDO.out.mono ?_
        rintro e Wl ⟨f9, E, hf9, rfl, hp9⟩
        have HL : Hid (∃ M', DM w0.heap.size Wl g (Dk.doS S o f9) M' ∧ Dk.WF (Dk.doS S o f9) (k + 1 + 2) ∧ Dk.WG (Dk.doS S o f9) ∧ (Dk.doS S o f9).quota = pq ∧ Below w0.heap.size w0 Wl) := by
          have d9 := HP.out.1.kept HK.out
          obtain ⟨M', h1, h2, -⟩ := hp9.out d9 (Nat.le_trans HP.out.2.1.size HK.out.size)
          have hfr : f9 ∉ S.ids := fun e => by
            have h8 := (d9.ft (q := f9) (.inr (.inr (.inr (.inr ⟨f9, e, .inl rfl⟩))))).2
            omega
          exact ⟨M', h1, HW.out.1.do o f9 hfr, HW.out.2.1.do o f9 hfr, by rw [Dk.do_quota]; exact HW.out.2.2, (andThen HP.out.2.1 HK.out).trans h2⟩
        have HLC : Hid (Wl.heap[p]? = Wp.heap[p]?) := by
          obtain ⟨M', -, h2, -⟩ := hp9
          show Wl.heap[p]? = _
          rw [h2.block p (Nat.lt_of_lt_of_le HP.out.2.2.1 HK.out.size) (fun e => by have := HP.out.2.2.2 p e; omega)]
          exact HK.out.block p HP.out.2.2.1
        clear hp9 HDO r0 r1 r2 r3 r4 r5 r6 r7 hf9
        obtain ⟨r0, -⟩ := HLP.out Wl HLC.out.symm
        go_wp2_with fail
        go_roundw
        case rel =>
          obtain ⟨M', h1, h2, h3, h4, h5⟩ := HL.out
          exact ⟨k + 1, M', _, by omega, by go_num, h1, h2, h3, h4, h5⟩
        case measure => simp [intOf]; omega
      | false =>
        rw [hch] at HCH
        clear hch
        by_cases hk12 : o.k = 12
        · rw [hk12] at r0 HCH
          go_wp2_with fail
          refine HCH.out.mono ?_
          rintro e Wi ⟨rfl, bi⟩
          have HI : Hid (Below Wp.heap.size Wp Wi) := bi
          clear bi HCH r0 r1 r2 r3 r4 r5 r6 r7
          obtain ⟨r0, r1, r2, r3, r4, r5, r6, r7⟩ := HLP.out Wi (HI.out.block p HP.out.2.2.1).symm
          rw [hk12] at r0
          have HAR : Hid (Calls Try.prog 32 #[.pointer (some ⟨g, 0, none⟩), .int .i64 o.n] Wi fun e w' => e = .returned (.tuple #[]) ∧ DM w0.heap.size w' g (Dk.arm S o.n) M ∧ IFr Wi w' (· = g)) := dkarm_any _ g S M o.n Wi (HP.out.1.kept HI.out)
          go_wp2_with fail
          refine HAR.out.mono ?_
          rintro e Wl ⟨rfl, dl, fl⟩
          have HL : Hid (DM w0.heap.size Wl g (Dk.arm S o.n) M ∧ Below w0.heap.size w0 Wl ∧ Wl.heap[p]? = Wp.heap[p]?) := ⟨dl, (andThen HP.out.2.1 HI.out).trans (fl.below _ (Nat.le_trans HP.out.2.1.size HI.out.size) fun q hq => by rw [hq]; exact HP.out.1.gB), by
            rw [fl.block p (Nat.lt_of_lt_of_le HP.out.2.2.1 HI.out.size) (fun e => by have := HP.out.2.2.2 p (.inl e); omega)]
            exact HI.out.block p HP.out.2.2.1⟩
          clear dl fl HAR r0 r1 r2 r3 r4 r5 r6 r7
          obtain ⟨r0, -⟩ := HLP.out Wl HL.out.2.2.symm
          rw [hk12] at r0
          go_wp2_with fail
          go_roundw
          case rel => exact ⟨k + 1, M, _, by omega, by go_num, HL.out.1, (HW.out.1.arm o.n HOK.out.2.2.2).mono (by omega), HW.out.2.1.arm o.n, by rw [Dk.arm_quota]; exact HW.out.2.2, HL.out.2.1⟩
          case measure => simp [intOf]; omega
        · by_cases hk14 : o.k = 14
          · rw [hk14] at r0 HCH
            go_wp2_with fail
            refine HCH.out.mono ?_
            rintro e Wi ⟨rfl, bi⟩
            have HI : Hid (Below Wp.heap.size Wp Wi) := bi
            clear bi HCH r0 r1 r2 r3 r4 r5 r6 r7
            obtain ⟨r0, -⟩ := HLP.out Wi (HI.out.block p HP.out.2.2.1).symm
            rw [hk14] at r0
            have HN4 : Hid (k + 2 ≤ 100000000) := by show k + 2 ≤ _; omega
            have HF1 : Hid (Calls Try.prog 13 #[.pointer (some ⟨g, 0, none⟩)] Wi fun e w' => ∃ aa ca, e = .returned (.slice aa (Dk.files S).length ca) ∧ Fls (Wi.heap.size ≤ ·) w' (.slice aa (Dk.files S).length ca) (Dk.files S) ∧ Below Wi.heap.size Wi w') := (dkfiles_wf _ g S M _ Wi (HP.out.1.kept HI.out) HW.out.1 (by omega)).mono fun e w' ⟨v, h1, h2, h3⟩ => by
              obtain ⟨aa, ca, h4, -⟩ := h2.sh
              subst h4
              exact ⟨aa, ca, h1, h2, h3⟩
            go_wp2_with fail
            refine HF1.out.mono ?_
            rintro e Wa ⟨aa, ca, rfl, fa, ba⟩
            have HA : Hid ((∀ W, Below Wa.heap.size Wa W → Fls (Wi.heap.size ≤ ·) W (.slice aa (Dk.files S).length ca) (Dk.files S)) ∧ Below Wp.heap.size Wp Wa) := ⟨fun W hW => fa.kept hW, andThen HI.out ba⟩
            clear fa ba HF1 r0
            obtain ⟨-, -, -, -, r4, -, r6, -⟩ := HLP.out Wa (HA.out.2.block p HP.out.2.2.1).symm
            have HF2 : Hid (Calls Try.prog 14 #[.pointer (some ⟨g, 0, none⟩), .int .i64 o.n, .slice o.ca o.cs.length o.cc] Wa fun e w' => ∃ v, e = .returned v ∧ Fls (Wa.heap.size ≤ ·) w' v (Dk.crash S o.n o.cs) ∧ Below Wa.heap.size Wa w') := dkcrash_wf _ g S M _ o.n _ o.cs Wa (HP.out.1.kept HA.out.2) (HOK.out.2.2.1.kept (andThen HP.out.2.1 HA.out.2)) HW.out.1 (by omega)
            go_wp2_with fail
            refine HF2.out.mono ?_
            rintro e Wb ⟨vb, rfl, fb, bb⟩
            have HBv : Hid ((∀ W, Below Wb.heap.size Wb W → Fls (Wa.heap.size ≤ ·) W vb (Dk.crash S o.n o.cs)) ∧ Below Wa.heap.size Wa Wb) := ⟨fun W hW => fb.kept hW, bb⟩
            have HGD : Hid (Dk.Gd (Dk.crash S o.n o.cs) ∧ (Dk.crash S o.n o.cs).length ≤ 200000000) := ⟨Dk.crash_gd HW.out.1 (HP.out.1.la).1 _ _, by rw [Dk.crash_rows]; have := Dk.lvN_len HW.out.1 o.n; have := HN4.out; omega⟩
            have HF3 : Hid (Calls Try.prog 33 #[.int .i64 pq, vb] Wb fun e w' => ∃ g S' M', e = .returned (.tuple #[.pointer (some ⟨g, 0, none⟩), .int .i64 0]) ∧ DM Wb.heap.size w' g S' M' ∧ Dk.WF S' (Dk.crash S o.n o.cs).length ∧ Dk.LG pq (Dk.crash S o.n o.cs) S' ∧ Below Wb.heap.size Wb w') := dkload_good pq _ vb _ Wb fb (by have := HGD.out.2; omega) HGD.out.1 ⟨by omega, hpb.2⟩ (by rw [← HW.out.2.2]; exact Dk.crash_len HW.out.1 HW.out.2.1 _ _)
            clear fb bb HF2 r4 r6
            go_wp2_with fail
            refine HF3.out.mono ?_
            rintro e Wc ⟨ge, Se, Me, rfl, dc, wc, lc, bc⟩
            have HC : Hid ((∀ W, Below Wc.heap.size Wc W → DM Wb.heap.size W ge Se Me) ∧ Dk.WF Se (Dk.crash S o.n o.cs).length ∧ Dk.LG pq (Dk.crash S o.n o.cs) Se ∧ Below Wb.heap.size Wb Wc) := ⟨fun W hW => dc.kept hW, wc, lc, bc⟩
            have HBC : Hid (Below Wc.heap.size Wc Wc) := Below.refl _ _
            have HVA : Hid (∀ W, Below Wc.heap.size Wc W → Fls (Wi.heap.size ≤ ·) W (.slice aa (Dk.files S).length ca) (Dk.files S)) := fun W hW => HA.out.1 W (andThen HBv.out.2 (andThen HC.out.2.2.2 hW))
            have HVB : Hid (∀ W, Below Wc.heap.size Wc W → Fls (Wa.heap.size ≤ ·) W vb (Dk.crash S o.n o.cs)) := fun W hW => HBv.out.1 W (andThen HC.out.2.2.2 hW)
            have HVD : Hid (∀ W, Below Wc.heap.size Wc W → DM w0.heap.size W g S M ∧ Below w0.heap.size w0 W) := fun W hW => by
              have b9 := andThen HA.out.2 (andThen HBv.out.2 (andThen HC.out.2.2.2 hW))
              exact ⟨HP.out.1.kept b9, andThen HP.out.2.1 b9⟩
            clear dc wc lc bc HF3
            go_wp2_with fail
            refine (dlnum_any _ _).mono ?_
            rintro e W ⟨rfl, rfl⟩
            have HF4 : Hid (Calls Try.prog 14 #[.pointer (some ⟨ge, 0, none⟩), .int .i64 keep, cv] W fun e w' => ∃ v, e = .returned v ∧ Fls (W.heap.size ≤ ·) w' v (Dk.crash S o.n o.cs) ∧ Below W.heap.size W w') := by
              have h9 := dkcrash_wf _ ge Se Me _ keep cv cs W (HC.out.1 W HBC.out) (HCV.out.kept (HVD.out W HBC.out).2) HC.out.2.1 (by have := HGD.out.2; omega)
              rw [HC.out.2.2.1.crash] at h9
              exact h9
            go_wp2_with fail
            refine HF4.out.mono ?_
            rintro e Wd ⟨vd, rfl, fd, bd⟩
            have HBd : Hid (Below W.heap.size W Wd) := bd
            have HL1 : Hid (Calls Try.prog 17 #[vd, vb] Wd fun e w' => e = .returned (.bool true) ∧ Below Wd.heap.size Wd w') := dlfalike_yes _ _ _ _ _ _ (fd) (HVB.out Wd HBd.out)
            go_wp2_with fail
            refine HL1.out.mono ?_
            rintro e We ⟨rfl, bx⟩
            have HBe : Hid (Below W.heap.size W We) := andThen HBd.out bx
            clear bx HL1
            have HF5 : Hid (Calls Try.prog 13 #[.pointer (some ⟨ge, 0, none⟩)] We fun e w' => ∃ v, e = .returned v ∧ Fls (We.heap.size ≤ ·) w' v (Dk.crash S o.n o.cs) ∧ Below We.heap.size We w') := by
              have h9 := dkfiles_wf _ ge Se Me _ We (HC.out.1 We HBe.out) HC.out.2.1 (by have := HGD.out.2; omega)
              rw [HC.out.2.2.1.files] at h9
              exact h9
            clear fd bd HF4
            go_wp2_with fail
            refine HF5.out.mono ?_
            rintro e Wf ⟨vf, rfl, ff, bf⟩
            have HBf : Hid (Below W.heap.size W Wf) := andThen HBe.out bf
            have HL2 : Hid (Calls Try.prog 17 #[vf, vb] Wf fun e w' => e = .returned (.bool true) ∧ Below Wf.heap.size Wf w') := dlfalike_yes _ _ _ _ _ _ (ff) (HVB.out Wf HBf.out)
            go_wp2_with fail
            refine HL2.out.mono ?_
            rintro e Wg ⟨rfl, bx⟩
            have HBg : Hid (Below W.heap.size W Wg) := andThen HBf.out bx
            clear bx HL2
            have HLA : Hid ((Dk.files S).length ≤ 200000000) := by
              show (Dk.files S).length ≤ _
              unfold Dk.files
              rw [List.length_map]
              have := HW.out.1.n1
              have := HN4.out
              omega
            have HF6 : Hid (Calls Try.prog 34 #[.int .i64 ((Dk.files S).length : Int)] Wg fun e w' => ∃ v, e = .returned v ∧ CtS w' v (List.replicate (Dk.files S).length (4194304, 0)) ∧ Below Wg.heap.size Wg w') := dlmost_any _ Wg (by have := HLA.out; omega)
            clear ff bf HF5
            go_wp2_with fail
            refine HF6.out.mono ?_
            rintro e Wh ⟨vm, rfl, cm, bh⟩
            have HBh : Hid (Below W.heap.size W Wh) := andThen HBg.out bh
            have HF7 : Hid (Calls Try.prog 14 #[.pointer (some ⟨g, 0, none⟩), .int .i64 1099511627776, vm] Wh fun e w' => ∃ v, e = .returned v ∧ Fls (Wh.heap.size ≤ ·) w' v (Dk.files S) ∧ Below Wh.heap.size Wh w') := by
              have h9 := dkcrash_wf _ g S M _ 1099511627776 vm _ Wh (HVD.out Wh HBh.out).1 cm HW.out.1 (by have := HN4.out; omega)
              rw [Dk.crash_all HW.out.1 HW.out.2.1 (by have := HN4.out; omega)] at h9
              exact h9
            clear cm bh HF6
            go_wp2_with fail
            refine HF7.out.mono ?_
            rintro e Wj ⟨vw, rfl, fw, bj⟩
            have HBj : Hid (Below W.heap.size W Wj) := andThen HBh.out bj
            have HL3 : Hid (Calls Try.prog 17 #[vw, .slice aa (Dk.files S).length ca] Wj fun e w' => e = .returned (.bool true) ∧ Below Wj.heap.size Wj w') := dlfalike_yes _ _ _ _ _ _ (fw) (HVA.out Wj HBj.out)
            go_wp2_with fail
            refine HL3.out.mono ?_
            rintro e Wm ⟨rfl, bx⟩
            have HBm : Hid (Below W.heap.size W Wm) := andThen HBj.out bx
            clear bx HL3
            have HF8 : Hid (Calls Try.prog 35 #[.slice aa (Dk.files S).length ca] Wm fun e w' => e = .returned (.bool true) ∧ Below Wm.heap.size Wm w') := dlrising_yes _ _ _ Wm (HVA.out Wm HBm.out) (Dk.files_ri (HP.out.1.nm).1)
            clear fw bj HF7
            go_wp2_with fail
            refine HF8.out.mono ?_
            rintro e Wn ⟨rfl, bn⟩
            have HBn : Hid (Below W.heap.size W Wn) := andThen HBm.out bn
            have HF9 : Hid (Calls Try.prog 35 #[vb] Wn fun e w' => e = .returned (.bool true) ∧ Below Wn.heap.size Wn w') := dlrising_yes _ _ _ Wn (HVB.out Wn HBn.out) HGD.out.1.ri
            clear bn HF8
            go_wp2_with fail
            refine HF9.out.mono ?_
            rintro e Wo ⟨rfl, bo⟩
            have HBo : Hid (Below W.heap.size W Wo) := andThen HBn.out bo
            have HFA : Hid (Calls Try.prog 13 #[.pointer (some ⟨g, 0, none⟩)] Wo fun e w' => ∃ v, e = .returned v ∧ Fls (Wo.heap.size ≤ ·) w' v (Dk.files S) ∧ Below Wo.heap.size Wo w') := dkfiles_wf _ g S M _ Wo (HVD.out Wo HBo.out).1 HW.out.1 (by have := HN4.out; omega)
            clear bo HF9
            go_wp2_with fail
            refine HFA.out.mono ?_
            rintro e Wq ⟨vq, rfl, fq, bq⟩
            have HBq : Hid (Below W.heap.size W Wq) := andThen HBo.out bq
            have HL4 : Hid (Calls Try.prog 17 #[vq, .slice aa (Dk.files S).length ca] Wq fun e w' => e = .returned (.bool true) ∧ Below Wq.heap.size Wq w') := dlfalike_yes _ _ _ _ _ _ (fq) (HVA.out Wq HBq.out)
            go_wp2_with fail
            refine HL4.out.mono ?_
            rintro e Wr ⟨rfl, bx⟩
            have HBr : Hid (Below W.heap.size W Wr) := andThen HBq.out bx
            clear bx HL4
            clear fq bq HFA
            go_wp2_with fail
            go_roundw
            case rel => exact ⟨k + 1, M, S, by omega, by go_num, (HVD.out Wr HBr.out).1, HW.out.1.mono (by omega), HW.out.2.1, HW.out.2.2, (HVD.out Wr HBr.out).2⟩
            case measure => simp [intOf]; omega
          · have x12 : (o.k == 12) = false := by simpa using hk12
            have x14 : (o.k != 14) = true := by simpa using hk14
            go_wp2_with fail
            refine HCH.out.mono ?_
            rintro e Wi ⟨rfl, bi⟩
            have HI : Hid (Below Wp.heap.size Wp Wi) := bi
            clear bi HCH r0 r1 r2 r3 r4 r5 r6 r7 hk12 hk14
            obtain ⟨r0, -⟩ := HLP.out Wi (HI.out.block p HP.out.2.2.1).symm
            go_wp2_with fail
            go_roundw
            case rel => exact ⟨k + 1, M, S, by omega, by go_num, HP.out.1.kept HI.out, HW.out.1.mono (by omega), HW.out.2.1, HW.out.2.2, andThen HP.out.2.1 HI.out⟩
            case measure => simp [intOf]; omega
    · go_wp2_with fail
      go_returns
      exact ⟨rfl, HD.out.2⟩
end Go.Proofs.Ytjepeeopjjnglaa
