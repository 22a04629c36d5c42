/-
  DiskRoom: lengths; the walk.
-/
import Derived.Test.YtjepeeopjjnglaaDkl
namespace Go.Proofs.Ytjepeeopjjnglaa
open Go Go.RowKit Go.ChangeShapes
open Wb

namespace Dk
section
variable {S : DS}
theorem do_keep (h : S.armed = false) (o : Rop) (f : Nat) : (doS S o f).quota = S.quota ∧ (doS S o f).down = S.down := by
  unfold doS crt app syn tru ren rem sd mk
  rw [cnt_un h]
  repeat' split
  all_goals exact ⟨rfl, rfl⟩
theorem room_app (h : S.armed = false) (o : Rop) (f : Nat) (hk : o.k = 2) (hm : (findE S o.a.data.toList).1 = 0) : ((o.data.length : Int) > S.quota - S.taken → doE S o = 64) ∧ (¬ (o.data.length : Int) > S.quota - S.taken → doE S o = 0 ∧ (doS S o f).taken = S.taken + o.data.length) := by
  unfold doE doS
  rw [hk]
  simp only [if_true, show ¬ ((2 : Int) = 1) by omega, if_false]
  unfold appE app
  rw [cnt_un h]
  refine ⟨fun h1 => by rw [if_pos hm, if_pos h1], fun h1 => ⟨by rw [if_pos hm, if_neg h1], by rw [if_pos ⟨hm, h1⟩]; rfl⟩⟩
theorem room_sd (h : S.armed = false) (hd : S.down = false) (o : Rop) (f : Nat) (hk : o.k = 7) : doE S o = 0 ∧ (doS S o f).taken = (tot (doS S o f).nm (doS S o f).fo : Int) := by
  have ha : askE S [] = 0 := by simp [askE, hd]
  unfold doE doS
  rw [hk]
  simp only [show ¬ ((7 : Int) = 1) by omega, show ¬ ((7 : Int) = 2) by omega, show ¬ ((7 : Int) = 3) by omega, show ¬ ((7 : Int) = 4) by omega, show ¬ ((7 : Int) = 5) by omega, show ¬ ((7 : Int) = 6) by omega, if_false]
  unfold sdE sd
  rw [if_pos ha, if_pos ha, cnt_un h]
  exact ⟨rfl, rfl⟩
theorem room_tru (h : S.armed = false) (o : Rop) (f : Nat) (hk : o.k = 4) : (doS S o f).taken ≤ S.taken := by
  unfold doS
  rw [hk]
  simp only [show ¬ ((4 : Int) = 1) by omega, show ¬ ((4 : Int) = 2) by omega, show ¬ ((4 : Int) = 3) by omega, if_true, if_false]
  unfold tru
  rw [cnt_un h]
  split
  · rename_i hf
    have hb := hf.2
    unfold bad at hb
    have hb2 := of_decide_eq_false hb
    rw [if_pos rfl]
    show S.taken - _ ≤ _
    omega
  · exact Int.le_refl _
theorem room_same (h : S.armed = false) (o : Rop) (f : Nat) (hc : 1 ≤ o.k ∧ o.k ≤ 7) (h2 : o.k = 2 → (findE S o.a.data.toList).1 ≠ 0) (h4 : o.k = 4 → doE S o ≠ 0) (h7 : o.k ≠ 7) : (doS S o f).taken = S.taken := by
  by_cases hk4 : o.k = 4
  · rw [do_ref h o f (h4 hk4)]
  · unfold doS
    split
    · unfold crt mk
      rw [cnt_un h]
      repeat' split
      all_goals rfl
    split
    · rename_i hk
      unfold app
      rw [if_neg fun e => h2 hk e.1]
    split
    · unfold syn
      rw [cnt_un h]
      repeat' split
      all_goals rfl
    split
    · unfold ren
      rw [cnt_un h]
      repeat' split
      all_goals rfl
    split
    · unfold rem
      rw [cnt_un h]
      repeat' split
      all_goals rfl
    · omega
theorem files_sum (S : DS) : ((files S).map fun x => x.2.length).sum = tot S.nm S.fo := by
  unfold files tot
  rw [List.map_map]
  rfl
end
end Dk
theorem sum_take (l : List Nat) : ∀ k, (l.take k).sum ≤ l.sum := by
  induction l with
  | nil => intro k; simp
  | cons x r ih =>
    intro k
    cases k with
    | zero => simp
    | succ k =>
      have := ih k
      simp only [List.take_succ_cons, List.sum_cons]
      omega
set_option maxRecDepth 100000 in
set_option maxHeartbeats 2000000 in
theorem dllengths_any (ok1 : Nat → Prop) (v : Value) (fs : List (List UInt8 × List Nat)) (w : World) (h : Fls ok1 w v fs) (hb : (fs.map fun x => x.2.length).sum ≤ 4194304) :
    Calls Try.prog 29 #[v] w fun e w' => e = .returned (.int .i64 ((fs.map fun x => x.2.length).sum : Nat)) ∧ w' = w := by
  obtain ⟨a, c, hv, h1, h2, h3⟩ := h.sh
  subst hv
  have HC : Hid (fs ≠ [] → ∃ b off, a = some ⟨b, off, none⟩ ∧ ok1 b ∧ ∀ j (h : j < fs.length), w.cell? ⟨b, off + j * 2, none⟩ = some (enS fs[j].1) ∧ ∃ dv, w.cell? ⟨b, off + j * 2 + 1, none⟩ = some dv ∧ Bs w dv fs[j].2 ∧ ∀ q off2 n c2, dv = .slice (some ⟨q, off2, none⟩) n c2 → ok1 q) := h3
  unfold maxLen at h2
  clear h h3
  go_enter Try.func29, Try.ntmps29
  go_wp2_with fail
  go_loopw [3, 4] (fun s i wr => ∃ k : Nat, k ≤ fs.length ∧ i = .int .i64 (k : Int) ∧ s = .int .i64 ((((fs.map fun x => x.2.length).take k).sum : Nat) : Int) ∧ wr = w) (fun _ i _ => fs.length - (intOf i).toNat)
  case atStart => exact ⟨0, Nat.zero_le _, rfl, rfl, rfl⟩
  case round =>
    obtain ⟨k, hk, rfl, rfl, rfl⟩ := hrel
    by_cases hlt : k < fs.length
    · obtain ⟨b, off, ha, -, hcell⟩ := HC.out (List.ne_nil_of_length_pos (by omega))
      subst ha
      obtain ⟨-, dv, q1, s1, -⟩ := hcell k hlt
      obtain ⟨x1, y1, hv1, -⟩ := s1.shape
      have hst : ((fs.map fun x => x.2.length).take (k + 1)).sum = ((fs.map fun x => x.2.length).take k).sum + fs[k].2.length := by
        rw [List.take_succ_eq_append_getElem (by simpa using hlt), List.sum_append, List.getElem_map]
        simp
      have hle := sum_take (fs.map fun x => x.2.length) (k + 1)
      have HST : Hid (((fs.map fun x => x.2.length).take (k + 1)).sum = ((fs.map fun x => x.2.length).take k).sum + fs[k].2.length) := hst
      rw [hst] at hle
      subst hv1
      clear hst s1 hcell
      generalize ((fs.map fun x => x.2.length).take k).sum = s0 at *
      generalize fs[k].2.length = dl at *
      go_wp2_with fail
      go_roundw
      case rel => exact ⟨k + 1, by omega, by go_num, by rw [HST.out]; go_num, by trivial⟩
      case measure => simp [intOf]; omega
    · go_wp2_with fail
      go_returns
      refine ⟨?_, rfl⟩
      have e : (fs.map fun x => x.2.length).take k = fs.map fun x => x.2.length := List.take_of_length_le (by simpa using hlt)
      rw [e]
      rfl
set_option maxRecDepth 100000 in
set_option maxHeartbeats 16000000 in
theorem diskRoom_walk (q : Int) (vs : Value) (n : Nat) (w : World) (hs : OpS w vs n) (hn : n ≤ 1048576) :
    Calls Try.prog 4 #[.int .i64 q, vs] w fun e w' => e = .returned (.bool true) ∧ Below w.heap.size w w' := by
  obtain ⟨sa, sc, hve, hs1, hs2, hs3⟩ := hs
  subst hve
  have HS : Hid (∀ k, k < n → ∃ b off o, sa = some ⟨b, off, none⟩ ∧ (∀ i x, (opc o)[i]? = some x → w.cell? ⟨b, off + k * 8 + i, none⟩ = some x) ∧ OpOk w o) := hs3
  obtain ⟨pq, hpq⟩ : ∃ p, p = Dk.proper q := ⟨_, rfl⟩
  have hpb : 16 ≤ pq ∧ pq ≤ 4194304 := by
    rw [hpq]
    unfold Dk.proper
    split <;> omega
  have HPQ : Hid (16 ≤ pq ∧ pq ≤ 4194304) := hpb
  have HPC : Hid (Calls Try.prog 9 #[.int .i64 q] w fun e w' => e = .returned (.int .i64 pq) ∧ w' = w) := by
    rw [hpq]
    exact dlproper_any q w
  have HRD : Hid (Calls Try.prog 10 #[.int .i64 pq] w fun e w' => ∃ g f M, e = .returned (.pointer (some ⟨g, 0, none⟩)) ∧ DM w.heap.size w' g (Dk.rdy pq f) M ∧ Below w.heap.size w w') := dlready_any pq w HPQ.out
  unfold maxLen at hs2
  clear hs3 hpq
  go_enter Try.func4, Try.ntmps4
  go_wp2_with fail
  refine HPC.out.mono ?_
  rintro e w' ⟨rfl, rfl⟩
  go_wp2_with fail
  refine HRD.out.mono ?_
  rintro e W1 ⟨g, f, M1, rfl, d1, b1⟩
  have HC1 : Hid (Calls Try.prog 28 #[.pointer (some ⟨g, 0, none⟩)] W1 fun e W => e = .returned (.int .i64 (pq - 1)) ∧ DM w'.heap.size W g (Dk.rdy pq f) M1 ∧ Below w'.heap.size w' W) := (dkfree_any _ g _ _ W1 d1 ⟨(Dk.wf4 pq f HPQ.out).t0, (Dk.wf4 pq f HPQ.out).tk, (Dk.wf4 pq f HPQ.out).q⟩).mono fun e W ⟨h2, h3⟩ => ⟨h2, d1.kept h3, andThen b1 h3⟩
  clear d1 b1 HPC HRD
  go_wp2_with fail
  refine HC1.out.mono ?_
  rintro e W3 ⟨rfl, d3, b3⟩
  have H3 : Hid (DM w'.heap.size W3 g (Dk.rdy pq f) M1 ∧ Below w'.heap.size w' W3) := ⟨d3, b3⟩
  clear d3 b3 HC1
  go_wp2_with fail
  obtain ⟨w0, hw0⟩ : ∃ x, x = w' := ⟨_, rfl⟩
  subst hw0
  go_loopw [6] (fun i wr => ∃ (k : Nat) (M : Mm) (S : Dk.DS), k ≤ n ∧ i = .int .i64 (k : Int) ∧ DM w0.heap.size wr g S M ∧ Dk.WF S (k + 2) ∧ S.armed = false ∧ S.down = false ∧ S.quota = pq ∧ Below w0.heap.size w0 wr) (fun i _ => n - (intOf i).toNat)
  case atStart => exact ⟨0, M1, _, Nat.zero_le _, rfl, H3.out.1, (Dk.wf4 pq f HPQ.out).mono (by omega), rfl, rfl, rfl, H3.out.2⟩
  case round =>
    obtain ⟨k, M, S, hk, rfl, hdm, hwf, har, hdn, hqt, hb⟩ := hrel
    have HD : Hid (DM w0.heap.size wr g S M ∧ Below w0.heap.size w0 wr) := ⟨hdm, hb⟩
    have HW : Hid (Dk.WF S (k + 2) ∧ S.armed = false ∧ S.down = false ∧ S.quota = pq) := ⟨hwf, har, hdn, hqt⟩
    clear hdm hwf har hb H3 hdn hqt
    by_cases hlt : k < n
    · obtain ⟨b, off, o, hsa, hcell, hok⟩ := HS.out k hlt
      subst hsa
      have key : ∀ i x, (opc o)[i]? = some x → wr.cell? ⟨b, off + k * 8 + i, none⟩ = some x := fun i x hx => (HD.out.2.cell (p := ⟨b, _, none⟩) (World.block_lt_of_cell? _ _ (hcell i x hx))).trans (hcell i x hx)
      have r0 := key 0 _ rfl
      have r1 := key 1 _ rfl
      have r2 := key 2 _ rfl
      have r3 := key 3 _ rfl
      have r4 := key 4 _ rfl
      have r5 := key 5 _ rfl
      have r6 := key 6 _ rfl
      have r7 := key 7 _ rfl
      simp only [Nat.add_zero] at r0
      have HOK : Hid (OpOk w0 o) := hok
      clear hcell hok key
      go_upto_region 9 with fail
      have bw := up0 wr (.cells (opc o).toArray 33)
      have lw := lb_new wr (opc o) 33
      unfold opc at bw
      obtain ⟨p, hp⟩ : ∃ p, p = wr.heap.size := ⟨_, rfl⟩
      obtain ⟨Wp, hWp⟩ : ∃ W, W = wr.alloc (.cells #[.int .i64 o.k, .bool o.two, .string o.a, .string o.b, .int .i64 o.n, .slice o.da o.data.length o.dc, .slice o.ca o.cs.length o.cc, .slice o.fa o.fn o.fc] 33) := ⟨_, rfl⟩
      have lp : LB Wp p 33 (opc o) := by rw [hWp, hp]; exact lw
      have bp : Below wr.heap.size wr Wp := by rw [hWp]; exact bw
      rw [← hWp, ← hp]
      have HLP : Hid (∀ W : World, Wp.heap[p]? = W.heap[p]? → W.cell? ⟨p, 0, none⟩ = some (.int .i64 o.k) ∧ W.cell? ⟨p, 1, none⟩ = some (.bool o.two) ∧ W.cell? ⟨p, 2, none⟩ = some (.string o.a) ∧ W.cell? ⟨p, 3, none⟩ = some (.string o.b) ∧ W.cell? ⟨p, 4, none⟩ = some (.int .i64 o.n) ∧ W.cell? ⟨p, 5, none⟩ = some (.slice o.da o.data.length o.dc) ∧ W.cell? ⟨p, 6, none⟩ = some (.slice o.ca o.cs.length o.cc) ∧ W.cell? ⟨p, 7, none⟩ = some (.slice o.fa o.fn o.fc)) := fun W hW => by
        have l9 : LB W p 33 (opc o) := by
          unfold LB at lp ⊢
          rw [← hW]
          exact lp
        exact ⟨l9.cell 0 _ rfl, l9.cell 1 _ rfl, l9.cell 2 _ rfl, l9.cell 3 _ rfl, l9.cell 4 _ rfl, l9.cell 5 _ rfl, l9.cell 6 _ rfl, l9.cell 7 _ rfl⟩
      have HP : Hid (DM w0.heap.size Wp g S M ∧ Below w0.heap.size w0 Wp ∧ p < Wp.heap.size ∧ ∀ q, Ft g S M q → q < p) := ⟨HD.out.1.kept bp, andThen HD.out.2 bp, by unfold LB at lp; exact (Array.getElem?_eq_some_iff.1 lp).1, fun q hq => by rw [hp]; exact (HD.out.1.ft hq).2⟩
      clear r0 r1 r2 r3 r4 r5 r6 r7 lw bw lp bp hWp hp
      obtain ⟨r0, r1, r2, r3, r4, r5, r6, r7⟩ := HLP.out Wp rfl
      have HCH : Hid (Calls Try.prog 11 #[.agg #[.int .i64 o.k, .bool o.two, .string o.a, .string o.b, .int .i64 o.n, .slice o.da o.data.length o.dc, .slice o.ca o.cs.length o.cc, .slice o.fa o.fn o.fc]] Wp fun e w' => e = .returned (.bool (Dk.chg o)) ∧ Below Wp.heap.size Wp w') := dlchanging_any o Wp
      cases hch : Dk.chg o with
      | false =>
        rw [hch] at HCH
        go_wp2_with fail
        refine HCH.out.mono ?_
        rintro e Wi ⟨rfl, bi⟩
        have HI : Hid (Below Wp.heap.size Wp Wi) := bi
        clear bi HCH
        go_wp2_with fail
        go_roundw
        case rel => exact ⟨k + 1, M, S, by omega, by go_num, HP.out.1.kept HI.out, HW.out.1.mono (by omega), HW.out.2.1, HW.out.2.2.1, HW.out.2.2.2, andThen HP.out.2.1 HI.out⟩
        case measure => simp [intOf]; omega
      | true =>
        rw [hch] at HCH
        have HCK : Hid (1 ≤ o.k ∧ o.k ≤ 7) := by
          unfold Dk.chg at hch
          rw [Bool.and_eq_true] at hch
          exact ⟨of_decide_eq_true hch.1, of_decide_eq_true hch.2⟩
        clear hch
        go_wp2_with fail
        refine HCH.out.mono ?_
        rintro e Wi ⟨rfl, bi⟩
        have HI : Hid (Below Wp.heap.size Wp Wi) := bi
        obtain ⟨FR, hFR⟩ : ∃ x, x = Dk.free S := ⟨_, rfl⟩
        have HFE : Hid (FR = Dk.free S) := hFR
        have HFR : Hid (Calls Try.prog 28 #[.pointer (some ⟨g, 0, none⟩)] Wi fun e w' => e = .returned (.int .i64 FR) ∧ Below Wi.heap.size Wi w') := by
          rw [HFE.out]
          exact dkfree_any _ g S M Wi (HP.out.1.kept HI.out) ⟨HW.out.1.t0, HW.out.1.tk, HW.out.1.q⟩
        clear bi HCH hFR r0 r1 r2 r3 r4 r5 r6 r7
        go_wp2_with fail
        refine HFR.out.mono ?_
        rintro e Wj ⟨rfl, bj⟩
        have HJ : Hid (Below Wp.heap.size Wp Wj) := andThen HI.out bj
        obtain ⟨r0, r1, r2, r3, r4, r5, r6, r7⟩ := HLP.out Wj (HJ.out.block p HP.out.2.2.1).symm
        obtain ⟨MS, hMS⟩ : ∃ x, x = (Dk.findE S o.a.data.toList).1 := ⟨_, rfl⟩
        have HMS : Hid (MS = (Dk.findE S o.a.data.toList).1) := hMS
        have HRE : Hid (Calls Try.prog 15 #[.pointer (some ⟨g, 0, none⟩), .string o.a] Wj fun e w' => ∃ v, e = .returned (.tuple #[v, .int .i64 MS]) ∧ Below Wj.heap.size Wj w') := by
          rw [HMS.out]
          exact (dkread_any _ g S M o.a Wj (HP.out.1.kept HJ.out) HOK.out.1.1 HW.out.1.ids (fun f hf => by have := (HW.out.1.fl f hf).2; omega)).mono fun e w' ⟨v, h1, _, h3⟩ => ⟨v, h1, h3⟩
        clear bj HFR HI hMS
        go_wp2_with fail
        refine HRE.out.mono ?_
        rintro e Wk ⟨vr, rfl, bk⟩
        have HK : Hid (Below Wp.heap.size Wp Wk) := andThen HJ.out bk
        clear r0 r1 r2 r3 r4 r5 r6 r7
        obtain ⟨r0, r1, r2, r3, r4, r5, r6, r7⟩ := HLP.out Wk (HK.out.block p HP.out.2.2.1).symm
        obtain ⟨E, hE⟩ : ∃ E, E = Dk.doE S o := ⟨_, rfl⟩
        have HE : Hid (E = Dk.doE S o) := hE
        have HDO : Hid (Calls Try.prog 12 #[.pointer (some ⟨g, 0, none⟩), .agg #[.int .i64 o.k, .bool o.two, .string o.a, .string o.b, .int .i64 o.n, .slice o.da o.data.length o.dc, .slice o.ca o.cs.length o.cc, .slice o.fa o.fn o.fc]] Wk fun e w' => ∃ f, Wk.heap.size ≤ f ∧ e = .returned (.int .i64 E) ∧ DPost w0.heap.size g S M Wk (Dk.doS S o f) w') := by
          rw [HE.out]
          exact dldo_any _ g S M (k + 2) o Wk (HP.out.1.kept HK.out) (Nat.le_trans HP.out.2.1.size HK.out.size) HW.out.1 (by omega) HOK.out.1.1 HOK.out.1.2 (HOK.out.2.1.kept (andThen HP.out.2.1 HK.out)) (fun hne q x e => Bs.old HOK.out.2.1 hne q x e)
        clear hE bk HJ HRE
        go_wp2_with fail
        refine HDO.out.mono ?_
        rintro e Wl ⟨f9, hf9, rfl, hp9⟩
        obtain ⟨S', hS'⟩ : ∃ x, x = Dk.doS S o f9 := ⟨_, rfl⟩
        have HS' : Hid (S' = Dk.doS S o f9) := hS'
        have HL : Hid (∃ M', DM w0.heap.size Wl g S' M' ∧ Dk.WF S' (k + 1 + 2) ∧ S'.armed = false ∧ S'.down = false ∧ S'.quota = pq ∧ Below w0.heap.size w0 Wl) := by
          have d9 := HP.out.1.kept HK.out
          obtain ⟨M', h1, h2, -⟩ := hp9.out d9 (Nat.le_trans HP.out.2.1.size HK.out.size)
          rw [HS'.out]
          exact ⟨M', h1, HW.out.1.do o f9 fun e => by
            have h8 := (d9.ft (q := f9) (.inr (.inr (.inr (.inr ⟨f9, e, .inl rfl⟩))))).2
            omega, Dk.do_arm HW.out.2.1 o f9, by rw [(Dk.do_keep HW.out.2.1 o f9).2]; exact HW.out.2.2.1, by rw [(Dk.do_keep HW.out.2.1 o f9).1]; exact HW.out.2.2.2, (andThen HP.out.2.1 HK.out).trans h2⟩
        have HLC : Hid (Wl.heap[p]? = Wp.heap[p]?) := by
          obtain ⟨M', -, h2, -⟩ := hp9
          show Wl.heap[p]? = _
          rw [h2.block p (Nat.lt_of_lt_of_le HP.out.2.2.1 HK.out.size) (fun e => by have := HP.out.2.2.2 p e; omega)]
          exact HK.out.block p HP.out.2.2.1
        clear hp9 HDO hS' r0 r1 r2 r3 r4 r5 r6 r7 HK
        obtain ⟨M', hd', hw', ha', hn', hq', hb'⟩ := HL.out
        have HD' : Hid (DM w0.heap.size Wl g S' M' ∧ Dk.WF S' (k + 1 + 2) ∧ S'.armed = false ∧ S'.down = false ∧ S'.quota = pq ∧ Below w0.heap.size w0 Wl) := ⟨hd', hw', ha', hn', hq', hb'⟩
        obtain ⟨NW, hNW⟩ : ∃ x, x = Dk.free S' := ⟨_, rfl⟩
        have HNE : Hid (NW = pq - S'.taken) := by
          rw [hNW]
          unfold Dk.free
          rw [if_neg (by rw [hn']; simp), hq']
          rfl
        have HNW : Hid (Calls Try.prog 28 #[.pointer (some ⟨g, 0, none⟩)] Wl fun e w' => e = .returned (.int .i64 NW) ∧ Below Wl.heap.size Wl w') := by
          rw [hNW]
          exact dkfree_any _ g S' M' Wl hd' ⟨hw'.t0, hw'.tk, hw'.q⟩
        have HFP : Hid (FR = pq - S.taken) := by
          rw [HFE.out]
          unfold Dk.free
          rw [if_neg (by rw [HW.out.2.2.1]; simp), HW.out.2.2.2]
          rfl
        obtain ⟨SM, hSM⟩ : ∃ x, x = Dk.tot S'.nm S'.fo := ⟨_, rfl⟩
        have HSM : Hid (SM = Dk.tot S'.nm S'.fo) := hSM
        have hb1 : 0 ≤ NW ∧ NW + SM ≤ pq := by
          have h1 := hw'.tot
          have h2 := hw'.tk
          have h3 := hw'.t0
          rw [HNE.out, hSM]
          rw [hq'] at h2
          omega
        clear hNW hd' hw' ha' hn' hq' hb' hSM HL HFE
        go_wp2_with fail
        refine HNW.out.mono ?_
        rintro e Wm ⟨rfl, bm⟩
        have HM : Hid (Below Wl.heap.size Wl Wm) := bm
        have HFI : Hid (Calls Try.prog 13 #[.pointer (some ⟨g, 0, none⟩)] Wm fun e w' => ∃ v, e = .returned v ∧ Fls (Wm.heap.size ≤ ·) w' v (Dk.files S') ∧ Below Wm.heap.size Wm w') := dkfiles_wf _ g S' M' _ Wm (HD'.out.1.kept bm) HD'.out.2.1 (by omega)
        clear bm HNW
        go_wp2_with fail
        refine HFI.out.mono ?_
        rintro e Wn ⟨vn, rfl, fn, bn⟩
        have HLN : Hid (Calls Try.prog 29 #[vn] Wn fun e w' => e = .returned (.int .i64 (SM : Int)) ∧ w' = Wn) := by
          have h9 := dllengths_any _ vn _ Wn fn (by rw [Dk.files_sum, ← HSM.out]; have := HPQ.out.2; omega)
          rw [Dk.files_sum, ← HSM.out] at h9
          exact h9
        have HEND : Hid (∃ M', DM w0.heap.size Wn g S' M' ∧ Dk.WF S' (k + 1 + 2) ∧ S'.armed = false ∧ S'.down = false ∧ S'.quota = pq ∧ Below w0.heap.size w0 Wn) := by
          have bb := andThen HM.out bn
          exact ⟨M', HD'.out.1.kept bb, HD'.out.2.1, HD'.out.2.2.1, HD'.out.2.2.2.1, HD'.out.2.2.2.2.1, andThen HD'.out.2.2.2.2.2 bb⟩
        have hpl : Wn.heap[p]? = Wl.heap[p]? := by
          have hsz : p < Wl.heap.size := by
            have h9 := HLC.out
            rcases Nat.lt_or_ge p Wl.heap.size with h8 | h8
            · exact h8
            · rw [Array.getElem?_eq_none h8, Array.getElem?_eq_getElem HP.out.2.2.1] at h9
              cases h9
          exact (andThen HM.out bn).block p hsz
        obtain ⟨r0, -, -, -, -, r5, -⟩ := HLP.out Wn (by rw [hpl, HLC.out])
        clear fn bn HFI HM HD' hpl HLC
        go_upto_region 15 with fail
        refine HLN.out.mono ?_
        rintro e W ⟨rfl, rfl⟩
        clear HLN
        by_cases hk2 : o.k = 2
        · rw [hk2] at r0
          by_cases hm0 : MS = 0
          · have hra := Dk.room_app HW.out.2.1 o f9 hk2 (by rw [← HMS.out]; exact hm0)
            rw [← HE.out, ← HS'.out, HW.out.2.2.2] at hra
            have hfr := HFP.out
            have hnw := HNE.out
            subst hm0
            by_cases hgt : (o.data.length : Int) > FR
            · have e64 := hra.1 (by omega)
              subst e64
              clear hra hfr hnw
              go_wp2_with fail
              refine (dlnum_any _ _).mono ?_
              rintro e W ⟨rfl, rfl⟩
              go_wp2_with fail
              go_roundw
              case rel =>
                obtain ⟨M', h1, h2, h3, h4, h5, h6⟩ := HEND.out
                exact ⟨k + 1, M', _, by omega, by go_num, h1, h2, h3, h4, h5, h6⟩
              case measure => simp [intOf]; omega
            · obtain ⟨e0, et⟩ := hra.2 (by omega)
              have hnf : NW = FR - (o.data.length : Int) := by omega
              have hfb : FR ≤ 4194304 ∧ 0 ≤ FR := by
                have ht0 := HW.out.1.t0
                have htk := HW.out.1.tk
                rw [HW.out.2.2.2] at htk
                omega
              subst e0
              clear hra hfr hnw et
              go_wp2_with fail
              refine (dlnum_any _ _).mono ?_
              rintro e W ⟨rfl, rfl⟩
              go_wp2_with fail
              go_roundw
              case rel =>
                obtain ⟨M', h1, h2, h3, h4, h5, h6⟩ := HEND.out
                exact ⟨k + 1, M', _, by omega, by go_num, h1, h2, h3, h4, h5, h6⟩
              case measure => simp [intOf]; omega
          · have hsm := Dk.room_same HW.out.2.1 o f9 HCK.out (fun _ => by rw [← HMS.out]; exact hm0) (fun e => by omega) (by omega)
            rw [← HS'.out] at hsm
            have hnf : NW = FR := by rw [HNE.out, HFP.out, hsm]
            have em : (MS == 0) = false := by simpa using hm0
            subst hnf
            clear hsm
            go_wp2_with fail
            refine (dlnum_any _ _).mono ?_
            rintro e W ⟨rfl, rfl⟩
            go_wp2_with fail
            go_roundw
            case rel =>
              obtain ⟨M', h1, h2, h3, h4, h5, h6⟩ := HEND.out
              exact ⟨k + 1, M', _, by omega, by go_num, h1, h2, h3, h4, h5, h6⟩
            case measure => simp [intOf]; omega
        · by_cases hk7 : o.k = 7
          · obtain ⟨e0, et⟩ := Dk.room_sd HW.out.2.1 HW.out.2.2.1 o f9 hk7
            rw [← HE.out] at e0
            rw [← HS'.out, ← HSM.out] at et
            have hns : NW + (SM : Int) = pq := by rw [HNE.out, et]; omega
            rw [hk7] at r0
            subst e0
            clear et
            go_wp2_with fail
            go_roundw
            case rel =>
              obtain ⟨M', h1, h2, h3, h4, h5, h6⟩ := HEND.out
              exact ⟨k + 1, M', _, by omega, by go_num, h1, h2, h3, h4, h5, h6⟩
            case measure => simp [intOf]; omega
          · by_cases hk4 : o.k = 4
            · rw [hk4] at r0
              by_cases hE0 : E = 0
              · have ht := Dk.room_tru HW.out.2.1 o f9 hk4
                rw [← HS'.out] at ht
                have hge : FR ≤ NW := by rw [HNE.out, HFP.out]; omega
                subst hE0
                clear ht
                go_wp2_with fail
                go_roundw
                case rel =>
                  obtain ⟨M', h1, h2, h3, h4, h5, h6⟩ := HEND.out
                  exact ⟨k + 1, M', _, by omega, by go_num, h1, h2, h3, h4, h5, h6⟩
                case measure => simp [intOf]; omega
              · have hsm := Dk.room_same HW.out.2.1 o f9 HCK.out (fun e => absurd e hk2) (fun _ => by rw [← HE.out]; exact hE0) hk7
                rw [← HS'.out] at hsm
                have hnf : NW = FR := by rw [HNE.out, HFP.out, hsm]
                have eE : (E == 0) = false := by simpa using hE0
                subst hnf
                clear hsm
                go_wp2_with fail
                go_roundw
                case rel =>
                  obtain ⟨M', h1, h2, h3, h4, h5, h6⟩ := HEND.out
                  exact ⟨k + 1, M', _, by omega, by go_num, h1, h2, h3, h4, h5, h6⟩
                case measure => simp [intOf]; omega
            · have hsm := Dk.room_same HW.out.2.1 o f9 HCK.out (fun e => absurd e hk2) (fun e => absurd e hk4) hk7
              rw [← HS'.out] at hsm
              have hnf : NW = FR := by rw [HNE.out, HFP.out, hsm]
              have x2 : (o.k == 2) = false := by simpa using hk2
              have x4 : (o.k == 4) = false := by simpa using hk4
              have x7 : (o.k == 7) = false := by simpa using hk7
              subst hnf
              clear hsm
              go_wp2_with fail
              go_roundw
              case rel =>
                obtain ⟨M', h1, h2, h3, h4, h5, h6⟩ := HEND.out
                exact ⟨k + 1, M', _, by omega, by go_num, h1, h2, h3, h4, h5, h6⟩
              case measure => simp [intOf]; omega
    · go_wp2_with fail
      go_returns
      exact ⟨rfl, HD.out.2⟩
end Go.Proofs.Ytjepeeopjjnglaa
