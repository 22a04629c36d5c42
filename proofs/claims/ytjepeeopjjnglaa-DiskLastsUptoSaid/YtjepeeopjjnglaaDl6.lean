/-
  DiskLasts: the walk.
-/
import Derived.Test.YtjepeeopjjnglaaDl5
namespace Go.Proofs.Ytjepeeopjjnglaa
open Go Go.RowKit Go.ChangeShapes
open Wb
namespace Dk
theorem lvN_nn (S : DS) (keep : Int) : (lvN S keep).length ≤ nn S := by
  have h9 := lvF_len (S.ch.take (lvK S keep)) S.la
  rw [List.length_take] at h9
  unfold lvN nn
  omega
theorem flen_mem : ∀ (fs : List (List UInt8 × List Nat)) (x : List UInt8 × List Nat), x ∈ fs → x.2.length ≤ flen fs
  | [], _, h => by cases h
  | y :: r, x, h => by
    have e : flen (y :: r) = y.2.length + flen r := by simp [flen]
    rcases List.mem_cons.1 h with rfl | h2
    · omega
    · have := flen_mem r x h2
      omega
/-- the first word -/
theorem kn0 (q : Int) (f : Nat) : Kn (rdy q f) [kw (Z, [7])] := by
  have hs : ∀ p ∈ (rdy q f).nm, ((rdy q f).fo p.2).syn = ((rdy q f).fo p.2).data.length := fun p hp => by
    have e : p = (Z, f) := List.mem_singleton.1 hp
    rw [e]
    show (fo0 f ⟨[7], 1⟩ f).syn = (fo0 f ⟨[7], 1⟩ f).data.length
    unfold fo0
    rw [upd_same]
    rfl
  have h9 := Kn.known (S := rdy q f) (List.pairwise_singleton _ _) rfl rfl hs
  have e : (files (rdy q f)).map kw = [kw (Z, [7])] := by
    show [kw (Z, (fo0 f ⟨[7], 1⟩ f).data)] = _
    unfold fo0
    rw [upd_same]
  rw [e] at h9
  exact h9
end Dk
theorem ft_arm {g : Nat} {S : Dk.DS} {M : Mm} {n : Int} {q : Nat} (h : Ft g (Dk.arm S n) M q) : Ft g S M q := by
  unfold Dk.arm at h
  split at h
  · exact h
  · exact h
/-- the file z as a literal -/
def zlit (w : World) : World := (w.alloc (.cells #[.int .u8 7] 5)).alloc (.cells #[.string ⟨#[122]⟩, .slice (some ⟨w.heap.size, 0, none⟩) 1 1] 71)
theorem zlit_below (w : World) : Below w.heap.size w (zlit w) := andThen (up0 w _) (up0 _ _)
theorem zlit_fls (w : World) : Fls (fun _ => True) (zlit w) (.slice (some ⟨w.heap.size + 1, 0, none⟩) 1 1) [(Dk.Z, [7])] := by
  have hsz : (w.alloc (.cells #[.int .u8 7] 5)).heap.size = w.heap.size + 1 := by simp
  have lb : LB (zlit w) (w.heap.size + 1) 71 [.string ⟨#[122]⟩, .slice (some ⟨w.heap.size, 0, none⟩) 1 1] := by
    have h9 := lb_new (w.alloc (.cells #[.int .u8 7] 5)) [.string ⟨#[122]⟩, .slice (some ⟨w.heap.size, 0, none⟩) 1 1] 71
    rw [hsz] at h9
    exact h9
  refine ⟨_, 1, rfl, Nat.le_refl _, by unfold maxLen; omega, fun _ => ⟨_, 0, rfl, trivial, fun j hj => ?_⟩⟩
  have hj0 : j = 0 := by
    have : j < 1 := hj
    omega
  subst hj0
  exact ⟨lb.cell 0 _ rfl, _, lb.cell 1 _ rfl, (lit7 w).kept (up0 _ _), fun _ _ _ _ _ => trivial⟩
set_option maxRecDepth 100000 in
set_option maxHeartbeats 16000000 in
theorem diskLasts_walk (q : Int) (vs : Value) (n : Nat) (w : World) (hs : OpS w vs n) (hn : n ≤ 1048576) :
    Calls Try.prog 8 #[.int .i64 q, vs] w fun e w' => e = .returned (.bool true) ∧ Below w.heap.size w w' := by
  obtain ⟨sa, sc, hve, hs1, hs2, hs3⟩ := hs
  subst hve
  have HS : Hid (∀ k, k < n → ∃ b off o, sa = some ⟨b, off, none⟩ ∧ (∀ i x, (opc o)[i]? = some x → w.cell? ⟨b, off + k * 8 + i, none⟩ = some x) ∧ OpOk w o) := hs3
  obtain ⟨pq, hpq⟩ : ∃ p, p = Dk.proper q := ⟨_, rfl⟩
  have hpb : 16 ≤ pq ∧ pq ≤ 4194304 := by
    rw [hpq]
    unfold Dk.proper
    split <;> omega
  have HPQ : Hid (16 ≤ pq ∧ pq ≤ 4194304) := hpb
  have HPC : Hid (Calls Try.prog 9 #[.int .i64 q] w fun e w' => e = .returned (.int .i64 pq) ∧ w' = w) := by
    rw [hpq]
    exact dlproper_any q w
  have HRD : Hid (Calls Try.prog 10 #[.int .i64 pq] w fun e w' => ∃ g f M, e = .returned (.pointer (some ⟨g, 0, none⟩)) ∧ DM w.heap.size w' g (Dk.rdy pq f) M ∧ Below w.heap.size w w') := dlready_any pq w HPQ.out
  unfold maxLen at hs2
  clear hs3 hpq
  go_enter Try.func8, Try.ntmps8
  go_wp2_with fail
  refine HPC.out.mono ?_
  rintro e w' ⟨rfl, rfl⟩
  go_wp2_with fail
  refine HRD.out.mono ?_
  rintro e W1 ⟨g, f, M1, rfl, d1, b1⟩
  obtain ⟨w0, hw0⟩ : ∃ x, x = w' := ⟨_, rfl⟩
  subst hw0
  have H2 : Hid (DM w0.heap.size W1 g (Dk.rdy pq f) M1 ∧ Below w0.heap.size w0 W1) := ⟨d1, b1⟩
  have HKN : Hid (Calls Try.prog 38 #[.slice (some ⟨W1.heap.size + 1, 0, none⟩) 1 1] (zlit W1) fun e w' => ∃ v' K ys, e = .returned v' ∧ ys.map (·.1) = [Dk.kw (Dk.Z, [7])] ∧ LM w0.heap.size K w' g (Dk.rdy pq f) M1 v' ys ∧ Below w0.heap.size w0 w') := by
    have b2 := zlit_below W1
    exact (dlknown_any _ _ [(Dk.Z, [7])] (zlit W1) (zlit_fls W1) (by simp) (by simp)).mono fun e w' ⟨v', ys, h1, h2, h3, h4⟩ => ⟨v', _, ys, h1, h3, LM.new (d1.kept b2) h4 h2 (Nat.le_trans b1.size b2.size), andThen b1 (andThen b2 h4)⟩
  unfold zlit at HKN
  clear d1 b1 HPC HRD
  go_wp2_with fail
  refine HKN.out.mono ?_
  rintro e W2 ⟨v2, K2, ys2, rfl, hy2, lm2, b2⟩
  have H3 : Hid (LM w0.heap.size K2 W2 g (Dk.rdy pq f) M1 v2 ys2 ∧ Dk.Kn (Dk.rdy pq f) (ys2.map (·.1)) ∧ ys2.length = 1 ∧ Below w0.heap.size w0 W2) := ⟨lm2, by rw [hy2]; exact Dk.kn0 pq f, by have h9 := congrArg List.length hy2; simpa using h9, b2⟩
  clear hy2 lm2 b2 HKN H2
  go_wp2_with fail
  go_loopw [5, 6, 7] (fun dp l i wr => ∃ (k : Nat) (K : Nat → Prop) (g : Nat) (M : Mm) (S : Dk.DS) (xs : List WE), k ≤ n ∧ i = .int .i64 (k : Int) ∧ dp = .pointer (some ⟨g, 0, none⟩) ∧ LM w0.heap.size K wr g S M l xs ∧ (Dk.WF S (k + 2) ∧ Dk.WG S ∧ S.quota = pq ∧ Dk.Kn S (xs.map (·.1)) ∧ Dk.nn S ≤ k + 2 ∧ xs.length ≤ k + 2) ∧ Below w0.heap.size w0 wr) (fun _ _ i _ => n - (intOf i).toNat)
  case atStart => exact ⟨0, K2, g, M1, _, ys2, Nat.zero_le _, rfl, rfl, H3.out.1, ⟨(Dk.wf4 pq f HPQ.out).mono (by omega), Dk.wg4 pq f HPQ.out, rfl, H3.out.2.1, (show 1 ≤ 2 by omega), by have := H3.out.2.2.1; omega⟩, H3.out.2.2.2⟩
  case round =>
    obtain ⟨k, K, g, M, S, xs, hk, rfl, rfl, hlm, hst, hb⟩ := hrel
    have HD : Hid (LM w0.heap.size K wr g S M u6 xs ∧ Below w0.heap.size w0 wr) := ⟨hlm, hb⟩
    have HW : Hid (Dk.WF S (k + 2) ∧ Dk.WG S ∧ S.quota = pq ∧ Dk.Kn S (xs.map (·.1)) ∧ Dk.nn S ≤ k + 2 ∧ xs.length ≤ k + 2) := hst
    clear hlm hst hb H3
    by_cases hlt : k < n
    · obtain ⟨b, off, o, hsa, hcell, hok⟩ := HS.out k hlt
      subst hsa
      have key : ∀ i x, (opc o)[i]? = some x → wr.cell? ⟨b, off + k * 8 + i, none⟩ = some x := fun i x hx => (HD.out.2.cell (p := ⟨b, _, none⟩) (World.block_lt_of_cell? _ _ (hcell i x hx))).trans (hcell i x hx)
      have r0 := key 0 _ rfl
      have r1 := key 1 _ rfl
      have r2 := key 2 _ rfl
      have r3 := key 3 _ rfl
      have r4 := key 4 _ rfl
      have r5 := key 5 _ rfl
      have r6 := key 6 _ rfl
      have r7 := key 7 _ rfl
      simp only [Nat.add_zero] at r0
      have HOK : Hid (OpOk w0 o) := hok
      clear hcell hok key
      go_upto_region 10 with fail
      have bw := up0 wr (.cells (opc o).toArray 33)
      have lw := lb_new wr (opc o) 33
      unfold opc at bw
      obtain ⟨p, hp⟩ : ∃ p, p = wr.heap.size := ⟨_, rfl⟩
      obtain ⟨Wp, hWp⟩ : ∃ W, W = wr.alloc (.cells #[.int .i64 o.k, .bool o.two, .string o.a, .string o.b, .int .i64 o.n, .slice o.da o.data.length o.dc, .slice o.ca o.cs.length o.cc, .slice o.fa o.fn o.fc] 33) := ⟨_, rfl⟩
      have lp : LB Wp p 33 (opc o) := by rw [hWp, hp]; exact lw
      have bp : Below wr.heap.size wr Wp := by rw [hWp]; exact bw
      rw [← hWp, ← hp]
      have HLP : Hid (∀ W : World, Wp.heap[p]? = W.heap[p]? → W.cell? ⟨p, 0, none⟩ = some (.int .i64 o.k) ∧ W.cell? ⟨p, 1, none⟩ = some (.bool o.two) ∧ W.cell? ⟨p, 2, none⟩ = some (.string o.a) ∧ W.cell? ⟨p, 3, none⟩ = some (.string o.b) ∧ W.cell? ⟨p, 4, none⟩ = some (.int .i64 o.n) ∧ W.cell? ⟨p, 5, none⟩ = some (.slice o.da o.data.length o.dc) ∧ W.cell? ⟨p, 6, none⟩ = some (.slice o.ca o.cs.length o.cc) ∧ W.cell? ⟨p, 7, none⟩ = some (.slice o.fa o.fn o.fc)) := fun W hW => by
        have l9 : LB W p 33 (opc o) := by
          unfold LB at lp ⊢
          rw [← hW]
          exact lp
        exact ⟨l9.cell 0 _ rfl, l9.cell 1 _ rfl, l9.cell 2 _ rfl, l9.cell 3 _ rfl, l9.cell 4 _ rfl, l9.cell 5 _ rfl, l9.cell 6 _ rfl, l9.cell 7 _ rfl⟩
      have HP : Hid (LM w0.heap.size K Wp g S M u6 xs ∧ Below w0.heap.size w0 Wp ∧ p < Wp.heap.size ∧ (∀ q, Ft g S M q → q < p) ∧ ∀ q, u6.ownBlock = some q → q < p) := ⟨HD.out.1.kept bp, andThen HD.out.2 bp, by unfold LB at lp; exact (Array.getElem?_eq_some_iff.1 lp).1, fun q hq => by rw [hp]; exact (HD.out.1.dm.ft hq).2, fun q hq => by rw [hp]; exact (World.ownsRow.lt HD.out.1.wm.row q hq).2⟩
      clear r0 r1 r2 r3 r4 r5 r6 r7 lw bw lp bp hWp hp
      obtain ⟨r0, r1, r2, r3, r4, r5, r6, r7⟩ := HLP.out Wp rfl
      have HCH : Hid (Calls Try.prog 11 #[.agg #[.int .i64 o.k, .bool o.two, .string o.a, .string o.b, .int .i64 o.n, .slice o.da o.data.length o.dc, .slice o.ca o.cs.length o.cc, .slice o.fa o.fn o.fc]] Wp fun e w' => e = .returned (.bool (Dk.chg o)) ∧ Below Wp.heap.size Wp w') := dlchanging_any o Wp
      obtain ⟨va, vn, vc, hvs⟩ : ∃ a n c, u6 = .slice a n c := by
        obtain ⟨a, c, h9, -⟩ := Rd.row_at HP.out.1.wm.row
        exact ⟨_, _, _, h9⟩
      subst hvs
      cases hch : Dk.chg o with
      | true =>
        rw [hch] at HCH
        have HCK : Hid (1 ≤ o.k ∧ o.k ≤ 7) := by
          unfold Dk.chg at hch
          rw [Bool.and_eq_true] at hch
          exact ⟨of_decide_eq_true hch.1, of_decide_eq_true hch.2⟩
        clear hch
        go_wp2_with fail
        refine HCH.out.mono ?_
        rintro e Wk ⟨rfl, bi⟩
        have HK : Hid (LM w0.heap.size K Wk g S M (.slice va vn vc) xs ∧ Below w0.heap.size w0 Wk ∧ w0.heap.size ≤ Wk.heap.size ∧ Wk.heap[p]? = Wp.heap[p]? ∧ Wp.heap.size ≤ Wk.heap.size) := ⟨HP.out.1.kept bi, andThen HP.out.2.1 bi, Nat.le_trans HP.out.2.1.size bi.size, bi.block p HP.out.2.2.1, bi.size⟩
        clear bi HCH r0 r1 r2 r3 r4 r5 r6 r7
        obtain ⟨r0, r1, r2, r3, r4, r5, r6, r7⟩ := HLP.out Wk HK.out.2.2.2.1.symm
        obtain ⟨E, hE⟩ : ∃ E, E = Dk.doE S o := ⟨_, rfl⟩
        have HE : Hid (E = Dk.doE S o) := hE
        have HDO : Hid (Calls Try.prog 12 #[.pointer (some ⟨g, 0, none⟩), .agg #[.int .i64 o.k, .bool o.two, .string o.a, .string o.b, .int .i64 o.n, .slice o.da o.data.length o.dc, .slice o.ca o.cs.length o.cc, .slice o.fa o.fn o.fc]] Wk fun e w' => ∃ f, Wk.heap.size ≤ f ∧ e = .returned (.int .i64 E) ∧ DPost w0.heap.size g S M Wk (Dk.doS S o f) w') := by
          rw [HE.out]
          exact dldo_any _ g S M (k + 2) o Wk HK.out.1.dm HK.out.2.2.1 HW.out.1 (by omega) HOK.out.1.1 HOK.out.1.2 (HOK.out.2.1.kept HK.out.2.1) (fun hne q x e => Bs.old HOK.out.2.1 hne q x e)
        clear hE
        go_wp2_with fail
        refine HDO.out.mono ?_
        rintro e Wl ⟨f9, hf9, rfl, hp9⟩
        have HLC : Hid (Wl.heap[p]? = Wp.heap[p]?) := by
          obtain ⟨M', -, h2, -⟩ := hp9
          show Wl.heap[p]? = _
          rw [h2.block p (Nat.lt_of_lt_of_le HP.out.2.2.1 HK.out.2.2.2.2) (fun e => by have := HP.out.2.2.2.1 p e; omega)]
          exact HK.out.2.2.2.1
        have HFR : Hid (f9 ∉ S.ids) := fun e => by
          have h8 := (HK.out.1.dm.ft (q := f9) (.inr (.inr (.inr (.inr ⟨f9, e, .inl rfl⟩))))).2
          omega
        have HL : Hid (∃ M', LM w0.heap.size K Wl g (Dk.doS S o f9) M' (.slice va vn vc) xs ∧ Below w0.heap.size w0 Wl ∧ w0.heap.size ≤ Wl.heap.size) := by
          obtain ⟨M', h1, h2, h3⟩ := HK.out.1.do HK.out.2.2.1 hp9
          exact ⟨M', h1, HK.out.2.1.trans h2, h3⟩
        have HW2 : Hid (Dk.WF (Dk.doS S o f9) (k + 1 + 2) ∧ Dk.WG (Dk.doS S o f9) ∧ (Dk.doS S o f9).quota = pq ∧ Dk.nn (Dk.doS S o f9) ≤ k + 1 + 2) := ⟨HW.out.1.do o f9 HFR.out, HW.out.2.1.do o f9 HFR.out, by rw [Dk.do_quota]; exact HW.out.2.2.1, by have h8 := Dk.nn_do HW.out.2.1 o f9; have h7 := HW.out.2.2.2.2.1; omega⟩
        clear hp9 HDO r0 r1 r2 r3 r4 r5 r6 r7 hf9
        obtain ⟨r0, r1, r2, r3, r4, r5, r6, r7⟩ := HLP.out Wl HLC.out.symm
        obtain ⟨Sd, hSd⟩ : ∃ X, X = Dk.doS S o f9 := ⟨_, rfl⟩
        have HSD : Hid (Sd = Dk.doS S o f9) := hSd
        rw [← hSd] at HL HW2
        clear hSd
        by_cases hE0 : E = 0
        · have HND : Hid (Calls Try.prog 39 #[.slice va vn vc, .agg #[.int .i64 o.k, .bool o.two, .string o.a, .string o.b, .int .i64 o.n, .slice o.da o.data.length o.dc, .slice o.ca o.cs.length o.cc, .slice o.fa o.fn o.fc]] Wl fun e w' => ∃ v' K' M' ys, e = .returned v' ∧ ys.map (·.1) = Dk.ntd (xs.map (·.1)) o ∧ LM w0.heap.size K' w' g Sd M' v' ys ∧ Below w0.heap.size w0 w') := by
            obtain ⟨M', h1, h2, h3⟩ := HL.out
            obtain ⟨n1, n2, n3⟩ := Dk.Kn.need HW.out.1 HW.out.2.2.2.1 o (by rw [← HE.out]; exact hE0)
            exact (dlnoted_any _ K _ xs o Wl h1.wm h1.kt h3 (by have := HW.out.2.2.2.2.2; omega) (fun x hx => Dk.Kn.len HW.out.1 HW.out.2.2.2.1 x.1 (List.mem_map.2 ⟨x, hx, rfl⟩)) HCK.out (HOK.out.2.1.kept h2) n1 n2 n3).mono fun e w' ⟨v', ys, h4, h5, h6⟩ => by
              obtain ⟨h7, h8, -⟩ := h1.noted h3 h5
              exact ⟨v', _, M', ys, h4, h6, h7, h2.trans h8⟩
          have HKN2 : Hid (Dk.Kn Sd (Dk.ntd (xs.map (·.1)) o)) := by
            rw [HSD.out]
            exact HW.out.2.2.2.1.step HW.out.1 HW.out.2.1 o f9 HFR.out HCK.out (by rw [← HE.out]; exact hE0)
          subst hE0
          go_wp2_with fail
          refine HND.out.mono ?_
          rintro e Wm ⟨v9, K9, M9, ys9, rfl, hy9, lm9, b9⟩
          have H9 : Hid (LM w0.heap.size K9 Wm g Sd M9 v9 ys9 ∧ Below w0.heap.size w0 Wm ∧ Dk.Kn Sd (ys9.map (·.1)) ∧ ys9.length ≤ k + 1 + 2) := ⟨lm9, b9, by rw [hy9]; exact HKN2.out, by
            have h8 := Dk.ntd_len (xs.map (·.1)) o
            rw [← hy9, List.length_map, List.length_map] at h8
            have := HW.out.2.2.2.2.2
            omega⟩
          clear hy9 lm9 b9 HND r0 r1 r2 r3 r4 r5 r6 r7
          go_wp2_with fail
          go_roundw
          case rel => exact ⟨k + 1, K9, g, M9, Sd, ys9, by omega, by go_num, rfl, H9.out.1, ⟨HW2.out.1, HW2.out.2.1, HW2.out.2.2.1, H9.out.2.2.1, HW2.out.2.2.2, H9.out.2.2.2⟩, H9.out.2.1⟩
          case measure => simp [intOf]; omega
        · have HKN2 : Hid (Dk.Kn Sd (xs.map (·.1))) := by
            rw [HSD.out]
            exact HW.out.2.2.2.1.stay o f9 (by rw [← HE.out]; exact hE0)
          have t0 : (E == 0) = false := by simpa using hE0
          clear hE0 r0 r1 r2 r3 r4 r5 r6 r7
          go_wp2_with fail
          go_roundw
          case rel =>
            obtain ⟨M', h1, h2, h3⟩ := HL.out
            exact ⟨k + 1, K, g, M', Sd, xs, by omega, by go_num, rfl, h1, ⟨HW2.out.1, HW2.out.2.1, HW2.out.2.2.1, HKN2.out, HW2.out.2.2.2, by have := HW.out.2.2.2.2.2; omega⟩, h2⟩
          case measure => simp [intOf]; omega
      | false =>
        rw [hch] at HCH
        clear hch
        by_cases hk12 : o.k = 12
        · rw [hk12] at r0 HCH
          go_wp2_with fail
          refine HCH.out.mono ?_
          rintro e Wi ⟨rfl, bi⟩
          have HI : Hid (LM w0.heap.size K Wi g S M (.slice va vn vc) xs ∧ Below w0.heap.size w0 Wi ∧ w0.heap.size ≤ Wi.heap.size ∧ Wi.heap[p]? = Wp.heap[p]?) := ⟨HP.out.1.kept bi, andThen HP.out.2.1 bi, Nat.le_trans HP.out.2.1.size bi.size, bi.block p HP.out.2.2.1⟩
          clear bi HCH r0 r1 r2 r3 r4 r5 r6 r7
          obtain ⟨r0, r1, r2, r3, r4, r5, r6, r7⟩ := HLP.out Wi HI.out.2.2.2.symm
          rw [hk12] at r0
          have HAR : Hid (Calls Try.prog 32 #[.pointer (some ⟨g, 0, none⟩), .int .i64 o.n] Wi fun e w' => e = .returned (.tuple #[]) ∧ ∃ M', LM w0.heap.size K w' g (Dk.arm S o.n) M' (.slice va vn vc) xs ∧ Below w0.heap.size w0 w') := (dkarm_any _ g S M o.n Wi HI.out.1.dm).mono fun e w' ⟨h1, h2, h3⟩ => by
            obtain ⟨M', h4, h5, -⟩ := HI.out.1.do HI.out.2.2.1 (DPost.of h2 h3 fun q hq => ft_arm hq)
            exact ⟨h1, M', h4, HI.out.2.1.trans h5⟩
          go_wp2_with fail
          refine HAR.out.mono ?_
          rintro e Wl ⟨rfl, M9, lm9, b9⟩
          have HL : Hid (LM w0.heap.size K Wl g (Dk.arm S o.n) M9 (.slice va vn vc) xs ∧ Below w0.heap.size w0 Wl) := ⟨lm9, b9⟩
          clear lm9 b9 HAR r0 r1 r2 r3 r4 r5 r6 r7
          go_wp2_with fail
          go_roundw
          case rel => exact ⟨k + 1, K, g, M9, _, xs, by omega, by go_num, rfl, HL.out.1, ⟨(HW.out.1.arm o.n HOK.out.2.2.2).mono (by omega), HW.out.2.1.arm o.n, by rw [Dk.arm_quota]; exact HW.out.2.2.1, HW.out.2.2.2.1.arm o.n, by rw [Dk.nn_arm]; have := HW.out.2.2.2.2.1; omega, by have := HW.out.2.2.2.2.2; omega⟩, HL.out.2⟩
          case measure => simp [intOf]; omega
        · by_cases hcr : o.k = 14 ∨ o.k = 15
          · have x12 : (o.k == 12) = false := by simpa using hk12
            have HCR : Hid (o.k = 14 ∨ o.k = 15) := hcr
            have HAF : Hid (∀ W : World, Wp.heap[p]? = W.heap[p]? → True) := fun _ _ => trivial
            go_wp2_with fail
            refine HCH.out.mono ?_
            rintro e Wi ⟨rfl, bi⟩
            have HI : Hid (LM w0.heap.size K Wi g S M (.slice va vn vc) xs ∧ Below w0.heap.size w0 Wi ∧ w0.heap.size ≤ Wi.heap.size ∧ Below Wp.heap.size Wp Wi) := ⟨HP.out.1.kept bi, andThen HP.out.2.1 bi, Nat.le_trans HP.out.2.1.size bi.size, bi⟩
            clear bi HCH r0 r1 r2 r3 r4 r5 r6 r7 hk12
            obtain ⟨r0, r1, r2, r3, r4, r5, r6, r7⟩ := HLP.out Wi (HI.out.2.2.2.block p HP.out.2.2.1).symm
            have HF2 : Hid (Calls Try.prog 14 #[.pointer (some ⟨g, 0, none⟩), .int .i64 o.n, .slice o.ca o.cs.length o.cc] Wi fun e w' => ∃ v, e = .returned v ∧ Fls (Wi.heap.size ≤ ·) w' v (Dk.crash S o.n o.cs) ∧ Below Wi.heap.size Wi w') := dkcrash_wf _ g S M _ o.n _ o.cs Wi HI.out.1.dm (HOK.out.2.2.1.kept HI.out.2.1) HW.out.1 (by omega)
            rcases hcr with hk14 | hk15
            · rw [hk14] at r0
              go_wp2_with fail
              refine HF2.out.mono ?_
              rintro e Wa ⟨vf, rfl, fa, ba⟩
              have HA : Hid (LM w0.heap.size K Wa g S M (.slice va vn vc) xs ∧ Below w0.heap.size w0 Wa ∧ w0.heap.size ≤ Wa.heap.size ∧ Below Wp.heap.size Wp Wa ∧ Fls (Wi.heap.size ≤ ·) Wa vf (Dk.crash S o.n o.cs)) := ⟨HI.out.1.kept ba, andThen HI.out.2.1 ba, Nat.le_trans HI.out.2.2.1 ba.size, andThen HI.out.2.2.2 ba, fa⟩
              have HHS : Hid (Calls Try.prog 40 #[vf, .slice va vn vc] Wa fun e w' => e = .returned (.bool true) ∧ Below Wa.heap.size Wa w') := dlhas_any _ _ _ _ _ _ xs Wa fa HA.out.1.wm fun x hx hs => by
                obtain ⟨y, h1, h2, h3, h4⟩ := HW.out.2.2.2.1.crash HW.out.1 o.n o.cs x.1 (List.mem_map.2 ⟨x, hx, rfl⟩) hs
                exact ⟨y, h1, h2, by unfold bgn; exact decide_eq_true ⟨h4, h3⟩⟩
              clear fa ba HF2 r0 r1 r2 r3 r4 r5 r6 r7
              go_wp2_with fail
              refine HHS.out.mono ?_
              rintro e Wb ⟨rfl, bb⟩
              have HB : Hid (LM w0.heap.size K Wb g S M (.slice va vn vc) xs ∧ Below w0.heap.size w0 Wb ∧ w0.heap.size ≤ Wb.heap.size ∧ Below Wp.heap.size Wp Wb ∧ Fls (Wi.heap.size ≤ ·) Wb vf (Dk.crash S o.n o.cs)) := ⟨HA.out.1.kept bb, andThen HA.out.2.1 bb, Nat.le_trans HA.out.2.2.1 bb.size, andThen HA.out.2.2.2.1 bb, HA.out.2.2.2.2.kept bb⟩
              clear bb HHS HA
              obtain ⟨r0, r1, r2, r3, r4, r5, r6, r7⟩ := HLP.out Wb (HB.out.2.2.2.1.block p HP.out.2.2.1).symm
              rw [hk14] at r0
              go_wp2_with fail
              go_roundw
              case rel => exact ⟨k + 1, K, g, M, S, xs, by omega, by go_num, rfl, HB.out.1, ⟨HW.out.1.mono (by omega), HW.out.2.1, HW.out.2.2.1, HW.out.2.2.2.1, by have := HW.out.2.2.2.2.1; omega, by have := HW.out.2.2.2.2.2; omega⟩, HB.out.2.1⟩
              case measure => simp [intOf]; omega
            · rw [hk15] at r0
              go_wp2_with fail
              refine HF2.out.mono ?_
              rintro e Wa ⟨vf, rfl, fa, ba⟩
              have HA : Hid (LM w0.heap.size K Wa g S M (.slice va vn vc) xs ∧ Below w0.heap.size w0 Wa ∧ w0.heap.size ≤ Wa.heap.size ∧ Below Wp.heap.size Wp Wa ∧ Fls (Wi.heap.size ≤ ·) Wa vf (Dk.crash S o.n o.cs)) := ⟨HI.out.1.kept ba, andThen HI.out.2.1 ba, Nat.le_trans HI.out.2.2.1 ba.size, andThen HI.out.2.2.2 ba, fa⟩
              have HHS : Hid (Calls Try.prog 40 #[vf, .slice va vn vc] Wa fun e w' => e = .returned (.bool true) ∧ Below Wa.heap.size Wa w') := dlhas_any _ _ _ _ _ _ xs Wa fa HA.out.1.wm fun x hx hs => by
                obtain ⟨y, h1, h2, h3, h4⟩ := HW.out.2.2.2.1.crash HW.out.1 o.n o.cs x.1 (List.mem_map.2 ⟨x, hx, rfl⟩) hs
                exact ⟨y, h1, h2, by unfold bgn; exact decide_eq_true ⟨h4, h3⟩⟩
              clear fa ba HF2 r0 r1 r2 r3 r4 r5 r6 r7
              go_wp2_with fail
              refine HHS.out.mono ?_
              rintro e Wb ⟨rfl, bb⟩
              have HB : Hid (LM w0.heap.size K Wb g S M (.slice va vn vc) xs ∧ Below w0.heap.size w0 Wb ∧ w0.heap.size ≤ Wb.heap.size ∧ Below Wp.heap.size Wp Wb ∧ Fls (Wi.heap.size ≤ ·) Wb vf (Dk.crash S o.n o.cs)) := ⟨HA.out.1.kept bb, andThen HA.out.2.1 bb, Nat.le_trans HA.out.2.2.1 bb.size, andThen HA.out.2.2.2.1 bb, HA.out.2.2.2.2.kept bb⟩
              clear bb HHS HA
              obtain ⟨r0, r1, r2, r3, r4, r5, r6, r7⟩ := HLP.out Wb (HB.out.2.2.2.1.block p HP.out.2.2.1).symm
              rw [hk15] at r0
              obtain ⟨fs, hfs⟩ : ∃ l, l = Dk.crash S o.n o.cs := ⟨_, rfl⟩
              have HFS : Hid (Dk.Gd fs ∧ fs.length ≤ k + 2 ∧ (Dk.flen fs : Int) ≤ pq ∧ ∀ x ∈ fs, x.2.length ≤ 1000000000) := by
                rw [hfs]
                have hfl := Dk.crash_len HW.out.1 HW.out.2.1 o.n o.cs
                rw [HW.out.2.2.1] at hfl
                refine ⟨Dk.crash_gd HW.out.1 HP.out.1.dm.la.1 _ _, ?_, hfl, fun x hx => ?_⟩
                · rw [Dk.crash_rows]
                  exact Nat.le_trans (Dk.lvN_nn S o.n) HW.out.2.2.2.2.1
                · have h8 := Dk.flen_mem _ x hx
                  have := HPQ.out.2
                  omega
              rw [← hfs] at HB
              clear hfs
              have HF3 : Hid (Calls Try.prog 33 #[.int .i64 pq, vf] Wb fun e w' => ∃ g S' M', e = .returned (.tuple #[.pointer (some ⟨g, 0, none⟩), .int .i64 0]) ∧ DM Wb.heap.size w' g S' M' ∧ Dk.WF S' fs.length ∧ Dk.LG pq fs S' ∧ Below Wb.heap.size Wb w') := dkload_good pq _ vf _ Wb HB.out.2.2.2.2 (by have := HFS.out.2.1; omega) HFS.out.1 ⟨by omega, hpb.2⟩ HFS.out.2.2.1
              go_wp2_with fail
              clear r0 r1 r2 r3 r4 r5 r6 r7
              refine HF3.out.mono ?_
              rintro e Wc ⟨ge, Se, Me, rfl, dc, wc, lc, bc⟩
              have HC : Hid ((∀ W, Below Wc.heap.size Wc W → DM w0.heap.size W ge Se Me) ∧ Dk.WF Se fs.length ∧ Dk.LG pq fs Se ∧ (∀ W, Below Wc.heap.size Wc W → Below w0.heap.size w0 W ∧ Fls (Wi.heap.size ≤ ·) W vf fs)) := ⟨fun W hW => (dc.kept hW).low HB.out.2.2.1, wc, lc, fun W hW => by
                have h9 := andThen bc hW
                exact ⟨andThen HB.out.2.1 h9, HB.out.2.2.2.2.kept h9⟩⟩
              have HBC : Hid (Below Wc.heap.size Wc Wc) := Below.refl _ _
              clear dc wc lc bc HF3
              go_wp2_with fail
              refine (dlnum_any _ _).mono ?_
              rintro e W ⟨rfl, rfl⟩
              have HF5 : Hid (Calls Try.prog 13 #[.pointer (some ⟨ge, 0, none⟩)] W fun e w' => ∃ v, e = .returned v ∧ Fls (W.heap.size ≤ ·) w' v fs ∧ Below W.heap.size W w') := by
                have h9 := dkfiles_wf _ ge Se Me _ W (HC.out.1 W HBC.out) HC.out.2.1 (by have := HFS.out.2.1; omega)
                rw [HC.out.2.2.1.files] at h9
                exact h9
              go_wp2_with fail
              refine HF5.out.mono ?_
              rintro e We ⟨ve, rfl, fe, be⟩
              have HL1 : Hid (Calls Try.prog 17 #[ve, vf] We fun e w' => e = .returned (.bool true) ∧ Below We.heap.size We w') := dlfalike_yes _ _ _ _ _ _ fe (HC.out.2.2.2 We be).2
              have HBe : Hid (Below W.heap.size W We) := be
              clear fe be HF5
              go_wp2_with fail
              refine HL1.out.mono ?_
              rintro e Wf ⟨rfl, bx⟩
              have HBf : Hid (Below W.heap.size W Wf) := andThen HBe.out bx
              have HKW : Hid (Calls Try.prog 38 #[vf] Wf fun e w' => ∃ v' K ys, e = .returned v' ∧ ys.map (·.1) = fs.map Dk.kw ∧ LM w0.heap.size K w' ge Se Me v' ys ∧ Below w0.heap.size w0 w') := (dlknown_any _ vf fs Wf (HC.out.2.2.2 Wf HBf.out).2 (by have := HFS.out.2.1; omega) HFS.out.2.2.2).mono fun e w' ⟨v', ys, h1, h2, h3, h4⟩ => ⟨v', _, ys, h1, h3, LM.new (HC.out.1 Wf HBf.out) h4 h2 (HC.out.2.2.2 Wf HBf.out).1.size, andThen (HC.out.2.2.2 Wf HBf.out).1 h4⟩
              clear bx HL1
              go_wp2_with fail
              refine HKW.out.mono ?_
              rintro e Wg ⟨vg, Kg, yg, rfl, hyg, lmg, bg⟩
              have HG : Hid (LM w0.heap.size Kg Wg ge Se Me vg yg ∧ Below w0.heap.size w0 Wg ∧ Dk.Kn Se (yg.map (·.1)) ∧ yg.length ≤ k + 2) := ⟨lmg, bg, by
                rw [hyg, ← HC.out.2.2.1.files]
                exact Dk.Kn.known lmg.dm.nm.1 HC.out.2.2.1.ch HC.out.2.2.1.la HC.out.2.2.1.sy, by
                have h9 := congrArg List.length hyg
                rw [List.length_map, List.length_map] at h9
                rw [h9]
                exact HFS.out.2.1⟩
              have HSE : Hid (Dk.WF Se (k + 1 + 2) ∧ Dk.WG Se ∧ Se.quota = pq ∧ Dk.nn Se ≤ k + 1 + 2) := by
                have h1 := HC.out.2.1
                have h2 := HC.out.2.2.1
                refine ⟨h1.mono (by have := HFS.out.2.1; omega), Dk.WG.flat h1 h2.ch h2.la, h2.quota, ?_⟩
                unfold Dk.nn
                rw [h2.ch, h2.la]
                have h3 := h1.n1
                have h4 := HFS.out.2.1
                simp only [List.length_nil]
                omega
              clear hyg lmg bg HKW
              go_wp2_with fail
              go_roundw
              case rel => exact ⟨k + 1, Kg, ge, Me, Se, yg, by omega, by go_num, rfl, HG.out.1, ⟨HSE.out.1, HSE.out.2.1, HSE.out.2.2.1, HG.out.2.2.1, HSE.out.2.2.2, by have := HG.out.2.2.2; omega⟩, HG.out.2.1⟩
              case measure => simp [intOf]; omega
          · have x12 : (o.k == 12) = false := by simpa using hk12
            have x14 : (o.k == 14) = false := by
              rw [beq_eq_false_iff_ne]
              exact fun e => hcr (.inl e)
            have x15 : (o.k == 15) = false := by
              rw [beq_eq_false_iff_ne]
              exact fun e => hcr (.inr e)
            clear hk12 hcr
            go_wp2_with fail
            refine HCH.out.mono ?_
            rintro e Wi ⟨rfl, bi⟩
            have HI : Hid (Below Wp.heap.size Wp Wi) := bi
            clear bi HCH r0 r1 r2 r3 r4 r5 r6 r7
            obtain ⟨r0, r1, r2, r3, r4, r5, r6, r7⟩ := HLP.out Wi (HI.out.block p HP.out.2.2.1).symm
            go_wp2_with fail
            go_roundw
            case rel => exact ⟨k + 1, K, g, M, S, xs, by omega, by go_num, rfl, HP.out.1.kept HI.out, ⟨HW.out.1.mono (by omega), HW.out.2.1, HW.out.2.2.1, HW.out.2.2.2.1, by have := HW.out.2.2.2.2.1; omega, by have := HW.out.2.2.2.2.2; omega⟩, andThen HP.out.2.1 HI.out⟩
            case measure => simp [intOf]; omega
    · go_wp2_with fail
      go_returns
      exact ⟨rfl, HD.out.2⟩
end Go.Proofs.Ytjepeeopjjnglaa
