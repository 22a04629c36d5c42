/-
  DiskArmed: the walk.
-/
import Derived.Test.YtjepeeopjjnglaaDkz
namespace Go.Proofs.Ytjepeeopjjnglaa
open Go Go.RowKit Go.ChangeShapes
open Wb

theorem row_len0 {w : World} {B : Nat} {t : TypeId} {c : Nat} {v : Value} {cells : List Value} (h : w.ownsRow B t c v 0 cells) : ∃ a c', v = .slice a 0 c' := by
  rcases h.2 with ⟨e, -⟩ | ⟨g, cap, cur, e, -⟩
  · exact ⟨_, _, e⟩
  · exact ⟨_, _, e⟩
set_option maxRecDepth 100000 in
set_option maxHeartbeats 16000000 in
theorem diskArmed_walk (q : Int) (vs : Value) (n : Nat) (nn : Int) (keep : Int) (cv : Value) (cs : List (Int × Int)) (w : World) (hs : OpS w vs n) (hn : n ≤ 1048576) (hc : CtS w cv cs) (hnn : nn ≤ 9223372036854775807) :
    Calls Try.prog 7 #[.int .i64 q, vs, .int .i64 nn, .int .i64 keep, cv] w fun e w' => e = .returned (.bool true) ∧ Below w.heap.size w w' := by
  obtain ⟨sa, sc, hve, hs1, hs2, hs3⟩ := hs
  subst hve
  have HS : Hid (∀ k, k < n → ∃ b off o, sa = some ⟨b, off, none⟩ ∧ (∀ i x, (opc o)[i]? = some x → w.cell? ⟨b, off + k * 8 + i, none⟩ = some x) ∧ OpOk w o) := hs3
  obtain ⟨pq, hpq⟩ : ∃ p, p = Dk.proper q := ⟨_, rfl⟩
  have hpb : 16 ≤ pq ∧ pq ≤ 4194304 := by
    rw [hpq]
    unfold Dk.proper
    split <;> omega
  have HPQ : Hid (16 ≤ pq ∧ pq ≤ 4194304) := hpb
  have HPC : Hid (Calls Try.prog 9 #[.int .i64 q] w fun e w' => e = .returned (.int .i64 pq) ∧ w' = w) := by
    rw [hpq]
    exact dlproper_any q w
  have HRD : Hid (Calls Try.prog 10 #[.int .i64 pq] w fun e w' => ∃ g f M, e = .returned (.pointer (some ⟨g, 0, none⟩)) ∧ DM w.heap.size w' g (Dk.rdy pq f) M ∧ Below w.heap.size w w') := dlready_any pq w HPQ.out
  unfold maxLen at hs2
  have HCV : Hid (CtS w cv cs) := hc
  clear hs3 hpq hc
  go_enter Try.func7, Try.ntmps7
  go_wp2_with fail
  refine HPC.out.mono ?_
  rintro e w' ⟨rfl, rfl⟩
  go_wp2_with fail
  refine HRD.out.mono ?_
  rintro e W1 ⟨g, f, M1, rfl, d1, b1⟩
  have HR2 : Hid (Calls Try.prog 10 #[.int .i64 pq] W1 fun e W => ∃ h f2 M2, e = .returned (.pointer (some ⟨h, 0, none⟩)) ∧ TW w'.heap.size W g (Dk.rdy pq f) M1 h (Dk.rdy pq f2) M2 ∧ Below w'.heap.size w' W) := (dlready_any pq W1 HPQ.out).mono fun e W ⟨h, f2, M2, h1, h2, h3⟩ => ⟨h, f2, M2, h1, TW.new d1 h2 h3 (h2.low b1.size), andThen b1 h3⟩
  clear d1 b1 HPC HRD
  go_wp2_with fail
  refine HR2.out.mono ?_
  rintro e W2 ⟨h, f2, M2, rfl, t2, b2⟩
  have HD1 : Hid (Calls Try.prog 36 #[.pointer (some ⟨g, 0, none⟩)] W2 fun e W => e = .returned (.bool false) ∧ W = W2) := dkdown_any _ g _ _ W2 t2.l
  have HD2 : Hid (Calls Try.prog 36 #[.pointer (some ⟨h, 0, none⟩)] W2 fun e W => e = .returned (.bool false) ∧ W = W2) := dkdown_any _ h _ _ W2 t2.r
  have HAR : Hid (Calls Try.prog 32 #[.pointer (some ⟨h, 0, none⟩), .int .i64 nn] W2 fun e W => e = .returned (.tuple #[]) ∧ ∃ M3, TW w'.heap.size W g (Dk.rdy pq f) M1 h (Dk.arm (Dk.rdy pq f2) nn) M3 ∧ Below w'.heap.size w' W) := (dkarm_any _ h _ _ nn W2 t2.r).mono fun e W ⟨h1, h2, h3⟩ => by
    have hp : DPost w'.heap.size h (Dk.rdy pq f2) M2 W2 (Dk.arm (Dk.rdy pq f2) nn) W := DPost.of h2 h3 fun q hq => hq
    obtain ⟨M3, t3⟩ := t2.right hp
    obtain ⟨-, -, b3, -⟩ := hp.out t2.r b2.size
    exact ⟨h1, M3, t3, b2.trans b3⟩
  clear t2 b2 HR2
  go_wp2_with fail
  refine HD1.out.mono ?_
  rintro e W ⟨rfl, rfl⟩
  go_wp2_with fail
  refine HD2.out.mono ?_
  rintro e W ⟨rfl, rfl⟩
  go_wp2_with fail
  refine HAR.out.mono ?_
  rintro e W3 ⟨rfl, M3, t3, b3⟩
  have H3 : Hid (TW w'.heap.size W3 g (Dk.rdy pq f) M1 h (Dk.arm (Dk.rdy pq f2) nn) M3 ∧ Below w'.heap.size w' W3) := ⟨t3, b3⟩
  clear t3 b3 HAR HD1 HD2
  go_wp2_with fail
  obtain ⟨w0, hw0⟩ : ∃ x, x = w' := ⟨_, rfl⟩
  subst hw0
  go_loopw [13, 14] (fun dn i wr => ∃ (k d : Nat) (φ : Nat → Nat) (M M' : Mm) (S T : Dk.DS), k ≤ n ∧ d ≤ k ∧ i = .int .i64 (k : Int) ∧ dn = .int .i64 (d : Int) ∧ TW w0.heap.size wr g S M h T M' ∧ (Dk.WF S (k + 2) ∧ Dk.WF T (k + 2)) ∧ Dk.Iso φ S T ∧ (∀ x ∈ S.ids, φ x ∈ T.ids) ∧ (S.armed = false ∧ S.down = false ∧ T.down = false) ∧ (T.armed = decide (0 ≤ nn) ∧ (0 ≤ nn → T.left = nn - d ∧ (d : Int) ≤ nn)) ∧ Below w0.heap.size w0 wr) (fun _ i _ => n - (intOf i).toNat)
  case atStart => exact ⟨0, 0, fun _ => f2, M1, M3, _, _, Nat.zero_le _, Nat.le_refl _, rfl, rfl, H3.out.1, ⟨(Dk.wf4 pq f HPQ.out).mono (by omega), ((Dk.wf4 pq f2 HPQ.out).mono (by omega)).arm nn hnn⟩, Dk.iso0 pq f f2 nn, (fun x _ => by show f2 ∈ [f2]; simp), ⟨rfl, rfl, rfl⟩, ⟨rfl, fun h0 => ⟨by show nn = nn - ((0 : Nat) : Int); omega, h0⟩⟩, H3.out.2⟩
  case round =>
    obtain ⟨k, d, φ, M, M', S, T, hk, hdk, rfl, rfl, htw, hwf, hiso, hrg, har, hlf, hb⟩ := hrel
    have HD : Hid (TW w0.heap.size wr g S M h T M' ∧ Below w0.heap.size w0 wr) := ⟨htw, hb⟩
    have HW : Hid ((Dk.WF S (k + 2) ∧ Dk.WF T (k + 2)) ∧ Dk.Iso φ S T ∧ (∀ x ∈ S.ids, φ x ∈ T.ids) ∧ (S.armed = false ∧ S.down = false ∧ T.down = false) ∧ (T.armed = decide (0 ≤ nn) ∧ (0 ≤ nn → T.left = nn - d ∧ (d : Int) ≤ nn))) := ⟨hwf, hiso, hrg, har, hlf⟩
    clear htw hwf hiso hrg har hlf hb H3
    by_cases hlt : k < n
    · obtain ⟨b, off, o, hsa, hcell, hok⟩ := HS.out k hlt
      subst hsa
      have key : ∀ i x, (opc o)[i]? = some x → wr.cell? ⟨b, off + k * 8 + i, none⟩ = some x := fun i x hx => (HD.out.2.cell (p := ⟨b, _, none⟩) (World.block_lt_of_cell? _ _ (hcell i x hx))).trans (hcell i x hx)
      have r0 := key 0 _ rfl
      have r1 := key 1 _ rfl
      have r2 := key 2 _ rfl
      have r3 := key 3 _ rfl
      have r4 := key 4 _ rfl
      have r5 := key 5 _ rfl
      have r6 := key 6 _ rfl
      have r7 := key 7 _ rfl
      simp only [Nat.add_zero] at r0
      have HOK : Hid (OpOk w0 o) := hok
      clear hcell hok key
      go_upto_region 12 with fail
      have bw := up0 wr (.cells (opc o).toArray 33)
      have lw := lb_new wr (opc o) 33
      unfold opc at bw
      obtain ⟨p, hp⟩ : ∃ p, p = wr.heap.size := ⟨_, rfl⟩
      obtain ⟨Wp, hWp⟩ : ∃ W, W = wr.alloc (.cells #[.int .i64 o.k, .bool o.two, .string o.a, .string o.b, .int .i64 o.n, .slice o.da o.data.length o.dc, .slice o.ca o.cs.length o.cc, .slice o.fa o.fn o.fc] 33) := ⟨_, rfl⟩
      have lp : LB Wp p 33 (opc o) := by rw [hWp, hp]; exact lw
      have bp : Below wr.heap.size wr Wp := by rw [hWp]; exact bw
      rw [← hWp, ← hp]
      have HLP : Hid (∀ W : World, Wp.heap[p]? = W.heap[p]? → W.cell? ⟨p, 0, none⟩ = some (.int .i64 o.k) ∧ W.cell? ⟨p, 1, none⟩ = some (.bool o.two) ∧ W.cell? ⟨p, 2, none⟩ = some (.string o.a) ∧ W.cell? ⟨p, 3, none⟩ = some (.string o.b) ∧ W.cell? ⟨p, 4, none⟩ = some (.int .i64 o.n) ∧ W.cell? ⟨p, 5, none⟩ = some (.slice o.da o.data.length o.dc) ∧ W.cell? ⟨p, 6, none⟩ = some (.slice o.ca o.cs.length o.cc) ∧ W.cell? ⟨p, 7, none⟩ = some (.slice o.fa o.fn o.fc)) := fun W hW => by
        have l9 : LB W p 33 (opc o) := by
          unfold LB at lp ⊢
          rw [← hW]
          exact lp
        exact ⟨l9.cell 0 _ rfl, l9.cell 1 _ rfl, l9.cell 2 _ rfl, l9.cell 3 _ rfl, l9.cell 4 _ rfl, l9.cell 5 _ rfl, l9.cell 6 _ rfl, l9.cell 7 _ rfl⟩
      have HP : Hid (TW w0.heap.size Wp g S M h T M' ∧ Below w0.heap.size w0 Wp ∧ p < Wp.heap.size ∧ ∀ q, Ft g S M q ∨ Ft h T M' q → q < p) := ⟨HD.out.1.kept bp, andThen HD.out.2 bp, by unfold LB at lp; exact (Array.getElem?_eq_some_iff.1 lp).1, fun q hq => by rw [hp]; exact hq.elim (fun e => (HD.out.1.l.ft e).2) (fun e => (HD.out.1.r.ft e).2)⟩
      clear r0 r1 r2 r3 r4 r5 r6 r7 lw bw lp bp hWp hp
      obtain ⟨r0, r1, r2, r3, r4, r5, r6, r7⟩ := HLP.out Wp rfl
      have HCH : Hid (Calls Try.prog 11 #[.agg #[.int .i64 o.k, .bool o.two, .string o.a, .string o.b, .int .i64 o.n, .slice o.da o.data.length o.dc, .slice o.ca o.cs.length o.cc, .slice o.fa o.fn o.fc]] Wp fun e w' => e = .returned (.bool (Dk.chg o)) ∧ Below Wp.heap.size Wp w') := dlchanging_any o Wp
      cases hch : Dk.chg o with
      | true =>
        rw [hch] at HCH
        clear hch
        go_wp2_with fail
        refine HCH.out.mono ?_
        rintro e Wk ⟨rfl, bi⟩
        have HK : Hid (Below Wp.heap.size Wp Wk) := bi
        have HN4 : Hid (k + 2 ≤ 100000000) := by show k + 2 ≤ _; omega
        clear bi HCH r0 r1 r2 r3 r4 r5 r6 r7
        have HF1 : Hid (Calls Try.prog 13 #[.pointer (some ⟨g, 0, none⟩)] Wk fun e w' => ∃ v, e = .returned v ∧ Fls (Wk.heap.size ≤ ·) w' v (Dk.files S) ∧ Below Wk.heap.size Wk w') := dkfiles_wf _ g S M _ Wk (HP.out.1.l.kept HK.out) HW.out.1.1 (by have := HN4.out; omega)
        go_wp2_with fail
        refine HF1.out.mono ?_
        rintro e Wa ⟨v1, rfl, fa, ba⟩
        have HA : Hid (Fls (Wp.heap.size ≤ ·) Wa v1 (Dk.files S) ∧ Below Wp.heap.size Wp Wa) := ⟨fa.mono fun x hx => Nat.le_trans HK.out.size hx, andThen HK.out ba⟩
        have HF2 : Hid (Calls Try.prog 14 #[.pointer (some ⟨g, 0, none⟩), .int .i64 keep, cv] Wa fun e w' => ∃ v, e = .returned v ∧ Fls (Wa.heap.size ≤ ·) w' v (Dk.crash S keep cs) ∧ Below Wa.heap.size Wa w') := dkcrash_wf _ g S M _ keep cv cs Wa (HP.out.1.l.kept HA.out.2) (HCV.out.kept (andThen HP.out.2.1 HA.out.2)) HW.out.1.1 (by have := HN4.out; omega)
        clear fa ba HF1
        go_wp2_with fail
        refine HF2.out.mono ?_
        rintro e Wb ⟨v2, rfl, fb, bb⟩
        have HB : Hid (Fls (Wp.heap.size ≤ ·) Wb v1 (Dk.files S) ∧ Fls (Wp.heap.size ≤ ·) Wb v2 (Dk.crash S keep cs) ∧ Below Wp.heap.size Wp Wb) := ⟨HA.out.1.kept bb, fb.mono fun x hx => Nat.le_trans HA.out.2.size hx, andThen HA.out.2 bb⟩
        clear fb bb HF2 HA
        obtain ⟨r0, r1, r2, r3, r4, r5, r6, r7⟩ := HLP.out Wb (HB.out.2.2.block p HP.out.2.2.1).symm
        obtain ⟨E, hE⟩ : ∃ E, E = Dk.doE S o := ⟨_, rfl⟩
        have HE : Hid (E = Dk.doE S o) := hE
        have HDO : Hid (Calls Try.prog 12 #[.pointer (some ⟨g, 0, none⟩), .agg #[.int .i64 o.k, .bool o.two, .string o.a, .string o.b, .int .i64 o.n, .slice o.da o.data.length o.dc, .slice o.ca o.cs.length o.cc, .slice o.fa o.fn o.fc]] Wb fun e w' => ∃ f, Wb.heap.size ≤ f ∧ e = .returned (.int .i64 E) ∧ DPost w0.heap.size g S M Wb (Dk.doS S o f) w') := by
          rw [HE.out]
          exact dldo_any _ g S M (k + 2) o Wb (HP.out.1.l.kept HB.out.2.2) (Nat.le_trans HP.out.2.1.size HB.out.2.2.size) HW.out.1.1 (by have := HN4.out; omega) HOK.out.1.1 HOK.out.1.2 (HOK.out.2.1.kept (andThen HP.out.2.1 HB.out.2.2)) (fun hne q x e => Bs.old HOK.out.2.1 hne q x e)
        clear hE
        go_wp2_with fail
        refine HDO.out.mono ?_
        rintro e Wc ⟨f9, hf9, rfl, hp9⟩
        have HC : Hid ((∃ M2, TW w0.heap.size Wc g (Dk.doS S o f9) M2 h T M') ∧ Fls (Wp.heap.size ≤ ·) Wc v1 (Dk.files S) ∧ Fls (Wp.heap.size ≤ ·) Wc v2 (Dk.crash S keep cs) ∧ Below w0.heap.size w0 Wc ∧ Wc.heap[p]? = Wp.heap[p]? ∧ f9 ∉ S.ids ∧ Wp.heap.size ≤ Wc.heap.size) := by
          have t9 := HP.out.1.kept HB.out.2.2
          obtain ⟨M3, g1, g2, g3⟩ := hp9
          have h2 := g2.below _ (Nat.le_trans HP.out.2.1.size HB.out.2.2.size) fun q hq => (t9.l.ft hq).1
          have hbl : ∀ q, Wp.heap.size ≤ q → q < Wb.heap.size → Wc.heap[q]? = Wb.heap[q]? := fun q e1 e2 => g2.block q e2 fun e => by
            have h8 := (HP.out.1.l.ft e).2
            omega
          have hfr : f9 ∉ S.ids := fun e => by
            have h8 := (t9.l.ft (q := f9) (.inr (.inr (.inr (.inr ⟨f9, e, .inl rfl⟩))))).2
            omega
          refine ⟨?_, HB.out.1.blk hbl, HB.out.2.1.blk hbl, (andThen HP.out.2.1 HB.out.2.2).trans h2, ?_, hfr, Nat.le_trans HB.out.2.2.size g2.size⟩
          · exact t9.left ⟨M3, g1, g2, g3⟩
          · rw [g2.block p (Nat.lt_of_lt_of_le HP.out.2.2.1 HB.out.2.2.size) (fun e => by have := HP.out.2.2.2 p (.inl e); omega)]
            exact HB.out.2.2.block p HP.out.2.2.1
        clear hp9 HDO r0 r1 r2 r3 r4 r5 r6 r7 hf9
        obtain ⟨⟨M2, htw2⟩, hc2⟩ := HC.out
        have HC2 : Hid (TW w0.heap.size Wc g (Dk.doS S o f9) M2 h T M') := htw2
        clear htw2 hc2
        obtain ⟨r0, r1, r2, r3, r4, r5, r6, r7⟩ := HLP.out Wc HC.out.2.2.2.2.1.symm
        obtain ⟨F, hF⟩ : ∃ F, F = Dk.doE T o := ⟨_, rfl⟩
        have HF : Hid (F = Dk.doE T o) := hF
        have HDO : Hid (Calls Try.prog 12 #[.pointer (some ⟨h, 0, none⟩), .agg #[.int .i64 o.k, .bool o.two, .string o.a, .string o.b, .int .i64 o.n, .slice o.da o.data.length o.dc, .slice o.ca o.cs.length o.cc, .slice o.fa o.fn o.fc]] Wc fun e w' => ∃ f, Wc.heap.size ≤ f ∧ e = .returned (.int .i64 F) ∧ DPost w0.heap.size h T M' Wc (Dk.doS T o f) w') := by
          rw [HF.out]
          exact dldo_any _ h T M' (k + 2) o Wc HC2.out.r HC.out.2.2.2.1.size HW.out.1.2 (by have := HN4.out; omega) HOK.out.1.1 HOK.out.1.2 (HOK.out.2.1.kept HC.out.2.2.2.1) (fun hne q x e => Bs.old HOK.out.2.1 hne q x e)
        clear hF
        go_wp2_with fail
        refine HDO.out.mono ?_
        rintro e Wd ⟨f8, hf8, rfl, hp8⟩
        obtain ⟨M3, p1, p2, p3⟩ := hp8
        have HX : Hid (Below w0.heap.size w0 Wd ∧ f8 ∉ T.ids ∧ (∀ q, Wp.heap.size ≤ q → q < Wc.heap.size → Wd.heap[q]? = Wc.heap[q]?) ∧ ∀ q, Ft h (Dk.doS T o f8) M3 q → q < Wp.heap.size ∨ Wc.heap.size ≤ q) := by
          have hbl : ∀ q, Wp.heap.size ≤ q → q < Wc.heap.size → Wd.heap[q]? = Wc.heap[q]? := fun q e1 e2 => p2.block q e2 fun e => by
            have h8 := (HP.out.1.r.ft e).2
            omega
          have hfr : f8 ∉ T.ids := fun e => by
            have h8 := (HC2.out.r.ft (q := f8) (.inr (.inr (.inr (.inr ⟨f8, e, .inl rfl⟩))))).2
            omega
          exact ⟨HC.out.2.2.2.1.trans (p2.below _ HC.out.2.2.2.1.size fun q hq => (HC2.out.r.ft hq).1), hfr, hbl, fun q hq => (p3 q hq).elim (fun e => .inl (HP.out.1.r.ft e).2) .inr⟩
        have HX2 : Hid (TW w0.heap.size Wd g (Dk.doS S o f9) M2 h (Dk.doS T o f8) M3) := ⟨HC2.out.l.blk fun q hq => p2.block q (HC2.out.l.ft hq).2 fun e => HC2.out.ap q hq e, p1, fun q hq hq2 => (p3 q hq2).elim (fun e => HC2.out.ap q hq e) (fun e => by have h8 := (HC2.out.l.ft hq).2; omega)⟩
        have HCD : Hid (Wc.heap.size ≤ Wd.heap.size) := p2.size
        clear p1 p2 p3 HDO r0 r1 r2 r3 r4 r5 r6 r7 hf8
        have HWN : Hid (Dk.WF (Dk.doS S o f9) (k + 1 + 2) ∧ Dk.WF (Dk.doS T o f8) (k + 1 + 2)) := ⟨HW.out.1.1.do o f9 HC.out.2.2.2.2.2.1, HW.out.1.2.do o f8 HX.out.2.1⟩
        have HIB : Hid (Dk.doE S o = 0 → T.armed = true → T.left = 0 → Dk.doE T o = 60 ∧ (Dk.doS T o f8).down = true ∧ Dk.Iso φ S (Dk.doS T o f8)) := fun h1 h2 h3 => HW.out.2.1.ends (HW.out.2.2.2.1.2.2.trans HW.out.2.2.2.1.2.1.symm) HW.out.2.2.2.1.1 HW.out.1.1 o f8 h1 h2 h3
        have HIA : Hid (Dk.doE S o ≠ 0 ∨ (Dk.cnt T).1 = 0 → Dk.doE T o = Dk.doE S o ∧ (∃ φ' : Nat → Nat, Dk.Iso φ' (Dk.doS S o f9) (Dk.doS T o f8) ∧ ∀ k ∈ (Dk.doS S o f9).ids, φ' k ∈ (Dk.doS T o f8).ids) ∧ (Dk.doS T o f8).down = T.down ∧ (Dk.doS T o f8).armed = T.armed ∧ (Dk.doS T o f8).left = if Dk.doE S o = 0 ∧ T.armed = true then T.left - 1 else T.left) := fun hgo => HW.out.2.1.step (HW.out.2.2.2.1.2.2.trans HW.out.2.2.2.1.2.1.symm) HW.out.2.2.2.1.1 HW.out.1.1 HW.out.2.2.1 o f9 f8 HC.out.2.2.2.2.2.1 HX.out.2.1 hgo
        have HSF : Hid ((Dk.doS S o f9).armed = false ∧ (Dk.doS S o f9).down = false) := ⟨Dk.do_arm HW.out.2.2.2.1.1 o f9, (Dk.do_down HW.out.2.2.2.1.1 o f9).trans HW.out.2.2.2.1.2.1⟩
        by_cases hgo : nn < 0 ∨ E ≠ 0 ∨ (d : Int) < nn
        · have hst : Dk.doE S o ≠ 0 ∨ (Dk.cnt T).1 = 0 := by
            by_cases he : Dk.doE S o = 0
            · refine .inr (Dk.cnt_go fun hT => ?_)
              rw [HW.out.2.2.2.2.1] at hT
              have h9 := (HW.out.2.2.2.2.2 (of_decide_eq_true hT)).1
              have h8 := of_decide_eq_true hT
              rcases hgo with e1 | e1 | e1
              · omega
              · exact absurd (HE.out.trans he) e1
              · omega
            · exact .inl he
          obtain ⟨i1, ⟨φ2, i2, i3⟩, i4, i5, i6⟩ := HIA.out hst
          have hFE : F = E := HF.out.trans (i1.trans HE.out.symm)
          subst hFE
          have HI2 : Hid (Dk.Iso φ2 (Dk.doS S o f9) (Dk.doS T o f8) ∧ ∀ k ∈ (Dk.doS S o f9).ids, φ2 k ∈ (Dk.doS T o f8).ids) := ⟨i2, i3⟩
          have HTD : Hid ((Dk.doS T o f8).down = false) := i4.trans HW.out.2.2.2.1.2.2
          have HTA : Hid ((Dk.doS T o f8).armed = decide (0 ≤ nn) ∧ (0 ≤ nn → F = 0 → (d : Int) < nn → (Dk.doS T o f8).left = nn - ((d + 1 : Nat) : Int)) ∧ (0 ≤ nn → F ≠ 0 → (Dk.doS T o f8).left = nn - (d : Int))) := by
            refine ⟨i5.trans HW.out.2.2.2.2.1, fun h0 hz hd9 => ?_, fun h0 hz => ?_⟩
            · rw [i6, if_pos ⟨HE.out.symm.trans hz, by rw [HW.out.2.2.2.2.1]; exact decide_eq_true h0⟩, (HW.out.2.2.2.2.2 h0).1]
              omega
            · rw [i6, if_neg fun e => hz (HE.out.trans e.1), (HW.out.2.2.2.2.2 h0).1]
          have HDN : Hid (Calls Try.prog 36 #[.pointer (some ⟨h, 0, none⟩)] Wd fun e W => e = .returned (.bool false) ∧ W = Wd) := by
            have h9 := dkdown_any _ h _ _ Wd HX2.out.r
            rw [HTD.out] at h9
            exact h9
          have HG1 : Hid (Calls Try.prog 13 #[.pointer (some ⟨g, 0, none⟩)] Wd fun e w' => ∃ v, e = .returned v ∧ Fls (Wd.heap.size ≤ ·) w' v (Dk.files (Dk.doS S o f9)) ∧ Below Wd.heap.size Wd w') := dkfiles_wf _ g _ M2 _ Wd HX2.out.l HWN.out.1 (by have := HN4.out; omega)
          have HG2 : Hid (∀ W, Below Wd.heap.size Wd W → Calls Try.prog 13 #[.pointer (some ⟨h, 0, none⟩)] W fun e w' => ∃ v, e = .returned v ∧ Fls (W.heap.size ≤ ·) w' v (Dk.files (Dk.doS S o f9)) ∧ Below W.heap.size W w') := fun W hW => by
            have h9 := dkfiles_wf _ h _ M3 _ W (HX2.out.r.kept hW) HWN.out.2 (by have := HN4.out; omega)
            rw [HI2.out.1.files HWN.out.1] at h9
            exact h9
          have HEND : Hid (∀ W, Below Wd.heap.size Wd W → ∀ d2 : Nat, (0 ≤ nn → d2 = if F = 0 then d + 1 else d) → (0 ≤ nn → F = 0 → (d : Int) < nn) → d2 ≤ k + 1 → ∃ (k' d' : Nat) (φ' : Nat → Nat) (M9 M9' : Mm) (S' T' : Dk.DS), k' ≤ n ∧ d' ≤ k' ∧ Value.int .i64 ((k + 1 : Nat) : Int) = .int .i64 (k' : Int) ∧ Value.int .i64 (d2 : Int) = .int .i64 (d' : Int) ∧ TW w0.heap.size W g S' M9 h T' M9' ∧ (Dk.WF S' (k' + 2) ∧ Dk.WF T' (k' + 2)) ∧ Dk.Iso φ' S' T' ∧ (∀ x ∈ S'.ids, φ' x ∈ T'.ids) ∧ (S'.armed = false ∧ S'.down = false ∧ T'.down = false) ∧ (T'.armed = decide (0 ≤ nn) ∧ (0 ≤ nn → T'.left = nn - d' ∧ (d' : Int) ≤ nn)) ∧ Below w0.heap.size w0 W) := fun W hW d2 h1 h2 h3 => by
            refine ⟨k + 1, d2, φ2, M2, M3, _, _, by omega, h3, rfl, rfl, HX2.out.kept hW, HWN.out, HI2.out.1, HI2.out.2, ⟨HSF.out.1, HSF.out.2, HTD.out⟩, ⟨HTA.out.1, fun h0 => ?_⟩, andThen HX.out.1 hW⟩
            have h9 := h1 h0
            by_cases hz : F = 0
            · rw [if_pos hz] at h9
              rw [h9]
              have h8 := h2 h0 hz
              exact ⟨HTA.out.2.1 h0 hz h8, by omega⟩
            · rw [if_neg hz] at h9
              rw [h9]
              exact ⟨HTA.out.2.2 h0 hz, (HW.out.2.2.2.2.2 h0).2⟩
          clear i1 i2 i3 i4 i5 i6 hst HIA HIB
          have HGO : Hid (nn < 0 ∨ F ≠ 0 ∨ (d : Int) < nn) := hgo
          clear hgo
          by_cases hz : F = 0
          · have e0 : (F != 0) = false := by simpa using hz
            have e1 : (F == 0) = true := by simpa using hz
            by_cases hn0 : nn < 0
            · have n0 : (nn < 0) = True := eq_true hn0
              go_wp2_with fail
              refine HDN.out.mono ?_
              rintro e W ⟨rfl, rfl⟩
              go_wp2_with fail
              refine HG1.out.mono ?_
              rintro e We ⟨ve, rfl, fe, be⟩
              have HBe : Hid (Fls (W.heap.size ≤ ·) We ve (Dk.files (Dk.doS S o f9)) ∧ Below W.heap.size W We) := ⟨fe, be⟩
              clear fe be HG1
              go_wp2_with fail
              refine (HG2.out We HBe.out.2).mono ?_
              rintro e Wf ⟨vf, rfl, ff, bf⟩
              have HBf : Hid (Below W.heap.size W Wf) := andThen HBe.out.2 bf
              have HL1 : Hid (Calls Try.prog 17 #[ve, vf] Wf fun e w' => e = .returned (.bool true) ∧ Below Wf.heap.size Wf w') := dlfalike_yes _ _ _ _ _ _ (HBe.out.1.kept bf) ff
              clear ff bf HG2
              go_wp2_with fail
              refine HL1.out.mono ?_
              rintro e Wg ⟨rfl, bg⟩
              have HBg : Hid (Below W.heap.size W Wg) := andThen HBf.out bg
              clear bg HL1 HBe HBf
              go_wp2_with fail
              go_roundw
              case rel =>
                have h9 := HEND.out Wg HBg.out (d + 1) (fun _ => by rw [if_pos hz]) (fun h0 hz9 => absurd hn0 (by omega)) (by omega)
                simpa using h9
              case measure => simp [intOf]; omega
            · have n0 : (nn < 0) = False := eq_false hn0
              have hdl : (d : Int) < nn := by
                rcases HGO.out with e | e | e
                · exact absurd e hn0
                · exact absurd hz e
                · exact e
              have n1 : ((d : Int) < nn) = True := eq_true hdl
              go_wp2_with fail
              refine HDN.out.mono ?_
              rintro e W ⟨rfl, rfl⟩
              go_wp2_with fail
              refine HG1.out.mono ?_
              rintro e We ⟨ve, rfl, fe, be⟩
              have HBe : Hid (Fls (W.heap.size ≤ ·) We ve (Dk.files (Dk.doS S o f9)) ∧ Below W.heap.size W We) := ⟨fe, be⟩
              clear fe be HG1
              go_wp2_with fail
              refine (HG2.out We HBe.out.2).mono ?_
              rintro e Wf ⟨vf, rfl, ff, bf⟩
              have HBf : Hid (Below W.heap.size W Wf) := andThen HBe.out.2 bf
              have HL1 : Hid (Calls Try.prog 17 #[ve, vf] Wf fun e w' => e = .returned (.bool true) ∧ Below Wf.heap.size Wf w') := dlfalike_yes _ _ _ _ _ _ (HBe.out.1.kept bf) ff
              clear ff bf HG2
              go_wp2_with fail
              refine HL1.out.mono ?_
              rintro e Wg ⟨rfl, bg⟩
              have HBg : Hid (Below W.heap.size W Wg) := andThen HBf.out bg
              clear bg HL1 HBe HBf
              go_wp2_with fail
              go_roundw
              case rel =>
                have h9 := HEND.out Wg HBg.out (d + 1) (fun _ => by rw [if_pos hz]) (fun h0 hz9 => hdl) (by omega)
                simpa using h9
              case measure => simp [intOf]; omega
          · have e0 : (F != 0) = true := by simpa using hz
            have e1 : (F == 0) = false := by simpa using hz
            by_cases hn0 : nn < 0
            · have n0 : (nn < 0) = True := eq_true hn0
              go_wp2_with fail
              refine HDN.out.mono ?_
              rintro e W ⟨rfl, rfl⟩
              go_wp2_with fail
              refine HG1.out.mono ?_
              rintro e We ⟨ve, rfl, fe, be⟩
              have HBe : Hid (Fls (W.heap.size ≤ ·) We ve (Dk.files (Dk.doS S o f9)) ∧ Below W.heap.size W We) := ⟨fe, be⟩
              clear fe be HG1
              go_wp2_with fail
              refine (HG2.out We HBe.out.2).mono ?_
              rintro e Wf ⟨vf, rfl, ff, bf⟩
              have HBf : Hid (Below W.heap.size W Wf) := andThen HBe.out.2 bf
              have HL1 : Hid (Calls Try.prog 17 #[ve, vf] Wf fun e w' => e = .returned (.bool true) ∧ Below Wf.heap.size Wf w') := dlfalike_yes _ _ _ _ _ _ (HBe.out.1.kept bf) ff
              clear ff bf HG2
              go_wp2_with fail
              refine HL1.out.mono ?_
              rintro e Wg ⟨rfl, bg⟩
              have HBg : Hid (Below W.heap.size W Wg) := andThen HBf.out bg
              clear bg HL1 HBe HBf
              go_wp2_with fail
              go_roundw
              case rel =>
                have h9 := HEND.out Wg HBg.out d (fun _ => by rw [if_neg hz]) (fun h0 hz9 => absurd hn0 (by omega)) (by omega)
                simpa using h9
              case measure => simp [intOf]; omega
            · have n0 : (nn < 0) = False := eq_false hn0
              go_wp2_with fail
              refine HDN.out.mono ?_
              rintro e W ⟨rfl, rfl⟩
              go_wp2_with fail
              refine HG1.out.mono ?_
              rintro e We ⟨ve, rfl, fe, be⟩
              have HBe : Hid (Fls (W.heap.size ≤ ·) We ve (Dk.files (Dk.doS S o f9)) ∧ Below W.heap.size W We) := ⟨fe, be⟩
              clear fe be HG1
              go_wp2_with fail
              refine (HG2.out We HBe.out.2).mono ?_
              rintro e Wf ⟨vf, rfl, ff, bf⟩
              have HBf : Hid (Below W.heap.size W Wf) := andThen HBe.out.2 bf
              have HL1 : Hid (Calls Try.prog 17 #[ve, vf] Wf fun e w' => e = .returned (.bool true) ∧ Below Wf.heap.size Wf w') := dlfalike_yes _ _ _ _ _ _ (HBe.out.1.kept bf) ff
              clear ff bf HG2
              go_wp2_with fail
              refine HL1.out.mono ?_
              rintro e Wg ⟨rfl, bg⟩
              have HBg : Hid (Below W.heap.size W Wg) := andThen HBf.out bg
              clear bg HL1 HBe HBf
              go_wp2_with fail
              go_roundw
              case rel =>
                have h9 := HEND.out Wg HBg.out d (fun _ => by rw [if_neg hz]) (fun h0 hz9 => absurd hz9 hz) (by omega)
                simpa using h9
              case measure => simp [intOf]; omega
        · have hn0 : ¬ nn < 0 := fun e => hgo (.inl e)
          have hE0 : E = 0 := by
            by_cases e : E = 0
            · exact e
            · exact absurd (.inr (.inl e)) hgo
          have hdn : ¬ (d : Int) < nn := fun e => hgo (.inr (.inr e))
          have h0 : 0 ≤ nn := by omega
          obtain ⟨j1, j2, j3⟩ := HIB.out (HE.out.symm.trans hE0) (by rw [HW.out.2.2.2.2.1]; exact decide_eq_true h0) (by have h9 := HW.out.2.2.2.2.2 h0; omega)
          have hF60 : F = 60 := HF.out.trans j1
          subst hE0
          subst hF60
          obtain ⟨T2, hT2⟩ : ∃ x, x = Dk.doS T o f8 := ⟨_, rfl⟩
          have HJ : Hid (T2.down = true ∧ Dk.Iso φ S T2 ∧ Dk.WF T2 (k + 1 + 2)) := by
            rw [hT2]
            exact ⟨j2, j3, HWN.out.2⟩
          have HY : Hid (∀ W, Below Wd.heap.size Wd W → DM w0.heap.size W h T2 M3) := fun W hW => by
            rw [hT2]
            exact HX2.out.r.kept hW
          have HFT : Hid (∀ q, Ft h T2 M3 q → q < Wp.heap.size ∨ Wc.heap.size ≤ q) := by
            rw [hT2]
            exact HX.out.2.2.2
          have HLO : Hid (∀ W, Below Wd.heap.size Wd W → w0.heap.size ≤ W.heap.size) := fun W hW => Nat.le_trans HX.out.1.size hW.size
          clear j1 j2 j3 hgo HIA HIB hT2
          have n0 : (nn < 0) = False := eq_false hn0
          have n1 : ((d : Int) < nn) = False := eq_false hdn
          clear hn0 hdn h0
          have HRD2 : Hid (Calls Try.prog 15 #[.pointer (some ⟨h, 0, none⟩), .string ⟨#[122]⟩] Wd fun e w' => ∃ v, e = .returned (.tuple #[v, .int .i64 60]) ∧ Below Wd.heap.size Wd w') := (dkread_any _ h T2 M3 ⟨#[122]⟩ Wd (HY.out Wd (Below.refl _ _)) (by decide) HJ.out.2.2.ids (fun f hf => by have := (HJ.out.2.2.fl f hf).2; omega)).mono fun e w' ⟨v, h1, _, h3⟩ => ⟨v, by rw [h1, Dk.down_find HJ.out.1], h3⟩
          go_wp2_with fail
          refine HRD2.out.mono ?_
          rintro e We ⟨ve, rfl, be⟩
          have HBe : Hid (Below Wd.heap.size Wd We) := be
          clear be HRD2
          have HDW : Hid (∀ W, Below Wd.heap.size Wd W → Calls Try.prog 36 #[.pointer (some ⟨h, 0, none⟩)] W fun e W' => e = .returned (.bool true) ∧ W' = W) := fun W hW => by
            have h9 := dkdown_any _ h T2 M3 W (HY.out W hW)
            rw [HJ.out.1] at h9
            exact h9
          go_wp2_with fail
          refine (HDW.out We HBe.out).mono ?_
          rintro e W ⟨rfl, rfl⟩
          go_wp2_with fail
          refine (dlnum_any _ _).mono ?_
          rintro e W ⟨rfl, rfl⟩
          have HFR : Hid (Calls Try.prog 28 #[.pointer (some ⟨h, 0, none⟩)] W fun e w' => e = .returned (.int .i64 0) ∧ Below W.heap.size W w') := by
            have h9 := dkfree_any _ h T2 M3 W (HY.out W HBe.out) ⟨HJ.out.2.2.t0, HJ.out.2.2.tk, HJ.out.2.2.q⟩
            rw [Dk.down_free HJ.out.1] at h9
            exact h9
          go_wp2_with fail
          refine HFR.out.mono ?_
          rintro e Wg ⟨rfl, bg⟩
          have HBg : Hid (Below Wd.heap.size Wd Wg) := andThen HBe.out bg
          clear bg HFR
          have HLS : Hid (Calls Try.prog 16 #[.pointer (some ⟨h, 0, none⟩)] Wg fun e w' => ∃ a c, e = .returned (.slice a 0 c) ∧ Below Wg.heap.size Wg w') := (dklist_any _ h T2 M3 Wg (HY.out Wg HBg.out) (by have := HJ.out.2.2.n1; have := HN4.out; omega)).mono fun e w' ⟨v, h1, h2, h3⟩ => by
            rw [Dk.down_list HJ.out.1] at h2
            obtain ⟨a, c, h4⟩ := row_len0 h2
            exact ⟨a, c, by rw [h1, h4], h3⟩
          go_wp2_with fail
          refine HLS.out.mono ?_
          rintro e Wh ⟨ah, ch, rfl, bh⟩
          have HBh : Hid (Below Wd.heap.size Wd Wh) := andThen HBg.out bh
          clear bh HLS
          have HSD : Hid (Calls Try.prog 37 #[.pointer (some ⟨h, 0, none⟩)] Wh fun e w' => e = .returned (.int .i64 60) ∧ ∃ M4, DM w0.heap.size w' h T2 M4 ∧ IFr Wh w' (Ft h T2 M3) ∧ ∀ q, Ft h T2 M4 q → Ft h T2 M3 q ∨ Wh.heap.size ≤ q) := (dksyncdir_any _ h T2 M3 Wh (HY.out Wh HBh.out) (HLO.out Wh HBh.out) HJ.out.2.2.ar HJ.out.2.2.ids (by have hW := HJ.out.2.2; have := hW.tot; have := hW.tk; have := hW.q; omega)).mono fun e w' ⟨h1, h2⟩ => by
            rw [(Dk.down_sd HJ.out.1).1] at h1
            rw [(Dk.down_sd HJ.out.1).2] at h2
            exact ⟨h1, h2⟩
          go_wp2_with fail
          refine HSD.out.mono ?_
          rintro e Wi ⟨rfl, M4, di, fi, hi4⟩
          have HI : Hid (DM w0.heap.size Wi h T2 M4 ∧ (∀ q, Wp.heap.size ≤ q → q < Wc.heap.size → Wi.heap[q]? = Wc.heap[q]?) ∧ Below w0.heap.size w0 Wi ∧ Wc.heap.size ≤ Wi.heap.size) := by
            have hcd : Wc.heap.size ≤ Wd.heap.size := HCD.out
            refine ⟨di, fun q e1 e2 => ?_, (andThen HX.out.1 HBh.out).trans (fi.below _ (HLO.out Wh HBh.out) fun q hq => ((HY.out Wh HBh.out).ft hq).1), Nat.le_trans hcd (Nat.le_trans HBh.out.size fi.size)⟩
            rw [fi.block q (by have := HBh.out.size; omega) fun e => by
              rcases HFT.out q e with e3 | e3 <;> omega]
            rw [HBh.out.block q (by omega)]
            exact HX.out.2.2.1 q e1 e2
          clear di fi hi4 HSD
          go_wp2_with fail
          refine (dlnum_any _ _).mono ?_
          rintro e W ⟨rfl, rfl⟩
          have HAR : Hid (Calls Try.prog 32 #[.pointer (some ⟨h, 0, none⟩), .int .i64 (-1)] W fun e w' => e = .returned (.tuple #[]) ∧ DM w0.heap.size w' h T2 M4 ∧ Fls (Wp.heap.size ≤ ·) w' v1 (Dk.files S) ∧ Fls (Wp.heap.size ≤ ·) w' v2 (Dk.crash S keep cs) ∧ Below w0.heap.size w0 w') := (dkarm_any _ h T2 M4 (-1) W HI.out.1).mono fun e w' ⟨h1, h2, h3⟩ => by
            rw [Dk.down_arm HJ.out.1] at h2
            have hbl : ∀ q, Wp.heap.size ≤ q → q < Wc.heap.size → w'.heap[q]? = Wc.heap[q]? := fun q e1 e2 => by
              have hh : h < Wp.heap.size := (HP.out.1.r.ft (.inl rfl)).2
              rw [h3.block q (by have := HI.out.2.2.2; omega) fun e => by omega]
              exact HI.out.2.1 q e1 e2
            exact ⟨h1, h2, HC.out.2.1.blk hbl, HC.out.2.2.1.blk hbl, HI.out.2.2.1.trans (h3.below _ HI.out.2.2.1.size fun q hq => by rw [hq]; exact HI.out.1.gB)⟩
          go_wp2_with fail
          refine HAR.out.mono ?_
          rintro e Wj ⟨rfl, dj, fj1, fj2, bj⟩
          have HM : Hid (DM w0.heap.size Wj h T2 M4 ∧ Fls (Wp.heap.size ≤ ·) Wj v1 (Dk.files S) ∧ Fls (Wp.heap.size ≤ ·) Wj v2 (Dk.crash S keep cs) ∧ Below w0.heap.size w0 Wj) := ⟨dj, fj1, fj2, bj⟩
          clear dj fj1 fj2 bj HAR
          have HDN : Hid (Calls Try.prog 36 #[.pointer (some ⟨h, 0, none⟩)] Wj fun e W' => e = .returned (.bool true) ∧ W' = Wj) := by
            have h9 := dkdown_any _ h T2 M4 Wj HM.out.1
            rw [HJ.out.1] at h9
            exact h9
          go_wp2_with fail
          refine HDN.out.mono ?_
          rintro e Wl ⟨rfl, rfl⟩
          have HG1 : Hid (Calls Try.prog 13 #[.pointer (some ⟨h, 0, none⟩)] Wl fun e w' => ∃ v, e = .returned v ∧ Fls (Wl.heap.size ≤ ·) w' v (Dk.files S) ∧ Below Wl.heap.size Wl w') := by
            have h9 := dkfiles_wf _ h T2 M4 _ Wl HM.out.1 HJ.out.2.2 (by have := HN4.out; omega)
            rw [HJ.out.2.1.files HW.out.1.1] at h9
            exact h9
          go_wp2_with fail
          refine HG1.out.mono ?_
          rintro e Wm ⟨vm, rfl, fm, bm⟩
          have HBm : Hid (Below Wl.heap.size Wl Wm) := bm
          have HL1 : Hid (Calls Try.prog 17 #[vm, v1] Wm fun e w' => e = .returned (.bool true) ∧ Below Wm.heap.size Wm w') := dlfalike_yes _ _ _ _ _ _ fm (HM.out.2.1.kept bm)
          clear fm bm HG1
          go_wp2_with fail
          refine HL1.out.mono ?_
          rintro e Wn ⟨rfl, bn⟩
          have HBn : Hid (Below Wl.heap.size Wl Wn) := andThen HBm.out bn
          clear bn HL1
          have HG2 : Hid (Calls Try.prog 14 #[.pointer (some ⟨h, 0, none⟩), .int .i64 keep, cv] Wn fun e w' => ∃ v, e = .returned v ∧ Fls (Wn.heap.size ≤ ·) w' v (Dk.crash S keep cs) ∧ Below Wn.heap.size Wn w') := by
            have h9 := dkcrash_wf _ h T2 M4 _ keep cv cs Wn (HM.out.1.kept HBn.out) (HCV.out.kept (andThen HM.out.2.2.2 HBn.out)) HJ.out.2.2 (by have := HN4.out; omega)
            rw [HJ.out.2.1.crash HW.out.1.1] at h9
            exact h9
          go_wp2_with fail
          refine HG2.out.mono ?_
          rintro e Wo ⟨vo, rfl, fo, bo⟩
          have HBo : Hid (Below Wl.heap.size Wl Wo) := andThen HBn.out bo
          have HL2 : Hid (Calls Try.prog 17 #[vo, v2] Wo fun e w' => e = .returned (.bool true) ∧ Below Wo.heap.size Wo w') := dlfalike_yes _ _ _ _ _ _ fo (HM.out.2.2.1.kept HBo.out)
          clear fo bo HG2
          go_wp2_with fail
          refine HL2.out.mono ?_
          rintro e Wq ⟨rfl, bq⟩
          have HBq : Hid (Below Wl.heap.size Wl Wq) := andThen HBo.out bq
          clear bq HL2
          go_wp2_with fail
          go_returns
          exact ⟨rfl, andThen HM.out.2.2.2 HBq.out⟩
      | false =>
        rw [hch] at HCH
        clear hch
        go_wp2_with fail
        refine HCH.out.mono ?_
        rintro e Wi ⟨rfl, bi⟩
        have HI : Hid (Below Wp.heap.size Wp Wi) := bi
        clear bi HCH r0 r1 r2 r3 r4 r5 r6 r7
        go_wp2_with fail
        go_roundw
        case rel => exact ⟨k + 1, d, φ, M, M', S, T, by omega, by omega, by go_num, rfl, HP.out.1.kept HI.out, ⟨HW.out.1.1.mono (by omega), HW.out.1.2.mono (by omega)⟩, HW.out.2.1, HW.out.2.2.1, HW.out.2.2.2.1, HW.out.2.2.2.2, andThen HP.out.2.1 HI.out⟩
        case measure => simp [intOf]; omega
    · go_wp2_with fail
      go_returns
      exact ⟨rfl, HD.out.2⟩
end Go.Proofs.Ytjepeeopjjnglaa
