import Derived.Test.YtjepeeopjjnglabQN30
/-
  DiskLoads: the walk.
-/
namespace Go.Proofs.Ytjepeeopjjnglab
open Go Go.RowKit Go.ChangeShapes
open Wb
open Rd
/-- bytes that may be written over -/
def DB (W : World) (b n : Nat) : Prop := ∃ D : List Value, LB W b 5 D ∧ ∀ j, j < n → ∃ z : Int, D[j]? = some (.int .u8 z)
theorem DB.set {W : World} {b n b2 j : Nat} {z : Int} (h : DB W b n) : DB (W.setCell ⟨b2, j, none⟩ (.int .u8 z)) b n := by
  obtain ⟨D, h1, h2⟩ := h
  by_cases e : b2 = b
  · subst e
    refine ⟨_, h1.set j _, fun i hi => ?_⟩
    by_cases e2 : j = i
    · subst e2
      obtain ⟨y, hy⟩ := h2 j hi
      exact ⟨z, by rw [List.getElem?_set_self (List.getElem?_eq_some_iff.1 hy).1]⟩
    · obtain ⟨y, hy⟩ := h2 i hi
      exact ⟨y, by rw [List.getElem?_set_ne e2]; exact hy⟩
  · exact ⟨D, (set_other _ _ _ _ (Ne.symm e)).trans h1, h2⟩
theorem DB.blk {W W' : World} {b n : Nat} (h : DB W b n) (e : W'.heap[b]? = W.heap[b]?) : DB W' b n := by
  obtain ⟨D, h1, h2⟩ := h
  exact ⟨D, e.trans h1, h2⟩
theorem own_db {B : Nat} {w : World} {b n c : Nat} {l : List Nat} (h : Own B w (.slice (some ⟨b, 0, none⟩) n c) l) : DB w b l.length ∧ n = l.length := by
  obtain ⟨cur, hc⟩ := Mg.row_type h.row b rfl
  obtain ⟨a2, c2, e2, -⟩ := Mg.row_shape h.row
  simp only [Value.slice.injEq] at e2
  have e3 : n = l.length := e2.2.1
  have hr := h.row
  rw [e3] at hr
  refine ⟨⟨cur.toList, by show _ = _; rw [hc], fun j hj => ?_⟩, e3⟩
  have h9 := World.ownsRow.cellAt hr j (by rw [Nat.mul_one]; exact hj)
  have h8 : (bv l)[j]? = some (.int .u8 (l[j] : Int)) := by
    unfold bv
    rw [List.getElem?_map, List.getElem?_eq_getElem hj]
    rfl
  rw [h8] at h9
  exact ⟨(l[j] : Int), by simpa [World.cell?, hc] using h9⟩
/-- the files' bytes are written over, and nothing else -/
structure MW (W8 W : World) (ys : List (List UInt8 × Value × List Nat)) : Prop where
  fr : IFr W8 W fun q => ∃ y ∈ ys, y.2.1.ownBlock = some q
  db : ∀ y ∈ ys, ∀ b n c, y.2.1 = .slice (some ⟨b, 0, none⟩) n c → DB W b y.2.2.length
theorem MW.start {B : Nat} {W8 : World} {o : Value} {ys : List (List UInt8 × Value × List Nat)} (h : FO B W8 o ys) : MW W8 W8 ys := ⟨IFr.refl _ _, fun y hy b n c e => by
  have h9 := h.own y hy
  rw [e] at h9
  exact (own_db h9).1⟩
theorem MW.put {W8 W : World} {ys : List (List UInt8 × Value × List Nat)} (h : MW W8 W ys) {y : List UInt8 × Value × List Nat} (hy : y ∈ ys) {b n c : Nat} (e : y.2.1 = .slice (some ⟨b, 0, none⟩) n c) (_hb : b < W8.heap.size) (j : Nat) (z : Int) : MW W8 (W.setCell ⟨b, j, none⟩ (.int .u8 z)) ys := ⟨h.fr.trans (F2 := (· = b)) ⟨rfl, rfl, rfl, by rw [size_set1]; exact Nat.le_refl _, fun k _ hn => set_other _ _ _ _ hn⟩ fun k _ e2 => ⟨y, hy, by rw [e, e2]; rfl⟩, fun x hx b2 n2 c2 e2 => (h.db x hx b2 n2 c2 e2).set⟩
theorem MW.drew {W8 W : World} {ys : List (List UInt8 × Value × List Nat)} (h : MW W8 W ys) {W2 : World} (hb : Below W.heap.size W W2) : MW W8 W2 ys := ⟨h.fr.trans (IFr.kept hb) fun k _ e => e, fun y hy b n c e => by
  obtain ⟨D, h1, h2⟩ := h.db y hy b n c e
  exact ⟨D, h1.kept hb, h2⟩⟩
/-- a file's two cells stay -/
theorem MW.cells {B : Nat} {W8 W : World} {o : Value} {ys : List (List UInt8 × Value × List Nat)} (hf : FO B W8 o ys) (h : MW W8 W ys) {gm n c : Nat} (e : o = .slice (some ⟨gm, 0, none⟩) n c) (k : Nat) (hk : k < ys.length) : W.cell? ⟨gm, k * 2 + 1, none⟩ = some ys[k].2.1 := by
  have hr := hf.row
  rw [e] at hr
  have h9 := World.ownsRow.cellAt (by rw [Mg.row_shape hr |>.choose_spec.choose_spec.1 |> (fun e3 => (Value.slice.inj e3).2.1)] at hr; exact hr) (k * 2 + 1) (by omega)
  rw [(flatF_at ys k hk).2] at h9
  obtain ⟨cur, hc⟩ := Mg.row_type hr gm rfl
  have hne : ¬ ∃ y ∈ ys, y.2.1.ownBlock = some gm := fun ⟨y, hy, e2⟩ => by
    obtain ⟨cur2, hc2⟩ := Mg.row_type (hf.own y hy).row gm e2
    rw [hc] at hc2
    simp at hc2
  have h8 := h.fr.block gm (World.ownsRow.lt hr gm rfl).2 hne
  simp only [World.cell?] at h9 ⊢
  rw [h8]
  exact h9
/-- a disk that was just loaded leaves its files at a crash -/
theorem rbgn_crash (q : Int) (fs : List (List UInt8 × List Nat)) : rcrash (rbgn q fs) 0 [] = rfiles (rbgn q fs) := by
  have e : ∀ j, ((bth fs).getD j ⟨[], 0, false⟩).syn = ((bth fs).getD j ⟨[], 0, false⟩).data.length := fun j => by
    unfold bth
    rw [List.getD_eq_getElem?_getD, List.getElem?_map]
    cases fs[j]? <;> rfl
  have key : ∀ l : Dk.Nm, (l.mapIdx fun k p => (p.1, Dk.lv ⟨((bth fs).getD p.2 ⟨[], 0, false⟩).data, ((bth fs).getD p.2 ⟨[], 0, false⟩).syn⟩ (([] : List (Int × Int)).getD k (0, 0)))) = l.map fun p => (p.1, ((bth fs).getD p.2 ⟨[], 0, false⟩).data) := fun l => by
    refine List.ext_getElem (by simp) fun i h1 h2 => ?_
    rw [List.getElem_mapIdx, List.getElem_map, e, Dk.lv_syn]
  exact key (bnm fs fs.length)
set_option maxRecDepth 100000 in
set_option maxHeartbeats 64000000 in
theorem diskLoads_walk (q : Int) (v : Value) (fs : List (List UInt8 × List Nat)) (w : World) (hfs : Fls (fun _ => True) w v fs) (hn : fs.length ≤ 1048576) (hnm : ∀ x ∈ fs, x.1.length ≤ maxLen) (hsum : Dk.flen fs ≤ 1048576) :
    Calls Try.prog 4 #[.int .i64 q, v] w fun e w' => e = .returned (.bool true) ∧ Below w.heap.size w w' := by
  obtain ⟨va, vc, rfl⟩ := fls_slice hfs
  obtain ⟨vn, hvn⟩ : ∃ n, n = fs.length := ⟨_, rfl⟩
  rw [← hvn] at hfs ⊢
  have HV : Hid (∀ W, Below w.heap.size w W → Fls (fun _ => True) W (.slice va vn vc) fs) := fun W hW => hfs.kept hW
  have HLL : Hid (fs.length ≤ 1048576 ∧ (∀ x ∈ fs, x.1.length ≤ maxLen) ∧ Dk.flen fs ≤ 1048576) := ⟨hn, hnm, hsum⟩
  have HFI : Hid (Calls Try.prog 20 #[.int .i64 64] w fun e w' => ∃ gx xq xa1 xn1 xc1 xa2 xn2 xc2 xa3 xn3 xc3 xa4 xn4 xc4 xl xd, e = .returned (.tuple #[.agg #[.pointer (some ⟨gx, 0, none⟩), .int .i64 xq, .slice xa1 xn1 xc1, .slice xa2 xn2 xc2, .slice xa3 xn3 xc3, .slice xa4 xn4 xc4, .int .i64 xl, .bool xd], .bool true]) ∧ Below w.heap.size w w') := (dlfirst_any 64 w).mono fun e w' ⟨hb, g, S, M, R, K, y, h1, h2, h3, h4⟩ => by
    obtain ⟨pa, xq, xa1, xn1, xc1, xa2, xn2, xc2, xa3, xn3, xc3, xa4, xn4, xc4, xl, xd⟩ := y
    have hpa : pa = some ⟨g, 0, none⟩ := h2
    subst hpa
    exact ⟨g, _, _, _, _, _, _, _, _, _, _, _, _, _, _, _, h1, hb⟩
  obtain ⟨bad, hbad⟩ : ∃ b, b = decide (q < 0 ∨ 4194304 < q) := ⟨_, rfl⟩
  have HBAD : Hid (bad = decide (q < 0 ∨ 4194304 < q)) := hbad
  clear hfs hn hnm hsum hvn hbad
  go_enter Try.func4, Try.ntmps4
  go_wp2_with fail
  refine HFI.out.mono ?_
  rintro e W1 ⟨gx, xq, xa1, xn1, xc1, xa2, xn2, xc2, xa3, xn3, xc3, xa4, xn4, xc4, xl, xd, rfl, b1⟩
  obtain ⟨p5, hp5⟩ : ∃ p, p = W1.heap.size := ⟨_, rfl⟩
  obtain ⟨W2, hW2⟩ : ∃ W, W = W1.alloc (.cells #[.pointer (some ⟨gx, 0, none⟩), .int .i64 xq, .slice xa1 xn1 xc1, .slice xa2 xn2 xc2, .slice xa3 xn3 xc3, .slice xa4 xn4 xc4, .int .i64 xl, .bool xd] 56) := ⟨_, rfl⟩
  have HW2 : Hid (W1.alloc (.cells #[.pointer (some ⟨gx, 0, none⟩), .int .i64 xq, .slice xa1 xn1 xc1, .slice xa2 xn2 xc2, .slice xa3 xn3 xc3, .slice xa4 xn4 xc4, .int .i64 xl, .bool xd] 56) = W2 ∧ W1.heap.size = p5) := ⟨hW2.symm, hp5.symm⟩
  have HB2 : Hid (Below w.heap.size w W2) := by
    rw [hW2]
    exact andThen b1 (up0 _ _)
  clear hW2 hp5 b1 HFI
  have HNW : Hid (Calls Try.prog 21 #[.int .i64 q] W2 fun e w' => ∃ po E, e = .returned (.tuple #[.pointer po, .int .i64 E]) ∧ Below W2.heap.size W2 w' ∧ (po.isNone = bad ∧ (bad == bad) = true) ∧ (E == 1) = bad ∧ (E == 0) = !bad) := (dknew_any q W2).mono fun e w' h => by
    rcases h with ⟨h1, rfl, rfl⟩ | ⟨h1, rfl, h2, h3⟩
    · have e9 : bad = true := by
        rw [HBAD.out]
        exact decide_eq_true (by omega)
      rw [e9]
      exact ⟨_, _, rfl, Below.refl _ _, ⟨rfl, by rfl⟩, rfl, rfl⟩
    · have e9 : bad = false := by
        rw [HBAD.out]
        exact decide_eq_false (by omega)
      rw [e9]
      exact ⟨_, _, rfl, h3, ⟨rfl, by rfl⟩, rfl, rfl⟩
  go_upto_region 2 with fail
  rw [HW2.out.1, HW2.out.2]
  clear HW2
  go_wp2_with fail
  refine HNW.out.mono ?_
  rintro e W3 ⟨po, E, rfl, b3, hpv, hE1, hE0⟩
  have H3 : Hid (Below w.heap.size w W3) := andThen HB2.out b3
  have HPV : Hid ((po.isNone = bad ∧ (bad == bad) = true) ∧ (E == 1) = bad ∧ (E == 0) = !bad) := ⟨hpv, hE1, hE0⟩
  clear b3 hpv hE1 hE0 HNW
  go_upto_region 3 with fail
  go_cut [9] from 23 to 28 (fun s wx => s = .bool bad ∧ W3 = wx)
  case first =>
    clear HPV
    by_cases h1 : q < 0
    · have t1 : (q < 0) = True := eq_true h1
      have HZ : Hid (bad = true) := by rw [HBAD.out]; exact decide_eq_true (.inl h1)
      clear h1
      go_wp2_with fail
      go_meet
      exact ⟨by rw [HZ.out], rfl⟩
    · have t1 : (q < 0) = False := eq_false h1
      by_cases h2 : 4194304 < q
      · have t2 : (4194304 < q) = True := eq_true h2
        have HZ : Hid (bad = true) := by rw [HBAD.out]; exact decide_eq_true (.inr h2)
        clear h1 h2
        go_wp2_with fail
        go_meet
        exact ⟨by rw [HZ.out], rfl⟩
      · have t2 : (4194304 < q) = False := eq_false h2
        have HZ : Hid (bad = false) := by rw [HBAD.out]; exact decide_eq_false fun e => e.elim h1 h2
        clear h1 h2
        go_wp2_with fail
        go_meet
        exact ⟨by rw [HZ.out], rfl⟩
  case rest =>
    obtain ⟨rfl, rfl⟩ := hcut
    have hpv := HPV.out.1.1
    have hpv2 := HPV.out.1.2
    have hE1 := HPV.out.2.1
    have hE0 := HPV.out.2.2
    have xb1 : (bad != bad) = false := by cases bad <;> rfl
    have xb2 : ((!bad) == bad) = false := by cases bad <;> rfl
    have HNU : Hid (∀ W : World, Calls Try.prog 22 #[.int .i64 E] W fun e w' => e = .returned (.int .i64 E) ∧ W = w') := fun W => (dlnum_any E W).mono fun e w' ⟨h1, h2⟩ => ⟨h1, h2.symm⟩
    go_wp2_with fail
    refine (HNU.out _).mono ?_
    rintro e Wn ⟨rfl, rfl⟩
    go_wp2_with fail
    refine (HNU.out _).mono ?_
    rintro e Wn ⟨rfl, rfl⟩
    clear HNU hpv hE1 xb1
    have HCP : Hid (Calls Try.prog 15 #[.slice va vn vc] W3 fun e w' => ∃ ma mn mc ys, e = .returned (.slice ma mn mc) ∧ mn = ys.length ∧ FO W3.heap.size w' (.slice ma mn mc) ys ∧ (ys.map fun x => (x.1, x.2.2)) = fs ∧ Below W3.heap.size W3 w') := (dlcopies_any _ _ fs W3 (HV.out W3 H3.out) (by have := HLL.out.1; omega) (fun x hx => by have := flen_mem x hx; have := HLL.out.2.2; omega)).mono fun e w' ⟨v', ys, h1, h2, h3, h4⟩ => by
      obtain ⟨a, c, rfl, -⟩ := Mg.row_shape h2.row
      exact ⟨a, _, c, ys, h1, rfl, h2, h3, h4⟩
    go_wp2_with fail
    refine HCP.out.mono ?_
    rintro e W4 ⟨ma, mn, mc, ys, rfl, hmn, f4, hys, b4⟩
    have H4 : Hid (FO W3.heap.size W4 (.slice ma mn mc) ys ∧ (ys.map fun x => (x.1, x.2.2)) = fs ∧ Below w.heap.size w W4 ∧ mn = ys.length) := ⟨f4, hys, andThen H3.out b4, hmn⟩
    clear f4 hys b4 HCP hmn hpv2 hE0 xb2
    have HLD : Hid (Calls Try.prog 23 #[.agg #[.pointer none, .int .i64 0, .slice none 0 0, .slice none 0 0, .slice none 0 0, .slice none 0 0, .int .i64 0, .bool false], .int .i64 q, .slice ma mn mc, .bool false] W4 fun e w' => ∃ pa aq aa1 an1 ac1 aa2 an2 ac2 aa3 an3 ac3 aa4 an4 ac4 al ad, e = .returned (.tuple #[.agg #[.pointer pa, .int .i64 aq, .slice aa1 an1 ac1, .slice aa2 an2 ac2, .slice aa3 an3 ac3, .slice aa4 an4 ac4, .int .i64 al, .bool ad], .bool true]) ∧ Below W4.heap.size W4 w' ∧ (pa = none ∨ ∃ g S M K, pa = some ⟨g, 0, none⟩ ∧ PM W4.heap.size fs.length K w' g S M (rbgn q fs) (.agg #[.int .i64 aq, .slice aa1 an1 ac1, .slice aa2 an2 ac2, .slice aa3 an3 ac3, .slice aa4 an4 ac4, .int .i64 al, .bool ad]) ∧ ∀ q, K q → W4.heap.size ≤ q)) := by
      have h5 := H4.out.1.fls
      rw [H4.out.2.1] at h5
      exact (dlloaded_any _ ⟨none, 0, none, 0, 0, none, 0, 0, none, 0, 0, none, 0, 0, 0, false⟩ q _ fs false W4 h5 (fun e => by cases e) (by have := HLL.out.1; omega) HLL.out.2.1 (by have := HLL.out.2.2; omega)).mono fun e w' ⟨h1, h2⟩ => by
        rcases h2 with ⟨-, h3⟩ | ⟨-, g, S, M, y, K, h3, h4, h5, h6⟩
        · exact ⟨none, 0, none, 0, 0, none, 0, 0, none, 0, 0, none, 0, 0, 0, false, h3, h1, .inl rfl⟩
        · obtain ⟨pa, aq, aa1, an1, ac1, aa2, an2, ac2, aa3, an3, ac3, aa4, an4, ac4, al, ad⟩ := y
          exact ⟨pa, aq, aa1, an1, ac1, aa2, an2, ac2, aa3, an3, ac3, aa4, an4, ac4, al, ad, h3, h1, .inr ⟨g, S, M, K, h4, h5, h6⟩⟩
    go_wp2_with fail
    refine HLD.out.mono ?_
    rintro e W5 ⟨pa, aq, aa1, an1, ac1, aa2, an2, ac2, aa3, an3, ac3, aa4, an4, ac4, al, ad, rfl, b5, hcase⟩
    obtain ⟨p11, hp11⟩ : ∃ p, p = W5.heap.size := ⟨_, rfl⟩
    obtain ⟨W6, hW6⟩ : ∃ W, W = W5.alloc (.cells #[.pointer pa, .int .i64 aq, .slice aa1 an1 ac1, .slice aa2 an2 ac2, .slice aa3 an3 ac3, .slice aa4 an4 ac4, .int .i64 al, .bool ad] 56) := ⟨_, rfl⟩
    have HW6 : Hid (W5.alloc (.cells #[.pointer pa, .int .i64 aq, .slice aa1 an1 ac1, .slice aa2 an2 ac2, .slice aa3 an3 ac3, .slice aa4 an4 ac4, .int .i64 al, .bool ad] 56) = W6 ∧ W5.heap.size = p11) := ⟨hW6.symm, hp11.symm⟩
    have H6 : Hid (LB W6 p11 56 [.pointer pa, .int .i64 aq, .slice aa1 an1 ac1, .slice aa2 an2 ac2, .slice aa3 an3 ac3, .slice aa4 an4 ac4, .int .i64 al, .bool ad] ∧ Below W5.heap.size W5 W6 ∧ Below W4.heap.size W4 W5) := by
      rw [hW6, hp11]
      exact ⟨lb_new W5 [.pointer pa, .int .i64 aq, .slice aa1 an1 ac1, .slice aa2 an2 ac2, .slice aa3 an3 ac3, .slice aa4 an4 ac4, .int .i64 al, .bool ad] 56, up0 _ _, b5⟩
    have HP11 : Hid (W4.heap.size ≤ p11) := by
      have := b5.size
      show W4.heap.size ≤ p11
      omega
    clear hW6 hp11 b5 HLD
    go_upto_region 8 with fail
    rw [HW6.out.1, HW6.out.2]
    clear HW6
    rcases hcase with rfl | ⟨g, S, M, K, rfl, hpm, hK⟩
    · have d0 := H6.out.1.cell 0 _ rfl
      go_wp2_with fail
      go_returns
      exact ⟨rfl, andThen H4.out.2.2.1 (andThen H6.out.2.2 H6.out.2.1)⟩
    · have H7 : Hid (PM W4.heap.size fs.length K W6 g S M (rbgn q fs) (.agg #[.int .i64 aq, .slice aa1 an1 ac1, .slice aa2 an2 ac2, .slice aa3 an3 ac3, .slice aa4 an4 ac4, .int .i64 al, .bool ad]) ∧ Below W4.heap.size W4 W6 ∧ FO W3.heap.size W6 (.slice ma mn mc) ys) := ⟨hpm.kept H6.out.2.1, andThen H6.out.2.2 H6.out.2.1, H4.out.1.kept (andThen H6.out.2.2 H6.out.2.1)⟩
      have HLOW : Hid (∀ q, (∃ y ∈ ys, y.2.1.ownBlock = some q) → q < W4.heap.size ∧ W3.heap.size ≤ q) := fun q ⟨y, hy, e⟩ => ⟨(World.ownsRow.lt (H4.out.1.own y hy).row q e).2, (World.ownsRow.lt (H4.out.1.own y hy).row q e).1⟩
      have HMN : Hid (mn = ys.length) := H4.out.2.2.2
      have hmb : mn ≤ 1048576 := by
        have h9 := congrArg List.length H4.out.2.1
        rw [List.length_map] at h9
        have := HLL.out.1
        have := HMN.out
        omega
      have d0 := H6.out.1.cell 0 _ rfl
      have HK : Hid (∀ q, K q → W4.heap.size ≤ q) := hK
      clear hpm hK
      go_wp2_with fail
      clear d0
      go_loopw [12] (fun i wr => ∃ k : Nat, k ≤ mn ∧ i = .int .i64 (k : Int) ∧ MW W6 wr ys) (fun i _ => mn - (intOf i).toNat)
      case atStart => exact ⟨0, Nat.zero_le _, rfl, MW.start H7.out.2.2⟩
      case round =>
        obtain ⟨k, hk, rfl, hmw⟩ := hrel
        have HM : Hid (MW W6 wr ys) := hmw
        clear hmw
        by_cases hlt : k < mn
        · have hky : k < ys.length := by rw [← HMN.out]; exact hlt
          obtain ⟨a9, c9, e9, -⟩ := Mg.row_shape H7.out.2.2.row
          obtain ⟨gm, cm, em, -⟩ : ∃ gm cm, Value.slice ma mn mc = .slice (some ⟨gm, 0, none⟩) mn cm ∧ True := by
            rcases H7.out.2.2.row.2 with ⟨e, h0⟩ | ⟨b, c', cur, e3, -⟩
            · omega
            · simp only [Value.slice.injEq] at e3
              exact ⟨b, mc, by rw [e3.1], trivial⟩
          simp only [Value.slice.injEq, true_and] at em
          obtain ⟨rfl, rfl⟩ := em
          have HCE : Hid (∀ W, MW W6 W ys → W.cell? ⟨gm, k * 2 + 1, none⟩ = some ys[k].2.1) := fun W hW => hW.cells H7.out.2.2 rfl k hky
          have HYM : Hid (ys[k] ∈ ys) := List.getElem_mem hky
          have HOW : Hid (Own W3.heap.size W6 ys[k].2.1 ys[k].2.2) := H7.out.2.2.own _ (List.getElem_mem hky)
          obtain ⟨Y, hY⟩ : ∃ Y, Y = ys[k] := ⟨_, rfl⟩
          rw [← hY] at HCE HYM HOW
          obtain ⟨ynm, yv, yl⟩ := Y
          simp only at HCE HOW
          obtain ⟨ya, yc, rfl, hyc, hym⟩ := Mg.row_shape HOW.out.row
          obtain ⟨yn, hyn⟩ : ∃ n, n = yl.length := ⟨_, rfl⟩
          unfold maxLen at hym
          rw [← hyn] at HCE HOW HYM hyc
          have HYN : Hid (yn = yl.length) := hyn
          clear hY e9 hyn
          have r0 := HCE.out wr HM.out
          go_wp2_with fail
          clear r0
          obtain ⟨Wo, hWo⟩ : ∃ x, x = wr := ⟨_, rfl⟩
          subst hWo
          go_loopw [13] (fun i w2 => ∃ j : Nat, j ≤ yn ∧ i = .int .i64 (j : Int) ∧ MW W6 w2 ys) (fun i _ => yn - (intOf i).toNat)
          case atStart => exact ⟨0, Nat.zero_le _, rfl, HM.out⟩
          case round =>
            obtain ⟨j, hj, rfl, hmw2⟩ := hrel
            have HM2 : Hid (MW W6 wr ys) := hmw2
            have r0 := HCE.out wr HM2.out
            clear hmw2
            by_cases hjl : j < yn
            · obtain ⟨b, rfl, hb⟩ : ∃ b, ya = some ⟨b, 0, none⟩ ∧ b < W6.heap.size := by
                rcases HOW.out.row.2 with ⟨e, h0⟩ | ⟨b, c', cur, e3, -⟩
                · have := HYN.out
                  omega
                · simp only [Value.slice.injEq] at e3
                  refine ⟨b, e3.1, (World.ownsRow.lt HOW.out.row b ?_).2⟩
                  rw [e3.1]
                  rfl
              obtain ⟨D, hD, hz0⟩ := HM2.out.db _ HYM.out b yn yc rfl
              obtain ⟨z, hz⟩ := hz0 j (by show j < yl.length; rw [← HYN.out]; exact hjl)
              have c9 := hD.cell j _ hz
              have f9 := hD.free j
              have HR : Hid (∀ z2 : Int, MW W6 (wr.drew.setCell ⟨b, j, none⟩ (.int .u8 z2)) ys) := fun z2 => (HM2.out.drew (Below.drew (Below.refl _ _))).put HYM.out rfl hb j z2
              clear hD hz0 hz hb
              go_wp2_with fail
              go_region
              all_goals
                go_wp2_with fail
                go_roundw
                case rel => exact ⟨j + 1, by omega, by go_num, HR.out _⟩
                case measure => simp [intOf]; omega
            · go_wp2_with fail
              go_roundw
              case rel => exact ⟨k + 1, by omega, by go_num, HM2.out⟩
              case measure => simp [intOf]; omega
        · have HFAR : Hid (∀ q, W4.heap.size ≤ q → q < W6.heap.size → wr.heap[q]? = W6.heap[q]?) := fun q h1 h2 => HM.out.fr.block q h2 fun e => by
            have := (HLOW.out q e).1
            omega
          have HPM9 : Hid (PM W4.heap.size fs.length K wr g S M (rbgn q fs) (.agg #[.int .i64 aq, .slice aa1 an1 ac1, .slice aa2 an2 ac2, .slice aa3 an3 ac3, .slice aa4 an4 ac4, .int .i64 al, .bool ad]) ∧ LB wr p11 56 [.pointer (some ⟨g, 0, none⟩), .int .i64 aq, .slice aa1 an1 ac1, .slice aa2 an2 ac2, .slice aa3 an3 ac3, .slice aa4 an4 ac4, .int .i64 al, .bool ad]) := by
            have h7 := H7.out.1
            refine ⟨⟨h7.dm.blk fun q hq => HFAR.out q (h7.dm.ft hq).1 (h7.dm.ft hq).2, h7.rd.blk fun q hq hl => HFAR.out q (HK.out q hq) hl, h7.sy, fun q hq => Nat.lt_of_lt_of_le (h7.lt q hq) HM.out.fr.size, h7.ap⟩, (HFAR.out p11 HP11.out H6.out.1.lt).trans H6.out.1⟩
          have HBW : Hid (Below w.heap.size w wr) := by
            have h1 : Below w.heap.size w W6 := andThen H4.out.2.2.1 H7.out.2.1
            exact h1.trans (HM.out.fr.below w.heap.size h1.size fun q e => by
              have h2 := (HLOW.out q e).2
              have h3 := H3.out.size
              omega)
          obtain ⟨L, hL⟩ : ∃ L, L = rfiles (rbgn q fs) := ⟨_, rfl⟩
          have HNL : Hid (fs.length ≤ 1048576) := HLL.out.1
          have HPM : Hid (∀ W, Below wr.heap.size wr W → PM W4.heap.size fs.length K W g S M (rbgn q fs) (.agg #[.int .i64 aq, .slice aa1 an1 ac1, .slice aa2 an2 ac2, .slice aa3 an3 ac3, .slice aa4 an4 ac4, .int .i64 al, .bool ad])) := fun W hW => HPM9.out.1.kept hW
          have H1 : Hid (∀ W, Below wr.heap.size wr W → Calls Try.prog 16 #[.pointer (some ⟨g, 0, none⟩)] W fun e w' => ∃ a n c, e = .returned (.slice a n c) ∧ Fls (fun _ => True) w' (.slice a n c) L ∧ Below wr.heap.size wr w') := fun W hW => by
            have hp := HPM.out W hW
            rw [hL, hp.sy.rl.files]
            exact (dkfiles_wf _ g S M _ W hp.dm hp.sy.wf (by have := HNL.out; omega)).mono fun e w' ⟨v, h1, h2, h3⟩ => by
              obtain ⟨a, k, rfl⟩ := fls_slice h2
              exact ⟨_, _, _, h1, h2.mono fun _ _ => trivial, andThen hW h3⟩
          have H2 : Hid (∀ W a n c, Below wr.heap.size wr W → Fls (fun _ => True) W (.slice a n c) L → Calls Try.prog 24 #[.agg #[.int .i64 aq, .slice aa1 an1 ac1, .slice aa2 an2 ac2, .slice aa3 an3 ac3, .slice aa4 an4 ac4, .int .i64 al, .bool ad]] W fun e w' => ∃ x y z, e = .returned (.slice x y z) ∧ Fls (fun _ => True) w' (.slice a n c) L ∧ Fls (fun _ => True) w' (.slice x y z) L ∧ Below wr.heap.size wr w') := fun W a n c hW hr => by
            have hp := HPM.out W hW
            exact (rkfiles_any _ (rbgn q fs) _ W hp.rd (by have := hp.sy.bn.1; have := HNL.out; omega) hp.sy.rl.okn (fun t ht => by have := (hp.sy.ln t ht).2; omega)).mono fun e w' ⟨v, h1, h2, h3⟩ => by
              rw [← hL] at h2
              obtain ⟨a, k, rfl⟩ := fls_slice h2
              exact ⟨_, _, _, h1, hr.kept h3, h2.mono fun _ _ => trivial, andThen hW h3⟩
          have H3 : Hid (∀ W a n c x y z, Below wr.heap.size wr W → Fls (fun _ => True) W (.slice a n c) L → Fls (fun _ => True) W (.slice x y z) L → Calls Try.prog 17 #[.slice a n c, .slice x y z] W fun e w' => e = .returned (.bool true) ∧ Below wr.heap.size wr w') := fun W a n c x y z hW h1 h2 => (dlfalike_yes _ _ _ _ L W h1 h2).mono fun e w' ⟨h3, h4⟩ => ⟨h3, andThen hW h4⟩
          have H4 : Hid (∀ W, Below wr.heap.size wr W → Calls Try.prog 25 #[.pointer (some ⟨g, 0, none⟩), .int .i64 0, .slice none 0 0] W fun e w' => ∃ a n c, e = .returned (.slice a n c) ∧ Fls (fun _ => True) w' (.slice a n c) L ∧ Below wr.heap.size wr w') := fun W hW => by
            have hp := HPM.out W hW
            rw [hL, ← rbgn_crash, hp.sy.rl.crash]
            exact (dkcrash_wf _ g S M _ 0 _ [] W hp.dm (cts_nil W) hp.sy.wf (by have := HNL.out; omega)).mono fun e w' ⟨v, h1, h2, h3⟩ => by
              obtain ⟨a, k, rfl⟩ := fls_slice h2
              exact ⟨_, _, _, h1, h2.mono fun _ _ => trivial, andThen hW h3⟩
          obtain ⟨fr, hfr⟩ : ∃ f, f = rfree (rbgn q fs) := ⟨_, rfl⟩
          have H5 : Hid (∀ W, Below wr.heap.size wr W → Calls Try.prog 26 #[.pointer (some ⟨g, 0, none⟩)] W fun e w' => e = .returned (.int .i64 fr) ∧ Below wr.heap.size wr w') := fun W hW => by
            have hp := HPM.out W hW
            rw [hfr, hp.sy.rl.free]
            exact (dkfree_any _ g S M W hp.dm ⟨hp.sy.wf.t0, hp.sy.wf.tk, hp.sy.wf.q⟩).mono fun e w' ⟨h1, h2⟩ => ⟨h1, andThen hW h2⟩
          have H6 : Hid (∀ W, Below wr.heap.size wr W → Calls Try.prog 27 #[.agg #[.int .i64 aq, .slice aa1 an1 ac1, .slice aa2 an2 ac2, .slice aa3 an3 ac3, .slice aa4 an4 ac4, .int .i64 al, .bool ad]] W fun e w' => e = .returned (.int .i64 fr) ∧ Below wr.heap.size wr w') := fun W hW => by
            have hp := HPM.out W hW
            rw [hfr]
            exact (rkfree_any _ (rbgn q fs) _ W hp.rd hp.sy.q hp.sy.tk).mono fun e w' ⟨h1, h2⟩ => ⟨h1, andThen hW h2⟩
          have H7D : Hid (∀ W, Below wr.heap.size wr W → Calls Try.prog 28 #[.pointer (some ⟨g, 0, none⟩)] W fun e w' => e = .returned (.bool false) ∧ Below wr.heap.size wr w') := fun W hW => by
            have hp := HPM.out W hW
            have e9 : S.down = false := hp.sy.rl.down.symm
            rw [← e9]
            exact (dkdown_any _ g S M W hp.dm).mono fun e w' ⟨h1, h2⟩ => ⟨h1, by rw [h2]; exact hW⟩
          have HCK : Hid (∀ W, Below wr.heap.size wr W → W.cell? ⟨p11, 0, none⟩ = some (.pointer (some ⟨g, 0, none⟩)) ∧ W.cell? ⟨p11, 1, none⟩ = some (.int .i64 aq) ∧ W.cell? ⟨p11, 2, none⟩ = some (.slice aa1 an1 ac1) ∧ W.cell? ⟨p11, 3, none⟩ = some (.slice aa2 an2 ac2) ∧ W.cell? ⟨p11, 4, none⟩ = some (.slice aa3 an3 ac3) ∧ W.cell? ⟨p11, 5, none⟩ = some (.slice aa4 an4 ac4) ∧ W.cell? ⟨p11, 6, none⟩ = some (.int .i64 al) ∧ W.cell? ⟨p11, 7, none⟩ = some (.bool ad)) := fun W hW => by
            have l9 := HPM9.out.2.kept hW
            exact ⟨l9.cell 0 _ rfl, l9.cell 1 _ rfl, l9.cell 2 _ rfl, l9.cell 3 _ rfl, l9.cell 4 _ rfl, l9.cell 5 _ rfl, l9.cell 6 _ rfl, l9.cell 7 _ rfl⟩
          have HNB : Hid (¬ k < mn) := hlt
          obtain ⟨d0, d1, d2, d3, d4, d5, d6, d7⟩ := HCK.out wr (Below.refl _ _)
          clear hL hfr
          go_wp2_with fail
          go_region_held3 (fun w' => w'.cell? ⟨p11, 0, none⟩ = some (.pointer (some ⟨g, 0, none⟩)) ∧ w'.cell? ⟨p11, 1, none⟩ = some (.int .i64 aq) ∧ w'.cell? ⟨p11, 2, none⟩ = some (.slice aa1 an1 ac1) ∧ w'.cell? ⟨p11, 3, none⟩ = some (.slice aa2 an2 ac2) ∧ w'.cell? ⟨p11, 4, none⟩ = some (.slice aa3 an3 ac3) ∧ w'.cell? ⟨p11, 5, none⟩ = some (.slice aa4 an4 ac4) ∧ w'.cell? ⟨p11, 6, none⟩ = some (.int .i64 al) ∧ w'.cell? ⟨p11, 7, none⟩ = some (.bool ad)) (first | go_keep | (exact HCK.out _ hbT) | (exact HCK.out _ hbU) | (exact HCK.out _ hbV) | (exact HCK.out _ hbX) | (exact HCK.out _ hbY) | (exact HCK.out _ hbZ))
            (first | (go_at_call 17; refine (H3.out _ _ _ _ _ _ _ hbU r5 r6).mono ?_; rintro e w' ⟨rfl, hbT⟩) | (go_at_call 17; refine (H3.out _ _ _ _ _ _ _ hbY r2 r3).mono ?_; rintro e w' ⟨rfl, hbX⟩) | (go_at_call 24; refine (H2.out _ _ _ _ hbV r4).mono ?_; rintro e w' ⟨x8, y8, z8, rfl, r5, r6, hbU⟩) | (go_at_call 24; refine (H2.out _ _ _ _ hbZ r1).mono ?_; rintro e w' ⟨x9, y9, z9, rfl, r2, r3, hbY⟩) | (go_at_call 25; refine (H4.out _ hbX).mono ?_; rintro e w' ⟨a8, n8, c8, rfl, r4, hbV⟩) | (go_at_call 16; refine (H1.out _ ?_).mono ?_; (exact Below.drew (Below.refl _ _)); rintro e w' ⟨a9, n9, c9, rfl, r1, hbZ⟩))
          have H17 : Hid (Below wr.heap.size wr w') := hbT
          clear hbT hbU hbV hbX hbY hbZ r1 r2 r3 r4 r5 r6 d0 d1 d2 d3 d4 d5 d6 d7 H1 H2 H3 H4
          obtain ⟨d0, d1, d2, d3, d4, d5, d6, d7⟩ := HCK.out w' H17.out
          obtain ⟨W17, hW17⟩ : ∃ x, x = w' := ⟨_, rfl⟩
          subst hW17
          go_wp2_with fail
          go_region_held3 (fun w' => w'.cell? ⟨p11, 0, none⟩ = some (.pointer (some ⟨g, 0, none⟩)) ∧ w'.cell? ⟨p11, 1, none⟩ = some (.int .i64 aq) ∧ w'.cell? ⟨p11, 2, none⟩ = some (.slice aa1 an1 ac1) ∧ w'.cell? ⟨p11, 3, none⟩ = some (.slice aa2 an2 ac2) ∧ w'.cell? ⟨p11, 4, none⟩ = some (.slice aa3 an3 ac3) ∧ w'.cell? ⟨p11, 5, none⟩ = some (.slice aa4 an4 ac4) ∧ w'.cell? ⟨p11, 6, none⟩ = some (.int .i64 al) ∧ w'.cell? ⟨p11, 7, none⟩ = some (.bool ad)) (first | go_keep | (exact HCK.out _ hbX) | (exact HCK.out _ hbY) | (exact HCK.out _ hbZ))
            (first | (go_at_call 28; refine (H7D.out _ hbY).mono ?_; rintro e w' ⟨rfl, hbX⟩) | (go_at_call 27; refine (H6.out _ hbZ).mono ?_; rintro e w' ⟨rfl, hbY⟩) | (go_at_call 26; refine (H5.out _ ?_).mono ?_; (exact andThen H17.out (Below.drew (Below.refl _ _))); rintro e w' ⟨rfl, hbZ⟩))
          have H18 : Hid (Below wr.heap.size wr w') := hbX
          clear hbX hbY hbZ d0 d1 d2 d3 d4 d5 d6 d7
          go_wp2_with fail
          go_returns
          exact ⟨by simp, andThen HBW.out H18.out⟩
end Go.Proofs.Ytjepeeopjjnglab
