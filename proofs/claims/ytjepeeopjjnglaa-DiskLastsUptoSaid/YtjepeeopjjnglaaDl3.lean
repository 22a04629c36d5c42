/-
  DiskLasts: copied, known, begins, has.
-/
import Derived.Test.YtjepeeopjjnglaaDl2
import Derived.BigQuiet
namespace Go.Proofs.Ytjepeeopjjnglaa
open Go Go.RowKit Go.ChangeShapes
open Wb
open Rd
set_option maxRecDepth 100000 in
set_option maxHeartbeats 8000000 in
theorem dlcopied_any (v : Value) (l : List Nat) (w : World) (h : Bs w v l) (hl : l.length ≤ 1000000000) :
    Calls Try.prog 21 #[v] w fun e w' => ∃ v', e = .returned v' ∧ Own w.heap.size w' v' l ∧ Below w.heap.size w w' := by
  obtain ⟨v', w', hr, ho, hg, hv⟩ := run_appB w 30 w.heap.size (.slice none 0 0) [] (Own.nil _ _) v l h (by show 0 + l.length ≤ _; omega) (Nat.le_refl _)
  rw [List.nil_append] at ho
  have HO : Hid (Own w.heap.size w' v' l ∧ Below w.heap.size w w') := ⟨ho, (Below.refl _ _).grown hg (Nat.le_refl _) fun q e => by cases e⟩
  obtain ⟨a, c, e, h1, h2, -⟩ := h.shape
  subst e
  clear ho hg hv h
  go_enter Try.func21, Try.ntmps21
  go_wp2_with (at_builtin; refine wpList_appRun rfl (.tmp 4) (.tmp 5) 30 rfl rfl rfl hr ?_)
  go_returns
  exact ⟨_, rfl, HO.out.1, HO.out.2⟩
/-- does b begin with a? -/
def bgn (b a : List Nat) : Bool := decide (a.length ≤ b.length ∧ b.take a.length = a)
set_option maxRecDepth 100000 in
set_option maxHeartbeats 4000000 in
theorem dlbegins_any (vb va : Value) (b a : List Nat) (w : World) (hb : Bs w vb b) (ha : Bs w va a) :
    Calls Try.prog 58 #[vb, va] w fun e w' => e = .returned (.bool (bgn b a)) ∧ Below w.heap.size w w' := by
  obtain ⟨ob, cb, e1, h1, h2, -⟩ := hb.shape
  obtain ⟨oa, ca, e2, h3, h4, -⟩ := ha.shape
  subst e1 e2
  unfold maxLen at h2 h4
  by_cases hl : a.length ≤ b.length
  · have HC : Hid (Calls Try.prog 19 #[.slice ob a.length cb, .slice oa a.length ca] w fun e w' => e = .returned (.bool (bgn b a)) ∧ Below w.heap.size w w') := by
      have h9 := dlalike_any _ _ (b.take a.length) a w (bs_take hb a.length hl) ha
      have e9 : decide (b.take a.length = a) = bgn b a := by
        unfold bgn
        simp [hl]
      rw [e9] at h9
      exact h9
    obtain ⟨m, hm⟩ : ∃ m, m = a.length := ⟨_, rfl⟩
    obtain ⟨n, hn⟩ : ∃ n, n = b.length := ⟨_, rfl⟩
    rw [← hm] at HC h3 hl ⊢
    rw [← hn] at h1 hl ⊢
    have t1 : ((m : Int) ≤ (n : Int)) = True := eq_true (by omega)
    have t2 : (m : Int) ≤ (cb : Int) := by omega
    have t3 : (0 : Int) ≤ (m : Int) := by omega
    clear ha hb hm hn
    go_enter Try.func58, Try.ntmps58
    go_wp2_with fail
    refine HC.out.mono ?_
    rintro e W ⟨rfl, hb⟩
    have HB : Hid (Below w.heap.size w W) := hb
    clear hb HC
    go_wp2_with fail
    go_returns
    exact ⟨rfl, HB.out⟩
  · have HF : Hid (bgn b a = false) := decide_eq_false fun e => hl e.1
    have t1 : ((a.length : Int) ≤ (b.length : Int)) = False := eq_false (by omega)
    clear ha hb hl
    go_enter Try.func58, Try.ntmps58
    go_wp2_with fail
    go_returns
    exact ⟨by rw [HF.out]; rfl, Below.refl _ _⟩
/-- a block of bytes from B on -/
def KT (B : Nat) (w : World) (q : Nat) : Prop := B ≤ q ∧ ∃ c, w.heap[q]? = some (Obj.cells c 5)
theorem KT.lt {B : Nat} {w : World} {q : Nat} (h : KT B w q) : q < w.heap.size := by
  obtain ⟨-, c, hc⟩ := h
  exact (Array.getElem?_eq_some_iff.1 hc).1
theorem KT.blk {B : Nat} {w w' : World} {q : Nat} (h : KT B w q) (e : w'.heap[q]? = w.heap[q]?) : KT B w' q := ⟨h.1, h.2.imp fun _c hc => e.trans hc⟩
theorem KT.kept {B : Nat} {w w' : World} {q : Nat} (h : KT B w q) (hb : Below w.heap.size w w') : KT B w' q := h.blk (hb.block q h.lt)
/-- the words' own row is no block of bytes -/
theorem WM.nk {B B2 : Nat} {K : Nat → Prop} {w : World} {v : Value} {xs : List WE} (h : WM B K w v xs) : ∀ q, v.ownBlock = some q → ¬ KT B2 w q := fun q e ⟨_, c, hc⟩ => by
  obtain ⟨cur, h2⟩ := Mg.row_type h.row q e
  rw [hc] at h2
  simp at h2
theorem own_kb {B B2 : Nat} {w : World} {v : Value} {l : List Nat} (h : Own B w v l) (hB : B2 ≤ B) : Kb (KT B2 w) v := fun q off n c e => by
  rcases h.row.2 with ⟨e1, -⟩ | ⟨g, k, cur, e1, h1, -⟩
  · rw [e1] at e
    simp at e
  · have e2 : v.ownBlock = some g := by rw [e1]; rfl
    rw [e1] at e
    simp only [Value.slice.injEq, Option.some.injEq, Addr.mk.injEq] at e
    rw [← e.1.1]
    exact ⟨Nat.le_trans hB h1, Mg.row_type h.row g e2⟩
theorem kb_nil (K : Nat → Prop) : Kb K (.slice none 0 0) := fun q off n c e => by simp at e
/-- a word is appended, its bytes are blocks of bytes -/
theorem WM.appT {B : Nat} {w : World} {v : Value} {xs : List WE} (h : WM B (KT B w) w v xs) (x : WE) (hx : WB (KT B w) w x) (g k : Nat) (hc : LB w g 99 (enW x)) (hmax : xs.length ≤ 900000000) (hB : B ≤ w.heap.size) : ∃ v' w', (Builtin.append_ #[68, 68] 68 #[v, .slice (some ⟨g, 0, none⟩) 1 k]).run Try.prog w = .ok v' w' ∧ WM B (KT B w') w' v' (xs ++ [x]) ∧ Below B w w' := by
  obtain ⟨v', w', hr, h1, h2, h3⟩ := h.app x hx g k hc hmax hB h.nk
  refine ⟨v', w', hr, h1.mono fun q hq => hq.blk (h2.block q hq.lt fun e => h.nk q e.symm hq), h3⟩
set_option maxRecDepth 100000 in
set_option maxHeartbeats 8000000 in
theorem dlknown_any (ok1 : Nat → Prop) (v : Value) (fs : List (List UInt8 × List Nat)) (w : World) (h : Fls ok1 w v fs) (hn : fs.length ≤ 300000000) (hl : ∀ x ∈ fs, x.2.length ≤ 1000000000) :
    Calls Try.prog 38 #[v] w fun e w' => ∃ v' ys, e = .returned v' ∧ WM w.heap.size (KT w.heap.size w') w' v' ys ∧ ys.map (·.1) = fs.map Dk.kw ∧ Below w.heap.size w w' := by
  have HV : Hid (∀ W, Below w.heap.size w W → Fls ok1 W v fs) := fun W hW => h.kept hW
  have HLL : Hid (∀ x ∈ fs, x.2.length ≤ 1000000000) := hl
  obtain ⟨fa, fc, e, h1, h2, h3⟩ := h.sh
  subst e
  unfold maxLen at h2
  clear h h3 hl
  go_enter Try.func38, Try.ntmps38
  go_wp2_with fail
  go_loopw [3, 4] (fun o i wr => ∃ (k : Nat) (ys : List WE), k ≤ fs.length ∧ i = .int .i64 (k : Int) ∧ WM w.heap.size (KT w.heap.size wr) wr o ys ∧ ys.map (·.1) = (fs.take k).map Dk.kw ∧ Below w.heap.size w wr) (fun _ i _ => fs.length - (intOf i).toNat)
  case atStart => exact ⟨0, [], Nat.zero_le _, rfl, WM.nil _ _ _, rfl, Below.refl _ _⟩
  case round =>
    obtain ⟨k, ys, hk, rfl, hfo, hys, hb⟩ := hrel
    have HO : Hid (WM w.heap.size (KT w.heap.size wr) wr u3 ys ∧ ys.map (·.1) = (fs.take k).map Dk.kw ∧ Below w.heap.size w wr) := ⟨hfo, hys, hb⟩
    have hyl : ys.length ≤ 300000000 := by
      have h9 := congrArg List.length hys
      rw [List.length_map, List.length_map, List.length_take] at h9
      omega
    clear hfo hys hb
    by_cases hlt : k < fs.length
    · obtain ⟨fa', fc', e, -, -, hc⟩ := (HV.out wr HO.out.2.2).sh
      simp only [Value.slice.injEq] at e
      obtain ⟨rfl, -, -⟩ := e
      obtain ⟨b, off, e2, -, hcell⟩ := hc (List.ne_nil_of_length_pos (by omega))
      subst e2
      obtain ⟨y0, dv, y1, hbs, -⟩ := hcell k hlt
      have hl9 := HLL.out _ (List.getElem_mem hlt)
      have HTK : Hid (fs.take (k + 1) = fs.take k ++ [fs[k]]) := List.take_succ_eq_append_getElem hlt
      obtain ⟨p, hp⟩ : ∃ p, p = fs[k] := ⟨_, rfl⟩
      rw [← hp] at y0 hbs hl9 HTK
      obtain ⟨n9, td⟩ := p
      simp only at y0 hbs hl9
      obtain ⟨da, dc, rfl, -⟩ := hbs.shape
      have y2 : wr.cell? ⟨b, off + k * 2, none⟩ = some (.string ⟨n9.toArray⟩) := y0
      have HPT : Hid (Calls Try.prog 21 #[.slice da td.length dc] wr fun e w' => ∃ b9 n8 c9, e = .returned (.slice b9 n8 c9) ∧ Own wr.heap.size w' (.slice b9 n8 c9) td ∧ Below wr.heap.size wr w') := (dlcopied_any _ td wr hbs hl9).mono fun e w' ⟨v', h1, h2, h3⟩ => by
        obtain ⟨b9, c9, rfl, -⟩ := Mg.row_shape h2.row
        exact ⟨b9, _, c9, h1, h2, h3⟩
      have HCK : Hid (∀ W, Below wr.heap.size wr W → W.cell? ⟨b, off + k * 2, none⟩ = some (.string ⟨n9.toArray⟩)) := fun W hW => (hW.cell (World.block_lt_of_cell? _ _ y2)).trans y2
      clear hp y0 hbs hcell hc y2
      go_wp2_with fail
      refine HPT.out.mono ?_
      rintro e W ⟨b9, n8, c9, rfl, o9, hb'⟩
      have y2 := HCK.out W hb'
      have b3 := up0 W (.cells #[.string ⟨n9.toArray⟩, .slice b9 n8 c9, .slice none 0 0, .bool false, .slice b9 n8 c9, .bool true] 99)
      have h4 := andThen hb' b3
      have o3 := o9.kept b3
      have hsz := HO.out.2.2.size
      obtain ⟨o4, W4, hr4, f4, b4⟩ := ((HO.out.1.kept h4).mono fun q hq => hq.kept h4).appT (⟨n9, td, [], false, td, true⟩, .slice b9 n8 c9, .slice none 0 0, .slice b9 n8 c9) ⟨o3.bs, Bs.nil _, o3.bs, own_kb o3 hsz, kb_nil _, own_kb o3 hsz⟩ W.heap.size 1 (lb_new W [.string ⟨n9.toArray⟩, .slice b9 n8 c9, .slice none 0 0, .bool false, .slice b9 n8 c9, .bool true] 99) (by omega) (Nat.le_trans hsz h4.size)
      have H4 : Hid (WM w.heap.size (KT w.heap.size W4) W4 o4 (ys ++ [(⟨n9, td, [], false, td, true⟩, .slice b9 n8 c9, .slice none 0 0, .slice b9 n8 c9)]) ∧ Below w.heap.size w W4) := ⟨f4, (andThen HO.out.2.2 h4).trans b4⟩
      clear f4 b4 o9 hb' b3 h4 o3 hsz HPT
      go_wp2_with (at_builtin; refine wpList_appRun rfl (.tmp 18) (.tmp 27) 68 rfl rfl rfl hr4 ?_)
      clear hr4
      go_wp2_with fail
      go_roundw
      case rel =>
        refine ⟨k + 1, _, by omega, by go_num, H4.out.1, ?_, H4.out.2⟩
        rw [List.map_append, HO.out.2.1, HTK.out, List.map_append]
        rfl
      case measure => simp [intOf]; omega
    · have HE : Hid (ys.map (·.1) = fs.map Dk.kw) := by
        have h9 := HO.out.2.1
        rw [List.take_of_length_le (by omega)] at h9
        exact h9
      go_wp2_with fail
      go_returns
      exact ⟨_, _, rfl, HO.out.1, HE.out, HO.out.2.2⟩
set_option maxRecDepth 100000 in
set_option maxHeartbeats 16000000 in
theorem dlhas_any (ok1 : Nat → Prop) (B : Nat) (K : Nat → Prop) (fv v : Value) (fs : List (List UInt8 × List Nat)) (xs : List WE) (w : World) (hf : Fls ok1 w fv fs) (h : WM B K w v xs) (hk : ∀ x ∈ xs, x.1.hasS = true → ∃ y ∈ fs, y.1 = x.1.name ∧ bgn y.2 x.1.sure = true) :
    Calls Try.prog 40 #[fv, v] w fun e w' => e = .returned (.bool true) ∧ Below w.heap.size w w' := by
  have HF : Hid (∀ W, Below w.heap.size w W → Fls ok1 W fv fs) := fun W hW => hf.kept hW
  have HV : Hid (∀ W, Below w.heap.size w W → WM B K W v xs) := fun W hW => h.kept hW
  have HK : Hid (∀ x ∈ xs, x.1.hasS = true → ∃ y ∈ fs, y.1 = x.1.name ∧ bgn y.2 x.1.sure = true) := hk
  obtain ⟨fa, fc, e, f1, f2, -⟩ := hf.sh
  subst e
  obtain ⟨a, c, e, h1, h2, h3⟩ := row_at h.row
  subst e
  obtain ⟨n, hn⟩ : ∃ n, n = xs.length := ⟨_, rfl⟩
  obtain ⟨m, hm⟩ : ∃ m, m = fs.length := ⟨_, rfl⟩
  have HN : Hid (n = xs.length ∧ m = fs.length) := ⟨hn, hm⟩
  have h3' : 0 < n → ∃ b, a = some ⟨b, 0, none⟩ := fun e => h3 (List.ne_nil_of_length_pos (by omega))
  unfold maxLen at h2 f2
  rw [← hn] at h1 HV ⊢
  rw [← hm] at f1 HF ⊢
  clear hf h hk h3 hn hm
  go_enter Try.func40, Try.ntmps40
  go_wp2_with fail
  go_loopw [5] (fun i wr => ∃ k : Nat, k ≤ n ∧ i = .int .i64 (k : Int) ∧ Below w.heap.size w wr) (fun i _ => n - (intOf i).toNat)
  case atStart => exact ⟨0, Nat.zero_le _, rfl, Below.refl _ _⟩
  case round =>
    obtain ⟨k, hk, rfl, hb⟩ := hrel
    have HB : Hid (Below w.heap.size w wr) := hb
    clear hb
    by_cases hlt : k < n
    · obtain ⟨b, hb⟩ := h3' (by omega)
      subst hb
      have hkx : k < xs.length := by rw [← HN.out.1]; exact hlt
      have HW : Hid (∀ W, Below w.heap.size w W → W.cell? ⟨b, k * 6, none⟩ = some (enS xs[k].1.name) ∧ W.cell? ⟨b, k * 6 + 4, none⟩ = some xs[k].2.2.2 ∧ W.cell? ⟨b, k * 6 + 5, none⟩ = some (.bool xs[k].1.hasS) ∧ Bs W xs[k].2.2.2 xs[k].1.sure) := fun W hW => by
        have h9 := HV.out W hW
        have e9 := HN.out.1
        rw [e9] at h9
        obtain ⟨y0, -, -, -, y4, y5⟩ := h9.cells k hkx
        exact ⟨y0, y4, y5, (h9.wb _ (List.getElem_mem hkx)).s⟩
      have HX : Hid (xs[k].1.hasS = true → ∃ y ∈ fs, y.1 = xs[k].1.name ∧ bgn y.2 xs[k].1.sure = true) := HK.out _ (List.getElem_mem hkx)
      obtain ⟨x, hx⟩ : ∃ x, x = xs[k] := ⟨_, rfl⟩
      rw [← hx] at HW HX
      obtain ⟨⟨xn, xd, xx, xb, xs9, xc⟩, v1, v2, v3⟩ := x
      simp only at HW HX
      obtain ⟨a3, c3, e3, -⟩ := (HW.out wr HB.out).2.2.2.shape
      subst e3
      obtain ⟨y0, y4, y5, -⟩ := HW.out wr HB.out
      unfold enS at y0 HW
      clear hx
      go_wp2_with fail
      clear y0 y4 y5
      obtain ⟨Wo, hWo⟩ : ∃ x, x = wr := ⟨_, rfl⟩
      subst hWo
      go_loopw [6, 7] (fun o i w2 => ∃ j : Nat, j ≤ m ∧ i = .int .i64 (j : Int) ∧ o = .bool (!xc || (fs.take j).any fun y => decide (y.1 = xn) && bgn y.2 xs9) ∧ Below w.heap.size w w2) (fun _ i _ => m - (intOf i).toNat)
      case atStart => exact ⟨0, Nat.zero_le _, rfl, by simp, HB.out⟩
      case round =>
        obtain ⟨j, hj, rfl, rfl, hb2⟩ := hrel
        have HB2 : Hid (Below w.heap.size w wr) := hb2
        clear hb2
        by_cases hjl : j < m
        · have hjf : j < fs.length := by rw [← HN.out.2]; exact hjl
          have HFC : Hid (∃ fb fo, fa = some ⟨fb, fo, none⟩ ∧ ∀ W, Below w.heap.size w W → W.cell? ⟨fb, fo + j * 2, none⟩ = some (enS fs[j].1) ∧ ∃ dv, W.cell? ⟨fb, fo + j * 2 + 1, none⟩ = some dv ∧ Bs W dv fs[j].2) := by
            obtain ⟨a7, c7, e7, -, -, h7⟩ := (HF.out w (Below.refl _ _)).sh
            obtain ⟨b7, o7, e6, -, h6⟩ := h7 (List.ne_nil_of_length_pos (by omega))
            simp only [Value.slice.injEq] at e7
            refine ⟨b7, o7, by rw [e7.1, e6], fun W hW => ?_⟩
            obtain ⟨g6, dv, g7, g8, -⟩ := h6 j hjf
            exact ⟨(hW.cell (p := ⟨b7, _, none⟩) (World.block_lt_of_cell? _ _ g6)).trans g6, dv, (hW.cell (p := ⟨b7, _, none⟩) (World.block_lt_of_cell? _ _ g7)).trans g7, g8.kept hW⟩
          obtain ⟨fb, fo, rfl, hfc⟩ := HFC.out
          obtain ⟨hfw, dvw, -, hbw⟩ := hfc w (Below.refl _ _)
          have HTK : Hid (fs.take (j + 1) = fs.take j ++ [fs[j]]) := List.take_succ_eq_append_getElem hjf
          obtain ⟨p, hp⟩ : ∃ p, p = fs[j] := ⟨_, rfl⟩
          rw [← hp] at hfc HTK
          obtain ⟨pn, pd⟩ := p
          simp only at hfc
          obtain ⟨z0, dv, z1, hbs⟩ := hfc wr HB2.out
          obtain ⟨da, dc, ed, -⟩ := hbs.shape
          subst ed
          unfold enS at z0
          have HZ : Hid (∀ W, Below wr.heap.size wr W → W.cell? ⟨fb, fo + j * 2, none⟩ = some (.string ⟨pn.toArray⟩) ∧ W.cell? ⟨fb, fo + j * 2 + 1, none⟩ = some (.slice da pd.length dc) ∧ W.cell? ⟨b, k * 6, none⟩ = some (.string ⟨xn.toArray⟩) ∧ W.cell? ⟨b, k * 6 + 4, none⟩ = some (.slice a3 xs9.length c3)) := fun W hW => by
            obtain ⟨y0, y4, -⟩ := HW.out W (andThen HB2.out hW)
            exact ⟨(hW.cell (p := ⟨fb, _, none⟩) (World.block_lt_of_cell? _ _ z0)).trans z0, (hW.cell (p := ⟨fb, _, none⟩) (World.block_lt_of_cell? _ _ z1)).trans z1, y0, y4⟩
          have HBG : Hid (∀ W, Below wr.heap.size wr W → Calls Try.prog 58 #[.slice da pd.length dc, .slice a3 xs9.length c3] W fun e w' => e = .returned (.bool (bgn pd xs9)) ∧ Below wr.heap.size wr w') := fun W hW => (dlbegins_any _ _ pd xs9 W (hbs.kept hW) (HW.out W (andThen HB2.out hW)).2.2.2).mono fun e w' ⟨h1, h2⟩ => ⟨h1, andThen hW h2⟩
          clear hp hbs hfc hfw hbw z0 z1
          obtain ⟨z0, z1, y0, y4⟩ := HZ.out wr (Below.refl _ _)
          obtain ⟨oo, hoo⟩ : ∃ o, o = (!xc || (fs.take j).any fun y => decide (y.1 = xn) && bgn y.2 xs9) := ⟨_, rfl⟩
          have HOO : Hid (oo = (!xc || (fs.take j).any fun y => decide (y.1 = xn) && bgn y.2 xs9)) := hoo
          rw [← hoo]
          clear hoo
          by_cases hpe : pn = xn
          · have hq : (pn == xn) = true := wstr_beq hpe
            have HPE : Hid (pn = xn) := hpe
            clear hpe
            cases hbg : bgn pd xs9 with
            | true =>
              rw [hbg] at HBG
              have HNX : Hid (true = (!xc || (fs.take (j + 1)).any fun y => decide (y.1 = xn) && bgn y.2 xs9)) := by
                show _ = _
                rw [HTK.out]
                simp [HPE.out, hbg]
              clear hbg
              go_wp2_with fail
              go_region_held3 (fun w' => w'.cell? ⟨fb, fo + j * 2, none⟩ = some (.string ⟨pn.toArray⟩) ∧ w'.cell? ⟨fb, fo + j * 2 + 1, none⟩ = some (.slice da pd.length dc) ∧ w'.cell? ⟨b, k * 6, none⟩ = some (.string ⟨xn.toArray⟩) ∧ w'.cell? ⟨b, k * 6 + 4, none⟩ = some (.slice a3 xs9.length c3)) (first | go_keep | (exact HZ.out _ hbZ))
                (first | (go_at_call 58; refine (HBG.out _ ?_).mono ?_; (exact Below.drew (Below.refl _ _)); rintro e w' ⟨rfl, hbZ⟩))
              have H9 : Hid (Below w.heap.size w w') := andThen HB2.out hbZ
              clear hbZ z0 z1 y0 y4
              go_wp2_with fail
              go_roundw
              case rel => exact ⟨j + 1, by omega, by go_num, by rw [← HNX.out], H9.out⟩
              case measure => simp [intOf]; omega
            | false =>
              rw [hbg] at HBG
              have HNX : Hid (oo = (!xc || (fs.take (j + 1)).any fun y => decide (y.1 = xn) && bgn y.2 xs9)) := by
                show _ = _
                rw [HTK.out, HOO.out]
                simp [HPE.out, hbg]
              clear hbg
              go_wp2_with fail
              go_region_held3 (fun w' => w'.cell? ⟨fb, fo + j * 2, none⟩ = some (.string ⟨pn.toArray⟩) ∧ w'.cell? ⟨fb, fo + j * 2 + 1, none⟩ = some (.slice da pd.length dc) ∧ w'.cell? ⟨b, k * 6, none⟩ = some (.string ⟨xn.toArray⟩) ∧ w'.cell? ⟨b, k * 6 + 4, none⟩ = some (.slice a3 xs9.length c3)) (first | go_keep | (exact HZ.out _ hbZ))
                (first | (go_at_call 58; refine (HBG.out _ ?_).mono ?_; (exact Below.drew (Below.refl _ _)); rintro e w' ⟨rfl, hbZ⟩))
              have H9 : Hid (Below w.heap.size w w') := andThen HB2.out hbZ
              clear hbZ z0 z1 y0 y4
              go_wp2_with fail
              go_roundw
              case rel => exact ⟨j + 1, by omega, by go_num, by rw [← HNX.out], H9.out⟩
              case measure => simp [intOf]; omega
          · have hq : (pn == xn) = false := wstr_bne hpe
            have HNX : Hid (oo = (!xc || (fs.take (j + 1)).any fun y => decide (y.1 = xn) && bgn y.2 xs9)) := by
              show _ = _
              rw [HTK.out, HOO.out]
              simp [hpe]
            clear hpe HBG
            go_wp2_with fail
            go_quiet (fail)
            go_wp2_with fail
            go_roundw
            case rel => exact ⟨j + 1, by omega, by go_num, by rw [← HNX.out], bel_drewN HB2.out _⟩
            case measure => simp [intOf]; omega
        · have HT : Hid ((!xc || (fs.take j).any fun y => decide (y.1 = xn) && bgn y.2 xs9) = true) := by
            rw [List.take_of_length_le (by have := HN.out.2; omega)]
            cases hxc : xc with
            | false => rfl
            | true =>
              obtain ⟨y, hy, e1, e2⟩ := HX.out hxc
              show (fs.any fun y => decide (y.1 = xn) && bgn y.2 xs9) = true
              exact List.any_eq_true.2 ⟨y, hy, by simp [e1, e2]⟩
          rw [HT.out]
          go_wp2_with fail
          go_roundw
          case rel => exact ⟨k + 1, by omega, by go_num, HB2.out⟩
          case measure => simp [intOf]; omega
    · go_wp2_with fail
      go_returns
      exact ⟨rfl, HB.out⟩
end Go.Proofs.Ytjepeeopjjnglaa
