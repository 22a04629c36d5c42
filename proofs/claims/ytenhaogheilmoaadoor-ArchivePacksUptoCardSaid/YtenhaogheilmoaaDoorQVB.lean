import Derived.Test.YtenhaogheilmoaaDoorQVA
import Derived.Test.YtenhaogheilmoaaDoorQW3
import Derived.Test.YtenhaogheilmoaaDoorQA1
/-
  The reference's first, last, low; sameBytes, cutBytes, cutRecs.
-/
namespace Go.Proofs.YtenhaogheilmoaaDoor
open Go Go.RowKit
open Wb

set_option maxHeartbeats 400000 in
theorem arsameb_any (va vb : Value) (a b : List Nat) (w : World) (ha : Bs w va a) (hb : Bs w vb b) :
    Calls Tryd.prog 9 #[va, vb] w fun e w' => e = .returned (.bool (decide (a = b))) ∧ Below w.heap.size w w' := by
  obtain ⟨aoa, capa, rfl, hla, hma, hna, hca⟩ := ha.shape
  obtain ⟨aob, capb, rfl, hlb, hmb, hnb, hcb⟩ := hb.shape
  unfold maxLen at hma hmb
  have ga := ha.good
  have gb := hb.good
  by_cases hlen : a.length = b.length
  · have HL : Hid (a.length = b.length) := hlen
    have d0 : ((a.length : Int) != (b.length : Int)) = false := by simp [hlen]
    clear hlen
    go_enter Tryd.func9, Tryd.ntmps9
    go_wp2
    go_loopw [5] (fun i wr => ∃ k : Nat, k ≤ a.length ∧ i = .int .i64 k ∧ a.take k = b.take k ∧ Below w.heap.size w wr) (fun i _ => a.length - (intOf i).toNat)
    case atStart => exact ⟨0, Nat.zero_le _, rfl, by simp, Below.refl _ _⟩
    case round =>
      obtain ⟨k, hk, rfl, heq, hbel⟩ := hrel
      have HQ : Hid (a.take k = b.take k) := heq
      clear heq
      by_cases hlt : k < a.length
      · have hlt' : k < b.length := by rw [← HL.out]; exact hlt
        obtain ⟨b1, off1, rfl, hcell1⟩ := hca (List.ne_nil_of_length_pos (by omega))
        obtain ⟨b2, off2, rfl, hcell2⟩ := hcb (List.ne_nil_of_length_pos (by omega))
        have q1 := (hbel.cell (p := ⟨b1, off1 + k, none⟩) (World.block_lt_of_cell? _ _ (hcell1 k hlt))).trans (hcell1 k hlt)
        have q2 := (hbel.cell (p := ⟨b2, off2 + k, none⟩) (World.block_lt_of_cell? _ _ (hcell2 k hlt'))).trans (hcell2 k hlt')
        clear hca hcb hcell1 hcell2 hna hnb ha hb
        by_cases hxy : a[k] = b[k]
        · have HS : Hid (a.take (k + 1) = b.take (k + 1)) := by
            show _ = _
            rw [List.take_succ_eq_append_getElem hlt, List.take_succ_eq_append_getElem hlt', HQ.out, hxy]
          rw [hxy] at q1
          generalize b[k] = y at *
          have d1 : ((y : Int) != (y : Int)) = false := by simp
          clear hxy
          go_wp2
          go_quiet (fail)
          go_wp2
          go_roundw
          case rel => exact ⟨k + 1, by omega, by go_num, HS.out, bel_drewN hbel _⟩
          case measure => simp [intOf]; omega
        · have HN : Hid (¬ a = b) := by
            intro e
            subst e
            exact hxy rfl
          have d1 : ((a[k] : Int) != (b[k] : Int)) = true := by rw [bne_iff_ne]; omega
          generalize a[k] = x at *
          generalize b[k] = y at *
          clear hxy
          go_wp2
          go_quiet (fail)
          go_wp2
          go_ret
          exact ⟨by rw [decide_eq_false HN.out]; rfl, bel_drewN hbel _⟩
      · have HE : Hid (a = b) := by
          have h := HQ.out
          rw [List.take_of_length_le (by omega), List.take_of_length_le (by rw [← HL.out]; omega)] at h
          exact h
        go_wp2
        go_ret
        exact ⟨by rw [decide_eq_true HE.out]; rfl, hbel⟩
  · have HN : Hid (¬ a = b) := fun e => hlen (by rw [e])
    have d0 : ((a.length : Int) != (b.length : Int)) = true := by rw [bne_iff_ne]; omega
    clear hlen hca hcb
    go_enter Tryd.func9, Tryd.ntmps9
    go_wp2
    go_ret
    exact ⟨by rw [decide_eq_false HN.out]; rfl, Below.refl _ _⟩

set_option maxRecDepth 100000 in
theorem rarlow_any (s : Nat) (w : World) (hs : s < 4294967296) : Calls Tryd.prog 46 #[.int .u32 (s : Int)] w fun e w' => ∃ a, ∃ c : Nat, e = .returned (.slice a 4 c) ∧ Own w.heap.size w' (.slice a 4 c) (le4 s) ∧ Below w.heap.size w w' := by
  have hs' : (s : Int) < 4294967296 := by omega
  have HL : Hid (∀ W v, W = w.alloc (.cells #[.int .u8 ((s : Int) % 256), .int .u8 ((s : Int) / 256 % 256), .int .u8 ((s : Int) / 65536 % 256), .int .u8 ((s : Int) / 16777216)] 5) → v = .slice (some ⟨w.heap.size, 0, none⟩) 4 4 → Own w.heap.size W v (le4 s) ∧ Below w.heap.size w W) := fun W v e1 e2 => by
    subst e1 e2
    refine ⟨Own.lit (B := w.heap.size) w (le4 s) (Ar.le4_ok s) (Nat.le_refl _) (by rw [Ar.le4_len]; simp [maxLen]) _ ?_, up0 _ _⟩
    show _ = _
    simp [le4, bv]
    omega
  go_enter Tryd.func46, Tryd.ntmps46
  go_wp2_with fail
  go_ret
  obtain ⟨h1, h2⟩ := HL.out _ _ rfl rfl
  exact ⟨_, _, rfl, h1, h2⟩
set_option maxRecDepth 100000 in
set_option maxHeartbeats 1000000 in
theorem rarfirst_any (top n : Nat) (w : World) (ht : top ≤ 9223372036854775807) (hn : n ≤ 9223372036854775807) : Calls Tryd.prog 20 #[.int .i64 (top : Int), .int .i64 (n : Int)] w fun e w' => ∃ a c, ∃ m : Nat, e = .returned (.slice a m c) ∧ Own w.heap.size w' (.slice a m c) (Ar.fst top n) ∧ Below w.heap.size w w' := by
  have hin := info5
  have hwt : IntKind.u64.wrap (top : Int) = (top : Int) := IntWalk.u64_in _ (by omega)
  have hwn : IntKind.u64.wrap (n : Int) = (n : Int) := IntWalk.u64_in _ (by omega)
  have HU : Hid (∀ (u : Nat) w', u ≤ 9223372036854775807 → Calls Tryd.prog 39 #[.int .u64 (u : Int)] w' fun e w'' => ∃ a c, ∃ m : Nat, e = .returned (.slice a m c) ∧ Own w'.heap.size w'' (.slice a m c) (Wn.uint u) ∧ Below w'.heap.size w' w'') := fun u w' hu => (ruint_any u w' (by omega)).mono fun e w'' ⟨v', he, o, b⟩ => by
    obtain ⟨a, c, rfl, -⟩ := o.bs.shape
    exact ⟨a, c, _, he, o, b⟩
  have t1 := Wn.uint_len10 top (by omega)
  have t2 := Wn.uint_len10 n (by omega)
  have HLT : Hid ((Wn.uint top).length ≤ 10 ∧ (Wn.uint n).length ≤ 10 ∧ top ≤ 9223372036854775807 ∧ n ≤ 9223372036854775807) := ⟨t1, t2, ht, hn⟩
  have HL : Hid (∀ W v, W = w.alloc (.cells #[.int .u8 84] 5) → v = .slice (some ⟨w.heap.size, 0, none⟩) 1 1 → Own w.heap.size W v [84] ∧ Below w.heap.size w W) := fun W v e1 e2 => by
    subst e1 e2
    exact ⟨Own.lit (B := w.heap.size) w [84] (ok_one (by omega)) (Nat.le_refl _) (by simp [maxLen]) _ rfl, up0 _ _⟩
  clear t1 t2 ht hn
  go_enter Tryd.func20, Tryd.ntmps20
  go_wp2_with fail
  obtain ⟨hl1, hl2⟩ := HL.out _ _ rfl rfl
  have H0 : Hid (Own w.heap.size (w.alloc (.cells #[.int .u8 84] 5)) (.slice (some ⟨w.heap.size, 0, none⟩) 1 1) [84] ∧ Below w.heap.size w (w.alloc (.cells #[.int .u8 84] 5))) := ⟨hl1, hl2⟩
  clear hl1 hl2 HL
  refine (HU.out top _ HLT.out.2.2.1).mono ?_
  rintro e w1 ⟨a1, c1, m1, rfl, o1, b1⟩
  have H1 : Hid (Own w.heap.size w1 (.slice (some ⟨w.heap.size, 0, none⟩) 1 1) [84] ∧ Bs w1 (.slice a1 m1 c1) (Wn.uint top) ∧ Below w.heap.size w w1 ∧ w.heap.size ≤ w1.heap.size) := ⟨H0.out.1.kept b1, o1.bs, andThen H0.out.2 b1, (andThen H0.out.2 b1).size⟩
  clear o1 b1 H0
  go_wp2_with (at_builtin; refine wpList_append _ rfl (.tmp 9) (.tmp 12) 25 rfl w.heap.size hin Tryd.underlying25 _ [84] rfl H1.out.1 _ (Wn.uint top) rfl H1.out.2.1 (by have := HLT.out.1; simp; omega) H1.out.2.2.2 ?_)
  intro v2 w2 o2 b2 _
  have ⟨a2, c2, m2, e2⟩ : ∃ a2, ∃ c2 m2 : Nat, v2 = .slice a2 m2 c2 := by obtain ⟨a2, c2, e, -⟩ := o2.bs.shape; exact ⟨a2, c2, _, e⟩
  subst e2
  have H2 : Hid (Own w.heap.size w2 (.slice a2 m2 c2) ([84] ++ Wn.uint top) ∧ Below w.heap.size w w2) := ⟨o2, H1.out.2.2.1.trans b2⟩
  clear o2 b2 H1
  go_wp2_with fail
  refine (HU.out n _ HLT.out.2.2.2).mono ?_
  rintro e w3 ⟨a3, c3, m3, rfl, o3, b3⟩
  have H3 : Hid (Own w.heap.size w3 (.slice a2 m2 c2) ([84] ++ Wn.uint top) ∧ Bs w3 (.slice a3 m3 c3) (Wn.uint n) ∧ Below w.heap.size w w3 ∧ w.heap.size ≤ w3.heap.size) := ⟨H2.out.1.kept b3, o3.bs, andThen H2.out.2 b3, (andThen H2.out.2 b3).size⟩
  clear o3 b3 H2
  go_wp2_with (at_builtin; refine wpList_append _ rfl (.tmp 14) (.tmp 17) 25 rfl w.heap.size hin Tryd.underlying25 _ ([84] ++ Wn.uint top) rfl H3.out.1 _ (Wn.uint n) rfl H3.out.2.1 (by have := HLT.out.1; have := HLT.out.2.1; rw [List.length_append, List.length_singleton]; omega) H3.out.2.2.2 ?_)
  intro v4 w4 o4 b4 _
  have HFR : Hid (Calls Tryd.prog 23 #[v4] w4 fun e w' => ∃ a c, ∃ m : Nat, e = .returned (.tuple #[.slice a m c, .int .i64 0]) ∧ Own w.heap.size w' (.slice a m c) (Ar.fst top n) ∧ Below w.heap.size w w') := (rframe_ok v4 ([84] ++ Wn.uint top ++ Wn.uint n) w4 o4.bs (by simp) (by have := HLT.out.1; have := HLT.out.2.1; rw [List.length_append, List.length_append, List.length_singleton]; omega)).mono fun e w' ⟨v', he, o, b⟩ => by
    obtain ⟨a, c, rfl, -⟩ := o.bs.shape
    exact ⟨a, c, _, he, own_weak o (H3.out.2.2.1.trans b4).size, andThen (H3.out.2.2.1.trans b4) b⟩
  have ⟨a4, c4, m4, e4⟩ : ∃ a4, ∃ c4 m4 : Nat, v4 = .slice a4 m4 c4 := by obtain ⟨a4, c4, e, -⟩ := o4.bs.shape; exact ⟨a4, c4, _, e⟩
  subst e4
  clear o4 b4 H3
  go_wp2_with fail
  refine HFR.out.mono ?_
  rintro e w5 ⟨a5, c5, m5, rfl, o5, b5⟩
  go_wp2_with fail
  go_ret
  exact ⟨_, _, _, rfl, o5, b5⟩
set_option maxRecDepth 100000 in
set_option maxHeartbeats 1000000 in
theorem rarlast_any (v : Value) (L : List Nat) (w : World) (h : Bs w v L) : Calls Tryd.prog 24 #[v] w fun e w' => ∃ a c, ∃ m : Nat, e = .returned (.slice a m c) ∧ Own w.heap.size w' (.slice a m c) (Ar.lst L) ∧ Below w.heap.size w w' := by
  have hin := info5
  have hz : Wm.crc L < 4294967296 := Wm.crc_lt L h.good
  have HS : Hid (∀ W, Below w.heap.size w W → Calls Tryd.prog 45 #[v] W fun e w' => e = .returned (.int .u32 (Wm.crc L : Nat)) ∧ W = w') := fun W hb => rsum_any v L W (h.kept hb)
  have HW : Hid (∀ W, Calls Tryd.prog 46 #[.int .u32 (Wm.crc L : Int)] W fun e w' => ∃ a, ∃ c : Nat, e = .returned (.slice a 4 c) ∧ Own W.heap.size w' (.slice a 4 c) (le4 (Wm.crc L)) ∧ Below W.heap.size W w') := fun W => rarlow_any _ W hz
  have HL : Hid (∀ W v, W = w.alloc (.cells #[.int .u8 69] 5) → v = .slice (some ⟨w.heap.size, 0, none⟩) 1 1 → Own w.heap.size W v [69] ∧ Below w.heap.size w W) := fun W v e1 e2 => by
    subst e1 e2
    exact ⟨Own.lit (B := w.heap.size) w [69] (ok_one (by omega)) (Nat.le_refl _) (by simp [maxLen]) _ rfl, up0 _ _⟩
  have HLS : Hid (Ar.lst L = fr ([69] ++ le4 (Wm.crc L))) := rfl
  obtain ⟨ao, cap, rfl, -⟩ := h.shape
  generalize Wm.crc L = s at *
  clear h hz
  go_enter Tryd.func24, Tryd.ntmps24
  go_wp2_with fail
  obtain ⟨hl1, hl2⟩ := HL.out _ _ rfl rfl
  have H0 : Hid (Own w.heap.size (w.alloc (.cells #[.int .u8 69] 5)) (.slice (some ⟨w.heap.size, 0, none⟩) 1 1) [69] ∧ Below w.heap.size w (w.alloc (.cells #[.int .u8 69] 5))) := ⟨hl1, hl2⟩
  clear hl1 hl2 HL
  refine (HS.out _ H0.out.2).mono ?_
  rintro e w1 ⟨rfl, rfl⟩
  go_wp2_with fail
  refine (HW.out _).mono ?_
  rintro e w1 ⟨a1, c1, rfl, o1, b1⟩
  have H1 : Hid (Own w.heap.size w1 (.slice (some ⟨w.heap.size, 0, none⟩) 1 1) [69] ∧ Bs w1 (.slice a1 4 c1) (le4 s) ∧ Below w.heap.size w w1 ∧ w.heap.size ≤ w1.heap.size) := ⟨H0.out.1.kept b1, o1.bs, andThen H0.out.2 b1, (andThen H0.out.2 b1).size⟩
  clear o1 b1 H0
  go_wp2_with (at_builtin; refine wpList_append _ rfl (.tmp 7) (.tmp 10) 25 rfl w.heap.size hin Tryd.underlying25 _ [69] rfl H1.out.1 _ (le4 s) rfl H1.out.2.1 (by simp [Ar.le4_len]) H1.out.2.2.2 ?_)
  intro v4 w4 o4 b4 _
  have HFR : Hid (Calls Tryd.prog 23 #[v4] w4 fun e w' => ∃ a c, ∃ m : Nat, e = .returned (.tuple #[.slice a m c, .int .i64 0]) ∧ Own w.heap.size w' (.slice a m c) (Ar.lst L) ∧ Below w.heap.size w w') := (rframe_ok v4 _ w4 o4.bs (by simp) (by simp [Ar.le4_len])).mono fun e w' ⟨v', he, o, b⟩ => by
    obtain ⟨a, c, rfl, -⟩ := o.bs.shape
    exact ⟨a, c, _, he, by rw [HLS.out]; exact own_weak o (H1.out.2.2.1.trans b4).size, andThen (H1.out.2.2.1.trans b4) b⟩
  have ⟨a4, c4, m4, e4⟩ : ∃ a4, ∃ c4 m4 : Nat, v4 = .slice a4 m4 c4 := by obtain ⟨a4, c4, e, -⟩ := o4.bs.shape; exact ⟨a4, c4, _, e⟩
  subst e4
  clear o4 b4 H1
  go_wp2_with fail
  refine HFR.out.mono ?_
  rintro e w5 ⟨a5, c5, m5, rfl, o5, b5⟩
  go_wp2_with fail
  go_ret
  exact ⟨_, _, _, rfl, o5, b5⟩
end Go.Proofs.YtenhaogheilmoaaDoor

/-
  The reference's Pack of no record; awake; cutRecs.
-/
namespace Go.Proofs.YtenhaogheilmoaaDoor
open Go Go.RowKit
open Wb

theorem OutT.shape {B : Nat} {w : World} {v : Value} {ps : List (Rec × Value)} (h : OutT B w v ps) : ∃ a c, v = .slice a ps.length c := by
  rcases h.1.2 with ⟨e, h0⟩ | ⟨g, c, cur, e, _⟩
  · exact ⟨none, 0, by rw [e, h0]⟩
  · exact ⟨_, c, e⟩
theorem OutT.outs {B : Nat} {w : World} {v : Value} {ps : List (Rec × Value)} (h : OutT B w v ps) : Outs B w v ps := ⟨h.1, fun p hp => ⟨(h.2 p hp).bs, fun g e => by
  intro hne b off n cap e2 hb
  subst hb
  rcases (h.2 p hp).row.2 with ⟨e3, h3⟩ | ⟨g', c', cur, e3, _, hg', _⟩
  · rw [e3] at e2
    cases e2
  · rw [e3] at e2
    simp only [Value.slice.injEq, Option.some.injEq, Addr.mk.injEq] at e2
    obtain ⟨⟨rfl, -⟩, -⟩ := e2
    obtain ⟨cs, z, h9⟩ := rrow_typed h.1 g' e
    rw [hg'] at h9
    simp at h9⟩⟩
set_option maxRecDepth 100000 in
set_option maxHeartbeats 2000000 in
theorem rarpack_0 (w : World) : Calls Tryd.prog 8 #[.agg #[.int .i64 0, .slice none 0 0]] w fun e w' => ∃ a c, ∃ m : Nat, e = .returned (.tuple #[.slice a m c, .int .i64 0]) ∧ Own w.heap.size w' (.slice a m c) (Ar.pack recC 0 []) ∧ Below w.heap.size w w' := by
  have hin := info5
  have kc := hd_conv (w.alloc (.cells #[.int .i64 0, .slice none 0 0] 30))
  rw [heap_one] at kc
  have HLT : Hid (Bs ((w.alloc (.cells #[.int .i64 0, .slice none 0 0] 30)).alloc (.cells #[.int .u8 65, .int .u8 78, .int .u8 65, .int .u8 82, .int .u8 1] 5 (5, 6))) (.slice (some ⟨w.heap.size + 1, 0, none⟩) 5 5) Ar.hd) := by
    have e := hd_new (w.alloc (.cells #[.int .i64 0, .slice none 0 0] 30))
    rw [heap_one] at e
    exact e
  have HF : Hid (∀ W, Calls Tryd.prog 20 #[.int .i64 0, .int .i64 0] W fun e w' => ∃ a c, ∃ m : Nat, e = .returned (.slice a m c) ∧ Own W.heap.size w' (.slice a m c) (Ar.fst 0 0) ∧ Below W.heap.size W w') := fun W => rarfirst_any 0 0 W (by omega) (by omega)
  have HLA : Hid (∀ v L W, Bs W v L → Calls Tryd.prog 24 #[v] W fun e w' => ∃ a c, ∃ m : Nat, e = .returned (.slice a m c) ∧ Own W.heap.size w' (.slice a m c) (Ar.lst L) ∧ Below W.heap.size W w') := fun v L W h => rarlast_any v L W h
  have HX : Hid (LB ((w.alloc (.cells #[.int .i64 0, .slice none 0 0] 30)).alloc (.cells #[.int .u8 65, .int .u8 78, .int .u8 65, .int .u8 82, .int .u8 1] 5 (5, 6))) w.heap.size 30 [.int .i64 0, .slice none 0 0] ∧ Below w.heap.size w ((w.alloc (.cells #[.int .i64 0, .slice none 0 0] 30)).alloc (.cells #[.int .u8 65, .int .u8 78, .int .u8 65, .int .u8 82, .int .u8 1] 5 (5, 6)))) := ⟨(lb_new w _ _).kept (up0 _ _), up (up0 _ _) _⟩
  go_enter Tryd.func8, Tryd.ntmps8
  go_upto_region 4 with fail
  obtain ⟨W0, hW0⟩ : ∃ W0, W0 = (w.alloc (.cells #[.int .i64 0, .slice none 0 0] 30)).alloc (.cells #[.int .u8 65, .int .u8 78, .int .u8 65, .int .u8 82, .int .u8 1] 5 (5, 6)) := ⟨_, rfl⟩
  rw [← hW0] at HLT HX ⊢
  clear hW0 kc
  have y0 := HX.out.1.cell 0 _ rfl
  have y1 := HX.out.1.cell 1 _ rfl
  go_wp2_with fail
  refine (HF.out _).mono ?_
  rintro e w1 ⟨a1, c1, m1, rfl, o1, b1⟩
  have st : Hid (PS 2 4 W0 0 0 w1 (w.heap.size + 1) (.slice none 0 0) (.slice none 0 0) (.slice none 0 0) (.slice a1 m1 c1)) := ⟨b1, HLT.out.kept b1, o1.bs⟩
  clear o1 b1 y0 y1 HLT HF
  go_wp2_with (at_builtin; refine wpList_step fun _ hKK => step_head rfl (.tmp 18) (.tmp 24) rfl st.out rfl rfl (by omega) (by omega) fun W2 a2 c2 m2 o2 b2 => hKK _ _ ?_)
  have hgW : LB W2 w.heap.size 30 [.int .i64 0, .slice none 0 0] := HX.out.1.kept b2
  have z1 := hgW.cell 1 _ rfl
  have H2 : Hid (Own w.heap.size W2 (.slice a2 m2 c2) (Ar.hd ++ Ar.fst 0 0) ∧ Below w.heap.size w W2 ∧ w.heap.size ≤ W2.heap.size) := ⟨own_weak o2 HX.out.2.size, HX.out.2.trans (b2.mono HX.out.2.size), (HX.out.2.trans (b2.mono HX.out.2.size)).size⟩
  have hm2 : m2 = (Ar.hd ++ Ar.fst 0 0).length := by
    obtain ⟨_, _, e, -⟩ := o2.bs.shape
    simp only [Value.slice.injEq] at e
    exact e.2.1
  have hml : m2 ≤ 100 := by
    have := fst_len 0 0 (by omega) (by omega)
    rw [hm2, List.length_append]
    simp only [Ar.hd, List.length_cons, List.length_nil]
    omega
  clear st o2 b2 hm2 HX hgW
  go_wp2_with fail
  go_loopw [5] (fun i wr => i = .int .i64 0 ∧ wr = W2) (fun _ _ => 0)
  case atStart => exact ⟨rfl, rfl⟩
  case round =>
    obtain ⟨rfl, rfl⟩ := hrel
    go_wp2_with fail
    go_loopw [4, 7] (fun o i wr2 => o = .slice a2 m2 c2 ∧ i = .int .i64 0 ∧ wr2 = wr) (fun _ _ _ => 0)
    case atStart => exact ⟨rfl, rfl, rfl⟩
    case round =>
      obtain ⟨rfl, rfl, rfl⟩ := hrel
      have hd1 : ((8388597 : Int) < (m2 : Int)) = False := by simp; omega
      go_wp2_with fail
      refine (HLA.out _ _ _ H2.out.1.bs).mono ?_
      rintro e w4 ⟨a4, c4, m4, rfl, o4, b4⟩
      have H4 : Hid (Own w.heap.size w4 (.slice a2 m2 c2) (Ar.hd ++ Ar.fst 0 0) ∧ Bs w4 (.slice a4 m4 c4) (Ar.lst (Ar.hd ++ Ar.fst 0 0)) ∧ Below w.heap.size w w4 ∧ w.heap.size ≤ w4.heap.size ∧ (Ar.hd ++ Ar.fst 0 0).length + (Ar.lst (Ar.hd ++ Ar.fst 0 0)).length ≤ 1000) := ⟨H2.out.1.kept b4, o4.bs, andThen H2.out.2.1 b4, (andThen H2.out.2.1 b4).size, by
        have e1 := fst_len 0 0 (by omega) (by omega)
        have e2 : (Ar.lst (Ar.hd ++ Ar.fst 0 0)).length ≤ 100 := by
          show (fr _).length ≤ _
          rw [fr_length]
          have e3 := Wn.uint_len10 (69 :: le4 (Wm.crc (Ar.hd ++ Ar.fst 0 0))).length (by simp [Ar.le4_len])
          simp only [List.length_cons, Ar.le4_len] at *
          omega
        rw [List.length_append]
        simp only [Ar.hd, List.length_cons, List.length_nil] at *
        omega⟩
      clear o4 b4 H2 HLA
      go_wp2_with (at_builtin; refine wpList_append _ rfl (.tmp 85) (.tmp 87) 25 rfl w.heap.size hin Tryd.underlying25 _ (Ar.hd ++ Ar.fst 0 0) rfl H4.out.1 _ (Ar.lst (Ar.hd ++ Ar.fst 0 0)) rfl H4.out.2.1 (by have := H4.out.2.2.2.2; omega) H4.out.2.2.2.1 ?_)
      intro v5 w5 o5 b5 _
      have ⟨a5, c5, m5, e5⟩ : ∃ a5, ∃ c5 m5 : Nat, v5 = .slice a5 m5 c5 := by obtain ⟨a5, c5, e, -⟩ := o5.bs.shape; exact ⟨a5, c5, _, e⟩
      subst e5
      have H5 : Hid (Own w.heap.size w5 (.slice a5 m5 c5) (Ar.pack recC 0 []) ∧ Below w.heap.size w w5) := ⟨by
        have e : Ar.hd ++ Ar.fst 0 0 ++ Ar.lst (Ar.hd ++ Ar.fst 0 0) = Ar.pack recC 0 [] := by
          have e2 : Ar.fore recC 0 [] = Ar.hd ++ Ar.fst 0 0 := by
            unfold Ar.fore
            rw [show Ar.rcs recC [] = [] from rfl, List.append_nil]
            rfl
          unfold Ar.pack
          rw [e2]
        rw [← e]
        exact o5, H4.out.2.2.1.trans b5⟩
      clear o5 b5 H4
      go_wp2_with fail
      refine bodyPost_ret (by simp [results, Tryd.results8, go_sem]; try rfl) rfl ?_
      exact ⟨_, _, _, rfl, H5.out.1, H5.out.2⟩
end Go.Proofs.YtenhaogheilmoaaDoor

/-
  ArchiveOne: awake, cutRecs.
-/
namespace Go.Proofs.YtenhaogheilmoaaDoor
open Go Go.RowKit
open Wb

theorem recsAt_none (w : World) : RecsAt w (.slice none 0 0) [] := ⟨none, 0, rfl, by simp [maxLen], fun k r hr => by simp at hr⟩
theorem read_pk (top : Nat) (rs : List Rec) (hg : ∀ r ∈ rs, r.good) (h1 : top ≤ 9223372036854775807) (h2 : rs.length < 18446744073709551616) (h3 : (Ar.pack recC top rs).length ≤ 8388608) : Ar.read recC (Ar.pack recC top rs) = some (top, rs) := by
  have e := Ar.read_pack recC top rs [] hg h1 h2 (by rw [List.append_nil]; exact h3)
  rw [List.append_nil, if_pos rfl] at e
  exact e
theorem lst_len (L : List Nat) : (Ar.lst L).length ≤ 100 := by
  show (fr _).length ≤ _
  rw [fr_length]
  have e3 := Wn.uint_len10 (69 :: le4 (Wm.crc L)).length (by simp [Ar.le4_len])
  simp only [List.length_cons, Ar.le4_len] at *
  omega
theorem pack0_len : (Ar.pack recC 0 []).length ≤ 8388608 := by
  have e1 := fst_len 0 0 (by omega) (by omega)
  have e2 := lst_len (Ar.fore recC 0 [])
  unfold Ar.pack
  rw [List.length_append]
  have e3 : (Ar.fore recC 0 []).length = 5 + (Ar.fst 0 0).length := by
    unfold Ar.fore
    rw [show Ar.rcs recC [] = [] from rfl, List.append_nil, List.length_append]
    rfl
  omega
set_option maxRecDepth 100000 in
set_option maxHeartbeats 2000000 in
theorem arawake_any (w : World) (hT : Tab w) (hT2 : Text.TabP 3 .i32 Text.Tx.lets w) (hG : TagsT w) : Calls Tryd.prog 5 #[] w fun e w' => e = .returned (.bool true) ∧ Below w.heap.size w w' := by
  obtain ⟨P0, hP0⟩ : ∃ P0, Ar.pack recC 0 [] = P0 := ⟨_, rfl⟩
  have HR0 : Hid (Ar.read recC P0 = some (0, [])) := by
    show _ = _
    rw [← hP0]
    exact read_pk 0 [] (fun r hr => by cases hr) (by omega) (by simp) pack0_len
  have H1 : Hid (Calls Tryd.prog 8 #[.agg #[.int .i64 0, .slice none 0 0]] w fun e w' => ∃ a c, ∃ m : Nat, e = .returned (.tuple #[.slice a m c, .int .i64 0]) ∧ Own w.heap.size w' (.slice a m c) P0 ∧ Below w.heap.size w w') := hP0 ▸ rarpack_0 w
  have H2 : Hid (∀ W, Below w.heap.size w W → Calls Tryd.prog 7 #[.agg #[.int .i64 0, .slice none 0 0]] W fun e w' => ∃ a c, ∃ m : Nat, e = .returned (.tuple #[.slice a m c, .int .i64 0]) ∧ Own W.heap.size w' (.slice a m c) P0 ∧ Below W.heap.size W w') := fun W hb => hP0 ▸ arpack_ok 0 [] (.slice none 0 0) W (recsAt_none _) (fun r hr => by cases hr) (by omega) (by simp) pack0_len (hT.kept hb) (hT2.kept hb) (hG.kept hb)
  have H3 : Hid (∀ v W, Below w.heap.size w W → Bs W v P0 → Calls Tryd.prog 14 #[v] W fun e w' => ∃ a, ∃ c : Nat, e = .returned (.tuple #[.agg #[.int .i64 0, .slice a 0 c], .int .i64 0, .int .i64 0]) ∧ Below W.heap.size W w') := fun v W hb hv => (arread_any v P0 W hv (hT.kept hb) (hT2.kept hb) (hG.kept hb)).mono fun e w' hp => by
    rw [HR0.out] at hp
    obtain ⟨b, vr, ps, he, o, hm⟩ := hp
    obtain ⟨a, c, e2⟩ := o.shape
    have hl : ps.length = 0 := by
      have := congrArg List.length hm
      simpa using this
    rw [hl] at e2
    subst e2
    exact ⟨a, c, he, b⟩
  have H4 : Hid (∀ va vb W, Bs W va P0 → Bs W vb P0 → Calls Tryd.prog 9 #[va, vb] W fun e w' => e = .returned (.bool true) ∧ Below W.heap.size W w') := fun va vb W ha hb => (arsameb_any va vb P0 P0 W ha hb).mono fun e w' ⟨he, b⟩ => ⟨by rw [he, decide_eq_true rfl], b⟩
  clear hT hT2 hG hP0
  go_enter Tryd.func5, Tryd.ntmps5
  go_wp2_with fail
  refine H1.out.mono ?_
  rintro e w1 ⟨a1, c1, m1, rfl, o1, b1⟩
  have K1 : Hid (Bs w1 (.slice a1 m1 c1) P0 ∧ Below w.heap.size w w1) := ⟨o1.bs, b1⟩
  clear o1 b1 H1
  go_wp2_with fail
  refine (H2.out _ K1.out.2).mono ?_
  rintro e w2 ⟨a2, c2, m2, rfl, o2, b2⟩
  have K2 : Hid (Bs w2 (.slice a1 m1 c1) P0 ∧ Bs w2 (.slice a2 m2 c2) P0 ∧ Below w.heap.size w w2) := ⟨K1.out.1.kept b2, o2.bs, andThen K1.out.2 b2⟩
  clear o2 b2 H2 K1
  go_wp2_with fail
  refine (H3.out _ _ K2.out.2.2 K2.out.1).mono ?_
  rintro e w3 ⟨a3, c3, rfl, b3⟩
  have K3 : Hid (∀ o, Bs (w3.alloc o) (.slice a1 m1 c1) P0 ∧ Bs (w3.alloc o) (.slice a2 m2 c2) P0 ∧ Below w.heap.size w (w3.alloc o)) := fun o => ⟨(K2.out.1.kept b3).alloc _, (K2.out.2.1.kept b3).alloc _, up (andThen K2.out.2.2 b3) _⟩
  have L3 : Hid (LB (w3.alloc (.cells #[.int .i64 0, .slice a3 0 c3] 30)) w3.heap.size 30 [.int .i64 0, .slice a3 0 c3]) := lb_new _ _ _
  clear b3 H3 K2
  go_wp2_with fail
  refine (H4.out _ _ _ (K3.out _).2.1 (K3.out _).1).mono ?_
  rintro e w4 ⟨rfl, b4⟩
  have L4 := L3.out.kept b4
  have y0 := L4.cell 0 _ rfl
  have y1 := L4.cell 1 _ rfl
  have K4 : Hid (Below w.heap.size w w4) := andThen (K3.out _).2.2 b4
  clear L4 b4 K3 L3 H4
  go_wp2_with fail
  go_ret
  exact ⟨rfl, K4.out⟩
theorem recsAt_take {w : World} {ao : Option Addr} {cap : Nat} {rs : List Rec} (h : RecsAt w (.slice ao rs.length cap) rs) (n : Nat) (hn : n ≤ rs.length) : RecsAt w (.slice ao n cap) (rs.take n) := by
  obtain ⟨ao', cap', e, hm, hc⟩ := h
  simp only [Value.slice.injEq] at e
  obtain ⟨rfl, -, rfl⟩ := e
  refine ⟨ao, cap, by rw [List.length_take, Nat.min_eq_left hn], by rw [List.length_take]; omega, fun k r hr => ?_⟩
  rw [List.getElem?_take] at hr
  split at hr
  · exact hc k r hr
  · cases hr
theorem arcutr_any (v : Value) (rs : List Rec) (w : World) (h : RecsAt w v rs) (hcap : ∀ ao n cap, v = .slice ao n cap → n ≤ cap ∧ cap ≤ maxLen) (hg : LGood rs) : Calls Tryd.prog 4 #[v] w fun e w' => ∃ v' ps, e = .returned v' ∧ Rws w.heap.size w' v' ps ∧ ps.map Prod.fst = rs.take 120 ∧ Below w.heap.size w w' := by
  obtain ⟨ao, cap, rfl, hm, hc⟩ := id h
  obtain ⟨hc1, hc2⟩ := hcap ao _ cap rfl
  unfold maxLen at hc2
  by_cases k1 : 120 < rs.length
  · have HC : Hid (Calls Tryd.prog 13 #[.slice ao 120 cap] w fun e w' => ∃ v' ps, e = .returned v' ∧ Rws w.heap.size w' v' ps ∧ ps.map Prod.fst = rs.take 120 ∧ Below w.heap.size w w') := cloneAll_any _ (rs.take 120) w (recsAt_take h 120 (by omega)) ⟨fun r hr => hg.each r (List.mem_of_mem_take hr), by rw [List.length_take]; have := hg.few; omega⟩
    have hk1 : ((120 : Int) < (rs.length : Int)) = True := by simp; omega
    have hk2 : ((120 : Int) ≤ (cap : Int)) = True := by simp; omega
    clear h hc hg hcap k1
    go_enter Tryd.func4, Tryd.ntmps4
    go_wp2_with fail
    refine HC.out.mono ?_
    rintro e w1 ⟨v1, ps, rfl, o1, m1, b1⟩
    go_wp2_with fail
    go_ret
    exact ⟨v1, ps, rfl, o1, m1, b1⟩
  · have HC : Hid (Calls Tryd.prog 13 #[.slice ao rs.length cap] w fun e w' => ∃ v' ps, e = .returned v' ∧ Rws w.heap.size w' v' ps ∧ ps.map Prod.fst = rs.take 120 ∧ Below w.heap.size w w') := by
      have e := cloneAll_any _ rs w h hg
      rw [← List.take_of_length_le (l := rs) (i := 120) (by omega)] at e
      rw [List.take_of_length_le (by omega)] at e ⊢
      exact e
    have hk1 : ((120 : Int) < (rs.length : Int)) = False := by simp; omega
    clear h hc hg hcap k1
    go_enter Tryd.func4, Tryd.ntmps4
    go_wp2_with fail
    refine HC.out.mono ?_
    rintro e w1 ⟨v1, ps, rfl, o1, m1, b1⟩
    go_wp2_with fail
    go_ret
    exact ⟨v1, ps, rfl, o1, m1, b1⟩
end Go.Proofs.YtenhaogheilmoaaDoor
