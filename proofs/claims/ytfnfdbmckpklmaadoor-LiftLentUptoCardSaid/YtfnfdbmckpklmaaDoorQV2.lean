import Derived.Test.YtfnfdbmckpklmaaDoorQV1
/-
  LiftLent: the reference's UpAll, with data that lies in no older block.
-/
namespace Go.Proofs.YtfnfdbmckpklmaaDoor
open Go Go.RowKit
open Wb

/-- what the reference's UpAll answers: its records' data lie in no block that was there -/
def UaPostF (to : Int) (rs : List Rec) (w : World) (e : Ending) (w' : World) : Prop := Below w.heap.size w w' ∧
  ((∃ ps v', (∀ r ∈ rs, (upP to r).1 = 0) ∧ e = .returned (.tuple #[v', .int .i64 0, .int .i64 0]) ∧ Outs w.heap.size w' v' ps ∧ (ps.map Prod.fst = rs.map fun r => (upP to r).2) ∧ ∀ p ∈ ps, ∀ g, g < w.heap.size → Off g p.2 p.1.l) ∨
   ∃ k r, rs[k]? = some r ∧ (∀ q ∈ rs.take k, (upP to q).1 = 0) ∧ (upP to r).1 ≠ 0 ∧ e = .returned (.tuple #[.slice none 0 0, .int .i64 (k : Int), .int .i64 (upP to r).1]))
set_option maxRecDepth 100000 in
set_option maxHeartbeats 4000000 in
theorem r4upall_off (to : Int) (hto : 1 ≤ to ∧ to ≤ 3) (v : Value) (rs : List Rec) (w : World) (h : RecsAt w v rs) (hg : RGood rs) (hT : Tabs w) :
    Calls Tryd.prog 26 #[.int .i64 to, v] w fun e w' => UaPostF to rs w e w' := by
  have hin := infoR12
  have HIR : Hid ((Tryd.prog.info? 24).map (·.size) = some 12) := infoRec
  have HT : Hid (∀ w', Below w.heap.size w w' → Tabs w') := fun w' hb => hT.kept hb
  have HGE : Hid (∀ r ∈ rs, r.nm.size ≤ 1048576 ∧ r.x.fit) := hg.each
  have hfew := hg.few
  have HRS : Hid (∀ w', Below w.heap.size w w' → RecsAt w' v rs) := fun w' hb => h.kept hb
  obtain ⟨ao, cap, rfl, hm, _⟩ := h
  unfold maxLen at hm
  have h1 : ¬ to < 1 := by omega
  have h3 : ¬ 3 < to := by omega
  clear hT hg hto
  go_enter Tryd.func26, Tryd.ntmps26
  go_wp2
  go_loopw [7, 8] (fun o i wr => ∃ (k : Nat) (ps : List (Rec × Value)), k ≤ rs.length ∧ i = .int .i64 (k : Int) ∧ (∀ q ∈ rs.take k, (upP to q).1 = 0) ∧ Outs w.heap.size wr o ps ∧ (ps.map Prod.fst = (rs.take k).map fun r => (upP to r).2) ∧ Below w.heap.size w wr ∧ (∀ p ∈ ps, ∀ g, g < w.heap.size → Off g p.2 p.1.l)) (fun _ i _ => rs.length - (intOf i).toNat)
  case atStart => exact ⟨0, [], Nat.zero_le _, rfl, (fun q hq => by simp at hq), Outs.nil _ _, rfl, Below.refl _ _, fun _ h => nomatch h⟩
  case round =>
    obtain ⟨k, ps, hk, rfl, hgood, hown, hmap, hbel, hoff⟩ := hrel
    have HFF : Hid (∀ p ∈ ps, ∀ g, g < w.heap.size → Off g p.2 p.1.l) := hoff
    have HSZ : Hid (w.heap.size ≤ wr.heap.size) := hbel.size
    clear hoff
    by_cases hlt : k < rs.length
    · obtain ⟨r, hr⟩ : ∃ r, rs[k]? = some r := ⟨rs[k], List.getElem?_eq_getElem hlt⟩
      obtain ⟨ao', cap', e', _, hcr⟩ := HRS.out _ hbel
      simp only [Value.slice.injEq] at e'
      obtain ⟨rfl, _, rfl⟩ := e'
      obtain ⟨b, off, d, rfl, hrg, hbs⟩ := hcr k r hr
      have hnf := HGE.out r (List.mem_of_getElem? hr)
      have HTK : Hid (rs.take (k + 1) = rs.take k ++ [r]) := by show _ = _; rw [List.take_add_one, hr]; rfl
      have HGD : Hid (∀ q ∈ rs.take k, (upP to q).1 = 0) := hgood
      have HMP : Hid (ps.map Prod.fst = (rs.take k).map fun r => (upP to r).2) := hmap
      have hpl : ps.length = k := by
        have := congrArg List.length hmap
        simpa [Nat.min_eq_left hk] using this
      have HRR : Hid (rs[k]? = some r) := hr
      obtain ⟨Q, hQ⟩ : ∃ Q, (upP to r).2 = Q := ⟨_, rfl⟩
      obtain ⟨z, hz⟩ : ∃ z, (upP to r).1 = z := ⟨_, rfl⟩
      have HQ : Hid ((upP to r).2 = Q) := hQ
      have HZ : Hid ((upP to r).1 = z) := hz
      have HUP : Hid (Calls Tryd.prog 54 #[rv r.x r.nm d, .int .i64 to] wr fun e w'' => ∃ a1, ∃ cp1 : Nat, e = .returned (.tuple #[rv Q.x Q.nm (.slice a1 Q.l.length cp1), .int .i64 z]) ∧ Bs w'' (.slice a1 Q.l.length cp1) Q.l ∧ (∀ g, g < wr.heap.size → Off g (.slice a1 Q.l.length cp1) Q.l) ∧ Below wr.heap.size wr w'') := (r4up_any to r d wr hbs (HT.out _ hbel) hnf.1 hnf.2).mono fun e w'' ⟨a1, p1, he, hb1, ho1, hk1⟩ => by
        rw [hQ] at he hb1 ho1
        rw [hz] at he
        exact ⟨a1, p1, he, hb1, ho1, hk1⟩
      obtain ⟨ar, cr, rfl, _⟩ := hbs.shape
      have HR0 : Hid (wr.rangeAt b (off + k * 12) [.int .i64 r.x.v, .int .i64 r.x.k, .int .i64 r.x.s, .int .i64 r.x.p, .int .i64 r.x.t, .int .i64 r.x.a, .int .i64 r.x.l, .int .i64 r.x.c, .int .i64 r.x.n, .int .i64 r.x.i, .string r.nm, .slice ar r.l.length cr]) := hrg
      have HOB : Hid (∀ g, u7.ownBlock = some g → g < wr.heap.size) := fun g hg => (World.ownsRow.lt hown.1 g hg).2
      have HOW : Hid (Outs w.heap.size wr u7 ps ∧ Below w.heap.size w wr) := ⟨hown, hbel⟩
      clear hcr hrg hbs hown hbel hnf HGE HRS HT hmap hgood hr hQ hz
      unfold rv at *
      go_wp2_with (refine wpList_load_mid rfl 24 _ rfl b (off + k * 12) rfl [.int .i64 r.x.v, .int .i64 r.x.k, .int .i64 r.x.s, .int .i64 r.x.p, .int .i64 r.x.t, .int .i64 r.x.a, .int .i64 r.x.l, .int .i64 r.x.c, .int .i64 r.x.n, .int .i64 r.x.i, .string r.nm, .slice ar r.l.length cr] _ HR0.out Tryd.underlying24 rfl HIR.out ?_)
      refine HUP.out.mono ?_
      rintro e w1 ⟨a1, cp1, rfl, hq1, hf1, b1⟩
      by_cases h0 : z = 0
      · subst h0
        have HO1 : Hid (∀ o o', Outs w.heap.size ((w1.alloc o).alloc o') u7 ps ∧ Bs ((w1.alloc o).alloc o') (.slice a1 Q.l.length cp1) Q.l ∧ Below w.heap.size w ((w1.alloc o).alloc o') ∧ w.heap.size ≤ ((w1.alloc o).alloc o').heap.size) := fun o o' => ⟨((HOW.out.1.kept b1).kept (up0 _ _)).kept (up0 _ _), (hq1.alloc _).alloc _, up (up (andThen HOW.out.2 b1) _) _, (up (up (andThen HOW.out.2 b1) _) _).size⟩
        have HOF : Hid (∀ g, u7.ownBlock = some g → Off g (.slice a1 Q.l.length cp1) Q.l) := fun g hg => hf1 g (HOB.out g hg)
        have HR2 : Hid ((w1.alloc (.cells #[.int .i64 Q.x.v, .int .i64 Q.x.k, .int .i64 Q.x.s, .int .i64 Q.x.p, .int .i64 Q.x.t, .int .i64 Q.x.a, .int .i64 Q.x.l, .int .i64 Q.x.c, .int .i64 Q.x.n, .int .i64 Q.x.i, .string Q.nm, .slice a1 Q.l.length cp1] 24)).rangeAt w1.heap.size 0 [.int .i64 Q.x.v, .int .i64 Q.x.k, .int .i64 Q.x.s, .int .i64 Q.x.p, .int .i64 Q.x.t, .int .i64 Q.x.a, .int .i64 Q.x.l, .int .i64 Q.x.c, .int .i64 Q.x.n, .int .i64 Q.x.i, .string Q.nm, .slice a1 Q.l.length cp1]) := new_range w1 #[.int .i64 Q.x.v, .int .i64 Q.x.k, .int .i64 Q.x.s, .int .i64 Q.x.p, .int .i64 Q.x.t, .int .i64 Q.x.a, .int .i64 Q.x.l, .int .i64 Q.x.c, .int .i64 Q.x.n, .int .i64 Q.x.i, .string Q.nm, .slice a1 Q.l.length cp1]
        have HR3 : Hid (∀ o, ((w1.alloc o).alloc (.cells #[.int .i64 Q.x.v, .int .i64 Q.x.k, .int .i64 Q.x.s, .int .i64 Q.x.p, .int .i64 Q.x.t, .int .i64 Q.x.a, .int .i64 Q.x.l, .int .i64 Q.x.c, .int .i64 Q.x.n, .int .i64 Q.x.i, .string Q.nm, .slice a1 Q.l.length cp1] 24)).rangeAt (w1.heap.size + 1) 0 [.int .i64 Q.x.v, .int .i64 Q.x.k, .int .i64 Q.x.s, .int .i64 Q.x.p, .int .i64 Q.x.t, .int .i64 Q.x.a, .int .i64 Q.x.l, .int .i64 Q.x.c, .int .i64 Q.x.n, .int .i64 Q.x.i, .string Q.nm, .slice a1 Q.l.length cp1]) := fun o => new_range2 w1 o #[.int .i64 Q.x.v, .int .i64 Q.x.k, .int .i64 Q.x.s, .int .i64 Q.x.p, .int .i64 Q.x.t, .int .i64 Q.x.a, .int .i64 Q.x.l, .int .i64 Q.x.c, .int .i64 Q.x.n, .int .i64 Q.x.i, .string Q.nm, .slice a1 Q.l.length cp1]
        have HF2 : Hid (∀ p ∈ ps ++ [(Q, Value.slice a1 Q.l.length cp1)], ∀ g, g < w.heap.size → Off g p.2 p.1.l) := fun p hp g hg => by
          rcases List.mem_append.1 hp with hp | hp
          · exact HFF.out p hp g hg
          · obtain rfl := List.mem_singleton.1 hp
            exact hf1 g (Nat.lt_of_lt_of_le hg HSZ.out)
        clear hq1 hf1 b1 HOW HR0 HUP HOB
        go_wp2_with (first
          | (refine wpList_load_mid rfl 24 _ rfl w1.heap.size 0 rfl [.int .i64 Q.x.v, .int .i64 Q.x.k, .int .i64 Q.x.s, .int .i64 Q.x.p, .int .i64 Q.x.t, .int .i64 Q.x.a, .int .i64 Q.x.l, .int .i64 Q.x.c, .int .i64 Q.x.n, .int .i64 Q.x.i, .string Q.nm, .slice a1 Q.l.length cp1] _ HR2.out Tryd.underlying24 rfl HIR.out ?_)
          | (at_builtin; refine wpList_append_rec _ rfl (.tmp 36) (.tmp 38) 28 rfl w.heap.size hin Tryd.underlying28 _ ps (Q, .slice a1 Q.l.length cp1) rfl (HO1.out _ _).1 _ rfl (HR3.out _) rfl (HO1.out _ _).2.1 HOF.out (by omega) (HO1.out _ _).2.2.2 ?_))
        intro v2 w2 hr2 hb2 _
        have R2 : Hid (Outs w.heap.size w2 v2 (ps ++ [(Q, .slice a1 Q.l.length cp1)]) ∧ Below w.heap.size w w2) := ⟨hr2, (HO1.out _ _).2.2.1.trans hb2⟩
        clear hr2 hb2 HO1 HOF HR2 HR3
        go_wp2
        go_roundw
        case rel => exact ⟨k + 1, ps ++ [(Q, .slice a1 Q.l.length cp1)], by omega, by go_num, (fun q hq => by
          rw [HTK.out] at hq
          rcases List.mem_append.1 hq with hq | hq
          · exact HGD.out q hq
          · obtain rfl := List.mem_singleton.1 hq
            exact HZ.out), R2.out.1, by rw [HTK.out, List.map_append, List.map_append, HMP.out, List.map_cons, List.map_cons, HQ.out]; rfl, R2.out.2, HF2.out⟩
        case measure => simp [intOf]; omega
      · have d0 : (z != 0) = true := by rw [bne_iff_ne]; exact h0
        have H0 : Hid (z ≠ 0) := h0
        have HB1 : Hid (∀ o, Below w.heap.size w (w1.alloc o)) := fun o => up (andThen HOW.out.2 b1) o
        clear b1 hq1 hf1 HR0 HUP HOB HOW h0
        go_wp2
        go_returns
        exact ⟨HB1.out _, .inr ⟨k, r, HRR.out, HGD.out, by rw [HZ.out]; exact H0.out, by rw [HZ.out]; rfl⟩⟩
    · obtain rfl : k = rs.length := by omega
      have HGD : Hid (∀ q ∈ rs, (upP to q).1 = 0) := by
        rw [List.take_length] at hgood
        exact hgood
      have HMP : Hid (ps.map Prod.fst = rs.map fun r => (upP to r).2) := by
        rw [List.take_length] at hmap
        exact hmap
      clear hgood hmap HRS HT HGE
      go_wp2
      go_returns
      exact ⟨hbel, .inl ⟨ps, _, HGD.out, rfl, hown, HMP.out, HFF.out⟩⟩
/-- for every version: a row of its own, data in new blocks -/
theorem r4upall_own (to : Int) (v : Value) (rs : List Rec) (w : World) (h : RecsAt w v rs) (hg : RGood rs) (hT : Tabs w) :
    Calls Tryd.prog 26 #[.int .i64 to, v] w fun e w' => ∃ vl ps i z, e = .returned (.tuple #[vl, .int .i64 i, .int .i64 z]) ∧ Outs w.heap.size w' vl ps ∧ (∀ p ∈ ps, ∀ g, g < w.heap.size → Off g p.2 p.1.l) ∧ UaAns to rs (ps.map Prod.fst) i z ∧ Below w.heap.size w w' := by
  by_cases ht : 1 ≤ to ∧ to ≤ 3
  · refine (r4upall_off to ht v rs w h hg hT).mono fun e w' hp => ?_
    obtain ⟨hb, ⟨ps, v', hall, he, ho, hm, hf⟩ | ⟨k, r, hk, hbf, hz, he⟩⟩ := hp
    · exact ⟨v', ps, 0, 0, he, ho, hf, uaAns_in ht (.inl ⟨hall, hm, rfl, rfl⟩), hb⟩
    · exact ⟨_, [], _, _, he, Outs.nil _ _, (fun _ h => nomatch h), uaAns_in ht (.inr ⟨k, r, hk, hbf, hz, rfl, rfl, rfl⟩), hb⟩
  · obtain ⟨ao, cap, e, _⟩ := h
    by_cases h1 : to < 1
    · exact (r4upall_ver_a to h1 v _ _ _ w e).mono fun e w' ⟨he, hb⟩ => ⟨_, [], 0, 3, he, Outs.nil _ _, (fun _ h => nomatch h), uaAns_out rs ht, hb⟩
    · exact (r4upall_ver_b to (by omega) v _ _ _ w e).mono fun e w' ⟨he, hb⟩ => ⟨_, [], 0, 3, he, Outs.nil _ _, (fun _ h => nomatch h), uaAns_out rs ht, hb⟩
/-- a row with data in new blocks stays as long as the blocks stay that were made meanwhile -/
theorem outs_span {w0 w1 w' : World} {v : Value} {ps : List (Rec × Value)} (h : Outs w0.heap.size w1 v ps) (hf : ∀ p ∈ ps, ∀ g, g < w0.heap.size → Off g p.2 p.1.l) (hk : ∀ g, w0.heap.size ≤ g → g < w1.heap.size → w'.heap[g]? = w1.heap[g]?) : Outs w0.heap.size w' v ps := by
  refine ⟨?_, fun p hp => ⟨?_, (h.2 p hp).2⟩⟩
  · refine ⟨h.1.1, ?_⟩
    rcases h.1.2 with h1 | ⟨g, cap, cur, e, hb, hh, rest⟩
    · exact .inl h1
    · exact .inr ⟨g, cap, cur, e, hb, (hk g hb (Array.getElem?_eq_some_iff.1 hh).1).trans hh, rest⟩
  · have hb := (h.2 p hp).1
    obtain ⟨ao, cap, e, h1, h2, h3, h4⟩ := hb.shape
    refine ⟨⟨ao, cap, e, h1, h2, h3, fun hne => ?_⟩, hb.good⟩
    obtain ⟨b, off, e2, hc⟩ := h4 hne
    refine ⟨b, off, e2, fun j hj => ?_⟩
    have hcj := hc j hj
    rw [← hcj]
    refine World.cell?_of_block (w := w1) (hk b ?_ (World.block_lt_of_cell? w1 _ hcj))
    rcases Nat.lt_or_ge b w0.heap.size with hlt | hge
    · exact absurd rfl (hf p hp b hlt hne b off _ _ (by rw [e, e2]))
    · exact hge
end Go.Proofs.YtfnfdbmckpklmaaDoor
