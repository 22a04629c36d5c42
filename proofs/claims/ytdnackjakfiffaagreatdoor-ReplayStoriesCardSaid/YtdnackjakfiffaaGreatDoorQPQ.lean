import Derived.BigQuiet
import Derived.Test.YtdnackjakfiffaaGreatDoorQPM
import Derived.Test.YtdnackjakfiffaaGreatDoorQPZ
/-
  Replay: ReplayStories' walk.
-/
namespace Go.Proofs.YtdnackjakfiffaaGreatDoor
open Go Go.RowKit Go.ChangeShapes
open Wb

theorem dr_belS (w : World) (n : Nat) : Below w.heap.size w (w.drewN n) := ⟨rfl, rfl, rfl, Nat.le_refl _, fun _ _ => rfl⟩
theorem Wt.there {B g : Nat} {w : World} {v : Value} {n cap : Nat} {ps : List (Sg × SH)} (h : Wt B w v ps) (hv : v = .slice (some ⟨g, 0, none⟩) n cap) (k : Nat) (hk : k < ps.length) : w.there g (k * 16) 16 := by
  rcases h.2 with ⟨e, h1⟩ | ⟨g', cap', cur, e, hb, hg, h1, h2, h3, h4⟩
  · rw [hv] at e
    cases e
  · rw [hv] at e
    simp only [Value.slice.injEq, Option.some.injEq, Addr.mk.injEq, and_true] at e
    obtain ⟨rfl, hn, rfl⟩ := e
    have L : LB w g 43 cur.toList := by
      show w.heap[g]? = _
      rw [hg, Array.toArray_toList]
    have ht := L.there
    intro j hj
    have := ht (k * 16 + j) (by
      have : (k + 1) * 16 ≤ cap * 16 := Nat.mul_le_mul_right 16 (by omega)
      simp only [Array.length_toList]
      omega)
    rw [Nat.zero_add] at this
    exact this
theorem Rr.tsets {B g : Nat} {w : World} {v : Value} {pl : List (Rec × Value)} (h : Rr B w v pl) (hg : ∃ cs z, w.heap[g]? = some (.cells cs 43 z)) (o : Nat) (vs : List Value) : Rr B (w.setCells g o vs) v pl := by
  obtain ⟨cs, z, hg⟩ := hg
  refine h.keep (fun b e => cells_other _ _ _ _ _ ?_) (fun b cs2 z2 e => cells_other _ _ _ _ _ ?_)
  · rintro rfl
    obtain ⟨cs', z', h9⟩ := rrow_typed h.1 b e
    rw [h9] at hg
    simp at hg
  · rintro rfl
    rw [hg] at e
    simp at e
theorem Rr.ofT {B : Nat} {w : World} {v : Value} {ps : List (Rec × Value)} (h : OutT B w v ps) : Rr B w v ps := ⟨h.1, fun p hp => BsT.own (h.2 p hp)⟩
theorem wpList_buildG {S : Sg} {h : SH} {E : List Value} (hE : E = scl S h) {ops : Array Oper} {rest : List Oper} {o : Oper} {a : Act} {w : World} {Q : Exit → Act → World → Prop} (hgd : o.guard = none) (x : Nat) (ho : o.op = .buildSlice 25 1 #[(0, .tmp x)]) (hx : a.tmps[x]?.getD undef = .agg E.toArray)
    (hK : wpList Tryz.prog ops Q rest (a.put o.dst (.slice (some ⟨w.heap.size, 0, none⟩) 1 1)) (w.alloc (.cells E.toArray 43))) : wpList Tryz.prog ops Q (o :: rest) a w := by
  refine wpList_plain hgd fun K hK2 => ?_
  have := rstep_buildG (ops := ops) (K := K) (Q := Q) (F := True) hE hgd x ho hx (hK2 _ _ hK)
  rw [if_pos (by simp [Region.wanted, hgd])] at this
  exact this
theorem want_put (G : Rp.Gs) (ps : List (Sg × SH)) (hm : ps.map (·.1) = StV G) (hr : Mv.rising G) (hk : ∀ p ∈ G, p.1 = p.2.x.id) (S : Sg) (sh : SH) (j : Nat) (hd : ∀ p ∈ ps.drop j, S.x.id < p.1.x.id) (ht : j = 0 ∨ ∃ q p, j = q + 1 ∧ ps[q]? = some p ∧ p.1.x.id < S.x.id) : (ps.take j ++ (S, sh) :: ps.drop j).map (·.1) = StV (Mv.put G S.x.id S) := by
  have e1 : (ps.take j).map (·.1) = (G.take j).map (·.2) := by rw [List.map_take, hm]; unfold StV; exact List.map_take.symm
  have e2 : (ps.drop j).map (·.1) = (G.drop j).map (·.2) := by rw [List.map_drop, hm]; unfold StV; exact List.map_drop.symm
  have h2 : ∀ p ∈ G.drop j, S.x.id < p.1 := fun p hp => by
    have h3 : p.2 ∈ (ps.drop j).map (·.1) := by rw [e2]; exact List.mem_map_of_mem hp
    obtain ⟨q, hq, he⟩ := List.mem_map.1 h3
    rw [hk p (List.mem_of_mem_drop hp), ← he]
    exact hd q hq
  have h1 : ∀ p ∈ G.take j, p.1 < S.x.id := fun p hp => by
    rcases ht with rfl | ⟨q, p', rfl, hq, hlt⟩
    · simp at hp
    · have hql : q < ps.length := (List.getElem?_eq_some_iff.1 hq).1
      have hlen : ps.length = G.length := by
        have := congrArg List.length hm
        unfold StV at this
        simpa using this
      have hqG : q < G.length := by omega
      have e5 : p'.1 = G[q].2 := by
        have := congrArg (fun l => l[q]?) hm
        unfold StV at this
        simp only [List.getElem?_map, hq, List.getElem?_eq_getElem hqG, Option.map_some, Option.some.injEq] at this
        exact this
      have e6 : G[q].1 < S.x.id := by
        rw [hk G[q] (List.getElem_mem hqG), ← e5]
        exact hlt
      obtain ⟨i, hi, rfl⟩ := List.getElem_of_mem hp
      rw [List.length_take] at hi
      rw [List.getElem_take]
      rcases Nat.lt_or_ge i q with h | h
      · have := (List.pairwise_iff_getElem.1 hr) i q (by omega) hqG h
        omega
      · obtain rfl : i = q := by omega
        exact e6
  rw [Rp.put_mid S.x.id S G j h1 h2]
  unfold StV
  rw [List.map_append, List.map_cons, List.map_append, List.map_cons, e1, e2]
theorem swapped (ps : List (Sg × SH)) (x : Sg × SH) (q : Nat) (hq : q < ps.length) : ((ps.take (q + 1) ++ x :: ps.drop (q + 1)).set (q + 1) ps[q]).set q x = ps.take q ++ x :: ps.drop q := by
  have e1 : (ps.take (q + 1) ++ x :: ps.drop (q + 1)).set (q + 1) ps[q] = ps.take (q + 1) ++ ps[q] :: ps.drop (q + 1) := by
    rw [List.set_append_right _ _ (by rw [List.length_take]; omega)]
    rw [List.length_take, Nat.min_eq_left (by omega), Nat.sub_self]
    rfl
  rw [e1, List.take_succ_eq_append_getElem hq, List.append_assoc]
  rw [List.set_append_right _ _ (by rw [List.length_take]; omega)]
  rw [List.length_take, Nat.min_eq_left (by omega), Nat.sub_self, ← List.drop_eq_getElem_cons hq]
  rfl
theorem mid_l (ps : List (Sg × SH)) (x : Sg × SH) (q : Nat) (hq : q < ps.length) (h : q < (ps.take (q + 1) ++ x :: ps.drop (q + 1)).length) : (ps.take (q + 1) ++ x :: ps.drop (q + 1))[q] = ps[q] := by
  rw [List.getElem_append_left (by rw [List.length_take]; omega), List.getElem_take]
theorem mid_r (ps : List (Sg × SH)) (x : Sg × SH) (q : Nat) (hq : q < ps.length) (h : q + 1 < (ps.take (q + 1) ++ x :: ps.drop (q + 1)).length) : (ps.take (q + 1) ++ x :: ps.drop (q + 1))[q + 1] = x := by
  rw [List.getElem_append_right (by rw [List.length_take]; omega)]
  simp [List.length_take, Nat.min_eq_left (show q + 1 ≤ ps.length by omega)]
theorem Wt.tk {B : Nat} {w w' : World} {v : Value} {ps : List (Sg × SH)} (h : Wt B w v ps) (hk : TK 32 w w') : Wt B w' v ps := rowG_keptB h fun g e => by
  rcases h.2 with ⟨e4, _⟩ | ⟨g', cap', cur', e4, _, hg', _⟩
  · rw [e4] at e
    simp [Value.ownBlock] at e
  · rw [e4] at e
    simp [Value.ownBlock] at e
    subst e
    exact hk _ _ _ _ (by decide) hg'
theorem Rr.tk {B : Nat} {w w' : World} {v : Value} {pl : List (Rec × Value)} (h : Rr B w v pl) (hk : TK 43 w w') : Rr B w' v pl :=
  h.keep (fun g e => by
    obtain ⟨cs', z', h9⟩ := rrow_typed h.1 g e
    exact hk _ _ _ _ (by decide) h9) (fun g cs z e => hk g cs _ z (by decide) e)
/-- what the law asks of a saga -/
def Sok (S : Sg) : Prop := S.nm.size ≤ 140737488355000 ∧ -9223372036854775808 ≤ S.x.fc ∧ S.x.fc ≤ 9223372036854775807
/-- one more saga, by what it makes of the log and the state -/
theorem one_more (G : Rp.Gs) (L : List Rec) (ps : List (Sg × SH)) (S : Sg) (hf : Rp.fold [] L = (L.length, G)) (hr : Mv.rising G) (hk : ∀ p ∈ G, p.1 = p.2.x.id) (hm : ps.map (·.1) = StV G) (hg : Fg L) (hne : ∀ p ∈ ps, p.1.x.id ≠ S.x.id) (hc : chkS S = true) (hok : ok S.inp) (hs : Sok S) (hl : L.length ≤ 600) :
    Rp.fold [] (L ++ storyP S) = ((L ++ storyP S).length, Mv.put G S.x.id S) ∧ Mv.rising (Mv.put G S.x.id S) ∧ (∀ p ∈ Mv.put G S.x.id S, p.1 = p.2.x.id) ∧ Fg (L ++ storyP S) ∧ (L ++ storyP S).length ≤ 4000 := by
  have hn : Mv.get G S.x.id = none := by
    cases hx : Mv.get G S.x.id with
    | none => rfl
    | some S' =>
      have h1 := (Mv.get_mem hr).1 hx
      have h2 : S' ∈ ps.map (·.1) := by rw [hm]; exact List.mem_map.2 ⟨_, h1, rfl⟩
      obtain ⟨p, hp, he⟩ := List.mem_map.1 h2
      exact absurd ((congrArg (fun T : Sg => T.x.id) he).trans (hk _ h1).symm) (hne p hp)
  have hr2 := Mv.rising_put G S.x.id S hr
  have hl2 := story_lenC S hc
  refine ⟨?_, hr2, fun p hp => ?_, fg_app hg (Rp.story_fg S hc hok hs.2 hs.1), by rw [List.length_append]; omega⟩
  · rw [Rp.fold_app L _ [] G hf, Rp.fold_story G S hc hok hs.2 hn, List.length_append]
  · have h1 : Mv.get (Mv.put G S.x.id S) p.1 = some p.2 := (Mv.get_mem hr2).2 hp
    rw [Mv.get_put] at h1
    by_cases h : p.1 = S.x.id
    · rw [if_pos h] at h1
      rw [← Option.some.inj h1]
      exact h
    · rw [if_neg h] at h1
      exact hk (p.1, p.2) ((Mv.get_mem hr).1 h1)
/-- what ReplayStories' loop holds -/
def RsI (w : World) (k : Nat) (lv wv : Value) (wr : World) : Prop :=
  ∃ G L pl ps, Rr w.heap.size wr lv pl ∧ pl.map Prod.fst = L ∧ Wt w.heap.size wr wv ps ∧ ps.map (·.1) = StV G ∧ (∀ p ∈ ps, SgAt w p.1 p.2) ∧ Below w.heap.size w wr ∧ Rp.fold [] L = (L.length, G) ∧ Mv.rising G ∧ (∀ p ∈ G, p.1 = p.2.x.id) ∧ Fg L ∧ L.length ≤ 4000 ∧ ps.length ≤ k
set_option maxRecDepth 100000 in
set_option maxHeartbeats 4000000 in
theorem replayStories_walk (v0 : Value) (Ss : List Sg) (w : World) (h0 : SgQ w v0 Ss) (hok : ∀ S ∈ Ss, Sok S) (hT : STabs w) :
    Calls Tryz.prog 6 #[v0] w fun e w' => e = .returned (.bool true) ∧ Below w.heap.size w w' := by
  have HAW : Hid (Calls Tryz.prog 9 #[] w fun e w' => e = .returned (.bool true) ∧ Below w.heap.size w w') := ryawake_any w hT
  have HCK : Hid (∀ (S : Sg) (h : SH), SgAt w S h → Sok S → ∀ W, Below w.heap.size w W → Calls Tryz.prog 15 #[sv S h] W fun e w' => e = .returned (.int .i64 (ckE (chkS S))) ∧ Below W.heap.size W w') := fun S h k g W hW => scheck_any S h W (k.kept hW) (hT.e.1.1.kept hW) g.1
  have HCN : Hid (∀ (S : Sg) (h : SH), SgAt w S h → chkS S = true → ∀ W, Below w.heap.size w W → Calls Tryz.prog 17 #[sv S h] W fun e w' => ∃ h', e = .returned (sv S h') ∧ SgAt w' S h' ∧ Below W.heap.size W w') := fun S h k hc W hW => by
    obtain ⟨c1, c2, -, -, -, c6, c7, c8, c9⟩ := story_bnds S hc
    refine (rxclone_any S h W (k.kept hW) (by omega) (by omega) (fun x hx => ?_) (fun x hx => ?_) (by omega) (by omega)).mono fun e w' ⟨h', e1, e2, e3⟩ => ⟨h', e1, e2.at, e3⟩
    · have := List.all_eq_true.1 c8 x hx
      simp at this
      omega
    · have := List.all_eq_true.1 c9 x hx
      simp at this
      omega
  have HST : Hid (∀ (S : Sg) (h : SH), chkS S = true → Sok S → ∀ W, Below w.heap.size w W → SgAt W S h → Calls Tryz.prog 16 #[sv S h] W fun e w' => ∃ a, ∃ cp : Nat, e = .returned (.tuple #[.slice a (storyP S).length cp, .int .i64 0]) ∧ RcY w' (.slice a (storyP S).length cp) (storyP S) ∧ Below W.heap.size W w') := fun S h hc g W hW k => by
    refine (story_ok S h W k (hT.e.1.1.kept hW) g.1 hc).mono fun e w' ⟨v, ps, e1, e2, e3, e4⟩ => ?_
    have h1 := (Rr.ofT e2).rcy
    rw [e3] at h1
    have h2 := h1
    obtain ⟨a, cp, e5, -⟩ := h2
    rw [e5] at h1 e1
    exact ⟨a, cp, e1, h1, e4⟩
  have HFL : Hid (∀ (G : Rp.Gs) (L : List Rec) (v : Value) (W : World), Below w.heap.size w W → RecsAt W v L → Rp.fold [] L = (L.length, G) → Fg L → L.length ≤ 4000 → Calls Tryz.prog 10 #[v] W fun e w' => ∃ a, ∃ cp : Nat, e = .returned (.tuple #[.agg #[.int .i64 (L.length : Int), .slice a (StV G).length cp], .int .i64 (-1)]) ∧ SgR w' (.slice a (StV G).length cp) (StV G) ∧ Below W.heap.size W w') := fun G L v W hW h hf hg hl => by
    have e2 : Rp.plc L = -1 := by
      unfold Rp.plc
      rw [hf, if_pos rfl]
    exact fold_is L G L.length (-1) hf e2 v W h (hT.kept hW) hg (by omega)
  have HOK : Hid (∀ k (hk : k < Ss.length), Sok Ss[k]) := fun k hk => hok _ (List.getElem_mem hk)
  have HS0 : Hid (SgQ w v0 Ss) := h0
  obtain ⟨a0, c0, rfl, hm0, -⟩ := h0
  unfold maxLen at hm0
  obtain ⟨Z, hZ⟩ : ∃ Z, Z = zcl := ⟨_, rfl⟩
  have HZ : Hid (Z = zcl) := hZ
  have HZL : Hid (Z.length = 16) := by show _ = _; rw [hZ]; rfl
  clear hT hok hZ
  go_enter Tryz.func6, Tryz.ntmps6
  go_wp2_with fail
  refine HAW.out.mono ?_
  rintro e w1 ⟨rfl, b1⟩
  have HB1 : Hid (Below w.heap.size w w1) := b1
  clear b1 HAW
  go_wp2_with fail
  go_loopw [3, 4, 5] (fun lv wv i wr => ∃ k : Nat, k ≤ Ss.length ∧ k ≤ 20 ∧ i = .int .i64 (k : Int) ∧ RsI w k lv wv wr) (fun _ _ i _ => Ss.length - (mInt i).toNat)
  case atStart => exact ⟨0, Nat.zero_le _, by omega, rfl, [], [], [], [], Rr.nil _ _, rfl, Wt.nil _ _, rfl, (fun p hp => by cases hp), HB1.out, rfl, List.Pairwise.nil, (fun p hp => by cases hp), (fun p hp => by cases hp), Nat.zero_le _, Nat.zero_le _⟩
  case round =>
    obtain ⟨k, hk, hk20, rfl, G, L, pl, ps, q1, q2, q3, q4, q5, q6, q7, q8, q9, q10, q11, q12⟩ := hrel
    obtain ⟨W0, hW0⟩ : ∃ W, W = wr := ⟨_, rfl⟩
    subst hW0
    have HI : Hid (Rr w.heap.size W0 u3 pl ∧ pl.map Prod.fst = L ∧ Wt w.heap.size W0 u4 ps ∧ ps.map (·.1) = StV G ∧ (∀ p ∈ ps, SgAt w p.1 p.2) ∧ Below w.heap.size w W0 ∧ Rp.fold [] L = (L.length, G) ∧ Mv.rising G ∧ (∀ p ∈ G, p.1 = p.2.x.id) ∧ Fg L) := ⟨q1, q2, q3, q4, q5, q6, q7, q8, q9, q10⟩
    have hlv : ∃ a, ∃ c : Nat, u3 = .slice a L.length c := by
      have e := q1.rcy
      rw [q2] at e
      obtain ⟨a, c, e2, -⟩ := e
      exact ⟨a, c, e2⟩
    obtain ⟨al, cl, rfl⟩ := hlv
    have hwv : ∃ a, ∃ c : Nat, u4 = .slice a ps.length c := by
      rcases q3.2 with ⟨e, e2⟩ | ⟨g, c, _, e, -⟩
      · exact ⟨none, 0, by rw [e, e2]⟩
      · exact ⟨_, c, e⟩
    obtain ⟨aw, cw, rfl⟩ := hwv
    have hpl : pl.length = L.length := by rw [← q2, List.length_map]
    clear q1 q2 q3 q4 q5 q6 q7 q8 q9 q10 HB1
    by_cases hlt : k < Ss.length ∧ k < 20
    · obtain ⟨b9, o9, h9, hb0, hr9, hs9⟩ : ∃ b off h, a0 = some ⟨b, off, none⟩ ∧ w.rangeAt b (off + k * 16) (scl Ss[k] h) ∧ SgAt w Ss[k] h := by
        obtain ⟨a9, c9, e9, -, hc9⟩ := HS0.out
        simp only [Value.slice.injEq, true_and] at e9
        obtain ⟨rfl, rfl⟩ := e9
        exact hc9 k Ss[k] (List.getElem?_eq_getElem hlt.1)
      subst hb0
      have hsk := HOK.out k hlt.1
      obtain ⟨S, hS⟩ : ∃ S, Ss[k] = S := ⟨_, rfl⟩
      rw [hS] at hr9 hs9 hsk
      obtain ⟨D, hD, hL, hE⟩ := sv_letter S h9
      have HE : Hid (D = scl S h9) := hE
      have HL : Hid _ := hL
      have HDL : Hid (D.length = Z.length) := by show _ = _; rw [hE, HZL.out]; rfl
      have HD1 : Hid (∀ v ∈ D, v.oneCell' = true) := by show ∀ v ∈ D, _; rw [hE]; exact fun v hv => scl_one S h9 v hv
      have HSA : Hid (SgAt w S h9 ∧ Sok S) := ⟨hs9, hsk⟩
      have HRA : Hid (∀ W, Below w.heap.size w W → W.rangeAt b9 (o9 + k * 16) D) := fun W hW => by rw [hE]; exact range_kept hr9 hW
      have HRW : Hid (W0.rangeAt b9 (o9 + k * 16) D) := HRA.out W0 HI.out.2.2.2.2.2.1
      have HC1 : Hid (∀ W, Below w.heap.size w W → Calls Tryz.prog 15 #[.agg D.toArray] W fun e w' => e = .returned (.int .i64 (ckE (chkS S))) ∧ Below W.heap.size W w') := fun W hW => by
        have := HCK.out S h9 hs9 hsk W hW
        rw [hD] at this
        exact this
      have HC2 : Hid (chkS S = true → ∀ W, Below w.heap.size w W → Calls Tryz.prog 17 #[.agg D.toArray] W fun e w' => ∃ h', e = .returned (sv S h') ∧ SgAt w' S h' ∧ Below W.heap.size W w') := fun hc W hW => by
        have := HCN.out S h9 hs9 hc W hW
        rw [hD] at this
        exact this
      clear hS hr9 hs9 hsk hD hL hE
      have d1 : ((k : Int) < (Ss.length : Int)) = True := by simp only [eq_iff_iff, iff_true]; omega
      have d2 : ((k : Int) < 20) = True := by simp only [eq_iff_iff, iff_true]; omega
      have hk1 := hlt.1
      go_upto_region 9 with (first
        | (refine wpList_load_mid rfl 43 _ rfl b9 (o9 + k * 16) rfl D _ HRW.out Tryz.underlying43 rfl HL.out ?_)
        | (refine wpList_alloc_Z HZ.out rfl rfl ?_)
        | (refine wpList_store_mid rfl 43 (.tmp 6) (.tmp 30) rfl W0.heap.size 0 D.toArray rfl rfl (there_of (lb_new W0 Z 43) (by simpa using HDL.out)) (by simpa using HL.out) (all_oneCell_toArray HD1.out) ?_)
        | fail)
      obtain ⟨W1, hW1⟩ : ∃ W, W = (W0.alloc (.cells Z.toArray 43)).setCells W0.heap.size 0 D := ⟨_, rfl⟩
      obtain ⟨p6, hp6⟩ : ∃ p, p = W0.heap.size := ⟨_, rfl⟩
      have H1 : Hid (LB W1 p6 43 D ∧ Below W0.heap.size W0 W1) := by rw [hW1, hp6]; exact box1 W0 43 Z D HDL.out
      try rw [List.toList_toArray]
      rw [← hW1]
      have HP6 : Hid (p6 = W0.heap.size) := hp6
      rw [← hp6]
      clear hW1 hp6 HRW d1 d2
      go_wp2_with (first
        | (refine wpList_load_mid rfl 43 (.tmp 6) rfl p6 0 rfl D _ H1.out.1.range Tryz.underlying43 rfl HL.out ?_)
        | fail)
      refine (HC1.out _ (andThen HI.out.2.2.2.2.2.1 H1.out.2)).mono ?_
      rintro e w2 ⟨rfl, b2⟩
      have H2 : Hid (LB w2 p6 43 D ∧ Below W0.heap.size W0 w2) := ⟨H1.out.1.kept b2, andThen H1.out.2 b2⟩
      have HKP : Hid (∀ W, Below W0.heap.size W0 W → RsI w (k + 1) (.slice al L.length cl) (.slice aw ps.length cw) W) := fun W hW => ⟨G, L, pl, ps, HI.out.1.kept hW, HI.out.2.1, HI.out.2.2.1.kept hW, HI.out.2.2.2.1, HI.out.2.2.2.2.1, andThen HI.out.2.2.2.2.2.1 hW, HI.out.2.2.2.2.2.2.1, HI.out.2.2.2.2.2.2.2.1, HI.out.2.2.2.2.2.2.2.2.1, HI.out.2.2.2.2.2.2.2.2.2, q11, by omega⟩
      clear b2 H1 HC1 HS0 HOK HCK HCN HRA
      obtain ⟨tw, htw⟩ : ∃ tw, (ckE (chkS S) != 0) = tw := ⟨_, rfl⟩
      have hck : chkS S = !tw := by rw [← htw]; unfold ckE; cases chkS S <;> rfl
      have HTW : Hid (chkS S = !tw) := hck
      clear hck
      generalize ckE (chkS S) = c at htw ⊢
      have hpc : ps.length ≤ 20 := by omega
      go_wp2_with fail
      go_loopw [7, 8] (fun t i wx => ∃ j : Nat, j ≤ ps.length ∧ i = .int .i64 (j : Int) ∧ t = .bool (tw || (ps.take j).any fun p => p.1.x.id == S.x.id) ∧ ∃ d, wx = w2.drewN d) (fun _ i _ => ps.length - (mInt i).toNat)
      case atStart => exact ⟨0, Nat.zero_le _, rfl, by simp [], 0, rfl⟩
      case round =>
        obtain ⟨j, hj, rfl, rfl, dn, hw⟩ := hrel
        have HW : Hid (wr = w2.drewN dn) := hw
        have HBW : Hid (Below W0.heap.size W0 wr) := by rw [hw]; exact andThen H2.out.2 (dr_belS w2 dn)
        clear hw htw
        obtain ⟨cur, hcur⟩ : ∃ cur, (tw || (ps.take j).any fun p => p.1.x.id == S.x.id) = cur := ⟨_, rfl⟩
        rw [hcur]
        have HCUR : Hid ((tw || (ps.take j).any fun p => p.1.x.id == S.x.id) = cur) := hcur
        clear hcur
        by_cases hjl : j < ps.length
        · obtain ⟨g, cg, e9, hgB, hgl, hc1, hc2, hgt, hrg⟩ := HI.out.2.2.1.at (by omega)
          simp only [Value.slice.injEq, true_and] at e9
          obtain ⟨rfl, rfl⟩ := e9
          have HTJ : Hid (ps.take (j + 1) = ps.take j ++ [ps[j]]) := by show _ = _; rw [List.take_succ_eq_append_getElem hjl]
          have r0 := hrg j hjl 0 (.int .i64 ps[j].1.x.id) rfl
          rw [Nat.add_zero] at r0
          have y0 := H2.out.1.cell 0 (.int .i64 S.x.id) (by rw [HE.out]; rfl)
          have x0 : wr.cell? ⟨g, j * 16, none⟩ = some (.int .i64 ps[j].1.x.id) := (HBW.out.cell (p := ⟨g, j * 16, none⟩) (World.block_lt_of_cell? _ _ r0)).trans r0
          have x1 : wr.cell? ⟨p6, 0, none⟩ = some (.int .i64 S.x.id) := by rw [HW.out]; exact y0
          clear r0 y0 hgB hgl hc2 hgt hrg
          obtain ⟨z, hz⟩ : ∃ z, z = ps[j].1.x.id := ⟨_, rfl⟩
          rw [← hz] at x0
          have HZJ : Hid (z = ps[j].1.x.id) := hz
          clear hz
          cases cur with
          | true =>
            go_wp2_with fail
            go_quiet (fail)
            go_wp2_with fail
            go_roundw
            case rel => exact ⟨j + 1, by omega, by go_num, by rw [HTJ.out, List.any_append, ← Bool.or_assoc, HCUR.out]; rfl, _, by rw [HW.out]; exact World.drewN_drewN _ _ _⟩
            case measure => simp [mInt]; omega
          | false =>
            obtain ⟨bb, hbb⟩ : ∃ bb, (z == S.x.id) = bb := ⟨_, rfl⟩
            have HBB : Hid ((ps[j].1.x.id == S.x.id) = bb) := by show _ = _; rw [← HZJ.out]; exact hbb
            go_wp2_with fail
            go_quiet (fail)
            go_wp2_with fail
            go_roundw
            case rel => exact ⟨j + 1, by omega, by go_num, by rw [HTJ.out, List.any_append, ← Bool.or_assoc, HCUR.out]; simp [HBB.out], _, by rw [HW.out]; exact World.drewN_drewN _ _ _⟩
            case measure => simp [mInt]; omega
        · obtain rfl : j = ps.length := by omega
          rw [List.take_length] at HCUR
          have H3 : Hid (LB wr p6 43 D) := by rw [HW.out]; exact H2.out.1.kept (dr_belS w2 dn)
          clear HW H2 hjl hj
          cases cur with
          | true =>
            go_wp2_with fail
            go_roundw
            case rel => exact ⟨k + 1, by omega, by omega, by go_num, HKP.out _ HBW.out⟩
            case measure => simp [mInt]; omega
          | false =>
            by_cases h600 : 600 < L.length
            · have dl : ((600 : Int) < (L.length : Int)) = True := by simp only [eq_iff_iff, iff_true]; omega
              go_wp2_with fail
              go_roundw
              case rel => exact ⟨k + 1, by omega, by omega, by go_num, HKP.out _ HBW.out⟩
              case measure => simp [mInt]; omega
            · have dl : ((600 : Int) < (L.length : Int)) = False := by simp only [eq_iff_iff, iff_false]; omega
              have htw0 : tw = false := by
                have := HCUR.out
                cases tw with
                | false => rfl
                | true => simp at this
              have hc : chkS S = true := by rw [HTW.out, htw0]; rfl
              have hne : ∀ p ∈ ps, p.1.x.id ≠ S.x.id := fun p hp e => by
                have h1 := HCUR.out
                rw [htw0, Bool.false_or, List.any_eq_false] at h1
                exact h1 p hp (by simp [e])
              obtain ⟨T, hT⟩ : ∃ T, T = storyP S := ⟨_, rfl⟩
              have htl : T.length ≤ 3000 := by rw [hT]; exact story_lenC S hc
              have HPU := one_more G L ps S HI.out.2.2.2.2.2.2.1 HI.out.2.2.2.2.2.2.2.1 HI.out.2.2.2.2.2.2.2.2.1 HI.out.2.2.2.1 HI.out.2.2.2.2.2.2.2.2.2 hne hc HSA.out.1.inp.good HSA.out.2 (by omega)
              rw [← hT] at HPU
              have HPU : Hid _ := HPU
              have HNE : Hid (∀ p ∈ ps, p.1.x.id ≠ S.x.id) := hne
              have HC4 : Hid (Calls Tryz.prog 17 #[.agg D.toArray] wr fun e w' => ∃ h', e = .returned (sv S h') ∧ SgAt w' S h' ∧ Below wr.heap.size wr w') := HC2.out hc _ (andThen HI.out.2.2.2.2.2.1 HBW.out)
              have HS5 : Hid (∀ (h : SH) (W : World), Below w.heap.size w W → SgAt W S h → Calls Tryz.prog 16 #[sv S h] W fun e w' => ∃ a, ∃ cp : Nat, e = .returned (.tuple #[.slice a T.length cp, .int .i64 0]) ∧ RcY w' (.slice a T.length cp) T ∧ Below W.heap.size W w') := fun h W hW k => by rw [hT]; exact HST.out S h hc HSA.out.2 W hW k
              clear hT hne hc htw0 HTW HCUR HC2 HST HKP
              go_wp2_with (first
                | (refine wpList_load_mid rfl 43 (.tmp 6) rfl p6 0 rfl D _ H3.out.range Tryz.underlying43 rfl HL.out ?_)
                | fail)
              refine HC4.out.mono ?_
              rintro e w4 ⟨h4, rfl, s4, b4⟩
              have H4 : Hid (LB w4 p6 43 D ∧ Below W0.heap.size W0 w4) := ⟨H3.out.kept b4, andThen HBW.out b4⟩
              obtain ⟨D4, hD4, -, -⟩ := sv_letter S h4
              have HS6 : Hid (Calls Tryz.prog 16 #[.agg D4.toArray] w4 fun e w' => ∃ a, ∃ cp : Nat, e = .returned (.tuple #[.slice a T.length cp, .int .i64 0]) ∧ RcY w' (.slice a T.length cp) T ∧ Below w4.heap.size w4 w') := by
                have := HS5.out h4 w4 (andThen HI.out.2.2.2.2.2.1 H4.out.2) s4
                rw [hD4] at this
                exact this
              rw [hD4]
              clear hD4 s4 b4 H3 HC4 HS5 dl
              go_wp2_with fail
              refine HS6.out.mono ?_
              rintro e w5 ⟨a5, c5, rfl, r5, b5⟩
              have H5 : Hid (LB w5 p6 43 D ∧ RcY w5 (.slice a5 T.length c5) T ∧ Below W0.heap.size W0 w5) := ⟨H4.out.1.kept b5, r5, andThen H4.out.2 b5⟩
              clear r5 b5 H4 HS6
              go_wp2_with (first
                | (at_builtin; refine wpList_append_rrs rfl (.tmp 65) (.tmp 66) rfl w.heap.size (.slice al L.length cl) (.slice a5 T.length c5) pl T rfl rfl (HI.out.1.kept H5.out.2.2) H5.out.2.1 (by omega) (Nat.le_trans HI.out.2.2.2.2.2.1.size H5.out.2.2.size) ?_)
                | fail)
              intro v6 w6 pl6 h6 e6 b6 k6
              have H6 : Hid (Rr w.heap.size w6 v6 pl6 ∧ pl6.map Prod.fst = L ++ T ∧ LB w6 p6 43 D ∧ Wt w.heap.size w6 (.slice aw ps.length cw) ps ∧ Below w.heap.size w w6) := ⟨h6, by rw [e6, HI.out.2.1], (k6 p6 _ _ _ (by decide) H5.out.1).trans H5.out.1, (HI.out.2.2.1.kept H5.out.2.2).tk k6, (andThen HI.out.2.2.2.2.2.1 H5.out.2.2).trans b6⟩
              clear h6 e6 b6 k6 H5
              go_wp2_with (first
                | (refine wpList_load_mid rfl 43 (.tmp 6) rfl p6 0 rfl D _ H6.out.2.2.1.range Tryz.underlying43 rfl HL.out ?_)
                | (refine wpList_buildG HE.out rfl 69 rfl rfl ?_)
                | (at_builtin; refine wpList_append_wt rfl (.tmp 68) (.tmp 70) rfl w.heap.size (.slice aw ps.length cw) ps (S, h9) rfl (H6.out.2.2.2.1.kept (up0 _ _)) w6.heap.size rfl (by have e := (lb_new w6 D 43).range; rw [HE.out] at e ⊢; exact e) (by omega) (Nat.le_trans H6.out.2.2.2.2.size (up0 w6 _).size) ?_)
                | fail)
              intro v7 w7 h7 b7 k7
              obtain ⟨g, cg, e7, hgB, -, -, hcg, -, -⟩ := h7.at (by rw [List.length_append]; exact Nat.succ_pos _)
              rw [List.length_append, List.length_singleton] at e7
              subst e7
              have H7 : Hid (Wt w.heap.size w7 (.slice (some ⟨g, 0, none⟩) (ps.length + 1) cg) (ps ++ [(S, h9)]) ∧ Rr w.heap.size w7 v6 pl6 ∧ Below w.heap.size w w7) := ⟨h7, (H6.out.1.kept (up0 _ _)).tk k7, (andThen H6.out.2.2.2.2 (up0 _ _)).trans b7⟩
              have HGB : Hid (w.heap.size ≤ g) := hgB
              have HE6 : Hid (pl6.map Prod.fst = L ++ T) := H6.out.2.1
              clear h7 b7 k7 H6 hgB
              unfold maxLen at hcg
              go_wp2_with fail
              go_loopw [11] (fun i wx => ∃ j : Nat, j ≤ ps.length ∧ i = .int .i64 (j : Int) ∧ Wt w.heap.size wx (.slice (some ⟨g, 0, none⟩) (ps.length + 1) cg) (ps.take j ++ (S, h9) :: ps.drop j) ∧ (∀ p ∈ ps.drop j, S.x.id < p.1.x.id) ∧ Rr w.heap.size wx v6 pl6 ∧ Below w.heap.size w wx) (fun i _ => (mInt i).toNat)
              case atStart => exact ⟨ps.length, Nat.le_refl _, by go_num, by rw [List.take_length, List.drop_length]; exact H7.out.1, (by rw [List.drop_length]; intro p hp; cases hp), H7.out.2.1, H7.out.2.2⟩
              case round =>
                obtain ⟨j, hj, rfl, j1, j2, j3, j4⟩ := hrel
                obtain ⟨W5, hW5⟩ : ∃ W, W = wr := ⟨_, rfl⟩
                subst hW5
                have HJ : Hid (Wt w.heap.size W5 (.slice (some ⟨g, 0, none⟩) (ps.length + 1) cg) (ps.take j ++ (S, h9) :: ps.drop j) ∧ (∀ p ∈ ps.drop j, S.x.id < p.1.x.id) ∧ Rr w.heap.size W5 v6 pl6 ∧ Below w.heap.size w W5) := ⟨j1, j2, j3, j4⟩
                clear j1 j2 j3 j4 H7
                have HEND : Hid (∀ W, Below W5.heap.size W5 W → (j = 0 ∨ ∃ q p, j = q + 1 ∧ ps[q]? = some p ∧ p.1.x.id < S.x.id) → RsI w (k + 1) v6 (.slice (some ⟨g, 0, none⟩) (ps.length + 1) cg) W) := fun W hW ht => by
                  refine ⟨_, L ++ T, pl6, ps.take j ++ (S, h9) :: ps.drop j, HJ.out.2.2.1.kept hW, HE6.out, HJ.out.1.kept hW, want_put G ps HI.out.2.2.2.1 HI.out.2.2.2.2.2.2.2.1 HI.out.2.2.2.2.2.2.2.2.1 S h9 j HJ.out.2.1 ht, fun p hp => ?_, andThen HJ.out.2.2.2 hW, HPU.out.1, HPU.out.2.1, HPU.out.2.2.1, HPU.out.2.2.2.1, HPU.out.2.2.2.2, ?_⟩
                  · rcases List.mem_append.1 hp with hp | hp
                    · exact HI.out.2.2.2.2.1 p (List.mem_of_mem_take hp)
                    · rcases List.mem_cons.1 hp with rfl | hp
                      · exact HSA.out.1
                      · exact HI.out.2.2.2.2.1 p (List.mem_of_mem_drop hp)
                  · rw [List.length_append, List.length_cons, List.length_take, List.length_drop]
                    omega
                cases j with
                | zero =>
                  go_upto_region 21 with fail
                  go_quiet (fail)
                  go_wp2_with fail
                  go_roundw
                  case rel => exact ⟨k + 1, by omega, by omega, by go_num, HEND.out _ (dr_belS W5 _) (.inl rfl)⟩
                  case measure => simp [mInt]; omega
                | succ q =>
                  have hql : q < ps.length := by omega
                  have hPl : (ps.take (q + 1) ++ (S, h9) :: ps.drop (q + 1)).length = ps.length + 1 := by
                    rw [List.length_append, List.length_cons, List.length_take, List.length_drop]
                    omega
                  obtain ⟨g2, cg2, e9, -, hgl, -, -, hgt, hrg⟩ := HJ.out.1.at (by omega)
                  simp only [Value.slice.injEq, Option.some.injEq, Addr.mk.injEq, and_true] at e9
                  obtain ⟨rfl, -, -⟩ := e9
                  have r1 := hrg q (by omega)
                  have r2 := hrg (q + 1) (by omega)
                  rw [mid_l ps (S, h9) q hql] at r1
                  rw [mid_r ps (S, h9) q hql] at r2
                  have HR : Hid (W5.rangeAt g (q * 16) (scf ps[q]) ∧ W5.rangeAt g ((q + 1) * 16) D) := ⟨r1, by rw [HE.out]; exact r2⟩
                  have HGT : Hid ((∃ cs z, W5.heap[g]? = some (.cells cs 43 z)) ∧ g < W5.heap.size) := ⟨hgt, hgl⟩
                  have x0 := r1 0 (.int .i64 ps[q].1.x.id) rfl
                  have x1 := r2 0 (.int .i64 S.x.id) rfl
                  rw [Nat.add_zero] at x0 x1
                  clear r1 r2 hrg hgt hgl
                  have HNQ : Hid (ps[q].1.x.id ≠ S.x.id) := HNE.out _ (List.getElem_mem hql)
                  have HPQ : Hid (ps[q]? = some ps[q]) := List.getElem?_eq_getElem hql
                  obtain ⟨z, hz⟩ : ∃ z, z = ps[q].1.x.id := ⟨_, rfl⟩
                  rw [← hz] at x0
                  have HZQ : Hid (z = ps[q].1.x.id) := hz
                  clear hz
                  by_cases hlt2 : S.x.id < z
                  · have dgt : (S.x.id < z) = True := by simp only [eq_iff_iff, iff_true]; exact hlt2
                    go_upto_region 21 with fail
                    go_quiet (fail)
                    go_upto_region 23 with fail
                    generalize hWd : W5.drewN _ = Wd
                    have HBd : Hid (Below W5.heap.size W5 Wd) := by rw [← hWd]; exact dr_belS W5 _
                    clear hWd x0 x1 dgt
                    obtain ⟨Dq, hDq⟩ : ∃ Dq, Dq = scf ps[q] := ⟨_, rfl⟩
                    have HDq : Hid (Dq = scf ps[q]) := hDq
                    have HLq : Hid ((Tryz.prog.info? 43).map (·.size) = some Dq.length) := by show _ = _; rw [hDq]; exact infoSaga
                    have HDq1 : Hid (∀ v ∈ Dq, v.oneCell' = true) := by show ∀ v ∈ Dq, _; rw [hDq]; exact fun v hv => scl_one _ _ v hv
                    clear hDq
                    have HJd : Hid (Wt w.heap.size Wd (.slice (some ⟨g, 0, none⟩) (ps.length + 1) cg) (ps.take (q + 1) ++ (S, h9) :: ps.drop (q + 1)) ∧ Rr w.heap.size Wd v6 pl6 ∧ Below w.heap.size w Wd ∧ Wd.rangeAt g ((q + 1) * 16) D) := ⟨HJ.out.1.kept HBd.out, HJ.out.2.2.1.kept HBd.out, andThen HJ.out.2.2.2 HBd.out, range_kept HR.out.2 HBd.out⟩
                    go_upto_region 24 with (first
                      | (refine wpList_load_mid rfl 43 _ rfl g ((q + 1) * 16) rfl D _ HJd.out.2.2.2 Tryz.underlying43 rfl HL.out ?_)
                      | (refine wpList_alloc_Z HZ.out rfl rfl ?_)
                      | (refine wpList_store_mid rfl 43 (.tmp 12) (.tmp 96) rfl Wd.heap.size 0 D.toArray rfl rfl (there_of (lb_new Wd Z 43) (by simpa using HDL.out)) (by simpa using HL.out) (all_oneCell_toArray HD1.out) ?_)
                      | fail)
                    obtain ⟨W6, hW6⟩ : ∃ W, W = (Wd.alloc (.cells Z.toArray 43)).setCells Wd.heap.size 0 D := ⟨_, rfl⟩
                    have HB6 : Hid (LB W6 Wd.heap.size 43 D ∧ Below Wd.heap.size Wd W6) := by rw [hW6]; exact box1 Wd 43 Z D HDL.out
                    try rw [List.toList_toArray]
                    rw [← hW6]
                    clear hW6
                    have hpg : g < Wd.heap.size := Nat.lt_of_lt_of_le HGT.out.2 HBd.out.size
                    obtain ⟨p12, hp12⟩ : ∃ p, p = Wd.heap.size := ⟨_, rfl⟩
                    have HPG : Hid (p12 ≠ g) := by show _ ≠ _; rw [hp12]; omega
                    have H6 : Hid (LB W6 p12 43 D ∧ Wt w.heap.size W6 (.slice (some ⟨g, 0, none⟩) (ps.length + 1) cg) (ps.take (q + 1) ++ (S, h9) :: ps.drop (q + 1)) ∧ Rr w.heap.size W6 v6 pl6 ∧ Below w.heap.size w W6 ∧ W6.rangeAt g (q * 16) Dq ∧ (∃ cs z, W6.heap[g]? = some (.cells cs 43 z))) := by
                      obtain ⟨cs, z9, hg9⟩ := HGT.out.1
                      exact ⟨by rw [hp12]; exact HB6.out.1, HJd.out.1.kept HB6.out.2, HJd.out.2.1.kept HB6.out.2, andThen HJd.out.2.2.1 HB6.out.2, by rw [HDq.out]; exact range_kept HR.out.1 (andThen HBd.out HB6.out.2), cs, z9, ((andThen HBd.out HB6.out.2).block g HGT.out.2).trans hg9⟩
                    rw [← hp12]
                    clear hp12 hpg HB6 HBd HJd HR
                    go_upto_region 25 with (first
                      | (refine wpList_load_mid rfl 43 _ rfl g (q * 16) rfl Dq _ H6.out.2.2.2.2.1 Tryz.underlying43 rfl HLq.out ?_)
                      | (refine wpList_store_mid rfl 43 (.tmp 104) (.tmp 103) rfl g ((q + 1) * 16) Dq.toArray rfl rfl (by have := H6.out.2.1.there rfl (q + 1) (by omega); simpa [HDq.out, scf, scl] using this) (by simpa using HLq.out) (all_oneCell_toArray HDq1.out) ?_)
                      | fail)
                    obtain ⟨W7, hW7⟩ : ∃ W, W = W6.setCells g ((q + 1) * 16) Dq := ⟨_, rfl⟩
                    have H7 : Hid (LB W7 p12 43 D ∧ Wt w.heap.size W7 (.slice (some ⟨g, 0, none⟩) (ps.length + 1) cg) ((ps.take (q + 1) ++ (S, h9) :: ps.drop (q + 1)).set (q + 1) ps[q]) ∧ Rr w.heap.size W7 v6 pl6 ∧ Below w.heap.size w W7 ∧ (∃ cs z, W7.heap[g]? = some (.cells cs 43 z))) := by
                      have e1 : Wt w.heap.size W7 (.slice (some ⟨g, 0, none⟩) (ps.length + 1) cg) ((ps.take (q + 1) ++ (S, h9) :: ps.drop (q + 1)).set (q + 1) ps[q]) := by
                        rw [hW7, HDq.out]
                        exact H6.out.2.1.put rfl (q + 1) (by omega) ps[q]
                      obtain ⟨g2, cg2, e9, -, -, -, -, hgt, -⟩ := e1.at (by rw [List.length_set]; omega)
                      simp only [Value.slice.injEq, Option.some.injEq, Addr.mk.injEq, and_true] at e9
                      obtain ⟨rfl, -, -⟩ := e9
                      exact ⟨by rw [hW7]; exact H6.out.1.others _ _ _ HPG.out, e1, by rw [hW7]; exact H6.out.2.2.1.tsets H6.out.2.2.2.2.2 _ _, by rw [hW7]; exact below_cells HGB.out _ _ _ H6.out.2.2.2.1, hgt⟩
                    try rw [List.toList_toArray]
                    rw [← hW7]
                    have HT7 : Hid (W7.there g (q * 16) D.toArray.size) := by
                      have e1 : D.toArray.size = 16 := by rw [HE.out]; rfl
                      show World.there _ _ _ _
                      rw [e1]
                      exact H7.out.2.1.there rfl q (by rw [List.length_set]; omega)
                    have HLA : Hid ((Tryz.prog.info? 43).map (·.size) = some D.toArray.size) := by
                      show _ = _
                      rw [List.size_toArray]
                      exact HL.out
                    clear hW7 H6
                    go_wp2_with (first
                      | (refine wpList_load_mid rfl 43 (.tmp 12) rfl p12 0 rfl D _ H7.out.1.range Tryz.underlying43 rfl HL.out ?_)
                      | (refine wpList_store_mid rfl 43 (.tmp 109) (.tmp 108) rfl g (q * 16) D.toArray rfl rfl HT7.out HLA.out (all_oneCell_toArray HD1.out) ?_)
                      | fail)
                    try rw [List.toList_toArray]
                    go_roundw
                    case rel =>
                      have e1 := H7.out.2.1.put rfl q (by rw [List.length_set]; omega) (S, h9)
                      rw [swapped ps (S, h9) q hql] at e1
                      have e2 : scf (S, h9) = D := by rw [HE.out]; rfl
                      rw [e2] at e1
                      refine ⟨q, by omega, by go_num, e1, fun p hp => ?_, H7.out.2.2.1.tsets H7.out.2.2.2.2 _ _, below_cells HGB.out _ _ _ H7.out.2.2.2.1⟩
                      rw [List.drop_eq_getElem_cons hql] at hp
                      rcases List.mem_cons.1 hp with rfl | hp
                      · rw [← HZQ.out]
                        exact hlt2
                      · exact HJ.out.2.1 p hp
                    case measure => simp [mInt]
                  · have dgt : (S.x.id < z) = False := by simp only [eq_iff_iff, iff_false]; exact hlt2
                    have hlz : z < S.x.id := by
                      have := HNQ.out
                      rw [← HZQ.out] at this
                      omega
                    have HLZ : Hid (ps[q].1.x.id < S.x.id) := by show _ < _; rw [← HZQ.out]; exact hlz
                    go_upto_region 21 with fail
                    go_quiet (fail)
                    go_wp2_with fail
                    go_roundw
                    case rel => exact ⟨k + 1, by omega, by omega, by go_num, HEND.out _ (dr_belS W5 _) (.inr ⟨q, _, rfl, HPQ.out, HLZ.out⟩)⟩
                    case measure => simp [mInt]; omega
    · have hx : (((k : Int) < (Ss.length : Int)) = False) ∨ ((((k : Int) < (Ss.length : Int)) = True) ∧ (((k : Int) < 20) = False)) := by
        by_cases h : k < Ss.length
        · exact .inr ⟨by simp only [eq_iff_iff, iff_true]; omega, by simp only [eq_iff_iff, iff_false]; omega⟩
        · exact .inl (by simp only [eq_iff_iff, iff_false]; omega)
      clear hlt HCK HCN HST HOK HS0 HZ HZL
      have HR : Hid (RecsAt W0 (.slice al L.length cl) L) := by
        have e := HI.out.1.rcy
        rw [HI.out.2.1] at e
        exact e.rcr.1
      have HSQ : Hid (SgQ W0 (.slice aw ps.length cw) (StV G)) := by
        have e := HI.out.2.2.1.sgq fun p hp => (HI.out.2.2.2.2.1 p hp).kept HI.out.2.2.2.2.2.1
        rw [HI.out.2.2.2.1] at e
        exact e
      have HSA : Hid (∀ (m : Int) (v v2 : Value) (W : World), SgR W v (StV G) → SgQ W v2 (StV G) → Calls Tryz.prog 12 #[.agg #[.int .i64 m, v], .agg #[.int .i64 m, v2]] W fun e w' => e = .returned (.bool true) ∧ Below W.heap.size W w') := fun m v v2 W a b => rysame_q m v v2 (StV G) W a b
      have HFO : Hid (Calls Tryz.prog 10 #[.slice al L.length cl] W0 fun e w' => ∃ a, ∃ cp : Nat, e = .returned (.tuple #[.agg #[.int .i64 (L.length : Int), .slice a (StV G).length cp], .int .i64 (-1)]) ∧ SgR w' (.slice a (StV G).length cp) (StV G) ∧ Below W0.heap.size W0 w') := HFL.out G L _ _ HI.out.2.2.2.2.2.1 HR.out HI.out.2.2.2.2.2.2.1 HI.out.2.2.2.2.2.2.2.2.2 q11
      have HB0 : Hid (Below w.heap.size w W0) := HI.out.2.2.2.2.2.1
      clear HI HR HFL
      rcases hx with d1 | ⟨d1, d2⟩
      all_goals
        go_wp2_with fail
        refine HFO.out.mono ?_
        rintro e w2 ⟨a2, c2, rfl, s2, b2⟩
        obtain ⟨W3, hW3⟩ : ∃ W, W = w2.alloc (.cells #[.int .i64 (L.length : Int), .slice a2 (StV G).length c2] 27) := ⟨_, rfl⟩
        have H3 : Hid (LB W3 w2.heap.size 27 [.int .i64 (L.length : Int), .slice a2 (StV G).length c2] ∧ SgR W3 (.slice a2 (StV G).length c2) (StV G) ∧ SgQ W3 (.slice aw ps.length cw) (StV G) ∧ Below w.heap.size w W3) := by
          rw [hW3]
          exact ⟨lb_new _ _ _, s2.kept (up0 _ _), (HSQ.out.kept b2).kept (up0 _ _), andThen (andThen HB0.out b2) (up0 _ _)⟩
        have HW3 : Hid (w2.alloc (.cells #[.int .i64 (L.length : Int), .slice a2 (StV G).length c2] 27) = W3) := hW3.symm
        clear s2 b2 hW3 HSQ HFO d1
        go_upto_region 27 with fail
        rw [HW3.out]
        obtain ⟨p2, hp2⟩ : ∃ p, p = w2.heap.size := ⟨_, rfl⟩
        rw [← hp2] at H3 ⊢
        clear hp2 HW3
        have x0 := H3.out.1.cell 0 _ rfl
        have x1 := H3.out.1.cell 1 _ rfl
        go_wp2_with fail
        refine (HSA.out _ _ _ _ H3.out.2.1 H3.out.2.2.1).mono ?_
        rintro e w4 ⟨rfl, b4⟩
        have HB4 : Hid (Below w.heap.size w w4) := andThen H3.out.2.2.2 b4
        clear b4 x0 x1 H3
        go_wp2_with fail
        go_ret
        exact ⟨rfl, HB4.out⟩
end Go.Proofs.YtdnackjakfiffaaGreatDoor

/-
  Replay: the arguments, sagas.
-/
namespace Go.Proofs.YtdnackjakfiffaaGreatDoor
open Go Go.RowKit Go.ChangeShapes Go.WideShapes Go.ChangeAt
open Wb

set_option maxRecDepth 100000 in
/-- one saga's cells -/
theorem open_sagac {H : Type} {enc : TypeId × Value → H} {W : World} {fuel : Nat} {vs : List Value} {d : DataW H} {p : List MemPlace} (hf : DataW.trod enc Tryz.prog W 0 (fun _ => true) true fuel 43 vs = some (d, p)) (hlen : vs.length = 16) (hw : ∀ n ∈ d.weights Tryz.prog 43, n ≤ reachBytes) : ∃ S h', vs = scl S h' ∧ SgAt W S h' ∧ Sok S := by
  obtain ⟨xs, k', _, hxy, _, hxl, hfs⟩ := DataW.trod_struct Tryz.underlying43 hf
  match xs, hxl, vs, hlen with
  | [y0, y1, y2, y3, y4, y5, y6, y7, y8, y9, y10, y11, y12, y13, y14, y15], _, [v0, v1, v2, v3, v4, v5, v6, v7, v8, v9, v10, v11, v12, v13, v14, v15], _ =>
    have g0 := hfs 0 _ rfl
    have g1 := hfs 1 _ rfl
    have g2 := hfs 2 _ rfl
    have g3 := hfs 3 _ rfl
    have g4 := hfs 4 _ rfl
    have g5 := hfs 5 _ rfl
    have g6 := hfs 6 _ rfl
    have g7 := hfs 7 _ rfl
    have g8 := hfs 8 _ rfl
    have g9 := hfs 9 _ rfl
    have g10 := hfs 10 _ rfl
    have g11 := hfs 11 _ rfl
    have g12 := hfs 12 _ rfl
    have g13 := hfs 13 _ rfl
    have g14 := hfs 14 _ rfl
    have g15 := hfs 15 _ rfl
    simp [cellsTI, cellsTSTR, cellsTBS, cellsTBSS, cellsTBOOL] at g0 g1 g2 g3 g4 g5 g6 g7 g8 g9 g10 g11 g12 g13 g14 g15
    simp only [Prod.mk.injEq] at hxy
    have hw6 : ∀ n ∈ y6.1.weights Tryz.prog 30, n ≤ reachBytes := fun n hn => hw n (by
      rw [hxy.1]
      simp [DataW.weights, Tryz.underlying43, DataW.weightsEach, hn])
    have hw15 : ∀ n ∈ y15.1.weights Tryz.prog 30, n ≤ reachBytes := fun n hn => hw n (by
      rw [hxy.1]
      simp [DataW.weights, Tryz.underlying43, DataW.weightsEach, hn])
    have hw11 : ∀ n ∈ y11.1.weights Tryz.prog 41, n ≤ reachBytes := fun n hn => hw n (by
      rw [hxy.1]
      simp [DataW.weights, Tryz.underlying43, DataW.weightsEach, hn])
    have hw12 : ∀ n ∈ y12.1.weights Tryz.prog 41, n ≤ reachBytes := fun n hn => hw n (by
      rw [hxy.1]
      simp [DataW.weights, Tryz.underlying43, DataW.weightsEach, hn])
    obtain ⟨z0, e0, _, _⟩ := DataW.trod_int Tryz.underlying3 g0
    obtain ⟨z2, e2, _, _⟩ := DataW.trod_int Tryz.underlying3 g2
    obtain ⟨z3, e3, _, _⟩ := DataW.trod_int Tryz.underlying3 g3
    obtain ⟨z4, e4, _, _⟩ := DataW.trod_int Tryz.underlying3 g4
    obtain ⟨z5, e5, _, _⟩ := DataW.trod_int Tryz.underlying3 g5
    obtain ⟨z7, e7, _, _⟩ := DataW.trod_int Tryz.underlying3 g7
    obtain ⟨z8, e8, _, _⟩ := DataW.trod_int Tryz.underlying3 g8
    obtain ⟨z10, e10, _, _⟩ := DataW.trod_int Tryz.underlying3 g10
    obtain ⟨z13, e13, _, _⟩ := DataW.trod_int Tryz.underlying3 g13
    obtain ⟨z14, e14, _, b14⟩ := DataW.trod_int Tryz.underlying3 g14
    obtain ⟨z1, e1, q1, _⟩ := DataW.trod_string Tryz.underlying9 g1
    obtain ⟨z9, e9, _⟩ := DataW.trod_bool Tryz.underlying4 g9
    obtain ⟨l6, hb6, _⟩ := open_bsf g6 hw6
    obtain ⟨l15, hb15, _⟩ := open_bsf g15 hw15
    obtain ⟨l11, hb11, _⟩ := open_psf g11 hw11
    obtain ⟨l12, hb12, _⟩ := open_psf g12 hw12
    have hw1 : z1.size ≤ 140737488355000 := by
      have h1 := hw z1.size (by
        rw [hxy.1]
        simp [DataW.weights, Tryz.underlying43, DataW.weightsEach, q1])
      have h2 := reachIs
      omega
    simp only [List.cons.injEq, and_true] at e0 e2 e3 e4 e5 e7 e8 e10 e13 e14 e1 e9
    subst e0 e2 e3 e4 e5 e7 e8 e10 e13 e14 e1 e9
    obtain ⟨a6, c6, rfl, _⟩ := hb6.shape
    obtain ⟨a15, c15, rfl, _⟩ := hb15.shape
    obtain ⟨a11, c11, rfl, _⟩ := hb11.shape
    obtain ⟨a12, c12, rfl, _⟩ := hb12.shape
    exact ⟨⟨⟨z0, z2, z3, z4, z5, z7, z8, z9, z10, z13, z14⟩, z1, l6, l11, l12, l15⟩, ⟨a6, c6, a11, c11, a12, c12, a15, c15⟩, rfl, ⟨hb6, hb11, hb12, hb15⟩, ⟨hw1, i64_boundse b14⟩⟩
theorem bytesSAGe : Tryz.prog.bytesOf 43 = 200 := by kernel_rfl
set_option maxRecDepth 100000 in
theorem open_sags {H : Type} {enc : TypeId × Value → H} {W : World} {base : Nat} {v : Value} {d : DataW H} {p : List MemPlace} (hv : Value.okWide Tryz.prog W .any base 25 v)
    (h : DataW.Trod enc Tryz.prog W 0 (fun _ => true) true 25 v d p) (hw : ∀ n ∈ d.weights Tryz.prog 25, n ≤ reachBytes) : ∃ rs, SgQ W v rs ∧ ∀ S ∈ rs, Sok S := by
  obtain ⟨a0, len0, cap0, rfl⟩ := okWide_slice Tryz.underlying25 hv
  obtain ⟨fuel, hf⟩ := h
  rcases Deep.open_slice Tryz.underlying25 hf with ⟨hcs, _⟩ | ⟨a, len, cap, m, n, D, Pl, hcs, _, hl, hm, hmm, hx, hel⟩
  · simp [Value.cells] at hcs
    obtain ⟨rfl, rfl, rfl⟩ := hcs
    exact ⟨[], ⟨none, 0, rfl, by simp [maxLen], fun k r hk => by simp at hk⟩, (fun r hr => nomatch hr)⟩
  · simp [Value.cells] at hcs
    obtain ⟨rfl, rfl, rfl⟩ := hcs
    simp only [Prod.mk.injEq] at hx
    have hrow : len0 * 200 ≤ 140737488355000 := by
      have h1 := hw (((List.range len0).map D).length * Tryz.prog.bytesOf 43 + ((List.range (m - len0)).map fun j => D (len0 + j)).length * Tryz.prog.bytesOf 43) (by rw [hx.1]; simp [DataW.weights, Tryz.underlying25, Nat.add_mul])
      have h2 := reachIs
      rw [bytesSAGe] at h1
      simp only [List.length_map, List.length_range] at h1
      omega
    have each : ∀ k, k < len0 → ∃ r : Sg, ∃ b off d, a = ⟨b, off, none⟩ ∧ W.rangeAt b (off + k * 16) (scl r d) ∧ SgAt W r d ∧ Sok r := fun k hk => by
      have hkm : k < m := by rw [hmm]; simp; omega
      have hspot : a.spot = none := by
        obtain ⟨cs0, h10, _⟩ := hel 0 (by omega)
        rw [cellsSAGA] at h10
        obtain ⟨_, hl0, hc0⟩ := World.cells?_some h10
        have r0 := hc0 0 (by omega)
        rw [List.getElem?_eq_getElem (show 0 < cs0.length by omega)] at r0
        simpa [Addr.add] using World.cell?_spot r0
      obtain ⟨cs', h1, h2⟩ := hel k hkm
      have hwk : ∀ n ∈ (D k).weights Tryz.prog 43, n ≤ reachBytes := fun n hn => hw n (by
        rw [hx.1]
        simp only [DataW.weights, Tryz.underlying25, List.mem_cons, List.mem_append]
        exact .inr (.inl (weightsAll_meme (List.mem_map.2 ⟨k, List.mem_range.2 hk, rfl⟩) hn)))
      rw [cellsSAGA] at h1
      obtain ⟨_, hlen, hcell⟩ := World.cells?_some h1
      obtain ⟨r, d, e, hb, hn⟩ := open_sagac h2 hlen hwk
      obtain ⟨b, off, spot⟩ := a
      obtain rfl : spot = none := hspot
      refine ⟨r, b, off, d, rfl, fun j u hu => ?_, hb, hn⟩
      rw [← e] at hu
      have hj : j < 16 := by have := (List.getElem?_eq_some_iff.1 hu).1; omega
      have := hcell j hj
      rw [Deep.add_add, Go.WideShapes.add_plain, ← Nat.add_assoc, hu] at this
      exact this
    obtain ⟨rs, hrl, hrs⟩ := listed len0 each
    refine ⟨rs, ⟨some a, cap0, by rw [hrl], by omega, fun k r hr => ?_⟩, fun r hr => ?_⟩
    · obtain ⟨b, off, d, e, h1, h2, _⟩ := hrs k r hr
      exact ⟨b, off, d, by rw [e], h1, h2⟩
    · obtain ⟨k, hk, rfl⟩ := List.getElem_of_mem hr
      obtain ⟨_, _, _, _, _, _, h3⟩ := hrs k _ (List.getElem?_eq_getElem hk)
      exact h3
end Go.Proofs.YtdnackjakfiffaaGreatDoor
