/-
  WireOwn: answers.
-/
import Derived.Test.YtppgijgmhjfdfaaDoorWo2
import Derived.Test.YtppgijgmhjfdfaaDoorWalk8
namespace Go.Proofs.YtppgijgmhjfdfaaDoor
open Go Go.RowKit
open Wb

def ansOne (x : List Nat) : List (List Nat) := [frU x, (rf (frU x) 0).1, Wn.uint x.length ++ x, (rb (Wn.uint x.length ++ x) 0 ((Wn.uint x.length ++ x).length : Int)).1]
def ansL (u : Nat) (i : Int) (gs : List (List Nat)) (l : List Nat) : List (List Nat) := [Wn.uint u, Wn.uint (zz i)] ++ gs.flatMap ansOne ++ (rfs (l.length + 1) l 0).1
theorem flat_snoc {α β : Type} (f : α → List β) (gs : List α) (j : Nat) (h : j < gs.length) : (gs.take (j + 1)).flatMap f = (gs.take j).flatMap f ++ f gs[j] := by
  rw [List.take_succ_eq_append_getElem h, List.flatMap_append]
  simp
theorem rfs_len : ∀ (f : Nat) (l : List Nat) (p : Int), (rfs f l p).1.length ≤ f
  | 0, _, _ => Nat.zero_le _
  | f + 1, l, p => by
    rw [rfs]
    split
    · have := rfs_len f l (rf l p).2.1
      simp only [List.length_cons]
      omega
    · exact Nat.zero_le _
set_option maxHeartbeats 4000000 in
theorem answers_any (u : Nat) (i : Int) (vb vl : Value) (gs : List (List Nat)) (l : List Nat) (w : World) (hT : Tab w) (hu : u < 18446744073709551616) (hi0 : -9223372036854775808 ≤ i) (hi1 : i ≤ 9223372036854775807) (hb : Ps w vb gs) (hl : Bs w vl l) (hg : ∀ x ∈ gs, x.length ≤ 4194304) (hn : gs.length ≤ 5000) (hll : l.length ≤ 4000000000) :
    Calls Tryd.prog 9 #[.int .u64 (u : Int), .int .i64 i, vb, vl] w fun e w' => ∃ v' ps, e = .returned v' ∧ Ans w.heap.size w' v' ps ∧ ps.map Prod.snd = ansL u i gs l ∧ Below w.heap.size w w' := by
  have hin := info22
  have HT : Hid (∀ w', Below w.heap.size w w' → Tab w') := fun w' hb => hT.kept hb
  have HL : Hid (∀ w', Below w.heap.size w w' → Calls Tryd.prog 15 #[vl, .int .i64 0] w' fun e w'' => ∃ v' ps q, e = .returned (.tuple #[v', q]) ∧ Ans w'.heap.size w'' v' ps ∧ ps.map Prod.snd = (rfs (l.length + 1) l 0).1 ∧ Below w'.heap.size w' w'') := fun w' hb => (readFramesA_any vl l 0 (l.length + 1) w' (hT.kept hb) (hl.kept hb) (by omega) (by omega) (by omega) (by omega) hll).mono fun e w'' ⟨v', ps, he, ha, hm, hb'⟩ => ⟨v', ps, _, he, ha, hm, hb'⟩
  obtain ⟨ao, cap, rfl, hmx, hc⟩ := hb.shape
  unfold maxLen at hmx
  have HC : Hid (∀ j (h : j < gs.length), ∃ b off aj, ∃ cj : Nat, ao = some ⟨b, off, none⟩ ∧ ∀ w', Below w.heap.size w w' → w'.cell? ⟨b, off + j, none⟩ = some (.slice aj gs[j].length cj) ∧ Bs w' (.slice aj gs[j].length cj) gs[j]) := fun j hj => by
    obtain ⟨b, off, e, hcell⟩ := hc (List.ne_nil_of_length_pos (by omega))
    obtain ⟨vj, h1, h2⟩ := hcell j hj
    obtain ⟨aj, cj, rfl, _⟩ := h2.shape
    exact ⟨b, off, aj, cj, e, fun w' hb' => ⟨(hb'.cell (p := ⟨b, off + j, none⟩) (World.block_lt_of_cell? _ _ h1)).trans h1, h2.kept hb'⟩⟩
  have HG : Hid (∀ j (h : j < gs.length), gs[j].length ≤ 4194304) := fun j hj => hg _ (List.getElem_mem hj)
  obtain ⟨avl, cvl, rfl, _⟩ := hl.shape
  clear hT hb hl hc hg
  go_enter Tryd.func9, Tryd.ntmps9
  go_wp2_with fail
  refine (uint_any u _ hu).mono ?_
  rintro e w1 ⟨v1, rfl, ho1, b1⟩
  obtain ⟨a1, c1, rfl, _⟩ := ho1.bs.shape
  have HN1 : Hid (New w.heap.size w1 [(.slice a1 (Wn.uint u).length c1, Wn.uint u)]) := New.one ho1
  clear ho1
  go_wp2_with fail
  refine (int_any i _ hi0 hi1).mono ?_
  rintro e w2 ⟨v2, rfl, ho2, b2⟩
  obtain ⟨a2, c2, rfl, _⟩ := ho2.bs.shape
  have HN2 : Hid (∀ o, New w.heap.size (w2.alloc o) [(.slice a1 (Wn.uint u).length c1, Wn.uint u), (.slice a2 (Wn.uint (zz i)).length c2, Wn.uint (zz i))]) := fun o => (HN1.out.snoc b1.size b2 ho2).kept (up0 _ _)
  have B2 := andThen b1 b2
  have hs2 := B2.size
  clear ho2 HN1 b1 b2
  have HE : Hid (ansL u i gs l = [Wn.uint u, Wn.uint (zz i)] ++ gs.flatMap ansOne ++ (rfs (l.length + 1) l 0).1) := rfl
  generalize Wn.uint u = U at *
  generalize Wn.uint (zz i) = I at *
  have HR2 : Hid ((w2.alloc (.cells #[.slice a1 U.length c1, .slice a2 I.length c2] 25)).rangeAt w2.heap.size 0 [.slice a1 U.length c1, .slice a2 I.length c2]) := by
    have h : (w2.alloc (.cells #[.slice a1 U.length c1, .slice a2 I.length c2] 25)).heap[w2.heap.size]? = some (.cells #[.slice a1 U.length c1, .slice a2 I.length c2] 25) := heap_new _ _
    exact World.rangeAt_of_block h 0 2
  generalize hnl : Value.slice none 0 0 = nl
  have HNL : Hid (Value.slice none 0 0 = nl) := hnl
  have HNA : Hid (∀ w', Ans w.heap.size w' nl [] ∧ ∀ g, nl.ownBlock = some g → g < w.heap.size) := fun w' => by
    subst hnl
    exact ⟨Ans.nil _ _, fun g h => nomatch h⟩
  clear hnl
  go_wp2_with (at_builtin; refine wpList_append_new _ rfl (.tmp 22) (.tmp 27) 23 rfl w.heap.size w.heap.size hin Tryd.underlying23 nl [] [(.slice a1 U.length c1, U), (.slice a2 I.length c2, I)] rfl (HNA.out _).1 (HN2.out _) (Nat.le_refl _) (fun _ h => nomatch h) (HNA.out w).2 w2.heap.size rfl HR2.out (by simp) (by simp; omega) ?_)
  intro v3 w3 hA3 hg3
  have B3 : Below w.heap.size w w3 := (up B2 _).trans (grown_below (HNA.out _).1.row hg3 (by simp; omega))
  have HA3 : Hid (Ans w.heap.size w3 v3 ([] ++ [(.slice a1 U.length c1, U), (.slice a2 I.length c2, I)])) := hA3
  clear hA3 hg3 HR2 HN2 B2 hs2
  go_wp2
  go_loopw [9, 10] (fun o k wr => ∃ (j : Nat) (ps : List (Value × List Nat)), j ≤ gs.length ∧ k = .int .i64 (j : Int) ∧ Ans w.heap.size wr o ps ∧ ps.map Prod.snd = [U, I] ++ (gs.take j).flatMap ansOne ∧ ps.length = 2 + 4 * j ∧ Below w.heap.size w wr) (fun _ k _ => gs.length - (intOf k).toNat)
  case atStart => exact ⟨0, _, Nat.zero_le _, rfl, HA3.out, by simp, rfl, B3⟩
  case round =>
    obtain ⟨j, ps, hj, rfl, hA, hm, hpl, hbel⟩ := hrel
    clear HA3 B3
    have HLT : Hid ((∀ p ∈ ps, ∀ g, p.1.ownBlock = some g → g < wr.heap.size) ∧ ∀ g, u9.ownBlock = some g → g < wr.heap.size) := hA.lt
    have hsz := hbel.size
    by_cases hlt : j < gs.length
    · obtain ⟨b, off, aj, cj, rfl, hcb⟩ := HC.out j hlt
      have hxl := HG.out j hlt
      have HM : Hid (ps.map Prod.snd ++ ansOne gs[j] = [U, I] ++ (gs.take (j + 1)).flatMap ansOne) := by
        show _ = _
        rw [hm, flat_snoc ansOne gs j hlt, List.append_assoc]
      generalize gs[j] = x at *
      have HCB : Hid (∀ w', Below w.heap.size w w' → w'.cell? ⟨b, off + j, none⟩ = some (.slice aj x.length cj) ∧ Bs w' (.slice aj x.length cj) x) := hcb
      obtain ⟨q0, hx0⟩ := hcb wr hbel
      clear hcb hm HC HG
      go_wp2_with fail
      refine (frameU_any _ x _ ((HT.out _ hbel).kept (up0 _ _)) (ps1 _ _ rfl _ hx0)).mono ?_
      rintro e w4 ⟨a4, n4, c4, er, rfl, rfl, ho4, b4'⟩
      have b4 := andThen (up0 _ _) b4'
      have HN4 : Hid (New wr.heap.size w4 [(.slice a4 (frU x).length c4, frU x)]) := New.one (ho4.mono (by simp))
      have HF4 : Hid (Bs w4 (.slice a4 (frU x).length c4) (frU x)) := ho4.bs
      have hfl := (frU_len x).1
      have B4 := andThen hbel b4
      clear ho4 b4' q0 hx0
      go_wp2_with fail
      refine (readFrame_any _ (frU x) 0 _ (HT.out _ B4) HF4.out (by omega)).mono ?_
      rintro e w5 ⟨v5, rfl, ho5, b5⟩
      obtain ⟨a5, c5, rfl, _⟩ := ho5.bs.shape
      have HN5 : Hid (New wr.heap.size w5 [(.slice a4 (frU x).length c4, frU x), (.slice a5 (rf (frU x) 0).1.length c5, (rf (frU x) 0).1)]) := HN4.out.snoc b4.size b5 ho5
      have b5w := andThen b4 b5
      have B5 := andThen hbel b5w
      obtain ⟨q5, hx5⟩ := HCB.out _ B5
      clear ho5 HN4 HF4 b4 b5 B4
      go_wp2_with fail
      refine (bytes_any _ x _ hx5 (by omega)).mono ?_
      rintro e w6 ⟨v6, rfl, ho6, b6⟩
      have hul := Wn.uint_len10 x.length (by omega)
      have HN6 : Hid (New wr.heap.size w6 ([(.slice a4 (frU x).length c4, frU x), (.slice a5 (rf (frU x) 0).1.length c5, (rf (frU x) 0).1)] ++ [(v6, Wn.uint x.length ++ x)])) := HN5.out.snoc b5w.size b6 ho6
      obtain ⟨a6, c6, rfl, _⟩ := ho6.bs.shape
      have HB6 : Hid (Bs w6 (.slice a6 (Wn.uint x.length ++ x).length c6) (Wn.uint x.length ++ x)) := ho6.bs
      have hy : (Wn.uint x.length ++ x).length ≤ 4194404 := by rw [List.length_append]; omega
      have b6w := andThen b5w b6
      have B6 := andThen hbel b6w
      have HO : Hid (ansOne x = [frU x, (rf (frU x) 0).1, Wn.uint x.length ++ x, (rb (Wn.uint x.length ++ x) 0 ((Wn.uint x.length ++ x).length : Int)).1]) := rfl
      clear ho6 HN5 b5w b6 B5 q5 hx5 hul
      generalize Wn.uint x.length ++ x = y at *
      generalize (rf (frU x) 0).1 = z at *
      generalize frU x = f at *
      go_wp2_with fail
      refine (readBytes_any _ y 0 (y.length : Int) _ HB6.out (by omega) (by omega)).mono ?_
      rintro e w7 ⟨v7, rfl, ho7, b7⟩
      generalize (rb y 0 (y.length : Int)).1 = t at *
      obtain ⟨a7, c7, rfl, _⟩ := ho7.bs.shape
      have HN7 : Hid (∀ o, New wr.heap.size (w7.alloc o) ([(.slice a4 f.length c4, f), (.slice a5 z.length c5, z)] ++ [(.slice a6 y.length c6, y)] ++ [(.slice a7 t.length c7, t)])) := fun o => (HN6.out.snoc b6w.size b7 ho7).kept (up0 _ _)
      have b7w := andThen b6w b7
      have B7 := andThen hbel b7w
      have HA7 : Hid (∀ o, Ans w.heap.size (w7.alloc o) u9 ps) := fun o => (hA.kept b7w).kept (up0 _ _)
      have hs7 := B7.size
      have HR7 : Hid ((w7.alloc (.cells #[.slice a4 f.length c4, .slice a5 z.length c5, .slice a6 y.length c6, .slice a7 t.length c7] 25)).rangeAt w7.heap.size 0 [.slice a4 f.length c4, .slice a5 z.length c5, .slice a6 y.length c6, .slice a7 t.length c7]) := by
        have h : (w7.alloc (.cells #[.slice a4 f.length c4, .slice a5 z.length c5, .slice a6 y.length c6, .slice a7 t.length c7] 25)).heap[w7.heap.size]? = some (.cells #[.slice a4 f.length c4, .slice a5 z.length c5, .slice a6 y.length c6, .slice a7 t.length c7] 25) := heap_new _ _
        exact World.rangeAt_of_block h 0 4
      clear ho7 HN6 HB6 b6w b7 B6 hA b7w
      go_wp2_with (at_builtin; refine wpList_append_new _ rfl (.tmp 63) (.tmp 68) 23 rfl w.heap.size wr.heap.size hin Tryd.underlying23 _ ps [(.slice a4 f.length c4, f), (.slice a5 z.length c5, z), (.slice a6 y.length c6, y), (.slice a7 t.length c7, t)] rfl (HA7.out _) (HN7.out _) hsz HLT.out.1 HLT.out.2 w7.heap.size rfl HR7.out (by simp; omega) (by simp; omega) ?_)
      intro v8 w8 hA8 hg8
      have R : Hid (Ans w.heap.size w8 v8 (ps ++ [(.slice a4 f.length c4, f), (.slice a5 z.length c5, z), (.slice a6 y.length c6, y), (.slice a7 t.length c7, t)]) ∧ Below w.heap.size w w8) := ⟨hA8, (up B7 _).trans (grown_below (HA7.out _).row hg8 (by simp; omega))⟩
      clear hA8 hg8 HA7 HN7 HR7 hbel B7 HLT
      go_wp2
      go_roundw
      case rel => exact ⟨j + 1, _, by omega, by go_num, R.out.1, by rw [← HM.out, HO.out, List.map_append]; rfl, by simp; omega, R.out.2⟩
      case measure => simp [intOf]; omega
    · obtain rfl : j = gs.length := by omega
      rw [List.take_length] at hm
      clear HC HG
      go_wp2_with fail
      refine (HL.out _ hbel).mono ?_
      rintro e w4 ⟨v4, qs, q4, rfl, hA4, hm4, b4⟩
      have hA' := hA.kept b4
      have B4 := andThen hbel b4
      have hs4 := B4.size
      have HM : Hid ((ps ++ qs).map Prod.snd = [U, I] ++ gs.flatMap ansOne ++ (rfs (l.length + 1) l 0).1) := by
        show _ = _
        rw [List.map_append, hm, hm4]
      have hql : qs.length ≤ 4000000001 := by
        have h1 := rfs_len (l.length + 1) l 0
        rw [← hm4, List.length_map] at h1
        omega
      clear hm hm4
      go_wp2_with (at_builtin; refine wpList_append_ans _ rfl (.tmp 75) (.tmp 76) 23 rfl w.heap.size wr.heap.size hin Tryd.underlying23 u9 v4 ps qs rfl rfl hA' hA4 hsz HLT.out.1 HLT.out.2 (by omega) (by omega) ?_)
      intro v8 w8 hA8 hg8
      have B8 : Below w.heap.size w w8 := B4.trans (grown_below hA'.row hg8 (by omega))
      clear hA hA' hA4 hg8 b4 B4 hbel HLT
      go_wp2
      go_ret
      exact ⟨_, _, rfl, hA8, HM.out.trans HE.out.symm, B8⟩
end Go.Proofs.YtppgijgmhjfdfaaDoor
