/-
  The law package's 'plays' at the kind 8.
-/
import Derived.Test.YtdoclmkldfemhaaDoorPlaysB
import Derived.Test.YtdoclmkldfemhaaDoorSameAll
namespace Go.Proofs.YtdoclmkldfemhaaDoor
open Go Go.RowKit
open Wb

set_option maxRecDepth 100000 in
set_option maxHeartbeats 4000000 in
theorem plays_8 (u i a m : Int) (bv pv : Value) (l : List Nat) (ls : List (List Nat)) (w : World) (hT : Tab w) (hb : Bs w bv l) (hp : Ps w pv ls) (hlen : l.length ≤ 140737488355000) (hel : ∀ j (h : j < ls.length), ls[j].length ≤ 140737488355328)
    (hcall : ∀ (W : World) (bv' pv' : Value), Tab W → Bs W bv' l → Ps W pv' ls → ls.flatten.length ≤ 4194304 → Calls Tryd.prog 11 #[.agg #[.int .i64 8, .int .u64 u, .int .i64 i, .int .i64 a, .int .i64 m, bv', pv']] W fun e w' => e = .returned (.bool true) ∧ Below W.heap.size W w') :
    Calls Tryd.prog 46 #[.agg #[.int .i64 8, .int .u64 u, .int .i64 i, .int .i64 a, .int .i64 m, bv, pv]] w fun e w' => e = .returned (.bool true) ∧ Below w.heap.size w w' := by
  have hin := info22
  have HCALL : Hid (∀ (W : World) (bv' pv' : Value), Tab W → Bs W bv' l → Ps W pv' ls → ls.flatten.length ≤ 4194304 → Calls Tryd.prog 11 #[.agg #[.int .i64 8, .int .u64 u, .int .i64 i, .int .i64 a, .int .i64 m, bv', pv']] W fun e w' => e = .returned (.bool true) ∧ Below W.heap.size W w') := hcall
  clear hcall
  have HB : Hid (∀ w', Below w.heap.size w w' → Bs w' bv l) := fun w' h => hb.kept h
  have HP : Hid (∀ w', Below w.heap.size w w' → Ps w' pv ls) := fun w' h => hp.kept h
  have HT : Hid (∀ w', Below w.heap.size w w' → Tab w') := fun w' h => hT.kept h
  have HEL : Hid (∀ j (h : j < ls.length), ls[j].length ≤ 140737488355328) := hel
  obtain ⟨aob, capb, rfl, hlb, hmb, _, _⟩ := hb.shape
  obtain ⟨aop, capp, rfl, hmp, _⟩ := hp.shape
  clear hb hp hT hel
  go_enter Tryd.func46, Tryd.ntmps46
  have B0 := up0 w (.cells #[.int .i64 8, .int .u64 u, .int .i64 i, .int .i64 a, .int .i64 m, .slice aob l.length capb, .slice aop ls.length capp] 27)
  go_wp2_with fail
  refine (few_any _ ls _ (HP.out _ B0) HEL.out).mono ?_
  rintro e w1 ⟨⟨fb, rfl, hfew⟩, rfl⟩
  have HFW : Hid (fb = true → ls.flatten.length + ls.length ≤ 4194304) := hfew
  clear hfew HEL
  cases fb with
  | false =>
    go_wp2
    go_ret
    exact ⟨rfl, B0⟩
  | true =>
    have HS : Hid (ls.flatten.length + ls.length ≤ 4194304) := HFW.out rfl
    clear HFW
    have hX : ∀ w', Below (w.heap.size + 1) (w.alloc (.cells #[.int .i64 8, .int .u64 u, .int .i64 i, .int .i64 a, .int .i64 m, .slice aob l.length capb, .slice aop ls.length capp] 27)) w' → w'.heap[w.heap.size]? = some (.cells #[.int .i64 8, .int .u64 u, .int .i64 i, .int .i64 a, .int .i64 m, .slice aob l.length capb, .slice aop ls.length capp] 27) := fun w' hb => by
      rw [hb.block w.heap.size (Nat.lt_succ_self _)]
      exact box_new w _
    have hs1 : (w.alloc (.cells #[.int .i64 8, .int .u64 u, .int .i64 i, .int .i64 a, .int .i64 m, .slice aob l.length capb, .slice aop ls.length capp] 27)).heap.size = w.heap.size + 1 := box_size w _
    generalize (w.alloc (.cells #[.int .i64 8, .int .u64 u, .int .i64 i, .int .i64 a, .int .i64 m, .slice aob l.length capb, .slice aop ls.length capp] 27)) = wb at *
    have HX : Hid (∀ w', Below (w.heap.size + 1) wb w' → w'.heap[w.heap.size]? = some (.cells #[.int .i64 8, .int .u64 u, .int .i64 i, .int .i64 a, .int .i64 m, .slice aob l.length capb, .slice aop ls.length capp] 27)) := hX
    clear hX
    have HC : Hid (∀ w', Below (w.heap.size + 1) wb w' → w'.cell? ⟨w.heap.size, 5, none⟩ = some (.slice aob l.length capb) ∧ w'.cell? ⟨w.heap.size, 6, none⟩ = some (.slice aop ls.length capp)) := fun w' hb => by
      have := HX.out w' hb
      simp [World.cell?, this]
    obtain ⟨R, hR⟩ : ∃ R, R = l ++ pad 75 := ⟨_, rfl⟩
    have HR : Hid (R = l ++ pad 75) := hR
    have hRl : R.length = l.length + 75 := by rw [hR, List.length_append, pad_len]
    clear hR
    obtain ⟨c5, c6⟩ := HC.out wb (Below.refl _ _)
    go_wp2_with fail
    refine (roomy_any _ l _ (HB.out _ B0) hlen).mono ?_
    rw [← HR.out]
    rintro e w2 ⟨v2, rfl, ho2, b2⟩
    rw [hs1] at ho2 b2
    obtain ⟨ao2, cap2, rfl, hl2, hm2, _, hc2⟩ := ho2.bs.shape
    obtain ⟨b2', off2, rfl, _⟩ := hc2 (List.ne_nil_of_length_pos (by omega))
    have hq2 : l.length ≤ cap2 := by omega
    clear hc2 hRl hl2
    have B2 : Below w.heap.size w w2 := B0.trans (b2.mono (Nat.le_succ _))
    have C2 := b2
    clear b2 c5 c6
    obtain ⟨c5, c6⟩ := HC.out w2 C2
    go_wp2_with fail
    refine (roomy_any _ l _ (HB.out _ B2) hlen).mono ?_
    rw [← HR.out]
    rintro e w3 ⟨v3, rfl, ho3, b3⟩
    obtain ⟨ao3, cap3, rfl, hl3, hm3, _, _⟩ := ho3.bs.shape
    have s2 := C2.size
    rw [hs1] at s2
    have B3 : Below w.heap.size w w3 := andThen B2 b3
    have C3 : Below (w.heap.size + 1) wb w3 := C2.trans (b3.mono s2)
    have ho2' := ho2.kept b3
    have s3 := b3.size
    clear b3 c5 c6 ho2 HB
    obtain ⟨c5, c6⟩ := HC.out w3 C3
    go_wp2_with fail
    refine (laid_any _ ls _ (HP.out _ B3) HS.out).mono ?_
    rintro e w4 ⟨v4, v5, rfl, ho4, hr5, b4⟩
    obtain ⟨ao4, cap4, rfl, hl4, hm4, _, _⟩ := ho4.bs.shape
    obtain ⟨ao5, cap5, rfl, hm5, _⟩ := hr5.ps.shape
    have B4 : Below w.heap.size w w4 := andThen B3 b4
    have C4 : Below (w.heap.size + 1) wb w4 := C3.trans (b4.mono (by omega))
    have ho2 := ho2'.kept b4
    have ho3' := ho3.kept b4
    have s4 := b4.size
    clear b4 c5 c6 ho2' ho3
    go_wp2_with fail
    have hll : (lay ls).length ≤ 400000000 := by
      have h1 := lay_len ls
      have h2 := HS.out
      omega
    refine (rwhole_any _ (lay ls) _ ho4.bs (by omega)).mono ?_
    rintro e w5 ⟨v6, rfl, ho6, b5⟩
    obtain ⟨ao6, cap6, rfl, _⟩ := ho6.bs.shape
    have B5 : Below w.heap.size w w5 := andThen B4 b5
    have C5 : Below (w.heap.size + 1) wb w5 := C4.trans (b5.mono (by omega))
    have ho2' := ho2.kept b5
    have ho3 := ho3'.kept b5
    have ho4' := ho4.kept b5
    have hr5' := hr5.kept b5
    have s5 := b5.size
    have hg5 : ∀ k, (Value.slice ao5 ls.length cap5).ownBlock = some k → w3.heap.size ≤ k ∧ k < w4.heap.size := by
      obtain ⟨vs, h1, _⟩ := hr5
      exact fun k hk => h1.lt k hk
    have HG : Hid (∀ k, (Value.slice ao5 ls.length cap5).ownBlock = some k → w3.heap.size ≤ k ∧ k < w4.heap.size) := hg5
    clear hg5
    clear b5 ho2 ho3' ho4 hr5
    obtain ⟨c5, c6⟩ := HC.out w5 C5
    go_wp2_with fail
    refine (kept_any _ ls _ (HP.out _ B5) HS.out).mono ?_
    rintro e w6 ⟨v7, rfl, ho7, b6⟩
    obtain ⟨ao7, cap7, rfl, hm7, _⟩ := ho7.ps.shape
    have B6 : Below w.heap.size w w6 := andThen B5 b6
    have C6 : Below (w.heap.size + 1) wb w6 := C5.trans (b6.mono (by omega))
    have ho2 := ho2'.kept b6
    have ho3' := ho3.kept b6
    have ho4 := ho4'.kept b6
    have ho6' := ho6.kept b6
    have hr5 := hr5'.kept b6
    have s6 := b6.size
    clear b6 ho2' ho3 ho4' ho6 hr5' c5 c6 HP
    go_wp2
    go_loopw [9, 10] (fun o i wr => ∃ k : Nat, k ≤ 20 ∧ i = .int .i64 (k : Int) ∧ RowB w3.heap.size wr o (ls ++ List.replicate k [207]) ∧ w6.grownBy wr (Value.slice ao5 ls.length cap5).ownBlock ∧ (o.ownBlock = (Value.slice ao5 ls.length cap5).ownBlock ∨ ∃ g, o.ownBlock = some g ∧ w6.heap.size ≤ g)) (fun _ i _ => 20 - (intOf i).toNat)
    case atStart => exact ⟨0, by omega, rfl, by simpa using hr5, World.grownBy.refl _ _, .inl rfl⟩
    case round =>
      obtain ⟨k, hk, rfl, hrow, hgr, hob⟩ := hrel
      by_cases hlt : k < 20
      · obtain ⟨vs, hr, hvl, he⟩ := hrow
        have hNL : ls.length ≤ 4194304 := by have := HS.out; omega
        have hvs : vs.length ≤ 5000000000 := by
          rw [hvl, List.length_append, List.length_replicate]
          omega
        have HRR : Hid (∀ o o', Row w3.heap.size ((wr.alloc o).alloc o') u9 vs) := fun o o' => hr.kept (up (up0 _ _) _)
        have HE : Hid (∀ o o', ∀ j (h : j < vs.length) (h2 : j < (ls ++ List.replicate k [207]).length), Bk ((wr.alloc o).alloc o') vs[j] (ls ++ List.replicate k [207])[j]) := fun o o' j x y => (he j x y).kept (up (up0 _ _) _)
        have HV : Hid (vs.length = (ls ++ List.replicate k [207]).length) := hvl
        have s7 := hgr.size
        clear hr he hvl
        go_wp2_with (at_builtin; refine wpList_push_at _ rfl (.tmp 51) (.tmp 53) 25 rfl w3.heap.size hin Tryd.underlying25 _ vs rfl (HRR.out _ _) _ (.slice (some ⟨wr.heap.size, 0, none⟩) 1 1) rfl (by first | exact cell_two wr _ _ _ | exact World.cell?_alloc_new (wr.alloc _) _ _ 0) rfl hvs (by first | omega | (simp; omega)) ?_)
        intro v8 w8 hr8 hg8 hob8
        have RR : Hid (RowB w3.heap.size w8 v8 (ls ++ List.replicate (k + 1) [207]) ∧ w6.grownBy w8 (Value.slice ao5 ls.length cap5).ownBlock ∧ (v8.ownBlock = (Value.slice ao5 ls.length cap5).ownBlock ∨ ∃ g, v8.ownBlock = some g ∧ w6.heap.size ≤ g)) := by
          refine ⟨?_, grown_trans hgr (up (up0 _ _) _) hg8 hob, ?_⟩
          · rw [List.replicate_succ', ← List.append_assoc]
            exact RowB.push (HRR.out _ _) HV.out (HE.out _ _) (bk_207 wr _) hr8 hg8
          · rcases hob8 with e | e
            · rw [e]
              exact hob
            · exact .inr ⟨_, e, by omega⟩
        clear hr8 hg8 hob8 HRR HE HV hgr hob
        go_wp2
        go_roundw
        case rel => exact ⟨k + 1, by omega, by go_num, RR.out.1, RR.out.2.1, RR.out.2.2⟩
        case measure => simp [intOf]; omega
      · obtain rfl : k = 20 := by omega
        obtain ⟨vs5, hrw5, _⟩ := hr5
        have o2 := own_grown hrw5 ho2 hgr
        have o3 := own_grown hrw5 ho3' hgr
        have o4 := own_grown hrw5 ho4 hgr
        have o6 := own_grown hrw5 ho6' hgr
        have o7 := ownP_grown ho7 hgr (fun k hk => Nat.lt_of_lt_of_le (HG.out k hk).2 s5)
        have s7 := hgr.size
        have BW : Below w.heap.size w wr := B6.grown hgr (by omega) (fun k hk => by have := (HG.out k hk).1; omega)
        have hbx : wr.heap[w.heap.size]? = some (.cells #[.int .i64 8, .int .u64 u, .int .i64 i, .int .i64 a, .int .i64 m, .slice aob l.length capb, .slice aop ls.length capp] 27) := (hgr.block w.heap.size (by omega) (fun e => by have := (HG.out _ e.symm).1; omega)).trans (HX.out w6 C6)
        clear ho2 ho3' ho4 ho6' ho7 hrw5 hgr HG hob
        have hLL : (ls ++ List.replicate 20 [207]).length = ls.length + 20 := by rw [List.length_append, List.length_replicate]
        obtain ⟨g9, cap9, e9, hl9, hm9, _⟩ := row_list hrow (by omega)
        rw [hLL] at e9 hl9
        clear hLL
        subst e9
        have W1 : ∀ x5 x6, RowB w3.heap.size ((wr.setCell ⟨w.heap.size, 5, none⟩ x5).setCell ⟨w.heap.size, 6, none⟩ x6) (.slice (some ⟨g9, 0, none⟩) (ls.length + 20) cap9) (ls ++ List.replicate 20 [207]) := fun x5 x6 =>
          rowB_set (rowB_set hrow (by show w.heap.size < w3.heap.size; omega) _ _ _ hbx (by decide)) (by show w.heap.size < w3.heap.size; omega) _ _ _ (Go.heap_setCell_same wr w.heap.size 5 _ _ x5 hbx) (by decide)
        have W2 : ∀ x5 x6, Own (w.heap.size + 1) ((wr.setCell ⟨w.heap.size, 5, none⟩ x5).setCell ⟨w.heap.size, 6, none⟩ x6) (.slice (some ⟨b2', off2, none⟩) R.length cap2) R := fun x5 x6 => own_set (own_set o2 (Nat.lt_succ_self _)) (Nat.lt_succ_self _)
        have W3 : ∀ x5 x6, Own w2.heap.size ((wr.setCell ⟨w.heap.size, 5, none⟩ x5).setCell ⟨w.heap.size, 6, none⟩ x6) (.slice ao3 R.length cap3) R := fun x5 x6 => own_set (own_set o3 (by show w.heap.size < w2.heap.size; omega)) (by show w.heap.size < w2.heap.size; omega)
        have W4 : ∀ x5 x6, Own w3.heap.size ((wr.setCell ⟨w.heap.size, 5, none⟩ x5).setCell ⟨w.heap.size, 6, none⟩ x6) (.slice ao4 (lay ls).length cap4) (lay ls) := fun x5 x6 => own_set (own_set o4 (by show w.heap.size < w3.heap.size; omega)) (by show w.heap.size < w3.heap.size; omega)
        have W6 : ∀ x5 x6, Own w4.heap.size ((wr.setCell ⟨w.heap.size, 5, none⟩ x5).setCell ⟨w.heap.size, 6, none⟩ x6) (.slice ao6 (lay ls).length cap6) (lay ls) := fun x5 x6 => own_set (own_set o6 (by show w.heap.size < w4.heap.size; omega)) (by show w.heap.size < w4.heap.size; omega)
        have W7 : ∀ x5 x6, OwnP w5.heap.size ((wr.setCell ⟨w.heap.size, 5, none⟩ x5).setCell ⟨w.heap.size, 6, none⟩ x6) (.slice ao7 ls.length cap7) ls := fun x5 x6 => ownP_set (ownP_set o7 (by show w.heap.size < w5.heap.size; omega)) (by show w.heap.size < w5.heap.size; omega)
        have W8 : ∀ x5 x6, Below w.heap.size w ((wr.setCell ⟨w.heap.size, 5, none⟩ x5).setCell ⟨w.heap.size, 6, none⟩ x6) := fun x5 x6 => (BW.setCell (Nat.le_refl _) _).setCell (Nat.le_refl _) _
        have WW : Hid ((∀ x5 x6, RowB w3.heap.size ((wr.setCell ⟨w.heap.size, 5, none⟩ x5).setCell ⟨w.heap.size, 6, none⟩ x6) (.slice (some ⟨g9, 0, none⟩) (ls.length + 20) cap9) (ls ++ List.replicate 20 [207]) ∧ Own (w.heap.size + 1) ((wr.setCell ⟨w.heap.size, 5, none⟩ x5).setCell ⟨w.heap.size, 6, none⟩ x6) (.slice (some ⟨b2', off2, none⟩) R.length cap2) R ∧ Own w2.heap.size ((wr.setCell ⟨w.heap.size, 5, none⟩ x5).setCell ⟨w.heap.size, 6, none⟩ x6) (.slice ao3 R.length cap3) R ∧ Own w3.heap.size ((wr.setCell ⟨w.heap.size, 5, none⟩ x5).setCell ⟨w.heap.size, 6, none⟩ x6) (.slice ao4 (lay ls).length cap4) (lay ls) ∧ Own w4.heap.size ((wr.setCell ⟨w.heap.size, 5, none⟩ x5).setCell ⟨w.heap.size, 6, none⟩ x6) (.slice ao6 (lay ls).length cap6) (lay ls) ∧ OwnP w5.heap.size ((wr.setCell ⟨w.heap.size, 5, none⟩ x5).setCell ⟨w.heap.size, 6, none⟩ x6) (.slice ao7 ls.length cap7) ls ∧ Below w.heap.size w ((wr.setCell ⟨w.heap.size, 5, none⟩ x5).setCell ⟨w.heap.size, 6, none⟩ x6))) := fun x5 x6 => ⟨W1 x5 x6, W2 x5 x6, W3 x5 x6, W4 x5 x6, W6 x5 x6, W7 x5 x6, W8 x5 x6⟩
        clear W1 W2 W3 W4 W6 W7 W8 o2 o3 o4 o6 o7 hrow BW HX HC
        have k0 : wr.cell? ⟨w.heap.size, 0, none⟩ = some (.int .i64 8) := by unfold World.cell?; rw [hbx]; rfl
        have k1 : wr.cell? ⟨w.heap.size, 1, none⟩ = some (.int .u64 u) := by unfold World.cell?; rw [hbx]; rfl
        have k2 : wr.cell? ⟨w.heap.size, 2, none⟩ = some (.int .i64 i) := by unfold World.cell?; rw [hbx]; rfl
        have k3 : wr.cell? ⟨w.heap.size, 3, none⟩ = some (.int .i64 a) := by unfold World.cell?; rw [hbx]; rfl
        have k4 : wr.cell? ⟨w.heap.size, 4, none⟩ = some (.int .i64 m) := by unfold World.cell?; rw [hbx]; rfl
        have k5 : wr.cell? ⟨w.heap.size, 5, none⟩ = some (.slice aob l.length capb) := by unfold World.cell?; rw [hbx]; rfl
        have k6 : wr.cell? ⟨w.heap.size, 6, none⟩ = some (.slice aop ls.length capp) := by unfold World.cell?; rw [hbx]; rfl
        have f5 : wr.frozen? ⟨w.heap.size, 5, none⟩ = false := by unfold World.frozen?; rw [hbx]; rfl
        have f6 : wr.frozen? ⟨w.heap.size, 6, none⟩ = false := by unfold World.frozen?; rw [hbx]; rfl
        clear hbx
        go_wp2_with fail
        have HFL : Hid (ls.flatten.length ≤ 4194304) := by
          have := HS.out
          show _ ≤ _
          omega
        obtain ⟨hrow, o2, o3, o4, o6, o7, bw⟩ := WW.out (.slice (some ⟨b2', off2, none⟩) l.length cap2) (.slice (some ⟨g9, 0, none⟩) ls.length cap9)
        clear WW k0 k1 k2 k3 k4 k5 k6 f5 f6
        generalize (wr.setCell ⟨w.heap.size, 5, none⟩ (.slice (some ⟨b2', off2, none⟩) l.length cap2)).setCell ⟨w.heap.size, 6, none⟩ (.slice (some ⟨g9, 0, none⟩) ls.length cap9) = W9 at *
        refine (HCALL.out W9 _ _ (HT.out _ bw) (bs_prefix o2.bs HR.out) (list_ps hrow) HFL.out).mono ?_
        rintro e w10 ⟨rfl, b10⟩
        have HA : Hid (∀ w', Below W9.heap.size W9 w' → Bs w' (.slice (some ⟨b2', off2, none⟩) R.length cap2) R ∧ Bs w' (.slice ao3 R.length cap3) R ∧ Bs w' (.slice ao4 (lay ls).length cap4) (lay ls) ∧ Bs w' (.slice ao6 (lay ls).length cap6) (lay ls) ∧ Ps w' (.slice ao7 ls.length cap7) ls ∧ Ps w' (.slice (some ⟨g9, 0, none⟩) ls.length cap9) ls) := fun w' hb => ⟨o2.bs.kept hb, o3.bs.kept hb, o4.bs.kept hb, o6.bs.kept hb, o7.ps.kept hb, (list_ps hrow).kept hb⟩
        have HM : Hid (∀ w', Below W9.heap.size W9 w' → ∀ k, k < 20 → ∃ vj, w'.cell? ⟨g9, ls.length + k, none⟩ = some vj ∧ Bs w' vj [207]) := fun w' hb k hk => by
          obtain ⟨vj, h1, h2⟩ := list_more (hrow.kept hb) k (by rw [List.length_replicate]; exact hk)
          rw [List.getElem_replicate] at h2
          exact ⟨vj, h1, h2⟩
        have BW : Hid (Below w.heap.size w W9) := bw
        clear hrow o2 o3 o4 o6 o7 bw HFL HT
        go_wp2
        go_loopw [11, 22] (fun ok i wr' => ∃ k : Nat, k ≤ 20 ∧ i = .int .i64 (k : Int) ∧ ok = .bool true ∧ Below W9.heap.size W9 wr') (fun _ i _ => 20 - (intOf i).toNat)
        case atStart => exact ⟨0, by omega, rfl, rfl, b10⟩
        case round =>
          clear b10
          obtain ⟨k, hk, rfl, rfl, hbel⟩ := hrel
          by_cases hk20 : k < 20
          · obtain ⟨vj, hcj, hbj⟩ := HM.out wr hbel k hk20
            have HBJ : Hid (∀ o, Bs (wr.alloc o) vj [207]) := fun o => hbj.alloc o
            obtain ⟨aoj, capj, rfl, _⟩ := hbj.shape
            have HBJ2 : Hid (∀ o, Bs (wr.alloc o) (.slice aoj 1 capj) [207]) := HBJ.out
            have hcj2 : wr.cell? ⟨g9, ls.length + k, none⟩ = some (.slice aoj 1 capj) := hcj
            clear hcj HBJ hbj HA HM
            have hNL : ls.length ≤ 4194304 := by have := HS.out; omega
            go_wp2_with fail
            refine (same_ok _ _ [207] _ (HBJ2.out _) (Bs.one _ 207 (by decide) _ rfl)).mono ?_
            rintro e w11 ⟨rfl, b11⟩
            have hb11 := andThen (up hbel _) b11
            clear b11 hbel hcj2 HBJ2
            go_wp2
            go_roundw
            case rel => exact ⟨k + 1, by omega, by go_num, rfl, hb11⟩
            case measure => simp [intOf]; omega
          · obtain rfl : k = 20 := by omega
            obtain ⟨h2, h3, _, _, _, _⟩ := HA.out wr hbel
            clear HM
            generalize lay ls = L at *
            go_wp2_with fail
            refine (same_ok _ _ R _ h2 h3).mono ?_
            rintro e w11 ⟨rfl, b11⟩
            have hb11 := andThen hbel b11
            clear h2 h3 b11 hbel
            obtain ⟨_, _, h4, h6, _, _⟩ := HA.out w11 hb11
            go_wp2_with fail
            refine (same_ok _ _ L _ h4 h6).mono ?_
            rintro e w12 ⟨rfl, b12⟩
            have hb12 := andThen hb11 b12
            clear h4 h6 b12 hb11
            obtain ⟨_, _, _, _, h7, h9⟩ := HA.out w12 hb12
            go_wp2_with fail
            refine (sameAll_ok _ _ ls _ h7 h9).mono ?_
            rintro e w13 ⟨rfl, b13⟩
            have hb13 := andThen hb12 b13
            clear h7 h9 b13 hb12 HA
            have s9 := BW.out.size
            have HB13 : Hid (Below w.heap.size w w13) := BW.out.trans (hb13.mono s9)
            go_wp2
            go_ret
            exact ⟨rfl, HB13.out⟩
end Go.Proofs.YtdoclmkldfemhaaDoor
