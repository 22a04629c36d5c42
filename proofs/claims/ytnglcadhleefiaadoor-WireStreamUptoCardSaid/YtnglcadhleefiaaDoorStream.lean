/-
  WireStream's walk.
-/
import Derived.Test.YtnglcadhleefiaaDoorLight
import Derived.OpenShut
namespace Go.Proofs.YtnglcadhleefiaaDoor
open Go Go.RowKit
open Wb

theorem rfAt_shift (a t : List Nat) (p q n : Nat) : (rfAt (a ++ t) (a.length + p) (a.length + q) n).2.2 = (rfAt t p q n).2.2 := by
  unfold rfAt
  have e1 : (a ++ t).length < a.length + q + n + 5 ↔ t.length < q + n + 5 := by rw [List.length_append]; omega
  have e2 : (a ++ t).getD (a.length + q + n + 4) 0 = t.getD (q + n + 4) 0 := by
    rw [List.getD_eq_getElem?_getD, List.getD_eq_getElem?_getD, show a.length + q + n + 4 = a.length + (q + n + 4) by omega, List.getElem?_append_right (by omega), Nat.add_sub_cancel_left]
  have e3 : (a ++ t).drop (a.length + q + n) = t.drop (q + n) := by
    rw [show a.length + q + n = a.length + (q + n) by omega, List.drop_append]
    simp
  have e4 : ((a ++ t).take (a.length + q + n)).drop (a.length + p) = (t.take (q + n)).drop p := by
    rw [show a.length + q + n = a.length + (q + n) by omega, List.take_append, List.take_of_length_le (by omega), Nat.add_sub_cancel_left, List.drop_append]
    simp
  rw [e2, e3, e4]
  by_cases h1 : n = 0
  · rw [if_pos h1, if_pos h1]
  rw [if_neg h1, if_neg h1]
  by_cases h2 : 1048576 < n
  · rw [if_pos h2, if_pos h2]
  rw [if_neg h2, if_neg h2]
  by_cases h3 : t.length < q + n + 5
  · rw [if_pos h3, if_pos (e1.2 h3)]
  rw [if_neg h3, if_neg (fun h => h3 (e1.1 h))]
  by_cases h4 : t.getD (q + n + 4) 0 ≠ 165
  · rw [if_pos h4, if_pos h4]
  rw [if_neg h4, if_neg h4]
  by_cases h5 : sum4 (t.drop (q + n)) ≠ Wm.crc ((t.take (q + n)).drop p)
  · rw [if_pos h5, if_pos h5]
  rw [if_neg h5, if_neg h5]
theorem rf_shift (a t : List Nat) (h : (rf t 0).2.2 ≠ 0) : (rf (a ++ t) (a.length : Int)).2.2 ≠ 0 := by
  have hd : (a ++ t).drop a.length = t := List.drop_left
  obtain ⟨v, n, e, hr⟩ : ∃ v n e, Wn.rd t 0 0 = (v, n, e) := ⟨_, _, _, rfl⟩
  have h1 := Wn.ru_in (a ++ t) a.length (by simp) v n e (by rw [hd]; exact hr)
  have h2 := Wn.ru_in t 0 (Nat.zero_le _) v n e (by rw [List.drop_zero]; exact hr)
  by_cases he : e = 0
  · subst he
    rw [rf_at _ _ v n (by simpa using h1)]
    rw [show (0 : Int) = ((0 : Nat) : Int) from rfl, rf_at _ _ v n (by simpa using h2)] at h
    rw [show a.length = a.length + 0 from rfl, Nat.add_assoc, rfAt_shift]
    exact h
  · obtain ⟨rfl, rfl, _⟩ := Wn.rd_err _ _ _ _ _ _ hr he
    rw [if_neg he] at h1
    rw [rf_err _ _ e he h1]
    exact he

def frs (G : List (List Nat)) : List Nat := (G.map fr).flatten
/-- frames one behind the other are read -/
theorem rfs_frs : ∀ (G : List (List Nat)) (a t : List Nat) (f : Nat), (∀ x ∈ G, ok x ∧ 0 < x.length ∧ x.length ≤ 1048576) → G.length < f → (rf t 0).2.2 ≠ 0 →
    rfs f (a ++ frs G ++ t) (a.length : Int) = (G, ((a.length + (frs G).length : Nat) : Int))
  | [], a, t, f + 1, _, _, ht => by
    have h := rf_shift a t ht
    simp only [frs, List.map_nil, List.flatten_nil, List.append_nil, List.length_nil, Nat.add_zero]
    rw [rfs, if_neg h]
  | x :: G, a, t, f + 1, hG, hf, ht => by
    obtain ⟨h1, h2, h3⟩ := hG x (by simp)
    have e1 : a ++ frs (x :: G) ++ t = a ++ fr x ++ (frs G ++ t) := by simp [frs]
    have e2 : a ++ frs (x :: G) ++ t = (a ++ fr x) ++ frs G ++ t := by simp [frs]
    have hr := rf_fr a x (frs G ++ t) h1 h2 h3
    rw [← e1] at hr
    have ih := rfs_frs G (a ++ fr x) t f (fun y hy => hG y (by simp [hy])) (by simpa using hf) ht
    rw [← e2, List.length_append] at ih
    rw [rfs, hr, if_pos rfl]
    show (x :: (rfs f (a ++ frs (x :: G) ++ t) ((a.length + (fr x).length : Nat) : Int)).1, (rfs f (a ++ frs (x :: G) ++ t) ((a.length + (fr x).length : Nat) : Int)).2) = _
    rw [ih]
    simp [frs]
    omega

def good (L : List (List Nat)) : List (List Nat) := L.filter fun x => decide (0 < x.length)
theorem good_snoc_no (L : List (List Nat)) (j : Nat) (h : j < L.length) (h0 : L[j].length = 0) : good (L.take (j + 1)) = good (L.take j) := by
  unfold good
  rw [List.take_succ_eq_append_getElem h, List.filter_append]
  simp [h0]
theorem good_snoc_yes (L : List (List Nat)) (j : Nat) (h : j < L.length) (h0 : 0 < L[j].length) : good (L.take (j + 1)) = good (L.take j) ++ [L[j]] := by
  unfold good
  rw [List.take_succ_eq_append_getElem h, List.filter_append]
  simp [h0]
theorem frs_snoc (G : List (List Nat)) (x : List Nat) : frs (G ++ [x]) = frs G ++ fr x := by simp [frs]
theorem frs_len (L : List (List Nat)) : ∀ j, j ≤ L.length → (∀ x ∈ L, x.length ≤ 1048576) → (frs (good (L.take j))).length ≤ (L.take j).flatten.length + 8 * j ∧ (good (L.take j)).length ≤ j := by
  intro j
  induction j with
  | zero => intro _ _; simp [frs, good]
  | succ j ih =>
    intro hj hx
    obtain ⟨h1, h2⟩ := ih (by omega) hx
    have hlt : j < L.length := by omega
    have hx1 := hx L[j] (List.getElem_mem hlt)
    have hfl : (L.take (j + 1)).flatten.length = (L.take j).flatten.length + L[j].length := by
      rw [List.take_succ_eq_append_getElem hlt, List.flatten_append]; simp
    by_cases h0 : L[j].length = 0
    · rw [good_snoc_no L j hlt h0]
      omega
    · rw [good_snoc_yes L j hlt (by omega), frs_snoc, List.length_append, fr_length, hfl, List.length_append]
      have := Wn.uint_len3 L[j].length hx1
      refine ⟨by omega, ?_⟩
      rw [List.length_singleton]
      omega

theorem frs_ge : ∀ G : List (List Nat), G.length ≤ (frs G).length
  | [] => Nat.zero_le _
  | x :: G => by
    have := frs_ge G
    have e : frs (x :: G) = fr x ++ frs G := by simp [frs]
    rw [e, List.length_append, fr_length, List.length_cons]
    omega
theorem fin_read (G : List (List Nat)) (a t M T : List Nat) (hG : ∀ x ∈ G, ok x ∧ 0 < x.length ∧ x.length ≤ 1048576) (ht : (rf t 0).2.2 ≠ 0) (hM : M = a ++ frs G) (hT : T = M ++ t) : rfs (T.length + 1) T (a.length : Int) = (G, (M.length : Int)) := by
  have h := rfs_frs G a t (T.length + 1) hG (by rw [hT, hM]; have := frs_ge G; simp; omega) ht
  rw [← hM, ← hT] at h
  rw [h, hM]
  simp
theorem rf_none : (rf [] 0).2.2 ≠ 0 := by decide

/-- the bodies as they are gathered: their values came in -/
def Gath (w wr : World) (v : Value) (G : List (List Nat)) : Prop := ∃ vs : List Value, Row w.heap.size wr v vs ∧ vs.length = G.length ∧ ∀ j (h : j < vs.length) (h2 : j < G.length), Bs w vs[j] G[j]
theorem Gath.kept {w wr w' : World} {v : Value} {G : List (List Nat)} (h : Gath w wr v G) (hb : Below wr.heap.size wr w') : Gath w w' v G := by
  obtain ⟨vs, h1, h2, h3⟩ := h
  exact ⟨vs, h1.kept hb, h2, h3⟩
theorem Gath.ps {w wr : World} {v : Value} {G : List (List Nat)} (h : Gath w wr v G) (hb : Below w.heap.size w wr) : Ps wr v G := by
  obtain ⟨vs, h1, h2, h3⟩ := h
  rcases h1.shape with ⟨rfl, rfl⟩ | ⟨g, cap, rfl, hl, hm, hc⟩
  · have : G = [] := List.eq_nil_of_length_eq_zero (by simpa using h2.symm)
    subst this
    exact ⟨none, 0, rfl, by simp [maxLen], fun e => absurd rfl e⟩
  · refine ⟨some ⟨g, 0, none⟩, cap, by rw [h2], by omega, fun _ => ⟨g, 0, rfl, fun j hj => ⟨vs[j]'(by omega), ?_, (h3 j (by omega) hj).kept hb⟩⟩⟩
    rw [Nat.zero_add]
    exact hc j (by omega)

/-- a row of values stays, while a byte string is lengthened -/
theorem row_grown {B : Nat} {w w' : World} {v x : Value} {vs : List Value} {l : List Nat} (hr : Row B w v vs) (hx : Own B w x l) (hg : w.grownBy w' x.ownBlock) : Row B w' v vs := by
  refine ⟨hr.1, ?_⟩
  rcases hr.2 with h1 | ⟨g, cap, cur, rfl, h1, hgg, rest⟩
  · exact .inl h1
  · refine .inr ⟨g, cap, cur, rfl, h1, ?_, rest⟩
    rw [hg.block g (Array.getElem?_eq_some_iff.1 hgg).1 ?_]
    · exact hgg
    · intro e
      rcases hx.row.2 with ⟨h2, _⟩ | ⟨g', cap', cur', h2, _, hg', _⟩
      · rw [h2] at e; simp [Value.ownBlock] at e
      · rw [h2] at e
        simp [Value.ownBlock] at e
        subst e
        rw [hgg] at hg'
        simp at hg'
theorem Gath.grown {w wr w' : World} {v x : Value} {G : List (List Nat)} {l : List Nat} (h : Gath w wr v G) (hx : Own w.heap.size wr x l) (hg : wr.grownBy w' x.ownBlock) : Gath w w' v G := by
  obtain ⟨vs, h1, h2, h3⟩ := h
  exact ⟨vs, row_grown h1 hx hg, h2, h3⟩

theorem lit7 : rfs 8 [1, 97, 112, 114, 119, 98, 165] 0 = ([[97]], 7) := by decide +kernel

set_option maxRecDepth 100000 in
set_option maxHeartbeats 6000000 in
theorem stream_any (va : Value) (a : List Nat) (vb : Value) (ls : List (List Nat)) (vl : Value) (last : List Nat) (k z : Int) (w : World) (hT : Tab w) (ha : Bs w va a) (hb : Ps w vb ls) (hl : Bs w vl last) (_hk : (Lit.int .i64 k).wf = true) (_hz : (Lit.int .i64 z).wf = true)
    (la : a.length ≤ 1048576) (lb : ls.flatten.length ≤ 1048576) (ll : last.length ≤ 1048576) (hcap : ∀ ao n cap, vb = .slice ao n cap → n ≤ cap) :
    Calls Tryd.prog 6 #[va, vb, vl, .int .i64 k, .int .i64 z] w fun e w' => e = .returned (.bool true) ∧ Below w.heap.size w w' := by
  have hin := info5
  have hin2 := info22
  have HLIT : Hid (∀ W : World, Own 0 (W.alloc (.cells #[.int .u8 1, .int .u8 97, .int .u8 112, .int .u8 114, .int .u8 119, .int .u8 98, .int .u8 165] 5)) (.slice (some ⟨W.heap.size, 0, none⟩) 7 7) [1, 97, 112, 114, 119, 98, 165]) := fun W => Own.lit W [1, 97, 112, 114, 119, 98, 165] (by intro x hx; simp at hx; omega) (Nat.zero_le _) (by simp [maxLen]) _ rfl
  have hxl : ∀ x ∈ ls.take 5000, x.length ≤ 1048576 := by
    intro x hx
    have h1 := List.mem_of_mem_take hx
    have h2 : x.length ≤ ls.flatten.length := by
      obtain ⟨p, q, e⟩ := List.append_of_mem h1
      rw [e]
      simp
      omega
    omega
  have hfl5 := flat_le ls 5000
  have hL5 : (ls.take 5000).length ≤ 5000 := List.length_take_le _ _
  obtain ⟨aoa, capa, rfl, _⟩ := ha.shape
  obtain ⟨aol, capl, rfl, _⟩ := hl.shape
  go_enter Tryd.func6, Tryd.ntmps6
  go_wp2_with fail
  refine (light_any vb ls _ hb lb hcap).mono ?_
  rintro e w1 ⟨⟨vL, rfl, hL⟩, rfl⟩
  generalize ls.take 5000 = L at *
  clear hb hcap
  obtain ⟨aoL, capL, rfl, hmL, hcL⟩ := hL.shape
  go_wp2_with fail
  refine (part_n _ a a.length _ ha (by omega) (by omega)).mono ?_
  rw [List.take_of_length_le (Nat.le_refl _)]
  rintro e w2 ⟨v2, rfl, ho2, b2⟩
  have HX : Hid (∀ x ∈ L, x.length ≤ 1048576) := hxl
  clear hxl hL
  go_wp2
  go_loopw [11, 12, 13] (fun o g i wr => ∃ j : Nat, j ≤ L.length ∧ i = .int .i64 (j : Int) ∧ Own w.heap.size wr o (a ++ frs (good (L.take j))) ∧ Gath w wr g (good (L.take j)) ∧ Below w.heap.size w wr) (fun _ _ i _ => L.length - (intOf i).toNat)
  case atStart => exact ⟨0, Nat.zero_le _, rfl, by simpa [good, frs] using ho2, ⟨[], Row.nil _ _, rfl, fun j h => absurd h (Nat.not_lt_zero _)⟩, b2⟩
  case round =>
    obtain ⟨j, hj, rfl, hown, hgath, hbel⟩ := hrel
    clear ho2 b2
    obtain ⟨hfl1, hfl2⟩ := frs_len L j hj HX.out
    have hflj := flat_le L j
    have hsz := hbel.size
    by_cases hlt : j < L.length
    · obtain ⟨b, off, rfl, hcell⟩ := hcL (List.ne_nil_of_length_pos (by omega))
      obtain ⟨vj, hcj, hbj⟩ := hcell j hlt
      have hxj := HX.out L[j] (List.getElem_mem hlt)
      have hcj' := (hbel.cell (p := ⟨b, off + j, none⟩) (World.block_lt_of_cell? _ _ hcj)).trans hcj
      have HCJ : Hid (∀ w', Below w.heap.size w w' → w'.cell? ⟨b, off + j, none⟩ = some vj) := fun w' hb => (hb.cell (p := ⟨b, off + j, none⟩) (World.block_lt_of_cell? _ _ hcj)).trans hcj
      have hbjr := hbj.kept hbel
      obtain ⟨aoj, capj, rfl, _⟩ := hbj.shape
      clear hcL hcell
      by_cases h0 : L[j].length = 0
      · have HG : Hid (good (L.take (j + 1)) = good (L.take j)) := good_snoc_no L j hlt h0
        have d0 : ((L[j].length : Int) == 0) = true := beq_iff_eq.2 (by omega)
        have HF0 : Hid ([L[j]].flatten.length = 0) := by
          have e : [L[j]].flatten = L[j] := by simp
          show _ = _
          rw [e]
          exact h0
        have hTr := hT.kept hbel
        clear h0 hcj
        generalize L[j] = x at *
        go_wp2_with fail
        refine (frame_bad _ [x] _ (ps1 _ _ rfl _ hbjr) 14 (.inr ⟨HF0.out, rfl⟩)).mono ?_
        rintro e w3 ⟨rfl, rfl⟩
        have hc3 := HCJ.out _ (up hbel (.cells #[.slice aoj x.length capj] 22))
        go_wp2_with fail
        refine (num_any _ _ (by omega) (by omega)).mono ?_
        rintro e w4 ⟨rfl, rfl⟩
        have R : Hid (Own w.heap.size (wr.alloc (.cells #[.slice aoj x.length capj] 22)) u11 (a ++ frs (good (L.take (j + 1)))) ∧ Gath w (wr.alloc (.cells #[.slice aoj x.length capj] 22)) u12 (good (L.take (j + 1))) ∧ Below w.heap.size w (wr.alloc (.cells #[.slice aoj x.length capj] 22))) :=
          ⟨by rw [HG.out]; exact hown.alloc _, by rw [HG.out]; exact hgath.kept (up0 _ _), up hbel _⟩
        clear hown hgath hbel HCJ
        go_wp2
        go_roundw
        case rel => exact ⟨j + 1, by omega, by go_num, R.out.1, R.out.2.1, R.out.2.2⟩
        case measure => simp [intOf]; omega
      · have HG : Hid (good (L.take (j + 1)) = good (L.take j) ++ [L[j]]) := good_snoc_yes L j hlt (by omega)
        have d0 : ((L[j].length : Int) == 0) = false := beq_eq_false_iff_ne.2 (by omega)
        have d2 : ¬ (1048576 : Int) < (L[j].length : Int) := by omega
        have hpos : 0 < L[j].length := by omega
        have hTr := hT.kept hbel
        have hFl := fr_length L[j]
        have hUl := Wn.uint_len3 L[j].length hxj
        clear h0 hcj
        generalize L[j] = x at *
        have hFl2 : (fr x).length ≤ 1048584 := by omega
        have hFl3 : 0 < (fr x).length := by omega
        clear hFl hUl
        go_wp2_with fail
        refine (frame1 _ x _ (hTr.kept (up0 _ _)) (ps1 _ _ rfl _ hbjr) hxj hpos).mono ?_
        rintro e w3 ⟨v3, rfl, ho3, b3'⟩
        have b3 := andThen (up hbel _) b3'
        have hc3 := HCJ.out _ b3
        have hown3 := (hown.kept (up0 _ _)).kept b3'
        have hgath3 := (hgath.kept (up0 _ _)).kept b3'
        have HFS : Hid (a ++ frs (good (L.take (j + 1))) = (a ++ frs (good (L.take j))) ++ fr x) := by
          show _ = _
          rw [HG.out, frs_snoc, List.append_assoc]
        have hal : (a ++ frs (good (L.take j))).length ≤ 4000000 := by rw [List.length_append]; omega
        generalize eF : fr x = F at *
        have dF : ((F.length : Int) == 0) = false := beq_eq_false_iff_ne.2 (by omega)
        obtain ⟨ao3, cap3, rfl, _⟩ := ho3.bs.shape
        have hF3 := ho3.bs
        have hsz3 := b3.size
        clear hown hgath b3' ho3 hbjr hTr eF
        go_wp2_with fail
        refine (num_any _ _ (by omega) (by omega)).mono ?_
        rintro e w4 ⟨rfl, rfl⟩
        generalize a ++ frs (good (L.take j)) = m at *
        go_wp2_with (at_builtin; refine wpList_append _ rfl (.tmp 70) (.tmp 71) 22 rfl w.heap.size hin Tryd.underlying22 _ m rfl hown3 _ F rfl hF3 (by omega) hsz3 ?_)
        intro v5 w5 ho5 b5 hg5
        have b5w := b3.trans b5
        have hc5 := HCJ.out _ b5w
        obtain ⟨vs, hrow, hvl, hel⟩ := hgath3
        have hrow5 : Row w.heap.size w5 u12 vs := by
          refine ⟨hrow.1, ?_⟩
          rcases hrow.2 with h1 | ⟨g, cap, cur, rfl, h1, hgg, rest⟩
          · exact .inl h1
          · refine .inr ⟨g, cap, cur, rfl, h1, ?_, rest⟩
            rw [hg5.block g (Array.getElem?_eq_some_iff.1 hgg).1 ?_]
            · exact hgg
            · intro e
              rcases hown3.row.2 with ⟨h2, _⟩ | ⟨g', cap', cur', h2, _, hg', _⟩
              · rw [h2] at e; simp [Value.ownBlock] at e
              · rw [h2] at e
                simp [Value.ownBlock] at e
                subst e
                rw [hgg] at hg'
                simp at hg'
        have hvs : vs.length ≤ 5000000000 := by omega
        have HO5 : Hid (∀ o, Own w.heap.size (w5.alloc o) v5 (m ++ F)) := fun o => ho5.alloc o
        have HR5 : Hid (∀ o, Row w.heap.size (w5.alloc o) u12 vs) := fun o => hrow5.kept (up0 _ _)
        have HC5 : Hid (∀ t, (w5.alloc (.cells #[.slice aoj x.length capj] t)).cell? ⟨w5.heap.size, 0, none⟩ = some (.slice aoj x.length capj)) := fun t => World.cell?_alloc_new w5 _ _ 0
        have HE : Hid (∀ i (h : i < vs.length) (h2 : i < (good (L.take j)).length), Bs w vs[i] (good (L.take j))[i]) := hel
        have hsz5 := b5w.size
        obtain ⟨ao5, cap5, rfl, _⟩ := ho5.bs.shape
        clear hrow hrow5 hel ho5 b5 hg5 hown3 hF3 b3 hc3 hbel hcj'
        generalize hmF : m ++ F = mF at *
        have HMF : Hid (a ++ frs (good (L.take (j + 1))) = mF) := by show _ = _; rw [HFS.out]
        clear hmF
        go_wp2_with (at_builtin; refine wpList_push _ rfl (.tmp 73) (.tmp 78) 40 rfl w.heap.size hin2 Tryd.underlying40 _ vs rfl (HR5.out _) w5.heap.size (.slice aoj x.length capj) rfl (HC5.out _) rfl hvs (by simp; omega) ?_)
        intro v6 w6 hr6 b6 hg6
        have R : Hid (Own w.heap.size w6 (.slice ao5 mF.length cap5) (a ++ frs (good (L.take (j + 1)))) ∧ Gath w w6 v6 (good (L.take (j + 1))) ∧ Below w.heap.size w w6) := by
          refine ⟨by rw [HMF.out]; exact Own.grown (HR5.out _) (HO5.out _) hg6, ?_, (up b5w _).trans b6⟩
          rw [HG.out]
          refine ⟨vs ++ [.slice aoj x.length capj], hr6, by simp [hvl], fun i p q => ?_⟩
          by_cases hi : i < vs.length
          · rw [List.getElem_append_left hi, List.getElem_append_left (by omega)]
            exact HE.out i hi (by omega)
          · have ej : i = vs.length := by simp at p; omega
            subst ej
            rw [List.getElem_append_right (Nat.le_refl _), List.getElem_append_right (by omega)]
            simp only [hvl, Nat.sub_self, List.getElem_cons_zero]
            exact hbj
        clear hr6 b6 hg6 HO5 HR5 HC5 HE b5w HCJ hc5
        go_wp2
        go_roundw
        case rel => exact ⟨j + 1, by omega, by go_num, R.out.1, R.out.2.1, R.out.2.2⟩
        case measure => simp [intOf]; omega
    · obtain rfl : j = L.length := by omega
      rw [List.take_of_length_le (Nat.le_refl _)] at hown hgath hfl1 hfl2 hflj
      have HGOOD : Hid (∀ x ∈ good L, ok x ∧ 0 < x.length ∧ x.length ≤ 1048576) := by
        intro x hx
        obtain ⟨vs, h1, h2, h3⟩ := hgath
        obtain ⟨i, hi, rfl⟩ := List.getElem_of_mem hx
        have hm := List.mem_filter.1 hx
        exact ⟨(h3 i (by omega) hi).good, by simpa using hm.2, HX.out _ hm.1⟩
      obtain ⟨T, hTe⟩ : ∃ T, T = a ++ frs (good L) := ⟨_, rfl⟩
      have HTe : Hid (T = a ++ frs (good L)) := hTe
      rw [← hTe] at hown
      have hTl : T.length ≤ 4000000 := by rw [hTe, List.length_append]; omega
      have hTa : a.length ≤ T.length := by rw [hTe, List.length_append]; omega
      obtain ⟨ao10, cap10, rfl, _⟩ := hown.bs.shape
      have hlr := hl.kept hbel
      clear hTe hfl1 hfl2 hflj HX
      by_cases hl0 : last.length = 0
      · have HF0 : Hid ([last].flatten.length = 0) := by
          have e : [last].flatten = last := by simp
          show _ = _
          rw [e]
          exact hl0
        clear hl0
        go_wp2_with fail
        refine (frame_bad _ [last] _ (ps1 _ _ rfl _ hlr) 14 (.inr ⟨HF0.out, rfl⟩)).mono ?_
        rintro e w10 ⟨rfl, rfl⟩
        have b10 : Below w.heap.size w (wr.alloc (.cells #[.slice aol last.length capl] 22)) := up hbel _
        have hown10 := hown.kept (up0 _ (.cells #[.slice aol last.length capl] 22))
        have hg10 := hgath.kept (up0 _ (.cells #[.slice aol last.length capl] 22))
        generalize wr.alloc (.cells #[.slice aol last.length capl] 22) = w10 at *
        clear hown hgath hbel hlr hsz
        by_cases k0 : 0 ≤ k
        · have e1 : decide (0 ≤ k) = true := decide_eq_true k0
          have e2 : decide (k < 0) = false := decide_eq_false (by omega)
          have HFIN : Hid (rfs (T.length + 1) T (a.length : Int) = (good L, (T.length : Int))) := fin_read (good L) a [] T T HGOOD.out rf_none HTe.out (by simp)
          -- the reading
          go_wp2_with fail
          refine (readFrames_any _ T _ (T.length + 1) _ (hT.kept b10) hown10.bs (by omega) (by omega) (by omega) (by omega) (by omega)).mono ?_
          rw [HFIN.out]
          rintro e w20 ⟨v20, rfl, ho20, b20'⟩
          have b20 := andThen b10 b20'
          have hg20 := hg10.kept b20'
          obtain ⟨ao20, cap20, rfl, _⟩ := ho20.ps.shape
          have hTl := hT.kept b20
          clear b20' hown10 HFIN
          go_wp2_with fail
          refine (readFrames_any _ [1, 97, 112, 114, 119, 98, 165] 0 8 _ (hTl.kept (up0 _ _)) (HLIT.out w20).bs (by simp) (by omega) (by simp) (by simp) (by simp)).mono ?_
          rw [lit7]
          rintro e w21 ⟨v21, rfl, ho21, b21'⟩
          have b21 := andThen (up b20 _) b21'
          have ho20' := (ho20.kept (up0 _ _)).kept b21'
          have hg21 := (hg20.kept (up0 _ _)).kept b21'
          obtain ⟨ao21, cap21, rfl, _⟩ := ho21.ps.shape
          clear b21' ho20 hg20 b20 ho21 hTl
          go_wp2_with fail
          refine (sameAll_yes _ _ (good L) _ ho20'.ps (hg21.ps b21)).mono ?_
          rintro e w22 ⟨rfl, b22'⟩
          have b22 := andThen b21 b22'
          clear b22' b21 ho20' hg21
          go_wp2
          go_ret
          exact ⟨by simp, b22⟩
        · have e1 : decide (0 ≤ k) = false := decide_eq_false k0
          have HFIN : Hid (rfs (T.length + 1) T (a.length : Int) = (good L, (T.length : Int))) := fin_read (good L) a [] T T HGOOD.out rf_none HTe.out (by simp)
          -- the reading
          go_wp2_with fail
          refine (readFrames_any _ T _ (T.length + 1) _ (hT.kept b10) hown10.bs (by omega) (by omega) (by omega) (by omega) (by omega)).mono ?_
          rw [HFIN.out]
          rintro e w20 ⟨v20, rfl, ho20, b20'⟩
          have b20 := andThen b10 b20'
          have hg20 := hg10.kept b20'
          obtain ⟨ao20, cap20, rfl, _⟩ := ho20.ps.shape
          have hTl := hT.kept b20
          clear b20' hown10 HFIN
          go_wp2_with fail
          refine (readFrames_any _ [1, 97, 112, 114, 119, 98, 165] 0 8 _ (hTl.kept (up0 _ _)) (HLIT.out w20).bs (by simp) (by omega) (by simp) (by simp) (by simp)).mono ?_
          rw [lit7]
          rintro e w21 ⟨v21, rfl, ho21, b21'⟩
          have b21 := andThen (up b20 _) b21'
          have ho20' := (ho20.kept (up0 _ _)).kept b21'
          have hg21 := (hg20.kept (up0 _ _)).kept b21'
          obtain ⟨ao21, cap21, rfl, _⟩ := ho21.ps.shape
          clear b21' ho20 hg20 b20 ho21 hTl
          go_wp2_with fail
          refine (sameAll_yes _ _ (good L) _ ho20'.ps (hg21.ps b21)).mono ?_
          rintro e w22 ⟨rfl, b22'⟩
          have b22 := andThen b21 b22'
          clear b22' b21 ho20' hg21
          go_wp2
          go_ret
          exact ⟨by simp, b22⟩
      · have hl1 : 0 < last.length := by omega
        have hFl := fr_length last
        have hUl := Wn.uint_len3 last.length ll
        have hFl2 : (fr last).length ≤ 1048584 := by omega
        have HTORN : Hid (∀ kk zz, kk < (fr last).length → (rf ((fr last).take kk ++ List.replicate zz 0) 0).2.2 ≠ 0) := fun kk zz h => rf_torn last kk zz hl1 ll h
        have hTr := hT.kept hbel
        clear hFl hUl hl0
        go_wp2_with fail
        refine (frame1 _ last _ (hTr.kept (up0 _ _)) (ps1 _ _ rfl _ hlr) ll hl1).mono ?_
        rintro e w10 ⟨v10, rfl, ho10, b10'⟩
        have b10 := andThen (up hbel _) b10'
        have hown10 := (hown.kept (up0 _ _)).kept b10'
        have hg10 := (hgath.kept (up0 _ _)).kept b10'
        generalize fr last = F at *
        obtain ⟨aoF, capF, rfl, _⟩ := ho10.bs.shape
        clear hown hgath hbel hlr hsz b10' hTr
        by_cases k0 : 0 ≤ k
        · have e1 : decide (0 ≤ k) = true := decide_eq_true k0
          by_cases k1 : k < (F.length : Int)
          · have e2 : decide (k < (F.length : Int)) = true := decide_eq_true k1
            obtain ⟨kk, rfl⟩ := Int.eq_ofNat_of_zero_le k0
            have hkk : kk < F.length := by omega
            go_wp2_with fail
            refine (part_n _ F kk _ ho10.bs (by omega) (by omega)).mono ?_
            rintro e w11 ⟨v11, rfl, ho11, b11'⟩
            have b11 := andThen b10 b11'
            have hown11 := hown10.kept b11'
            have hg11 := hg10.kept b11'
            have hsz11 := b11.size
            have lk : (F.take kk).length ≤ 1048584 := by simp; omega
            generalize eK : F.take kk = K0 at ho11 lk
            have EK : Hid (F.take kk = K0) := eK
            clear eK
            obtain ⟨ao11, cap11, rfl, _⟩ := ho11.bs.shape
            have hK := ho11.bs
            clear b11' hown10 hg10 ho10 ho11 b10
            go_wp2_with (at_builtin; refine wpList_append _ rfl (.tmp 96) (.tmp 99) 22 rfl w.heap.size hin Tryd.underlying22 _ T rfl hown11 _ K0 rfl hK (by omega) hsz11 ?_)
            intro v12 w12 ho12 b12' hg12'
            have b12 := b11.trans b12'
            have hg12 := hg11.grown hown11 hg12'
            have lTK : (T ++ K0).length ≤ 6000000 := by rw [List.length_append]; omega
            clear b12' hg12' hg11 hown11 hK b11 hsz11
            go_wp2
            go_loopw [11, 19] (fun o i wr => ∃ j : Nat, j ≤ 2097152 ∧ i = .int .i64 (j : Int) ∧ Own w.heap.size wr o ((T ++ K0) ++ List.replicate j 0) ∧ Gath w wr u12 (good L) ∧ Below w.heap.size w wr) (fun _ i _ => 2097152 - (intOf i).toNat)
            case atStart => exact ⟨0, Nat.zero_le _, rfl, by simpa using ho12, hg12, b12⟩
            case round =>
              obtain ⟨j, hj2, rfl, hownz, hgz, hbz⟩ := hrel
              clear ho12 hg12 b12
              have hszz := hbz.size
              have lz : ((T ++ K0) ++ List.replicate j 0).length ≤ 9000000 := by rw [List.length_append, List.length_replicate]; omega
              by_cases hc : (j : Int) < z ∧ j < 2097152
              · obtain ⟨hc1, hc2⟩ := hc
                have e3 : decide ((j : Int) < z) = true := decide_eq_true hc1
                have e4 : decide ((j : Int) < 2097152) = true := decide_eq_true (by omega)
                have HS : Hid ((T ++ K0) ++ List.replicate (j + 1) 0 = ((T ++ K0) ++ List.replicate j 0) ++ [0]) := by
                  show _ = _
                  rw [List.replicate_succ', ← List.append_assoc]
                have HO : Hid (∀ o, Own w.heap.size (wr.alloc o) u11 ((T ++ K0) ++ List.replicate j 0)) := fun o => hownz.alloc o
                generalize (T ++ K0) ++ List.replicate j 0 = m at *
                go_wp2_with (at_builtin; refine wpList_append _ rfl (.tmp 110) (.tmp 111) 22 rfl w.heap.size hin Tryd.underlying22 _ m rfl (HO.out _) _ [0] rfl (Bs.one _ 0 (by decide) _ rfl) (by simp; omega) (by simp; omega) ?_)
                intro v13 w13 ho13 b13 hg13
                have R : Hid (Own w.heap.size w13 v13 ((T ++ K0) ++ List.replicate (j + 1) 0) ∧ Gath w w13 u12 (good L) ∧ Below w.heap.size w w13) := ⟨by rw [HS.out]; exact ho13, (hgz.kept (up0 _ _)).grown (HO.out _) hg13, (up hbz _).trans b13⟩
                clear ho13 b13 hg13 hownz hgz hbz HO HS
                go_wp2
                go_roundw
                case rel => exact ⟨j + 1, by omega, by go_num, R.out.1, R.out.2.1, R.out.2.2⟩
                case measure => simp [intOf]; omega
              · by_cases hc1 : (j : Int) < z
                · have e3 : decide ((j : Int) < z) = true := decide_eq_true hc1
                  have e4 : decide ((j : Int) < 2097152) = false := decide_eq_false (by omega)
                  clear hc
                  have HT2 : Hid ((rf (K0 ++ List.replicate j 0) 0).2.2 ≠ 0) := by
                    rw [← EK.out]
                    exact HTORN.out kk j hkk
                  obtain ⟨T2, eT2⟩ : ∃ T2, T2 = (T ++ K0) ++ List.replicate j 0 := ⟨_, rfl⟩
                  have HFIN : Hid (rfs (T2.length + 1) T2 (a.length : Int) = (good L, (T.length : Int))) := fin_read (good L) a (K0 ++ List.replicate j 0) T T2 HGOOD.out HT2.out HTe.out (by rw [eT2, List.append_assoc])
                  rw [← eT2] at hownz lz
                  have hT2a : a.length ≤ T2.length := by rw [eT2, List.length_append, List.length_append]; omega
                  obtain ⟨aoz, capz, rfl, _⟩ := hownz.bs.shape
                  clear eT2 HT2
                  -- the reading
                  go_wp2_with fail
                  refine (readFrames_any _ T2 _ (T2.length + 1) _ (hT.kept hbz) hownz.bs (by omega) (by omega) (by omega) (by omega) (by omega)).mono ?_
                  rw [HFIN.out]
                  rintro e w20 ⟨v20, rfl, ho20, b20'⟩
                  have b20 := andThen hbz b20'
                  have hg20 := hgz.kept b20'
                  obtain ⟨ao20, cap20, rfl, _⟩ := ho20.ps.shape
                  have hTl := hT.kept b20
                  clear b20' hownz HFIN
                  go_wp2_with fail
                  refine (readFrames_any _ [1, 97, 112, 114, 119, 98, 165] 0 8 _ (hTl.kept (up0 _ _)) (HLIT.out w20).bs (by simp) (by omega) (by simp) (by simp) (by simp)).mono ?_
                  rw [lit7]
                  rintro e w21 ⟨v21, rfl, ho21, b21'⟩
                  have b21 := andThen (up b20 _) b21'
                  have ho20' := (ho20.kept (up0 _ _)).kept b21'
                  have hg21 := (hg20.kept (up0 _ _)).kept b21'
                  obtain ⟨ao21, cap21, rfl, _⟩ := ho21.ps.shape
                  clear b21' ho20 hg20 b20 ho21 hTl
                  go_wp2_with fail
                  refine (sameAll_yes _ _ (good L) _ ho20'.ps (hg21.ps b21)).mono ?_
                  rintro e w22 ⟨rfl, b22'⟩
                  have b22 := andThen b21 b22'
                  clear b22' b21 ho20' hg21
                  go_wp2
                  go_ret
                  exact ⟨by simp, b22⟩
                · have e3 : decide ((j : Int) < z) = false := decide_eq_false hc1
                  clear hc
                  have HT2 : Hid ((rf (K0 ++ List.replicate j 0) 0).2.2 ≠ 0) := by
                    rw [← EK.out]
                    exact HTORN.out kk j hkk
                  obtain ⟨T2, eT2⟩ : ∃ T2, T2 = (T ++ K0) ++ List.replicate j 0 := ⟨_, rfl⟩
                  have HFIN : Hid (rfs (T2.length + 1) T2 (a.length : Int) = (good L, (T.length : Int))) := fin_read (good L) a (K0 ++ List.replicate j 0) T T2 HGOOD.out HT2.out HTe.out (by rw [eT2, List.append_assoc])
                  rw [← eT2] at hownz lz
                  have hT2a : a.length ≤ T2.length := by rw [eT2, List.length_append, List.length_append]; omega
                  obtain ⟨aoz, capz, rfl, _⟩ := hownz.bs.shape
                  clear eT2 HT2
                  -- the reading
                  go_wp2_with fail
                  refine (readFrames_any _ T2 _ (T2.length + 1) _ (hT.kept hbz) hownz.bs (by omega) (by omega) (by omega) (by omega) (by omega)).mono ?_
                  rw [HFIN.out]
                  rintro e w20 ⟨v20, rfl, ho20, b20'⟩
                  have b20 := andThen hbz b20'
                  have hg20 := hgz.kept b20'
                  obtain ⟨ao20, cap20, rfl, _⟩ := ho20.ps.shape
                  have hTl := hT.kept b20
                  clear b20' hownz HFIN
                  go_wp2_with fail
                  refine (readFrames_any _ [1, 97, 112, 114, 119, 98, 165] 0 8 _ (hTl.kept (up0 _ _)) (HLIT.out w20).bs (by simp) (by omega) (by simp) (by simp) (by simp)).mono ?_
                  rw [lit7]
                  rintro e w21 ⟨v21, rfl, ho21, b21'⟩
                  have b21 := andThen (up b20 _) b21'
                  have ho20' := (ho20.kept (up0 _ _)).kept b21'
                  have hg21 := (hg20.kept (up0 _ _)).kept b21'
                  obtain ⟨ao21, cap21, rfl, _⟩ := ho21.ps.shape
                  clear b21' ho20 hg20 b20 ho21 hTl
                  go_wp2_with fail
                  refine (sameAll_yes _ _ (good L) _ ho20'.ps (hg21.ps b21)).mono ?_
                  rintro e w22 ⟨rfl, b22'⟩
                  have b22 := andThen b21 b22'
                  clear b22' b21 ho20' hg21
                  go_wp2
                  go_ret
                  exact ⟨by simp, b22⟩
          · have e2 : decide (k < (F.length : Int)) = false := decide_eq_false k1
            have HFIN : Hid (rfs (T.length + 1) T (a.length : Int) = (good L, (T.length : Int))) := fin_read (good L) a [] T T HGOOD.out rf_none HTe.out (by simp)
            -- the reading
            go_wp2_with fail
            refine (readFrames_any _ T _ (T.length + 1) _ (hT.kept b10) hown10.bs (by omega) (by omega) (by omega) (by omega) (by omega)).mono ?_
            rw [HFIN.out]
            rintro e w20 ⟨v20, rfl, ho20, b20'⟩
            have b20 := andThen b10 b20'
            have hg20 := hg10.kept b20'
            obtain ⟨ao20, cap20, rfl, _⟩ := ho20.ps.shape
            have hTl := hT.kept b20
            clear b20' hown10 HFIN
            go_wp2_with fail
            refine (readFrames_any _ [1, 97, 112, 114, 119, 98, 165] 0 8 _ (hTl.kept (up0 _ _)) (HLIT.out w20).bs (by simp) (by omega) (by simp) (by simp) (by simp)).mono ?_
            rw [lit7]
            rintro e w21 ⟨v21, rfl, ho21, b21'⟩
            have b21 := andThen (up b20 _) b21'
            have ho20' := (ho20.kept (up0 _ _)).kept b21'
            have hg21 := (hg20.kept (up0 _ _)).kept b21'
            obtain ⟨ao21, cap21, rfl, _⟩ := ho21.ps.shape
            clear b21' ho20 hg20 b20 ho21 hTl
            go_wp2_with fail
            refine (sameAll_yes _ _ (good L) _ ho20'.ps (hg21.ps b21)).mono ?_
            rintro e w22 ⟨rfl, b22'⟩
            have b22 := andThen b21 b22'
            clear b22' b21 ho20' hg21
            go_wp2
            go_ret
            exact ⟨by simp, b22⟩
        · have e1 : decide (0 ≤ k) = false := decide_eq_false k0
          have HFIN : Hid (rfs (T.length + 1) T (a.length : Int) = (good L, (T.length : Int))) := fin_read (good L) a [] T T HGOOD.out rf_none HTe.out (by simp)
          -- the reading
          go_wp2_with fail
          refine (readFrames_any _ T _ (T.length + 1) _ (hT.kept b10) hown10.bs (by omega) (by omega) (by omega) (by omega) (by omega)).mono ?_
          rw [HFIN.out]
          rintro e w20 ⟨v20, rfl, ho20, b20'⟩
          have b20 := andThen b10 b20'
          have hg20 := hg10.kept b20'
          obtain ⟨ao20, cap20, rfl, _⟩ := ho20.ps.shape
          have hTl := hT.kept b20
          clear b20' hown10 HFIN
          go_wp2_with fail
          refine (readFrames_any _ [1, 97, 112, 114, 119, 98, 165] 0 8 _ (hTl.kept (up0 _ _)) (HLIT.out w20).bs (by simp) (by omega) (by simp) (by simp) (by simp)).mono ?_
          rw [lit7]
          rintro e w21 ⟨v21, rfl, ho21, b21'⟩
          have b21 := andThen (up b20 _) b21'
          have ho20' := (ho20.kept (up0 _ _)).kept b21'
          have hg21 := (hg20.kept (up0 _ _)).kept b21'
          obtain ⟨ao21, cap21, rfl, _⟩ := ho21.ps.shape
          clear b21' ho20 hg20 b20 ho21 hTl
          go_wp2_with fail
          refine (sameAll_yes _ _ (good L) _ ho20'.ps (hg21.ps b21)).mono ?_
          rintro e w22 ⟨rfl, b22'⟩
          have b22 := andThen b21 b22'
          clear b22' b21 ho20' hg21
          go_wp2
          go_ret
          exact ⟨by simp, b22⟩
end Go.Proofs.YtnglcadhleefiaaDoor
