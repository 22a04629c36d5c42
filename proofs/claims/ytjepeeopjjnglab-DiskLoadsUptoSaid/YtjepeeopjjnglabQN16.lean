import Derived.Test.YtjepeeopjjnglabQN15
/-
  The document's disk: set, into, path, taken.
-/
namespace Go.Proofs.Ytjepeeopjjnglab
open Go Go.RowKit Go.ChangeShapes
open Wb
open Rd
namespace Rd
theorem set3 (y : Value × Th) (r : List Value) (a b c : Value) : (((enT y ++ r).set 0 a).set 1 b).set 2 c = [a, b, c] ++ r := by
  simp [enT]
theorem flat_set3 (x : Value × Th) : ∀ (xs : List (Value × Th)) (f : Nat), f < xs.length → (((xs.flatMap enT).set (f * 3) x.1).set (f * 3 + 1) (.int .i64 (x.2.syn : Int))).set (f * 3 + 2) (.bool x.2.there) = (xs.set f x).flatMap enT
  | [], f, h => by simp at h
  | y :: r, 0, _ => by
    rw [List.flatMap_cons, Nat.zero_mul, Nat.zero_add, set3]
    rfl
  | y :: r, f + 1, h => by
    have h9 := flat_set3 x r f (by simpa using h)
    rw [List.flatMap_cons, List.set_cons_succ, List.flatMap_cons, ← h9]
    have hl : (enT y).length = 3 := rfl
    rw [List.set_append_right _ _ (by omega), List.set_append_right _ _ (by omega), List.set_append_right _ _ (by omega), hl, show (f + 1) * 3 - 3 = f * 3 by omega, show (f + 1) * 3 + 1 - 3 = f * 3 + 1 by omega, show (f + 1) * 3 + 2 - 3 = f * 3 + 2 by omega]
theorem enT_one {x : Value × Th} (h : ∃ a n c, x.1 = .slice a n c) : ∀ u ∈ enT x, u.oneCell' = true := fun u hu => by
  obtain ⟨a, n, c, e⟩ := h
  simp [enT] at hu
  rcases hu with rfl | rfl | rfl
  · rw [e]
    rfl
  · rfl
  · rfl
end Rd
set_option maxRecDepth 100000 in
set_option maxHeartbeats 8000000 in
theorem rkset_any (ok : Nat → Prop) (tv : Value) (xs : List (Value × Th)) (f : Nat) (x : Value × Th) (w : World) (h : Rw ok w 98 3 enT tv xs) (hs : ∀ y ∈ xs, ∃ a n c, y.1 = .slice a n c) (hx : ∃ a n c, x.1 = .slice a n c) (hf : f < xs.length) (hl : xs.length ≤ 300000000) :
    Calls Try.prog 90 #[tv, .int .i64 (f : Int), .agg #[x.1, .int .i64 (x.2.syn : Int), .bool x.2.there]] w fun e w' => ∃ v', e = .returned v' ∧ Rw (w.heap.size ≤ ·) w' 98 3 enT v' (xs.set f x) ∧ Below w.heap.size w w' := by
  have HV : Hid (∀ W, Below w.heap.size w W → Rw ok W 98 3 enT tv xs) := fun W hW => h.kept hW
  have HS : Hid (∀ y ∈ xs, ∃ a n c, y.1 = .slice a n c) := hs
  obtain ⟨a1, c1, rfl⟩ := rw_slice h
  obtain ⟨xv, ⟨xd, xsn, xt⟩⟩ := x
  obtain ⟨xa, xn, xc, e⟩ := hx
  simp only at e
  subst e
  clear h hs
  have b1 := up0 w (.cells #[.slice xa xn xc, .int .i64 (xsn : Int), .bool xt] 98)
  have l1 := lb_new w [.slice xa xn xc, .int .i64 (xsn : Int), .bool xt] 98
  obtain ⟨W1, hW1⟩ : ∃ W, W = w.alloc (.cells #[.slice xa xn xc, .int .i64 (xsn : Int), .bool xt] 98) := ⟨_, rfl⟩
  have l2 : LB W1 w.heap.size 98 [.slice xa xn xc, .int .i64 (xsn : Int), .bool xt] := by rw [hW1]; exact l1
  have b2 : Below w.heap.size w W1 := by rw [hW1]; exact b1
  obtain ⟨v4, W4, hr4, g4, -, b4⟩ := row_appR (xs := ([] : List (Value × Th))) tiT enT_len (World.ownsRow_nil W1 W1.heap.size 98 3) (HV.out W1 b2).row (fun y hy => enT_one (HS.out y hy)) (by simp; omega) (Nat.le_refl _) 48
  have H4 : Hid (W4.ownsRow W1.heap.size 98 3 v4 xs.length (xs.flatMap enT) ∧ Below W1.heap.size W1 W4 ∧ Below w.heap.size w W4 ∧ w.heap.size ≤ W1.heap.size) := ⟨g4, b4, andThen b2 b4, b2.size⟩
  have q0 := (l2.kept b4).cell 0 _ rfl
  have q1 := (l2.kept b4).cell 1 _ rfl
  have q2 := (l2.kept b4).cell 2 _ rfl
  rw [hW1] at hr4
  obtain ⟨ga, gc, e4, g1, g2, g3⟩ := row_at H4.out.1
  obtain ⟨b, hb⟩ := g3 (List.ne_nil_of_length_pos (by omega))
  subst e4 hb
  unfold maxLen at g2
  have y0 := row_cell enT_len H4.out.1 f hf 0 (by decide)
  have y1 := row_cell enT_len H4.out.1 f hf 1 (by decide)
  have y2 := row_cell enT_len H4.out.1 f hf 2 (by decide)
  have z0 := World.ownsRow.frozenAt H4.out.1 (f * 3)
  have z1 := World.ownsRow.frozenAt H4.out.1 (f * 3 + 1)
  have z2 := World.ownsRow.frozenAt H4.out.1 (f * 3 + 2)
  simp only [enT, List.getElem?_cons_zero, List.getElem?_cons_succ, Nat.add_zero] at y0 y1 y2
  generalize xs[f].1 = w0 at y0
  generalize xs[f].2.syn = w1 at y1
  generalize xs[f].2.there = w2 at y2
  clear b1 l1 l2 b2 b4 g4 hW1 g3
  go_enter Try.func90, Try.ntmps90
  go_wp2_with (at_builtin; refine wpList_appRun rfl (.tmp 8) (.tmp 9) 48 rfl rfl rfl hr4 ?_)
  go_returns
  obtain ⟨s1, t1⟩ := World.ownsRow.stored H4.out.1 (f * 3) (.slice xa xn xc)
  obtain ⟨s2, t2⟩ := World.ownsRow.stored s1 (f * 3 + 1) (.int .i64 (xsn : Int))
  obtain ⟨s3, t3⟩ := World.ownsRow.stored s2 (f * 3 + 2) (.bool xt)
  rw [flat_set3 (.slice xa xn xc, ⟨xd, xsn, xt⟩) xs f hf] at s3
  have hb9 := (World.ownsRow.lt H4.out.1 b rfl).1
  have hB : w.heap.size ≤ b := Nat.le_trans H4.out.2.2.2 hb9
  have k1 := H4.out.2.2.1.grown t1 H4.out.2.2.1.size fun q e => by rw [← Option.some.inj e]; exact hB
  have k2 := k1.grown t2 k1.size fun q e => by rw [← Option.some.inj e]; exact hB
  have k3 := k2.grown t3 k2.size fun q e => by rw [← Option.some.inj e]; exact hB
  exact ⟨_, rfl, (Rw.of (B := W1.heap.size) (by rw [List.length_set]; exact s3)).mono fun q hq => Nat.le_trans H4.out.2.2.2 hq, k3⟩
theorem rkinto_any (n lo hi : Int) (w : World) : Calls Try.prog 78 #[.int .i64 n, .int .i64 lo, .int .i64 hi] w fun e w' => e = .returned (.int .i64 (if n < lo then lo else if n > hi then hi else n)) ∧ w' = w := by
  by_cases h1 : n < lo
  · rw [if_pos h1]
    go_enter Try.func78, Try.ntmps78
    go_wp2
    go_returns
    exact ⟨rfl, rfl⟩
  · rw [if_neg h1]
    by_cases h2 : n > hi
    · rw [if_pos h2]
      have d2 : (hi < n) = True := eq_true h2
      go_enter Try.func78, Try.ntmps78
      go_wp2
      go_returns
      exact ⟨rfl, rfl⟩
    · rw [if_neg h2]
      have d2 : (hi < n) = False := eq_false h2
      go_enter Try.func78, Try.ntmps78
      go_wp2
      go_returns
      exact ⟨rfl, rfl⟩
theorem Rd.into_wth (n hi : Int) (h : 0 ≤ hi) : (if n < 0 then 0 else if n > hi then hi else n) = Dk.wth n hi := by
  unfold Dk.wth
  by_cases h1 : n < 0
  · rw [if_pos h1]
    omega
  · rw [if_neg h1]
    by_cases h2 : n > hi
    · rw [if_pos h2]
      omega
    · rw [if_neg h2]
      omega
set_option maxRecDepth 100000 in
set_option maxHeartbeats 4000000 in
theorem rkpath_any (s : ByteArray) (w : World) (hs : s.size ≤ maxLen) : Calls Try.prog 66 #[.string s] w fun e w' => e = .returned (.bool (Dk.isNm s.data.toList)) ∧ w' = w := by
  obtain ⟨l, hl⟩ : ∃ l, l = s.data.toList := ⟨_, rfl⟩
  have hsz : s.size = l.length := by rw [hl]; rfl
  rw [← hl]
  have HL : Hid (l = s.data.toList ∧ s.size = l.length) := ⟨hl, hsz⟩
  unfold maxLen at hs
  clear hl hsz
  go_enter Try.func66, Try.ntmps66
  go_wp2
  go_loopw [3] (fun i wr => ∃ k : Nat, k ≤ s.size ∧ i = .int .i64 (k : Int) ∧ (l.take k).all Dk.okc = true ∧ wr = w) (fun i _ => s.size - (intOf i).toNat)
  case atStart => exact ⟨0, Nat.zero_le _, rfl, rfl, rfl⟩
  case round =>
    obtain ⟨k, hk, rfl, hall, rfl⟩ := hrel
    have HA : Hid ((l.take k).all Dk.okc = true) := hall
    clear hall
    by_cases hlt : k < s.size
    · have hkl : k < l.length := by have := HL.out; omega
      have hcl : l[k] = s[k] := by
        have h9 := HL.out.1
        subst h9
        rfl
      have HC : Hid (l.take (k + 1) = l.take k ++ [s[k]]) := by
        rw [← hcl]
        exact List.take_succ_eq_append_getElem hkl
      have HM : Hid (s[k] ∈ l) := by rw [← hcl]; exact List.getElem_mem hkl
      have HBAD : Hid (Dk.okc s[k] = false → Dk.isNm l = false) := fun h => by
        show Dk.isNm l = false
        unfold Dk.isNm
        have e : l.all Dk.okc = false := by
          rw [List.all_eq_false]
          exact ⟨_, HM.out, by rw [h]; simp⟩
        rw [e, Bool.and_false]
      clear hcl hkl
      by_cases h1 : s[k].toNat < 33
      · have d1 : ((s[k].toNat : Int) < 33) = True := by simp; omega
        have HE : Hid (Dk.isNm l = false) := HBAD.out (by unfold Dk.okc; exact decide_eq_false (by omega))
        clear h1
        go_wp2
        go_returns
        exact ⟨by rw [HE.out]; rfl, rfl⟩
      · have d1 : ((s[k].toNat : Int) < 33) = False := by simp; omega
        by_cases h2 : 126 < s[k].toNat
        · have d2 : (126 < (s[k].toNat : Int)) = True := by simp; omega
          have HE : Hid (Dk.isNm l = false) := HBAD.out (by unfold Dk.okc; exact decide_eq_false (by omega))
          clear h1 h2
          go_wp2
          go_returns
          exact ⟨by rw [HE.out]; rfl, rfl⟩
        · have d2 : (126 < (s[k].toNat : Int)) = False := by simp; omega
          by_cases h3 : s[k].toNat = 47
          · have d3 : ((s[k].toNat : Int) == 47) = true := by rw [h3]; rfl
            have HE : Hid (Dk.isNm l = false) := HBAD.out (by unfold Dk.okc; exact decide_eq_false (by omega))
            clear h1 h2 h3
            go_wp2
            go_returns
            exact ⟨by rw [HE.out]; rfl, rfl⟩
          · have d3 : ((s[k].toNat : Int) == 47) = false := by simp only [beq_eq_false_iff_ne, ne_eq]; omega
            have HE : Hid ((l.take (k + 1)).all Dk.okc = true) := by
              have h9 := HA.out
              show List.all _ _ = true
              rw [HC.out, List.all_append, h9]
              simp only [List.all_cons, List.all_nil, Bool.and_true, Bool.true_and]
              unfold Dk.okc
              exact decide_eq_true ⟨by omega, by omega, h3⟩
            clear h1 h2 h3
            go_wp2
            go_roundw
            case rel => exact ⟨k + 1, by omega, by go_num, HE.out, trivial⟩
            case measure => simp [intOf]; omega
    · have HE : Hid (Dk.isNm l = decide (l ≠ [] ∧ l.length ≤ 40)) := by
        have h9 := HL.out
        have h8 := HA.out
        rw [List.take_of_length_le (by omega)] at h8
        show Dk.isNm l = _
        unfold Dk.isNm
        rw [h8, Bool.and_true]
      by_cases h0 : s.size = 0
      · have d0 : (1 ≤ (s.size : Int)) = False := by simp; omega
        have HF : Hid (Dk.isNm l = false) := by
          show Dk.isNm l = false
          rw [HE.out]
          exact decide_eq_false fun h => h.1 (List.eq_nil_of_length_eq_zero (by have := HL.out.2; omega))
        clear h0
        go_wp2
        go_returns
        exact ⟨by rw [HF.out]; rfl, rfl⟩
      · have d0 : (1 ≤ (s.size : Int)) = True := by simp; omega
        by_cases h4 : s.size ≤ 40
        · have d4 : ((s.size : Int) ≤ 40) = True := by simp; omega
          have HF : Hid (Dk.isNm l = true) := by
            show Dk.isNm l = true
            rw [HE.out]
            exact decide_eq_true ⟨fun e => by have := HL.out.2; rw [e] at this; exact h0 this, by have := HL.out.2; omega⟩
          clear h0 h4
          go_wp2
          go_returns
          exact ⟨by rw [HF.out]; rfl, rfl⟩
        · have d4 : ((s.size : Int) ≤ 40) = False := by simp; omega
          have HF : Hid (Dk.isNm l = false) := by
            show Dk.isNm l = false
            rw [HE.out]
            exact decide_eq_false fun h => by have := HL.out.2; omega
          clear h0 h4
          go_wp2
          go_returns
          exact ⟨by rw [HF.out]; rfl, rfl⟩
theorem Rd.tkn_take (th : List Th) (k : Nat) (h : k < th.length) : tkn (th.take (k + 1)) = tkn (th.take k) + if th[k].there = true then th[k].data.length else 0 := by
  unfold tkn
  rw [List.take_succ_eq_append_getElem h, List.map_append, List.sum_append]
  simp
theorem Rd.tkn_le (th : List Th) (k : Nat) : tkn (th.take k) ≤ tkn th := by
  unfold tkn
  rw [List.map_take]
  exact sum_take _ _
set_option maxRecDepth 100000 in
set_option maxHeartbeats 4000000 in
theorem rktaken_any (ok : Nat → Prop) (xs : List (Value × Th)) (nm la : Dk.Nm) (ch : List RCh) (tv nv lv cv : Value) (w : World) (h : SM ok w xs nm la ch tv nv lv cv) (hn : tkn (xs.map (·.2)) ≤ 1000000000) :
    Calls Try.prog 52 #[.agg #[tv, nv, lv, cv]] w fun e w' => e = .returned (.int .i64 (tkn (xs.map (·.2)) : Int)) ∧ Below w.heap.size w w' := by
  have HV : Hid (∀ W, Below w.heap.size w W → SM ok W xs nm la ch tv nv lv cv) := fun W hW => h.kept hW
  obtain ⟨a1, c1, e1, h1, h2, h3⟩ := row_at h.rt.row
  subst e1
  obtain ⟨a2, c2, rfl⟩ := rw_slice h.rn
  obtain ⟨a3, c3, rfl⟩ := rw_slice h.rl
  obtain ⟨a4, c4, rfl⟩ := rw_slice h.rc
  unfold maxLen at h2
  have b1 := up0 w (.cells #[.slice a1 xs.length c1, .slice a2 nm.length c2, .slice a3 la.length c3, .slice a4 ch.length c4] 52)
  have l1 := lb_new w [.slice a1 xs.length c1, .slice a2 nm.length c2, .slice a3 la.length c3, .slice a4 ch.length c4] 52
  have x0 := l1.cell 0 _ rfl
  have HB : Hid (Below w.heap.size w (w.alloc (.cells #[.slice a1 xs.length c1, .slice a2 nm.length c2, .slice a3 la.length c3, .slice a4 ch.length c4] 52))) := b1
  have HT : Hid (tkn (xs.map (·.2)) ≤ 1000000000) := hn
  clear h b1 l1 hn
  go_enter Try.func52, Try.ntmps52
  go_upto_region 3 with fail
  generalize w.alloc (.cells #[.slice a1 xs.length c1, .slice a2 nm.length c2, .slice a3 la.length c3, .slice a4 ch.length c4] 52) = W1 at *
  generalize w.heap.size = p at x0
  go_loopw [3, 4] (fun n i wr => ∃ k : Nat, k ≤ xs.length ∧ i = .int .i64 (k : Int) ∧ n = .int .i64 (tkn ((xs.map (·.2)).take k) : Int) ∧ wr = W1) (fun _ i _ => xs.length - (intOf i).toNat)
  case atStart => exact ⟨0, Nat.zero_le _, rfl, rfl, rfl⟩
  case round =>
    obtain ⟨k, hk, rfl, rfl, rfl⟩ := hrel
    by_cases hlt : k < xs.length
    · obtain ⟨b, hb⟩ := h3 (List.ne_nil_of_length_pos (by omega))
      subst hb
      have hS := HV.out wr HB.out
      have y0 := row_cell enT_len hS.rt.row k hlt 0 (by decide)
      have y2 := row_cell enT_len hS.rt.row k hlt 2 (by decide)
      simp only [enT, List.getElem?_cons_zero, List.getElem?_cons_succ, Nat.add_zero] at y0 y2
      obtain ⟨oa, oc, ev, -⟩ := Mg.row_shape (hS.od _ (List.getElem_mem hlt)).1.row
      rw [ev] at y0
      have HK : Hid (tkn ((xs.map (·.2)).take (k + 1)) = tkn ((xs.map (·.2)).take k) + if xs[k].2.there = true then xs[k].2.data.length else 0) := by
        have h9 := Rd.tkn_take (xs.map (·.2)) k (by rw [List.length_map]; exact hlt)
        rw [List.getElem_map] at h9
        exact h9
      have HM : Hid (tkn ((xs.map (·.2)).take (k + 1)) ≤ 1000000000) := Nat.le_trans (Rd.tkn_le _ _) HT.out
      clear hS ev
      generalize xs[k].2.data.length = dl at *
      cases hth : xs[k].2.there with
      | true =>
        rw [hth] at y2 HK
        have hK := HK.out
        have hM := HM.out
        rw [if_pos rfl] at hK
        have hw : IntKind.i64.wrap ((tkn ((xs.map (·.2)).take k) : Int) + (dl : Int)) = (tkn ((xs.map (·.2)).take k) : Int) + (dl : Int) := IntWalk.i64_in _ (by omega)
        have HR : Hid ((tkn ((xs.map (·.2)).take k) : Int) + (dl : Int) = (tkn ((xs.map (·.2)).take (k + 1)) : Int)) := by
          show _ = _
          omega
        clear hK hM hth
        generalize tkn ((xs.map (·.2)).take k) = t0 at *
        go_wp2_with fail
        go_roundw
        case rel => exact ⟨k + 1, by omega, by go_num, by rw [HR.out], trivial⟩
        case measure => simp [intOf]; omega
      | false =>
        rw [hth] at y2 HK
        have HR : Hid (tkn ((xs.map (·.2)).take (k + 1)) = tkn ((xs.map (·.2)).take k)) := by
          have hK := HK.out
          rw [if_neg (by simp)] at hK
          exact hK
        clear hth
        go_wp2_with fail
        go_roundw
        case rel => exact ⟨k + 1, by omega, by go_num, by rw [HR.out], trivial⟩
        case measure => simp [intOf]; omega
    · have HE : Hid ((xs.map (·.2)).take k = xs.map (·.2)) := List.take_of_length_le (by rw [List.length_map]; omega)
      go_wp2_with fail
      go_returns
      rw [HE.out]
      exact ⟨rfl, HB.out⟩
end Go.Proofs.Ytjepeeopjjnglab

/-
  The document's disk: lasting.
-/
namespace Go.Proofs.Ytjepeeopjjnglab
open Go Go.RowKit Go.ChangeShapes
open Wb
open Rd
namespace Rd
/-- the things behind a SyncDir -/
def lsx (xs : List (Value × Th)) (nm : Dk.Nm) : List (Value × Th) := xs.mapIdx fun k x => if (nm.any fun p => p.2 == k) = true then (x.1, ⟨x.2.data, x.2.syn, true⟩) else (.slice none 0 0, ⟨[], 0, false⟩)
theorem lsx_len (xs : List (Value × Th)) (nm : Dk.Nm) : (lsx xs nm).length = xs.length := by unfold lsx; rw [List.length_mapIdx]
theorem lsx_take (xs : List (Value × Th)) (nm : Dk.Nm) (k : Nat) (h : k < xs.length) : (lsx xs nm).take (k + 1) = (lsx xs nm).take k ++ [if (nm.any fun p => p.2 == k) = true then (xs[k].1, ⟨xs[k].2.data, xs[k].2.syn, true⟩) else (.slice none 0 0, ⟨[], 0, false⟩)] := by
  rw [List.take_succ_eq_append_getElem (by rw [lsx_len]; exact h)]
  unfold lsx
  rw [List.getElem_mapIdx]
theorem lsx_th (xs : List (Value × Th)) (nm : Dk.Nm) : (lsx xs nm).map (·.2) = (xs.map (·.2)).mapIdx (fun k t => if (nm.any fun p => p.2 == k) = true then (⟨t.data, t.syn, true⟩ : Th) else ⟨[], 0, false⟩) := by
  refine List.ext_getElem (by simp [lsx]) fun i h1 h2 => ?_
  rw [List.getElem_map, List.getElem_mapIdx, List.getElem_map]
  simp only [lsx, List.getElem_mapIdx]
  split <;> rfl
theorem any_take (nm : Dk.Nm) (k j : Nat) (h : j < nm.length) : ((nm.take (j + 1)).any fun p => p.2 == k) = (((nm.take j).any fun p => p.2 == k) || nm[j].2 == k) := by
  rw [List.take_succ_eq_append_getElem h, List.any_append]
  simp
end Rd
set_option maxRecDepth 100000 in
set_option maxHeartbeats 8000000 in
theorem rklasting_any (ok : Nat → Prop) (xs : List (Value × Th)) (nm la : Dk.Nm) (ch : List RCh) (tv nv lv cv : Value) (w : World) (h : SM ok w xs nm la ch tv nv lv cv) (hxl : xs.length ≤ 300000000) :
    Calls Try.prog 91 #[.agg #[tv, nv, lv, cv]] w fun e w' => ∃ tv', e = .returned (.agg #[tv', nv, nv, .slice none 0 0]) ∧ Rw (w.heap.size ≤ ·) w' 98 3 enT tv' (lsx xs nm) ∧ Below w.heap.size w w' := by
  have HV : Hid (∀ W, Below w.heap.size w W → SM ok W xs nm la ch tv nv lv cv) := fun W hW => h.kept hW
  obtain ⟨a1, c1, e1, h1, h2, h3⟩ := row_at h.rt.row
  subst e1
  obtain ⟨a2, c2, e2, n1, n2, n3⟩ := row_at h.rn.row
  subst e2
  obtain ⟨a3, c3, rfl⟩ := rw_slice h.rl
  obtain ⟨a4, c4, rfl⟩ := rw_slice h.rc
  unfold maxLen at h2 n2
  clear h
  go_enter Try.func91, Try.ntmps91
  go_upto_region 3 with fail
  obtain ⟨l0, l2, b1⟩ := lb_new2 w [.slice a1 xs.length c1, .slice a2 nm.length c2, .slice a3 la.length c3, .slice a4 ch.length c4] [.slice none 0 0, .slice none 0 0, .slice none 0 0, .slice none 0 0] 52 52
  obtain ⟨W1, hW1⟩ : ∃ W, W = (w.alloc (.cells #[.slice a1 xs.length c1, .slice a2 nm.length c2, .slice a3 la.length c3, .slice a4 ch.length c4] 52)).alloc (.cells #[.slice none 0 0, .slice none 0 0, .slice none 0 0, .slice none 0 0] 52) := ⟨_, rfl⟩
  rw [← hW1]
  obtain ⟨p0, hp0⟩ : ∃ p, p = w.heap.size := ⟨_, rfl⟩
  obtain ⟨p2, hp2⟩ : ∃ p, p = w.heap.size + 1 := ⟨_, rfl⟩
  rw [← hp2, ← hp0]
  have HB : Hid (LB W1 p0 52 [.slice a1 xs.length c1, .slice a2 nm.length c2, .slice a3 la.length c3, .slice a4 ch.length c4] ∧ LB W1 p2 52 [.slice none 0 0, .slice none 0 0, .slice none 0 0, .slice none 0 0] ∧ Below w.heap.size w W1 ∧ w.heap.size ≤ p0 ∧ w.heap.size ≤ p2) := by
    rw [hW1, hp0, hp2]
    exact ⟨l0, l2, b1, Nat.le_refl _, by omega⟩
  have HN : Hid (p0 ≠ p2) := by
    show p0 ≠ p2
    omega
  clear l0 l2 b1 hW1 hp0 hp2
  go_loopw [3, 4] (fun o i wr => ∃ k : Nat, k ≤ xs.length ∧ i = .int .i64 (k : Int) ∧ wr.ownsRow W1.heap.size 98 3 o ((lsx xs nm).take k).length (((lsx xs nm).take k).flatMap enT) ∧ Below W1.heap.size W1 wr) (fun _ i _ => xs.length - (intOf i).toNat)
  case atStart => exact ⟨0, Nat.zero_le _, rfl, World.ownsRow_nil _ _ _ _, Below.refl _ _⟩
  case round =>
    obtain ⟨k, hk, rfl, ho, hb⟩ := hrel
    have HO : Hid (wr.ownsRow W1.heap.size 98 3 u3 ((lsx xs nm).take k).length (((lsx xs nm).take k).flatMap enT) ∧ Below W1.heap.size W1 wr) := ⟨ho, hb⟩
    have x0 := (HB.out.1.kept hb).cell 0 _ rfl
    have HSM := HV.out wr (andThen HB.out.2.2.1 hb)
    clear ho hb
    by_cases hlt : k < xs.length
    · obtain ⟨b, hbe⟩ := h3 (List.ne_nil_of_length_pos (by omega))
      subst hbe
      have y0 := row_cell enT_len HSM.rt.row k hlt 0 (by decide)
      have y1 := row_cell enT_len HSM.rt.row k hlt 1 (by decide)
      have y2 := row_cell enT_len HSM.rt.row k hlt 2 (by decide)
      simp only [enT, List.getElem?_cons_zero, List.getElem?_cons_succ, Nat.add_zero] at y0 y1 y2
      obtain ⟨oa, oc, ev, -⟩ := Mg.row_shape (HSM.od _ (List.getElem_mem hlt)).1.row
      have HTK : Hid ((lsx xs nm).take (k + 1) = (lsx xs nm).take k ++ [if (nm.any fun p => p.2 == k) = true then (xs[k].1, ⟨xs[k].2.data, xs[k].2.syn, true⟩) else (.slice none 0 0, ⟨[], 0, false⟩)]) := lsx_take xs nm k hlt
      rw [ev] at y0 HTK
      clear HSM ev
      generalize xs[k].2.data = xd at *
      generalize xs[k].2.syn = xn at *
      generalize xs[k].2.there = xt at *
      go_upto_region 8 with fail
      have b5 := up0 wr (.cells #[.slice oa xd.length oc, .int .i64 (xn : Int), .bool false] 98)
      have l5 := lb_new wr [.slice oa xd.length oc, .int .i64 (xn : Int), .bool false] 98
      obtain ⟨W5, hW5⟩ : ∃ W, W = wr.alloc (.cells #[.slice oa xd.length oc, .int .i64 (xn : Int), .bool false] 98) := ⟨_, rfl⟩
      rw [← hW5]
      obtain ⟨p5, hp5⟩ : ∃ p, p = wr.heap.size := ⟨_, rfl⟩
      rw [← hp5]
      have H5 : Hid (LB W5 p5 98 [.slice oa xd.length oc, .int .i64 (xn : Int), .bool false] ∧ Below wr.heap.size wr W5 ∧ wr.heap.size ≤ p5) := by
        rw [hW5, hp5]
        exact ⟨l5, b5, Nat.le_refl _⟩
      have HWR : Hid (∀ W, Below wr.heap.size wr W → Below W1.heap.size W1 W ∧ W.ownsRow W1.heap.size 98 3 u3 ((lsx xs nm).take k).length (((lsx xs nm).take k).flatMap enT)) := fun W hW => ⟨andThen HO.out.2 hW, Mg.row_kept HO.out.1 hW⟩
      clear b5 l5 hW5 hp5 y0 y1 y2 x0 HO
      obtain ⟨Wo, hWo⟩ : ∃ x, x = wr := ⟨_, rfl⟩
      subst hWo
      go_loopw [6] (fun i wx => ∃ j : Nat, j ≤ nm.length ∧ i = .int .i64 (j : Int) ∧ LB wx p5 98 [.slice oa xd.length oc, .int .i64 (xn : Int), .bool ((nm.take j).any fun p => p.2 == k)] ∧ Below Wo.heap.size Wo wx) (fun i _ => nm.length - (intOf i).toNat)
      case atStart => exact ⟨0, Nat.zero_le _, rfl, H5.out.1, H5.out.2.1⟩
      case round =>
        obtain ⟨j, hj, rfl, hL, hbx⟩ := hrel
        have HQ : Hid (LB wr p5 98 [.slice oa xd.length oc, .int .i64 (xn : Int), .bool ((nm.take j).any fun p => p.2 == k)] ∧ Below Wo.heap.size Wo wr) := ⟨hL, hbx⟩
        have x1 := (HB.out.1.kept (HWR.out wr hbx).1).cell 1 _ rfl
        have t0 := hL.cell 0 _ rfl
        have t1 := hL.cell 1 _ rfl
        have t2 := hL.cell 2 _ rfl
        have f0 := hL.free 0
        have f1 := hL.free 1
        have f2 := hL.free 2
        clear hL hbx
        by_cases hjt : j < nm.length
        · obtain ⟨nb, hnb⟩ := n3 (List.ne_nil_of_length_pos (by omega))
          subst hnb
          have HSM := (HV.out wr (andThen HB.out.2.2.1 (HWR.out wr HQ.out.2).1)).rn
          obtain ⟨-, y1⟩ := HSM.cells j hjt
          have HAN : Hid (((nm.take (j + 1)).any fun p => p.2 == k) = (((nm.take j).any fun p => p.2 == k) || nm[j].2 == k)) := any_take nm k j hjt
          generalize nm[j].2 = f9 at *
          clear HSM
          by_cases e : f9 = k
          · have d1 : ((f9 : Int) == (k : Int)) = true := by rw [e]; exact beq_self_eq_true _
            have HT : Hid (((nm.take (j + 1)).any fun p => p.2 == k) = true) := by
              show List.any _ _ = true
              rw [HAN.out, e]
              simp
            clear e
            go_wp2_with fail
            go_roundw
            case rel =>
              refine ⟨j + 1, by omega, by go_num, ?_, ?_⟩
              · rw [HT.out]
                exact HQ.out.1.set 2 (.bool true)
              · exact HQ.out.2.setCell (p := ⟨p5, 2, none⟩) H5.out.2.2 (.bool true)
            case measure => simp [intOf]; omega
          · have d1 : ((f9 : Int) == (k : Int)) = false := by
              rw [beq_eq_false_iff_ne]
              omega
            have HT : Hid (((nm.take (j + 1)).any fun p => p.2 == k) = (nm.take j).any fun p => p.2 == k) := by
              show List.any _ _ = _
              rw [HAN.out, show (f9 == k) = false from beq_eq_false_iff_ne.2 e, Bool.or_false]
            clear e
            go_wp2_with fail
            go_roundw
            case rel => exact ⟨j + 1, by omega, by go_num, by rw [HT.out]; exact HQ.out.1, HQ.out.2⟩
            case measure => simp [intOf]; omega
        · have e9 : nm.take j = nm := List.take_of_length_le (by omega)
          rw [e9] at HQ t2
          clear e9
          cases ha : (nm.any fun p => p.2 == k) with
          | true =>
            rw [ha] at t2 HQ HTK
            have HIF : Hid ((if true = true then ((.slice oa xd.length oc : Value), (⟨xd, xn, true⟩ : Th)) else (.slice none 0 0, ⟨[], 0, false⟩)) = (.slice oa xd.length oc, ⟨xd, xn, true⟩)) := if_pos rfl
            clear ha
            have b1 := up0 wr (.cells #[.slice oa xd.length oc, .int .i64 (xn : Int), .bool true] 98)
            obtain ⟨v', W7, hr, g3, -, g4⟩ := row_app1 tiT enT_len (Mg.row_kept (HWR.out wr HQ.out.2).2 b1) (.slice oa xd.length oc, ⟨xd, xn, true⟩) wr.heap.size 1 (enT_one ⟨_, _, _, rfl⟩) (lb_new wr [.slice oa xd.length oc, .int .i64 (xn : Int), .bool true] 98) (by rw [List.length_take]; omega) (Nat.le_trans (HWR.out wr HQ.out.2).1.size b1.size) 48
            have HX : Hid (W7.ownsRow W1.heap.size 98 3 v' ((lsx xs nm).take (k + 1)).length (((lsx xs nm).take (k + 1)).flatMap enT) ∧ Below W1.heap.size W1 W7) := ⟨by rw [HTK.out, HIF.out]; exact g3, (andThen (HWR.out wr HQ.out.2).1 b1).trans g4⟩
            clear b1 g3 g4
            go_wp2_with (at_builtin; refine wpList_appRun rfl (.tmp 40) (.tmp 42) 48 rfl rfl rfl hr ?_)
            go_roundw
            case rel => exact ⟨k + 1, by omega, by go_num, HX.out.1, HX.out.2⟩
            case measure => simp [intOf]; omega
          | false =>
            rw [ha] at t2 HQ HTK
            have HIF : Hid ((if false = true then ((.slice oa xd.length oc : Value), (⟨xd, xn, true⟩ : Th)) else (.slice none 0 0, ⟨[], 0, false⟩)) = (.slice none 0 0, ⟨[], 0, false⟩)) := if_neg (by simp)
            clear ha
            go_upto_region 14 with fail
            have LZ := ((HQ.out.1.set 0 (.slice none 0 0)).set 1 (.int .i64 0)).set 2 (.bool false)
            have bz := ((HQ.out.2.setCell (p := ⟨p5, 0, none⟩) H5.out.2.2 (.slice none 0 0)).setCell (p := ⟨p5, 1, none⟩) H5.out.2.2 (.int .i64 0)).setCell (p := ⟨p5, 2, none⟩) H5.out.2.2 (.bool false)
            clear t0 t1 t2 f0 f1 f2 x1
            generalize ((wr.setCell ⟨p5, 0, none⟩ (.slice none 0 0)).setCell ⟨p5, 1, none⟩ (.int .i64 0)).setCell ⟨p5, 2, none⟩ (.bool false) = W6 at *
            have t0 := LZ.cell 0 _ rfl
            have t1 := LZ.cell 1 _ rfl
            have t2 := LZ.cell 2 _ rfl
            have b1 := up0 W6 (.cells #[.slice none 0 0, .int .i64 (0 : Int), .bool false] 98)
            obtain ⟨v', W7, hr, g3, -, g4⟩ := row_app1 tiT enT_len (Mg.row_kept (HWR.out W6 bz).2 b1) (.slice none 0 0, ⟨[], 0, false⟩) W6.heap.size 1 (enT_one ⟨_, _, _, rfl⟩) (lb_new W6 [.slice none 0 0, .int .i64 (0 : Int), .bool false] 98) (by rw [List.length_take]; omega) (Nat.le_trans (HWR.out W6 bz).1.size b1.size) 48
            have HX : Hid (W7.ownsRow W1.heap.size 98 3 v' ((lsx xs nm).take (k + 1)).length (((lsx xs nm).take (k + 1)).flatMap enT) ∧ Below W1.heap.size W1 W7) := ⟨by rw [HTK.out, HIF.out]; exact g3, (andThen (HWR.out W6 bz).1 b1).trans g4⟩
            clear b1 g3 g4
            go_wp2_with (at_builtin; refine wpList_appRun rfl (.tmp 40) (.tmp 42) 48 rfl rfl rfl hr ?_)
            go_roundw
            case rel => exact ⟨k + 1, by omega, by go_num, HX.out.1, HX.out.2⟩
            case measure => simp [intOf]; omega
    · have HE : Hid ((lsx xs nm).take k = lsx xs nm) := List.take_of_length_le (by rw [lsx_len]; omega)
      have L0 := HB.out.1.kept HO.out.2
      have L2 := HB.out.2.1.kept HO.out.2
      have x1 := L0.cell 1 _ rfl
      have x2 := L0.cell 2 _ rfl
      have x3 := L0.cell 3 _ rfl
      have f0 := L0.free 0
      have f2 := L0.free 2
      have f3 := L0.free 3
      have z0 := L2.cell 0 _ rfl
      have z1 := L2.cell 1 _ rfl
      have z2 := L2.cell 2 _ rfl
      have z3 := L2.cell 3 _ rfl
      have g0 := L2.free 0
      have g1 := L2.free 1
      have g2 := L2.free 2
      have g3 := L2.free 3
      have HL : Hid (LB wr p2 52 [.slice none 0 0, .slice none 0 0, .slice none 0 0, .slice none 0 0]) := L2
      obtain ⟨oa, ok9, e9, -⟩ := row_at HO.out.1
      rw [HE.out] at e9
      subst e9
      have n02 : (p0 = p2) = False := eq_false HN.out
      have n20 : (p2 = p0) = False := eq_false (Ne.symm HN.out)
      clear L0 L2 HSM
      go_wp2_with fail
      have LZ := ((((((HL.out.other ⟨p0, 0, none⟩ (.slice oa (lsx xs nm).length ok9) (Ne.symm HN.out)).other ⟨p0, 2, none⟩ (.slice a2 nm.length c2) (Ne.symm HN.out)).other ⟨p0, 3, none⟩ (.slice none 0 0) (Ne.symm HN.out)).set 0 (.slice oa (lsx xs nm).length ok9)).set 1 (.slice a2 nm.length c2)).set 2 (.slice a2 nm.length c2)).set 3 (.slice none 0 0)
      refine bodyPost_ret (results_cell_mid rfl _ _ p2 [.slice oa (lsx xs nm).length ok9, .slice a2 nm.length c2, .slice a2 nm.length c2, .slice none 0 0] _ rfl LZ.range Try.underlying52 rfl (by kernel_rfl)) rfl ?_
      have far : ∀ q, q ≠ p0 → q ≠ p2 → (((((((wr.setCell ⟨p0, 0, none⟩ (.slice oa (lsx xs nm).length ok9)).setCell ⟨p0, 2, none⟩ (.slice a2 nm.length c2)).setCell ⟨p0, 3, none⟩ (.slice none 0 0)).setCell ⟨p2, 0, none⟩ (.slice oa (lsx xs nm).length ok9)).setCell ⟨p2, 1, none⟩ (.slice a2 nm.length c2)).setCell ⟨p2, 2, none⟩ (.slice a2 nm.length c2)).setCell ⟨p2, 3, none⟩ (.slice none 0 0)).heap[q]? = wr.heap[q]? := fun q h1 h2 => by
        rw [set_other _ _ _ _ h2, set_other _ _ _ _ h2, set_other _ _ _ _ h2, set_other _ _ _ _ h2, set_other _ _ _ _ h1, set_other _ _ _ _ h1, set_other _ _ _ _ h1]
      have h9 := HO.out.1
      rw [HE.out] at h9
      refine ⟨_, rfl, ?_, ?_⟩
      · exact rw_fin far (Rw.of h9) HB.out.1.lt HB.out.2.1.lt HB.out.2.2.1.size
      · refine below_fin far ?_ (andThen HB.out.2.2.1 HO.out.2) HB.out.2.2.2.1 HB.out.2.2.2.2
        simp only [size_set1, os_set, tape_set, output_set, and_self]
end Go.Proofs.Ytjepeeopjjnglab
